/-
  The reader's named by a contract, over that of expr. No condition.
-/
import Derived.Test.YtgeigegaoadmfaaDoorBKid
namespace Go.Proofs.YtgeigegaoadmfaaDoor
open Go.RowKit

theorem Box6.put0 {w : World} {B : Nat} {t : TypeId} {a b c d e f : Value} (h : Box6 w B t a b c d e f) (x : Value) : Box6 (w.setCell ⟨B, 0, none⟩ x) B t x b c d e f := by
  unfold Box6 at h ⊢
  simp [World.setCell, Array.getElem?_modify, h]
theorem Box6.put4 {w : World} {B : Nat} {t : TypeId} {a b c d e f : Value} (h : Box6 w B t a b c d e f) (x : Value) : Box6 (w.setCell ⟨B, 4, none⟩ x) B t a b c d x f := by
  unfold Box6 at h ⊢
  simp [World.setCell, Array.getElem?_modify, h]

set_option maxHeartbeats 1600000 in
set_option maxRecDepth 100000 in
theorem pnamed_any {E : Int} {b : Nat} {ao : Option Addr} {n c k : Nat} {ts : List Tk} {t : Tk} (ht : ts[k]? = some t) (h1 : t.kind = 1) (hz : t.num = 0 ∧ t.id = 0 ∧ t.text ≠ []) (hU : ∀ k', k + 1 + 1 ≤ k' → Pt E (.row 1) 14 b ao n c ts k') (y : ByteArray) (hy : y.data.toList = t.text)
    (w : World) (h : Rst w b ao n c ts k) : Calls Tryd.prog 78 #[.pointer (some ⟨b, 0, none⟩), .agg #[.int .i64 0, .string y, .int .i64 0, .int .u64 0, .slice none 0 0, .int .i64 t.pos]] w (Rp E .atom b ao n c ts k w) := by
  obtain ⟨W0, m3, hW0, hm3, hx0, bW0, _, hB0, hlt0⟩ := lay6 (Below.refl _ w) (Nat.le_refl _) 28 (.int .i64 0) (.string y) (.int .i64 0) (.int .u64 0) (.slice none 0 0) (.int .i64 t.pos)
  obtain ⟨W1, m4, hW1, hm4, hx1, bW1, b1, hB1, hlt1⟩ := lay6 bW0 bW0.size 28 (.int .i64 0) (.string ⟨#[]⟩) (.int .i64 0) (.int .u64 0) (.slice none 0 0) (.int .i64 0)
  have hlb := h.box.lt
  have hkn : k < n := by have := (List.getElem?_eq_some_iff.1 ht).1; have := h.len; omega
  have hki : (k : Int) ≤ 1024 := by have := h.few; omega
  have hm3b : ¬ m3 = b := by omega
  have hbm3 : ¬ b = m3 := by omega
  have hm4b : ¬ m4 = b := by omega
  have hm34 : ¬ m3 = m4 := by omega
  have hm43 : ¬ m4 = m3 := by omega
  have r1 := h.below bW1
  obtain ⟨c0, c1, f1⟩ := r1.cells
  have x3 := hx0.below b1
  obtain ⟨d0, d1, d2, d3, d4, d5⟩ := x3.cells
  obtain ⟨e0, e1, e2, e3, e4, e5⟩ := x3.thaw
  have hsg : ((W1.setCell ⟨b, 1, none⟩ (.int .i64 ((k + 1 : Nat) : Int))).setCell ⟨m3, 0, none⟩ (.int .i64 1)).heap.size = W1.heap.size := by simp [World.size_setCell]
  have r2 := (r1.next hkn).one (g := m3) (by omega) 0 (.int .i64 1)
  have x2 := And.intro ((x3.one hm3b 1 (.int .i64 ((k + 1 : Nat) : Int))).put0 (.int .i64 1)) ((hx1.one hm4b 1 (.int .i64 ((k + 1 : Nat) : Int))).one hm43 0 (.int .i64 1))
  have t1 : Tn b w (W1.setCell ⟨b, 1, none⟩ (.int .i64 ((k + 1 : Nat) : Int))) := (Tn.of bW1).setCell (p := ⟨b, 1, none⟩) (.inl rfl) _
  have t2 := t1.one (g := m3) (by omega) 0 (.int .i64 1)
  have hc : ((k + 1 : Nat) : Int) = (k : Int) + 1 := by omega
  rw [hc] at r2 x2 t2 hsg
  obtain ⟨W2, hW2⟩ : ∃ W2, (W1.setCell ⟨b, 1, none⟩ (.int .i64 ((k : Int) + 1))).setCell ⟨m3, 0, none⟩ (.int .i64 1) = W2 := ⟨_, rfl⟩
  rw [hW2] at r2 x2 t2 hsg
  have H : Hid (Rst W2 b ao n c ts (k + 1) ∧ Tn b w W2 ∧ W2.heap.size = W1.heap.size ∧ w.heap.size = m3) := ⟨r2, t2, hsg, hm3⟩
  have HX : Hid (_ ∧ _) := x2
  have HT : Hid (ts[k]? = some t ∧ t.kind = 1 ∧ t.num = 0 ∧ t.id = 0 ∧ t.text ≠ [] ∧ y.data.toList = t.text) := ⟨ht, h1, hz.1, hz.2.1, hz.2.2, hy⟩
  have HU : Hid (∀ k', k + 1 + 1 ≤ k' → Pt E (.row 1) 14 b ao n c ts k') := hU
  have hbm : b < m3 ∧ m3 < m4 := by omega
  clear t1 hx0 hx1 r1 x3 hsg r2 x2 t2 hc bW0 bW1 b1 ht h1 hz hy hU h
  generalize hpp : t.pos = pp at *
  have HP : Hid (t.pos = pp) := hpp
  clear hpp
  by_cases h3 : hd (sB [40]) (ts.drop (k + 1)) = true
  · have hpy := pass_yes [40] W2 H.out.1 h3
    have H3 : Hid (hd (sB [40]) (ts.drop (k + 1)) = true) := h3
    clear h3
    go_enter Tryd.func78, Tryd.ntmps78
    go_upto_region 3 with fail
    clear hW0 hm3 hW1 hm4
    go_wp2_with fail
    refine hpy.mono ?_
    rintro e w5 ⟨rfl, hR5, hT5⟩
    have hs5 := hT5.size
    have H5 : Hid (Rst w5 b ao n c ts (k + 1 + 1) ∧ Tn b w w5 ∧ Box6 w5 m3 28 (.int .i64 1) (.string y) (.int .i64 0) (.int .u64 0) (.slice none 0 0) (.int .i64 pp) ∧ Box6 w5 m4 28 (.int .i64 0) (.string ⟨#[]⟩) (.int .i64 0) (.int .u64 0) (.slice none 0 0) (.int .i64 0) ∧ m4 < w5.heap.size) :=
      ⟨hR5, H.out.2.1.trans hT5, HX.out.1.turned hT5 hm3b, HX.out.2.turned hT5 hm4b, by have := H.out.2.2.1; omega⟩
    clear hR5 hT5 hpy
    go_wp2_with fail
    refine (pkids_any t HU.out w5 H5.out.1).mono ?_
    rintro e w6 ⟨a, l, q, f, k2, rfl, hk2, hR6, hT6, hO6⟩
    have hs6 := hT6.size
    have x6 := H5.out.2.2.1.turned hT6 hm3b
    have x7 := H5.out.2.2.2.1.turned hT6 hm4b
    obtain ⟨d0, d1, d2, d3, d4, d5⟩ := x6.cells
    obtain ⟨e0, e1, e2, e3, e4, e5⟩ := x6.thaw
    obtain ⟨p0, p1, p2, p3, p4, p5⟩ := x7.cells
    obtain ⟨q0, q1, q2, q3, q4, q5⟩ := x7.thaw
    have H6 : Hid (Rst w6 b ao n c ts k2 ∧ Tn b w w6 ∧
        ((∃ ks us, f = true ∧ Kd E t (ts.drop (k + 1 + 1)) (.ok (callN t ks) (ts.drop k2)) ∧ RdG encN w6 a us ∧ NdsIn (Bt w5.heap.size w6.heap.size) w6 us ks ∧ us.length = l ∧ l ≤ q ∧ (0 < us.length → ∀ ad, a = some ad → Bt w5.heap.size w6.heap.size ad.block)) ∨
          (f = false ∧ Kd E t (ts.drop (k + 1 + 1)) (.err (nextP E (ts.drop k2)))))) := ⟨hR6, H5.out.2.1.trans hT6, hO6⟩
    clear hR6 hT6 hO6 x6 x7
    go_wp2_with fail
    have hat : ts.drop k = t :: ts.drop (k + 1) := by
      obtain ⟨hlt, e⟩ := List.getElem?_eq_some_iff.1 HT.out.1
      rw [List.drop_eq_getElem_cons hlt, e]
    have hdr := drop_hd H3.out
    have hsb := hd_of_pk (by simp [sB, tk0]) H3.out
    refine bodyPost_ret (v := .tuple #[.agg #[.int .i64 5, .string y, .int .i64 0, .int .u64 0, .slice a l q, .int .i64 pp], .bool f]) ?_ rfl ⟨5, y, 0, 0, a, l, q, pp, f, k2, rfl, by omega, ?_, ?_, ?_⟩
    · simp [results, Tryd.f78]
      go_simp
    · exact ((H6.out.1.one (by omega) 0 _).one (by omega) 4 _).six (by omega) _ _ _ _ _ _
    · exact ((H6.out.2.1.one (by have := H.out.2.2.2; omega) 0 _).one (by have := H.out.2.2.2; omega) 4 _).six (by have := H.out.2.2.2; omega) _ _ _ _ _ _
    · rcases H6.out.2.2 with ⟨ks, us, hf, hkd, hrd, hns, hul, hlq, hnb⟩ | ⟨rfl, hkd⟩
      · have hmk := NdIn.made 5 t.text 0 0 pp hns hrd hnb (by omega : us.length ≤ q)
        rw [hul] at hmk
        refine .inl ⟨callN t ks, hf, by rw [hat, hdr]; exact hkd.atom HT.out.2.1 HT.out.2.2.2.2.1 hsb, ?_⟩
        unfold callN
        rw [HP.out, HT.out.2.2.2.2.2]
        have h5s := H5.out.2.2.2.2
        refine (((hmk.one (g := m3) (fun q => by have := q.1; omega) 0 (.int .i64 5)).one (g := m3) (fun q => by have := q.1; omega) 4 (.slice a l q)).six (g := m4) (fun q => by have := q.1; omega) _ _ _ _ _ _).mono (fun g hg => ⟨?_, ?_⟩)
        · have := hg.1; have := H.out.2.2.2; omega
        · have := hg.2
          rw [six_size]
          simp [World.size_setCell]
          omega
      · exact .inr ⟨by rw [hat, hdr]; exact hkd.atom HT.out.2.1 HT.out.2.2.2.2.1 hsb, fun q => by cases q⟩
  · have h3' : hd (sB [40]) (ts.drop (k + 1)) = false := by simpa using h3
    have hpn := pass_no [40] W2 H.out.1 h3'
    have H3 : Hid (hd (sB [40]) (ts.drop (k + 1)) = false) := h3'
    clear h3 h3'
    go_enter Tryd.func78, Tryd.ntmps78
    go_upto_region 3 with fail
    clear hW0 hm3 hW1 hm4
    go_wp2_with fail
    refine hpn.mono ?_
    rintro e w5 ⟨rfl, b5⟩
    have hs5 := b5.size
    have x6 := HX.out.1.below b5
    have x7 := HX.out.2.below b5
    obtain ⟨d0, d1, d2, d3, d4, d5⟩ := x6.cells
    obtain ⟨p0, p1, p2, p3, p4, p5⟩ := x7.cells
    obtain ⟨q0, q1, q2, q3, q4, q5⟩ := x7.thaw
    have H6 : Hid (Rst w5 b ao n c ts (k + 1) ∧ Tn b w w5) := ⟨H.out.1.below b5, H.out.2.1.trans (Tn.of b5)⟩
    clear b5 x6 x7 hpn
    go_wp2_with fail
    have hat : ts.drop k = t :: ts.drop (k + 1) := by
      obtain ⟨hlt, e⟩ := List.getElem?_eq_some_iff.1 HT.out.1
      rw [List.drop_eq_getElem_cons hlt, e]
    refine bodyPost_ret (v := .tuple #[.agg #[.int .i64 1, .string y, .int .i64 0, .int .u64 0, .slice none 0 0, .int .i64 pp], .bool true]) ?_ rfl ⟨1, y, 0, 0, none, 0, 0, pp, true, k + 1, rfl, by omega, ?_, ?_, ?_⟩
    · simp [results, Tryd.f78]
      go_simp
    · exact H6.out.1.six (by omega) _ _ _ _ _ _
    · exact H6.out.2.six (by have := H.out.2.2.2; omega) _ _ _ _ _ _
    · refine .inl ⟨leafN t, rfl, by rw [hat]; exact .leaf (by rw [HT.out.2.1]; decide) (fun _ => H3.out), ?_⟩
      have e : leafN t = ⟨1, y.data.toList, 0, 0, foOf [], pp⟩ := by
        unfold leafN
        rw [HT.out.2.1, HT.out.2.2.1, HT.out.2.2.2.1, HP.out, HT.out.2.2.2.2.2]
        rfl
      rw [e]
      exact NdIn.made 1 _ 0 0 pp .nil (RdG.nil _ _ _) (fun q => by simp at q) (Nat.le_refl _)

end Go.Proofs.YtgeigegaoadmfaaDoor
