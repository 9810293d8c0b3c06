import Derived.Test.YtijchmcajhdcoaaGreatDoorBKid
import Derived.Test.YtijchmcajhdcoaaGreatDoorJRow
/-!
  The reader's named by a contract, over that of expr. No condition.
-/
namespace Go.Proofs.YtijchmcajhdcoaaGreatDoor
open Go.RowKit

theorem Box6.put0 {w : World} {B : Nat} {t : TypeId} {a b c d e f : Value} (h : Box6 w B t a b c d e f) (x : Value) : Box6 (w.setCell ⟨B, 0, none⟩ x) B t x b c d e f := by
  unfold Box6 at h ⊢
  simp [World.setCell, Array.getElem?_modify, h]
theorem Box6.put4 {w : World} {B : Nat} {t : TypeId} {a b c d e f : Value} (h : Box6 w B t a b c d e f) (x : Value) : Box6 (w.setCell ⟨B, 4, none⟩ x) B t a b c d x f := by
  unfold Box6 at h ⊢
  simp [World.setCell, Array.getElem?_modify, h]

set_option maxHeartbeats 1600000 in
set_option maxRecDepth 100000 in
theorem pnamed_any {E : Int} {b : Nat} {ao : Option Addr} {n c k : Nat} {ts : List Tk} {t : Tk} (ht : ts[k]? = some t) (h1 : t.kind = 1) (hz : t.num = 0 ∧ t.id = 0 ∧ t.text ≠ []) (hU : ∀ k', k + 1 + 1 ≤ k' → Pt E (.row 1) 12 b ao n c ts k') (y : ByteArray) (hy : y.data.toList = t.text)
    (w : World) (h : Rst w b ao n c ts k) : Calls Tryz.prog 92 #[.pointer (some ⟨b, 0, none⟩), .agg #[.int .i64 0, .string y, .int .i64 0, .int .u64 0, .slice none 0 0, .int .i64 t.pos]] w (Rp E .atom b ao n c ts k w) := by
  obtain ⟨W0, m3, hW0, hm3, hx0, bW0, _, hB0, hlt0⟩ := lay6 (Below.refl _ w) (Nat.le_refl _) 28 (.int .i64 0) (.string y) (.int .i64 0) (.int .u64 0) (.slice none 0 0) (.int .i64 t.pos)
  obtain ⟨W1, m4, hW1, hm4, hx1, bW1, b1, hB1, hlt1⟩ := lay6 bW0 bW0.size 28 (.int .i64 0) (.string ⟨#[]⟩) (.int .i64 0) (.int .u64 0) (.slice none 0 0) (.int .i64 0)
  have hlb := h.box.lt
  have hkn : k < n := by have := (List.getElem?_eq_some_iff.1 ht).1; have := h.len; omega
  have hki : (k : Int) ≤ 1024 := by have := h.few; omega
  have hm3b : ¬ m3 = b := by omega
  have hbm3 : ¬ b = m3 := by omega
  have hm4b : ¬ m4 = b := by omega
  have hm34 : ¬ m3 = m4 := by omega
  have hm43 : ¬ m4 = m3 := by omega
  have r1 := h.below bW1
  obtain ⟨c0, c1, f1⟩ := r1.cells
  have x3 := hx0.below b1
  obtain ⟨d0, d1, d2, d3, d4, d5⟩ := x3.cells
  obtain ⟨e0, e1, e2, e3, e4, e5⟩ := x3.thaw
  have hsg : ((W1.setCell ⟨b, 1, none⟩ (.int .i64 ((k + 1 : Nat) : Int))).setCell ⟨m3, 0, none⟩ (.int .i64 1)).heap.size = W1.heap.size := by simp [World.size_setCell]
  have r2 := (r1.next hkn).one (g := m3) (by omega) 0 (.int .i64 1)
  have x2 := And.intro ((x3.one hm3b 1 (.int .i64 ((k + 1 : Nat) : Int))).put0 (.int .i64 1)) ((hx1.one hm4b 1 (.int .i64 ((k + 1 : Nat) : Int))).one hm43 0 (.int .i64 1))
  have t1 : Tn b w (W1.setCell ⟨b, 1, none⟩ (.int .i64 ((k + 1 : Nat) : Int))) := (Tn.of bW1).setCell (p := ⟨b, 1, none⟩) (.inl rfl) _
  have t2 := t1.one (g := m3) (by omega) 0 (.int .i64 1)
  have hc : ((k + 1 : Nat) : Int) = (k : Int) + 1 := by omega
  rw [hc] at r2 x2 t2 hsg
  obtain ⟨W2, hW2⟩ : ∃ W2, (W1.setCell ⟨b, 1, none⟩ (.int .i64 ((k : Int) + 1))).setCell ⟨m3, 0, none⟩ (.int .i64 1) = W2 := ⟨_, rfl⟩
  rw [hW2] at r2 x2 t2 hsg
  have H : Hid (Rst W2 b ao n c ts (k + 1) ∧ Tn b w W2 ∧ W2.heap.size = W1.heap.size ∧ w.heap.size = m3) := ⟨r2, t2, hsg, hm3⟩
  have HX : Hid (_ ∧ _) := x2
  have HT : Hid (ts[k]? = some t ∧ t.kind = 1 ∧ t.num = 0 ∧ t.id = 0 ∧ t.text ≠ [] ∧ y.data.toList = t.text) := ⟨ht, h1, hz.1, hz.2.1, hz.2.2, hy⟩
  have HU : Hid (∀ k', k + 1 + 1 ≤ k' → Pt E (.row 1) 12 b ao n c ts k') := hU
  have hbm : b < m3 ∧ m3 < m4 := by omega
  clear t1 hx0 hx1 r1 x3 hsg r2 x2 t2 hc bW0 bW1 b1 ht h1 hz hy hU h
  generalize hpp : t.pos = pp at *
  have HP : Hid (t.pos = pp) := hpp
  clear hpp
  by_cases h3 : hd (sB [40]) (ts.drop (k + 1)) = true
  · have hpy := pass_yes [40] W2 H.out.1 h3
    have H3 : Hid (hd (sB [40]) (ts.drop (k + 1)) = true) := h3
    clear h3
    go_enter Tryz.func92, Tryz.ntmps92
    go_upto_region 3 with fail
    clear hW0 hm3 hW1 hm4
    go_wp2_with fail
    refine hpy.mono ?_
    rintro e w5 ⟨rfl, hR5, hT5⟩
    have hs5 := hT5.size
    have H5 : Hid (Rst w5 b ao n c ts (k + 1 + 1) ∧ Tn b w w5 ∧ Box6 w5 m3 28 (.int .i64 1) (.string y) (.int .i64 0) (.int .u64 0) (.slice none 0 0) (.int .i64 pp) ∧ Box6 w5 m4 28 (.int .i64 0) (.string ⟨#[]⟩) (.int .i64 0) (.int .u64 0) (.slice none 0 0) (.int .i64 0) ∧ m4 < w5.heap.size) :=
      ⟨hR5, H.out.2.1.trans hT5, HX.out.1.turned hT5 hm3b, HX.out.2.turned hT5 hm4b, by have := H.out.2.2.1; omega⟩
    clear hR5 hT5 hpy
    go_wp2_with fail
    refine (pkids_any t HU.out w5 H5.out.1).mono ?_
    rintro e w6 ⟨a, l, q, f, k2, rfl, hk2, hR6, hT6, hO6⟩
    have hs6 := hT6.size
    have x6 := H5.out.2.2.1.turned hT6 hm3b
    have x7 := H5.out.2.2.2.1.turned hT6 hm4b
    obtain ⟨d0, d1, d2, d3, d4, d5⟩ := x6.cells
    obtain ⟨e0, e1, e2, e3, e4, e5⟩ := x6.thaw
    obtain ⟨p0, p1, p2, p3, p4, p5⟩ := x7.cells
    obtain ⟨q0, q1, q2, q3, q4, q5⟩ := x7.thaw
    have H6 : Hid (Rst w6 b ao n c ts k2 ∧ Tn b w w6 ∧
        ((∃ ks us, f = true ∧ Kd E t (ts.drop (k + 1 + 1)) (.ok (callN t ks) (ts.drop k2)) ∧ RdG encN w6 a us ∧ NdsIn (Bt w5.heap.size w6.heap.size) w6 us ks ∧ us.length = l ∧ l ≤ q ∧ (0 < us.length → ∀ ad, a = some ad → Bt w5.heap.size w6.heap.size ad.block)) ∨
          (f = false ∧ Kd E t (ts.drop (k + 1 + 1)) (.err (nextP E (ts.drop k2)))))) := ⟨hR6, H5.out.2.1.trans hT6, hO6⟩
    clear hR6 hT6 hO6 x6 x7
    go_wp2_with fail
    have hat : ts.drop k = t :: ts.drop (k + 1) := by
      obtain ⟨hlt, e⟩ := List.getElem?_eq_some_iff.1 HT.out.1
      rw [List.drop_eq_getElem_cons hlt, e]
    have hdr := drop_hd H3.out
    have hsb := hd_of_pk (by simp [sB, tk0]) H3.out
    refine bodyPost_ret (v := .tuple #[.agg #[.int .i64 5, .string y, .int .i64 0, .int .u64 0, .slice a l q, .int .i64 pp], .bool f]) ?_ rfl ⟨5, y, 0, 0, a, l, q, pp, f, k2, rfl, by omega, ?_, ?_, ?_⟩
    · simp [results, Tryz.f92]
      go_simp
    · exact ((H6.out.1.one (by omega) 0 _).one (by omega) 4 _).six (by omega) _ _ _ _ _ _
    · exact ((H6.out.2.1.one (by have := H.out.2.2.2; omega) 0 _).one (by have := H.out.2.2.2; omega) 4 _).six (by have := H.out.2.2.2; omega) _ _ _ _ _ _
    · rcases H6.out.2.2 with ⟨ks, us, hf, hkd, hrd, hns, hul, hlq, hnb⟩ | ⟨rfl, hkd⟩
      · have hmk := NdIn.made 5 t.text 0 0 pp hns hrd hnb (by omega : us.length ≤ q)
        rw [hul] at hmk
        refine .inl ⟨callN t ks, hf, by rw [hat, hdr]; exact hkd.atom HT.out.2.1 HT.out.2.2.2.2.1 hsb, ?_⟩
        unfold callN
        rw [HP.out, HT.out.2.2.2.2.2]
        have h5s := H5.out.2.2.2.2
        refine (((hmk.one (g := m3) (fun q => by have := q.1; omega) 0 (.int .i64 5)).one (g := m3) (fun q => by have := q.1; omega) 4 (.slice a l q)).six (g := m4) (fun q => by have := q.1; omega) _ _ _ _ _ _).mono (fun g hg => ⟨?_, ?_⟩)
        · have := hg.1; have := H.out.2.2.2; omega
        · have := hg.2
          rw [six_size]
          simp [World.size_setCell]
          omega
      · exact .inr ⟨by rw [hat, hdr]; exact hkd.atom HT.out.2.1 HT.out.2.2.2.2.1 hsb, fun q => by cases q⟩
  · have h3' : hd (sB [40]) (ts.drop (k + 1)) = false := by simpa using h3
    have hpn := pass_no [40] W2 H.out.1 h3'
    have H3 : Hid (hd (sB [40]) (ts.drop (k + 1)) = false) := h3'
    clear h3 h3'
    go_enter Tryz.func92, Tryz.ntmps92
    go_upto_region 3 with fail
    clear hW0 hm3 hW1 hm4
    go_wp2_with fail
    refine hpn.mono ?_
    rintro e w5 ⟨rfl, b5⟩
    have hs5 := b5.size
    have x6 := HX.out.1.below b5
    have x7 := HX.out.2.below b5
    obtain ⟨d0, d1, d2, d3, d4, d5⟩ := x6.cells
    obtain ⟨p0, p1, p2, p3, p4, p5⟩ := x7.cells
    obtain ⟨q0, q1, q2, q3, q4, q5⟩ := x7.thaw
    have H6 : Hid (Rst w5 b ao n c ts (k + 1) ∧ Tn b w w5) := ⟨H.out.1.below b5, H.out.2.1.trans (Tn.of b5)⟩
    clear b5 x6 x7 hpn
    go_wp2_with fail
    have hat : ts.drop k = t :: ts.drop (k + 1) := by
      obtain ⟨hlt, e⟩ := List.getElem?_eq_some_iff.1 HT.out.1
      rw [List.drop_eq_getElem_cons hlt, e]
    refine bodyPost_ret (v := .tuple #[.agg #[.int .i64 1, .string y, .int .i64 0, .int .u64 0, .slice none 0 0, .int .i64 pp], .bool true]) ?_ rfl ⟨1, y, 0, 0, none, 0, 0, pp, true, k + 1, rfl, by omega, ?_, ?_, ?_⟩
    · simp [results, Tryz.f92]
      go_simp
    · exact H6.out.1.six (by omega) _ _ _ _ _ _
    · exact H6.out.2.six (by have := H.out.2.2.2; omega) _ _ _ _ _ _
    · refine .inl ⟨leafN t, rfl, by rw [hat]; exact .leaf (by rw [HT.out.2.1]; decide) (fun _ => H3.out), ?_⟩
      have e : leafN t = ⟨1, y.data.toList, 0, 0, foOf [], pp⟩ := by
        unfold leafN
        rw [HT.out.2.1, HT.out.2.2.1, HT.out.2.2.2.1, HP.out, HT.out.2.2.2.2.2]
        rfl
      rw [e]
      exact NdIn.made 1 _ 0 0 pp .nil (RdG.nil _ _ _) (fun q => by simp at q) (Nat.le_refl _)

end Go.Proofs.YtijchmcajhdcoaaGreatDoor

/-!
  The reader's bracketed by a contract, over that of expr. No condition.
-/
namespace Go.Proofs.YtijchmcajhdcoaaGreatDoor
open Go.RowKit

theorem Rst.drew {w : World} {b : Nat} {ao : Option Addr} {n c k : Nat} {ts : List Tk} (h : Rst w b ao n c ts k) : Rst w.drew b ao n c ts k := h.below (Below.refl _ _).drew
theorem Tn.drew {b : Nat} {u w : World} (h : Tn b u w) : Tn b u w.drew := Turned.drew h

set_option maxHeartbeats 1600000 in
set_option maxRecDepth 100000 in
theorem pbrac_any {E : Int} {b : Nat} {ao : Option Addr} {n c k : Nat} {ts : List Tk} (hU : k < n → Pt E (.row 1) 12 b ao n c ts (k + 1)) (h5 : k < n → (pk (ts.drop k)).kind = 5) (h33 : hd (sB [33]) (ts.drop k) = false) : Pt E .atom 93 b ao n c ts k := by
  intro w h
  obtain ⟨W0, m0, hW0, hm0, hx0, bW0, _, hB0, hlt0⟩ := lay6 (Below.refl _ w) (Nat.le_refl _) 28 (.int .i64 0) (.string ⟨#[]⟩) (.int .i64 0) (.int .u64 0) (.slice none 0 0) (.int .i64 0)
  have hlb := h.box.lt
  have H : Hid (Rst W0 b ao n c ts k ∧ Below w.heap.size w W0 ∧ w.heap.size = m0) := ⟨h.below bW0, bW0, hm0⟩
  have HX : Hid (Box6 W0 m0 28 (.int .i64 0) (.string ⟨#[]⟩) (.int .i64 0) (.int .u64 0) (.slice none 0 0) (.int .i64 0)) := hx0
  have hm0b : ¬ m0 = b := by omega
  have h0b : b < m0 := by omega
  clear h bW0 hx0
  by_cases h3 : hd (sB [40]) (ts.drop k) = true
  · have hkn : k < n := by have := (drop_pk h3).1; have := H.out.1.len; omega
    have hpy := pass_yes [40] W0 H.out.1 h3
    have HU : Hid (Pt E (.row 1) 12 b ao n c ts (k + 1)) := hU hkn
    have H3 : Hid (hd (sB [40]) (ts.drop k) = true) := h3
    clear hU h3 h5 h33
    go_enter Tryz.func93, Tryz.ntmps93
    go_upto_region 1 with fail
    clear hW0 hm0
    go_wp2_with fail
    refine hpy.mono ?_
    rintro e w2 ⟨rfl, hR2, hT2⟩
    have HX2 : Hid (Box6 w2 m0 28 (.int .i64 0) (.string ⟨#[]⟩) (.int .i64 0) (.int .u64 0) (.slice none 0 0) (.int .i64 0)) := HX.out.turned hT2 hm0b
    have hs2 := hT2.size
    have H2 : Hid (Rst w2 b ao n c ts (k + 1) ∧ Tn b w w2) := ⟨hR2, (Tn.of H.out.2.1).trans hT2⟩
    clear hR2 hT2 hpy
    go_wp2_with fail
    refine (HU.out w2 H2.out.1).mono ?_
    rintro e w3 ⟨o, y, i, j, a, l, q, p, f, k2, rfl, hk2, hR3, hT3, hO3⟩
    have hs3 := hT3.size
    obtain ⟨W4, m4, hW4, hm4, hx4, bW4, b4, hB4, hlt4⟩ := lay6 (Below.refl _ w3) (Nat.le_refl _) 28 (.int .i64 o) (.string y) (.int .i64 i) (.int .u64 j) (.slice a l q) (.int .i64 p)
    have hm4b : ¬ m4 = b := by omega
    have hm04 : ¬ m0 = m4 := by omega
    have hm40 : ¬ m4 = m0 := by omega
    have h0s : m0 < w2.heap.size := by omega
    have HX4 : Hid (Box6 W4 m4 28 (.int .i64 o) (.string y) (.int .i64 i) (.int .u64 j) (.slice a l q) (.int .i64 p) ∧ Box6 W4 m0 28 (.int .i64 0) (.string ⟨#[]⟩) (.int .i64 0) (.int .u64 0) (.slice none 0 0) (.int .i64 0)) := ⟨hx4, (HX2.out.turned hT3 hm0b).below bW4⟩
    have H4 : Hid (Rst W4 b ao n c ts k2 ∧ Tn b w W4 ∧ Oc E (.row 1) ts (k + 1) (Bt w2.heap.size w3.heap.size) ⟨o, y.data.toList, i, j, a, l, q, p⟩ f k2 w3 ∧ Below w3.heap.size w3 W4) := ⟨hR3.below bW4, (H2.out.2.trans hT3).trans (Tn.of bW4), hO3, bW4⟩
    obtain ⟨d0, d1, d2, d3, d4, d5⟩ := HX4.out.1.cells
    clear hR3 hT3 hO3 hx4 b4 bW4
    go_upto_region 4 with fail
    clear hW4 hm4
    cases f with
    | false =>
      obtain ⟨p0, p1, p2, p3, p4, p5⟩ := HX4.out.2.cells
      obtain ⟨q0, q1, q2, q3, q4, q5⟩ := HX4.out.2.thaw
      go_region
      go_wp2_with fail
      refine bodyPost_ret (v := .tuple #[.agg #[.int .i64 o, .string y, .int .i64 i, .int .u64 j, .slice a l q, .int .i64 p], .bool false]) ?_ rfl ⟨o, y, i, j, a, l, q, p, false, k2, rfl, by omega, (H4.out.1.six (by omega) _ _ _ _ _ _).drew, (H4.out.2.1.six (by have := H.out.2.2; omega) _ _ _ _ _ _).drew, ?_⟩
      · simp [results, Tryz.f93]
        go_simp
      · rcases H4.out.2.2.1 with ⟨nd, q, _⟩ | ⟨h1, _⟩
        · cases q
        · exact .inr ⟨by rw [drop_hd H3.out]; exact .bracF (hd_of_pk (by simp [sB, tk0]) H3.out) h1, fun q => by cases q⟩
    | true =>
      by_cases h41 : hd (sB [41]) (ts.drop k2) = true
      · have HPS : Hid (∀ u, Below W4.heap.size W4 u → Calls Tryz.prog 74 #[.pointer (some ⟨b, 0, none⟩), .string ⟨([41] : Bs).toArray⟩] u fun e w' => e = .returned (.bool true) ∧ Rst w' b ao n c ts (k2 + 1) ∧ Tn b u w') :=
          fun u hu => pass_yes [41] u (H4.out.1.below hu) h41
        have H41 : Hid (hd (sB [41]) (ts.drop k2) = true) := h41
        clear h41
        go_region_held3 (fun w' => w'.cell? ⟨m4, 0, none⟩ = some (.int .i64 o) ∧ w'.cell? ⟨m4, 1, none⟩ = some (.string y) ∧ w'.cell? ⟨m4, 2, none⟩ = some (.int .i64 i) ∧ w'.cell? ⟨m4, 3, none⟩ = some (.int .u64 j) ∧ w'.cell? ⟨m4, 4, none⟩ = some (.slice a l q) ∧ w'.cell? ⟨m4, 5, none⟩ = some (.int .i64 p)) (first | with_reducible exact kS | go_keep)
          (first
            | (go_at_call 74; (with_reducible refine (HPS.out _ (by first | exact Below.refl _ _ | exact (Below.refl _ _).drew)).mono ?_); rintro e w5 ⟨rfl, h3, t3⟩; have t4 := t3.undrew; have kS := (HX4.out.1.turned t4 hm4b).cells; have x4 := HX4.out.2.turned t4 hm0b; obtain ⟨p0, p1, p2, p3, p4, p5⟩ := x4.cells; obtain ⟨q0, q1, q2, q3, q4, q5⟩ := x4.thaw; clear x4; have H5 : Hid (Rst w5 b ao n c ts (k2 + 1) ∧ Tn b W4 w5) := ⟨h3, t4⟩; clear h3 t3 t4))
        go_wp2_with fail
        refine bodyPost_ret (v := .tuple #[.agg #[.int .i64 o, .string y, .int .i64 i, .int .u64 j, .slice a l q, .int .i64 p], .bool true]) ?_ rfl ⟨o, y, i, j, a, l, q, p, true, k2 + 1, rfl, by omega, H5.out.1.six (by omega) _ _ _ _ _ _, (H4.out.2.1.trans H5.out.2).six (by have := H.out.2.2; omega) _ _ _ _ _ _, ?_⟩
        · simp [results, Tryz.f93]
          go_simp
        · rcases H4.out.2.2.1 with ⟨nd, _, h1, h2⟩ | ⟨_, h2⟩
          · refine .inl ⟨nd, rfl, ?_, ?_⟩
            · rw [drop_hd H41.out] at h1
              rw [drop_hd H3.out]
              exact .brac (hd_of_pk (by simp [sB, tk0]) H3.out) h1 (hd_of_pk (by simp [sB, tk0]) H41.out)
            · refine (((h2.below H4.out.2.2.2).turned H5.out.2 (fun g hg e => by have := hg.1; omega)).six (g := m0) (fun q => by have := q.1; omega) _ _ _ _ _ _).mono (fun g hg => ⟨by have := hg.1; have := H.out.2.2; omega, ?_⟩)
              rw [six_size]
              have := hg.2; have := H4.out.2.2.2.size; have := H5.out.2.size
              omega
          · have := H41.out
            rw [num_sB (h2 rfl)] at this
            cases this
      · have h41' : hd (sB [41]) (ts.drop k2) = false := by simpa using h41
        have HPS : Hid (∀ u, Below W4.heap.size W4 u → Calls Tryz.prog 74 #[.pointer (some ⟨b, 0, none⟩), .string ⟨([41] : Bs).toArray⟩] u fun e w' => e = .returned (.bool false) ∧ Below u.heap.size u w') :=
          fun u hu => pass_no [41] u (H4.out.1.below hu) h41'
        have H41 : Hid (hd (sB [41]) (ts.drop k2) = false) := h41'
        clear h41 h41'
        go_region_held3 (fun w' => w'.cell? ⟨m4, 0, none⟩ = some (.int .i64 o) ∧ w'.cell? ⟨m4, 1, none⟩ = some (.string y) ∧ w'.cell? ⟨m4, 2, none⟩ = some (.int .i64 i) ∧ w'.cell? ⟨m4, 3, none⟩ = some (.int .u64 j) ∧ w'.cell? ⟨m4, 4, none⟩ = some (.slice a l q) ∧ w'.cell? ⟨m4, 5, none⟩ = some (.int .i64 p)) (first | with_reducible exact kS | go_keep)
          (first
            | (go_at_call 74; (with_reducible refine (HPS.out _ (by first | exact Below.refl _ _ | exact (Below.refl _ _).drew)).mono ?_); rintro e w5 ⟨rfl, t3⟩; have t4 := undrewB t3; have kS := (HX4.out.1.below t4).cells; have x4 := HX4.out.2.below t4; obtain ⟨p0, p1, p2, p3, p4, p5⟩ := x4.cells; obtain ⟨q0, q1, q2, q3, q4, q5⟩ := x4.thaw; clear x4; have H5 : Hid (Below W4.heap.size W4 w5) := t4; clear t3 t4))
        go_wp2_with fail
        refine bodyPost_ret (v := .tuple #[.agg #[.int .i64 o, .string y, .int .i64 i, .int .u64 j, .slice a l q, .int .i64 p], .bool false]) ?_ rfl ⟨o, y, i, j, a, l, q, p, false, k2, rfl, by omega, (H4.out.1.below H5.out).six (by omega) _ _ _ _ _ _, (H4.out.2.1.trans (Tn.of H5.out)).six (by have := H.out.2.2; omega) _ _ _ _ _ _, ?_⟩
        · simp [results, Tryz.f93]
          go_simp
        · refine .inr ⟨?_, fun q => by cases q⟩
          rw [drop_hd H3.out]
          rcases H4.out.2.2.1 with ⟨nd, _, h1, h2⟩ | ⟨h1, h2⟩
          · exact .bracE (hd_of_pk (by simp [sB, tk0]) H3.out) h1 H41.out
          · exact .bracF (hd_of_pk (by simp [sB, tk0]) H3.out) h1
  · have h3' : hd (sB [40]) (ts.drop k) = false := by simpa using h3
    have hpn := pass_no [40] W0 H.out.1 h3'
    have HG : Hid (Gm E .atom (ts.drop k) (.err (nextP E (ts.drop k)))) := by
      show Gm E .atom (ts.drop k) (.err (nextP E (ts.drop k)))
      rcases Nat.lt_or_ge k n with hk | hk
      · have hl := H.out.1.len
        have e : ts.drop k = pk (ts.drop k) :: ts.drop (k + 1) := by
          rw [List.drop_eq_getElem_cons (by omega)]
          rfl
        have k5 := h5 hk
        have ha : (pk (ts.drop k)).text ≠ [40] := by
          intro q
          rw [hd_pk (by simp [sB, tk0])] at h3'
          simp [sB, k5, q] at h3'
        have hc : (pk (ts.drop k)).text ≠ [33] := by
          intro q
          rw [hd_pk (by simp [sB, tk0])] at h33
          simp [sB, k5, q] at h33
        rw [e]
        exact .sign k5 ha hc
      · rw [List.drop_eq_nil_of_le (by have := H.out.1.len; omega)]
        exact .none
    clear hU h3 h3' h5 h33
    go_enter Tryz.func93, Tryz.ntmps93
    go_upto_region 1 with fail
    clear hW0 hm0
    go_wp2_with fail
    refine hpn.mono ?_
    rintro e w2 ⟨rfl, b2⟩
    have x2 := HX.out.below b2
    obtain ⟨p0, p1, p2, p3, p4, p5⟩ := x2.cells
    obtain ⟨q0, q1, q2, q3, q4, q5⟩ := x2.thaw
    have H2 : Hid (Rst w2 b ao n c ts k ∧ Tn b w w2) := ⟨H.out.1.below b2, (Tn.of H.out.2.1).trans (Tn.of b2)⟩
    clear b2 x2 hpn
    go_wp2_with fail
    refine bodyPost_ret (v := .tuple #[.agg #[.int .i64 0, .string ⟨#[]⟩, .int .i64 0, .int .u64 0, .slice none 0 0, .int .i64 0], .bool false]) ?_ rfl ⟨0, ByteArray.empty, 0, 0, none, 0, 0, 0, false, k, rfl, Nat.le_refl _, ?_, ?_, ?_⟩
    · simp [results, Tryz.f93]
      go_simp
    · exact H2.out.1.six (by omega) _ _ _ _ _ _
    · exact H2.out.2.six (by have := H.out.2.2; omega) _ _ _ _ _ _
    · exact .inr ⟨HG.out, fun q => by cases q⟩

end Go.Proofs.YtijchmcajhdcoaaGreatDoor

/-!
  The reader's atom by a contract, over that of expr further on. No condition.
-/
namespace Go.Proofs.YtijchmcajhdcoaaGreatDoor
open Go.RowKit

/-- A token's kinds, and what they hold. -/
theorem tk_kinds {t : Tk} (h : Gd t) : (t.kind = 1 ∧ t.num = 0 ∧ t.id = 0 ∧ t.text ≠ []) ∨ (t.kind = 2 ∧ t.text = [] ∧ t.id = 0) ∨ (t.kind = 3 ∧ t.num = 0 ∧ t.id = 0) ∨ (t.kind = 4 ∧ t.text = [] ∧ t.num = 0) ∨ t.kind = 5 := by
  rcases h.shape with ⟨e, h0⟩ | e | e | e | ⟨e, _⟩
  · exact .inl ⟨congrArg Tk.kind e, congrArg Tk.num e, congrArg Tk.id e, h0⟩
  · exact .inr (.inl ⟨congrArg Tk.kind e, congrArg Tk.text e, congrArg Tk.id e⟩)
  · exact .inr (.inr (.inl ⟨congrArg Tk.kind e, congrArg Tk.num e, congrArg Tk.id e⟩))
  · exact .inr (.inr (.inr (.inl ⟨congrArg Tk.kind e, congrArg Tk.text e, congrArg Tk.num e⟩)))
  · exact .inr (.inr (.inr (.inr (congrArg Tk.kind e))))

set_option maxHeartbeats 1600000 in
set_option maxRecDepth 100000 in
theorem patom_name {E : Int} {b : Nat} {ao : Option Addr} {n c k : Nat} {ts : List Tk} {t : Tk} (ht : ts[k]? = some t) (hk : t.kind = 1) (hnum : t.num = 0) (hid : t.id = 0) (hne : t.text ≠ []) (hU : ∀ k', k + 1 + 1 ≤ k' → Pt E (.row 1) 12 b ao n c ts k') : Pt E .atom 84 b ao n c ts k := by
  intro w h
  obtain ⟨W0, m0, hW0, hm0, hx0, bW0, _, hB0, hlt0⟩ := lay6 (Below.refl _ w) (Nat.le_refl _) 28 (.int .i64 0) (.string ⟨#[]⟩) (.int .i64 0) (.int .u64 0) (.slice none 0 0) (.int .i64 0)
  have hlb := h.box.lt
  have H : Hid (Rst W0 b ao n c ts k ∧ Below w.heap.size w W0 ∧ w.heap.size = m0) := ⟨h.below bW0, bW0, hm0⟩
  have HX : Hid (Box6 W0 m0 28 (.int .i64 0) (.string ⟨#[]⟩) (.int .i64 0) (.int .u64 0) (.slice none 0 0) (.int .i64 0)) := hx0
  have hm0b : ¬ m0 = b := by omega
  have h0b : b < m0 := by omega
  have hki : (k : Int) ≤ 1024 := by have := h.few; have := h.le; omega
  have hpk := peek_any W0 (h.below bW0)
  clear h bW0 hx0
  have hkn : k < n := by have := (List.getElem?_eq_some_iff.1 ht).1; have := H.out.1.len; omega
  rw [pk_at ht] at hpk
  obtain ⟨y, hy⟩ : ∃ y : ByteArray, (⟨t.text.toArray⟩ : ByteArray) = y := ⟨_, rfl⟩
  have hyt : y.data.toList = t.text := by rw [← hy]
  rw [hy, hk] at hpk
  rw [hnum] at hpk
  rw [hid] at hpk
  clear hy
  obtain ⟨tp, htp⟩ : ∃ tp, t.pos = tp := ⟨_, rfl⟩
  rw [htp] at hpk
  have HN : Hid (∀ u, Rst u b ao n c ts k → Calls Tryz.prog 92 #[.pointer (some ⟨b, 0, none⟩), .agg #[.int .i64 0, .string y, .int .i64 0, .int .u64 0, .slice none 0 0, .int .i64 tp]] u (Rp E .atom b ao n c ts k u)) := by
    have := pnamed_any (E := E) ht hk ⟨hnum, hid, hne⟩ hU y hyt
    rw [htp] at this
    exact this
  clear ht hk hnum hid hne hU hyt htp
  go_enter Tryz.func84, Tryz.ntmps84
  go_upto_region 1 with fail
  clear hW0 hm0
  go_wp2_with fail
  refine hpk.mono ?_
  rintro e w2 ⟨rfl, b2⟩
  clear hpk
  have hs2 := b2.size
  obtain ⟨W3, m3, hW3, hm3, hx3, bW3, _, hB3, hlt3⟩ := lay5 (Below.refl _ w2) (Nat.le_refl _) 51 (.int .i64 1) (.string y) (.int .i64 0) (.int .u64 0) (.int .i64 tp)
  obtain ⟨W5, m5, hW5, hm5, hx5, bW5, b5, hB5, hlt5⟩ := lay6 (Below.refl _ W3) (Nat.le_refl _) 28 (.int .i64 0) (.string y) (.int .i64 0) (.int .u64 0) (.slice none 0 0) (.int .i64 tp)
  have b25 := (b2.trans (bW3.mono b2.size)).trans (bW5.mono (by have := bW3.size; omega))
  obtain ⟨c0, c1, c2, c3, c4⟩ := hx3.cells
  have y3 := hx3.below bW5
  obtain ⟨z0, z1, z2, z3, z4⟩ := y3.cells
  have hm5b : ¬ m5 = b := by omega
  have hb5 : ¬ b = m5 := by omega
  have hm05 : ¬ m0 = m5 := by omega
  have hm50 : ¬ m5 = m0 := by omega
  have h5m : m0 < m5 := by omega
  have H5 : Hid (Rst W5 b ao n c ts k ∧ Tn b w W5 ∧ Box6 W5 m5 28 (.int .i64 0) (.string y) (.int .i64 0) (.int .u64 0) (.slice none 0 0) (.int .i64 tp) ∧ Box6 W5 m0 28 (.int .i64 0) (.string ⟨#[]⟩) (.int .i64 0) (.int .u64 0) (.slice none 0 0) (.int .i64 0) ∧ m0 < W5.heap.size) :=
    ⟨H.out.1.below b25, (Tn.of H.out.2.1).trans (Tn.of b25), hx5, HX.out.below b25, by omega⟩
  clear b2 hx3 bW3 hx5 bW5 b5 b25 y3 hs2
  go_upto_region 3 with fail
  clear hW3 hm3 hW5 hm5
  obtain ⟨d0, d1, d2, d3, d4, d5⟩ := H5.out.2.2.1.cells
  go_wp2_with fail
  refine (HN.out W5 H5.out.1).mono ?_
  rintro e w6 ⟨o, y2, i, j, a, l, q, p, f, k2, rfl, hk2, hR6, hT6, hO6⟩
  have hs6 := hT6.size
  have x6 := H5.out.2.2.2.1.turned hT6 hm0b
  obtain ⟨p0, p1, p2, p3, p4, p5⟩ := x6.cells
  obtain ⟨q0, q1, q2, q3, q4, q5⟩ := x6.thaw
  have H6 : Hid (Rst w6 b ao n c ts k2 ∧ Tn b w w6 ∧ Oc E .atom ts k (Bt W5.heap.size w6.heap.size) ⟨o, y2.data.toList, i, j, a, l, q, p⟩ f k2 w6) := ⟨hR6, H5.out.2.1.trans hT6, hO6⟩
  clear x6 hR6 hT6 hO6
  go_wp2_with fail
  refine bodyPost_ret (v := .tuple #[.agg #[.int .i64 o, .string y2, .int .i64 i, .int .u64 j, .slice a l q, .int .i64 p], .bool f]) ?_ rfl ⟨o, y2, i, j, a, l, q, p, f, k2, rfl, hk2, ?_, ?_, ?_⟩
  · simp [results, Tryz.f84]
    go_simp
  · exact H6.out.1.six (by omega) _ _ _ _ _ _
  · exact H6.out.2.1.six (by have := H.out.2.2; omega) _ _ _ _ _ _
  · rcases H6.out.2.2 with ⟨nd, h1, h2, h3⟩ | h1
    · refine .inl ⟨nd, h1, h2, (h3.six (g := m0) (fun q => by have := q.1; have := H5.out.2.2.2.2; omega) _ _ _ _ _ _).mono (fun g hg => ⟨by have := hg.1; have := H.out.2.2; have := H5.out.2.2.2.2; omega, by rw [six_size]; exact hg.2⟩)⟩
    · exact .inr h1

set_option maxHeartbeats 1600000 in
set_option maxRecDepth 100000 in
theorem patom_sign {E : Int} {b : Nat} {ao : Option Addr} {n c k : Nat} {ts : List Tk} (hk : (pk (ts.drop k)).kind = 5 ∨ (pk (ts.drop k)).kind = 0) (hB : Pt E .atom 93 b ao n c ts k) : Pt E .atom 84 b ao n c ts k := by
  intro w h
  obtain ⟨W0, m0, hW0, hm0, hx0, bW0, _, hB0, hlt0⟩ := lay6 (Below.refl _ w) (Nat.le_refl _) 28 (.int .i64 0) (.string ⟨#[]⟩) (.int .i64 0) (.int .u64 0) (.slice none 0 0) (.int .i64 0)
  have hlb := h.box.lt
  have H : Hid (Rst W0 b ao n c ts k ∧ Below w.heap.size w W0 ∧ w.heap.size = m0) := ⟨h.below bW0, bW0, hm0⟩
  have HX : Hid (Box6 W0 m0 28 (.int .i64 0) (.string ⟨#[]⟩) (.int .i64 0) (.int .u64 0) (.slice none 0 0) (.int .i64 0)) := hx0
  have hm0b : ¬ m0 = b := by omega
  have h0b : b < m0 := by omega
  have hki : (k : Int) ≤ 1024 := by have := h.few; have := h.le; omega
  have hpk := peek_any W0 (h.below bW0)
  clear h bW0 hx0
  have HN : Hid (Pt E .atom 93 b ao n c ts k) := hB
  generalize pk (ts.drop k) = t at hpk hk
  obtain ⟨tk, tx, tm, ti, tp⟩ := t
  simp only at hpk hk
  obtain ⟨y, hy⟩ : ∃ y : ByteArray, (⟨tx.toArray⟩ : ByteArray) = y := ⟨_, rfl⟩
  rw [hy] at hpk
  have k1 : (tk == 1) = false := by rw [beq_eq_false_iff_ne]; omega
  have k2 : (tk == 2) = false := by rw [beq_eq_false_iff_ne]; omega
  have k3 : (tk == 3) = false := by rw [beq_eq_false_iff_ne]; omega
  have k4 : (tk == 4) = false := by rw [beq_eq_false_iff_ne]; omega
  clear hy hk hB
  go_enter Tryz.func84, Tryz.ntmps84
  go_upto_region 1 with fail
  clear hW0 hm0
  go_wp2_with fail
  refine hpk.mono ?_
  rintro e w2 ⟨rfl, b2⟩
  clear hpk
  have hs2 := b2.size
  obtain ⟨W3, m3, hW3, hm3, hx3, bW3, _, hB3, hlt3⟩ := lay5 (Below.refl _ w2) (Nat.le_refl _) 51 (.int .i64 tk) (.string y) (.int .i64 tm) (.int .u64 ti) (.int .i64 tp)
  obtain ⟨W5, m5, hW5, hm5, hx5, bW5, b5, hB5, hlt5⟩ := lay6 (Below.refl _ W3) (Nat.le_refl _) 28 (.int .i64 0) (.string y) (.int .i64 tm) (.int .u64 ti) (.slice none 0 0) (.int .i64 tp)
  have b25 := (b2.trans (bW3.mono b2.size)).trans (bW5.mono (by have := bW3.size; omega))
  obtain ⟨c0, c1, c2, c3, c4⟩ := hx3.cells
  have y3 := hx3.below bW5
  obtain ⟨z0, z1, z2, z3, z4⟩ := y3.cells
  have hm5b : ¬ m5 = b := by omega
  have hb5 : ¬ b = m5 := by omega
  have hm05 : ¬ m0 = m5 := by omega
  have hm50 : ¬ m5 = m0 := by omega
  have h5m : m0 < m5 := by omega
  have H5 : Hid (Rst W5 b ao n c ts k ∧ Tn b w W5 ∧ Box6 W5 m5 28 (.int .i64 0) (.string y) (.int .i64 tm) (.int .u64 ti) (.slice none 0 0) (.int .i64 tp) ∧ Box6 W5 m0 28 (.int .i64 0) (.string ⟨#[]⟩) (.int .i64 0) (.int .u64 0) (.slice none 0 0) (.int .i64 0) ∧ m0 < W5.heap.size) :=
    ⟨H.out.1.below b25, (Tn.of H.out.2.1).trans (Tn.of b25), hx5, HX.out.below b25, by omega⟩
  clear b2 hx3 bW3 hx5 bW5 b5 b25 y3 hs2
  go_upto_region 3 with fail
  clear hW3 hm3 hW5 hm5
  go_wp2_with fail
  refine (HN.out W5 H5.out.1).mono ?_
  rintro e w6 ⟨o, y2, i, j, a, l, q, p, f, k2, rfl, hk2, hR6, hT6, hO6⟩
  have hs6 := hT6.size
  have x6 := H5.out.2.2.2.1.turned hT6 hm0b
  obtain ⟨p0, p1, p2, p3, p4, p5⟩ := x6.cells
  obtain ⟨q0, q1, q2, q3, q4, q5⟩ := x6.thaw
  have H6 : Hid (Rst w6 b ao n c ts k2 ∧ Tn b w w6 ∧ Oc E .atom ts k (Bt W5.heap.size w6.heap.size) ⟨o, y2.data.toList, i, j, a, l, q, p⟩ f k2 w6) := ⟨hR6, H5.out.2.1.trans hT6, hO6⟩
  clear x6 hR6 hT6 hO6
  go_wp2_with fail
  refine bodyPost_ret (v := .tuple #[.agg #[.int .i64 o, .string y2, .int .i64 i, .int .u64 j, .slice a l q, .int .i64 p], .bool f]) ?_ rfl ⟨o, y2, i, j, a, l, q, p, f, k2, rfl, hk2, ?_, ?_, ?_⟩
  · simp [results, Tryz.f84]
    go_simp
  · exact H6.out.1.six (by omega) _ _ _ _ _ _
  · exact H6.out.2.1.six (by have := H.out.2.2; omega) _ _ _ _ _ _
  · rcases H6.out.2.2 with ⟨nd, h1, h2, h3⟩ | h1
    · refine .inl ⟨nd, h1, h2, (h3.six (g := m0) (fun q => by have := q.1; have := H5.out.2.2.2.2; omega) _ _ _ _ _ _).mono (fun g hg => ⟨by have := hg.1; have := H.out.2.2; have := H5.out.2.2.2.2; omega, by rw [six_size]; exact hg.2⟩)⟩
    · exact .inr h1

set_option maxHeartbeats 1600000 in
set_option maxRecDepth 100000 in
theorem patom_num {E : Int} {b : Nat} {ao : Option Addr} {n c k : Nat} {ts : List Tk} {t : Tk} (ht : ts[k]? = some t) (hk : t.kind = 2) (hid : t.id = 0) : Pt E .atom 84 b ao n c ts k := by
  intro w h
  obtain ⟨W0, m0, hW0, hm0, hx0, bW0, _, hB0, hlt0⟩ := lay6 (Below.refl _ w) (Nat.le_refl _) 28 (.int .i64 0) (.string ⟨#[]⟩) (.int .i64 0) (.int .u64 0) (.slice none 0 0) (.int .i64 0)
  have hlb := h.box.lt
  have H : Hid (Rst W0 b ao n c ts k ∧ Below w.heap.size w W0 ∧ w.heap.size = m0) := ⟨h.below bW0, bW0, hm0⟩
  have HX : Hid (Box6 W0 m0 28 (.int .i64 0) (.string ⟨#[]⟩) (.int .i64 0) (.int .u64 0) (.slice none 0 0) (.int .i64 0)) := hx0
  have hm0b : ¬ m0 = b := by omega
  have h0b : b < m0 := by omega
  have hki : (k : Int) ≤ 1024 := by have := h.few; have := h.le; omega
  have hpk := peek_any W0 (h.below bW0)
  clear h bW0 hx0
  have hkn : k < n := by have := (List.getElem?_eq_some_iff.1 ht).1; have := H.out.1.len; omega
  rw [pk_at ht] at hpk
  obtain ⟨y, hy⟩ : ∃ y : ByteArray, (⟨t.text.toArray⟩ : ByteArray) = y := ⟨_, rfl⟩
  have hyt : y.data.toList = t.text := by rw [← hy]
  rw [hy, hk] at hpk
  rw [hid] at hpk
  clear hy
  obtain ⟨tp, htp⟩ : ∃ tp, t.pos = tp := ⟨_, rfl⟩
  rw [htp] at hpk
  obtain ⟨tm, htm⟩ : ∃ tm, t.num = tm := ⟨_, rfl⟩
  rw [htm] at hpk
  have HL : Hid (leafN t = ⟨3, y.data.toList, tm, 0, foOf [], tp⟩) := by
    show leafN t = _
    unfold leafN
    rw [hk, hyt, htp, htm, hid]
    rfl
  have HT : Hid (ts[k]? = some t ∧ t.kind = 2) := ⟨ht, hk⟩
  clear ht hk hyt htp htm hid
  go_enter Tryz.func84, Tryz.ntmps84
  go_upto_region 1 with fail
  clear hW0 hm0
  go_wp2_with fail
  refine hpk.mono ?_
  rintro e w2 ⟨rfl, b2⟩
  clear hpk
  have hs2 := b2.size
  obtain ⟨W3, m3, hW3, hm3, hx3, bW3, _, hB3, hlt3⟩ := lay5 (Below.refl _ w2) (Nat.le_refl _) 51 (.int .i64 2) (.string y) (.int .i64 tm) (.int .u64 0) (.int .i64 tp)
  obtain ⟨W5, m5, hW5, hm5, hx5, bW5, b5, hB5, hlt5⟩ := lay6 (Below.refl _ W3) (Nat.le_refl _) 28 (.int .i64 0) (.string y) (.int .i64 tm) (.int .u64 0) (.slice none 0 0) (.int .i64 tp)
  have b25 := (b2.trans (bW3.mono b2.size)).trans (bW5.mono (by have := bW3.size; omega))
  obtain ⟨c0, c1, c2, c3, c4⟩ := hx3.cells
  have y3 := hx3.below bW5
  obtain ⟨z0, z1, z2, z3, z4⟩ := y3.cells
  have hm5b : ¬ m5 = b := by omega
  have hb5 : ¬ b = m5 := by omega
  have hm05 : ¬ m0 = m5 := by omega
  have hm50 : ¬ m5 = m0 := by omega
  have h5m : m0 < m5 := by omega
  have H5 : Hid (Rst W5 b ao n c ts k ∧ Tn b w W5 ∧ Box6 W5 m5 28 (.int .i64 0) (.string y) (.int .i64 tm) (.int .u64 0) (.slice none 0 0) (.int .i64 tp) ∧ Box6 W5 m0 28 (.int .i64 0) (.string ⟨#[]⟩) (.int .i64 0) (.int .u64 0) (.slice none 0 0) (.int .i64 0) ∧ m0 < W5.heap.size) :=
    ⟨H.out.1.below b25, (Tn.of H.out.2.1).trans (Tn.of b25), hx5, HX.out.below b25, by omega⟩
  clear b2 hx3 bW3 hx5 bW5 b5 b25 y3 hs2
  go_upto_region 3 with fail
  clear hW3 hm3 hW5 hm5
  obtain ⟨d0, d1, d2, d3, d4, d5⟩ := H5.out.2.2.1.cells
  obtain ⟨v0, v1, v2, v3, v4, v5⟩ := H5.out.2.2.1.thaw
  obtain ⟨e0, e1, e2⟩ := H5.out.1.cells
  obtain ⟨p0, p1, p2, p3, p4, p5⟩ := H5.out.2.2.2.1.cells
  obtain ⟨q0, q1, q2, q3, q4, q5⟩ := H5.out.2.2.2.1.thaw
  go_wp2_with fail
  have hc : ((k + 1 : Nat) : Int) = (k : Int) + 1 := by omega
  have r6 := (H5.out.1.one (g := m5) (by omega) 0 (.int .i64 3)).next hkn
  have t6 : Tn b w (((W5.setCell ⟨m5, 0, none⟩ (.int .i64 3)).setCell ⟨b, 1, none⟩ (.int .i64 ((k + 1 : Nat) : Int)))) := (H5.out.2.1.one (g := m5) (by have := H.out.2.2; omega) 0 (.int .i64 3)).setCell (p := ⟨b, 1, none⟩) (.inl rfl) _
  rw [hc] at r6 t6
  have hat : ts.drop k = t :: ts.drop (k + 1) := by
    obtain ⟨hlt, e⟩ := List.getElem?_eq_some_iff.1 HT.out.1
    rw [List.drop_eq_getElem_cons hlt, e]
  refine bodyPost_ret (v := .tuple #[.agg #[.int .i64 3, .string y, .int .i64 tm, .int .u64 0, .slice none 0 0, .int .i64 tp], .bool true]) ?_ rfl ⟨3, y, tm, 0, none, 0, 0, tp, true, k + 1, rfl, by omega, ?_, ?_, ?_⟩
  · simp [results, Tryz.f84]
    go_simp
  · exact r6.six (by omega) _ _ _ _ _ _
  · exact Tn.six t6 (by have := H.out.2.2; omega) _ _ _ _ _ _
  · refine .inl ⟨leafN t, rfl, by rw [hat]; exact .leaf (by rw [HT.out.2]; decide) (fun q => by rw [HT.out.2] at q; cases q), ?_⟩
    rw [HL.out]
    exact NdIn.made 3 _ tm 0 tp .nil (RdG.nil _ _ _) (fun q => by simp at q) (Nat.le_refl _)

set_option maxHeartbeats 1600000 in
set_option maxRecDepth 100000 in
theorem patom_text {E : Int} {b : Nat} {ao : Option Addr} {n c k : Nat} {ts : List Tk} {t : Tk} (ht : ts[k]? = some t) (hk : t.kind = 3) (hnum : t.num = 0) (hid : t.id = 0) : Pt E .atom 84 b ao n c ts k := by
  intro w h
  obtain ⟨W0, m0, hW0, hm0, hx0, bW0, _, hB0, hlt0⟩ := lay6 (Below.refl _ w) (Nat.le_refl _) 28 (.int .i64 0) (.string ⟨#[]⟩) (.int .i64 0) (.int .u64 0) (.slice none 0 0) (.int .i64 0)
  have hlb := h.box.lt
  have H : Hid (Rst W0 b ao n c ts k ∧ Below w.heap.size w W0 ∧ w.heap.size = m0) := ⟨h.below bW0, bW0, hm0⟩
  have HX : Hid (Box6 W0 m0 28 (.int .i64 0) (.string ⟨#[]⟩) (.int .i64 0) (.int .u64 0) (.slice none 0 0) (.int .i64 0)) := hx0
  have hm0b : ¬ m0 = b := by omega
  have h0b : b < m0 := by omega
  have hki : (k : Int) ≤ 1024 := by have := h.few; have := h.le; omega
  have hpk := peek_any W0 (h.below bW0)
  clear h bW0 hx0
  have hkn : k < n := by have := (List.getElem?_eq_some_iff.1 ht).1; have := H.out.1.len; omega
  rw [pk_at ht] at hpk
  obtain ⟨y, hy⟩ : ∃ y : ByteArray, (⟨t.text.toArray⟩ : ByteArray) = y := ⟨_, rfl⟩
  have hyt : y.data.toList = t.text := by rw [← hy]
  rw [hy, hk] at hpk
  rw [hnum] at hpk
  rw [hid] at hpk
  clear hy
  obtain ⟨tp, htp⟩ : ∃ tp, t.pos = tp := ⟨_, rfl⟩
  rw [htp] at hpk
  have HL : Hid (leafN t = ⟨4, y.data.toList, 0, 0, foOf [], tp⟩) := by
    show leafN t = _
    unfold leafN
    rw [hk, hyt, htp, hnum, hid]
    rfl
  have HT : Hid (ts[k]? = some t ∧ t.kind = 3) := ⟨ht, hk⟩
  clear ht hk hyt htp hnum hid
  go_enter Tryz.func84, Tryz.ntmps84
  go_upto_region 1 with fail
  clear hW0 hm0
  go_wp2_with fail
  refine hpk.mono ?_
  rintro e w2 ⟨rfl, b2⟩
  clear hpk
  have hs2 := b2.size
  obtain ⟨W3, m3, hW3, hm3, hx3, bW3, _, hB3, hlt3⟩ := lay5 (Below.refl _ w2) (Nat.le_refl _) 51 (.int .i64 3) (.string y) (.int .i64 0) (.int .u64 0) (.int .i64 tp)
  obtain ⟨W5, m5, hW5, hm5, hx5, bW5, b5, hB5, hlt5⟩ := lay6 (Below.refl _ W3) (Nat.le_refl _) 28 (.int .i64 0) (.string y) (.int .i64 0) (.int .u64 0) (.slice none 0 0) (.int .i64 tp)
  have b25 := (b2.trans (bW3.mono b2.size)).trans (bW5.mono (by have := bW3.size; omega))
  obtain ⟨c0, c1, c2, c3, c4⟩ := hx3.cells
  have y3 := hx3.below bW5
  obtain ⟨z0, z1, z2, z3, z4⟩ := y3.cells
  have hm5b : ¬ m5 = b := by omega
  have hb5 : ¬ b = m5 := by omega
  have hm05 : ¬ m0 = m5 := by omega
  have hm50 : ¬ m5 = m0 := by omega
  have h5m : m0 < m5 := by omega
  have H5 : Hid (Rst W5 b ao n c ts k ∧ Tn b w W5 ∧ Box6 W5 m5 28 (.int .i64 0) (.string y) (.int .i64 0) (.int .u64 0) (.slice none 0 0) (.int .i64 tp) ∧ Box6 W5 m0 28 (.int .i64 0) (.string ⟨#[]⟩) (.int .i64 0) (.int .u64 0) (.slice none 0 0) (.int .i64 0) ∧ m0 < W5.heap.size) :=
    ⟨H.out.1.below b25, (Tn.of H.out.2.1).trans (Tn.of b25), hx5, HX.out.below b25, by omega⟩
  clear b2 hx3 bW3 hx5 bW5 b5 b25 y3 hs2
  go_upto_region 3 with fail
  clear hW3 hm3 hW5 hm5
  obtain ⟨d0, d1, d2, d3, d4, d5⟩ := H5.out.2.2.1.cells
  obtain ⟨v0, v1, v2, v3, v4, v5⟩ := H5.out.2.2.1.thaw
  obtain ⟨e0, e1, e2⟩ := H5.out.1.cells
  obtain ⟨p0, p1, p2, p3, p4, p5⟩ := H5.out.2.2.2.1.cells
  obtain ⟨q0, q1, q2, q3, q4, q5⟩ := H5.out.2.2.2.1.thaw
  go_wp2_with fail
  have hc : ((k + 1 : Nat) : Int) = (k : Int) + 1 := by omega
  have r6 := (H5.out.1.one (g := m5) (by omega) 0 (.int .i64 4)).next hkn
  have t6 : Tn b w (((W5.setCell ⟨m5, 0, none⟩ (.int .i64 4)).setCell ⟨b, 1, none⟩ (.int .i64 ((k + 1 : Nat) : Int)))) := (H5.out.2.1.one (g := m5) (by have := H.out.2.2; omega) 0 (.int .i64 4)).setCell (p := ⟨b, 1, none⟩) (.inl rfl) _
  rw [hc] at r6 t6
  have hat : ts.drop k = t :: ts.drop (k + 1) := by
    obtain ⟨hlt, e⟩ := List.getElem?_eq_some_iff.1 HT.out.1
    rw [List.drop_eq_getElem_cons hlt, e]
  refine bodyPost_ret (v := .tuple #[.agg #[.int .i64 4, .string y, .int .i64 0, .int .u64 0, .slice none 0 0, .int .i64 tp], .bool true]) ?_ rfl ⟨4, y, 0, 0, none, 0, 0, tp, true, k + 1, rfl, by omega, ?_, ?_, ?_⟩
  · simp [results, Tryz.f84]
    go_simp
  · exact r6.six (by omega) _ _ _ _ _ _
  · exact Tn.six t6 (by have := H.out.2.2; omega) _ _ _ _ _ _
  · refine .inl ⟨leafN t, rfl, by rw [hat]; exact .leaf (by rw [HT.out.2]; decide) (fun q => by rw [HT.out.2] at q; cases q), ?_⟩
    rw [HL.out]
    exact NdIn.made 4 _ 0 0 tp .nil (RdG.nil _ _ _) (fun q => by simp at q) (Nat.le_refl _)

set_option maxHeartbeats 1600000 in
set_option maxRecDepth 100000 in
theorem patom_hash {E : Int} {b : Nat} {ao : Option Addr} {n c k : Nat} {ts : List Tk} {t : Tk} (ht : ts[k]? = some t) (hk : t.kind = 4) (hnum : t.num = 0) : Pt E .atom 84 b ao n c ts k := by
  intro w h
  obtain ⟨W0, m0, hW0, hm0, hx0, bW0, _, hB0, hlt0⟩ := lay6 (Below.refl _ w) (Nat.le_refl _) 28 (.int .i64 0) (.string ⟨#[]⟩) (.int .i64 0) (.int .u64 0) (.slice none 0 0) (.int .i64 0)
  have hlb := h.box.lt
  have H : Hid (Rst W0 b ao n c ts k ∧ Below w.heap.size w W0 ∧ w.heap.size = m0) := ⟨h.below bW0, bW0, hm0⟩
  have HX : Hid (Box6 W0 m0 28 (.int .i64 0) (.string ⟨#[]⟩) (.int .i64 0) (.int .u64 0) (.slice none 0 0) (.int .i64 0)) := hx0
  have hm0b : ¬ m0 = b := by omega
  have h0b : b < m0 := by omega
  have hki : (k : Int) ≤ 1024 := by have := h.few; have := h.le; omega
  have hpk := peek_any W0 (h.below bW0)
  clear h bW0 hx0
  have hkn : k < n := by have := (List.getElem?_eq_some_iff.1 ht).1; have := H.out.1.len; omega
  rw [pk_at ht] at hpk
  obtain ⟨y, hy⟩ : ∃ y : ByteArray, (⟨t.text.toArray⟩ : ByteArray) = y := ⟨_, rfl⟩
  have hyt : y.data.toList = t.text := by rw [← hy]
  rw [hy, hk] at hpk
  rw [hnum] at hpk
  clear hy
  obtain ⟨tp, htp⟩ : ∃ tp, t.pos = tp := ⟨_, rfl⟩
  rw [htp] at hpk
  obtain ⟨ti, hti⟩ : ∃ ti, t.id = ti := ⟨_, rfl⟩
  rw [hti] at hpk
  have HL : Hid (leafN t = ⟨2, y.data.toList, 0, ti, foOf [], tp⟩) := by
    show leafN t = _
    unfold leafN
    rw [hk, hyt, htp, hnum, hti]
    rfl
  have HT : Hid (ts[k]? = some t ∧ t.kind = 4) := ⟨ht, hk⟩
  clear ht hk hyt htp hnum hti
  go_enter Tryz.func84, Tryz.ntmps84
  go_upto_region 1 with fail
  clear hW0 hm0
  go_wp2_with fail
  refine hpk.mono ?_
  rintro e w2 ⟨rfl, b2⟩
  clear hpk
  have hs2 := b2.size
  obtain ⟨W3, m3, hW3, hm3, hx3, bW3, _, hB3, hlt3⟩ := lay5 (Below.refl _ w2) (Nat.le_refl _) 51 (.int .i64 4) (.string y) (.int .i64 0) (.int .u64 ti) (.int .i64 tp)
  obtain ⟨W5, m5, hW5, hm5, hx5, bW5, b5, hB5, hlt5⟩ := lay6 (Below.refl _ W3) (Nat.le_refl _) 28 (.int .i64 0) (.string y) (.int .i64 0) (.int .u64 ti) (.slice none 0 0) (.int .i64 tp)
  have b25 := (b2.trans (bW3.mono b2.size)).trans (bW5.mono (by have := bW3.size; omega))
  obtain ⟨c0, c1, c2, c3, c4⟩ := hx3.cells
  have y3 := hx3.below bW5
  obtain ⟨z0, z1, z2, z3, z4⟩ := y3.cells
  have hm5b : ¬ m5 = b := by omega
  have hb5 : ¬ b = m5 := by omega
  have hm05 : ¬ m0 = m5 := by omega
  have hm50 : ¬ m5 = m0 := by omega
  have h5m : m0 < m5 := by omega
  have H5 : Hid (Rst W5 b ao n c ts k ∧ Tn b w W5 ∧ Box6 W5 m5 28 (.int .i64 0) (.string y) (.int .i64 0) (.int .u64 ti) (.slice none 0 0) (.int .i64 tp) ∧ Box6 W5 m0 28 (.int .i64 0) (.string ⟨#[]⟩) (.int .i64 0) (.int .u64 0) (.slice none 0 0) (.int .i64 0) ∧ m0 < W5.heap.size) :=
    ⟨H.out.1.below b25, (Tn.of H.out.2.1).trans (Tn.of b25), hx5, HX.out.below b25, by omega⟩
  clear b2 hx3 bW3 hx5 bW5 b5 b25 y3 hs2
  go_upto_region 3 with fail
  clear hW3 hm3 hW5 hm5
  obtain ⟨d0, d1, d2, d3, d4, d5⟩ := H5.out.2.2.1.cells
  obtain ⟨v0, v1, v2, v3, v4, v5⟩ := H5.out.2.2.1.thaw
  obtain ⟨e0, e1, e2⟩ := H5.out.1.cells
  obtain ⟨p0, p1, p2, p3, p4, p5⟩ := H5.out.2.2.2.1.cells
  obtain ⟨q0, q1, q2, q3, q4, q5⟩ := H5.out.2.2.2.1.thaw
  go_wp2_with fail
  have hc : ((k + 1 : Nat) : Int) = (k : Int) + 1 := by omega
  have r6 := (H5.out.1.one (g := m5) (by omega) 0 (.int .i64 2)).next hkn
  have t6 : Tn b w (((W5.setCell ⟨m5, 0, none⟩ (.int .i64 2)).setCell ⟨b, 1, none⟩ (.int .i64 ((k + 1 : Nat) : Int)))) := (H5.out.2.1.one (g := m5) (by have := H.out.2.2; omega) 0 (.int .i64 2)).setCell (p := ⟨b, 1, none⟩) (.inl rfl) _
  rw [hc] at r6 t6
  have hat : ts.drop k = t :: ts.drop (k + 1) := by
    obtain ⟨hlt, e⟩ := List.getElem?_eq_some_iff.1 HT.out.1
    rw [List.drop_eq_getElem_cons hlt, e]
  refine bodyPost_ret (v := .tuple #[.agg #[.int .i64 2, .string y, .int .i64 0, .int .u64 ti, .slice none 0 0, .int .i64 tp], .bool true]) ?_ rfl ⟨2, y, 0, ti, none, 0, 0, tp, true, k + 1, rfl, by omega, ?_, ?_, ?_⟩
  · simp [results, Tryz.f84]
    go_simp
  · exact r6.six (by omega) _ _ _ _ _ _
  · exact Tn.six t6 (by have := H.out.2.2; omega) _ _ _ _ _ _
  · refine .inl ⟨leafN t, rfl, by rw [hat]; exact .leaf (by rw [HT.out.2]; decide) (fun q => by rw [HT.out.2] at q; cases q), ?_⟩
    rw [HL.out]
    exact NdIn.made 2 _ 0 ti tp .nil (RdG.nil _ _ _) (fun q => by simp at q) (Nat.le_refl _)

theorem patom_any {E : Int} {b : Nat} {ao : Option Addr} {n c k : Nat} {ts : List Tk} (hU : ∀ k', k < k' → Pt E (.row 1) 12 b ao n c ts k') (h33 : hd (sB [33]) (ts.drop k) = false) : Pt E .atom 84 b ao n c ts k := by
  intro w h
  rcases Nat.lt_or_ge k n with hk | hk
  · obtain ⟨t, ht⟩ : ∃ t, ts[k]? = some t := ⟨_, List.getElem?_eq_getElem (by rw [h.len]; exact hk)⟩
    rcases tk_kinds (h.good t (List.mem_of_getElem? ht)) with ⟨a1, a2, a3, a4⟩ | ⟨a1, a2, a3⟩ | ⟨a1, a2, a3⟩ | ⟨a1, a2, a3⟩ | a1
    · exact patom_name ht a1 a2 a3 a4 (fun k' q => hU k' (by omega)) w h
    · exact patom_num ht a1 a3 w h
    · exact patom_text ht a1 a2 a3 w h
    · exact patom_hash ht a1 a3 w h
    · exact patom_sign (.inl (by rw [pk_at ht, a1])) (pbrac_any (fun _ => hU _ (by omega)) (fun _ => by rw [pk_at ht, a1]) h33) w h
  · exact patom_sign (.inr (by rw [pk_end (by rw [h.len]; exact hk)]; rfl)) (pbrac_any (fun _ => hU _ (by omega)) (fun q => by omega) h33) w h

end Go.Proofs.YtijchmcajhdcoaaGreatDoor
