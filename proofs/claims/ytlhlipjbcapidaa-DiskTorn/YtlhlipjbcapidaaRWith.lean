/-
  The reference's with, by a contract. No condition but that there are few files, in rising order.
-/
import Derived.Test.YtlhlipjbcapidaaRef
import Derived.Test.YtlhlipjbcapidaaGClass
namespace Go.Proofs.Ytlhlipjbcapidaa
open Go.RowKit

theorem with_small {n v : Bs} : ∀ {a b : Fs}, (∀ f ∈ a, f.1 < n) → fwith (a ++ b) n v = a ++ fwith b n v
  | [], b, _ => rfl
  | f :: t, b, h => by
    have h1 : f.1 < n := h f List.mem_cons_self
    have ih := with_small (v := v) (b := b) (fun g hg => h g (List.mem_cons_of_mem _ hg) : ∀ g ∈ t, g.1 < n)
    simp only [List.cons_append, fwith]
    rw [if_neg (fs_asymm h1), if_neg (fun e => by rw [e] at h1; exact fs_irrefl _ h1), ih]

theorem with_snoc {n v : Bs} {x : Bs × Bs} : ∀ {l : Fs}, (∃ f ∈ l, ¬ f.1 < n) → fwith (l ++ [x]) n v = fwith l n v ++ [x]
  | [], h => by obtain ⟨f, hf, _⟩ := h; cases hf
  | f :: t, h => by
    simp only [List.cons_append, fwith]
    split
    · simp
    · split
      · simp
      · rename_i h1 h2
        have hlt : f.1 < n := by
          rcases fs_tri f.1 n with q | q | q
          · exact q
          · exact absurd q h2
          · exact absurd q h1
        obtain ⟨g, hg, hn⟩ := h
        rcases List.mem_cons.1 hg with rfl | q
        · exact absurd hlt hn
        · rw [with_snoc ⟨g, q, hn⟩]
          rfl

/-- What the walk over the list has laid. -/
def Laid (l : Fs) (n v : Bs) (i : Nat) (done : Bool) (out : Fs) : Prop := (done = false ∧ (∀ f ∈ l.take i, f.1 < n) ∧ out = l.take i) ∨ (done = true ∧ (∃ f ∈ l.take i, ¬ f.1 < n) ∧ out = fwith (l.take i) n v)

theorem take_snoc {l : Fs} {i : Nat} {x : Bs × Bs} (h : l[i]? = some x) : l.take (i + 1) = l.take i ++ [x] := by rw [List.take_add_one, h]; rfl

theorem laid_len {l : Fs} {n v : Bs} {i : Nat} {out : Fs} (h : Laid l n v i false out) : out.length ≤ i := by
  rcases h with ⟨_, _, h2⟩ | ⟨q, _⟩
  · rw [h2, List.length_take]; omega
  · cases q

theorem laid_less {l : Fs} {n v m u : Bs} {i : Nat} {out : Fs} (h : Laid l n v i false out) (hx : l[i]? = some (m, u)) (hm : m < n) : Laid l n v (i + 1) false (out ++ [(m, u)]) := by
  rcases h with ⟨_, h1, h2⟩ | ⟨q, _⟩
  · refine .inl ⟨rfl, ?_, by rw [h2, take_snoc hx]⟩
    intro f hf
    rw [take_snoc hx] at hf
    rcases List.mem_append.1 hf with q | q
    · exact h1 f q
    · simp at q; rw [q]; exact hm
  · cases q

theorem laid_same {l : Fs} {n v u : Bs} {i : Nat} {out : Fs} (h : Laid l n v i false out) (hx : l[i]? = some (n, u)) : Laid l n v (i + 1) true (out ++ [(n, v)]) := by
  rcases h with ⟨_, h1, h2⟩ | ⟨q, _⟩
  · refine .inr ⟨rfl, ⟨(n, u), by rw [take_snoc hx]; simp, fs_irrefl _⟩, ?_⟩
    rw [h2, take_snoc hx, with_small h1]
    simp [fwith, fs_irrefl]
  · cases q

theorem laid_more {l : Fs} {n v m u : Bs} {i : Nat} {out : Fs} (h : Laid l n v i false out) (hx : l[i]? = some (m, u)) (hm : n < m) : Laid l n v (i + 1) true (out ++ [(n, v)] ++ [(m, u)]) := by
  rcases h with ⟨_, h1, h2⟩ | ⟨q, _⟩
  · refine .inr ⟨rfl, ⟨(m, u), by rw [take_snoc hx]; simp, fs_asymm hm⟩, ?_⟩
    rw [h2, take_snoc hx, with_small h1]
    simp [fwith, hm]
  · cases q

theorem laid_done {l : Fs} (hr : FRise l) {n v m u : Bs} {i : Nat} {out : Fs} (h : Laid l n v i true out) (hx : l[i]? = some (m, u)) : n < m ∧ Laid l n v (i + 1) true (out ++ [(m, u)]) := by
  rcases h with ⟨q, _⟩ | ⟨_, ⟨f, hf, hn⟩, h2⟩
  · cases q
  · have hfm : f.1 < m := by
      obtain ⟨j, hj, e⟩ := List.getElem_of_mem hf
      have hji : j < i := by simp at hj; omega
      obtain ⟨hi, ei⟩ := List.getElem?_eq_some_iff.1 hx
      have := List.pairwise_iff_getElem.1 hr j i (by omega) hi hji
      rw [ei] at this
      rw [List.getElem_take] at e
      rw [e] at this
      exact this
    have hnm : n < m := by
      rcases fs_tri f.1 n with q | q | q
      · exact absurd q hn
      · rw [← q]; exact hfm
      · exact fs_trans q hfm
    refine ⟨hnm, .inr ⟨rfl, ⟨f, by rw [take_snoc hx]; exact List.mem_append_left _ hf, hn⟩, ?_⟩⟩
    rw [take_snoc hx, with_snoc ⟨f, hf, hn⟩, h2]

set_option maxHeartbeats 3200000 in
set_option maxRecDepth 100000 in
/-- The reference's with. -/
theorem with_any {ao : Option Addr} {L c : Nat} (l : Fs) (n v : Bs) (w : World) (h : RdG encF w ao l) (hL : l.length = L) (hl : L ≤ 1000) (hr : FRise l) :
    Calls Try.prog 48 #[.slice ao L c, .agg #[tx n, tx v]] w fun e w' => ∃ u, e = .returned u ∧ OwnG encF 70 w' w.heap.size u (fwith l n v) ∧ Below w.heap.size w w' := by
  have H : Hid (RdG encF w ao l ∧ l.length = L ∧ FRise l) := ⟨h, hL, hr⟩
  clear h hL hr
  obtain ⟨W, hW⟩ : ∃ W, w.alloc (.cells #[tx n, tx v] 70) = W := ⟨_, rfl⟩
  have HW : Hid (Below w.heap.size w W ∧ W.cell? ⟨w.heap.size, 0, none⟩ = some (tx n) ∧ W.cell? ⟨w.heap.size, 1, none⟩ = some (tx v) ∧ w.heap.size < W.heap.size) := by rw [← hW]; exact ⟨bz1 _ _, by simp, by simp, by simp⟩
  go_enter Try.func48, Try.ntmps48
  go_wp2_with fail
  go_loopg [5, 6, 7] L (fun k lv dv iv wr => ∃ (i : Nat) (dn : Bool) (out : Fs), iv = .int .i64 i ∧ i + k = L ∧ dv = .bool dn ∧ Hid (Laid l n v i dn out ∧ out.length ≤ i + 1 ∧ OwnG encF 70 wr W.heap.size lv out ∧ Below W.heap.size W wr))
  case atStart => exact ⟨0, false, [], rfl, by omega, rfl, .inl ⟨rfl, by simp, by simp⟩, by simp, OwnG.nil _ _ _ _, Below.refl _ _⟩
  case round =>
    obtain ⟨i, dn, out, rfl, hi, rfl, HR⟩ := hrel
    have B0 := HW.out.1.trans (HR.out.2.2.2.mono HW.out.1.size)
    have k0 := (HR.out.2.2.2.cell (p := ⟨w.heap.size, 0, none⟩) HW.out.2.2.2).trans HW.out.2.1
    have k1 := (HR.out.2.2.2.cell (p := ⟨w.heap.size, 1, none⟩) HW.out.2.2.2).trans HW.out.2.2.1
    by_cases hin : i < L
    · have id : (i : Int) < (L : Int) := by omega
      obtain ⟨m, u, hm⟩ := get_fs H.out.2.1 hin
      have R := H.out.1.below B0
      obtain ⟨b1, o1, rfl, hlt⟩ := R.some_of hm
      obtain ⟨cc, cd⟩ := R.files hm
      have X : Hid (l[i]? = some (m, u)) := hm
      clear R hm B0
      have G : Hid (Laid l n v i dn out ∧ out.length ≤ i + 1 ∧ OwnG encF 70 wr W.heap.size u5 out ∧ Below W.heap.size W wr) := HR
      clear HR
      have sz : W.heap.size ≤ wr.heap.size := G.out.2.2.2.size
      cases dn with
      | false =>
        rcases fs_tri m n with hlt' | heq | hgt
        · have q1 : (Op.bytesLess n m || n == m) = false := by
            rw [Go.Proofs.bytesLess_eq, decide_eq_false (fs_asymm hlt'), Bool.false_or, beq_eq_false_iff_ne]
            intro e; rw [e] at hlt'; exact fs_irrefl _ hlt'
          have q2 : (!n == m) = true := by
            have : (n == m) = false := by rw [beq_eq_false_iff_ne]; intro e; rw [e] at hlt'; exact fs_irrefl _ hlt'
            rw [this]; rfl
          have Q : Hid (m < n) := hlt'
          clear hlt'
          go_wp2_with fail
          go_quiet (fail)
          go_wp2_with fail
          go_quiet (fail)
          go_wp2_with (at_builtin; (refine appG_one encF 70 26 32 _ rfl info70 Try.underlying26 rfl (.tmp 38) (.tmp 43) rfl W.heap.size _ out (m, u) 70 (by rfl) (G.out.2.2.1.below (below_drewN (Below.refl _ _) _)) (by rfl) (by have := G.out.2.1; omega) (by have := G.out.2.1; simp only [maxLen]; omega) sz _ rfl ?_; intro v2 w2 O2 B2 _ _))
          go_wp2
          go_roundg (gk - 1)
          all_goals first
            | omega
            | exact ⟨i + 1, false, _, by go_num, by omega, rfl, laid_less G.out.1 X.out Q.out, by have := G.out.2.1; simp; omega, O2, (below_drewN G.out.2.2.2 _).trans B2⟩
        · subst heq
          have q1 : (Op.bytesLess m m || m == m) = true := by simp
          have q2 : (!m == m) = false := by simp
          go_wp2_with fail
          go_quiet (fail)
          go_wp2_with (at_builtin; (refine appG_one encF 70 26 32 _ rfl info70 Try.underlying26 rfl (.tmp 26) (.tmp 28) rfl W.heap.size _ out (m, v) 70 (by rfl) (G.out.2.2.1.below (below_drewN (Below.refl _ _) _)) (by rfl) (by have := G.out.2.1; omega) (by have := G.out.2.1; simp only [maxLen]; omega) sz _ rfl ?_; intro v2 w2 O2 B2 _ _))
          have C : Hid (OwnG encF 70 w2 W.heap.size v2 (out ++ [(m, v)]) ∧ Below W.heap.size W w2) := ⟨O2, (below_drewN G.out.2.2.2 _).trans B2⟩
          have k0 := (C.out.2.cell (p := ⟨w.heap.size, 0, none⟩) HW.out.2.2.2).trans HW.out.2.1
          have R := H.out.1.below (HW.out.1.trans (C.out.2.mono HW.out.1.size))
          have cc := (R.files X.out).1
          clear O2 B2 R
          go_wp2_with fail
          go_quiet (fail)
          go_wp2
          go_roundg (gk - 1)
          all_goals first
            | omega
            | exact ⟨i + 1, true, _, by go_num, by omega, rfl, laid_same G.out.1 X.out, by have := G.out.2.1; simp; omega, C.out.1.below (below_drewN (Below.refl _ _) _), below_drewN C.out.2 _⟩
        · have hne : (n == m) = false := by rw [beq_eq_false_iff_ne]; intro e; rw [e] at hgt; exact fs_irrefl _ hgt
          have q1 : (Op.bytesLess n m || n == m) = true := by
            rw [Go.Proofs.bytesLess_eq, decide_eq_true hgt]; rfl
          have q2 : (!n == m) = true := by rw [hne]; rfl
          have Q : Hid (n < m) := hgt
          clear hgt hne
          go_wp2_with fail
          go_quiet (fail)
          go_wp2_with (at_builtin; (refine appG_one encF 70 26 32 _ rfl info70 Try.underlying26 rfl (.tmp 26) (.tmp 28) rfl W.heap.size _ out (n, v) 70 (by rfl) (G.out.2.2.1.below (below_drewN (Below.refl _ _) _)) (by rfl) (by have := G.out.2.1; omega) (by have := G.out.2.1; simp only [maxLen]; omega) sz _ rfl ?_; intro v2 w2 O2 B2 _ _))
          have C : Hid (OwnG encF 70 w2 W.heap.size v2 (out ++ [(n, v)]) ∧ Below W.heap.size W w2) := ⟨O2, (below_drewN G.out.2.2.2 _).trans B2⟩
          have k0 := (C.out.2.cell (p := ⟨w.heap.size, 0, none⟩) HW.out.2.2.2).trans HW.out.2.1
          have R := H.out.1.below (HW.out.1.trans (C.out.2.mono HW.out.1.size))
          obtain ⟨cc, cd⟩ := R.files X.out
          have sz2 : W.heap.size ≤ w2.heap.size := C.out.2.size
          clear O2 B2 R
          go_wp2_with fail
          go_quiet (fail)
          go_wp2_with (at_builtin; (refine appG_one encF 70 26 32 _ rfl info70 Try.underlying26 rfl (.tmp 38) (.tmp 43) rfl W.heap.size _ (out ++ [(n, v)]) (m, u) 70 (by rfl) (C.out.1.below (below_drewN (Below.refl _ _) _)) (by rfl) (by have := G.out.2.1; simp; omega) (by have := G.out.2.1; simp [maxLen]; omega) sz2 _ rfl ?_; intro v3 w3 O3 B3 _ _))
          go_wp2
          go_roundg (gk - 1)
          all_goals first
            | omega
            | exact ⟨i + 1, true, _, by go_num, by omega, rfl, laid_more G.out.1 X.out Q.out, by have := laid_len G.out.1; simp; omega, O3, (below_drewN C.out.2 _).trans B3⟩
      | true =>
        have D := laid_done H.out.2.2 G.out.1 X.out
        have hne : (n == m) = false := by rw [beq_eq_false_iff_ne]; intro e; have := D.1; rw [e] at this; exact fs_irrefl _ this
        have q2 : (!n == m) = true := by rw [hne]; rfl
        have DD : Hid (Laid l n v (i + 1) true (out ++ [(m, u)])) := D.2
        clear D hne
        go_wp2_with fail
        go_quiet (fail)
        go_wp2_with fail
        go_quiet (fail)
        go_wp2_with (at_builtin; (refine appG_one encF 70 26 32 _ rfl info70 Try.underlying26 rfl (.tmp 38) (.tmp 43) rfl W.heap.size _ out (m, u) 70 (by rfl) (G.out.2.2.1.below (below_drewN (Below.refl _ _) _)) (by rfl) (by have := G.out.2.1; omega) (by have := G.out.2.1; simp only [maxLen]; omega) sz _ rfl ?_; intro v2 w2 O2 B2 _ _))
        go_wp2
        go_roundg (gk - 1)
        all_goals first
          | omega
          | exact ⟨i + 1, true, _, by go_num, by omega, rfl, DD.out, by have := G.out.2.1; simp; omega, O2, (below_drewN G.out.2.2.2 _).trans B2⟩
    · obtain rfl : i = L := by omega
      have e0 : l.take i = l := List.take_of_length_le (by rw [H.out.2.1]; exact Nat.le_refl _)
      have hLa := HR.out.1
      unfold Laid at hLa
      rw [e0] at hLa
      have G : Hid (OwnG encF 70 wr W.heap.size u5 out ∧ Below W.heap.size W wr ∧ out.length ≤ i + 1) := ⟨HR.out.2.2.1, HR.out.2.2.2, HR.out.2.1⟩
      have sz : W.heap.size ≤ wr.heap.size := G.out.2.1.size
      have LH : Hid _ := hLa
      clear HR hLa
      cases dn with
      | false =>
        have hf : fwith l n v = out ++ [(n, v)] := by
          rcases LH.out with ⟨_, h1, h2⟩ | ⟨q, _⟩
          · have := with_small (v := v) (b := []) h1
            rw [List.append_nil] at this
            rw [this, h2]; rfl
          · cases q
        clear LH
        go_wp2_with (at_builtin; (refine appG_one encF 70 26 32 _ rfl info70 Try.underlying26 rfl (.tmp 47) (.tmp 49) rfl W.heap.size _ out (n, v) 70 rfl G.out.1 rfl (by have := G.out.2.2; omega) (by have := G.out.2.2; simp only [maxLen]; omega) sz _ rfl ?_; intro v2 w2 O2 B2 _ _))
        go_wp2
        go_ret
        rw [hf]
        exact ⟨_, rfl, OwnG.low O2 HW.out.1.size, HW.out.1.trans ((G.out.2.1.trans B2).mono HW.out.1.size)⟩
      | true =>
        have hf : fwith l n v = out := by
          rcases LH.out with ⟨q, _⟩ | ⟨_, _, h2⟩
          · cases q
          · exact h2.symm
        clear LH
        go_wp2
        go_ret
        rw [hf]
        exact ⟨_, rfl, OwnG.low G.out.1 HW.out.1.size, HW.out.1.trans (G.out.2.1.mono HW.out.1.size)⟩

end Go.Proofs.Ytlhlipjbcapidaa
