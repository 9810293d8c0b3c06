/-
  The law PathSorts, walked: of whatever list it returns true, and what was there when it was called is as it was.
-/
import Derived.Test.YtcecgcgnpildpaaSpread
import Derived.Test.YtcecgcgnpildpaaAwake
namespace Go.Proofs.Ytcecgcgnpildpaa
open Go.RowKit

theorem own_zero (w : World) (base : Nat) (hb : base ≤ w.heap.size) : Own (w.alloc (.cells #[] 9)) base (.slice (some ⟨w.heap.size, 0, none⟩) 0 0) [] :=
  World.ownsRow_lit w _ 0 hb (by decide) rfl

set_option maxHeartbeats 1600000 in
set_option maxRecDepth 100000 in
theorem sorts_walk (ao : Option Addr) (n c : Nat) (xs : List Bs) (W : World) (hl : xs.length = n) (hcn : n ≤ 9223372036854775807) (hin : Rd W ao xs) :
    Calls Try.prog 5 #[.slice ao n c] W fun e w' => e = .returned (.bool true) ∧ Below W.heap.size W w' := by
  have H : Hid (xs.length = n ∧ Rd W ao xs) := ⟨hl, hin⟩
  clear hl hin
  go_enter Try.func5, Try.ntmps5
  go_wp2_with fail
  refine (awake_any _).mono ?_
  rintro e w1 ⟨rfl, hb1⟩
  have B1 : Hid (Below W.heap.size W w1) := hb1
  clear hb1
  by_cases hbig : 300 < n
  · have hbi : (300 : Int) < (n : Int) := by omega
    go_wp2
    go_ret
    exact ⟨rfl, B1.out⟩
  · have hbi : decide ((300 : Int) < (n : Int)) = false := decide_eq_false (by omega)
    have hbz : Below w1.heap.size w1 (w1.alloc (.cells #[] 9)) := (Below.refl _ w1).alloc (Nat.le_refl _) _
    have B2 : Hid (Below W.heap.size W (w1.alloc (.cells #[] 9)) ∧ Rd (w1.alloc (.cells #[] 9)) ao xs) := ⟨B1.out.trans (hbz.mono B1.out.size), (H.out.2.below B1.out).below hbz⟩
    clear hbz
    go_wp2_with (first
      | (at_builtin; refine app_list rfl (.tmp 10) (.tmp 11) rfl w1.heap.size _ [] xs ao n c rfl (own_zero w1 _ (Nat.le_refl _)) rfl B2.out.2 H.out.1 (by simp; omega) (by simp) ?_; intro v2 w2 hown2 hbel2)
      | fail)
    rw [List.nil_append] at hown2
    obtain ⟨ao2, cap2, rfl, _, _, R2⟩ := hown2.form
    rw [H.out.1]
    have B3 : Hid (Below W.heap.size W w2 ∧ Rd w2 ao2 xs) := ⟨B2.out.1.trans (hbel2.mono B1.out.size), R2⟩
    clear hown2 hbel2 R2 B2
    refine (sort_any w2 B3.out.2 H.out.1 (by omega)).mono ?_
    rintro e w3 ⟨v3, rfl, ho3, hb3⟩
    obtain ⟨T, hT⟩ : ∃ T, srt xs = T := ⟨_, rfl⟩
    rw [hT] at ho3
    obtain ⟨ao3, cap3, rfl, _, _, R3⟩ := ho3.form
    have ht : T.length ≤ 300 := by rw [← hT]; have := srt_len xs; rw [H.out.1] at this; omega
    obtain ⟨tn, htn⟩ : ∃ tn, T.length = tn := ⟨_, rfl⟩
    rw [htn]
    have B4 : Hid (Below W.heap.size W w3 ∧ Rd w3 ao2 xs ∧ Rd w3 ao3 T ∧ T.length = tn ∧ srt xs = T) := ⟨B3.out.1.trans (hb3.mono B3.out.1.size), B3.out.2.below hb3, R3, htn, hT⟩
    have htn3 : tn ≤ 300 := by omega
    clear ho3 hb3 R3 htn hT ht B3
    go_wp2_with fail
    refine (rsort_any w3 (H.out.2.below B4.out.1) H.out.1 (by omega)).mono ?_
    rintro e w4 ⟨ao4, c4, rfl, R4, hb4⟩
    rw [B4.out.2.2.2.2] at R4
    rw [B4.out.2.2.2.2, B4.out.2.2.2.1]
    have B5 : Hid (Below W.heap.size W w4 ∧ Rd w4 ao2 xs ∧ Rd w4 ao3 T ∧ Rd w4 ao4 T) := ⟨B4.out.1.trans (hb4.mono B4.out.1.size), B4.out.2.1.below hb4, B4.out.2.2.1.below hb4, R4⟩
    clear R4 hb4
    go_wp2_with fail
    refine (same_any w4 B5.out.2.2.1 B5.out.2.2.2 B4.out.2.2.2.1 B4.out.2.2.2.1 (by omega) true (by simp)).mono ?_
    rintro e w5 ⟨rfl, m, rfl⟩
    go_wp2_with fail
    refine (same_any (w4.drewN m) (B5.out.2.1.below (below_drewN (Below.refl _ _) m)) (H.out.2.below (below_drewN B5.out.1 m)) H.out.1 H.out.1 (by omega) true (by simp)).mono ?_
    rintro e w6 ⟨rfl, m2, rfl⟩
    go_wp2
    go_ret
    exact ⟨rfl, below_drewN B5.out.1 _⟩

end Go.Proofs.Ytcecgcgnpildpaa
