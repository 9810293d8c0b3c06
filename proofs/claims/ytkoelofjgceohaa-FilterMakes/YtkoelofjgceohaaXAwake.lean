/-
  awake and few of layer 11's statements, each by a contract: awake returns true. No condition.
-/
import Derived.Test.YtkoelofjgceohaaXMake
namespace Go.Proofs.Ytkoelofjgceohaa
open Go.RowKit

theorem fmake_none : fmake [] = [1, 0] := by decide +kernel
theorem fmake_ab : fbits (fmake [[97, 47, 98]]) = 24 ∧ (fmake [[97, 47, 98]]).length = 4 := by
  have h1 : fcount [[97, 47, 98]] = 1 := by decide +kernel
  have h2 : (fpaths [[97, 47, 98]]).length = 2 := by decide +kernel
  rw [fmake, if_neg (by rw [h1]; decide), fbits_made, h2, List.length_cons, fbytes_len]
  decide
theorem fmaybe_none (p : Bs) : fmaybe [1, 0] p = false := by
  have h : (fpaths []).length = 0 := by decide +kernel
  have h2 : fones [] = [] := by decide +kernel
  rw [← fmake_none, fmaybe_made _ _ (by decide +kernel), h, h2]
  have e : poss p (8 * ((nby 0 : Nat) : Int)) = [pos1 p 8 0, pos1 p 8 1, pos1 p 8 2] := by
    have : (8 * ((nby 0 : Nat) : Int)) = 8 := by decide
    rw [this]
    rfl
  rw [e]
  rfl

set_option maxHeartbeats 1600000 in
set_option maxRecDepth 100000 in
theorem awake_walk (w : World) : Calls Try.prog 8 #[] w fun e w' => e = .returned (.bool true) ∧ Below w.heap.size w w' := by
  have h1 := make_any (c := 0) w (Rd.nil w none) (n := 0) rfl (by decide) (by simp)
  rw [fmake_none] at h1
  go_enter Try.func8, Try.ntmps8
  go_wp2_with fail
  refine h1.mono ?_
  rintro e w1 ⟨v1, rfl, O1, B1⟩
  obtain ⟨a1, c1, rfl, l1, l2, R1, q1⟩ := O1.form
  obtain ⟨g1, rfl⟩ := q1 (by decide)
  have A1 : BAt w1 (.slice (some ⟨g1, 0, none⟩) 2 c1) [1, 0] := ⟨_, c1, rfl, l1, l2, R1⟩
  have k0 : w1.cell? ⟨g1, 0, none⟩ = some (.int .u8 1) := A1.byte (i := 0) rfl
  have k1 : w1.cell? ⟨g1, 1, none⟩ = some (.int .u8 0) := by have := A1.byte (i := 1) (x := 0) rfl; rwa [Nat.zero_add] at this
  have G1 : Hid (BAt w1 (.slice (some ⟨g1, 0, none⟩) 2 c1) [1, 0] ∧ Below w.heap.size w w1) := ⟨A1, B1⟩
  have e2 : ([1, 0] : Bs).length = 2 := rfl
  rw [e2]
  have h2 := make_any (c := 1) (w1.alloc (.cells #[.string ⟨#[97, 47, 98]⟩] 9)) (rd_lit w1 [[97, 47, 98]] 9 _ rfl) (n := 1) rfl (by decide) (by simp)
  clear O1 l1 l2 R1 q1 A1 B1 e2 h1
  go_wp2_with fail
  refine h2.mono ?_
  rintro e w2 ⟨v2, rfl, O2, B2⟩
  obtain ⟨a2, c2, rfl, l1, l2, R2, q2⟩ := O2.form
  rw [fmake_ab.2] at l1 ⊢
  have A2 : BAt w2 (.slice a2 4 c2) (fmake [[97, 47, 98]]) := ⟨_, c2, by rw [fmake_ab.2], by rw [fmake_ab.2]; exact l1, l2, R2⟩
  have h3 := bits_any w2 A2 fmake_ab.2 (by decide) 24 fmake_ab.1
  have G2 : Hid (BAt w2 (.slice (some ⟨g1, 0, none⟩) 2 c1) [1, 0] ∧ Below w.heap.size w w2) := ⟨(G1.out.1.below (bz1 w1 _)).below B2, (G1.out.2.trans ((bz1 w1 _).mono G1.out.2.size)).trans (B2.mono (by have := G1.out.2.size; simp; omega))⟩
  clear O2 l1 l2 R2 q2 A2 B2 h2 k0 k1 G1
  go_wp2_with fail
  refine h3.mono ?_
  rintro e w3 ⟨rfl, rfl⟩
  have h4 := maybe_any (n := 1) (c := 1) [97] (w3.alloc (.cells #[.int .u8 2] 5)) (bat_lit w3 [2] 5 (0, 0) _ rfl 1 rfl (by decide)) rfl (by decide) (by decide) true (fmaybe_wide _)
  go_wp2_with fail
  refine h4.mono ?_
  rintro e w4 ⟨rfl, B4⟩
  have G4 : Hid (BAt w4 (.slice (some ⟨g1, 0, none⟩) 2 c1) [1, 0] ∧ Below w.heap.size w w4) := ⟨(G2.out.1.below (bz1 w3 _)).below B4, (G2.out.2.trans ((bz1 w3 _).mono G2.out.2.size)).trans (B4.mono (by have := G2.out.2.size; simp; omega))⟩
  clear h3 h4 B4 G2
  go_wp2_with fail
  refine (positions_any [97] 9 (by decide) (by decide) w4).mono ?_
  rintro e w5 ⟨v5, rfl, O5, B5⟩
  obtain ⟨a5, c5, rfl, _, _, _, _⟩ := O5.form
  have G5 : Hid (BAt w5 (.slice (some ⟨g1, 0, none⟩) 2 c1) [1, 0] ∧ Below w.heap.size w w5) := ⟨G4.out.1.below B5, G4.out.2.trans (B5.mono G4.out.2.size)⟩
  have e5 : (poss [97] 9).length = 3 := poss_len (by decide)
  rw [e5]
  clear O5 B5 e5 G4
  go_wp2_with fail
  refine (maybe_any (n := 2) (c := c1) [97] w5 G5.out.1 rfl (by decide) (by decide) false (fmaybe_none _)).mono ?_
  rintro e w6 ⟨rfl, B6⟩
  have B : Hid (Below w.heap.size w w6) := G5.out.2.trans (B6.mono G5.out.2.size)
  clear B6
  go_wp2
  go_ret
  exact ⟨rfl, B.out⟩

set_option maxHeartbeats 400000 in
theorem few_any {ao : Option Addr} {c n : Nat} (hn : n ≤ 9223372036854775807) (f : Bool) (hf : decide (n ≤ 200) = f) (w : World) : Calls Try.prog 9 #[.slice ao n c] w fun e w' => e = .returned (.bool f) ∧ w' = w := by
  subst hf
  go_enter Try.func9, Try.ntmps9
  go_wp2
  go_ret
  refine ⟨congrArg (fun b => Ending.returned (Value.bool b)) ?_, rfl⟩
  rw [Bool.eq_iff_iff]
  simp
  try omega

end Go.Proofs.Ytkoelofjgceohaa
