/-
  The law FilterMakes, walked: of whatever list it returns true, and what was there when it was called is as it was.
-/
import Derived.Test.YtkoelofjgceohaaXAwake
import Derived.Test.YtkoelofjgceohaaXRMake
import Derived.Deep.RegionWith
namespace Go.Proofs.Ytkoelofjgceohaa
open Go.RowKit

theorem few_class {ao : Option Addr} {c n : Nat} {W : World} (hn : n ≤ 9223372036854775807) (f : Bool) (hf : decide (n ≤ 200) = f) (u : SW (Grew W)) :
    Calls Try.prog 9 #[.slice ao n c] u.w fun e w' => e = .returned (.bool f) ∧ ∃ u' : SW (Grew W), w' = u'.w := by
  refine (few_any hn f hf u.w).mono ?_
  rintro e w' ⟨rfl, rfl⟩
  exact ⟨rfl, u, rfl⟩
theorem awake_class {W : World} (u : SW (Grew W)) :
    Calls Try.prog 8 #[] u.w fun e w' => e = .returned (.bool true) ∧ ∃ u' : SW (Grew W), w' = u'.w := by
  refine (awake_walk u.w).mono ?_
  rintro e w' ⟨rfl, hb⟩
  exact ⟨rfl, ⟨w', Below.trans u.ok (hb.mono (Below.size u.ok))⟩, rfl⟩

set_option maxHeartbeats 4000000 in
set_option maxRecDepth 100000 in
theorem makes_walk (ao : Option Addr) (n c : Nat) (ch : List Bs) (W : World) (hl : ch.length = n) (hcn : n ≤ 9223372036854775807) (hin : Rd W ao ch) (hpx : ∀ x ∈ ch, x.length ≤ 9223372036854775807) :
    Calls Try.prog 3 #[.slice ao n c] W fun e w' => e = .returned (.bool true) ∧ Below W.heap.size W w' := by
  have H : Hid (ch.length = n ∧ Rd W ao ch ∧ ∀ x ∈ ch, x.length ≤ 9223372036854775807) := ⟨hl, hin, hpx⟩
  clear hl hin hpx
  by_cases hf : n ≤ 200
  · have hfw := few_any (ao := ao) (c := c) hcn true (by simpa using hf)
    obtain ⟨F, hF⟩ : ∃ F, fmake ch = F := ⟨_, rfl⟩
    have FF : Hid (fmake ch = F) := hF
    clear hF
    go_enter Try.func3, Try.ntmps3
    go_wp2_with fail
    go_region_with
      (first
        | (go_at_call 8; (with_reducible refine (awake_walk _).mono ?_); rintro e w1 ⟨rfl, B1⟩; have G1 : Hid (Below W.heap.size W w1) := below_drew B1; clear B1)
        | (go_at_call 9; (with_reducible refine (hfw _).mono ?_); rintro e w2 ⟨rfl, rfl⟩)
        | (go_at_call 10; refine (make_any (c := c) _ (H.out.2.1.below G1.out) H.out.1 (by omega) H.out.2.2).mono ?_; rintro e w3 ⟨v3, rfl, O3, B3⟩; have A3 := OwnB.at (OwnG.low O3 (Nat.zero_le _)); rw [FF.out] at A3; have hcv3 := conv_str A3; have G3 : Hid (Below W.heap.size W w3 ∧ BAt w3 v3 F) := ⟨G1.out.trans (B3.mono G1.out.size), A3⟩; clear O3 B3 A3)
        | (go_at_call 11; refine (rmake_any (c := c) _ (H.out.2.1.below G3.out.1) H.out.1 (by omega)).mono ?_; rw [FF.out]; rintro e w4 ⟨rfl, B4⟩; have hcv4 := conv_str (G3.out.2.below B4); have G4 : Hid (Below W.heap.size W w4) := G3.out.1.trans (B4.mono G3.out.1.size); clear B4))
    all_goals
      go_wp2
      go_ret
      exact ⟨by simp [Act.put], G4.out⟩
  · have h1 := fun u => few_class (ao := ao) (c := c) (W := W) hcn false (by simpa using hf) u
    go_enter Try.func3, Try.ntmps3
    go_wp2_with fail
    have NE : Nonempty (SW (Grew W)) := ⟨⟨W, Below.refl _ W⟩⟩
    refine wp_region_class (S := Grew W) (by kernel_rfl) (by kernel_rfl) (Below.refl _ W).drew ?_
    repeat (go_big_quiet_step (first | with_reducible exact awake_class _ | with_reducible exact h1 _))
    refine wpQuiet_nil ?_
    intro _ hw'
    obtain ⟨u, hw''⟩ := hw'
    subst hw''
    have B : Hid (Below W.heap.size W u.w) := u.ok
    go_wp2
    go_ret
    exact ⟨rfl, B.out⟩

end Go.Proofs.Ytkoelofjgceohaa
