/-
  strings.CutPrefix and strings.HasPrefix as path.Under calls them, and path.Under by a contract. No condition.
-/
import Derived.Test.YtofbphmdkhocdaaGreatPShelf
namespace Go.Proofs.YtofbphmdkhocdaaGreat
open Go.RowKit

theorem cutPrefix_at (p d : ByteArray) (r : Bs) (f : Bool) (hf : d.data.toList.isPrefixOf p.data.toList = f) (hr : r = if f then p.data.toList.drop d.data.toList.length else p.data.toList) (w : World) :
    Calls Tryz.prog 71 #[.string p, .string d] w fun e w' => e = .returned (.tuple #[.string ⟨r.toArray⟩, .bool f]) ∧ w' = w := by
  have h := Any.strings_CutPrefix layCutPrefix p d w
  subst hf hr
  exact h
theorem hasPrefix_at (r : Bs) (g : Bool) (hg : [47].isPrefixOf r = g) (w : World) :
    Calls Tryz.prog 72 #[.string ⟨r.toArray⟩, .string ⟨#[47]⟩] w fun e w' => e = .returned (.bool g) ∧ w' = w := by
  subst hg
  exact Any.strings_HasPrefix layHasPrefix ⟨r.toArray⟩ ⟨#[47]⟩ w

set_option maxHeartbeats 800000 in
set_option maxRecDepth 100000 in
theorem under_any (p d : ByteArray) (w : World) :
    Calls Tryz.prog 54 #[.string p, .string d] w fun e w' => e = .returned (.bool (under p.data.toList d.data.toList)) ∧ w' = w := by
  have U := under_trim p.data.toList d.data.toList
  obtain ⟨f, hf⟩ : ∃ f, d.data.toList.isPrefixOf p.data.toList = f := ⟨_, rfl⟩
  rw [← U, hf]
  cases f with
  | false =>
    have h1 := cutPrefix_at p d _ false hf rfl
    rw [Bool.false_and]
    clear U hf
    go_enter Tryz.func54, Tryz.ntmps54
    go_wp2_with fail
    refine (h1 _).mono ?_
    rintro e w' ⟨rfl, rfl⟩
    go_wp2
    go_ret
    exact ⟨rfl, rfl⟩
  | true =>
    obtain ⟨r, hr⟩ : ∃ r, p.data.toList.drop d.data.toList.length = r := ⟨_, rfl⟩
    have h1 := cutPrefix_at p d r true hf hr.symm
    rw [hr, Bool.true_and]
    clear U hf hr
    cases hr : r == [] with
    | true =>
      obtain rfl : r = [] := by simpa using hr
      go_enter Tryz.func54, Tryz.ntmps54
      go_wp2_with fail
      refine (h1 _).mono ?_
      rintro e w' ⟨rfl, rfl⟩
      go_wp2
      go_ret
      exact ⟨rfl, rfl⟩
    | false =>
      obtain ⟨g, hg⟩ : ∃ g, [47].isPrefixOf r = g := ⟨_, rfl⟩
      have h2 := hasPrefix_at r g hg
      rw [hg]
      clear hg
      go_enter Tryz.func54, Tryz.ntmps54
      go_wp2_with fail
      refine (h1 _).mono ?_
      rintro e w' ⟨rfl, rfl⟩
      go_wp2_with fail
      refine (h2 _).mono ?_
      rintro e w' ⟨rfl, rfl⟩
      go_wp2
      go_ret
      exact ⟨rfl, rfl⟩

end Go.Proofs.YtofbphmdkhocdaaGreat
