/-
  How the laws' arguments read: a list of items that came in, out of its reading as data. No condition.
-/
import Derived.Test.YtjpdckpkpcphcaaItems
import Derived.Deep.SlicePairs
import Derived.ProofKit
import Derived.OpenShut
import Derived.ChangeOld
import Derived.Below
namespace Go.Proofs.Ytjpdckpkpcphcaa
open Go.ChangeShapes Go.WideShapes Go.ChangeAt Go.RowKit

theorem items_view {H : Type} {enc : TypeId × Value → H} {W : World} {spare : Nat → Bool} {held : Bool} {fuel len cap : Nat} {a : Option Addr} {x : DataW H × List MemPlace}
    (h : DataW.trod enc Try.prog W 0 spare held fuel 22 [.slice a len cap] = some x) : ∃ xs : List It, xs.length = len ∧ len ≤ 9223372036854775807 ∧ ItemsIn W a xs := by
  rcases Go.Deep.open_slice_pairs Try.underlying22 Try.underlying28 (by kernel_rfl) rfl rfl (by kernel_rfl) (by kernel_rfl) h with ⟨hcs, _⟩ | ⟨y, l, c, m, n, V0, V1, D0, D1, P0, P1, hcs, _, hl, hm, hmm, _, hc⟩
  · simp only [List.cons.injEq, Value.slice.injEq, and_true] at hcs
    obtain ⟨rfl, rfl, rfl⟩ := hcs
    exact ⟨[], rfl, by omega, fun h => absurd h (by simp)⟩
  · simp only [List.cons.injEq, Value.slice.injEq, and_true] at hcs
    obtain ⟨rfl, rfl, rfl⟩ := hcs
    have hlm : len ≤ m := by rw [hmm]; split <;> omega
    refine ⟨(List.range len).map fun i => (intOf (V0 i), intOf (V1 i)), by simp, by unfold maxLen at hm; omega, ?_⟩
    intro h0
    have h0' : 0 < len := by simpa using h0
    obtain ⟨b, off, spot⟩ := y
    have hs : spot = none := by
      have := World.cell?_spot (hc 0 (by omega)).1
      simpa [Addr.add] using this
    subst hs
    refine ⟨b, off, rfl, ?_, ?_⟩
    · have := World.block_lt_of_cell? W _ (hc 0 (by omega)).1
      rw [add_plain] at this
      exact this
    · intro i hi
      have hi' : i < len := by simpa using hi
      obtain ⟨k0, k1, k2, k3⟩ := hc i (by omega)
      obtain ⟨z0, e0, _, _⟩ := DataW.trod_int Try.underlying2 k2
      obtain ⟨z1, e1, _, _⟩ := DataW.trod_int Try.underlying26 k3
      have e0' : V0 i = .int .i64 z0 := by simpa using e0
      have e1' : V1 i = .int .u64 z1 := by simpa using e1
      have hel : el ((List.range len).map fun i => (intOf (V0 i), intOf (V1 i))) i = (z0, z1) := by
        simp [el, hi', e0', e1', intOf]
      rw [add_plain] at k0 k1
      rw [hel]
      exact ⟨k0.trans (by rw [e0']), k1.trans (by rw [e1'])⟩

end Go.Proofs.Ytjpdckpkpcphcaa
