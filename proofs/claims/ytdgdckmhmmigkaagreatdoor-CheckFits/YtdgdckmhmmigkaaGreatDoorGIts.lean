/-
  A list of numbers that came in as an argument: what it reads as. No condition.
-/
import Derived.Test.YtdgdckmhmmigkaaGreatDoorGRows
import Derived.SliceStrings
import Derived.ChangeSlices
import Derived.ProofKit
import Derived.OpenShut
import Derived.SizedLaws
namespace Go.Proofs.YtdgdckmhmmigkaaGreatDoor
open Go.ChangeShapes Go.WideShapes Go.ChangeAt Go.RowKit

theorem ints_view {H : Type} {enc : TypeId × Value → H} {W : World} {spare : Nat → Bool} {held : Bool} {fuel len cap : Nat} {a : Option Addr} {x : DataW H × List MemPlace}
    (h : DataW.trod enc Tryz.prog W 0 spare held fuel 22 [.slice a len cap] = some x) : ∃ xs : List Int, xs.length = len ∧ RdG encI W a xs := by
  rcases open_ints Tryz.underlying22 Tryz.underlying3 (by kernel_rfl) h with ⟨hcs, _⟩ | ⟨y, l, c, zs, hcs, _, hl, hm, hmm, _, hc, hw⟩
  · simp only [List.cons.injEq, Value.slice.injEq, and_true] at hcs
    obtain ⟨rfl, rfl, rfl⟩ := hcs
    exact ⟨[], rfl, RdG.nil _ _ _⟩
  · simp only [List.cons.injEq, Value.slice.injEq, and_true] at hcs
    obtain ⟨rfl, rfl, rfl⟩ := hcs
    have hlm : len ≤ zs.length := by rw [hmm]; split <;> omega
    refine ⟨zs.take len, by simp; omega, ?_⟩
    intro h0
    have h0' : 0 < len := by simp at h0; omega
    obtain ⟨b, off, spot⟩ := y
    have hs : spot = none := by
      have := World.cell?_spot (hc 0 (by omega))
      simpa [Addr.add] using this
    subst hs
    refine ⟨b, off, rfl, ?_, ?_⟩
    · have := World.block_lt_of_cell? W _ (hc 0 (by omega))
      rw [addr_plus] at this
      exact this
    · intro i z hz j u hu
      have hi' : i < len ∧ i < zs.length := by
        have := (List.getElem?_eq_some_iff.1 hz).1
        simp at this
        omega
      have hz2 : zs[i]? = some z := by rw [List.getElem?_take_of_lt hi'.1] at hz; exact hz
      have k0 := hc i hi'.2
      rw [addr_plus] at k0
      match j, hu with
      | 0, hu =>
        simp [encI] at hu
        subst hu
        rw [List.getD_eq_getElem?_getD, hz2] at k0
        simpa [encI] using k0

theorem ints_datum {H : Type} {enc : TypeId × Value → H} {W : World} {spare : Nat → Bool} {held : Bool} {fuel len cap : Nat} {a : Option Addr} {x : DataW H × List MemPlace}
    (h : DataW.trod enc Tryz.prog W 0 spare held fuel 22 [.slice a len cap] = some x) : len = 0 ∨ ∃ es sp, x.1 = .slice es sp ∧ es.length = len := by
  rcases open_ints Tryz.underlying22 Tryz.underlying3 (by kernel_rfl) h with ⟨hcs, _⟩ | ⟨y, l, c, ss, hcs, _, hl, hm, hmm, hx, hc, hs⟩
  · simp only [List.cons.injEq, Value.slice.injEq, and_true] at hcs
    exact .inl hcs.2.1
  · simp only [List.cons.injEq, Value.slice.injEq, and_true] at hcs
    obtain ⟨rfl, rfl, rfl⟩ := hcs
    have hlm : len ≤ ss.length := by rw [hmm]; split <;> omega
    exact .inr ⟨_, _, by rw [hx], by simp [lits]; omega⟩

theorem ints_bytes : Tryz.prog.bytesOf 3 = 8 := by kernel_rfl
/-- No list that comes in is longer than the form's reach. -/
theorem ints_sized {H : Type} {enc : TypeId × Value → H} {W : World} {spare : Nat → Bool} {held : Bool} {fuel len cap : Nat} {a : Option Addr} {d : DataW H} {p : List MemPlace} {ts : List TypeId} {ds : List (DataW H)} {j : Nat}
    (hsz : (DataW.weightsEach Tryz.prog ts ds).all (· ≤ reachBytes) = true) (ht : ts[j]? = some 22) (hd : ds[j]? = some d) (h : DataW.trod enc Tryz.prog W 0 spare held fuel 22 [.slice a len cap] = some (d, p)) : len ≤ 17592186044416 := by
  rcases ints_datum h with q | ⟨es, sp, he, hlen⟩
  · omega
  · have hds : d = .slice es sp := he
    subst hds
    have := sized_slice hsz ht hd Tryz.underlying22
    rw [ints_bytes] at this
    simp only [reachBytes] at this
    omega

end Go.Proofs.YtdgdckmhmmigkaaGreatDoor
