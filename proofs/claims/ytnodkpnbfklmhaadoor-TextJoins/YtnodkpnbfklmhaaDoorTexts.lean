/-
  How a list of texts that came in reads, out of its reading as data. No condition.
-/
import Derived.Test.YtnodkpnbfklmhaaDoorArgs
namespace Go.Proofs.YtnodkpnbfklmhaaDoor
open Go.ChangeShapes Go.WideShapes Go.ChangeAt Go.RowKit

theorem texts_view {H : Type} {enc : TypeId × Value → H} {W : World} {spare : Nat → Bool} {held : Bool} {fuel len cap : Nat} {a : Option Addr} {x : DataW H × List MemPlace}
    (h : DataW.trod enc Tryd.prog W 0 spare held fuel 24 [.slice a len cap] = some x) : ∃ xs : List Bs, xs.length = len ∧ len ≤ cap ∧ Rd W a xs ∧ ∀ y ∈ xs, y.length ≤ 9223372036854775807 := by
  rcases open_strings Tryd.underlying24 Tryd.underlying9 (by kernel_rfl) h with ⟨hcs, _⟩ | ⟨y, l, c, ss, hcs, _, hl, hm, hmm, _, hc, hs⟩
  · simp only [List.cons.injEq, Value.slice.injEq, and_true] at hcs
    obtain ⟨rfl, rfl, rfl⟩ := hcs
    exact ⟨[], rfl, by omega, fun h => absurd h (by simp), by simp⟩
  · simp only [List.cons.injEq, Value.slice.injEq, and_true] at hcs
    obtain ⟨rfl, rfl, rfl⟩ := hcs
    have hlm : len ≤ ss.length := by rw [hmm]; split <;> omega
    refine ⟨(ss.take len).map (·.data.toList), by simp; omega, hl, ?_, ?_⟩
    · intro h0
      have h0' : 0 < len := by simp at h0; omega
      obtain ⟨b, off, spot⟩ := y
      have hsp : spot = none := by
        have := World.cell?_spot (hc 0 (by omega))
        simpa [Addr.add] using this
      subst hsp
      refine ⟨b, off, rfl, ?_, ?_⟩
      · have := World.block_lt_of_cell? W _ (hc 0 (by omega))
        rw [addr_plus] at this
        exact this
      · intro i hi
        have hi' : i < len := by simp at hi; omega
        have k0 := hc i (by omega)
        rw [addr_plus] at k0
        rw [k0]
        congr 2
        have hi2 : i < ss.length := by omega
        simp [el, hi2, hi']
    · intro u hu
      obtain ⟨s, h1, rfl⟩ := List.mem_map.1 hu
      have := hs s (List.mem_of_mem_take h1)
      rw [Lib.size_eq] at this
      simpa [maxLen] using this

end Go.Proofs.YtnodkpnbfklmhaaDoor
