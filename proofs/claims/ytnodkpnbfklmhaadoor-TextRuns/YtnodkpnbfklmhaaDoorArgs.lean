/-
  How the laws' arguments read: lists of runs, of numbers and of texts that came in, out of their readings as data; a world in which the listed tables lie as they are laid. No condition.
-/
import Derived.Test.YtnodkpnbfklmhaaDoorRuns
import Derived.Test.YtnodkpnbfklmhaaDoorCards
import Derived.Test.YtnodkpnbfklmhaaDoorTie
import Derived.Deep.SlicePairs
import Derived.SliceStrings
import Derived.ProofKit
import Derived.OpenShut
import Derived.ShutString
import Derived.ChangeOld
import Derived.Below
import Derived.SizedLaws
import Derived.Deep.DeepHandedRow
import Derived.Lib.LaidTab
namespace Go.Proofs.YtnodkpnbfklmhaaDoor
open Go.ChangeShapes Go.WideShapes Go.ChangeAt Go.RowKit

theorem own : ownKnob Tryd.prog.godebug = none := by kernel_rfl
theorem laidOut : laidOutB Tryd.prog = true := by kernel_rfl

/-- A world for the witness: the settled one, the listed tables holding what their initialisers lay. -/
noncomputable def laidWorld (os : Os) : World :=
  { World.holding Tryd.prog os ⟨#[], #[], []⟩ with heap := (((World.holding Tryd.prog os ⟨#[], #[], []⟩).heap.modify 1 (fun
      | .cells _ t frozen => .cells (Go.Pinned.utf8FirstZ.map fun n : Nat => Value.int .u8 (n : Int)).toArray t frozen
      | o => o)).modify 2 (fun
      | .cells _ t frozen => .cells (([128, 191, 160, 191, 128, 159, 144, 191, 128, 143] ++ List.replicate 22 (0 : Nat)).map fun n : Nat => Value.int .u8 (n : Int)).toArray t frozen
      | o => o)) }

theorem laid_in (os : Os) : laidMet Tryd.prog Rows.textInRow.laid ((laidWorld os).forCall (fun _ _ => 0) ⟨#[], #[.int .i64 0, .slice none 0 0], []⟩).memory :=
  laidMet_of_run' 8 (by kernel_rfl) (by kernel_rfl)

theorem runs_view {H : Type} {enc : TypeId × Value → H} {W : World} {spare : Nat → Bool} {held : Bool} {fuel len cap : Nat} {a : Option Addr} {x : DataW H × List MemPlace}
    (h : DataW.trod enc Tryd.prog W 0 spare held fuel 30 [.slice a len cap] = some x) : (∃ xs : List Pr, xs.length = len ∧ RdG encP W a xs) ∧ (len = 0 ∨ ∃ es sp, x.1 = .slice es sp ∧ es.length = len) := by
  rcases Go.Deep.open_slice_pairs Tryd.underlying30 Tryd.underlying37 (by kernel_rfl) rfl rfl (by kernel_rfl) (by kernel_rfl) h with ⟨hcs, _⟩ | ⟨y, l, c, m, n, V0, V1, D0, D1, P0, P1, hcs, _, hl, hm, hmm, hx, hc⟩
  · simp only [List.cons.injEq, Value.slice.injEq, and_true] at hcs
    obtain ⟨rfl, rfl, rfl⟩ := hcs
    exact ⟨⟨[], rfl, RdG.nil _ _ _⟩, .inl rfl⟩
  · simp only [List.cons.injEq, Value.slice.injEq, and_true] at hcs
    obtain ⟨rfl, rfl, rfl⟩ := hcs
    have hlm : len ≤ m := by rw [hmm]; split <;> omega
    refine ⟨⟨(List.range len).map fun i => (intOf (V0 i), intOf (V1 i)), by simp, ?_⟩, .inr ⟨_, _, by rw [hx], by simp⟩⟩
    intro h0
    have h0' : 0 < len := by simpa using h0
    obtain ⟨b, off, spot⟩ := y
    have hs : spot = none := by
      have := World.cell?_spot (hc 0 (by omega)).1
      simpa [Addr.add] using this
    subst hs
    refine ⟨b, off, rfl, ?_, ?_⟩
    · have := World.block_lt_of_cell? W _ (hc 0 (by omega)).1
      rw [addr_plus] at this
      exact this
    · intro i z hz j u hu
      have hi' : i < len := by
        have := (List.getElem?_eq_some_iff.1 hz).1
        simpa using this
      obtain ⟨k0, k1, k2, k3⟩ := hc i (by omega)
      obtain ⟨z0, e0, _, _⟩ := DataW.trod_int Tryd.underlying3 k2
      obtain ⟨z1, e1, _, _⟩ := DataW.trod_int Tryd.underlying3 k3
      have e0' : V0 i = .int .i64 z0 := by simpa using e0
      have e1' : V1 i = .int .i64 z1 := by simpa using e1
      have hel : z = (z0, z1) := by simpa [hi', e0', e1', intOf] using hz.symm
      subst hel
      rw [addr_plus] at k0 k1
      match j, hu with
      | 0, hu => simp [encP] at hu; subst hu; simpa [encP] using k0.trans (by rw [e0'])
      | 1, hu => simp [encP] at hu; subst hu; simpa [encP] using k1.trans (by rw [e1'])

theorem ints_view {H : Type} {enc : TypeId × Value → H} {W : World} {spare : Nat → Bool} {held : Bool} {fuel len cap : Nat} {a : Option Addr} {x : DataW H × List MemPlace}
    (h : DataW.trod enc Tryd.prog W 0 spare held fuel 29 [.slice a len cap] = some x) : ∃ xs : List Int, xs.length = len ∧ len ≤ 9223372036854775807 ∧ RdG encI W a xs ∧ ∀ z ∈ xs, isInt z := by
  rcases open_ints Tryd.underlying29 Tryd.underlying3 (by kernel_rfl) h with ⟨hcs, _⟩ | ⟨y, l, c, zs, hcs, _, hl, hm, hmm, _, hc, hw⟩
  · simp only [List.cons.injEq, Value.slice.injEq, and_true] at hcs
    obtain ⟨rfl, rfl, rfl⟩ := hcs
    exact ⟨[], rfl, by omega, RdG.nil _ _ _, by simp⟩
  · simp only [List.cons.injEq, Value.slice.injEq, and_true] at hcs
    obtain ⟨rfl, rfl, rfl⟩ := hcs
    have hlm : len ≤ zs.length := by rw [hmm]; split <;> omega
    refine ⟨zs.take len, by simp; omega, by unfold maxLen at hm; omega, ?_, ?_⟩
    · intro h0
      have h0' : 0 < len := by simp at h0; omega
      obtain ⟨b, off, spot⟩ := y
      have hs : spot = none := by
        have := World.cell?_spot (hc 0 (by omega))
        simpa [Addr.add] using this
      subst hs
      refine ⟨b, off, rfl, ?_, ?_⟩
      · have := World.block_lt_of_cell? W _ (hc 0 (by omega))
        rw [addr_plus] at this
        exact this
      · intro i z hz j u hu
        have hi' : i < len ∧ i < zs.length := by
          have := (List.getElem?_eq_some_iff.1 hz).1
          simp at this
          omega
        have hz2 : zs[i]? = some z := by rw [List.getElem?_take_of_lt hi'.1] at hz; exact hz
        have k0 := hc i hi'.2
        rw [addr_plus] at k0
        match j, hu with
        | 0, hu =>
          simp [encI] at hu
          subst hu
          rw [List.getD_eq_getElem?_getD, hz2] at k0
          simpa [encI] using k0
    · intro z hz
      have := hw z (List.mem_of_mem_take hz)
      have e1 : IntKind.i64.min = -9223372036854775808 := by decide
      have e2 : IntKind.i64.max = 9223372036854775807 := by decide
      simp [Lit.wf, e1, e2] at this
      unfold isInt
      omega

end Go.Proofs.YtnodkpnbfklmhaaDoor
