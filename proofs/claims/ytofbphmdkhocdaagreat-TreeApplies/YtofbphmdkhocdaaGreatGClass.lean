/-
  A region whose order is drawn, walked once in the order of its text over all worlds that meet a condition. No program.
-/
import Derived.Test.YtofbphmdkhocdaaGreatPSame
namespace Go.Proofs.YtofbphmdkhocdaaGreat
open Go.RowKit

/-- A world that meets a condition. -/
structure SW (S : World → Prop) where
  w : World
  ok : S w

/-- One walk in the order of the text, in every world that meets the condition. -/
theorem wp_region_class {P : Program} {S : World → Prop} {id : Nat} {Q : Exit → Act → World → Prop} {a : Act} {w : World} {l : List Oper} (hm : P.follows .mixedOrders = true) (hB : Region.lexB .any l.toArray = true) (h0 : S w.drew)
    (h : wpQuiet P l.toArray (fun w' => ∃ u : SW S, w' = u.w) (fun a' => ∀ w', (∃ u : SW S, w' = u.w) → Q .normal a' w') l a) : (Code.region id l.toArray true).wp P Q a w :=
  wp_region_quiet (C := fun w' => ∃ u : SW S, w' = u.w) hm hB ⟨⟨w.drew, h0⟩, rfl⟩ (by simpa using h)

end Go.Proofs.YtofbphmdkhocdaaGreat
