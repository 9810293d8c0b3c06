/-
  The reference's Same (two lists of texts, held against each other) by a contract. No condition but that the lists are shorter than any list can be.
-/
import Derived.Test.YtdgdckmhmmigkaaDoorPRoom
import Derived.Shelf.Abstract
import Derived.Laws.Strings3
import Derived.Laws.DeepStrings4
import Derived.Deep.LoopGhost
import Derived.Deep.RegionHeld3
import Derived.Deep.DeepCutAuto
import Derived.BigRegion
import Derived.BigQuiet
namespace Go.Proofs.YtdgdckmhmmigkaaDoor
open Go.RowKit

theorem same_step {xs ys : List Bs} {i : Nat} (h1 : i < xs.length) (h2 : i < ys.length) (ht : xs.take i = ys.take i) (he : el xs i = el ys i) : xs.take (i + 1) = ys.take (i + 1) := by
  rw [List.take_succ_eq_append_getElem h1, List.take_succ_eq_append_getElem h2, ht, ← el_get h1, ← el_get h2, he]

theorem same_ne {xs ys : List Bs} {i : Nat} (he : el xs i ≠ el ys i) : (xs == ys) = false := by
  rw [beq_eq_false_iff_ne]
  intro e
  exact he (by rw [e])

end Go.Proofs.YtdgdckmhmmigkaaDoor
