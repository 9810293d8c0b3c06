/-
  strings.Builder's writing, and a token as it stands in a text, each by a contract. No condition but that a token's numbers are no greater than they can be, and that the table of powers of ten holds what the library's text lays there.
-/
import Derived.Test.YtdgdckmhmmigkaaGreatDoorELScn
namespace Go.Proofs.YtdgdckmhmmigkaaGreatDoor
open Go.RowKit

theorem belowG (w : World) (k : Nat) (os : Array Obj) : Below w.heap.size w (Go.Sort.grow (w.drewN k) os) :=
  ⟨rfl, rfl, rfl, by simp [Go.Sort.grow], fun j hj => by simp [Go.Sort.grow, Array.getElem?_append_left, hj]⟩

theorem itoa_any (n : Int) (h0 : 0 ≤ n) (h1 : n ≤ 999999999) (w : World) (hg : Gl w) :
    Calls Tryz.prog 87 #[.int .i64 n] w fun e w' => e = .returned (.string ⟨(Lib.itoa n).toArray⟩) ∧ Below w.heap.size w w' := by
  refine (Any.strconv_Itoa layItoa n (by omega) (by omega) w hg.pw).mono ?_
  rintro e w' ⟨rfl, k, os, hw⟩
  refine ⟨rfl, ?_⟩
  rw [hw]
  exact belowG w k os

end Go.Proofs.YtdgdckmhmmigkaaGreatDoor
