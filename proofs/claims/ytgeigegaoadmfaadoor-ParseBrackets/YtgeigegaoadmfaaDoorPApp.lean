/-
  append of one text, and of a whole list of texts, behind a row of the call's own, each as one step. No condition but that the lists are short enough for any memory.
-/
import Derived.Test.YtgeigegaoadmfaaDoorPRoom
import Derived.Shelf.Abstract
namespace Go.Proofs.YtgeigegaoadmfaaDoor
open Go.RowKit

theorem Tryd.info9 : (Tryd.prog.info? 9).map (fun i => (i.zero, i.size, i.bytes)) = some (some (.string ⟨#[]⟩), 1, 16) := by kernel_rfl

theorem Own.turn {w w' : World} {base : Nat} {v : Value} {ss : List Bs} (h : Own w base v ss) (hb : base ≤ w.heap.size) (ht : Turned (fun k => v.ownBlock = some k) w w') : Below base w w' :=
  ht.below hb (fun k hk q => by have := (h.lt k q).1; omega)

theorem cell_one_new (w : World) (y : Value) (t : TypeId) : ∀ j u, [y][j]? = some u → (w.alloc (.cells #[y] t)).cell? ((⟨w.heap.size, 0, none⟩ : Addr).add j) = some u := by
  intro j u h
  match j, h with
  | 0, h =>
    rw [addr_at, World.cell?_alloc_new]
    simpa using h
  | j + 1, h => simp at h

theorem run_append_none (t ty e : TypeId) (i : TypeInfo) (ht : Tryd.prog.underlying t = some (.slice e)) (hi : Tryd.prog.info? e = some i) (base : Option Addr) (sLen sCap : Nat) (hle : sLen ≤ sCap) (ao : Option Addr) (c : Nat) (w : World) :
    (Builtin.append_ #[t, t] ty #[.slice base sLen sCap, .slice ao 0 c]).run Tryd.prog w = .ok (.slice base sLen sCap) w := by
  have hfc : (Builtin.firstCells i.size 0 (.slice ao 0 c)).run Tryd.prog w = .ok #[] w := by
    cases ao with
    | none => exact run_firstCells_none (P := Tryd.prog) w i.size 0 0 c
    | some a => exact run_firstCells_some (P := Tryd.prog) w i.size 0 a 0 c [] (by simp) (by simp)
  cases base <;> simp [Builtin.append_, run_underlying ht, sizeOf, typeInfo, hi, Builtin.lenOf, hle, hfc, storeCells]

end Go.Proofs.YtgeigegaoadmfaaDoor
