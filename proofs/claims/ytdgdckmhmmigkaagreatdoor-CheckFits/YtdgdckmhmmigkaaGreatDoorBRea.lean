/-
  The reader's expr, wherever it stands: it answers what the grammar tells. No condition.
-/
import Derived.Test.YtdgdckmhmmigkaaGreatDoorBAto
import Derived.Test.YtdgdckmhmmigkaaGreatDoorBPst
import Derived.Test.YtdgdckmhmmigkaaGreatDoorBUna
import Derived.Test.YtdgdckmhmmigkaaGreatDoorJExp
namespace Go.Proofs.YtdgdckmhmmigkaaGreatDoor
open Go.RowKit

theorem reads_all {E : Int} {b : Nat} {ao : Option Addr} {n c : Nat} {ts : List Tk} : ∀ f k, n + 1 ≤ k + f → Pt E (.row 1) 22 b ao n c ts k ∧ Pt E .unary 66 b ao n c ts k
  | 0, k, h => ⟨fun u hu => absurd hu.le (by omega), fun u hu => absurd hu.le (by omega)⟩
  | f + 1, k, h => by
    have ih := fun k' (hk : k < k') => reads_all (E := E) (b := b) (ao := ao) (n := n) (c := c) (ts := ts) f k' (by omega)
    have hun : Pt E .unary 66 b ao n c ts k := punary_any (fun h33 => ppost_any (patom_any (fun k' hk => (ih k' hk).1) h33)) (fun _ => (ih (k + 1) (by omega)).2)
    have hua : ∀ k', k ≤ k' → Pt E .unary 66 b ao n c ts k' := by
      intro k' hk
      rcases Nat.lt_or_ge k k' with q | q
      · exact (ih k' q).2
      · obtain rfl : k' = k := by omega
        exact hun
    have hsp : ∀ k', k ≤ k' → Pt E .range 55 b ao n c ts k' := fun k' hk => pspan_any (fun k2 h2 => hua k2 (by omega))
    have hin : ∀ k', k ≤ k' → Pt E (.row 2) 40 b ao n c ts k' := fun k' hk => pinter_any (fun k2 h2 => hsp k2 (by omega))
    exact ⟨pexpr_any hin, hun⟩

theorem reads {E : Int} {b : Nat} {ao : Option Addr} {n c k : Nat} {ts : List Tk} : Pt E (.row 1) 22 b ao n c ts k := (reads_all (n + 1) k (by omega)).1

end Go.Proofs.YtdgdckmhmmigkaaGreatDoor
