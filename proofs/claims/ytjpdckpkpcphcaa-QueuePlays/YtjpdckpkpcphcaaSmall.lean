/-
  The small functions of layer 2 and of its reference, each by a contract: ahead, Ahead, item, Len, Peek. No condition but that each integer fits its kind.
-/
import Derived.Test.YtjpdckpkpcphcaaRows
import Derived.WalkKit
import Derived.WalkSpells
import Derived.WalkLawsBesides
namespace Go.Proofs.Ytjpdckpkpcphcaa
open Go.RowKit

/-- An item: its rank and its ID. -/
abbrev It := Int × Int

def itV (x : It) : Value := .agg #[.int .i64 x.1, .int .u64 x.2]

/-- The order of the document: a greater rank, or the same rank and a lesser ID. -/
def ahd (a b : It) : Bool := if a.1 = b.1 then decide (a.2 < b.2) else decide (b.1 < a.1)

theorem below_alloc2 (w : World) (o1 o2 : Obj) : Below w.heap.size w ((w.alloc o1).alloc o2) :=
  ((Below.refl _ w).alloc (Nat.le_refl _) o1).alloc (by simp) o2

set_option maxHeartbeats 400000 in
theorem ahead_raw (a b : It) (w : World) :
    Calls Try.prog 18 #[.agg #[.int .i64 a.1, .int .u64 a.2], .agg #[.int .i64 b.1, .int .u64 b.2]] w fun e w' => e = .returned (.bool (ahd a b)) ∧
      w' = (w.alloc (.cells #[.int .i64 a.1, .int .u64 a.2] 31)).alloc (.cells #[.int .i64 b.1, .int .u64 b.2] 31) := by
  go_enter Try.func18, Try.ntmps18
  go_wp2
  all_goals go_ret
  · have h : a.1 ≠ b.1 := by simpa using ‹(a.1 != b.1) = true›
    refine ⟨?_, rfl⟩
    rw [ahd, if_neg h]; rfl
  · have h : a.1 = b.1 := by simpa using ‹(a.1 != b.1) = false›
    refine ⟨?_, rfl⟩
    rw [ahd, if_pos h]; rfl

set_option maxHeartbeats 400000 in
theorem rahead_raw (a b : It) (w : World) :
    Calls Try.prog 16 #[.agg #[.int .i64 a.1, .int .u64 a.2], .agg #[.int .i64 b.1, .int .u64 b.2]] w fun e w' => e = .returned (.bool (ahd a b)) ∧
      w' = (w.alloc (.cells #[.int .i64 a.1, .int .u64 a.2] 28)).alloc (.cells #[.int .i64 b.1, .int .u64 b.2] 28) := by
  go_enter Try.func16, Try.ntmps16
  go_wp2
  all_goals go_ret
  · have h : a.1 ≠ b.1 := by simpa using ‹(a.1 != b.1) = true›
    refine ⟨?_, rfl⟩
    rw [ahd, if_neg h]; rfl
  · have h : a.1 = b.1 := by simpa using ‹(a.1 != b.1) = false›
    refine ⟨?_, rfl⟩
    rw [ahd, if_pos h]; rfl

theorem ahead_any (a b : It) (w : World) :
    Calls Try.prog 18 #[itV a, itV b] w fun e w' => e = .returned (.bool (ahd a b)) ∧ Below w.heap.size w w' := by
  refine (ahead_raw a b w).mono ?_
  rintro e w' ⟨rfl, rfl⟩
  exact ⟨rfl, below_alloc2 w _ _⟩

theorem rahead_any (a b : It) (w : World) :
    Calls Try.prog 16 #[itV a, itV b] w fun e w' => e = .returned (.bool (ahd a b)) ∧ Below w.heap.size w w' := by
  refine (rahead_raw a b w).mono ?_
  rintro e w' ⟨rfl, rfl⟩
  exact ⟨rfl, below_alloc2 w _ _⟩

set_option maxHeartbeats 400000 in
theorem item_any (a : It) (w : World) :
    Calls Try.prog 7 #[itV a] w fun e w' => e = .returned (itV a) ∧ Below w.heap.size w w' := by
  unfold itV
  go_enter Try.func7, Try.ntmps7
  go_wp2
  refine bodyPost_ret (v := .agg #[.int .i64 a.1, .int .u64 a.2]) ?_ rfl ⟨rfl, ?_⟩
  · simp [results, Try.f7]
    go_simp
  · exact below_alloc2 w _ _

end Go.Proofs.Ytjpdckpkpcphcaa
