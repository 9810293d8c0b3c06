/-
  Len, Peek, the place of the first of two items below a place, and the ways up and down of the queue's heap, each by a contract: any queue of at most 1,000,000 items.
-/
import Derived.Test.YtjpdckpkpcphcaaRoom
import Derived.WalkKit
import Derived.WalkSpells
import Derived.WalkLawsBesides
import Derived.Deep.LoopGhost
import Derived.Deep.RegionHeld3
import Derived.Deep.DeepCutAuto
import Derived.BigRegion
import Derived.BigQuiet
namespace Go.Proofs.Ytjpdckpkpcphcaa
open Go.RowKit

theorem len_any {base b : Nat} {v : Value} {xs : List It} (w : World) (hq : QAt w base b v xs) :
    Calls Try.prog 14 #[.pointer (some ⟨b, 0, none⟩)] w fun e w' => e = .returned (.int .i64 xs.length) ∧ w' = w := by
  obtain ⟨ao, cap, rfl, h1, h2, h3⟩ := own_form hq.own
  have hc := hq.cell
  clear h3 hq
  go_enter Try.func14, Try.ntmps14
  go_wp2
  go_ret
  exact ⟨rfl, rfl⟩

theorem own_lt {w : World} {base : Nat} {e : TypeId} {g n cap m l : Nat} {xs : List Value} (h : w.ownsRow base e m (.slice (some ⟨g, 0, none⟩) n cap) l xs) : g < w.heap.size :=
  (h.lt g rfl).2

set_option maxHeartbeats 400000 in
theorem peek_none {b : Nat} {ao : Option Addr} {cap : Nat} (w : World) (hb : b < w.heap.size) (hc : w.cell? ⟨b, 0, none⟩ = some (.slice ao 0 cap)) :
    Calls Try.prog 13 #[.pointer (some ⟨b, 0, none⟩)] w fun e w' => e = .returned (.tuple #[itV (0, 0), .bool false]) ∧ Below w.heap.size w w' := by
  go_enter Try.func13, Try.ntmps13
  go_wp2
  refine bodyPost_ret (v := .tuple #[itV (0, 0), .bool false]) ?_ rfl ⟨rfl, ?_⟩
  · simp [results, Try.f13, itV]
    go_simp
  · exact (Below.refl _ w).alloc (Nat.le_refl _) _

set_option maxHeartbeats 400000 in
theorem peek_some {b g n cap : Nat} {x : It} (w : World) (hb : b < w.heap.size) (hg : g < w.heap.size) (hn : 0 < n) (h1 : n ≤ 9223372036854775807) (hc : w.cell? ⟨b, 0, none⟩ = some (.slice (some ⟨g, 0, none⟩) n cap))
    (c0 : w.cell? ⟨g, 0, none⟩ = some (.int .i64 x.1)) (c1 : w.cell? ⟨g, 1, none⟩ = some (.int .u64 x.2)) :
    Calls Try.prog 13 #[.pointer (some ⟨b, 0, none⟩)] w fun e w' => e = .returned (.tuple #[itV x, .bool true]) ∧ Below w.heap.size w w' := by
  go_enter Try.func13, Try.ntmps13
  go_wp2
  refine bodyPost_ret (v := .tuple #[itV x, .bool true]) ?_ rfl ⟨rfl, ?_⟩
  · simp [results, Try.f13, itV]
    go_simp
  · exact (Below.refl _ w).alloc (Nat.le_refl _) _

theorem peek_any {base b : Nat} {v : Value} {xs : List It} (w : World) (hq : QAt w base b v xs) :
    Calls Try.prog 13 #[.pointer (some ⟨b, 0, none⟩)] w fun e w' => e = .returned (.tuple #[itV (el xs 0), .bool (!xs.isEmpty)]) ∧ Below w.heap.size w w' := by
  obtain ⟨ao, cap, rfl, h1, h2, h3⟩ := own_form hq.own
  cases xs with
  | nil => exact peek_none w hq.lt hq.cell
  | cons x t =>
    obtain ⟨g, rfl⟩ := h3 (by simp)
    obtain ⟨c0, c1, _, _⟩ := own_cells (i := 0) hq.own (by simp)
    exact peek_some w hq.lt (own_lt hq.own) (by simp) (by omega) hq.cell c0 c1

/-- firstBelow, where there is no item at the right. -/
theorem below_one {b n cap p : Nat} {ao : Option Addr} (w : World) (hc : w.cell? ⟨b, 0, none⟩ = some (.slice ao n cap)) (hp : p ≤ 1000000) (hr : n ≤ 2 * p + 2) :
    Calls Try.prog 19 #[.pointer (some ⟨b, 0, none⟩), .int .i64 p] w fun e w' => e = .returned (.int .i64 ((2 * p + 1 : Nat) : Int)) ∧ Below w.heap.size w w' := by
  have hd : decide (2 * (p : Int) + 2 < (n : Int)) = false := decide_eq_false (by omega)
  go_enter Try.func19, Try.ntmps19
  go_wp2_with fail
  go_quiet (fail)
  go_wp2
  go_ret
  exact ⟨by go_num, below_drewN (Below.refl _ w) _⟩

set_option maxHeartbeats 1000000 in
/-- firstBelow, where there are two items below. -/
theorem below_two {b g n cap p r : Nat} {x y : It} (w : World) (HR : Hid (r = if ahd y x = true then 2 * p + 2 else 2 * p + 1)) (hc : w.cell? ⟨b, 0, none⟩ = some (.slice (some ⟨g, 0, none⟩) n cap)) (hn : n ≤ 1000000) (hp : 2 * p + 2 < n)
    (x0 : w.cell? ⟨g, (2 * p + 1) * 2, none⟩ = some (.int .i64 x.1)) (x1 : w.cell? ⟨g, (2 * p + 1) * 2 + 1, none⟩ = some (.int .u64 x.2))
    (y0 : w.cell? ⟨g, (2 * p + 2) * 2, none⟩ = some (.int .i64 y.1)) (y1 : w.cell? ⟨g, (2 * p + 2) * 2 + 1, none⟩ = some (.int .u64 y.2)) :
    Calls Try.prog 19 #[.pointer (some ⟨b, 0, none⟩), .int .i64 p] w fun e w' => e = .returned (.int .i64 (r : Int)) ∧ Below w.heap.size w w' := by
  have hd : 2 * (p : Int) + 2 < (n : Int) := by omega
  have hd1 : 2 * (p : Int) + 1 < (n : Int) := by omega
  have p1 : (0 : Int) ≤ 2 * (p : Int) + 1 := by omega
  have p2 : (0 : Int) ≤ 2 * (p : Int) + 2 := by omega
  have e1 : (2 * (p : Int) + 1).toNat = 2 * p + 1 := by omega
  have e2 : (2 * (p : Int) + 2).toNat = 2 * p + 2 := by omega
  go_enter Try.func19, Try.ntmps19
  go_wp2_with fail
  go_region_held3 (fun w' => w'.cell? ⟨b, 0, none⟩ = some (.slice (some ⟨g, 0, none⟩) n cap) ∧ w'.cell? ⟨g, (2 * p + 1) * 2, none⟩ = some (.int .i64 x.1) ∧ w'.cell? ⟨g, (2 * p + 1) * 2 + 1, none⟩ = some (.int .u64 x.2) ∧
      w'.cell? ⟨g, (2 * p + 2) * 2, none⟩ = some (.int .i64 y.1) ∧ w'.cell? ⟨g, (2 * p + 2) * 2 + 1, none⟩ = some (.int .u64 y.2)) (go_keep)
    (first | (go_at_call 18; refine (ahead_raw y x _).mono ?_; rintro e w' ⟨rfl, rfl⟩))
  go_wp2
  all_goals go_ret
  · refine ⟨?_, (below_alloc2 w _ _).drew⟩
    have h := HR.out
    rw [if_pos (by assumption)] at h
    subst h
    go_num
  · refine ⟨?_, (below_alloc2 w _ _).drew⟩
    have h := HR.out
    rw [if_neg (by have h' : ahd y x = false := by assumption
                   rw [h']; decide)] at h
    subst h
    go_num

theorem below_any {base b p : Nat} {v : Value} {xs : List It} (w : World) (hq : QAt w base b v xs) (hn : xs.length ≤ 1000000) (hp : p ≤ 1000000) :
    Calls Try.prog 19 #[.pointer (some ⟨b, 0, none⟩), .int .i64 p] w fun e w' => e = .returned (.int .i64 ((fb xs p : Nat) : Int)) ∧ Below w.heap.size w w' := by
  obtain ⟨ao, cap, rfl, h1, h2, h3⟩ := own_form hq.own
  by_cases hr : 2 * p + 2 < xs.length
  · obtain ⟨g, rfl⟩ := h3 (by omega)
    obtain ⟨x0, x1, _, _⟩ := own_cells (i := 2 * p + 1) hq.own (by omega)
    obtain ⟨y0, y1, _, _⟩ := own_cells (i := 2 * p + 2) hq.own (by omega)
    have h := below_two w (show Hid (_ = _) from rfl) hq.cell hn hr x0 x1 y0 y1
    have e : fb xs p = if ahd (el xs (2 * p + 2)) (el xs (2 * p + 1)) = true then 2 * p + 2 else 2 * p + 1 := by
      unfold fb; simp [hr]
    rw [e]; exact h
  · have e : fb xs p = 2 * p + 1 := by unfold fb; simp [hr]
    rw [e]
    exact below_one w hq.cell hp (by omega)

end Go.Proofs.Ytjpdckpkpcphcaa
