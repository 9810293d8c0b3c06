/-
  The law's own first look: the order that the document fixes is the program's. No condition.
-/
import Derived.Test.YtjpdckpkpcphcaaPop
import Derived.Test.YtjpdckpkpcphcaaPush
namespace Go.Proofs.Ytjpdckpkpcphcaa
open Go.RowKit

def three : List It := [(1, 7), (5, 9), (5, 8)]

/-- The blocks of a queue that the call has made. -/
theorem QAt.own_set {w : World} {base b : Nat} {v : Value} {xs : List It} (h : QAt w base b v xs) (hb : base ≤ b) : ∀ k, k < base → ¬ QSet b v k := by
  rintro k hk (q | q)
  · omega
  · have := (h.own.lt k q).1
    omega

theorem three_first {zs : List It} (h : zs.Perm three) (hp : Pile zs) : el zs 0 = (5, 8) ∧ zs.isEmpty = false ∧ zs.tail.Perm [(1, 7), (5, 9)] := by
  have hl : zs.length = 3 := h.length_eq
  have e : el zs 0 = (5, 8) := by
    have m := h.mem_iff.1 (el_mem (xs := zs) (i := 0) (by omega))
    have f := pile_first hp (h.mem_iff.2 (show ((5, 8) : It) ∈ three by decide))
    simp only [three, List.mem_cons, List.not_mem_nil, or_false] at m
    rcases m with m | m | m
    · rw [m] at f; exact absurd f (by decide)
    · rw [m] at f; exact absurd f (by decide)
    · exact m
  cases zs with
  | nil => simp at hl
  | cons x t =>
    have hx : x = (5, 8) := e
    subst hx
    refine ⟨e, rfl, (List.perm_cons ((5, 8) : It)).1 (h.trans ?_)⟩
    exact (show three.Perm ((5, 8) :: [(1, 7), (5, 9)]) by decide)

theorem two_first {zs : List It} (h : zs.Perm [(1, 7), (5, 9)]) (hp : Pile zs) : el zs 0 = (5, 9) ∧ zs.isEmpty = false ∧ zs.length = 2 := by
  have hl : zs.length = 2 := h.length_eq
  refine ⟨?_, by cases zs with | nil => simp at hl | cons _ _ => rfl, hl⟩
  have m := h.mem_iff.1 (el_mem (xs := zs) (i := 0) (by omega))
  have f := pile_first hp (h.mem_iff.2 (show ((5, 9) : It) ∈ [((1, 7) : It), (5, 9)] by decide))
  simp only [List.mem_cons, List.not_mem_nil, or_false] at m
  rcases m with m | m
  · rw [m] at f; exact absurd f (by decide)
  · exact m

set_option maxHeartbeats 1000000 in
theorem awake_any (w : World) : Calls Try.prog 6 #[] w fun e w' => e = .returned (.bool true) ∧ Below w.heap.size w w' := by
  go_enter Try.func6, Try.ntmps6
  go_wp2_with fail
  have own0 : (w.alloc (.cells #[.int .i64 1, .int .u64 7, .int .i64 5, .int .u64 9, .int .i64 5, .int .u64 8] 31)).ownsRow w.heap.size 31 2 (.slice (some ⟨w.heap.size, 0, none⟩) 3 3) three.length (flat three) :=
    World.ownsRow_lit w _ 3 (Nat.le_refl _) (by decide) rfl
  refine (new_any _ own0 (by decide) (by simp)).mono ?_
  rintro e w1 ⟨rfl, v1, zs, q1, q2, q3, q4, _⟩
  obtain ⟨f1, f2, f3⟩ := three_first q2 q3
  have hs : (w.alloc (.cells #[.int .i64 1, .int .u64 7, .int .i64 5, .int .u64 9, .int .i64 5, .int .u64 8] 31)).heap.size = w.heap.size + 1 := by simp
  rw [hs] at q1 q4 ⊢
  have b1 : Below w.heap.size w w1 := ((Below.refl _ w).alloc (Nat.le_refl _) _).trans (q4.mono (by omega))
  have A : Hid (QAt w1 w.heap.size (w.heap.size + 1) v1 zs ∧ zs.length ≤ 1000000 ∧ Pile zs ∧ el zs 0 = (5, 8) ∧ zs.isEmpty = false ∧ zs.tail.Perm [(1, 7), (5, 9)] ∧ Below w.heap.size w w1) :=
    ⟨q1, by rw [q2.length_eq]; decide, q3, f1, f2, f3, b1⟩
  clear q1 q2 q3 q4 f1 f2 f3 b1 own0
  go_wp2_with fail
  refine (pop_any w1 A.out.1 A.out.2.1 A.out.2.2.1).mono ?_
  rintro e w2 ⟨rfl, v2, ys, p1, p2, p3, p4, p5⟩
  rw [A.out.2.2.2.1, A.out.2.2.2.2.1]
  obtain ⟨g1, g2, g3⟩ := two_first (p2.trans A.out.2.2.2.2.2.1) p3
  have hw1 : w.heap.size ≤ w1.heap.size := A.out.2.2.2.2.2.2.size
  have B : Hid (QAt w2 w.heap.size (w.heap.size + 1) v2 ys ∧ el ys 0 = (5, 9) ∧ ys.isEmpty = false ∧ ys.length = 2 ∧ Below w.heap.size w w2) :=
    ⟨p1, g1, g2, g3, A.out.2.2.2.2.2.2.trans (p4.below hw1 (A.out.1.own_set (by omega)))⟩
  clear p1 p2 p3 p4 p5 g1 g2 g3 hs A
  unfold itV
  go_wp2_with fail
  have c3 : QAt (w2.alloc (.cells #[.int .i64 5, .int .u64 8] 31)) w.heap.size (w.heap.size + 1) v2 ys := B.out.1.below ((Below.refl _ w2).alloc (Nat.le_refl _) _)
  refine (peek_any _ c3).mono ?_
  rintro e w3 ⟨rfl, hb3⟩
  rw [B.out.2.1, B.out.2.2.1]
  have h2s : w.heap.size ≤ w2.heap.size := B.out.2.2.2.2.size
  have C : Hid (QAt w3 w.heap.size (w.heap.size + 1) v2 ys ∧ ys.length = 2 ∧ Below w.heap.size w w3) := ⟨c3.below hb3, B.out.2.2.2.1, (B.out.2.2.2.2.alloc h2s _).trans (hb3.mono (by simp; omega))⟩
  have a0 : w3.cell? ⟨w2.heap.size, 0, none⟩ = some (.int .i64 5) := (hb3.cell (by simp)).trans (by simp)
  have a1 : w3.cell? ⟨w2.heap.size, 1, none⟩ = some (.int .u64 8) := (hb3.cell (by simp)).trans (by simp)
  have h23 : w2.heap.size < w3.heap.size := by have := hb3.size; simp at this; omega
  clear hb3 c3 B
  unfold itV
  go_wp2_with fail
  have h3s : w.heap.size ≤ w3.heap.size := C.out.2.2.size
  refine (len_any _ (C.out.1.below ((Below.refl _ w3).alloc (Nat.le_refl _) _))).mono ?_
  rintro e w4 ⟨rfl, rfl⟩
  rw [C.out.2.1]
  go_wp2
  go_ret
  exact ⟨rfl, C.out.2.2.alloc h3s _⟩

end Go.Proofs.Ytjpdckpkpcphcaa
