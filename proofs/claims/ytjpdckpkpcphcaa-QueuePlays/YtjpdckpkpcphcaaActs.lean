/-
  How the script of QueuePlays reads: each act's kind, and its list of items, out of its reading as data. No condition.
-/
import Derived.Test.YtjpdckpkpcphcaaArgs
namespace Go.Proofs.Ytjpdckpkpcphcaa
open Go.ChangeShapes Go.WideShapes Go.ChangeAt Go.RowKit

theorem slice_form {H : Type} {enc : TypeId × Value → H} {W : World} {spare : Nat → Bool} {held : Bool} {fuel : Nat} {v : Value} {x : DataW H × List MemPlace}
    (h : DataW.trod enc Try.prog W 0 spare held fuel 22 [v] = some x) : ∃ a len cap, v = .slice a len cap := by
  rcases Go.Deep.open_slice_pairs Try.underlying22 Try.underlying28 (by kernel_rfl) rfl rfl (by kernel_rfl) (by kernel_rfl) h with ⟨hcs, _⟩ | ⟨y, l, c, m, n, V0, V1, D0, D1, P0, P1, hcs, _⟩
  · simp only [List.cons.injEq, and_true] at hcs
    exact ⟨_, _, _, hcs⟩
  · simp only [List.cons.injEq, and_true] at hcs
    exact ⟨_, _, _, hcs⟩

theorem acts_view {H : Type} {enc : TypeId × Value → H} {W : World} {spare : Nat → Bool} {held : Bool} {fuel len cap : Nat} {a : Option Addr} {x : DataW H × List MemPlace}
    (h : DataW.trod enc Try.prog W 0 spare held fuel 23 [.slice a len cap] = some x) :
    len ≤ 9223372036854775807 ∧ (0 < len → ∃ b off, a = some ⟨b, off, none⟩ ∧ b < W.heap.size ∧ ∀ i, i < len → ∃ (q : Int × Option Addr × Nat × Nat × List It), W.cell? ⟨b, off + i * 2, none⟩ = some (.int .i64 q.1) ∧ W.cell? ⟨b, off + i * 2 + 1, none⟩ = some (.slice q.2.1 q.2.2.1 q.2.2.2.1) ∧
      q.2.2.2.2.length = q.2.2.1 ∧ q.2.2.1 ≤ 9223372036854775807 ∧ ItemsIn W q.2.1 q.2.2.2.2) := by
  rcases Go.Deep.open_slice_pairs Try.underlying23 Try.underlying36 (by kernel_rfl) rfl rfl (by kernel_rfl) (by kernel_rfl) h with ⟨hcs, _⟩ | ⟨y, l, c, m, n, V0, V1, D0, D1, P0, P1, hcs, _, hl, hm, hmm, _, hc⟩
  · simp only [List.cons.injEq, Value.slice.injEq, and_true] at hcs
    obtain ⟨rfl, rfl, rfl⟩ := hcs
    exact ⟨by omega, fun h => absurd h (by omega)⟩
  · simp only [List.cons.injEq, Value.slice.injEq, and_true] at hcs
    obtain ⟨rfl, rfl, rfl⟩ := hcs
    have hlm : len ≤ m := by rw [hmm]; split <;> omega
    refine ⟨by unfold maxLen at hm; omega, fun h0 => ?_⟩
    obtain ⟨b, off, spot⟩ := y
    have hs : spot = none := by
      have := World.cell?_spot (hc 0 (by omega)).1
      simpa [Addr.add] using this
    subst hs
    refine ⟨b, off, rfl, ?_, ?_⟩
    · have := World.block_lt_of_cell? W _ (hc 0 (by omega)).1
      rw [add_plain] at this
      exact this
    · intro i hi
      obtain ⟨k0, k1, k2, k3⟩ := hc i (by omega)
      obtain ⟨z0, e0, _, _⟩ := DataW.trod_int Try.underlying3 k2
      have e0' : V0 i = .int .i64 z0 := by simpa using e0
      obtain ⟨a1, l1, c1, e1⟩ := slice_form k3
      rw [e1] at k3 k1
      obtain ⟨xs, g1, g2, g3⟩ := items_view k3
      rw [add_plain] at k0 k1
      exact ⟨(z0, a1, l1, c1, xs), k0.trans (by rw [e0']), k1, g1, g2, g3⟩

end Go.Proofs.Ytjpdckpkpcphcaa
