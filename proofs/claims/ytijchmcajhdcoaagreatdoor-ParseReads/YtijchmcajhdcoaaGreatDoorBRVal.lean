/-
  The document's stack, without a program: how many nodes stand there for what waits. No condition.
-/
import Derived.Test.YtijchmcajhdcoaaGreatDoorJGrm
namespace Go.Proofs.YtijchmcajhdcoaaGreatDoor
open Go.RowKit

/-- As many nodes as what is being done wants. -/
def Rk : Nat → List Wt → Prop
  | _, [] => True
  | n, w :: ws => if w.opn = true then True else if w.op = 11 then 1 ≤ n ∧ Rk n ws else 2 ≤ n ∧ Rk (n - 1) ws
/-- An operand has been read: so many nodes stand there. -/
def Vk : Nat → List Wt → Prop
  | n, [] => n = 1
  | n, w :: ws => if w.opn = true then (if w.text = [] then n = w.nodes + 1 ∧ Vk n ws else w.nodes + 1 ≤ n ∧ Vk (w.nodes + 1) ws) else if w.op = 11 then Vk n ws else 2 ≤ n ∧ Vk (n - 1) ws
theorem Vk.pos : ∀ {ws : List Wt} {n : Nat}, Vk n ws → 1 ≤ n
  | [], n, h => by
    have h' : n = 1 := h
    omega
  | w :: ws, n, h => by
    unfold Vk at h
    by_cases h1 : w.opn = true
    · rw [if_pos h1] at h
      by_cases h2 : w.text = []
      · rw [if_pos h2] at h
        omega
      · rw [if_neg h2] at h
        omega
    · rw [if_neg h1] at h
      by_cases h2 : w.op = 11
      · rw [if_pos h2] at h
        exact Vk.pos h
      · rw [if_neg h2] at h
        omega
theorem Vk.rk : ∀ {ws : List Wt} {n : Nat}, Vk n ws → Rk n ws
  | [], n, h => trivial
  | w :: ws, n, h => by
    unfold Vk at h
    unfold Rk
    by_cases h1 : w.opn = true
    · rw [if_pos h1]
      trivial
    · rw [if_neg h1] at h ⊢
      by_cases h2 : w.op = 11
      · rw [if_pos h2] at h ⊢
        exact ⟨Vk.pos h, Vk.rk h⟩
      · rw [if_neg h2] at h ⊢
        exact ⟨h.1, Vk.rk h.2⟩

/-- One step of what is done. -/
theorem red_stop {L : Int} {ns : List Nd} {w : Wt} {ws : List Wt} (h : w.opn = true ∨ lvl w.op < L) : red L ns (w :: ws) = (ns, w :: ws) := by unfold red; rw [if_pos h]
theorem red_not1 {L : Int} {x : Nd} {ns : List Nd} {w : Wt} {ws : List Wt} (h : ¬ (w.opn = true ∨ lvl w.op < L)) (h11 : w.op = 11) : red L (x :: ns) (w :: ws) = red L (⟨11, [], 0, 0, foOf [x], w.pos⟩ :: ns) ws := by rw [red, if_neg h, if_pos h11]
theorem red_bin1 {L : Int} {x y : Nd} {ns : List Nd} {w : Wt} {ws : List Wt} (h : ¬ (w.opn = true ∨ lvl w.op < L)) (h11 : ¬ w.op = 11) : red L (y :: x :: ns) (w :: ws) = red L (⟨w.op, [], 0, 0, foOf [x, y], w.pos⟩ :: ns) ws := by rw [red, if_neg h, if_neg h11]

theorem Vk.red (L : Int) : ∀ (ws : List Wt) (ns : List Nd), Vk ns.length ws → Vk (Go.Proofs.YtijchmcajhdcoaaGreatDoor.red L ns ws).1.length (Go.Proofs.YtijchmcajhdcoaaGreatDoor.red L ns ws).2
  | [], ns, h => h
  | w :: ws, ns, h => by
    by_cases h0 : w.opn = true ∨ lvl w.op < L
    · rw [red_stop h0]
      exact h
    · have h1 : ¬ w.opn = true := fun q => h0 (.inl q)
      have h' := h
      unfold Vk at h'
      rw [if_neg h1] at h'
      by_cases h2 : w.op = 11
      · rw [if_pos h2] at h'
        match ns, h' with
        | [], h' => exact absurd (Vk.pos h') (by simp)
        | x :: ns, h' =>
          rw [red_not1 h0 h2]
          exact Vk.red L ws _ h'
      · rw [if_neg h2] at h'
        match ns, h' with
        | [], h' => exact absurd h'.1 (by simp)
        | [x], h' => exact absurd h'.1 (by simp)
        | y :: x :: ns, h' =>
          rw [red_bin1 h0 h2]
          exact Vk.red L ws _ h'.2
theorem lvl_pos (o : Int) : 1 ≤ lvl o ∧ lvl o ≤ 6 := by
  unfold lvl
  repeat' split
  all_goals omega
/-- Behind all that is done stands a bracket, a call or nothing. -/
theorem red_top : ∀ (ws : List Wt) (ns : List Nd), Rk ns.length ws → (red 1 ns ws).2 = [] ∨ ∃ w r, (red 1 ns ws).2 = w :: r ∧ w.opn = true
  | [], ns, h => .inl rfl
  | w :: ws, ns, h => by
    by_cases h1 : w.opn = true
    · rw [red_stop (.inl h1)]
      exact .inr ⟨w, ws, rfl, h1⟩
    · have h0 : ¬ (w.opn = true ∨ lvl w.op < 1) := fun q => q.elim h1 (fun q => by have := lvl_pos w.op; omega)
      unfold Rk at h
      rw [if_neg h1] at h
      by_cases h2 : w.op = 11
      · rw [if_pos h2] at h
        match ns, h with
        | [], h => exact absurd h.1 (by simp)
        | x :: ns, h =>
          rw [red_not1 h0 h2]
          exact red_top ws _ h.2
      · rw [if_neg h2] at h
        match ns, h with
        | [], h => exact absurd h.1 (by simp)
        | [x], h => exact absurd h.1 (by simp)
        | y :: x :: ns, h =>
          rw [red_bin1 h0 h2]
          exact red_top ws _ h.2
theorem red_inCall (L : Int) : ∀ (ws : List Wt) (ns : List Nd), Rk ns.length ws → inCall (red L ns ws).2 = inCall ws
  | [], ns, h => rfl
  | w :: ws, ns, h => by
    by_cases h0 : w.opn = true ∨ lvl w.op < L
    · rw [red_stop h0]
    · have h1 : ¬ w.opn = true := fun q => h0 (.inl q)
      unfold Rk at h
      rw [if_neg h1] at h
      have hi : inCall (w :: ws) = inCall ws := by rw [inCall, if_neg h1]
      rw [hi]
      by_cases h2 : w.op = 11
      · rw [if_pos h2] at h
        match ns, h with
        | [], h => exact absurd h.1 (by simp)
        | x :: ns, h =>
          rw [red_not1 h0 h2]
          exact red_inCall L ws _ h.2
      · rw [if_neg h2] at h
        match ns, h with
        | [], h => exact absurd h.1 (by simp)
        | [x], h => exact absurd h.1 (by simp)
        | y :: x :: ns, h =>
          rw [red_bin1 h0 h2]
          exact red_inCall L ws _ h.2
/-- What is done grows nothing. -/
theorem red_len (L : Int) : ∀ (ws : List Wt) (ns : List Nd), Rk ns.length ws → (red L ns ws).1.length ≤ ns.length ∧ (red L ns ws).2.length ≤ ws.length
  | [], ns, h => ⟨Nat.le_refl _, Nat.le_refl _⟩
  | w :: ws, ns, h => by
    by_cases h0 : w.opn = true ∨ lvl w.op < L
    · rw [red_stop h0]
      exact ⟨Nat.le_refl _, Nat.le_refl _⟩
    · have h1 : ¬ w.opn = true := fun q => h0 (.inl q)
      unfold Rk at h
      rw [if_neg h1] at h
      by_cases h2 : w.op = 11
      · rw [if_pos h2] at h
        match ns, h with
        | [], h => exact absurd h.1 (by simp)
        | x :: ns, h =>
          rw [red_not1 h0 h2]
          have := red_len L ws (⟨11, [], 0, 0, foOf [x], w.pos⟩ :: ns) h.2
          simp only [List.length_cons] at this ⊢
          omega
      · rw [if_neg h2] at h
        match ns, h with
        | [], h => exact absurd h.1 (by simp)
        | [x], h => exact absurd h.1 (by simp)
        | y :: x :: ns, h =>
          rw [red_bin1 h0 h2]
          have := red_len L ws (⟨w.op, [], 0, 0, foOf [x, y], w.pos⟩ :: ns) h.2
          simp only [List.length_cons] at this ⊢
          omega

end Go.Proofs.YtijchmcajhdcoaaGreatDoor
