/-
  The queue's list as a heap, without any program: what one step up and one step down leave in order, and that the first item of a heap is ahead of, or the same as, all others.
-/
import Derived.Test.YtjpdckpkpcphcaaSmall
namespace Go.Proofs.Ytjpdckpkpcphcaa
open Go.RowKit

theorem ahd_iff (a b : It) : ahd a b = true ↔ (b.1 < a.1 ∨ (a.1 = b.1 ∧ a.2 < b.2)) := by
  unfold ahd
  by_cases h : a.1 = b.1
  · rw [if_pos h, decide_eq_true_iff]; omega
  · rw [if_neg h, decide_eq_true_iff]; omega

theorem ahd_not (a b : It) : ahd a b = false ↔ (a.1 < b.1 ∨ (a.1 = b.1 ∧ b.2 ≤ a.2)) := by
  rw [← Bool.not_eq_true, ahd_iff]; omega

/-- Neither is ahead of the other: they are the same. -/
theorem ahd_same {a b : It} (h : ahd a b = false) (k : ahd b a = false) : a = b := by
  rw [ahd_not] at h k
  exact Prod.ext (by omega) (by omega)

theorem ahd_asymm {a b : It} (h : ahd a b = true) : ahd b a = false := by
  rw [ahd_iff] at h; rw [ahd_not]; omega

theorem ahd_irrefl (a : It) : ahd a a = false := by rw [ahd_not]; omega

/-- 'Not ahead of' goes on from one to the next. -/
theorem nahd_trans {a b c : It} (h : ahd a b = false) (k : ahd b c = false) : ahd a c = false := by
  rw [ahd_not] at h k ⊢; omega

/-- The item at a place. -/
def el (xs : List It) (i : Nat) : It := xs.getD i (0, 0)

theorem el_eq {xs : List It} {i : Nat} (h : i < xs.length) : el xs i = xs[i] := by
  simp [el, h]

theorem el_some {xs : List It} {i : Nat} (h : i < xs.length) : xs[i]? = some (el xs i) := by
  rw [el_eq h]; exact List.getElem?_eq_getElem h

theorem el_mem {xs : List It} {i : Nat} (h : i < xs.length) : el xs i ∈ xs := by
  rw [el_eq h]; exact List.getElem_mem h

theorem mem_el {xs : List It} {x : It} (h : x ∈ xs) : ∃ i, i < xs.length ∧ el xs i = x := by
  obtain ⟨i, hi, rfl⟩ := List.mem_iff_getElem.1 h
  exact ⟨i, hi, el_eq hi⟩

/-- The list with two items exchanged. -/
def sw (xs : List It) (i j : Nat) : List It := (xs.set i (el xs j)).set j (el xs i)

theorem sw_length (xs : List It) (i j : Nat) : (sw xs i j).length = xs.length := by simp [sw]

theorem sw_perm {xs : List It} {i j : Nat} (hi : i < xs.length) (hj : j < xs.length) : (sw xs i j).Perm xs := by
  unfold sw
  rw [el_eq hi, el_eq hj]
  exact List.set_set_perm hi hj

theorem el_set {xs : List It} {i : Nat} (x : It) (hi : i < xs.length) (k : Nat) : el (xs.set i x) k = if k = i then x else el xs k := by
  by_cases h : k = i
  · subst h; simp [el, hi]
  · have h' : i ≠ k := fun e => h e.symm
    simp [el, h, List.getElem?_set_ne h']

theorem el_sw {xs : List It} {i j : Nat} (hi : i < xs.length) (hj : j < xs.length) (k : Nat) :
    el (sw xs i j) k = if k = j then el xs i else if k = i then el xs j else el xs k := by
  unfold sw
  rw [el_set _ (by simpa using hj), el_set _ hi]

/-- Each item but the first is not ahead of the one above it. -/
def Pile (xs : List It) : Prop := ∀ i, 0 < i → i < xs.length → ahd (el xs i) (el xs ((i - 1) / 2)) = false

/-- A heap, but that the item at a place may be ahead of the one above it. -/
def PileUp (xs : List It) (p : Nat) : Prop := ∀ i, 0 < i → i < xs.length →
  (i ≠ p → ahd (el xs i) (el xs ((i - 1) / 2)) = false) ∧ ((i - 1) / 2 = p → 0 < p → ahd (el xs i) (el xs ((p - 1) / 2)) = false)

/-- A heap, but that items right below a place may be ahead of the one there. -/
def PileDown (xs : List It) (p : Nat) : Prop := ∀ i, 0 < i → i < xs.length →
  ((i - 1) / 2 ≠ p → ahd (el xs i) (el xs ((i - 1) / 2)) = false) ∧ ((i - 1) / 2 = p → 0 < p → ahd (el xs i) (el xs ((p - 1) / 2)) = false)

theorem pile_nil : Pile [] := fun i _ h => by simp at h

theorem pile_top {xs : List It} (h : Pile xs) : ∀ i, i < xs.length → ahd (el xs i) (el xs 0) = false := by
  intro i
  induction i using Nat.strongRecOn with
  | ind i ih =>
    intro hi
    by_cases h0 : i = 0
    · subst h0; exact ahd_irrefl _
    · exact nahd_trans (h i (by omega) hi) (ih ((i - 1) / 2) (by omega) (by omega))

theorem pile_first {xs : List It} (h : Pile xs) {x : It} (hx : x ∈ xs) : ahd x (el xs 0) = false := by
  obtain ⟨i, hi, rfl⟩ := mem_el hx
  exact pile_top h i hi

theorem up_start {xs : List It} (h : Pile xs) (x : It) : PileUp (xs ++ [x]) xs.length := by
  intro i h0 hi
  simp only [List.length_append, List.length_cons, List.length_nil] at hi
  refine ⟨fun hne => ?_, fun hp _ => by omega⟩
  have e1 : el (xs ++ [x]) i = el xs i := by simp [el, List.getElem?_append, show i < xs.length by omega]
  have e2 : el (xs ++ [x]) ((i - 1) / 2) = el xs ((i - 1) / 2) := by simp [el, List.getElem?_append, show (i - 1) / 2 < xs.length by omega]
  rw [e1, e2]
  exact h i h0 (by omega)

theorem up_stop {xs : List It} {p : Nat} (h : PileUp xs p) (k : p = 0 ∨ ahd (el xs p) (el xs ((p - 1) / 2)) = false) : Pile xs := by
  intro i h0 hi
  by_cases hp : i = p
  · subst hp
    rcases k with rfl | k
    · omega
    · exact k
  · exact (h i h0 hi).1 hp

theorem up_step {xs : List It} {p : Nat} (h : PileUp xs p) (h0 : 0 < p) (hp : p < xs.length) (k : ahd (el xs p) (el xs ((p - 1) / 2)) = true) :
    PileUp (sw xs p ((p - 1) / 2)) ((p - 1) / 2) := by
  have hq : (p - 1) / 2 < p := by omega
  generalize hqq : (p - 1) / 2 = q at *
  intro i i0 hi
  rw [sw_length] at hi
  have E := el_sw (xs := xs) hp (show q < xs.length by omega)
  constructor
  · intro hne
    rw [E i, E ((i - 1) / 2), if_neg hne]
    by_cases c1 : i = p
    · subst c1
      rw [if_pos rfl, if_pos hqq]
      exact ahd_asymm k
    · rw [if_neg c1]
      by_cases c2 : (i - 1) / 2 = q
      · rw [if_pos c2]
        have := (h i i0 hi).1 c1
        rw [c2] at this
        exact nahd_trans this (ahd_asymm k)
      · rw [if_neg c2]
        by_cases c3 : (i - 1) / 2 = p
        · rw [if_pos c3]
          have := (h i i0 hi).2 c3 h0
          rwa [hqq] at this
        · rw [if_neg c3]
          exact (h i i0 hi).1 c1
  · intro hiq q0
    rw [E i, E ((q - 1) / 2), if_neg (show (q - 1) / 2 ≠ q by omega), if_neg (show (q - 1) / 2 ≠ p by omega), if_neg (show i ≠ q by omega)]
    have hqs := (h q q0 (by omega)).1 (by omega)
    by_cases c1 : i = p
    · rw [if_pos c1]; exact hqs
    · rw [if_neg c1]
      have := (h i i0 hi).1 c1
      rw [hiq] at this
      exact nahd_trans this hqs

/-- The place of the first of the two items below a place, and past the end if there is none. -/
def fb (xs : List It) (p : Nat) : Nat := if 2 * p + 2 < xs.length ∧ ahd (el xs (2 * p + 2)) (el xs (2 * p + 1)) = true then 2 * p + 2 else 2 * p + 1

theorem fb_par (xs : List It) (p : Nat) : (fb xs p - 1) / 2 = p ∧ p < fb xs p ∧ fb xs p ≤ 2 * p + 2 := by
  unfold fb; split <;> omega

theorem fb_least {xs : List It} {p : Nat} {i : Nat} (h0 : 0 < i) (hi : i < xs.length) (hp : (i - 1) / 2 = p) : fb xs p < xs.length ∧ ahd (el xs i) (el xs (fb xs p)) = false := by
  have : i = 2 * p + 1 ∨ i = 2 * p + 2 := by omega
  unfold fb
  rcases this with rfl | rfl
  · split
    next c => exact ⟨c.1, ahd_asymm c.2⟩
    next c => exact ⟨hi, ahd_irrefl _⟩
  · split
    next c => exact ⟨hi, ahd_irrefl _⟩
    next c => exact ⟨by omega, by rcases hb : ahd (el xs (2 * p + 2)) (el xs (2 * p + 1)) with _ | _
                                  · rfl
                                  · exact absurd ⟨hi, hb⟩ c⟩

theorem down_stop {xs : List It} {p : Nat} (h : PileDown xs p) (k : xs.length ≤ fb xs p ∨ ahd (el xs (fb xs p)) (el xs p) = false) : Pile xs := by
  intro i h0 hi
  by_cases hp : (i - 1) / 2 = p
  · obtain ⟨c1, c2⟩ := fb_least h0 hi hp
    rcases k with k | k
    · omega
    · rw [hp]; exact nahd_trans c2 k
  · exact (h i h0 hi).1 hp

theorem down_step {xs : List It} {p : Nat} (h : PileDown xs p) (hc : fb xs p < xs.length) (k : ahd (el xs (fb xs p)) (el xs p) = true) :
    PileDown (sw xs p (fb xs p)) (fb xs p) := by
  obtain ⟨c1, c2, c3⟩ := fb_par xs p
  have L : ∀ i, 0 < i → i < xs.length → (i - 1) / 2 = p → ahd (el xs i) (el xs (fb xs p)) = false := fun i a b c => (fb_least a b c).2
  generalize hqq : fb xs p = q at *
  intro i i0 hi
  rw [sw_length] at hi
  have E := el_sw (xs := xs) (show p < xs.length by omega) hc
  constructor
  · intro hne
    rw [E i, E ((i - 1) / 2), if_neg hne]
    by_cases d1 : (i - 1) / 2 = p
    · rw [if_pos d1]
      by_cases d2 : i = q
      · rw [if_pos d2]; exact ahd_asymm k
      · rw [if_neg d2, if_neg (show i ≠ p by omega)]
        exact L i i0 hi d1
    · rw [if_neg d1, if_neg (show i ≠ q by intro e; subst e; exact d1 c1)]
      by_cases d3 : i = p
      · subst d3
        rw [if_pos rfl]
        exact (h q (by omega) hc).2 c1 i0
      · rw [if_neg d3]
        exact (h i i0 hi).1 d1
  · intro hiq q0
    rw [c1, E i, E p, if_neg (show p ≠ q by omega), if_pos rfl, if_neg (show i ≠ q by omega), if_neg (show i ≠ p by omega)]
    have := (h i i0 hi).1 (by omega)
    rwa [hiq] at this

/-- What is left when the last item has taken the first one's place. -/
def left (xs : List It) : List It := (xs.set 0 (el xs (xs.length - 1))).take (xs.length - 1)

theorem left_length (xs : List It) : (left xs).length = xs.length - 1 := by simp [left]

theorem left_perm (xs : List It) : (left xs).Perm xs.tail := by
  cases xs with
  | nil => simp [left]
  | cons x t =>
    rcases List.eq_nil_or_concat t with rfl | ⟨i, l, rfl⟩
    · simp [left]
    · have : left (x :: (i ++ [l])) = l :: i := by
        simp [left, el]
      simp only [List.concat_eq_append] at *
      rw [this]
      simpa using (List.perm_append_comm (l₁ := [l]) (l₂ := i))

theorem el_left {xs : List It} {i : Nat} (h0 : 0 < i) (hi : i < xs.length - 1) : el (left xs) i = el xs i := by
  have h' : 0 ≠ i := by omega
  have e : (left xs)[i]? = xs[i]? := by rw [left, List.getElem?_take, if_pos hi, List.getElem?_set_ne h']
  simp only [el, List.getD_eq_getElem?_getD, e]

theorem down_start {xs : List It} (h : Pile xs) : PileDown (left xs) 0 := by
  intro i i0 hi
  rw [left_length] at hi
  refine ⟨fun hne => ?_, fun _ h0 => by omega⟩
  rw [el_left i0 hi, el_left (by omega) (by omega)]
  exact h i i0 (by omega)

/-- Of two heaps of the same items the first ones are the same. -/
theorem pile_same {xs ys : List It} (hx : Pile xs) (hy : Pile ys) (h : xs.Perm ys) : el xs 0 = el ys 0 := by
  by_cases h0 : 0 < xs.length
  · have h1 : 0 < ys.length := by rw [← h.length_eq]; exact h0
    exact ahd_same (pile_first hy (h.mem_iff.1 (el_mem h0))) (pile_first hx (h.mem_iff.2 (el_mem h1)))
  · have e1 : xs = [] := List.eq_nil_of_length_eq_zero (by omega)
    have e2 : ys = [] := List.eq_nil_of_length_eq_zero (by rw [← h.length_eq]; omega)
    rw [e1, e2]

theorem perm_tail {xs ys : List It} (hx : Pile xs) (hy : Pile ys) (h : xs.Perm ys) : xs.tail.Perm ys.tail := by
  have e := pile_same hx hy h
  cases xs with
  | nil =>
    have : ys = [] := List.eq_nil_of_length_eq_zero (by rw [← h.length_eq]; rfl)
    subst this; exact List.Perm.refl _
  | cons x t =>
    cases ys with
    | nil => have := h.length_eq; simp at this
    | cons y u =>
      have : x = y := e
      subst this
      exact (List.perm_cons x).1 h

end Go.Proofs.Ytjpdckpkpcphcaa
