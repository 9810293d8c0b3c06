/-
  The greatest length of a list that two lists of lines contain, and the match of two lists, without a program: what the document calls L(i, j) and the match; pairs rise, their lines are alike, there are L(0, 0) of them, and what both begin with is paired. No condition.
-/
import Derived.Test.YtmblkkmfbgngdaaPWords
namespace Go.Proofs.Ytmblkkmfbgngdaa

/-- The greatest length of a list that both contain. -/
def lcs : List Bs → List Bs → Nat
  | [], _ => 0
  | _ :: _, [] => 0
  | x :: a, y :: b => max (max (lcs a (y :: b)) (lcs (x :: a) b)) (if x = y then lcs a b + 1 else 0)
termination_by a b => a.length + b.length

theorem lcs_nil (b : List Bs) : lcs [] b = 0 := by unfold lcs; rfl
theorem lcs_nil' (a : List Bs) : lcs a [] = 0 := by
  cases a with
  | nil => exact lcs_nil []
  | cons x a => unfold lcs; rfl
theorem lcs_cons (x y : Bs) (a b : List Bs) : lcs (x :: a) (y :: b) = max (max (lcs a (y :: b)) (lcs (x :: a) b)) (if x = y then lcs a b + 1 else 0) := by
  rw [lcs]

/-- No common list is longer. -/
theorem lcs_most : ∀ (n : Nat) (a b s : List Bs), a.length + b.length ≤ n → s.Sublist a → s.Sublist b → s.length ≤ lcs a b
  | _, [], b, s, _, h, _ => by
    obtain rfl := List.sublist_nil.1 h
    simp
  | _, x :: a, [], s, _, _, k => by
    obtain rfl := List.sublist_nil.1 k
    simp
  | 0, x :: a, y :: b, s, hn, _, _ => by simp at hn
  | n + 1, x :: a, y :: b, s, hn, h, k => by
    simp only [List.length_cons] at hn
    rw [lcs_cons]
    cases h with
    | cons _ h =>
      have := lcs_most n a (y :: b) s (by simp only [List.length_cons]; omega) h k
      omega
    | cons_cons _ h =>
      rename_i s
      cases k with
      | cons _ k =>
        have := lcs_most n (x :: a) b (x :: s) (by simp only [List.length_cons]; omega) (h.cons_cons x) k
        omega
      | cons_cons _ k =>
        have := lcs_most n a b s (by omega) h k
        rw [if_pos rfl]
        simp only [List.length_cons]
        omega

/-- There is one of that length. -/
theorem lcs_some : ∀ (n : Nat) (a b : List Bs), a.length + b.length ≤ n → ∃ s : List Bs, s.Sublist a ∧ s.Sublist b ∧ s.length = lcs a b
  | _, [], b, _ => ⟨[], List.Sublist.refl _, List.nil_sublist _, by rw [lcs_nil]; rfl⟩
  | _, x :: a, [], _ => ⟨[], List.nil_sublist _, List.Sublist.refl _, by rw [lcs_nil']; rfl⟩
  | 0, x :: a, y :: b, hn => by simp at hn
  | n + 1, x :: a, y :: b, hn => by
    simp only [List.length_cons] at hn
    obtain ⟨s1, h1, k1, e1⟩ := lcs_some n a (y :: b) (by simp only [List.length_cons]; omega)
    obtain ⟨s2, h2, k2, e2⟩ := lcs_some n (x :: a) b (by simp only [List.length_cons]; omega)
    obtain ⟨s3, h3, k3, e3⟩ := lcs_some n a b (by omega)
    rw [lcs_cons]
    by_cases hxy : x = y
    · subst hxy
      rw [if_pos rfl]
      by_cases c1 : lcs a b + 1 ≤ max (lcs a (x :: b)) (lcs (x :: a) b)
      · by_cases c2 : lcs (x :: a) b ≤ lcs a (x :: b)
        · exact ⟨s1, h1.cons x, k1, by omega⟩
        · exact ⟨s2, h2, k2.cons x, by omega⟩
      · exact ⟨x :: s3, h3.cons_cons x, k3.cons_cons x, by simp only [List.length_cons]; omega⟩
    · rw [if_neg hxy]
      by_cases c2 : lcs (x :: a) b ≤ lcs a (y :: b)
      · exact ⟨s1, h1.cons x, k1, by omega⟩
      · exact ⟨s2, h2, k2.cons y, by omega⟩

theorem lcs_le {a b s : List Bs} (h : s.Sublist a) (k : s.Sublist b) : s.length ≤ lcs a b := lcs_most _ a b s (Nat.le_refl _) h k
theorem lcs_has (a b : List Bs) : ∃ s : List Bs, s.Sublist a ∧ s.Sublist b ∧ s.length = lcs a b := lcs_some _ a b (Nat.le_refl _)

/-- Lines that are alike in front: both are paired. -/
theorem lcs_same (x : Bs) (a b : List Bs) : lcs (x :: a) (x :: b) = lcs a b + 1 := by
  have h1 : lcs a b + 1 ≤ lcs (x :: a) (x :: b) := by rw [lcs_cons, if_pos rfl]; omega
  have h2 : lcs (x :: a) (x :: b) ≤ lcs a b + 1 := by
    obtain ⟨s, h, k, e⟩ := lcs_has (x :: a) (x :: b)
    rw [← e]
    cases s with
    | nil => simp
    | cons z t =>
      have ht : t.Sublist a := h.tail
      have kt : t.Sublist b := k.tail
      have := lcs_le ht kt
      simp only [List.length_cons]
      omega
  omega

theorem lcs_skip {x y : Bs} (a b : List Bs) (h : x ≠ y) : lcs (x :: a) (y :: b) = max (lcs a (y :: b)) (lcs (x :: a) b) := by
  rw [lcs_cons, if_neg h]
  omega

/-- Told from the other end it is the same. -/
theorem lcs_rev (a b : List Bs) : lcs a.reverse b.reverse = lcs a b := by
  have key : ∀ a b : List Bs, lcs a b ≤ lcs a.reverse b.reverse := by
    intro a b
    obtain ⟨s, h, k, e⟩ := lcs_has a b
    have := lcs_le h.reverse k.reverse
    rw [List.length_reverse] at this
    omega
  have h1 := key a b
  have h2 := key a.reverse b.reverse
  rw [List.reverse_reverse, List.reverse_reverse] at h2
  omega

theorem lcs_len (a b : List Bs) : lcs a b ≤ a.length ∧ lcs a b ≤ b.length := by
  obtain ⟨s, h, k, e⟩ := lcs_has a b
  rw [← e]
  exact ⟨h.length_le, k.length_le⟩

/-- The match, from places on. -/
def matchFrom (i j : Nat) : List Bs → List Bs → List (Int × Int)
  | [], _ => []
  | _ :: _, [] => []
  | x :: a, y :: b => if x = y then ((i : Int), (j : Int)) :: matchFrom (i + 1) (j + 1) a b else if lcs (x :: a) b ≤ lcs a (y :: b) then matchFrom (i + 1) j a (y :: b) else matchFrom i (j + 1) (x :: a) b
termination_by a b => a.length + b.length

theorem match_nil (i j : Nat) (b : List Bs) : matchFrom i j [] b = [] := by unfold matchFrom; rfl
theorem match_nil' (i j : Nat) (a : List Bs) : matchFrom i j a [] = [] := by
  cases a with
  | nil => exact match_nil i j []
  | cons x a => unfold matchFrom; rfl
theorem match_same (i j : Nat) (x : Bs) (a b : List Bs) : matchFrom i j (x :: a) (x :: b) = ((i : Int), (j : Int)) :: matchFrom (i + 1) (j + 1) a b := by
  rw [matchFrom, if_pos rfl]
theorem match_down (i j : Nat) {x y : Bs} (a b : List Bs) (h : x ≠ y) (k : lcs (x :: a) b ≤ lcs a (y :: b)) : matchFrom i j (x :: a) (y :: b) = matchFrom (i + 1) j a (y :: b) := by
  rw [matchFrom, if_neg h, if_pos k]
theorem match_right (i j : Nat) {x y : Bs} (a b : List Bs) (h : x ≠ y) (k : ¬ lcs (x :: a) b ≤ lcs a (y :: b)) : matchFrom i j (x :: a) (y :: b) = matchFrom i (j + 1) (x :: a) b := by
  rw [matchFrom, if_neg h, if_neg k]

/-- The match of two lists. -/
def matchL (a b : List Bs) : List (Int × Int) := matchFrom 0 0 a b

/-- What holds of no lines and of each step of the match holds of every two lists. -/
theorem match_ind (P : Nat → Nat → List Bs → List Bs → Prop) (h0 : ∀ i j b, P i j [] b) (h1 : ∀ i j a, P i j a []) (h2 : ∀ i j x a b, P (i + 1) (j + 1) a b → P i j (x :: a) (x :: b))
    (h3 : ∀ i j x y a b, x ≠ y → lcs (x :: a) b ≤ lcs a (y :: b) → P (i + 1) j a (y :: b) → P i j (x :: a) (y :: b))
    (h4 : ∀ i j x y a b, x ≠ y → ¬ lcs (x :: a) b ≤ lcs a (y :: b) → P i (j + 1) (x :: a) b → P i j (x :: a) (y :: b)) : ∀ (n : Nat) (i j : Nat) (a b : List Bs), a.length + b.length ≤ n → P i j a b
  | _, i, j, [], b, _ => h0 i j b
  | _, i, j, x :: a, [], _ => h1 i j (x :: a)
  | 0, i, j, x :: a, y :: b, hn => by simp at hn
  | n + 1, i, j, x :: a, y :: b, hn => by
    simp only [List.length_cons] at hn
    by_cases hxy : x = y
    · subst hxy
      exact h2 i j x a b (match_ind P h0 h1 h2 h3 h4 n _ _ a b (by omega))
    · by_cases k : lcs (x :: a) b ≤ lcs a (y :: b)
      · exact h3 i j x y a b hxy k (match_ind P h0 h1 h2 h3 h4 n _ _ a (y :: b) (by simp only [List.length_cons]; omega))
      · exact h4 i j x y a b hxy k (match_ind P h0 h1 h2 h3 h4 n _ _ (x :: a) b (by simp only [List.length_cons]; omega))

theorem match_len (i j : Nat) (a b : List Bs) : (matchFrom i j a b).length = lcs a b := by
  refine match_ind (fun i j a b => (matchFrom i j a b).length = lcs a b) ?_ ?_ ?_ ?_ ?_ _ i j a b (Nat.le_refl _)
  · intro i j b; rw [match_nil, lcs_nil]; rfl
  · intro i j a; rw [match_nil', lcs_nil']; rfl
  · intro i j x a b h; rw [match_same, lcs_same, List.length_cons, h]
  · intro i j x y a b h k ih; rw [match_down i j a b h k, ih, lcs_skip a b h]; omega
  · intro i j x y a b h k ih; rw [match_right i j a b h k, ih, lcs_skip a b h]; omega

/-- A pair of the match: two places, from i and j on, whose lines are alike. -/
def PairOk (i j : Nat) (a b : List Bs) (p : Int × Int) : Prop := ∃ u v : Nat, p = (((i + u : Nat) : Int), ((j + v : Nat) : Int)) ∧ ∃ x, a[u]? = some x ∧ b[v]? = some x

theorem match_pairs (i j : Nat) (a b : List Bs) : ∀ p ∈ matchFrom i j a b, PairOk i j a b p := by
  refine match_ind (fun i j a b => ∀ p ∈ matchFrom i j a b, PairOk i j a b p) ?_ ?_ ?_ ?_ ?_ _ i j a b (Nat.le_refl _)
  · intro i j b; rw [match_nil]; simp
  · intro i j a; rw [match_nil']; simp
  · intro i j x a b ih p hp
    rw [match_same] at hp
    rcases List.mem_cons.1 hp with rfl | q
    · exact ⟨0, 0, rfl, x, rfl, rfl⟩
    · obtain ⟨u, v, rfl, z, h1, h2⟩ := ih p q
      exact ⟨u + 1, v + 1, by congr 2 <;> omega, z, by simpa using h1, by simpa using h2⟩
  · intro i j x y a b h k ih p hp
    rw [match_down i j a b h k] at hp
    obtain ⟨u, v, rfl, z, h1, h2⟩ := ih p hp
    exact ⟨u + 1, v, by congr 2; omega, z, by simpa using h1, h2⟩
  · intro i j x y a b h k ih p hp
    rw [match_right i j a b h k] at hp
    obtain ⟨u, v, rfl, z, h1, h2⟩ := ih p hp
    exact ⟨u, v + 1, by congr 2; omega, z, h1, by simpa using h2⟩

/-- Pairs rise in both lists. -/
theorem match_up (i j : Nat) (a b : List Bs) : (matchFrom i j a b).Pairwise (fun p q => p.1 < q.1 ∧ p.2 < q.2) := by
  refine match_ind (fun i j a b => (matchFrom i j a b).Pairwise (fun p q => p.1 < q.1 ∧ p.2 < q.2)) ?_ ?_ ?_ ?_ ?_ _ i j a b (Nat.le_refl _)
  · intro i j b; rw [match_nil]; exact List.Pairwise.nil
  · intro i j a; rw [match_nil']; exact List.Pairwise.nil
  · intro i j x a b ih
    rw [match_same]
    refine List.pairwise_cons.2 ⟨fun q hq => ?_, ih⟩
    obtain ⟨u, v, rfl, _⟩ := match_pairs (i + 1) (j + 1) a b q hq
    simp only
    omega
  · intro i j x y a b h k ih; rw [match_down i j a b h k]; exact ih
  · intro i j x y a b h k ih; rw [match_right i j a b h k]; exact ih

/-- What both lists begin with is paired. -/
theorem match_front : ∀ (f i j : Nat) (a b : List Bs), (∀ k, k < f → ∃ x, a[k]? = some x ∧ b[k]? = some x) → ∀ k, k < f → (matchFrom i j a b)[k]? = some (((i + k : Nat) : Int), ((j + k : Nat) : Int))
  | 0, _, _, _, _, _, k, hk => by omega
  | f + 1, i, j, a, b, h, k, hk => by
    obtain ⟨x, hx, hy⟩ := h 0 (by omega)
    cases a with
    | nil => simp at hx
    | cons x' a =>
      cases b with
      | nil => simp at hy
      | cons y' b =>
        simp at hx hy
        subst hx hy
        rw [match_same]
        cases k with
        | zero => rfl
        | succ k =>
          have := match_front f (i + 1) (j + 1) a b (fun q hq => by
            obtain ⟨z, h1, h2⟩ := h (q + 1) (by omega)
            exact ⟨z, by simpa using h1, by simpa using h2⟩) k (by omega)
          rw [List.getElem?_cons_succ, this]
          congr 2 <;> omega

end Go.Proofs.Ytmblkkmfbgngdaa
