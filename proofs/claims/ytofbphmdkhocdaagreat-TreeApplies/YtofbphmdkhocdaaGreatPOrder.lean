/-
  Texts in rising order, each once: the document's way, text by text, and the library's (sorted, then alike neighbours struck), are the same list. No program.
-/
import Derived.Test.YtofbphmdkhocdaaGreatPRoom
import Derived.Lib.SlicesCompact
import Derived.Sort.Walk0
namespace Go.Proofs.YtofbphmdkhocdaaGreat
open Go.RowKit

theorem bl_irrefl (a : Bs) : ¬ a < a := List.lt_irrefl a
theorem bl_trans {a b c : Bs} (h : a < b) (k : b < c) : a < c := List.lt_trans h k
theorem bl_asymm {a b : Bs} (h : a < b) : ¬ b < a := List.lt_asymm h
theorem bl_le {a b : Bs} : a ≤ b ↔ ¬ b < a := Iff.rfl
theorem bl_tri (a b : Bs) : a < b ∨ a = b ∨ b < a := by
  by_cases h : a < b
  · exact .inl h
  · by_cases k : b < a
    · exact .inr (.inr k)
    · exact .inr (.inl (List.le_antisymm k h))

/-- A rising list with one text more. -/
def insB (s : Bs) : List Bs → List Bs
  | [] => [s]
  | x :: t => if s < x then s :: x :: t else x :: insB s t
def withB (l : List Bs) (s : Bs) : List Bs := if l.any (· == s) then l else insB s l
/-- The texts of a list, rising, each once. -/
def srt (l : List Bs) : List Bs := l.foldl withB []

def Rising (l : List Bs) : Prop := l.Pairwise (· < ·)

theorem rising_ext : ∀ {a b : List Bs}, Rising a → Rising b → (∀ x, x ∈ a ↔ x ∈ b) → a = b
  | [], [], _, _, _ => rfl
  | [], y :: b, _, _, h => absurd ((h y).2 (List.mem_cons_self ..)) (by simp)
  | x :: a, [], _, _, h => absurd ((h x).1 (List.mem_cons_self ..)) (by simp)
  | x :: a, y :: b, ha, hb, h => by
    have ha' := List.pairwise_cons.1 ha
    have hb' := List.pairwise_cons.1 hb
    have hxy : x = y := by
      rcases List.mem_cons.1 ((h x).1 (List.mem_cons_self ..)) with e | e
      · exact e
      · rcases List.mem_cons.1 ((h y).2 (List.mem_cons_self ..)) with f | f
        · exact f.symm
        · exact absurd (hb'.1 x e) (bl_asymm (ha'.1 y f))
    subst hxy
    congr 1
    refine rising_ext ha'.2 hb'.2 ?_
    intro z
    have hz := h z
    simp only [List.mem_cons] at hz
    constructor
    · intro q
      rcases hz.1 (.inr q) with e | e
      · subst e; exact absurd (ha'.1 z q) (bl_irrefl z)
      · exact e
    · intro q
      rcases hz.2 (.inr q) with e | e
      · subst e; exact absurd (hb'.1 z q) (bl_irrefl z)
      · exact e

theorem mem_insB (s : Bs) : ∀ (l : List Bs) (x : Bs), x ∈ insB s l ↔ x = s ∨ x ∈ l
  | [], x => by simp [insB]
  | y :: t, x => by
    by_cases h : s < y
    · simp [insB, h]
    · have := mem_insB s t x
      simp only [insB, h, if_false, List.mem_cons, this]
      constructor
      · rintro (q | q | q) <;> simp [q]
      · rintro (q | q | q) <;> simp [q]

theorem rising_insB (s : Bs) : ∀ (l : List Bs), Rising l → s ∉ l → Rising (insB s l)
  | [], _, _ => by simp [insB, Rising]
  | y :: t, hr, hs => by
    have hr' := List.pairwise_cons.1 hr
    by_cases h : s < y
    · simp only [insB, h, if_true]
      refine List.pairwise_cons.2 ⟨?_, hr⟩
      intro z hz
      rcases List.mem_cons.1 hz with e | e
      · subst e; exact h
      · exact bl_trans h (hr'.1 z e)
    · simp only [insB, h, if_false]
      refine List.pairwise_cons.2 ⟨?_, rising_insB s t hr'.2 (fun q => hs (List.mem_cons_of_mem _ q))⟩
      intro z hz
      rcases (mem_insB s t z).1 hz with e | e
      · subst e
        rcases bl_tri y z with q | q | q
        · exact q
        · exact absurd (q ▸ List.mem_cons_self ..) hs
        · exact absurd q h
      · exact hr'.1 z e

theorem mem_withB (l : List Bs) (s x : Bs) : x ∈ withB l s ↔ x ∈ l ∨ x = s := by
  unfold withB
  split
  · rename_i h
    have hs : s ∈ l := by
      obtain ⟨y, hy, e⟩ := List.any_eq_true.1 h
      have : y = s := by simpa using e
      exact this ▸ hy
    constructor
    · exact .inl
    · rintro (q | q)
      · exact q
      · exact q ▸ hs
  · rw [mem_insB]
    exact Or.comm

theorem rising_withB (l : List Bs) (s : Bs) (h : Rising l) : Rising (withB l s) := by
  unfold withB
  split
  · exact h
  · rename_i q
    refine rising_insB s l h (fun m => q ?_)
    exact List.any_eq_true.2 ⟨s, m, by simp⟩

theorem srt_fold : ∀ (l a : List Bs), Rising a → Rising (l.foldl withB a) ∧ ∀ x, x ∈ l.foldl withB a ↔ x ∈ a ∨ x ∈ l
  | [], a, h => ⟨h, by simp⟩
  | s :: t, a, h => by
    obtain ⟨q1, q2⟩ := srt_fold t (withB a s) (rising_withB a s h)
    refine ⟨q1, fun x => ?_⟩
    rw [List.foldl_cons, q2 x, mem_withB]
    simp only [List.mem_cons]
    exact or_assoc
theorem srt_rising (l : List Bs) : Rising (srt l) := (srt_fold l [] List.Pairwise.nil).1
theorem mem_srt (l : List Bs) (x : Bs) : x ∈ srt l ↔ x ∈ l := by
  have := (srt_fold l [] List.Pairwise.nil).2 x
  simpa [srt] using this

open Go.Lib in
theorem compact_rising (d : Array Bs) (hd : ∀ i j, i < j → j < d.size → d[i]! ≤ d[j]!) : ∀ m, m ≤ d.size → Rising (compactUpTo d m) ∧ ∀ x, x ∈ compactUpTo d m ↔ ∃ j, j < m ∧ d[j]! = x
  | 0, _ => ⟨by simp [compactUpTo, Rising], by simp [compactUpTo]⟩
  | m + 1, hm => by
    obtain ⟨q1, q2⟩ := compact_rising d hd m (by omega)
    rw [compactUpTo_succ]
    by_cases hk : keeps d m = true
    · rw [if_pos hk]
      refine ⟨?_, ?_⟩
      · refine List.pairwise_append.2 ⟨q1, by simp, ?_⟩
        intro y hy z hz
        rw [List.mem_singleton] at hz
        subst hz
        obtain ⟨j, hj, rfl⟩ := (q2 y).1 hy
        have h1 := hd j m hj (by omega)
        rcases bl_tri d[j]! d[m]! with q | q | q
        · exact q
        · exfalso
          have hm0 : 0 < m := by omega
          have hne : d[m]! ≠ d[m - 1]! := by
            intro e
            rw [keeps_neg hm0 e] at hk
            cases hk
          rcases Nat.lt_or_ge j (m - 1) with hj1 | hj1
          · have h2 := hd j (m - 1) hj1 (by omega)
            have h3 := hd (m - 1) m (by omega) (by omega)
            rw [q] at h2
            exact hne (List.le_antisymm h2 h3)
          · have : j = m - 1 := by omega
            rw [← this] at hne
            exact hne q.symm
        · exact absurd q h1
      · intro x
        rw [List.mem_append, q2, List.mem_singleton]
        constructor
        · rintro (⟨j, hj, e⟩ | e)
          · exact ⟨j, by omega, e⟩
          · exact ⟨m, by omega, e.symm⟩
        · rintro ⟨j, hj, e⟩
          by_cases hjm : j = m
          · subst hjm; exact .inr e.symm
          · exact .inl ⟨j, by omega, e⟩
    · rw [if_neg hk, List.append_nil]
      refine ⟨q1, fun x => ?_⟩
      rw [q2]
      constructor
      · rintro ⟨j, hj, e⟩
        exact ⟨j, by omega, e⟩
      · rintro ⟨j, hj, e⟩
        by_cases hjm : j = m
        · subst hjm
          have hm0 : 0 < j := by
            rcases Nat.eq_zero_or_pos j with z | z
            · subst z; exact absurd (keeps_lt_one d 0 (by omega)) hk
            · exact z
          have he : d[j]! = d[j - 1]! := by
            by_cases c : d[j]! = d[j - 1]!
            · exact c
            · exact absurd (keeps_pos c) hk
          exact ⟨j - 1, by omega, by rw [← he, e]⟩
        · exact ⟨j, by omega, e⟩

theorem compact_sort (ss : List Bs) : Lib.compact (ss.mergeSort fun x y => decide (x ≤ y)) = srt ss := by
  have hp : (ss.mergeSort fun x y => decide (x ≤ y)).Pairwise (fun x y => decide (x ≤ y) = true) := by
    refine List.pairwise_mergeSort ?_ ?_ ss
    · intro a b c h1 h2
      simp only [decide_eq_true_eq] at h1 h2 ⊢
      exact List.le_trans h1 h2
    · intro a b
      rw [Bool.or_eq_true, decide_eq_true_eq, decide_eq_true_eq]
      rcases bl_tri a b with q | q | q
      · exact .inl (bl_asymm q)
      · subst q; exact .inl (bl_irrefl a)
      · exact .inr (bl_asymm q)
  have hperm := List.mergeSort_perm ss (fun x y => decide (x ≤ y))
  generalize (ss.mergeSort fun x y => decide (x ≤ y)) = zs at hp hperm
  have hq := compact_rising zs.toArray (fun i j hij hj => by
    have hj' : j < zs.length := by simpa using hj
    have := List.pairwise_iff_getElem.1 hp i j (by omega) hj' hij
    have e1 : zs.toArray[i]! = zs[i]'(by omega) := by simp [show i < zs.length by omega]
    have e2 : zs.toArray[j]! = zs[j] := by simp [hj']
    rw [e1, e2]
    simpa using this) zs.length (by simp)
  refine rising_ext hq.1 (srt_rising ss) (fun x => ?_)
  rw [show Lib.compact zs = Lib.compactUpTo zs.toArray zs.length from rfl, hq.2, mem_srt, ← hperm.mem_iff]
  constructor
  · rintro ⟨j, hj, e⟩
    have e1 : zs.toArray[j]! = zs[j] := by simp [hj]
    rw [← e, e1]
    exact List.getElem_mem hj
  · intro h
    obtain ⟨j, hj, e⟩ := List.getElem_of_mem h
    exact ⟨j, hj, by simp [hj, e]⟩

end Go.Proofs.YtofbphmdkhocdaaGreat
