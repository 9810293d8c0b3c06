/-
  Runs of numbers, without a program: what a list of runs of a set of numbers is, that there is one alone, and that both ways of making it (over a list in rising order, one number after the other; by the numbers that begin a run) make it. No condition but that the numbers are those of an int.
-/
import Derived.Test.YtnodkpnbfklmhaaDoorSmall
namespace Go.Proofs.YtnodkpnbfklmhaaDoor
open Go.RowKit

/-- The numbers of an int. -/
def isInt (x : Int) : Prop := -9223372036854775808 ≤ x ∧ x ≤ 9223372036854775807

/-- A run of a set that nothing of the set touches. -/
def Good (S : List Int) (r : Pr) : Prop := r.1 ∈ S ∧ r.1 - 1 ∉ S ∧ r.1 ≤ r.2 ∧ (∀ x, r.1 ≤ x → x ≤ r.2 → x ∈ S) ∧ r.2 + 1 ∉ S

structure IsRuns (S : List Int) (R : List Pr) : Prop where
  up : R.Pairwise (fun a b => a.1 < b.1)
  each : ∀ r ∈ R, Good S r
  all : ∀ n ∈ S, n - 1 ∉ S → ∃ r ∈ R, r.1 = n

theorem good_one {S : List Int} {r q : Pr} (h : Good S r) (k : Good S q) (e : q.1 = r.1) : q = r := by
  obtain ⟨_, _, h3, h4, h5⟩ := h
  obtain ⟨_, _, k3, k4, k5⟩ := k
  have : q.2 = r.2 := by
    rcases Int.lt_trichotomy q.2 r.2 with c | c | c
    · exact absurd (h4 (q.2 + 1) (by omega) (by omega)) k5
    · exact c
    · exact absurd (k4 (r.2 + 1) (by omega) (by omega)) h5
  exact Prod.ext e this

theorem same_sorted : ∀ {R R' : List Pr}, R.Pairwise (fun a b => a.1 < b.1) → R'.Pairwise (fun a b => a.1 < b.1) → (∀ r, r ∈ R ↔ r ∈ R') → R = R'
  | [], [], _, _, _ => rfl
  | [], b :: t', _, _, m => absurd ((m b).2 (by simp)) (by simp)
  | a :: t, [], _, _, m => absurd ((m a).1 (by simp)) (by simp)
  | a :: t, b :: t', h, h', m => by
    obtain ⟨h1, h2⟩ := List.pairwise_cons.1 h
    obtain ⟨k1, k2⟩ := List.pairwise_cons.1 h'
    have e : a = b := by
      rcases List.mem_cons.1 ((m a).1 (by simp)) with e | q
      · exact e
      · rcases List.mem_cons.1 ((m b).2 (by simp)) with e | p
        · exact e.symm
        · have := k1 a q
          have := h1 b p
          omega
    subst e
    have : t = t' := by
      refine same_sorted h2 k2 (fun r => ⟨fun q => ?_, fun q => ?_⟩)
      · rcases List.mem_cons.1 ((m r).1 (by simp [q])) with e | p
        · subst e; have := h1 _ q; omega
        · exact p
      · rcases List.mem_cons.1 ((m r).2 (by simp [q])) with e | p
        · subst e; have := k1 _ q; omega
        · exact p
    rw [this]

theorem IsRuns.uniq {S : List Int} {R R' : List Pr} (h : IsRuns S R) (k : IsRuns S R') : R = R' := by
  refine same_sorted h.up k.up (fun r => ⟨fun q => ?_, fun q => ?_⟩)
  · obtain ⟨p, hp, e⟩ := k.all r.1 (h.each r q).1 (h.each r q).2.1
    rw [← good_one (h.each r q) (k.each p hp) e]
    exact hp
  · obtain ⟨p, hp, e⟩ := h.all r.1 (k.each r q).1 (k.each r q).2.1
    rw [← good_one (k.each r q) (h.each p hp) e]
    exact hp

/-- One number more, not below those that are there. -/
def addRun (rs : List Pr) (n : Int) : List Pr :=
  match rs.getLast? with
  | none => rs ++ [(n, n)]
  | some r => if (r.2 == n || r.2 == wrap64 (n - 1)) = true then rs.dropLast ++ [(r.1, n)] else rs ++ [(n, n)]

/-- What is known of the runs of a list in rising order. -/
structure Made (S : List Int) (R : List Pr) : Prop where
  gap : R.Pairwise (fun a b => a.2 + 1 < b.1)
  each : ∀ r ∈ R, r.1 ≤ r.2 ∧ ∀ x, r.1 ≤ x → x ≤ r.2 → x ∈ S
  cover : ∀ x ∈ S, ∃ r ∈ R, r.1 ≤ x ∧ x ≤ r.2
  last : ∀ r, R.getLast? = some r → ∀ x ∈ S, x ≤ r.2

theorem Made.nil : Made [] [] := ⟨List.Pairwise.nil, by simp, by simp, by simp⟩

theorem Made.add {S : List Int} {R : List Pr} (h : Made S R) {n : Int} (hn : ∀ x ∈ S, x ≤ n) (hi : isInt n) (hS : ∀ x ∈ S, isInt x) : Made (S ++ [n]) (addRun R n) := by
  unfold addRun
  cases e : R.getLast? with
  | none =>
    obtain rfl : R = [] := List.getLast?_eq_none_iff.1 e
    have hS0 : S = [] := by
      cases S with
      | nil => rfl
      | cons x t => obtain ⟨r, hr, _⟩ := h.cover x (by simp); simp at hr
    subst hS0
    refine ⟨by simp, ?_, ?_, ?_⟩
    · intro r hr
      simp at hr
      subst hr
      exact ⟨by simp, fun x h1 h2 => by simp at h1 h2; simp; omega⟩
    · intro x hx
      simp at hx
      subst hx
      exact ⟨(x, x), by simp, by simp, by simp⟩
    · intro r hr x hx
      simp at hr hx
      subst hr hx
      simp
  | some r =>
    obtain ⟨ys, rfl⟩ := List.getLast?_eq_some_iff.1 e
    have hr := h.each r (by simp)
    have hrS : r.2 ∈ S := hr.2 r.2 hr.1 (Int.le_refl _)
    have hrn : r.2 ≤ n := hn _ hrS
    have hlast := h.last r e
    have hgap := List.pairwise_append.1 h.gap
    have hri := hS _ hrS
    have hw : (r.2 == n || r.2 == wrap64 (n - 1)) = (decide (n ≤ r.2 + 1)) := by
      unfold isInt at hi hri
      by_cases c : r.2 = n
      · simp [c]; omega
      · rw [show wrap64 (n - 1) = n - 1 from by unfold wrap64; omega]
        by_cases d : r.2 = n - 1
        · simp [d]
        · have : ¬ n ≤ r.2 + 1 := by omega
          simp [c, d, this]
    simp only [hw]
    by_cases c : n ≤ r.2 + 1
    · rw [if_pos (by simpa using c)]
      simp only [List.dropLast_concat]
      refine ⟨?_, ?_, ?_, ?_⟩
      · refine List.pairwise_append.2 ⟨hgap.1, by simp, ?_⟩
        intro a ha b hb
        simp at hb
        subst hb
        exact hgap.2.2 a ha r (by simp)
      · intro q hq
        rcases List.mem_append.1 hq with p | p
        · obtain ⟨h1, h2⟩ := h.each q (by simp [p])
          exact ⟨h1, fun x a b => List.mem_append_left _ (h2 x a b)⟩
        · simp at p
          subst p
          refine ⟨by simp; omega, fun x a b => ?_⟩
          simp at a b
          rcases Int.lt_or_le r.2 x with d | d
          · have : x = n := by omega
            simp [this]
          · exact List.mem_append_left _ (hr.2 x a d)
      · intro x hx
        rcases List.mem_append.1 hx with p | p
        · obtain ⟨q, hq, h1, h2⟩ := h.cover x p
          rcases List.mem_append.1 hq with p' | p'
          · exact ⟨q, by simp [p'], h1, h2⟩
          · simp at p'
            subst p'
            exact ⟨(q.1, n), by simp, h1, hn x p⟩
        · simp at p
          subst p
          exact ⟨(r.1, x), by simp, by simp; omega, by simp⟩
      · intro q hq x hx
        simp at hq
        subst hq
        rcases List.mem_append.1 hx with p | p
        · exact hn x p
        · simp at p; subst p; simp
    · rw [if_neg (by simpa using c)]
      refine ⟨?_, ?_, ?_, ?_⟩
      · refine List.pairwise_append.2 ⟨h.gap, by simp, ?_⟩
        intro a ha b hb
        simp at hb
        subst hb
        have : a.2 ≤ r.2 := hlast _ ((h.each a ha).2 a.2 (h.each a ha).1 (Int.le_refl _))
        show a.2 + 1 < n
        omega
      · intro q hq
        rcases List.mem_append.1 hq with p | p
        · obtain ⟨h1, h2⟩ := h.each q p
          exact ⟨h1, fun x a b => List.mem_append_left _ (h2 x a b)⟩
        · simp at p
          subst p
          exact ⟨by simp, fun x a b => by simp at a b; simp; omega⟩
      · intro x hx
        rcases List.mem_append.1 hx with p | p
        · obtain ⟨q, hq, h1, h2⟩ := h.cover x p
          exact ⟨q, List.mem_append_left _ hq, h1, h2⟩
        · simp at p
          subst p
          exact ⟨(x, x), by simp, by simp, by simp⟩
      · intro q hq x hx
        simp at hq
        subst hq
        rcases List.mem_append.1 hx with p | p
        · exact hn x p
        · simp at p; subst p; simp

theorem Made.apart {S : List Int} {R : List Pr} (h : Made S R) {a b : Pr} (ha : a ∈ R) (hb : b ∈ R) : a = b ∨ a.2 + 1 < b.1 ∨ b.2 + 1 < a.1 := by
  obtain ⟨i, hi, rfl⟩ := List.mem_iff_getElem.1 ha
  obtain ⟨j, hj, rfl⟩ := List.mem_iff_getElem.1 hb
  have := List.pairwise_iff_getElem.1 h.gap
  rcases Nat.lt_trichotomy i j with c | c | c
  · exact .inr (.inl (this i j hi hj c))
  · subst c; exact .inl rfl
  · exact .inr (.inr (this j i hj hi c))

theorem Made.runs {S : List Int} {R : List Pr} (h : Made S R) : IsRuns S R := by
  refine ⟨?_, ?_, ?_⟩
  · refine List.Pairwise.imp_of_mem ?_ h.gap
    intro a b ha hb hab
    have := (h.each a ha).1
    omega
  · intro r hr
    obtain ⟨h1, h2⟩ := h.each r hr
    refine ⟨h2 _ (Int.le_refl _) h1, ?_, h1, h2, ?_⟩
    · intro q
      obtain ⟨p, hp, c1, c2⟩ := h.cover _ q
      rcases h.apart hr hp with e | e | e
      · subst e; omega
      · omega
      · omega
    · intro q
      obtain ⟨p, hp, c1, c2⟩ := h.cover _ q
      rcases h.apart hr hp with e | e | e
      · subst e; omega
      · omega
      · omega
  · intro n hn hno
    obtain ⟨r, hr, c1, c2⟩ := h.cover n hn
    refine ⟨r, hr, ?_⟩
    rcases Int.lt_or_eq_of_le c1 with d | d
    · exact absurd ((h.each r hr).2 (n - 1) (by omega) (by omega)) hno
    · exact d

/-- A set is what its members are: runs do not hang on the order of the numbers. -/
theorem IsRuns.of_mem {S T : List Int} {R : List Pr} (h : IsRuns S R) (m : ∀ x, x ∈ S ↔ x ∈ T) : IsRuns T R := by
  refine ⟨h.up, fun r hr => ?_, fun n hn hno => h.all n ((m n).2 hn) (fun q => hno ((m _).1 q))⟩
  obtain ⟨h1, h2, h3, h4, h5⟩ := h.each r hr
  exact ⟨(m _).1 h1, fun q => h2 ((m _).2 q), h3, fun x a b => (m _).1 (h4 x a b), fun q => h5 ((m _).2 q)⟩

theorem addRun_len (R : List Pr) (n : Int) : (addRun R n).length ≤ R.length + 1 := by
  unfold addRun
  split
  · simp
  · split
    · simp <;> omega
    · simp

/-- The runs of the numbers that were looked at: those that begin in the first i of them. -/
structure Part (S : List Int) (i : Nat) (R : List Pr) : Prop where
  up : R.Pairwise (fun a b => a.1 < b.1)
  each : ∀ r ∈ R, Good S r ∧ r.1 ∈ S.take i
  all : ∀ n ∈ S.take i, n - 1 ∉ S → ∃ r ∈ R, r.1 = n

theorem Part.nil (S : List Int) : Part S 0 [] := ⟨List.Pairwise.nil, by simp, by simp⟩

theorem Part.done {S : List Int} {i : Nat} {R : List Pr} (h : Part S i R) (hi : S.length ≤ i) : IsRuns S R :=
  ⟨h.up, fun r hr => (h.each r hr).1, fun n hn hno => h.all n (by rw [List.take_of_length_le hi]; exact hn) hno⟩

theorem take_more {S : List Int} {i : Nat} {n : Int} (hx : S[i]? = some n) : S.take (i + 1) = S.take i ++ [n] := by
  rw [List.take_add_one, hx]
  rfl

theorem Part.skip {S : List Int} {i : Nat} {R : List Pr} (h : Part S i R) {n : Int} (hx : S[i]? = some n) (hs : n - 1 ∈ S ∨ n ∈ S.take i) : Part S (i + 1) R := by
  refine ⟨h.up, fun r hr => ⟨(h.each r hr).1, ?_⟩, fun m hm hno => ?_⟩
  · rw [take_more hx]; exact List.mem_append_left _ (h.each r hr).2
  · rw [take_more hx] at hm
    rcases List.mem_append.1 hm with p | p
    · exact h.all m p hno
    · simp at p
      subst p
      rcases hs with q | q
      · exact absurd q hno
      · exact h.all m q hno

theorem Part.ins {S : List Int} {i : Nat} {R : List Pr} (h : Part S i R) {n t : Int} (hx : S[i]? = some n) (hno : n ∉ S.take i) (hg : Good S (n, t)) {k : Nat}
    (lo : ∀ r ∈ R.take k, r.1 ≤ n) (hi : ∀ r ∈ R.drop k, n < r.1) : Part S (i + 1) (R.take k ++ [(n, t)] ++ R.drop k) := by
  have hup : (R.take k ++ R.drop k).Pairwise (fun a b => a.1 < b.1) := by rw [List.take_append_drop]; exact h.up
  obtain ⟨u1, u2, u3⟩ := List.pairwise_append.1 hup
  have mem : ∀ r, r ∈ R.take k ++ [(n, t)] ++ R.drop k ↔ r ∈ R ∨ r = (n, t) := by
    intro r
    have : r ∈ R ↔ r ∈ R.take k ∨ r ∈ R.drop k := by rw [← List.mem_append, List.take_append_drop]
    rw [this]
    simp only [List.mem_append, List.mem_singleton]
    constructor
    · rintro ((q | q) | q)
      · exact .inl (.inl q)
      · exact .inr q
      · exact .inl (.inr q)
    · rintro ((q | q) | q)
      · exact .inl (.inl q)
      · exact .inr q
      · exact .inl (.inr q)
  refine ⟨?_, ?_, ?_⟩
  · refine List.pairwise_append.2 ⟨List.pairwise_append.2 ⟨u1, by simp, ?_⟩, u2, ?_⟩
    · intro a ha b hb
      simp at hb
      subst hb
      have h1 := lo a ha
      have h2 := (h.each a (List.mem_of_mem_take ha)).2
      show a.1 < n
      rcases Int.lt_or_eq_of_le h1 with c | c
      · exact c
      · rw [c] at h2; exact absurd h2 hno
    · intro a ha b hb
      rcases List.mem_append.1 ha with p | p
      · exact u3 a p b hb
      · simp at p
        subst p
        exact hi b hb
  · intro r hr
    rw [take_more hx]
    rcases (mem r).1 hr with p | p
    · exact ⟨(h.each r p).1, List.mem_append_left _ (h.each r p).2⟩
    · subst p
      exact ⟨hg, by simp⟩
  · intro m hm hm2
    rw [take_more hx] at hm
    rcases List.mem_append.1 hm with p | p
    · obtain ⟨r, hr, e⟩ := h.all m p hm2
      exact ⟨r, (mem r).2 (.inl hr), e⟩
    · simp at p
      subst p
      exact ⟨(m, t), (mem _).2 (.inr rfl), rfl⟩

end Go.Proofs.YtnodkpnbfklmhaaDoor
