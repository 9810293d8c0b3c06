/-
  Hunks without a program: what stands between the pairs of two lists, hunks done to a list, and that the hunks of two lists make the second of the first. No condition.
-/
import Derived.Test.YtmblkkmfbgngdaaTab
namespace Go.Proofs.Ytmblkkmfbgngdaa

/-- A hunk. -/
structure Hk where
  a : Int
  b : Int
  gone : List Bs
  new : List Bs

/-- The lines from i on, ahead of j. -/
def cutL (l : List Bs) (i j : Nat) : List Bs := (l.drop i).take (j - i)

theorem cutL_len {l : List Bs} {i j : Nat} (h : j ≤ l.length) : (cutL l i j).length = j - i := by
  simp [cutL]; omega
theorem cutL_none (l : List Bs) (i : Nat) : cutL l i i = [] := by simp [cutL]
theorem cutL_end (l : List Bs) (i : Nat) : cutL l i l.length = l.drop i := by
  rw [cutL, List.take_of_length_le (by simp)]
theorem cutL_front (l : List Bs) (j : Nat) : cutL l 0 j = l.take j := by simp [cutL]
theorem cutL_join {l : List Bs} {i j k : Nat} (h1 : i ≤ j) (h2 : j ≤ k) : cutL l i j ++ cutL l j k = cutL l i k := by
  unfold cutL
  have e : l.drop j = (l.drop i).drop (j - i) := by rw [List.drop_drop]; congr 1; omega
  rw [e]
  have : k - i = (j - i) + (k - j) := by omega
  rw [this, List.take_add]
theorem cutL_one {l : List Bs} {i : Nat} {x : Bs} (h : l[i]? = some x) : cutL l i (i + 1) = [x] := by
  obtain ⟨hlt, e⟩ := List.getElem?_eq_some_iff.1 h
  rw [cutL, List.drop_eq_getElem_cons hlt, e]
  have : i + 1 - i = 1 := by omega
  rw [this]
  rfl
theorem cutL_prefix (l : List Bs) (i j : Nat) : (cutL l i j).isPrefixOf (l.drop i) = true := by
  rw [List.isPrefixOf_iff_prefix]
  exact List.take_prefix _ _

/-- What stands between the ends, from a place of each list on. -/
def hunksFrom (xs ys : List Bs) : Nat → Nat → List (Nat × Nat) → List Hk
  | _, _, [] => []
  | bi, bj, e :: t => (if bi = e.1 ∧ bj = e.2 then [] else [⟨bi, bj, cutL xs bi e.1, cutL ys bj e.2⟩]) ++ hunksFrom xs ys (e.1 + 1) (e.2 + 1) t

/-- The match, in whole numbers from 0 on. -/
def matchN (i j : Nat) (a b : List Bs) : List (Nat × Nat) := (matchFrom i j a b).map (fun p => (p.1.toNat, p.2.toNat))

/-- The pairs, and the ends of both lists. -/
def endsN (xs ys : List Bs) : List (Nat × Nat) := matchN 0 0 xs ys ++ [(xs.length, ys.length)]
/-- The document's hunks. -/
def hunksL (xs ys : List Bs) : List Hk := hunksFrom xs ys 0 0 (endsN xs ys)

/-- A pair as two numbers. -/
def zz (p : Nat × Nat) : Int × Int := ((p.1 : Int), (p.2 : Int))

theorem matchN_back (xs ys : List Bs) : (matchN 0 0 xs ys).map zz = matchL xs ys := by
  unfold matchN matchL
  rw [List.map_map]
  conv => rhs; rw [← List.map_id (matchFrom 0 0 xs ys)]
  refine List.map_congr_left ?_
  intro p hp
  obtain ⟨u, v, rfl, _⟩ := match_pairs 0 0 xs ys p hp
  simp [zz]

/-- Ends that rise, each but the last one a pair of lines that are alike, the last one the ends of both lists. -/
def Fit (xs ys : List Bs) : Nat → Nat → List (Nat × Nat) → Prop
  | bi, bj, [] => bi = xs.length + 1 ∧ bj = ys.length + 1
  | bi, bj, e :: t => bi ≤ e.1 ∧ e.1 ≤ xs.length ∧ bj ≤ e.2 ∧ e.2 ≤ ys.length ∧ (t = [] → e.1 = xs.length ∧ e.2 = ys.length) ∧ (t ≠ [] → ∃ x, xs[e.1]? = some x ∧ ys[e.2]? = some x) ∧ Fit xs ys (e.1 + 1) (e.2 + 1) t

theorem Fit.down {xs ys : List Bs} {bi bj i j : Nat} {E : List (Nat × Nat)} (hE : E ≠ []) (h : Fit xs ys bi bj E) (h1 : i ≤ bi) (h2 : j ≤ bj) : Fit xs ys i j E := by
  cases E with
  | nil => exact absurd rfl hE
  | cons e t =>
    obtain ⟨q1, q2, q3, q4, q5, q6, q7⟩ := h
    exact ⟨by omega, q2, by omega, q4, q5, q6, q7⟩

theorem fit_from (i j : Nat) (a b : List Bs) : ∀ xs ys : List Bs, xs.drop i = a → ys.drop j = b → i ≤ xs.length → j ≤ ys.length → Fit xs ys i j (matchN i j a b ++ [(xs.length, ys.length)]) := by
  refine match_ind (fun i j a b => ∀ xs ys : List Bs, xs.drop i = a → ys.drop j = b → i ≤ xs.length → j ≤ ys.length → Fit xs ys i j (matchN i j a b ++ [(xs.length, ys.length)])) ?_ ?_ ?_ ?_ ?_ _ i j a b (Nat.le_refl _)
  · intro i j b xs ys h1 h2 h3 h4
    simp only [matchN, match_nil, List.map_nil, List.nil_append]
    exact ⟨h3, Nat.le_refl _, h4, Nat.le_refl _, fun _ => ⟨rfl, rfl⟩, fun h => absurd rfl h, rfl, rfl⟩
  · intro i j a xs ys h1 h2 h3 h4
    simp only [matchN, match_nil', List.map_nil, List.nil_append]
    exact ⟨h3, Nat.le_refl _, h4, Nat.le_refl _, fun _ => ⟨rfl, rfl⟩, fun h => absurd rfl h, rfl, rfl⟩
  · intro i j x a b ih xs ys h1 h2 h3 h4
    have hi : xs[i]? = some x := by rw [← List.head?_drop, h1]; rfl
    have hj : ys[j]? = some x := by rw [← List.head?_drop, h2]; rfl
    have li := (List.getElem?_eq_some_iff.1 hi).1
    have lj := (List.getElem?_eq_some_iff.1 hj).1
    have e1 : xs.drop (i + 1) = a := by rw [← List.tail_drop, h1]; rfl
    have e2 : ys.drop (j + 1) = b := by rw [← List.tail_drop, h2]; rfl
    have := ih xs ys e1 e2 li lj
    simp only [matchN, match_same, List.map_cons, List.cons_append, Int.toNat_natCast]
    exact ⟨Nat.le_refl _, by omega, Nat.le_refl _, by omega, fun h => by simp at h, fun _ => ⟨x, hi, hj⟩, this⟩
  · intro i j x y a b h k ih xs ys h1 h2 h3 h4
    have hi : xs[i]? = some x := by rw [← List.head?_drop, h1]; rfl
    have li := (List.getElem?_eq_some_iff.1 hi).1
    have e1 : xs.drop (i + 1) = a := by rw [← List.tail_drop, h1]; rfl
    have := ih xs ys e1 h2 li h4
    simp only [matchN, match_down i j a b h k]
    exact this.down (by simp) (by omega) (Nat.le_refl _)
  · intro i j x y a b h k ih xs ys h1 h2 h3 h4
    have hj : ys[j]? = some y := by rw [← List.head?_drop, h2]; rfl
    have lj := (List.getElem?_eq_some_iff.1 hj).1
    have e2 : ys.drop (j + 1) = b := by rw [← List.tail_drop, h2]; rfl
    have := ih xs ys h1 e2 h3 lj
    simp only [matchN, match_right i j a b h k]
    exact this.down (by simp) (Nat.le_refl _) (by omega)

theorem fit_ends (xs ys : List Bs) : Fit xs ys 0 0 (endsN xs ys) := fit_from 0 0 xs ys xs ys rfl rfl (Nat.zero_le _) (Nat.zero_le _)

theorem ends_ne (xs ys : List Bs) : endsN xs ys ≠ [] := by simp [endsN]

theorem ends_len (xs ys : List Bs) : (endsN xs ys).length = (matchL xs ys).length + 1 := by
  rw [← matchN_back]
  simp [endsN]

/-- Hunks done to a list, from a place on, behind what is there already. -/
def applyFrom (xs : List Bs) : Nat → List Bs → List Hk → Option (List Bs)
  | p, out, [] => some (out ++ xs.drop p)
  | p, out, h :: t =>
    if (p : Int) ≤ h.a ∧ h.a ≤ xs.length ∧ h.gone.isPrefixOf (xs.drop h.a.toNat) = true ∧ h.b = ((out ++ cutL xs p h.a.toNat).length : Int)
    then applyFrom xs (h.a.toNat + h.gone.length) (out ++ cutL xs p h.a.toNat ++ h.new) t else none

/-- The hunks of two lists, done to the first, make the second. -/
theorem apply_hunks {xs ys : List Bs} : ∀ (E : List (Nat × Nat)) (bi bj p : Nat) (out : List Bs), E ≠ [] → Fit xs ys bi bj E → p ≤ bi → out ++ cutL xs p bi = ys.take bj → applyFrom xs p out (hunksFrom xs ys bi bj E) = some ys
  | [], _, _, _, _, h, _, _, _ => absurd rfl h
  | e :: t, bi, bj, p, out, _, hf, hp, ho => by
    obtain ⟨q1, q2, q3, q4, q5, q6, q7⟩ := hf
    by_cases hz : bi = e.1 ∧ bj = e.2
    · simp only [hunksFrom, if_pos hz, List.nil_append]
      by_cases ht : t = []
      · obtain ⟨r1, r2⟩ := q5 ht
        subst ht
        simp only [hunksFrom, applyFrom]
        rw [← cutL_end xs p, ← r1, ← hz.1, ho, hz.2, r2, List.take_length]
      · obtain ⟨x, hx, hy⟩ := q6 ht
        refine apply_hunks t (e.1 + 1) (e.2 + 1) p out ht q7 (by omega) ?_
        rw [← cutL_join (show p ≤ e.1 by omega) (Nat.le_succ _), cutL_one hx, ← List.append_assoc, ← hz.1, ho, hz.2, List.take_add_one, hy]
        rfl
    · simp only [hunksFrom, if_neg hz, List.cons_append, List.nil_append, applyFrom, Int.toNat_natCast]
      have hlen : (out ++ cutL xs p bi).length = bj := by rw [ho, List.length_take]; omega
      rw [if_pos ⟨by omega, by omega, cutL_prefix _ _ _, by rw [hlen]⟩, ho, cutL_len q2]
      have e1 : bi + (e.1 - bi) = e.1 := by omega
      have e2 : ys.take bj ++ cutL ys bj e.2 = ys.take e.2 := by
        rw [← cutL_front ys bj, cutL_join (Nat.zero_le _) q3, cutL_front]
      rw [e1, e2]
      by_cases ht : t = []
      · obtain ⟨r1, r2⟩ := q5 ht
        subst ht
        simp only [hunksFrom, applyFrom]
        rw [r1, r2, List.take_length, List.drop_length, List.append_nil]
      · obtain ⟨x, hx, hy⟩ := q6 ht
        refine apply_hunks t (e.1 + 1) (e.2 + 1) e.1 _ ht q7 (by omega) ?_
        rw [cutL_one hx, List.take_add_one, hy]
        rfl

theorem apply_back (xs ys : List Bs) : applyFrom xs 0 [] (hunksL xs ys) = some ys :=
  apply_hunks _ 0 0 0 [] (ends_ne xs ys) (fit_ends xs ys) (Nat.le_refl _) (by simp [cutL])

/-- A hunk the other way round. -/
def Hk.turn (h : Hk) : Hk := ⟨h.b, h.a, h.new, h.gone⟩
def sw (p : Nat × Nat) : Nat × Nat := (p.2, p.1)

theorem Fit.turn {xs ys : List Bs} : ∀ (E : List (Nat × Nat)) (bi bj : Nat), Fit xs ys bi bj E → Fit ys xs bj bi (E.map sw)
  | [], _, _, h => ⟨h.2, h.1⟩
  | e :: t, bi, bj, h => by
    obtain ⟨q1, q2, q3, q4, q5, q6, q7⟩ := h
    refine ⟨q3, q4, q1, q2, fun h => ?_, fun h => ?_, Fit.turn t _ _ q7⟩
    · have := q5 (List.map_eq_nil_iff.1 h)
      exact ⟨this.2, this.1⟩
    · obtain ⟨x, hx, hy⟩ := q6 (fun e => h (by rw [e]; rfl))
      exact ⟨x, hy, hx⟩

theorem hunks_turn (xs ys : List Bs) : ∀ (E : List (Nat × Nat)) (bi bj : Nat), (hunksFrom xs ys bi bj E).map Hk.turn = hunksFrom ys xs bj bi (E.map sw)
  | [], _, _ => rfl
  | e :: t, bi, bj => by
    simp only [hunksFrom, List.map_append, List.map_cons, hunks_turn xs ys t, sw]
    by_cases hz : bi = e.1 ∧ bj = e.2
    · rw [if_pos hz, if_pos ⟨hz.2, hz.1⟩]; rfl
    · rw [if_neg hz, if_neg (fun h => hz ⟨h.2, h.1⟩)]; rfl

theorem apply_turn (xs ys : List Bs) : applyFrom ys 0 [] ((hunksL xs ys).map Hk.turn) = some xs := by
  unfold hunksL
  rw [hunks_turn]
  exact apply_hunks _ 0 0 0 [] (by simp [endsN]) (Fit.turn _ _ _ (fit_ends xs ys)) (Nat.le_refl _) (by simp [cutL])

/-- No hunk is empty. -/
theorem hunks_full {xs ys : List Bs} : ∀ (E : List (Nat × Nat)) (bi bj : Nat), Fit xs ys bi bj E → ∀ h ∈ hunksFrom xs ys bi bj E, h.gone.length + h.new.length ≠ 0
  | [], _, _, _, h, hm => by simp [hunksFrom] at hm
  | e :: t, bi, bj, hf, h, hm => by
    obtain ⟨q1, q2, q3, q4, q5, q6, q7⟩ := hf
    simp only [hunksFrom] at hm
    rcases List.mem_append.1 hm with m | m
    · by_cases hz : bi = e.1 ∧ bj = e.2
      · rw [if_pos hz] at m; simp at m
      · rw [if_neg hz] at m
        simp at m
        subst m
        rw [cutL_len q2, cutL_len q4]
        omega
    · exact hunks_full t _ _ q7 h m

theorem hunks_full' (xs ys : List Bs) : ∀ h ∈ hunksL xs ys, h.gone.length + h.new.length ≠ 0 := hunks_full _ _ _ (fit_ends xs ys)

theorem hunks_len {xs ys : List Bs} : ∀ (E : List (Nat × Nat)) (bi bj : Nat), (hunksFrom xs ys bi bj E).length ≤ E.length
  | [], _, _ => by simp [hunksFrom]
  | e :: t, bi, bj => by
    have := hunks_len (xs := xs) (ys := ys) t (e.1 + 1) (e.2 + 1)
    simp only [hunksFrom, List.length_append, List.length_cons]
    split <;> simp <;> omega

/-- What is told of a hunk, within bounds. -/
theorem hunks_low {xs ys : List Bs} : ∀ (E : List (Nat × Nat)) (bi bj : Nat), Fit xs ys bi bj E → ∀ h ∈ hunksFrom xs ys bi bj E, h.gone.length ≤ xs.length ∧ h.new.length ≤ ys.length
  | [], _, _, _, h, hm => by simp [hunksFrom] at hm
  | e :: t, bi, bj, hf, h, hm => by
    obtain ⟨q1, q2, q3, q4, q5, q6, q7⟩ := hf
    simp only [hunksFrom] at hm
    rcases List.mem_append.1 hm with m | m
    · by_cases hz : bi = e.1 ∧ bj = e.2
      · rw [if_pos hz] at m; simp at m
      · rw [if_neg hz] at m
        simp at m
        subst m
        rw [cutL_len q2, cutL_len q4]
        omega
    · exact hunks_low t _ _ q7 h m

/-- A list differs from itself nowhere. -/
theorem hunks_self (xs : List Bs) : hunksL xs xs = [] := by
  have key : ∀ (a : List Bs) (i : Nat), matchN i i a a = (List.range a.length).map (fun k => (i + k, i + k)) := by
    intro a
    induction a with
    | nil => intro i; simp [matchN, match_nil]
    | cons x a ih =>
      intro i
      have := ih (i + 1)
      simp only [matchN] at this ⊢
      rw [match_same, List.map_cons, this, List.length_cons, List.range_succ_eq_map, List.map_cons, List.map_map]
      congr 1
      refine List.map_congr_left ?_
      intro k _
      simp
      omega
  have none : ∀ (n b : Nat), hunksFrom xs xs b b ((List.range n).map (fun k => (b + k, b + k)) ++ [(b + n, b + n)]) = [] := by
    intro n
    induction n with
    | zero => intro b; simp [hunksFrom]
    | succ n ih =>
      intro b
      rw [List.range_succ_eq_map, List.map_cons, List.map_map, List.cons_append]
      simp only [hunksFrom, Nat.add_zero, and_self, if_true, List.nil_append]
      have := ih (b + 1)
      rw [show b + (n + 1) = b + 1 + n by omega]
      have e : List.map ((fun k => (b + k, b + k)) ∘ Nat.succ) (List.range n) = List.map (fun k => (b + 1 + k, b + 1 + k)) (List.range n) := by
        refine List.map_congr_left ?_
        intro k _
        simp
        omega
      rw [e]
      exact this
  unfold hunksL endsN
  rw [key xs 0]
  have := none xs.length 0
  simp only [Nat.zero_add] at this ⊢
  exact this

theorem hunks_gone (xs : List Bs) : hunksL xs [] = if xs = [] then [] else [⟨0, 0, xs, []⟩] := by
  unfold hunksL endsN matchN
  rw [match_nil']
  simp only [List.map_nil, List.nil_append, List.length_nil, hunksFrom, List.append_nil]
  by_cases h : xs = []
  · subst h; rfl
  · have : ¬ (0 = xs.length ∧ (0 : Nat) = 0) := by
      intro q
      exact h (List.eq_nil_of_length_eq_zero q.1.symm)
    rw [if_neg (show ¬ (0 = xs.length ∧ True) from fun q => this ⟨q.1, rfl⟩), if_neg h, cutL_end]
    simp [cutL]

theorem hunks_new (ys : List Bs) : hunksL [] ys = if ys = [] then [] else [⟨0, 0, [], ys⟩] := by
  unfold hunksL endsN matchN
  rw [match_nil]
  simp only [List.map_nil, List.nil_append, List.length_nil, hunksFrom, List.append_nil]
  by_cases h : ys = []
  · subst h; rfl
  · have : ¬ ((0 : Nat) = 0 ∧ 0 = ys.length) := by
      intro q
      exact h (List.eq_nil_of_length_eq_zero q.2.symm)
    rw [if_neg (show ¬ (True ∧ 0 = ys.length) from fun q => this ⟨rfl, q.2⟩), if_neg h, cutL_end]
    simp [cutL]

end Go.Proofs.Ytmblkkmfbgngdaa
