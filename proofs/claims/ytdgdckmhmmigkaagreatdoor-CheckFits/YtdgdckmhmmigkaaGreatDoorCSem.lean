/-
  What a tree comes to, as the document says it: the table of functions, the type or the error and its place. No program, no condition.
-/
import Derived.Test.YtdgdckmhmmigkaaGreatDoorETre
namespace Go.Proofs.YtdgdckmhmmigkaaGreatDoor

/-- A row of the table: names, the types that are taken, the least and the greatest number of them, and what it comes to. -/
structure FR where
  names : List Bs
  takes : List Int
  least : Int
  most : Int
  comes : Int
def fr0 : FR := ⟨[], [], 0, 0, 0⟩
def fT0 : FR := ⟨[[97, 108, 108], [110, 111, 110, 101], [114, 101, 102, 115], [116, 97, 103, 115]], [], 0, 0, 1⟩
def fT1 : FR := ⟨[[114, 101, 102], [116, 97, 103]], [3], 1, 1, 1⟩
def fT2 : FR := ⟨[[97, 110, 99, 101, 115, 116, 111, 114, 115]], [1, 2], 1, 2, 1⟩
def fT3 : FR := ⟨[[100, 101, 115, 99, 101, 110, 100, 97, 110, 116, 115], [112, 97, 114, 101, 110, 116, 115], [99, 104, 105, 108, 100, 114, 101, 110], [104, 101, 97, 100, 115], [114, 111, 111, 116, 115], [109, 101, 114, 103, 101, 115], [98, 97, 115, 101, 115]], [1], 1, 1, 1⟩
def fT4 : FR := ⟨[[116, 111, 117, 99, 104, 105, 110, 103]], [1, 3], 2, 2, 1⟩
def fT5 : FR := ⟨[[108, 97, 116, 101, 115, 116], [98, 101, 102, 111, 114, 101], [115, 105, 110, 99, 101]], [1, 2], 2, 2, 1⟩
def fT6 : FR := ⟨[[117, 110, 105, 111, 110], [99, 111, 109, 109, 111, 110]], [1], 1, 9223372036854775807, 1⟩
def fT7 : FR := ⟨[[99, 111, 117, 110, 116]], [1], 1, 1, 2⟩
def ftab : List FR := [fT0, fT1, fT2, fT3, fT4, fT5, fT6, fT7]

/-- The function of a name, and the error where there is none that takes so many. -/
def fgo (name : Bs) (n : Int) : List FR → FR × Int
  | [] => (fr0, 33)
  | f :: l => if name ∈ f.names then (if n < f.least ∨ f.most < n then (fr0, 34) else (f, 0)) else fgo name n l
/-- The type of the argument at a place. -/
def FR.at (f : FR) (i : Nat) : Int := (f.takes[min i (f.takes.length - 1)]?).getD 0

/-- Kid by Kid. -/
def over (tk : Nat → Int) (c : Int) : Nat → List ((Int × Int × Int) × Int) → Int × Int × Int
  | _, [] => (c, 0, 0)
  | i, (r, p) :: l => if r.2.2 ≠ 0 then (0, r.2.1, r.2.2) else if r.1 ≠ tk i then (0, p, 35) else over tk c (i + 1) l
/-- A node by what its Kids come to. -/
def ck1 (op : Int) (text : Bs) (pos : Int) (ks : List ((Int × Int × Int) × Int)) : Int × Int × Int :=
  if op = 3 then (2, 0, 0) else if op = 4 then (3, 0, 0) else
  if op = 5 then (if (fgo text ks.length ftab).2 ≠ 0 then (0, pos, (fgo text ks.length ftab).2) else over (fgo text ks.length ftab).1.at (fgo text ks.length ftab).1.comes 0 ks)
  else over (fun _ => 1) 1 0 ks
def cks : Fo → List ((Int × Int × Int) × Int)
  | .nil => []
  | .cons op text _ _ kids pos next => (ck1 op text pos (cks kids), pos) :: cks next
/-- What a tree comes to. -/
def Nd.ck (n : Nd) : Int × Int × Int := ck1 n.op n.text n.pos (cks n.kids)

theorem cks_len : ∀ f : Fo, (cks f).length = len f
  | .nil => rfl
  | .cons op text num id kids pos next => by simp only [cks, List.length_cons, cks_len next, len]

/-- The type and the error alone. -/
def te (r : (Int × Int × Int) × Int) : Int × Int := (r.1.1, r.1.2.2)
theorem over_te (tk : Nat → Int) (c : Int) : ∀ (i : Nat) (a b : List ((Int × Int × Int) × Int)), a.map te = b.map te → (over tk c i a).1 = (over tk c i b).1 ∧ (over tk c i a).2.2 = (over tk c i b).2.2
  | i, [], [], _ => ⟨rfl, rfl⟩
  | i, [], _ :: _, h => by simp at h
  | i, _ :: _, [], h => by simp at h
  | i, (r, p) :: a, (s, q) :: b, h => by
    simp only [List.map_cons, List.cons.injEq, te, Prod.mk.injEq] at h
    obtain ⟨⟨h1, h2⟩, h3⟩ := h
    have ih := over_te tk c (i + 1) a b h3
    simp only [over, h1, h2]
    by_cases z : s.2.2 = 0
    · by_cases y : s.1 = tk i
      · simp [z, y, ih]
      · simp [z, y]
    · simp [z]
theorem ck1_te (op : Int) (text : Bs) (p q : Int) (a b : List ((Int × Int × Int) × Int)) (h : a.map te = b.map te) : (ck1 op text p a).1 = (ck1 op text q b).1 ∧ (ck1 op text p a).2.2 = (ck1 op text q b).2.2 := by
  have hl : a.length = b.length := by have := congrArg List.length h; simpa using this
  unfold ck1
  rw [hl]
  split
  · simp
  split
  · simp
  split
  · split
    · simp
    · exact over_te _ _ _ _ _ h
  · exact over_te _ _ _ _ _ h
theorem cks_e : ∀ f : Fo, (cks f.e).map te = (cks f).map te
  | .nil => rfl
  | .cons op text num id kids pos next => by
    have h1 := ck1_te op text 0 pos _ _ (cks_e kids)
    simp only [Fo.e, cks, List.map_cons, cks_e next, te, h1.1, h1.2]
theorem ck_e (n : Nd) : n.e.ck.1 = n.ck.1 ∧ n.e.ck.2.2 = n.ck.2.2 := ck1_te _ _ _ _ _ _ (cks_e n.kids)
/-- Trees that are alike but for their places come to the same. -/
theorem ck_same {n m : Nd} (h : n.e = m.e) : n.ck.1 = m.ck.1 ∧ n.ck.2.2 = m.ck.2.2 := by
  have a := ck_e n
  have b := ck_e m
  rw [h] at a
  exact ⟨a.1.symm.trans b.1, a.2.symm.trans b.2⟩

/-- What is told where there is an error: no type. -/
theorem over_no (tk : Nat → Int) (c : Int) : ∀ (i : Nat) (a : List ((Int × Int × Int) × Int)), (over tk c i a).2.2 ≠ 0 → (over tk c i a).1 = 0
  | i, [], h => by simp [over] at h
  | i, (r, p) :: a, h => by
    simp only [over] at h ⊢
    split
    · rfl
    split
    · rfl
    · rename_i h1 h2
      rw [if_neg h1, if_neg h2] at h
      exact over_no tk c (i + 1) a h
theorem ck1_no (op : Int) (text : Bs) (p : Int) (a : List ((Int × Int × Int) × Int)) (h : (ck1 op text p a).2.2 ≠ 0) : (ck1 op text p a).1 = 0 := by
  unfold ck1 at h ⊢
  split
  · simp_all
  split
  · simp_all
  split
  · split
    · rfl
    · rename_i h1 h2 h3 h4
      rw [if_neg h1, if_neg h2, if_pos h3, if_neg h4] at h
      exact over_no _ _ _ _ h
  · rename_i h1 h2 h3
    rw [if_neg h1, if_neg h2, if_neg h3] at h
    exact over_no _ _ _ _ h

/-- A sign between two. -/
theorem ck_bin (t : Tk) (x y : Nd) (hop : 6 ≤ (binN t x y).op) : (binN t x y).ck = over (fun _ => 1) 1 0 [(x.ck, x.pos), (y.ck, y.pos)] := by
  unfold Nd.ck ck1
  rw [if_neg (by omega), if_neg (by omega), if_neg (by omega)]
  rfl

/-- What is taken at the places that come behind. -/
theorem over_from (tk : Nat → Int) (c : Int) (ks : List ((Int × Int × Int) × Int)) (i : Nat) (h : ∀ j k, j < i → ks[j]? = some k → k.1.2.2 = 0 ∧ k.1.1 = tk j) (hi : i ≤ ks.length) : over tk c 0 ks = over tk c i (ks.drop i) := by
  induction i with
  | zero => rfl
  | succ i ih =>
    have hlt : i < ks.length := by omega
    obtain ⟨k, hk⟩ : ∃ k, ks[i]? = some k := ⟨_, List.getElem?_eq_getElem hlt⟩
    rw [ih (fun j k hj e => h j k (by omega) e) (by omega), List.drop_eq_getElem_cons hlt]
    have e : ks[i] = k := by
      have := List.getElem?_eq_getElem hlt
      rw [hk] at this
      exact (Option.some.inj this).symm
    obtain ⟨a, b⟩ := h i k (by omega) hk
    rw [e]
    obtain ⟨r, p⟩ := k
    simp only at a b
    simp only [over, a, b]
    simp
/-- The last of a row of Kids that are all right; the first that is not. -/
theorem over_end (tk : Nat → Int) (c : Int) (ks : List ((Int × Int × Int) × Int)) (h : ∀ j k, ks[j]? = some k → k.1.2.2 = 0 ∧ k.1.1 = tk j) : over tk c 0 ks = (c, 0, 0) := by
  rw [over_from tk c ks ks.length (fun j k _ e => h j k e) (Nat.le_refl _), List.drop_length]
  rfl
theorem over_err (tk : Nat → Int) (c : Int) (ks : List ((Int × Int × Int) × Int)) (i : Nat) (h : ∀ j k, j < i → ks[j]? = some k → k.1.2.2 = 0 ∧ k.1.1 = tk j) {r : Int × Int × Int} {p : Int} (hk : ks[i]? = some (r, p)) (he : r.2.2 ≠ 0) : over tk c 0 ks = (0, r.2.1, r.2.2) := by
  have hlt : i < ks.length := by
    rcases Nat.lt_or_ge i ks.length with q | q
    · exact q
    · rw [List.getElem?_eq_none q] at hk
      cases hk
  rw [over_from tk c ks i h (by omega), List.drop_eq_getElem_cons hlt]
  have e : ks[i] = (r, p) := by
    have := List.getElem?_eq_getElem hlt
    rw [hk] at this
    exact (Option.some.inj this).symm
  rw [e]
  simp [over, he]
theorem over_bad (tk : Nat → Int) (c : Int) (ks : List ((Int × Int × Int) × Int)) (i : Nat) (h : ∀ j k, j < i → ks[j]? = some k → k.1.2.2 = 0 ∧ k.1.1 = tk j) {r : Int × Int × Int} {p : Int} (hk : ks[i]? = some (r, p)) (he : r.2.2 = 0) (ht : r.1 ≠ tk i) : over tk c 0 ks = (0, p, 35) := by
  have hlt : i < ks.length := by
    rcases Nat.lt_or_ge i ks.length with q | q
    · exact q
    · rw [List.getElem?_eq_none q] at hk
      cases hk
  rw [over_from tk c ks i h (by omega), List.drop_eq_getElem_cons hlt]
  have e : ks[i] = (r, p) := by
    have := List.getElem?_eq_getElem hlt
    rw [hk] at this
    exact (Option.some.inj this).symm
  rw [e]
  simp [over, he, ht]
/-- The Kid at a place. -/
theorem cks_at : ∀ {f : Fo} {i : Nat} {x : Nd}, (ndL f)[i]? = some x → (cks f)[i]? = some (x.ck, x.pos)
  | .nil, i, x, h => by simp [ndL] at h
  | .cons op text num id kids pos next, 0, x, h => by
    simp [ndL] at h
    subst h
    rfl
  | .cons op text num id kids pos next, i + 1, x, h => by
    simp only [ndL, List.getElem?_cons_succ] at h
    simp only [cks, List.getElem?_cons_succ]
    exact cks_at h

end Go.Proofs.YtdgdckmhmmigkaaGreatDoor
