/-
  Files in rising order, and the document's disk, without a program: a file put in, taken out and looked up; the five raw writes, Cut, Restart and Spoil as the chapter tells them; what a cut leaves. No condition.
-/
import Derived.Test.YtlhlipjbcapidaaPWords
namespace Go.Proofs.Ytlhlipjbcapidaa

/-- Files: names and bytes. -/
abbrev Fs := List (Bs × Bs)
def FRise (l : Fs) : Prop := l.Pairwise (fun a b => a.1 < b.1)

/-- The bytes of a file. -/
def fget : Fs → Bs → Option Bs
  | [], _ => none
  | f :: t, n => if f.1 = n then some f.2 else fget t n
/-- Files with a file, in the place of one of its name. -/
def fwith : Fs → Bs → Bs → Fs
  | [], n, v => [(n, v)]
  | f :: t, n, v => if n < f.1 then (n, v) :: f :: t else if f.1 = n then (n, v) :: t else f :: fwith t n v
/-- Files without one. -/
def fout (l : Fs) (n : Bs) : Fs := l.filter (fun f => !(f.1 == n))

theorem fs_irrefl (a : Bs) : ¬ a < a := List.lt_irrefl a
theorem fs_asymm {a b : Bs} (h : a < b) : ¬ b < a := List.lt_asymm h
theorem fs_trans {a b c : Bs} (h : a < b) (k : b < c) : a < c := List.lt_trans h k
theorem fs_tri (a b : Bs) : a < b ∨ a = b ∨ b < a := by
  by_cases h : a < b
  · exact .inl h
  · by_cases k : b < a
    · exact .inr (.inr k)
    · exact .inr (.inl (List.le_antisymm k h))

theorem fget_mem : ∀ {l : Fs} {n v : Bs}, fget l n = some v → (n, v) ∈ l
  | [], _, _, h => by simp [fget] at h
  | f :: t, n, v, h => by
    unfold fget at h
    split at h
    · rename_i e
      cases h
      rw [← e]
      exact List.mem_cons_self
    · exact List.mem_cons_of_mem _ (fget_mem h)

theorem fget_none : ∀ {l : Fs} {n : Bs}, fget l n = none ↔ ∀ f ∈ l, f.1 ≠ n
  | [], n => by simp [fget]
  | f :: t, n => by
    unfold fget
    by_cases e : f.1 = n
    · simp [e]
    · rw [if_neg e, fget_none (l := t)]
      simp [e]

theorem mem_fwith : ∀ (l : Fs) (n v : Bs) (f : Bs × Bs), f ∈ fwith l n v → f = (n, v) ∨ f ∈ l
  | [], n, v, f, h => by simp [fwith] at h; exact .inl h
  | g :: t, n, v, f, h => by
    unfold fwith at h
    split at h
    · rcases List.mem_cons.1 h with e | e
      · exact .inl e
      · exact .inr e
    · split at h
      · rcases List.mem_cons.1 h with e | e
        · exact .inl e
        · exact .inr (List.mem_cons_of_mem _ e)
      · rcases List.mem_cons.1 h with e | e
        · rw [e]; exact .inr List.mem_cons_self
        · rcases mem_fwith t n v f e with q | q
          · exact .inl q
          · exact .inr (List.mem_cons_of_mem _ q)

theorem rise_with : ∀ {l : Fs} (n v : Bs), FRise l → FRise (fwith l n v)
  | [], n, v, _ => List.pairwise_singleton _ _
  | f :: t, n, v, h => by
    obtain ⟨h1, h2⟩ := List.pairwise_cons.1 h
    unfold fwith
    split
    · rename_i lt
      refine List.pairwise_cons.2 ⟨fun g hg => ?_, h⟩
      rcases List.mem_cons.1 hg with rfl | q
      · exact lt
      · exact fs_trans lt (h1 g q)
    · split
      · rename_i e
        refine List.pairwise_cons.2 ⟨fun g hg => ?_, h2⟩
        show n < g.1
        rw [← e]
        exact h1 g hg
      · rename_i nlt ne
        refine List.pairwise_cons.2 ⟨fun g hg => ?_, rise_with n v h2⟩
        rcases mem_fwith t n v g hg with rfl | q
        · show f.1 < n
          rcases fs_tri f.1 n with q | q | q
          · exact q
          · exact absurd q ne
          · exact absurd q nlt
        · exact h1 g q

theorem rise_out {l : Fs} (n : Bs) (h : FRise l) : FRise (fout l n) := List.Pairwise.filter _ h

theorem fget_with : ∀ {l : Fs} (n v m : Bs), FRise l → fget (fwith l n v) m = if n = m then some v else fget l m
  | [], n, v, m, _ => by simp [fwith, fget]
  | f :: t, n, v, m, h => by
    obtain ⟨h1, h2⟩ := List.pairwise_cons.1 h
    unfold fwith
    split
    · simp only [fget]
    · split
      · rename_i e
        simp only [fget]
        by_cases q : n = m
        · rw [if_pos q, if_pos q]
        · rw [if_neg q, if_neg q, if_neg (by rw [e]; exact q)]
      · rename_i ne
        simp only [fget, fget_with n v m h2]
        by_cases q : f.1 = m
        · rw [if_pos q, if_pos q, if_neg (fun e => ne (by rw [q, e]))]
        · rw [if_neg q, if_neg q]

theorem fget_out : ∀ (l : Fs) (n m : Bs), fget (fout l n) m = if n = m then none else fget l m
  | [], n, m => by simp [fout, fget]
  | f :: t, n, m => by
    have ih := fget_out t n m
    unfold fout at ih ⊢
    rw [List.filter_cons]
    by_cases e : f.1 = n
    · simp only [e, beq_self_eq_true, Bool.not_true, Bool.false_eq_true, if_false, ih, fget]
      by_cases q : n = m
      · rw [if_pos q, if_pos q]
      · rw [if_neg q, if_neg q, if_neg q]
    · have e' : (!(f.1 == n)) = true := by simpa using e
      rw [if_pos e']
      simp only [fget, ih]
      by_cases q : f.1 = m
      · rw [if_pos q, if_pos q, if_neg (fun r => e (by rw [q, r]))]
      · rw [if_neg q, if_neg q]

/-- Files that tell the same are the same. -/
theorem fs_ext : ∀ {a b : Fs}, FRise a → FRise b → (∀ n, fget a n = fget b n) → a = b
  | [], [], _, _, _ => rfl
  | [], g :: b, _, _, h => by have := h g.1; simp [fget] at this
  | f :: a, [], _, _, h => by have := h f.1; simp [fget] at this
  | f :: a, g :: b, ha, hb, h => by
    obtain ⟨a1, a2⟩ := List.pairwise_cons.1 ha
    obtain ⟨b1, b2⟩ := List.pairwise_cons.1 hb
    have key : ∀ {f g : Bs × Bs} {a b : Fs}, (∀ x ∈ b, g.1 < x.1) → fget (g :: b) f.1 = some f.2 → f = g ∨ g.1 < f.1 := by
      intro f g a b hb h
      have := fget_mem h
      rcases List.mem_cons.1 this with e | e
      · exact .inl e
      · exact .inr (hb _ e)
    have h1 : fget (g :: b) f.1 = some f.2 := by rw [← h f.1]; simp [fget]
    have h2 : fget (f :: a) g.1 = some g.2 := by rw [h g.1]; simp [fget]
    have hfg : f = g := by
      rcases key (a := a) b1 h1 with e | e
      · exact e
      · rcases key (a := b) a1 h2 with q | q
        · exact q.symm
        · exact absurd q (fs_asymm e)
    subst hfg
    congr 1
    refine fs_ext a2 b2 (fun n => ?_)
    have := h n
    simp only [fget] at this
    by_cases q : f.1 = n
    · have n1 : fget a n = none := fget_none.2 (fun x hx e => absurd (a1 x hx) (by rw [e, ← q]; exact fs_irrefl _))
      have n2 : fget b n = none := fget_none.2 (fun x hx e => absurd (b1 x hx) (by rw [e, ← q]; exact fs_irrefl _))
      rw [n1, n2]
    · rw [if_neg q, if_neg q] at this
      exact this

theorem with_same {l : Fs} {n v : Bs} (h : FRise l) (k : fget l n = some v) : fwith l n v = l := by
  refine fs_ext (rise_with n v h) h (fun m => ?_)
  rw [fget_with n v m h]
  by_cases q : n = m
  · rw [if_pos q, ← q, k]
  · rw [if_neg q]

theorem out_with {l : Fs} {n v : Bs} (h : FRise l) (k : fget l n = none) : fout (fwith l n v) n = l := by
  refine fs_ext (rise_out n (rise_with n v h)) h (fun m => ?_)
  rw [fget_out, fget_with n v m h]
  by_cases q : n = m
  · rw [if_pos q, ← q, k]
  · rw [if_neg q, if_neg q]

theorem out_none {l : Fs} {n : Bs} (h : FRise l) (k : fget l n = none) : fout l n = l := by
  refine fs_ext (rise_out n h) h (fun m => ?_)
  rw [fget_out]
  by_cases q : n = m
  · rw [if_pos q, ← q, k]
  · rw [if_neg q]

/-- How many files there are behind a file put in. -/
theorem with_len : ∀ {l : Fs} (n v : Bs), FRise l → (fwith l n v).length = l.length + (if (fget l n).isSome then 0 else 1)
  | [], n, v, _ => by simp [fwith, fget]
  | f :: t, n, v, h => by
    obtain ⟨h1, h2⟩ := List.pairwise_cons.1 h
    unfold fwith
    split
    · rename_i lt
      have nn : fget (f :: t) n = none := fget_none.2 (fun x hx e => by
        rcases List.mem_cons.1 hx with rfl | q
        · rw [e] at lt; exact fs_irrefl _ lt
        · have := fs_trans lt (h1 x q)
          rw [e] at this
          exact fs_irrefl _ this)
      rw [nn]
      simp
    · split
      · rename_i e
        simp [fget, e]
      · rename_i ne
        have := with_len n v h2
        simp only [List.length_cons, fget, if_neg ne, this]
        omega

/-- The document's disk. -/
structure Dk where
  files : Fs
  writes : Nat
  armed : Bool
  dead : Bool
  after : Nat
  keep : Nat

def dk0 : Dk := ⟨[], 0, false, false, 0, 0⟩

/-- Behind a raw write that isn't refused: whether it is done, and whether the power goes off in it. -/
def dnext (d : Dk) : Dk × Bool × Bool :=
  if d.dead then (d, false, false)
  else if d.armed && d.after == 0 then ({ d with dead := true, armed := false }, false, true)
  else ({ d with after := if d.armed then d.after - 1 else d.after, writes := d.writes + 1 }, true, false)

/-- A file has bytes behind its own. -/
def dlay (d : Dk) (n own more : Bs) : Dk × Int :=
  if isName n = false then (d, 2)
  else if 262144 < own.length + more.length ∨ (fget d.files n = none ∧ 32 ≤ d.files.length) then (d, 7)
  else if (dnext d).2.1 then ({ (dnext d).1 with files := fwith d.files n (own ++ more) }, 0)
  else if (dnext d).2.2 then ({ (dnext d).1 with files := fwith d.files n (own ++ more.take d.keep) }, 8)
  else ((dnext d).1, 8)

def dput (d : Dk) (n v : Bs) : Dk × Int := dlay d n [] v
def dapp (d : Dk) (n v : Bs) : Dk × Int := dlay d n ((fget d.files n).getD []) v

def dtrim (d : Dk) (n : Bs) (k : Int) : Dk × Int :=
  if isName n = false then (d, 2) else match fget d.files n with
    | none => (d, 5)
    | some s => if k < 0 ∨ (s.length : Int) < k then (d, 3)
      else if (dnext d).2.1 then ({ (dnext d).1 with files := fwith d.files n (s.take k.toNat) }, 0) else ((dnext d).1, 8)

def dren (d : Dk) (n m : Bs) : Dk × Int :=
  if isName n = false ∨ isName m = false then (d, 2) else match fget d.files n with
    | none => (d, 5)
    | some s => if (dnext d).2.1 then ({ (dnext d).1 with files := fwith (fout d.files n) m s }, 0) else ((dnext d).1, 8)

def drem (d : Dk) (n : Bs) : Dk × Int :=
  if isName n = false then (d, 2) else match fget d.files n with
    | none => (d, 5)
    | some _ => if (dnext d).2.1 then ({ (dnext d).1 with files := fout d.files n }, 0) else ((dnext d).1, 8)

def dcut (d : Dk) (a k : Int) : Dk × Int :=
  if a < 0 ∨ k < 0 then (d, 3) else if d.dead then (d, 8) else ({ d with armed := true, after := a.toNat, keep := k.toNat }, 0)

def dres (d : Dk) : Dk := { d with dead := false, armed := false }

def dspoil (d : Dk) (n : Bs) (k : Int) (mask : UInt8) : Dk × Int :=
  match fget d.files n with
    | none => (d, 5)
    | some s => if k < 0 ∨ (s.length : Int) ≤ k then (d, 3) else ({ d with files := fwith d.files n (s.set k.toNat ((s.getD k.toNat 0) ^^^ mask)) }, 0)

/-- A raw write changes no file but by what it is said to do. -/
theorem dnext_files (d : Dk) : (dnext d).1.files = d.files := by
  unfold dnext
  split
  · rfl
  · split <;> rfl

/-- What holds of every disk that calls have made: its files rise. -/
theorem rise_lay {d : Dk} (n own more : Bs) (h : FRise d.files) : FRise (dlay d n own more).1.files := by
  unfold dlay
  split
  · exact h
  · split
    · exact h
    · split
      · exact rise_with _ _ h
      · split
        · exact rise_with _ _ h
        · rw [dnext_files]; exact h

theorem rise_trim {d : Dk} (n : Bs) (k : Int) (h : FRise d.files) : FRise (dtrim d n k).1.files := by
  unfold dtrim
  split
  · exact h
  · split
    · exact h
    · split
      · exact h
      · split
        · exact rise_with _ _ h
        · rw [dnext_files]; exact h

theorem rise_ren {d : Dk} (n m : Bs) (h : FRise d.files) : FRise (dren d n m).1.files := by
  unfold dren
  split
  · exact h
  · split
    · exact h
    · split
      · exact rise_with _ _ (rise_out _ h)
      · rw [dnext_files]; exact h

theorem rise_rem {d : Dk} (n : Bs) (h : FRise d.files) : FRise (drem d n).1.files := by
  unfold drem
  split
  · exact h
  · split
    · exact h
    · split
      · exact rise_out _ h
      · rw [dnext_files]; exact h

theorem rise_spoil {d : Dk} (n : Bs) (k : Int) (mask : UInt8) (h : FRise d.files) : FRise (dspoil d n k mask).1.files := by
  unfold dspoil
  split
  · exact h
  · split
    · exact h
    · exact rise_with _ _ h

end Go.Proofs.Ytlhlipjbcapidaa
