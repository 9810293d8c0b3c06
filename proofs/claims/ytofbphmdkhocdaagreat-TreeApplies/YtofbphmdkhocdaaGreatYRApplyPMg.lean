/-
  What the reference's Apply goes through, as functions on lists. No program.
-/
import Derived.Test.YtofbphmdkhocdaaGreatM24
namespace Go.Proofs.YtofbphmdkhocdaaGreat
open Go.RowKit

/-- The last change of a path among the first k, or what was there. -/
def lastAt (A : List En) (l : List Chg) (p : Bs) (k : Nat) : UInt64 := (l.take k).foldl (fun a c => if c.1 = p then c.2.2 else a) (blobOf A p)
theorem lastAt_zero (A : List En) (l : List Chg) (p : Bs) : lastAt A l p 0 = blobOf A p := by simp [lastAt]
theorem lastAt_step (A : List En) {l : List Chg} {k : Nat} {c : Chg} (h : l[k]? = some c) (p : Bs) : lastAt A l p (k + 1) = if c.1 = p then c.2.2 else lastAt A l p k := by
  unfold lastAt
  rw [takeE_snoc h, List.foldl_append]
  rfl
theorem last_none {p : Bs} : ∀ (l : List Chg) (a : UInt64), (∀ c ∈ l, c.1 ≠ p) → l.foldl (fun a c => if c.1 = p then c.2.2 else a) a = a
  | [], _, _ => rfl
  | c :: t, a, h => by
    rw [List.foldl_cons, if_neg (h c (List.mem_cons_self ..))]
    exact last_none t a (fun x hx => h x (List.mem_cons_of_mem _ hx))
theorem last_find {p : Bs} : ∀ (l : List Chg) (a : UInt64), (l.map (·.1)).Nodup → l.foldl (fun a c => if c.1 = p then c.2.2 else a) a = match l.find? (fun c => c.1 == p) with | some c => c.2.2 | none => a
  | [], _, _ => rfl
  | c :: t, a, h => by
    rw [List.map_cons, List.nodup_cons] at h
    rw [List.foldl_cons, List.find?_cons]
    by_cases q : c.1 = p
    · have q' : (c.1 == p) = true := by simpa using q
      rw [if_pos q, q', last_none t c.2.2 (fun x hx e => h.1 (List.mem_map.2 ⟨x, hx, by rw [e, q]⟩))]
    · have q' : (c.1 == p) = false := by simpa using q
      rw [if_neg q, q', last_find t a h.2]
theorem lastAt_all (A : List En) {l : List Chg} (h : (l.map (·.1)).Nodup) (p : Bs) : lastAt A l p l.length = newAt A l p := by
  unfold lastAt newAt
  rw [List.take_length, last_find l _ h]
  cases l.find? (fun c => c.1 == p) <;> rfl

/-- The names of changes. -/
def namesC (l : List Chg) : List Bs := l.map (·.1)
theorem namesC_snoc {l : List Chg} {i : Nat} {c : Chg} (h : l[i]? = some c) : namesC (l.take (i + 1)) = namesC (l.take i) ++ [c.1] := by
  unfold namesC
  rw [takeE_snoc h, List.map_append]
  rfl
theorem namesC_len (l : List Chg) : (namesC l).length = l.length := by unfold namesC; simp
theorem namesC_any (l : List Chg) (p : Bs) : (namesC l).any (· == p) = l.any (fun x => x.1 == p) := by
  unfold namesC
  rw [List.any_map]
  rfl

theorem keep_step (A : List En) (cs : List Chg) {qs : List Bs} {i : Nat} (h : i < qs.length) : (qs.take (i + 1)).filterMap (keepAt A cs) = (qs.take i).filterMap (keepAt A cs) ++ (if newAt A cs (el qs i) = 0 then [] else [(el qs i, newAt A cs (el qs i))]) := by
  rw [List.take_succ_eq_append_getElem h, List.filterMap_append, ← el_get h]
  congr 1
  by_cases q : newAt A cs (el qs i) = 0 <;> simp [keepAt, q]

end Go.Proofs.YtofbphmdkhocdaaGreat
