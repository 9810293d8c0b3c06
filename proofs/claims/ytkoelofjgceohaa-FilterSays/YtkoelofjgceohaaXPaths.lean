/-
  Filters of changed paths as functions on lists of bytes: the paths of a filter, its bytes, what it says. No program.
-/
import Derived.Test.YtkoelofjgceohaaXForms
import Derived.Test.YtkoelofjgceohaaPSets
namespace Go.Proofs.Ytkoelofjgceohaa
open Go.RowKit

/-- The paths of a filter; how many unlike ones changed; its bytes. -/
def fpaths (ch : List Bs) : List Bs := srt (ch.flatMap parts)
def fcount (ch : List Bs) : Nat := (srt (ch.filter isPath)).length
def nby (k : Nat) : Nat := (max (12 * k) 8 + 7) / 8
def fones (ch : List Bs) : List Int := (fpaths ch).flatMap (fun p => poss p (8 * (nby (fpaths ch).length : Nat)))
def fmake (ch : List Bs) : Bs := if 8 < fcount ch then [2] else 1 :: fbytes (fones ch) (nby (fpaths ch).length)

theorem nby_pos (k : Nat) : 1 ≤ nby k := by unfold nby; omega

/-- What a filter that was made says. -/
theorem fmaybe_made (ch : List Bs) (p : Bs) (h : ¬ 8 < fcount ch) : fmaybe (fmake ch) p = (poss p (8 * (nby (fpaths ch).length : Nat))).all (fones ch).contains := by
  rw [fmaybe, fmake, if_neg h, fbits_made]
  rw [Bool.eq_iff_iff, List.all_eq_true, List.all_eq_true]
  constructor
  · intro q z hz
    have hr := poss_mem hz
    rw [← fbit_made (fones ch) hr.1 hr.2]
    exact q z hz
  · intro q z hz
    have hr := poss_mem hz
    rw [fbit_made (fones ch) hr.1 hr.2]
    exact q z hz

theorem srt_same {a b : List Bs} (h : ∀ x, x ∈ a ↔ x ∈ b) : srt a = srt b :=
  rising_ext (srt_rising a) (srt_rising b) (fun x => by rw [mem_srt, mem_srt]; exact h x)

theorem parts_no {p : Bs} (h : isPath p = false) : parts p = [] := by simp [parts, h]
theorem parts_len (p : Bs) : (parts p).length ≤ 103 := by
  unfold parts
  split
  · rename_i h
    have h1 := pre_len p p.length
    have h2 := path_len h
    rw [List.length_append, List.length_singleton]
    omega
  · simp
theorem pre_short (p : Bs) : ∀ (i : Nat) (x : Bs), x ∈ pre p i → x.length ≤ p.length
  | 0, x, h => by simp [pre] at h
  | i + 1, x, h => by
    unfold pre at h
    split at h
    · rcases List.mem_append.1 h with q | q
      · exact pre_short p i x q
      · rw [List.mem_singleton.1 q, List.length_take]
        omega
    · exact pre_short p i x h
theorem part_short {p x : Bs} (h : x ∈ parts p) : x.length ≤ 102 := by
  unfold parts at h
  split at h
  · rename_i hp
    have h2 := path_len hp
    rcases List.mem_append.1 h with q | q
    · have := pre_short p _ x q
      omega
    · rw [List.mem_singleton.1 q]
      exact h2
  · cases h
theorem flat_parts_len (l : List Bs) : (l.flatMap parts).length ≤ 103 * l.length := by
  induction l with
  | nil => simp
  | cons x t ih =>
    have := parts_len x
    simp only [List.flatMap_cons, List.length_append, List.length_cons]
    omega

/-- What leads to the unlike paths is what leads to all that changed. -/
theorem lead_eq (ch : List Bs) : srt ((srt (ch.filter isPath)).flatMap parts) = fpaths ch := by
  refine srt_same (fun x => ?_)
  simp only [List.mem_flatMap, mem_srt, List.mem_filter]
  constructor
  · rintro ⟨p, ⟨h1, _⟩, h2⟩
    exact ⟨p, h1, h2⟩
  · rintro ⟨p, h1, h2⟩
    refine ⟨p, ⟨h1, ?_⟩, h2⟩
    cases hp : isPath p with
    | true => rfl
    | false => rw [parts_no hp] at h2; cases h2

theorem filter_snoc {l : List Bs} {i : Nat} (h : i < l.length) (f : Bs → Bool) : (l.take (i + 1)).filter f = (l.take i).filter f ++ (if f (el l i) then [el l i] else []) := by
  rw [List.take_succ_eq_append_getElem h, List.filter_append, ← el_get h]
  congr 1
  by_cases q : f (el l i) <;> simp [q]
theorem flat_snoc {l : List Bs} {i : Nat} (h : i < l.length) {α : Type} (f : Bs → List α) : (l.take (i + 1)).flatMap f = (l.take i).flatMap f ++ f (el l i) := by
  rw [List.take_succ_eq_append_getElem h, List.flatMap_append, ← el_get h]
  simp

theorem fpaths_len (ch : List Bs) : (fpaths ch).length ≤ 103 * fcount ch := by
  rw [← lead_eq]
  have h1 := srt_len ((srt (ch.filter isPath)).flatMap parts)
  have h2 := flat_parts_len (srt (ch.filter isPath))
  unfold fcount
  omega

end Go.Proofs.Ytkoelofjgceohaa
