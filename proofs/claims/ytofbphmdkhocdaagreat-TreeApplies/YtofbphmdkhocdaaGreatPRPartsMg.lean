/-
  The reference's Is and Parts, each by a contract: whether a text is a path, and its parts. No condition but that a text is no longer than any text can be.
-/
import Derived.Test.YtofbphmdkhocdaaGreatM26
import Derived.Test.YtofbphmdkhocdaaGreatM11
namespace Go.Proofs.YtofbphmdkhocdaaGreat
open Go.RowKit

/-- The texts that the names make, each with a slash behind the one ahead. -/
def cums (s : Bs) : List Bs → List Bs
  | [] => []
  | n :: t => (s ++ n) :: cums (s ++ n ++ [47]) t
def prefs (q : Bs) : Bs → List Bs
  | [] => [q]
  | b :: t => if b = 47 then q :: prefs (q ++ [47]) t else prefs (q ++ [b]) t

theorem cums_names : ∀ (p q : Bs), cums q (names p) = prefs q p
  | [], q => by simp [names, cums, prefs]
  | b :: t, q => by
    by_cases h : b = 47
    · simp [names, cums, prefs, h, cums_names t]
    · have ih := cums_names t (q ++ [b])
      cases hn : names t with
      | nil => exact absurd hn (names_ne t)
      | cons x y =>
        rw [hn] at ih
        simp only [cums, List.append_assoc, List.cons_append, List.nil_append] at ih
        simp [names, cums, prefs, h, hn, ← ih]

theorem prefs_pre : ∀ (t a : Bs), pre (a ++ t) a.length ++ prefs a t = pre (a ++ t) (a ++ t).length ++ [a ++ t]
  | [], a => by simp [prefs]
  | b :: t, a => by
    have ih := prefs_pre t (a ++ [b])
    have e : a ++ [b] ++ t = a ++ b :: t := by simp
    rw [e] at ih
    rw [← ih, List.length_append, List.length_singleton]
    by_cases h : b = 47
    · subst h
      simp [prefs, pre]
    · simp [prefs, pre, h]

theorem parts_cums (p : Bs) : pre p p.length ++ [p] = cums [] (names p) := by
  have := prefs_pre p []
  rw [cums_names]
  simpa [pre] using this.symm

/-- Where the making of the parts stands when i names have been taken. -/
def Made (ns : List Bs) (i : Nat) (s : Bs) (out : List Bs) : Prop := out ++ cums (if i = 0 then [] else s ++ [47]) (ns.drop i) = cums [] ns ∧ (i = 0 → s = []) ∧ out.length = i

theorem Made.step {ns : List Bs} {i : Nat} {s : Bs} {out : List Bs} (h : Made ns i s out) (hi : i < ns.length) :
    Made ns (i + 1) ((if i = 0 then s else s ++ [47]) ++ el ns i) (out ++ [(if i = 0 then s else s ++ [47]) ++ el ns i]) := by
  obtain ⟨h1, h2, h3⟩ := h
  have e : (if i = 0 then ([] : Bs) else s ++ [47]) = (if i = 0 then s else s ++ [47]) := by
    by_cases h0 : i = 0
    · simp [h0, h2 h0]
    · simp [h0]
  refine ⟨?_, by omega, by simp [h3]⟩
  have hd : ns.drop i = el ns i :: ns.drop (i + 1) := by rw [List.drop_eq_getElem_cons hi, el_get hi]
  rw [hd, e] at h1
  rw [← h1]
  simp [cums]

theorem app_str (a b : ByteArray) : (a ++ b).data.toList = a.data.toList ++ b.data.toList := by
  rw [ByteArray.data_append]
  simp
theorem app_size (a b : ByteArray) : (a ++ b).size = a.size + b.size := by
  rw [bsize, app_str, List.length_append, bsize, bsize]

end Go.Proofs.YtofbphmdkhocdaaGreat
