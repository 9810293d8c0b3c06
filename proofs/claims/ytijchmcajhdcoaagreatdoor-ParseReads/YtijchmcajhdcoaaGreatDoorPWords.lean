/-
  The words of layer 3 as functions on lists of bytes: names, paths, parts, under; the document's split into names tells the same paths. No program.
-/
import Derived.Test.YtijchmcajhdcoaaGreatDoorRows
import Derived.WalkKit
import Derived.WalkSpells
import Derived.WalkLawsBesides
import Derived.WalkSmall
import Derived.Lib.Bytealg
import Derived.Lib.IndexLaws
namespace Go.Proofs.YtijchmcajhdcoaaGreatDoor
open Go.RowKit

abbrev Bs := List UInt8

/-- May a byte stand in a name? -/
def okI (c : Int) : Bool := decide ((97 ≤ c ∧ c ≤ 122) ∨ (48 ≤ c ∧ c ≤ 57) ∨ c = 95 ∨ c = 46)
def okB (b : UInt8) : Bool := okI b.toNat
def isName (l : Bs) : Bool := decide (1 ≤ l.length) && decide (l.length ≤ 16) && l.all okB

/-- A text around its first slash. -/
def cutB : Bs → Bs × Bs × Bool
  | [] => ([], [], false)
  | b :: t => if b = 47 then ([], t, true) else (b :: (cutB t).1, (cutB t).2.1, (cutB t).2.2)

theorem cut_none : ∀ l : Bs, Lib.indexByte l 47 = -1 → cutB l = (l, [], false)
  | [], _ => rfl
  | b :: t, h => by
    unfold Lib.indexByte at h
    by_cases hb : b = 47
    · subst hb; simp at h
    · have hb' : (b == 47) = false := by simpa using hb
      rw [hb'] at h
      have ht : Lib.indexByte t 47 = -1 := by
        by_cases e : Lib.indexByte t 47 = -1
        · exact e
        · have := Lib.indexByte_ge t 47
          simp [e] at h
          omega
      simp [cutB, hb, cut_none t ht]

theorem cut_some : ∀ (l : Bs) (o : Nat), Lib.indexByte l 47 = o → o < l.length ∧ cutB l = (l.take o, l.drop (o + 1), true)
  | [], o, h => by simp [Lib.indexByte] at h
  | b :: t, o, h => by
    unfold Lib.indexByte at h
    by_cases hb : b = 47
    · subst hb
      simp at h
      obtain rfl : o = 0 := by omega
      simp [cutB]
    · have hb' : (b == 47) = false := by simpa using hb
      rw [hb'] at h
      by_cases e : Lib.indexByte t 47 = -1
      · simp [e] at h
      · have hge := Lib.indexByte_ge t 47
        simp [e] at h
        obtain ⟨o', rfl⟩ : ∃ o', o = o' + 1 := ⟨o - 1, by omega⟩
        obtain ⟨q1, q2⟩ := cut_some t o' (by omega)
        simp [cutB, hb, q2, q1]

/-- Is it a path of at most n names? -/
def chk : Nat → Bs → Bool
  | 0, _ => false
  | n + 1, l => isName (cutB l).1 && (if (cutB l).2.2 then chk n (cutB l).2.1 else true)
def isPath (l : Bs) : Bool := chk 6 l
def err (b : Bool) : Int := if b then 0 else 2

/-- What stands between the slashes of a text. -/
def names : Bs → List Bs
  | [] => [[]]
  | b :: t => if b = 47 then [] :: names t else (b :: (names t).headD []) :: (names t).tail

theorem names_ne (l : Bs) : names l ≠ [] := by
  cases l with
  | nil => simp [names]
  | cons b t => by_cases h : b = 47 <;> simp [names, h]

theorem names_cut : ∀ l : Bs, names l = if (cutB l).2.2 then (cutB l).1 :: names (cutB l).2.1 else [(cutB l).1]
  | [] => rfl
  | b :: t => by
    by_cases h : b = 47
    · simp [names, cutB, h]
    · have := names_cut t
      by_cases f : (cutB t).2.2
      · simp [names, cutB, h, f, this]
      · simp [names, cutB, h, f, this]

theorem chk_names : ∀ (n : Nat) (l : Bs), chk n l = ((names l).all isName && decide ((names l).length ≤ n))
  | 0, l => by
    have : ¬ (names l).length ≤ 0 := by have := names_ne l; cases h : names l <;> simp_all
    simp [chk, this]
  | n + 1, l => by
    rw [names_cut l]
    by_cases f : (cutB l).2.2
    · simp only [chk, f, if_true, List.all_cons, List.length_cons, chk_names n, Nat.add_le_add_iff_right, Bool.and_assoc]
    · simp [chk, f]

theorem names_size : ∀ l : Bs, (names l).flatten.length + (names l).length = l.length + 1
  | [] => rfl
  | b :: t => by
    have := names_size t
    by_cases h : b = 47
    · simp only [names, h, if_true, List.flatten_cons, List.length_append, List.length_cons, List.length_nil]; omega
    · cases hn : names t with
      | nil => exact absurd hn (names_ne t)
      | cons x y =>
        rw [hn] at this
        simp only [names, h, if_false, hn, List.headD_cons, List.tail_cons, List.flatten_cons, List.length_append, List.length_cons] at this ⊢
        omega

theorem flat_le : ∀ ns : List Bs, ns.all isName = true → ns.flatten.length ≤ 16 * ns.length
  | [], _ => by simp
  | a :: t, h => by
    simp only [List.all_cons, Bool.and_eq_true] at h
    have := flat_le t h.2
    have h1 := h.1
    simp only [isName, Bool.and_eq_true, decide_eq_true_eq] at h1
    simp only [List.flatten_cons, List.length_append, List.length_cons]
    omega

/-- The document's way: a longer text than any path is none; else all names are names, and at most six. -/
def refIs (l : Bs) : Bool := decide (l.length ≤ 102) && ((names l).all isName && decide ((names l).length ≤ 6))
theorem refIs_eq (l : Bs) : refIs l = isPath l := by
  rw [isPath, chk_names, refIs]
  cases h : ((names l).all isName && decide ((names l).length ≤ 6)) with
  | false => simp
  | true =>
    simp only [Bool.and_eq_true, decide_eq_true_eq] at h
    have a := flat_le _ h.1
    have b := names_size l
    have : l.length ≤ 102 := by omega
    simp [this]

/-- Is a text another one, or below it? -/
def under (p d : Bs) : Bool := p == d || (d ++ [47]).isPrefixOf p

theorem under_trim (p d : Bs) : (d.isPrefixOf p && ((p.drop d.length) == [] || [47].isPrefixOf (p.drop d.length))) = under p d := by
  rw [Bool.eq_iff_iff]
  simp only [under, Bool.and_eq_true, Bool.or_eq_true, List.isPrefixOf_iff_prefix, beq_iff_eq]
  constructor
  · rintro ⟨⟨t, rfl⟩, h⟩
    rw [List.drop_left] at h
    rcases h with rfl | ⟨u, rfl⟩
    · left; simp
    · right; exact ⟨u, by simp⟩
  · rintro (rfl | ⟨u, rfl⟩)
    · exact ⟨List.prefix_rfl, by simp⟩
    · refine ⟨⟨[47] ++ u, by simp⟩, ?_⟩
      right
      rw [List.append_assoc, List.drop_left]
      exact ⟨u, rfl⟩

end Go.Proofs.YtijchmcajhdcoaaGreatDoor
