/-
  Which lists of texts make the same path set: the other way round, its own paths, and with one more that it has. No program.
-/
import Derived.Test.YtbclmpjcfddlcaaGreatPTops
import Derived.Test.YtbclmpjcfddlcaaGreatPSets
namespace Go.Proofs.YtbclmpjcfddlcaaGreat
open Go.RowKit

theorem lim_rev (ps : List Bs) : limS ps.reverse = limS ps ∧ limE ps.reverse = limE ps := by
  have e1 : ps.reverse.all isPath = ps.all isPath := by
    rw [Bool.eq_iff_iff, List.all_eq_true, List.all_eq_true]
    exact ⟨fun h x hx => h x (List.mem_reverse.2 hx), fun h x hx => h x (List.mem_reverse.1 hx)⟩
  have e2 : red (srt ps.reverse) = red (srt ps) := tops_same (fun x => List.mem_reverse)
  constructor
  · rw [limS, limS, List.length_reverse, e1, e2]
  · rw [limE, limE, List.length_reverse, e1]

theorem lim_le (ps : List Bs) : (limS ps).length ≤ 16 := by
  unfold limS
  split
  · simp
  · split
    · have h1 := red_len (srt ps)
      have h2 := srt_len ps
      omega
    · simp

theorem lim_paths (ps : List Bs) : (limS ps).all isPath = true := by
  unfold limS
  split
  · rfl
  · split
    · rename_i h
      rw [List.all_eq_true] at h ⊢
      exact fun x hx => h x ((mem_tops ps x).1 hx).1
    · rfl

theorem lim_own (ps : List Bs) : limE (limS ps) = 0 ∧ limS (limS ps) = limS ps := by
  have h1 := lim_le ps
  have h2 := lim_paths ps
  have h16 : ¬ (limS ps).length > 16 := by omega
  refine ⟨by rw [limE, if_neg h16, h2]; rfl, ?_⟩
  have e : limS (limS ps) = red (srt (limS ps)) := by rw [limS, if_neg h16, h2]; rfl
  rw [e]
  unfold limS
  split
  · rfl
  · split
    · exact tops_again ps
    · rfl

theorem lim_no {ps : List Bs} (h : limE ps ≠ 0) : limS ps = [] := by
  unfold limE at h
  unfold limS
  split
  · rfl
  · rename_i h16
    rw [if_neg h16] at h
    split
    · rename_i ha
      rw [if_pos ha] at h
      exact absurd rfl h
    · rfl

theorem lim_more {ps : List Bs} {m : Bs} (h0 : 0 < ps.length) (h16 : ps.length < 16) (he : limE ps = 0) (hm : hasS (limS ps) m = true) :
    limE (ps.reverse ++ [m]) = 0 ∧ limS (ps.reverse ++ [m]) = limS ps := by
  have n16 : ¬ ps.length > 16 := by omega
  have hall : ps.all isPath = true := by
    rw [limE, if_neg n16] at he
    split at he
    · assumption
    · cases he
  have hS : limS ps = red (srt ps) := by rw [limS, if_neg n16, hall]; rfl
  rw [hasS, Bool.and_eq_true, hS] at hm
  obtain ⟨hp, hu⟩ := hm
  obtain ⟨k, hk, hmk⟩ : ∃ k ∈ red (srt ps), under m k = true := by
    rw [Bool.or_eq_true] at hu
    rcases hu with hu | hu
    · exfalso
      obtain ⟨x, hx⟩ := List.exists_mem_of_length_pos h0
      obtain ⟨k, hk, _⟩ := red_cover (srt ps) x ((mem_srt ps x).2 hx)
      cases hr : red (srt ps) with
      | nil => rw [hr] at hk; cases hk
      | cons => rw [hr] at hu; cases hu
    · obtain ⟨k, hk, h⟩ := List.any_eq_true.1 hu
      exact ⟨k, hk, h⟩
  have l16 : ¬ (ps.reverse ++ [m]).length > 16 := by simp; omega
  have a2 : (ps.reverse ++ [m]).all isPath = true := by
    rw [List.all_append, Bool.and_eq_true]
    refine ⟨?_, by simp [hp]⟩
    rw [List.all_eq_true] at hall ⊢
    exact fun x hx => hall x (List.mem_reverse.1 hx)
  refine ⟨by rw [limE, if_neg l16, a2]; rfl, ?_⟩
  have e : limS (ps.reverse ++ [m]) = red (srt (ps.reverse ++ [m])) := by rw [limS, if_neg l16, a2]; rfl
  rw [e, hS]
  have hr : red (srt ps.reverse) = red (srt ps) := tops_same (fun x => List.mem_reverse)
  rw [tops_more ps.reverse m k (by rw [hr]; exact hk) hmk, hr]

/-- The last i texts of a list, the last one first. -/
def revs (ps : List Bs) (i : Nat) : List Bs := ps.reverse.take i
theorem revs_len (ps : List Bs) (i : Nat) (h : i ≤ ps.length) : (revs ps i).length = i := by simp [revs]; omega
theorem revs_step (ps : List Bs) (i : Nat) (h : i < ps.length) : revs ps (i + 1) = revs ps i ++ [el ps (ps.length - 1 - i)] := by
  rw [revs, List.take_succ_eq_append_getElem (by simpa using h), List.getElem_reverse, revs, el_get (by omega)]
theorem revs_all (ps : List Bs) (i : Nat) (h : ps.length ≤ i) : revs ps i = ps.reverse := List.take_of_length_le (by simpa using h)

end Go.Proofs.YtbclmpjcfddlcaaGreat
