/-
  Several texts, laid together.
-/
import Derived.Test.YtofbphmdkhocdaaGreatYCapMg
import Derived.Test.YtofbphmdkhocdaaGreatPTopsMg
import Derived.Test.YtofbphmdkhocdaaGreatM11

/-
  tree.Same by a contract, of lists whose rows have room of any size behind them.
-/
namespace Go.Proofs.YtofbphmdkhocdaaGreat
open Go.RowKit

set_option maxHeartbeats 400000 in
set_option maxRecDepth 100000 in
/-- tree.Same. -/
theorem tsame_cap {K : Nat} {ao bo lo : Option Addr} {n c m d ln lc : Nat} {A B : List En} {ls : List Bs} (w : World) (ha : RdG encE w ao A) (hb : RdG encE w bo B) (hl : A.length = n) (hk : B.length = m) (hnc : n ≤ c) (hmd : m ≤ d) (hc : c ≤ K) (hd : d ≤ K) (hn : n ≤ 100000) (hm : m ≤ 100000)
    (rA : Rise A) (rB : Rise B) (fA : Fine A) (fB : Fine B) (hL : Rd w lo ls) (hll : ls.length = ln) (hln : ln ≤ 100000) (f : Bool) (hf : (fdiff (hasS ls) A B).isEmpty = f) :
    Calls Tryz.prog 14 #[.slice ao n c, .slice bo m d, .agg #[.slice lo ln lc]] w fun e w' => e = .returned (.bool f) ∧ Below w.heap.size w w' := by
  have hb0 : Below w.heap.size w (w.alloc (.cells #[.slice lo ln lc] 26)) := bz1 _ _
  have hdi := diff_cap (lc := lc) (w.alloc (.cells #[.slice lo ln lc] 26)) (ha.below hb0) (hb.below hb0) hl hk hnc hmd hc hd hn hm rA rB fA fB (hL.below hb0) hll hln
  obtain ⟨cs, hcs⟩ : ∃ cs, fdiff (hasS ls) A B = cs := ⟨_, rfl⟩
  rw [hcs] at hdi hf
  have G0 : Hid (Below w.heap.size w (w.alloc (.cells #[.slice lo ln lc] 26)) ∧ cs.isEmpty = f) := ⟨hb0, hf⟩
  clear hb0 hcs hf ha hb hl hk rA rB fA fB hL hll
  go_enter Tryz.func14, Tryz.ntmps14
  go_wp2_with fail
  refine hdi.mono ?_
  rintro e w1 ⟨v1, rfl, O1, B1⟩
  obtain ⟨a1, c1, rfl, _, _, _, _⟩ := O1.form
  have G1 : Hid (Below w.heap.size w w1) := G0.out.1.trans (B1.mono (by simp))
  obtain ⟨kn, hkn⟩ : ∃ kn, cs.length = kn := ⟨_, rfl⟩
  have E : Hid (f = decide (kn = 0)) := by
    show f = _
    rw [← G0.out.2, ← hkn]
    cases cs <;> simp
  rw [hkn]
  clear hkn O1 B1 hdi
  go_wp2
  go_ret
  refine ⟨?_, G1.out⟩
  rw [E.out]
  refine congrArg (fun b => Ending.returned (Value.bool b)) ?_
  rw [Bool.eq_iff_iff]
  simp
  try omega

end Go.Proofs.YtofbphmdkhocdaaGreat

/-
  Which lists of texts make the same path set: the other way round, its own paths, and with one more that it has. No program.
-/
namespace Go.Proofs.YtofbphmdkhocdaaGreat
open Go.RowKit

theorem lim_rev (ps : List Bs) : limS ps.reverse = limS ps ∧ limE ps.reverse = limE ps := by
  have e1 : ps.reverse.all isPath = ps.all isPath := by
    rw [Bool.eq_iff_iff, List.all_eq_true, List.all_eq_true]
    exact ⟨fun h x hx => h x (List.mem_reverse.2 hx), fun h x hx => h x (List.mem_reverse.1 hx)⟩
  have e2 : red (srt ps.reverse) = red (srt ps) := tops_same (fun x => List.mem_reverse)
  constructor
  · rw [limS, limS, List.length_reverse, e1, e2]
  · rw [limE, limE, List.length_reverse, e1]

theorem lim_le (ps : List Bs) : (limS ps).length ≤ 16 := by
  unfold limS
  split
  · simp
  · split
    · have h1 := red_len (srt ps)
      have h2 := srt_len ps
      omega
    · simp

theorem lim_paths (ps : List Bs) : (limS ps).all isPath = true := by
  unfold limS
  split
  · rfl
  · split
    · rename_i h
      rw [List.all_eq_true] at h ⊢
      exact fun x hx => h x ((mem_tops ps x).1 hx).1
    · rfl

theorem lim_own (ps : List Bs) : limE (limS ps) = 0 ∧ limS (limS ps) = limS ps := by
  have h1 := lim_le ps
  have h2 := lim_paths ps
  have h16 : ¬ (limS ps).length > 16 := by omega
  refine ⟨by rw [limE, if_neg h16, h2]; rfl, ?_⟩
  have e : limS (limS ps) = red (srt (limS ps)) := by rw [limS, if_neg h16, h2]; rfl
  rw [e]
  unfold limS
  split
  · rfl
  · split
    · exact tops_again ps
    · rfl

theorem lim_no {ps : List Bs} (h : limE ps ≠ 0) : limS ps = [] := by
  unfold limE at h
  unfold limS
  split
  · rfl
  · rename_i h16
    rw [if_neg h16] at h
    split
    · rename_i ha
      rw [if_pos ha] at h
      exact absurd rfl h
    · rfl

theorem lim_more {ps : List Bs} {m : Bs} (h0 : 0 < ps.length) (h16 : ps.length < 16) (he : limE ps = 0) (hm : hasS (limS ps) m = true) :
    limE (ps.reverse ++ [m]) = 0 ∧ limS (ps.reverse ++ [m]) = limS ps := by
  have n16 : ¬ ps.length > 16 := by omega
  have hall : ps.all isPath = true := by
    rw [limE, if_neg n16] at he
    split at he
    · assumption
    · cases he
  have hS : limS ps = red (srt ps) := by rw [limS, if_neg n16, hall]; rfl
  rw [hasS, Bool.and_eq_true, hS] at hm
  obtain ⟨hp, hu⟩ := hm
  obtain ⟨k, hk, hmk⟩ : ∃ k ∈ red (srt ps), under m k = true := by
    rw [Bool.or_eq_true] at hu
    rcases hu with hu | hu
    · exfalso
      obtain ⟨x, hx⟩ := List.exists_mem_of_length_pos h0
      obtain ⟨k, hk, _⟩ := red_cover (srt ps) x ((mem_srt ps x).2 hx)
      cases hr : red (srt ps) with
      | nil => rw [hr] at hk; cases hk
      | cons => rw [hr] at hu; cases hu
    · obtain ⟨k, hk, h⟩ := List.any_eq_true.1 hu
      exact ⟨k, hk, h⟩
  have l16 : ¬ (ps.reverse ++ [m]).length > 16 := by simp; omega
  have a2 : (ps.reverse ++ [m]).all isPath = true := by
    rw [List.all_append, Bool.and_eq_true]
    refine ⟨?_, by simp [hp]⟩
    rw [List.all_eq_true] at hall ⊢
    exact fun x hx => hall x (List.mem_reverse.1 hx)
  refine ⟨by rw [limE, if_neg l16, a2]; rfl, ?_⟩
  have e : limS (ps.reverse ++ [m]) = red (srt (ps.reverse ++ [m])) := by rw [limS, if_neg l16, a2]; rfl
  rw [e, hS]
  have hr : red (srt ps.reverse) = red (srt ps) := tops_same (fun x => List.mem_reverse)
  rw [tops_more ps.reverse m k (by rw [hr]; exact hk) hmk, hr]

/-- The last i texts of a list, the last one first. -/
def revs (ps : List Bs) (i : Nat) : List Bs := ps.reverse.take i
theorem revs_len (ps : List Bs) (i : Nat) (h : i ≤ ps.length) : (revs ps i).length = i := by simp [revs]; omega
theorem revs_step (ps : List Bs) (i : Nat) (h : i < ps.length) : revs ps (i + 1) = revs ps i ++ [el ps (ps.length - 1 - i)] := by
  rw [revs, List.take_succ_eq_append_getElem (by simpa using h), List.getElem_reverse, revs, el_get (by omega)]
theorem revs_all (ps : List Bs) (i : Nat) (h : ps.length ≤ i) : revs ps i = ps.reverse := List.take_of_length_le (by simpa using h)

end Go.Proofs.YtofbphmdkhocdaaGreat
