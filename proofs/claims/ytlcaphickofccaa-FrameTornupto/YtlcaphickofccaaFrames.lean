/-
  Frames without a program: sealed, opened and cut, as the chapter tells them. No condition.
-/
import Derived.Test.YtlcaphickofccaaCrc
namespace Go.Proofs.Ytlcaphickofccaa
open Go.RowKit

/-- A frame: its kind and its bytes. -/
abbrev Fr := Int × Bs

/-- What stands ahead of the check sum. -/
def headB (k : Int) (body : Bs) : Bs := b4 body.length ++ (UInt8.ofNat k.toNat :: body)
def sealB (k : Int) (body : Bs) : Bs := headB k body ++ b4 (crc (headB k body))

theorem headB_len (k : Int) (body : Bs) : (headB k body).length = 5 + body.length := by simp [headB, b4_len]; omega
theorem sealB_len (k : Int) (body : Bs) : (sealB k body).length = 9 + body.length := by simp [sealB, headB_len, b4_len]; omega

/-- Seal. -/
def fseal (f : Fr) : Bs × Int := if f.1 < 0 ∨ 255 < f.1 then ([], 3) else if 8192 < f.2.length then ([], 4) else (sealB f.1 f.2, 0)

/-- Open. -/
def fopen (b : Bs) : Fr × Nat × Int :=
  if b.length < 4 then ((0, []), 0, 10)
  else if 8192 < val (b.take 4) then ((0, []), 0, 4)
  else if b.length < 9 + val (b.take 4) then ((0, []), 0, 10)
  else if val ((b.drop (5 + val (b.take 4))).take 4) ≠ crc (b.take (5 + val (b.take 4))) then ((0, []), 0, 11)
  else ((((b.getD 4 0).toNat : Int), (b.drop 5).take (val (b.take 4))), 9 + val (b.take 4), 0)

theorem fopen_ok {b : Bs} (h : (fopen b).2.2 = 0) : 4 ≤ b.length ∧ val (b.take 4) ≤ 8192 ∧ 9 + val (b.take 4) ≤ b.length ∧ val ((b.drop (5 + val (b.take 4))).take 4) = crc (b.take (5 + val (b.take 4))) ∧ fopen b = ((((b.getD 4 0).toNat : Int), (b.drop 5).take (val (b.take 4))), 9 + val (b.take 4), 0) := by
  unfold fopen at h ⊢
  split at h
  · simp at h
  · split at h
    · simp at h
    · split at h
      · simp at h
      · split at h
        · simp at h
        · rename_i h1 h2 h3 h4
          rw [if_neg h1, if_neg h2, if_neg h3, if_neg h4]
          exact ⟨by omega, by omega, by omega, by simpa using h4, rfl⟩

theorem fopen_bad {b : Bs} (h : (fopen b).2.2 ≠ 0) : fopen b = ((0, []), 0, (fopen b).2.2) ∧ (fopen b).2.2 ≤ 11 ∧ 0 < (fopen b).2.2 := by
  unfold fopen at h ⊢
  split
  · exact ⟨rfl, by decide, by decide⟩
  · rename_i h1
    rw [if_neg h1] at h
    split
    · exact ⟨rfl, by decide, by decide⟩
    · rename_i h2
      rw [if_neg h2] at h
      split
      · exact ⟨rfl, by decide, by decide⟩
      · rename_i h3
        rw [if_neg h3] at h
        split
        · exact ⟨rfl, by decide, by decide⟩
        · rename_i h4
          rw [if_neg h4] at h
          exact absurd rfl h

theorem fopen_n {b : Bs} (h : (fopen b).2.2 = 0) : 9 ≤ (fopen b).2.1 ∧ (fopen b).2.1 ≤ b.length ∧ (fopen b).2.1 = 9 + (fopen b).1.2.length := by
  obtain ⟨h1, h2, h3, _, e⟩ := fopen_ok h
  rw [e]
  refine ⟨by show 9 ≤ 9 + _; omega, h3, ?_⟩
  show 9 + _ = 9 + ((b.drop 5).take _).length
  rw [List.length_take, List.length_drop]
  omega

/-- Cut. -/
def fcut (b : Bs) : List Fr × Nat × Int :=
  if _h0 : b = [] then ([], 0, 0)
  else if _h : (fopen b).2.2 = 0 then ((fopen b).1 :: (fcut (b.drop (fopen b).2.1)).1, (fopen b).2.1 + (fcut (b.drop (fopen b).2.1)).2.1, (fcut (b.drop (fopen b).2.1)).2.2)
  else ([], 0, (fopen b).2.2)
termination_by b.length
decreasing_by
  all_goals
    have := fopen_n _h
    have : 0 < b.length := by
      rcases b with _ | _
      · exact absurd rfl _h0
      · simp
    simp only [List.length_drop]
    omega

theorem fcut_nil : fcut [] = ([], 0, 0) := by rw [fcut]; simp
theorem fcut_stop {b : Bs} (h0 : 0 < b.length) (h : (fopen b).2.2 ≠ 0) : fcut b = ([], 0, (fopen b).2.2) := by
  rw [fcut, dif_neg (by intro e; rw [e] at h0; simp at h0), dif_neg h]
theorem fcut_step {b : Bs} (h0 : 0 < b.length) (h : (fopen b).2.2 = 0) : fcut b = ((fopen b).1 :: (fcut (b.drop (fopen b).2.1)).1, (fopen b).2.1 + (fcut (b.drop (fopen b).2.1)).2.1, (fcut (b.drop (fopen b).2.1)).2.2) := by
  rw [fcut, dif_neg (by intro e; rw [e] at h0; simp at h0), dif_pos h]

/-- How far a cut has come: the frames fs, d bytes of them. -/
def CutAt (b : Bs) (fs : List Fr) (d : Nat) : Prop := d ≤ b.length ∧ 9 * fs.length ≤ d ∧ fcut b = (fs ++ (fcut (b.drop d)).1, d + (fcut (b.drop d)).2.1, (fcut (b.drop d)).2.2)

theorem CutAt.start (b : Bs) : CutAt b [] 0 := ⟨Nat.zero_le _, by simp, by simp⟩
theorem CutAt.stop {b : Bs} {fs : List Fr} {d : Nat} (h : CutAt b fs d) (hd : d < b.length) (he : (fopen (b.drop d)).2.2 ≠ 0) : fcut b = (fs, d, (fopen (b.drop d)).2.2) := by
  rw [h.2.2, fcut_stop (by rw [List.length_drop]; omega) he]
  simp
theorem CutAt.step {b : Bs} {fs : List Fr} {d : Nat} (h : CutAt b fs d) (hd : d < b.length) (he : (fopen (b.drop d)).2.2 = 0) : CutAt b (fs ++ [(fopen (b.drop d)).1]) (d + (fopen (b.drop d)).2.1) := by
  have hn := fopen_n he
  rw [List.length_drop] at hn
  refine ⟨by omega, by have := h.2.1; simp; omega, ?_⟩
  rw [h.2.2, fcut_step (by rw [List.length_drop]; omega) he, List.drop_drop]
  simp [Nat.add_assoc]
theorem CutAt.done {b : Bs} {fs : List Fr} {d : Nat} (h : CutAt b fs d) (hd : ¬ d < b.length) : fcut b = (fs, d, 0) := by
  have : b.drop d = [] := List.drop_eq_nil_of_le (by omega)
  rw [h.2.2, this, fcut_nil]
  simp

/-- Row: the frames' bytes, or the first error. -/
def frow : List Fr → Bs × Int
  | [] => ([], 0)
  | f :: t => if (fseal f).2 ≠ 0 then ([], (fseal f).2) else if (frow t).2 ≠ 0 then ([], (frow t).2) else ((fseal f).1 ++ (frow t).1, 0)

end Go.Proofs.Ytlcaphickofccaa
