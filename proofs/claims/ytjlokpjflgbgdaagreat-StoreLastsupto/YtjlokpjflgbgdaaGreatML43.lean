/-
  The scans of the partition, without a program.
-/
import Derived.Test.YtjlokpjflgbgdaaGreatML42
set_option maxHeartbeats 6400000
set_option maxRecDepth 100000
namespace Go.Proofs.YtjlokpjflgbgdaaGreat
open Go.RowKit Go.Sort
theorem up_go {p : UInt64 -> Bool} {d : Array UInt64} {j i : Nat} (h : (decide (i <= j) && p d[i]!) = true) : scanUp p d j i = scanUp p d j (i + 1) := by
 rw [scanUp, if_pos h]
theorem up_end {p : UInt64 -> Bool} {d : Array UInt64} {j i : Nat} (h : (decide (i <= j) && p d[i]!) = false) : scanUp p d j i = i := by
 rw [scanUp, if_neg (by rw [h]; decide)]
theorem dn_go {p : UInt64 -> Bool} {d : Array UInt64} {j i : Nat} (hi : 1 <= i) (h : (decide (i <= j) && p d[j]!) = true) : scanDown p d i j = scanDown p d i (j - 1) := by
 cases j with
 | zero => simp at h; omega
 | succ j => rw [scanDown, if_pos h]; rfl
theorem dn_end {p : UInt64 -> Bool} {d : Array UInt64} {j i : Nat} (h : (decide (i <= j) && p d[j]!) = false) : scanDown p d i j = j := by
 cases j with
 | zero => rfl
 | succ j => rw [scanDown, if_neg (by rw [h]; decide)]
theorem up_ge (p : UInt64 -> Bool) (d : Array UInt64) (j i : Nat) : i <= scanUp p d j i /\ (decide (scanUp p d j i <= j) && p d[scanUp p d j i]!) = false := by
 generalize hm : j + 1 - i = m
 induction m generalizing i with
 | zero =>
  have h : (decide (i <= j) && p d[i]!) = false := by simp; intro q; omega
  rw [up_end h]
  exact ⟨Nat.le_refl _, h⟩
 | succ m ih =>
  cases h : (decide (i <= j) && p d[i]!) with
  | false => rw [up_end h]; exact ⟨Nat.le_refl _, h⟩
  | true =>
   rw [up_go h]
   have := ih (i + 1) (by omega)
   exact ⟨by omega, this.2⟩
theorem dn_le (p : UInt64 -> Bool) (d : Array UInt64) (i : Nat) (hi : 1 <= i) : ∀ j, scanDown p d i j <= j /\ (decide (i <= scanDown p d i j) && p d[scanDown p d i j]!) = false := by
 intro j
 induction j with
 | zero => exact ⟨by rw [scanDown]; exact Nat.le_refl _, by rw [scanDown]; simp; intro q; omega⟩
 | succ j ih =>
  cases h : (decide (i <= j + 1) && p d[j + 1]!) with
  | false => rw [dn_end h]; exact ⟨Nat.le_refl _, h⟩
  | true =>
   rw [dn_go hi h]
   exact ⟨by have := ih.1; simp only [Nat.add_sub_cancel]; omega, ih.2⟩
theorem scan_ne {p q : UInt64 -> Bool} (hpq : ∀ x, q x = !p x) {d : Array UInt64} {j i i2 j2 : Nat} (hi : 1 <= i) (h1 : scanUp p d j i = i2) (h2 : scanDown q d i2 j = j2) : i <= i2 /\ j2 <= j /\ i2 ≠ j2 := by
 have a1 := up_ge p d j i
 rw [h1] at a1
 have a2 := dn_le q d i2 (by omega) j
 rw [h2] at a2
 refine ⟨a1.1, a2.1, ?_⟩
 intro e
 subst e
 have b1 := a1.2
 have b2 := a2.2
 have l1 : decide (i2 <= j) = true := by simpa using a2.1
 have l2 : decide (i2 <= i2) = true := by simp
 rw [l1, Bool.true_and] at b1
 rw [l2, Bool.true_and, hpq, b1] at b2
 cases b2
theorem part_stop {a i j i2 j2 : Nat} {d : Array UInt64} (h1 : scanUp (λ x => ltU x d[a]!) d j i = i2) (h2 : scanDown (λ x => !ltU x d[a]!) d i2 j = j2) (h : j2 < i2) : partLoop ltU a i j d = (j2, d) := by
 rw [partLoop]
 simp only [h1, h2]
 rw [if_pos h]
theorem part_go {a i j i2 j2 : Nat} {d : Array UInt64} (hi : 1 <= i) (h1 : scanUp (λ x => ltU x d[a]!) d j i = i2) (h2 : scanDown (λ x => !ltU x d[a]!) d i2 j = j2) (h : ¬ j2 < i2) : partLoop ltU a i j d = partLoop ltU a (i2 + 1) (j2 - 1) (swp d i2 j2) := by
 have hs := scan_ne (p := λ x => ltU x d[a]!) (q := λ x => !ltU x d[a]!) (λ _ => rfl) hi h1 h2
 rw [partLoop]
 simp only [h1, h2]
 rw [if_neg h, dif_pos (by omega)]
theorem parteq_stop {a i j i2 j2 : Nat} {d : Array UInt64} (h1 : scanUp (λ x => !ltU d[a]! x) d j i = i2) (h2 : scanDown (λ x => ltU d[a]! x) d i2 j = j2) (h : j2 < i2) : partEqLoop ltU a i j d = (i2, d) := by
 rw [partEqLoop]
 simp only [h1, h2]
 rw [if_pos h]
theorem parteq_go {a i j i2 j2 : Nat} {d : Array UInt64} (hi : 1 <= i) (h1 : scanUp (λ x => !ltU d[a]! x) d j i = i2) (h2 : scanDown (λ x => ltU d[a]! x) d i2 j = j2) (h : ¬ j2 < i2) : partEqLoop ltU a i j d = partEqLoop ltU a (i2 + 1) (j2 - 1) (swp d i2 j2) := by
 have hs := scan_ne (p := λ x => !ltU d[a]! x) (q := λ x => ltU d[a]! x) (λ _ => by simp) hi h1 h2
 rw [partEqLoop]
 simp only [h1, h2]
 rw [if_neg h, dif_pos (by omega)]
end Go.Proofs.YtjlokpjflgbgdaaGreat
