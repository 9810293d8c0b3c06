/-
  Digits and numbers are one to one: plain facts on Hex and Parse.
-/
import Derived.Test.YtijchmcajhdcoaaGreatDoorJHex
namespace Go.Proofs.YtijchmcajhdcoaaGreatDoor
open Go.RowKit

theorem digVal_digit : ∀ n : Fin 16, digVal ((digitOf n.1).toNat.toUInt8) = n.1 := by decide +kernel
theorem digVal_dig (n : Int) (h0 : 0 ≤ n) (h1 : n < 16) : digVal ((digitOf n).toNat.toUInt8) = n := by
  obtain ⟨m, rfl⟩ := Int.eq_ofNat_of_zero_le h0
  exact digVal_digit ⟨m, by omega⟩
theorem dig_digVal (b : UInt8) (h : 0 ≤ digVal b) : (digitOf (digVal b)).toNat.toUInt8 = b := by
  have h' : ∀ n : Fin 256, 0 ≤ digVal (UInt8.ofNat n.1) → (digitOf (digVal (UInt8.ofNat n.1))).toNat.toUInt8 = UInt8.ofNat n.1 := by decide +kernel
  have := h' ⟨b.toNat, b.toNat_lt⟩
  simp only [UInt8.ofNat_toNat] at this
  exact this h

theorem U_small (n : Int) (h0 : 0 ≤ n) (h1 : n < 18446744073709551616) : U n = n := by
  show IntKind.u64.wrap n = n
  rw [IntKind.wrap_u64]
  omega

theorem mod_step (id : Int) (h0 : 0 ≤ id) (k : Nat) : id % 16 ^ (k + 1) = id / 16 ^ k % 16 * 16 ^ k + id % 16 ^ k := by
  obtain ⟨m, rfl⟩ := Int.eq_ofNat_of_zero_le h0
  have h : m % 16 ^ (k + 1) = m / 16 ^ k % 16 * 16 ^ k + m % 16 ^ k := by
    rw [Nat.pow_succ, Nat.mod_mul, Nat.mul_comm (16 ^ k), Nat.add_comm]
  exact_mod_cast h

/-- The digits of a number, read behind a number. -/
theorem par_hexTail (id : Int) (h0 : 0 ≤ id) : ∀ (k : Nat) (n : Int), 0 ≤ n → n * 16 ^ k + id % 16 ^ k < 18446744073709551616 → parFold (hexTail id k) n = some (n * 16 ^ k + id % 16 ^ k)
  | 0, n, _, _ => by simp [hexTail, parFold, Int.emod_one]
  | k + 1, n, hn, h => by
    have hp : (1 : Int) ≤ 16 ^ k := Int.pow_pos (by decide)
    have hd0 : 0 ≤ id / 16 ^ k % 16 := by omega
    have hd1 : id / 16 ^ k % 16 < 16 := by omega
    have hr : 0 ≤ id % 16 ^ k := Int.emod_nonneg _ (by omega)
    rw [mod_step id h0 k] at h ⊢
    have hd : digVal ((digAt id k).toNat.toUInt8) = id / 16 ^ k % 16 := digVal_dig _ hd0 hd1
    generalize hdd : id / 16 ^ k % 16 = d at *
    have e : n * 16 ^ (k + 1) + (d * 16 ^ k + id % 16 ^ k) = (n * 16 + d) * 16 ^ k + id % 16 ^ k := by
      rw [Int.pow_succ, Int.add_mul, Int.mul_assoc, Int.mul_comm 16 (16 ^ k), Int.add_assoc]
    rw [e] at h ⊢
    have hle : (n * 16 + d) ≤ (n * 16 + d) * 16 ^ k := by have := Int.mul_le_mul_of_nonneg_left hp (show 0 ≤ n * 16 + d by omega); omega
    simp only [hexTail, parFold]
    rw [hd, if_neg (by omega), U_small (n * 16) (by omega) (by omega), U_small (n * 16 + d) (by omega) (by omega)]
    exact par_hexTail id h0 k (n * 16 + d) (by omega) h

theorem par_hex (id : Int) (h0 : 0 ≤ id) (h1 : id < 18446744073709551616) : parOf (hexS id) = (id, 0) := by
  have hm : id % 16 ^ 16 = id := Int.emod_eq_of_lt h0 (by simpa using h1)
  have h := par_hexTail id h0 16 0 (by decide) (by rw [hm]; omega)
  rw [hm] at h
  have hs : (hexS id).size = 16 := by
    show (hexTail id 16).toArray.size = 16
    rw [List.size_toArray, hexTail_length]
  have hl : (hexS id).data.toList = hexTail id 16 := rfl
  rw [parOf, if_pos hs, hl, h]
  simp

/-- Sixteen bytes that are read as a number are its digits. -/
theorem tail_par : ∀ (l : List UInt8) (n0 n : Int), 0 ≤ n0 → (n0 + 1) * 16 ^ l.length ≤ 18446744073709551616 → parFold l n0 = some n →
    hexTail n l.length = l ∧ n0 * 16 ^ l.length ≤ n ∧ n < (n0 + 1) * 16 ^ l.length
  | [], n0, n, h0, _, h => by
    simp only [parFold, Option.some.injEq] at h
    subst h
    simp [hexTail]
    omega
  | b :: l, n0, n, h0, hb, h => by
    have hp : (1 : Int) ≤ 16 ^ l.length := Int.pow_pos (by decide)
    have hr := digVal_range b
    simp only [parFold] at h
    by_cases hneg : digVal b < 0
    · rw [if_pos hneg] at h
      exact absurd h (by simp)
    rw [if_neg hneg] at h
    have hdb := dig_digVal b (by omega)
    generalize hd : digVal b = d at *
    have ep : (16 : Int) ^ (b :: l).length = 16 ^ l.length * 16 := by rw [List.length_cons, Int.pow_succ]
    rw [ep] at hb ⊢
    have e1 : (n0 + 1) * (16 ^ l.length * 16) = (n0 * 16 + 16) * 16 ^ l.length := by
      rw [Int.mul_comm (16 ^ l.length) 16, ← Int.mul_assoc, Int.add_mul n0 1 16, Int.one_mul]
    have e0 : n0 * (16 ^ l.length * 16) = n0 * 16 * 16 ^ l.length := by
      rw [Int.mul_comm (16 ^ l.length) 16, ← Int.mul_assoc]
    have m1 : (n0 * 16 + d + 1) * 16 ^ l.length ≤ (n0 * 16 + 16) * 16 ^ l.length := Int.mul_le_mul_of_nonneg_right (by omega) (by omega)
    have m0 : n0 * 16 * 16 ^ l.length ≤ (n0 * 16 + d) * 16 ^ l.length := Int.mul_le_mul_of_nonneg_right (by omega) (by omega)
    have mb : (n0 * 16 + d + 1) * 1 ≤ (n0 * 16 + d + 1) * 16 ^ l.length := Int.mul_le_mul_of_nonneg_left hp (by omega)
    rw [e1] at hb ⊢
    rw [e0]
    rw [U_small (n0 * 16) (by omega) (by omega), U_small (n0 * 16 + d) (by omega) (by omega)] at h
    obtain ⟨t1, t2, t3⟩ := tail_par l (n0 * 16 + d) n (by omega) (by omega) h
    refine ⟨?_, by omega, by omega⟩
    have hq : n / 16 ^ l.length = n0 * 16 + d := by
      rw [Int.ediv_eq_iff_of_pos (by omega)]
      refine ⟨t2, ?_⟩
      rw [Int.add_mul, Int.one_mul] at t3
      exact t3
    simp only [List.length_cons, hexTail]
    rw [t1, digAt, hq]
    have : (n0 * 16 + d) % 16 = d := by omega
    rw [this, hdb]

theorem hex_par (s : ByteArray) (n : Int) (h : parOf s = (n, 0)) : 0 ≤ n ∧ n < 18446744073709551616 ∧ hexS n = s := by
  unfold parOf at h
  by_cases hs : s.size = 16
  · rw [if_pos hs] at h
    have hl : s.data.toList.length = 16 := by rw [← hs]; rfl
    cases hp : parFold s.data.toList 0 with
    | none => rw [hp] at h; simp at h
    | some m =>
      rw [hp] at h
      simp at h
      subst h
      obtain ⟨t1, t2, t3⟩ := tail_par s.data.toList 0 m (by decide) (by rw [hl]; decide) hp
      rw [hl] at t1 t2 t3
      refine ⟨by omega, by omega, ?_⟩
      unfold hexS
      rw [t1]
  · rw [if_neg hs] at h
    simp at h
end Go.Proofs.YtijchmcajhdcoaaGreatDoor
