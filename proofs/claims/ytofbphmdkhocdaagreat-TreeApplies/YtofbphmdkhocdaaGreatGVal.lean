/-
  Numbers as bytes and back, the highest byte first. No program.
-/
import Derived.Test.YtofbphmdkhocdaaGreatPWords
namespace Go.Proofs.YtofbphmdkhocdaaGreat
open Go.RowKit

/-- What bytes tell, the highest first. -/
def val (bs : Bs) : Nat := bs.foldl (fun v b => v * 256 + b.toNat) 0

theorem val_add (a b : Bs) : val (a ++ b) = val a * 256 ^ b.length + val b := by
  have key : ∀ (b : Bs) (v : Nat), b.foldl (fun v b => v * 256 + b.toNat) v = v * 256 ^ b.length + val b := by
    intro b
    induction b with
    | nil => intro v; simp [val]
    | cons x t ih =>
      intro v
      have e : val (x :: t) = x.toNat * 256 ^ t.length + val t := by
        show List.foldl _ (0 * 256 + x.toNat) t = _
        rw [ih, Nat.zero_mul, Nat.zero_add]
      rw [List.foldl_cons, ih, e, List.length_cons, Nat.pow_succ, Nat.add_mul, Nat.mul_assoc v, Nat.mul_comm 256, Nat.add_assoc]
  unfold val
  rw [List.foldl_append, key]
  rfl

theorem val_lt (a : Bs) : val a < 256 ^ a.length := by
  induction a with
  | nil => decide
  | cons x t ih =>
    have e : val (x :: t) = x.toNat * 256 ^ t.length + val t := by
      have := val_add [x] t
      rw [show [x] ++ t = x :: t from rfl] at this
      rw [this]
      simp [val]
    have hx := x.toNat_lt
    rw [e, List.length_cons, Nat.pow_succ, Nat.mul_comm _ 256]
    have : x.toNat * 256 ^ t.length ≤ 255 * 256 ^ t.length := Nat.mul_le_mul_right _ (by omega)
    omega

theorem val_take (l : Bs) (i : Nat) (hi : i < l.length) : val (l.take (i + 1)) = val (l.take i) * 256 + l[i].toNat := by
  rw [List.take_add_one, List.getElem?_eq_getElem hi]
  show val (_ ++ [l[i]]) = _
  rw [val_add]
  simp [val]

theorem val_snoc (l : Bs) (x : UInt8) : val (l ++ [x]) = val l * 256 + x.toNat := by
  rw [val_add]
  simp [val]

theorem val_8 {l : Bs} (h : l.length ≤ 8) : val l < 18446744073709551616 := by
  have h1 := val_lt l
  have h2 := Nat.pow_le_pow_right (n := 256) (by decide) h
  have e : 256 ^ 8 = 18446744073709551616 := by decide
  omega
theorem val_1 {l : Bs} (h : l.length ≤ 1) : val l ≤ 255 := by
  have h1 := val_lt l
  have h2 := Nat.pow_le_pow_right (n := 256) (by decide) h
  have e : 256 ^ 1 = 256 := by decide
  omega

/-- The last n bytes of a number. -/
def low : Nat → Nat → Bs
  | 0, _ => []
  | k + 1, n => low k (n / 256) ++ [UInt8.ofNat n]

theorem low_len : ∀ k n, (low k n).length = k
  | 0, _ => rfl
  | k + 1, n => by simp [low, low_len k]

theorem val_low : ∀ k n, val (low k n) = n % 256 ^ k
  | 0, n => by simp [low, val, Nat.mod_one]
  | k + 1, n => by
    rw [low, val_snoc, val_low k, Nat.pow_succ, Nat.mul_comm (256 ^ k), Nat.mod_mul, UInt8.toNat_ofNat']
    omega

theorem low_val (l : Bs) : low l.length (val l) = l := by
  have key : ∀ n (l : Bs), l.length = n → low n (val l) = l := by
    intro n
    induction n with
    | zero => intro l h; rw [List.eq_nil_of_length_eq_zero h]; rfl
    | succ n ih =>
      intro l h
      have hne : l ≠ [] := by intro e; rw [e] at h; simp at h
      obtain ⟨t, x, rfl⟩ : ∃ t x, l = t ++ [x] := ⟨l.dropLast, l.getLast hne, (List.dropLast_concat_getLast hne).symm⟩
      have hx := x.toNat_lt
      rw [val_snoc, low, show (val t * 256 + x.toNat) / 256 = val t by omega, ih t (by simpa using h)]
      congr 2
      apply UInt8.toNat_inj.1
      rw [UInt8.toNat_ofNat']
      omega
  exact key _ l rfl

/-- Eight bytes. -/
def b8 (x : UInt64) : Bs := low 8 x.toNat
theorem b8_len (x : UInt64) : (b8 x).length = 8 := low_len _ _
theorem val_b8 (x : UInt64) : val (b8 x) = x.toNat := by
  rw [b8, val_low]
  have := x.toNat_lt
  exact Nat.mod_eq_of_lt (by have e : 256 ^ 8 = 2 ^ 64 := by decide
                             omega)
theorem toNat_val {l : Bs} (h : l.length ≤ 8) : (UInt64.ofNat (val l)).toNat = val l := by
  have := val_8 h
  rw [UInt64.toNat_ofNat']
  omega
theorem b8_val {l : Bs} (h : l.length = 8) : b8 (UInt64.ofNat (val l)) = l := by
  rw [b8, toNat_val (by omega)]
  have := low_val l
  rw [h] at this
  exact this
theorem ofNat_b8 (x : UInt64) : UInt64.ofNat (val (b8 x)) = x := by
  rw [val_b8]
  simp

end Go.Proofs.YtofbphmdkhocdaaGreat
