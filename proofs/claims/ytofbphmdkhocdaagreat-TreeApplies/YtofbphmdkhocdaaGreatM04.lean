/-
  Several texts, laid together.
-/
import Derived.Test.YtofbphmdkhocdaaGreatM00
import Derived.Test.YtofbphmdkhocdaaGreatM03

/-
  Numbers as bytes and back, the highest byte first. No program.
-/
namespace Go.Proofs.YtofbphmdkhocdaaGreat
open Go.RowKit

/-- What bytes tell, the highest first. -/
def val (bs : Bs) : Nat := bs.foldl (fun v b => v * 256 + b.toNat) 0

theorem val_add (a b : Bs) : val (a ++ b) = val a * 256 ^ b.length + val b := by
  have key : ∀ (b : Bs) (v : Nat), b.foldl (fun v b => v * 256 + b.toNat) v = v * 256 ^ b.length + val b := by
    intro b
    induction b with
    | nil => intro v; simp [val]
    | cons x t ih =>
      intro v
      have e : val (x :: t) = x.toNat * 256 ^ t.length + val t := by
        show List.foldl _ (0 * 256 + x.toNat) t = _
        rw [ih, Nat.zero_mul, Nat.zero_add]
      rw [List.foldl_cons, ih, e, List.length_cons, Nat.pow_succ, Nat.add_mul, Nat.mul_assoc v, Nat.mul_comm 256, Nat.add_assoc]
  unfold val
  rw [List.foldl_append, key]
  rfl

theorem val_lt (a : Bs) : val a < 256 ^ a.length := by
  induction a with
  | nil => decide
  | cons x t ih =>
    have e : val (x :: t) = x.toNat * 256 ^ t.length + val t := by
      have := val_add [x] t
      rw [show [x] ++ t = x :: t from rfl] at this
      rw [this]
      simp [val]
    have hx := x.toNat_lt
    rw [e, List.length_cons, Nat.pow_succ, Nat.mul_comm _ 256]
    have : x.toNat * 256 ^ t.length ≤ 255 * 256 ^ t.length := Nat.mul_le_mul_right _ (by omega)
    omega

theorem val_take (l : Bs) (i : Nat) (hi : i < l.length) : val (l.take (i + 1)) = val (l.take i) * 256 + l[i].toNat := by
  rw [List.take_add_one, List.getElem?_eq_getElem hi]
  show val (_ ++ [l[i]]) = _
  rw [val_add]
  simp [val]

theorem val_snoc (l : Bs) (x : UInt8) : val (l ++ [x]) = val l * 256 + x.toNat := by
  rw [val_add]
  simp [val]

theorem val_8 {l : Bs} (h : l.length ≤ 8) : val l < 18446744073709551616 := by
  have h1 := val_lt l
  have h2 := Nat.pow_le_pow_right (n := 256) (by decide) h
  have e : 256 ^ 8 = 18446744073709551616 := by decide
  omega
theorem val_1 {l : Bs} (h : l.length ≤ 1) : val l ≤ 255 := by
  have h1 := val_lt l
  have h2 := Nat.pow_le_pow_right (n := 256) (by decide) h
  have e : 256 ^ 1 = 256 := by decide
  omega

/-- The last n bytes of a number. -/
def low : Nat → Nat → Bs
  | 0, _ => []
  | k + 1, n => low k (n / 256) ++ [UInt8.ofNat n]

theorem low_len : ∀ k n, (low k n).length = k
  | 0, _ => rfl
  | k + 1, n => by simp [low, low_len k]

theorem val_low : ∀ k n, val (low k n) = n % 256 ^ k
  | 0, n => by simp [low, val, Nat.mod_one]
  | k + 1, n => by
    rw [low, val_snoc, val_low k, Nat.pow_succ, Nat.mul_comm (256 ^ k), Nat.mod_mul, UInt8.toNat_ofNat']
    omega

theorem low_val (l : Bs) : low l.length (val l) = l := by
  have key : ∀ n (l : Bs), l.length = n → low n (val l) = l := by
    intro n
    induction n with
    | zero => intro l h; rw [List.eq_nil_of_length_eq_zero h]; rfl
    | succ n ih =>
      intro l h
      have hne : l ≠ [] := by intro e; rw [e] at h; simp at h
      obtain ⟨t, x, rfl⟩ : ∃ t x, l = t ++ [x] := ⟨l.dropLast, l.getLast hne, (List.dropLast_concat_getLast hne).symm⟩
      have hx := x.toNat_lt
      rw [val_snoc, low, show (val t * 256 + x.toNat) / 256 = val t by omega, ih t (by simpa using h)]
      congr 2
      apply UInt8.toNat_inj.1
      rw [UInt8.toNat_ofNat']
      omega
  exact key _ l rfl

/-- Eight bytes. -/
def b8 (x : UInt64) : Bs := low 8 x.toNat
theorem b8_len (x : UInt64) : (b8 x).length = 8 := low_len _ _
theorem val_b8 (x : UInt64) : val (b8 x) = x.toNat := by
  rw [b8, val_low]
  have := x.toNat_lt
  exact Nat.mod_eq_of_lt (by have e : 256 ^ 8 = 2 ^ 64 := by decide
                             omega)
theorem toNat_val {l : Bs} (h : l.length ≤ 8) : (UInt64.ofNat (val l)).toNat = val l := by
  have := val_8 h
  rw [UInt64.toNat_ofNat']
  omega
theorem b8_val {l : Bs} (h : l.length = 8) : b8 (UInt64.ofNat (val l)) = l := by
  rw [b8, toNat_val (by omega)]
  have := low_val l
  rw [h] at this
  exact this
theorem ofNat_b8 (x : UInt64) : UInt64.ofNat (val (b8 x)) = x := by
  rw [val_b8]
  simp

end Go.Proofs.YtofbphmdkhocdaaGreat

/-
  The reference's Number and Value (forebearref07), each by a contract. No condition but that each number fits its kind.
-/
namespace Go.Proofs.YtofbphmdkhocdaaGreat
open Go.RowKit

set_option maxHeartbeats 1600000 in
set_option maxRecDepth 100000 in
/-- The reference's Number. -/
theorem rnumber_any (n k : Nat) (hn : n < 18446744073709551616) (hk : k ≤ 8) (w : World) :
    Calls Tryz.prog 66 #[.int .u64 (n : Int), .int .i64 (k : Int)] w fun e w' => e = .returned (tx (low k n)) ∧ Below w.heap.size w w' := by
  go_enter Tryz.func66, Tryz.ntmps66
  go_wp2_with fail
  go_loopg [0, 5, 6] k (fun m nv sv iv wr => ∃ (i p : Nat) (s : ByteArray), iv = .int .i64 i ∧ i + m = k ∧ nv = .int .u64 (p : Int) ∧ sv = .string s ∧ p < 18446744073709551616 ∧ Hid (∃ t : Bs, s = ⟨t.toArray⟩ ∧ t.length = i ∧ low k n = low m p ++ t ∧ Below w.heap.size w wr))
  case atStart => exact ⟨0, n, _, rfl, by omega, rfl, rfl, hn, [], rfl, rfl, by simp, Below.refl _ _⟩
  case round =>
    obtain ⟨i, p, s, rfl, hi, rfl, rfl, hp, HR⟩ := hrel
    by_cases hin : i < k
    · have id : (i : Int) < (k : Int) := by omega
      have hcv := conv_str (bat_lit wr [UInt8.ofNat p] 5 (0, 0) #[.int .u8 ((p : Int) % 256)] (by simp [UInt8.toNat_ofNat']) 1 rfl (by simp))
      obtain ⟨z, hz⟩ : ∃ z : ByteArray, z = ⟨[UInt8.ofNat p].toArray⟩ := ⟨_, rfl⟩
      rw [show tx [UInt8.ofNat p] = Value.string z by rw [hz]] at hcv
      have hsz : ¬ (9223372036854775807 < z.size + s.size) := by
        obtain ⟨t, e1, e2, _⟩ := HR.out
        rw [hz, e1]
        show ¬ (9223372036854775807 < 1 + t.toArray.size)
        simp only [List.size_toArray]
        omega
      have HZ : Hid (z = ⟨[UInt8.ofNat p].toArray⟩) := hz
      clear hz
      go_wp2
      go_roundg (gk - 1)
      case measure => omega
      case rel =>
        obtain ⟨t, e1, e2, e3, e4⟩ := HR.out
        refine ⟨i + 1, p / 256, z ++ s, by go_num, by omega, by go_num, rfl, by omega, UInt8.ofNat p :: t, ?_, by simp [e2], ?_, e4.trans ((bz1 wr _).mono e4.size)⟩
        · rw [HZ.out, e1]
          rfl
        · obtain ⟨g, rfl⟩ : ∃ g, gk = g + 1 := ⟨gk - 1, by omega⟩
          rw [e3, Nat.add_sub_cancel]
          simp [low]
    · obtain rfl : i = k := by omega
      obtain ⟨t, e1, e2, e3, e4⟩ := HR.out
      have hg : gk = 0 := by omega
      rw [hg] at e3
      have e5 : low i n = t := by rw [e3]; rfl
      have HH : Hid (s = ⟨(low i n).toArray⟩ ∧ Below w.heap.size w wr) := ⟨by rw [e5]; exact e1, e4⟩
      clear e1 e2 e3 e4 e5 hg
      go_wp2
      go_ret
      exact ⟨by rw [HH.out.1]; rfl, HH.out.2⟩

end Go.Proofs.YtofbphmdkhocdaaGreat
