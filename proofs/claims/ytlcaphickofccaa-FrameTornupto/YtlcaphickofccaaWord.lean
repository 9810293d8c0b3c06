/-
  Numbers as four bytes and back: frame.word, frame.number and the reference's Number and Value, each by a contract. No condition but that each number fits its kind.
-/
import Derived.Test.YtlcaphickofccaaGBytes
import Derived.Test.YtlcaphickofccaaChk
namespace Go.Proofs.Ytlcaphickofccaa
open Go.RowKit

/-- Four bytes, the highest first. -/
def b4 (n : Nat) : Bs := [UInt8.ofNat (n / 16777216), UInt8.ofNat (n / 65536), UInt8.ofNat (n / 256), UInt8.ofNat n]
/-- What bytes tell, the highest first. -/
def val (bs : Bs) : Nat := bs.foldl (fun v b => v * 256 + b.toNat) 0

theorem b4_len (n : Nat) : (b4 n).length = 4 := rfl

set_option maxHeartbeats 800000 in
theorem word_any (n : Nat) (hn : n < 4294967296) (w : World) :
    Calls Try.prog 16 #[.int .u32 (n : Int)] w fun e w' => e = .returned (.slice (some ⟨w.heap.size, 0, none⟩) 4 4) ∧ w' = w.alloc (.cells ((b4 n).map (fun x => Value.int .u8 (x.toNat : Int))).toArray 5) := by
  go_enter Try.func16, Try.ntmps16
  go_wp2
  go_ret
  refine ⟨rfl, ?_⟩
  have e0 : (UInt8.ofNat (n / 16777216)).toNat = n / 16777216 := by rw [UInt8.toNat_ofNat']; omega
  have e1 : (UInt8.ofNat (n / 65536)).toNat = n / 65536 % 256 := UInt8.toNat_ofNat'
  have e2 : (UInt8.ofNat (n / 256)).toNat = n / 256 % 256 := UInt8.toNat_ofNat'
  have e3 : (UInt8.ofNat n).toNat = n % 256 := UInt8.toNat_ofNat'
  simp [b4, e0, e1, e2, e3]

theorem or_u32 (a b : Nat) (ha : a < 4294967296) (hb : b < 4294967296) : bits BinOp.or IntKind.u32 (a : Int) (b : Int) = ((a ||| b : Nat) : Int) := by
  have hx : a ||| b < 2 ^ 32 := Nat.or_lt_two_pow ha hb
  have h1 : (BitVec.ofInt 32 (a : Int)).toNat = a := by
    rw [BitVec.ofInt_natCast, BitVec.toNat_ofNat]; exact Nat.mod_eq_of_lt (by omega)
  have h2 : (BitVec.ofInt 32 (b : Int)).toNat = b := by
    rw [BitVec.ofInt_natCast, BitVec.toNat_ofNat]; exact Nat.mod_eq_of_lt (by omega)
  show IntKind.u32.wrap ((BitVec.ofInt 32 (a : Int) ||| BitVec.ofInt 32 (b : Int)).toNat : Int) = _
  rw [BitVec.toNat_or, h1, h2, IntKind.wrap_u32]
  omega

theorem val4 (b0 b1 b2 b3 : UInt8) : val [b0, b1, b2, b3] = ((b0.toNat * 256 + b1.toNat) * 256 + b2.toNat) * 256 + b3.toNat := by
  simp [val]

theorem or_bytes (b0 b1 b2 b3 : UInt8) : bits BinOp.or IntKind.u32 (bits BinOp.or IntKind.u32 (bits BinOp.or IntKind.u32 ((b0.toNat : Int) % 4294967296 * 16777216 % 4294967296) ((b1.toNat : Int) % 4294967296 * 65536 % 4294967296)) ((b2.toNat : Int) % 4294967296 * 256 % 4294967296)) ((b3.toNat : Int) % 4294967296) = (val [b0, b1, b2, b3] : Int) := by
  have l0 := b0.toNat_lt
  have l1 := b1.toNat_lt
  have l2 := b2.toNat_lt
  have l3 := b3.toNat_lt
  have c0 : (b0.toNat : Int) % 4294967296 * 16777216 % 4294967296 = ((2 ^ 24 * b0.toNat : Nat) : Int) := by omega
  have c1 : (b1.toNat : Int) % 4294967296 * 65536 % 4294967296 = ((b1.toNat * 65536 : Nat) : Int) := by omega
  have c2 : (b2.toNat : Int) % 4294967296 * 256 % 4294967296 = ((b2.toNat * 256 : Nat) : Int) := by omega
  have c3 : (b3.toNat : Int) % 4294967296 = ((b3.toNat : Nat) : Int) := by omega
  rw [c0, c1, c2, c3, or_u32 _ _ (by omega) (by omega), ← Nat.two_pow_add_eq_or_of_lt (by omega) _]
  have e1 : 2 ^ 24 * b0.toNat + b1.toNat * 65536 = 2 ^ 16 * (b0.toNat * 256 + b1.toNat) := by omega
  rw [e1, or_u32 _ _ (by omega) (by omega), ← Nat.two_pow_add_eq_or_of_lt (by omega) _]
  have e2 : 2 ^ 16 * (b0.toNat * 256 + b1.toNat) + b2.toNat * 256 = 2 ^ 8 * ((b0.toNat * 256 + b1.toNat) * 256 + b2.toNat) := by omega
  rw [e2, or_u32 _ _ (by omega) (by omega), ← Nat.two_pow_add_eq_or_of_lt (by omega) _, val4]
  omega

set_option maxHeartbeats 1600000 in
theorem number_any {v : Value} {b0 b1 b2 b3 : UInt8} {rest : Bs} (w : World) (h : BAt w v (b0 :: b1 :: b2 :: b3 :: rest)) :
    Calls Try.prog 21 #[v] w fun e w' => e = .returned (.int .u32 (val [b0, b1, b2, b3] : Int)) ∧ ∃ q, w' = w.drewN q := by
  obtain ⟨ao, c, rfl, h1, h2, h3⟩ := h
  obtain ⟨b, off, rfl, hlt, hc⟩ := h3 (by simp)
  have c0 : w.cell? ⟨b, off, none⟩ = some (.int .u8 (b0.toNat : Int)) := by simpa [encB] using hc 0 b0 rfl 0 _ rfl
  have c1 : w.cell? ⟨b, off + 1, none⟩ = some (.int .u8 (b1.toNat : Int)) := by simpa [encB] using hc 1 b1 rfl 0 _ rfl
  have c2 : w.cell? ⟨b, off + 2, none⟩ = some (.int .u8 (b2.toNat : Int)) := by simpa [encB] using hc 2 b2 rfl 0 _ rfl
  have c3 : w.cell? ⟨b, off + 3, none⟩ = some (.int .u8 (b3.toNat : Int)) := by simpa [encB] using hc 3 b3 rfl 0 _ rfl
  obtain ⟨n, hn⟩ : ∃ n, (b0 :: b1 :: b2 :: b3 :: rest).length = n := ⟨_, rfl⟩
  have hn4 : 4 ≤ n := by rw [← hn]; simp
  rw [hn] at h1 ⊢
  clear hc h3 hn
  go_enter Try.func21, Try.ntmps21
  go_wp2_with fail
  go_quiet (fail)
  go_wp2
  go_ret
  exact ⟨by rw [← or_bytes]; rfl, _, rfl⟩

theorem val_add (a b : Bs) : val (a ++ b) = val a * 256 ^ b.length + val b := by
  have key : ∀ (b : Bs) (v : Nat), b.foldl (fun v b => v * 256 + b.toNat) v = v * 256 ^ b.length + val b := by
    intro b
    induction b with
    | nil => intro v; simp [val]
    | cons x t ih =>
      intro v
      have e : val (x :: t) = x.toNat * 256 ^ t.length + val t := by
        show List.foldl _ (0 * 256 + x.toNat) t = _
        rw [ih, Nat.zero_mul, Nat.zero_add]
      rw [List.foldl_cons, ih, e, List.length_cons, Nat.pow_succ, Nat.add_mul, Nat.mul_assoc v, Nat.mul_comm 256, Nat.add_assoc]
  unfold val
  rw [List.foldl_append, key]
  rfl

theorem val_lt (a : Bs) : val a < 256 ^ a.length := by
  induction a with
  | nil => decide
  | cons x t ih =>
    have e : val (x :: t) = x.toNat * 256 ^ t.length + val t := by
      have := val_add [x] t
      rw [show [x] ++ t = x :: t from rfl] at this
      rw [this]
      simp [val]
    have hx := x.toNat_lt
    rw [e, List.length_cons, Nat.pow_succ, Nat.mul_comm _ 256]
    have : x.toNat * 256 ^ t.length ≤ 255 * 256 ^ t.length := Nat.mul_le_mul_right _ (by omega)
    omega

theorem val_b4 {n : Nat} (h : n < 4294967296) : val (b4 n) = n := by
  have e0 : (UInt8.ofNat (n / 16777216)).toNat = n / 16777216 := by rw [UInt8.toNat_ofNat']; omega
  have e1 : (UInt8.ofNat (n / 65536)).toNat = n / 65536 % 256 := UInt8.toNat_ofNat'
  have e2 : (UInt8.ofNat (n / 256)).toNat = n / 256 % 256 := UInt8.toNat_ofNat'
  have e3 : (UInt8.ofNat n).toNat = n % 256 := UInt8.toNat_ofNat'
  show val [_, _, _, _] = _
  rw [val4, e0, e1, e2, e3]
  omega

/-- The last n bytes of a number. -/
def low : Nat → Nat → Bs
  | 0, _ => []
  | k + 1, n => low k (n / 256) ++ [UInt8.ofNat n]
theorem low4 (n : Nat) : low 4 n = b4 n := by
  simp [low, b4, Nat.div_div_eq_div_mul]

set_option maxHeartbeats 1600000 in
set_option maxRecDepth 100000 in
/-- The reference's Number. -/
theorem rnumber_any (n k : Nat) (hn : n < 18446744073709551616) (hk : k ≤ 8) (w : World) :
    Calls Try.prog 19 #[.int .u64 (n : Int), .int .i64 (k : Int)] w fun e w' => e = .returned (tx (low k n)) ∧ Below w.heap.size w w' := by
  go_enter Try.func19, Try.ntmps19
  go_wp2_with fail
  go_loopg [0, 5, 6] k (fun m nv sv iv wr => ∃ (i p : Nat) (s : ByteArray), iv = .int .i64 i ∧ i + m = k ∧ nv = .int .u64 (p : Int) ∧ sv = .string s ∧ p < 18446744073709551616 ∧ Hid (∃ t : Bs, s = ⟨t.toArray⟩ ∧ t.length = i ∧ low k n = low m p ++ t ∧ Below w.heap.size w wr))
  case atStart => exact ⟨0, n, _, rfl, by omega, rfl, rfl, hn, [], rfl, rfl, by simp, Below.refl _ _⟩
  case round =>
    obtain ⟨i, p, s, rfl, hi, rfl, rfl, hp, HR⟩ := hrel
    by_cases hin : i < k
    · have id : (i : Int) < (k : Int) := by omega
      have hcv := conv_str (bat_lit wr [UInt8.ofNat p] 5 (0, 0) #[.int .u8 ((p : Int) % 256)] (by simp [UInt8.toNat_ofNat']) 1 rfl (by simp))
      obtain ⟨z, hz⟩ : ∃ z : ByteArray, z = ⟨[UInt8.ofNat p].toArray⟩ := ⟨_, rfl⟩
      rw [show tx [UInt8.ofNat p] = Value.string z by rw [hz]] at hcv
      have hsz : ¬ (9223372036854775807 < z.size + s.size) := by
        obtain ⟨t, e1, e2, _⟩ := HR.out
        rw [hz, e1]
        show ¬ (9223372036854775807 < 1 + t.toArray.size)
        simp only [List.size_toArray]
        omega
      have HZ : Hid (z = ⟨[UInt8.ofNat p].toArray⟩) := hz
      clear hz
      go_wp2
      go_roundg (gk - 1)
      case measure => omega
      case rel =>
        obtain ⟨t, e1, e2, e3, e4⟩ := HR.out
        refine ⟨i + 1, p / 256, z ++ s, by go_num, by omega, by go_num, rfl, by omega, UInt8.ofNat p :: t, ?_, by simp [e2], ?_, e4.trans ((bz1 wr _).mono e4.size)⟩
        · rw [HZ.out, e1]
          rfl
        · obtain ⟨g, rfl⟩ : ∃ g, gk = g + 1 := ⟨gk - 1, by omega⟩
          rw [e3, Nat.add_sub_cancel]
          simp [low]
    · obtain rfl : i = k := by omega
      obtain ⟨t, e1, e2, e3, e4⟩ := HR.out
      have hg : gk = 0 := by omega
      rw [hg] at e3
      have e5 : low i n = t := by rw [e3]; rfl
      have HH : Hid (s = ⟨(low i n).toArray⟩ ∧ Below w.heap.size w wr) := ⟨by rw [e5]; exact e1, e4⟩
      clear e1 e2 e3 e4 e5 hg
      go_wp2
      go_ret
      exact ⟨by rw [HH.out.1]; rfl, HH.out.2⟩

theorem val_take (l : Bs) (i : Nat) (hi : i < l.length) : val (l.take (i + 1)) = val (l.take i) * 256 + l[i].toNat := by
  rw [List.take_add_one, List.getElem?_eq_getElem hi]
  show val (_ ++ [l[i]]) = _
  rw [val_add]
  simp [val]

set_option maxHeartbeats 1600000 in
set_option maxRecDepth 100000 in
/-- The reference's Value. -/
theorem rvalue_any (s : ByteArray) (hs : s.size ≤ 4) (w : World) :
    Calls Try.prog 23 #[.string s] w fun e w' => e = .returned (.int .u64 (val s.data.toList : Int)) ∧ w' = w := by
  obtain ⟨L, hL⟩ : ∃ L, s.size = L := ⟨_, rfl⟩
  have hLl : s.data.toList.length = L := by rw [← hL]; rfl
  go_enter Try.func23, Try.ntmps23
  go_wp2_with fail
  go_loopg [3, 4] L (fun m vv iv wr => wr = w ∧ ∃ (i v : Nat), iv = .int .i64 i ∧ i + m = L ∧ vv = .int .u64 (v : Int) ∧ v < 16777216 * 256 ∧ Hid (val (s.data.toList.take i) = v))
  case atStart => exact ⟨rfl, 0, 0, rfl, by omega, rfl, by omega, rfl⟩
  case round =>
    obtain ⟨hwr, i, v, rfl, hi, rfl, hv, HR⟩ := hrel
    subst hwr
    by_cases hin : i < L
    · have id : (i : Int) < (L : Int) := by omega
      have hil : i < s.data.toList.length := by omega
      have hvt := val_take s.data.toList i hil
      have hlt := val_lt (s.data.toList.take i)
      rw [HR.out] at hvt hlt
      have hv2 : v < 16777216 := by
        have : (s.data.toList.take i).length ≤ 3 := by rw [List.length_take]; omega
        have := Nat.pow_le_pow_right (n := 256) (by decide) this
        omega
      have hi2 : i < s.size := by omega
      have hb : s.data.toList[i] = s[i] := by simp [ByteArray.getElem_eq_getElem_data]
      rw [hb] at hvt
      obtain ⟨y, hy⟩ : ∃ y, s[i] = y := ⟨_, rfl⟩
      have hyl := y.toNat_lt
      rw [hy] at hvt
      have HV : Hid (val (s.data.toList.take (i + 1)) = v * 256 + y.toNat) := hvt
      clear hvt hlt hb hil
      go_wp2
      go_roundg (gk - 1)
      case measure => omega
      case rel => exact ⟨rfl, i + 1, v * 256 + y.toNat, by go_num, by omega, by go_num, by omega, HV.out⟩
    · obtain rfl : i = L := by omega
      have e : s.data.toList.take i = s.data.toList := List.take_of_length_le (by omega)
      have HH : Hid (val s.data.toList = v) := by rw [← e]; exact HR.out
      clear e
      go_wp2
      go_ret
      exact ⟨by rw [HH.out]; rfl, rfl⟩

end Go.Proofs.Ytlcaphickofccaa
