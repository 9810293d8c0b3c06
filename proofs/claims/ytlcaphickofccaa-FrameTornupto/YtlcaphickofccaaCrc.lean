/-
  The check sum of bytes, by one number; sum.Check and the reference's Check tell it; bytes that differ in one place have different check sums. No condition.
-/
import Derived.Test.YtlcaphickofccaaWord
namespace Go.Proofs.Ytlcaphickofccaa
open Go.RowKit

def ints (bs : Bs) : List Int := bs.map (fun b => (b.toNat : Int))

theorem ints_get {bs : Bs} {j : Nat} (hj : j < bs.length) : (ints bs).getD j 0 = (bs[j].toNat : Int) := by
  simp [ints, List.getD, List.getElem?_eq_getElem hj]

theorem BAt.bytes {w : World} {v : Value} {bs : Bs} (h : BAt w v bs) : BytesAt w v (ints bs) := by
  obtain ⟨ao, c, rfl, h1, h2, h3⟩ := h
  refine ⟨ao, c, by simp [ints], by simp [ints]; omega, ?_⟩
  by_cases h0 : 0 < bs.length
  · obtain ⟨b, off, rfl, hlt, hc⟩ := h3 h0
    refine .inr ⟨b, off, rfl, fun j hj => ?_⟩
    have hj' : j < bs.length := by simpa [ints] using hj
    rw [ints_get hj']
    have := hc j bs[j] (List.getElem?_eq_getElem hj') 0 _ rfl
    rw [show off + (j * encB.size + 0) = off + j from (by show off + (j * 1 + 0) = off + j; omega)] at this
    exact this
  · obtain rfl : bs = [] := List.eq_nil_of_length_eq_zero (by omega)
    exact .inl rfl

theorem PartsB.parts {w : World} {v : Value} {xss : List Bs} (h : PartsB w v xss) (hl : xss.length ≤ 1000000) : PartsAt w v (xss.map ints) := by
  obtain ⟨ao, c, rfl, h1, h2⟩ := h
  refine ⟨ao, c, by simp, by simp; omega, ?_⟩
  by_cases h0 : 0 < xss.length
  · obtain ⟨b, off, rfl, hlt⟩ := h1 h0
    refine .inr ⟨b, off, rfl, fun j hj => ?_⟩
    have hj' : j < xss.length := by simpa using hj
    obtain ⟨u, hu, hb⟩ := h2 j xss[j] b off (List.getElem?_eq_getElem hj') rfl
    refine ⟨u, hu, ?_⟩
    have e : (xss.map ints).getD j [] = ints xss[j] := by simp [List.getD, List.getElem?_eq_getElem hj']
    rw [e]
    exact hb.bytes
  · obtain rfl : xss = [] := List.eq_nil_of_length_eq_zero (by omega)
    exact .inl rfl

theorem folds_flat (xss : List Bs) : ∀ h, chkFolds h (xss.map ints) = chkFold h (ints xss.flatten) := by
  induction xss with
  | nil => intro h; rfl
  | cons x t ih =>
    intro h
    show chkFolds (chkFold h (ints x)) (t.map ints) = _
    rw [ih]
    simp [chkFold, ints, List.foldl_append]

/-- The check sum of bytes. -/
def crc (bs : Bs) : Nat := (4294967295 - chkFold 4294967295 (ints bs)).toNat
theorem crc_eq (bs : Bs) : 4294967295 - chkFold 4294967295 (ints bs) = (crc bs : Int) := by
  have := chkFold_range (ints bs) 4294967295 (by decide) (by decide)
  unfold crc
  omega
theorem crc_lt (bs : Bs) : crc bs < 4294967296 := by
  have := chkFold_range (ints bs) 4294967295 (by decide) (by decide)
  unfold crc
  omega

theorem check_any {v : Value} {xss : List Bs} (w : World) (h : PartsB w v xss) (hl : xss.length ≤ 1000000) :
    Calls Try.prog 18 #[v] w fun e w' => e = .returned (.int .u32 (crc xss.flatten : Int)) ∧ w' = w := by
  have := chk_any v _ w (h.parts hl)
  rw [folds_flat, crc_eq] at this
  exact this

theorem rcheck_any {v : Value} {bs : Bs} (w : World) (h : BAt w v bs) :
    Calls Try.prog 20 #[v] w fun e w' => e = .returned (.int .u32 (crc bs : Int)) ∧ w' = w := by
  have := rchk_any v _ w h.bytes
  rw [crc_eq] at this
  exact this

theorem x32_nat (a b : Nat) (ha : a < 4294967296) (hb : b < 4294967296) : X32 (a : Int) (b : Int) = ((a ^^^ b : Nat) : Int) := by
  show bits BinOp.xor IntKind.u32 (a : Int) (b : Int) = _
  rw [u32_xor_nat _ _ ha hb]

theorem xor_inj {a b p : Nat} (h : a ^^^ p = b ^^^ p) : a = b := by
  have := congrArg (· ^^^ p) h
  simpa [Nat.xor_assoc] using this

theorem xor_high {a : Nat} (ha : a < 2147483648) : 2147483648 ≤ a ^^^ 3988292384 := by
  have h1 : (a ^^^ 3988292384).testBit 31 = true := by
    rw [Nat.testBit_xor]
    have : a.testBit 31 = false := Nat.testBit_lt_two_pow (by omega)
    rw [this]
    decide
  exact Nat.ge_two_pow_of_testBit h1

theorem crcBit_inj {c d : Int} (c0 : 0 ≤ c) (c1 : c < 4294967296) (d0 : 0 ≤ d) (d1 : d < 4294967296) (h : crcBit c = crcBit d) : c = d := by
  obtain ⟨x, rfl⟩ := Int.eq_ofNat_of_zero_le c0
  obtain ⟨y, rfl⟩ := Int.eq_ofNat_of_zero_le d0
  have key : ∀ z : Nat, z < 4294967296 → crcBit (z : Int) = if z % 2 = 1 then (((z / 2) ^^^ 3988292384 : Nat) : Int) else ((z / 2 : Nat) : Int) := by
    intro z hz
    unfold crcBit
    by_cases q : z % 2 = 1
    · rw [if_pos (by omega), if_pos q]
      have e : (z : Int) / 2 = ((z / 2 : Nat) : Int) := by omega
      have e2 : (3988292384 : Int) = ((3988292384 : Nat) : Int) := rfl
      rw [e, e2, x32_nat _ _ (by omega) (by decide)]
    · rw [if_neg (by omega), if_neg q]
      omega
  rw [key x (by omega), key y (by omega)] at h
  have hx := xor_high (a := x / 2) (by omega)
  have hy := xor_high (a := y / 2) (by omega)
  by_cases qx : x % 2 = 1
  · by_cases qy : y % 2 = 1
    · rw [if_pos qx, if_pos qy] at h
      have := xor_inj (Int.ofNat.inj h)
      omega
    · rw [if_pos qx, if_neg qy] at h
      have h' : x / 2 ^^^ 3988292384 = y / 2 := Int.ofNat.inj h
      omega
  · by_cases qy : y % 2 = 1
    · rw [if_neg qx, if_pos qy] at h
      have h' : x / 2 = y / 2 ^^^ 3988292384 := Int.ofNat.inj h
      omega
    · rw [if_neg qx, if_neg qy] at h
      omega

theorem crcBits_inj (n : Nat) {c d : Int} (c0 : 0 ≤ c) (c1 : c < 4294967296) (d0 : 0 ≤ d) (d1 : d < 4294967296) (h : crcBits n c = crcBits n d) : c = d := by
  induction n with
  | zero => exact h
  | succ n ih =>
    have rc := crcBits_range n c c0 c1
    have rd := crcBits_range n d d0 d1
    exact ih (crcBit_inj rc.1 rc.2 rd.1 rd.2 h)

theorem step_inj {c d : Int} (b : UInt8) (c0 : 0 ≤ c) (c1 : c < 4294967296) (d0 : 0 ≤ d) (d1 : d < 4294967296) (h : chkStep c (b.toNat : Int) = chkStep d (b.toNat : Int)) : c = d := by
  have hb := b.toNat_lt
  have h1 := crcBits_inj 8 (X32_range c _).1 (X32_range c _).2 (X32_range d _).1 (X32_range d _).2 h
  obtain ⟨x, rfl⟩ := Int.eq_ofNat_of_zero_le c0
  obtain ⟨y, rfl⟩ := Int.eq_ofNat_of_zero_le d0
  have e : (b.toNat : Int) % 4294967296 = ((b.toNat : Nat) : Int) := by omega
  rw [e, x32_nat _ _ (by omega) (by omega), x32_nat _ _ (by omega) (by omega)] at h1
  rw [xor_inj (Int.ofNat.inj h1)]

theorem step_byte {c : Int} (x y : UInt8) (c0 : 0 ≤ c) (c1 : c < 4294967296) (h : chkStep c (x.toNat : Int) = chkStep c (y.toNat : Int)) : x = y := by
  have hx := x.toNat_lt
  have hy := y.toNat_lt
  have h1 := crcBits_inj 8 (X32_range c _).1 (X32_range c _).2 (X32_range c _).1 (X32_range c _).2 h
  obtain ⟨z, rfl⟩ := Int.eq_ofNat_of_zero_le c0
  have e : (x.toNat : Int) % 4294967296 = ((x.toNat : Nat) : Int) := by omega
  have e' : (y.toNat : Int) % 4294967296 = ((y.toNat : Nat) : Int) := by omega
  rw [e, e', x32_nat _ _ (by omega) (by omega), x32_nat _ _ (by omega) (by omega)] at h1
  have h2 := Int.ofNat.inj h1
  rw [Nat.xor_comm z, Nat.xor_comm z] at h2
  exact UInt8.toNat_inj.1 (xor_inj h2)

theorem fold_inj (l : Bs) : ∀ {c d : Int}, 0 ≤ c → c < 4294967296 → 0 ≤ d → d < 4294967296 → chkFold c (ints l) = chkFold d (ints l) → c = d := by
  induction l with
  | nil => intro c d _ _ _ _ h; exact h
  | cons b t ih =>
    intro c d c0 c1 d0 d1 h
    have h1 : chkFold (chkStep c (b.toNat : Int)) (ints t) = chkFold (chkStep d (b.toNat : Int)) (ints t) := h
    exact step_inj b c0 c1 d0 d1 (ih (chkStep_range _ _).1 (chkStep_range _ _).2 (chkStep_range _ _).1 (chkStep_range _ _).2 h1)

/-- Bytes that differ in one place have different check sums. -/
theorem crc_one {a t : Bs} {x y : UInt8} (h : crc (a ++ x :: t) = crc (a ++ y :: t)) : x = y := by
  have h1 : (crc (a ++ x :: t) : Int) = crc (a ++ y :: t) := by rw [h]
  rw [← crc_eq, ← crc_eq] at h1
  have h2 : chkFold 4294967295 (ints (a ++ x :: t)) = chkFold 4294967295 (ints (a ++ y :: t)) := by omega
  have e : ∀ z : UInt8, chkFold 4294967295 (ints (a ++ z :: t)) = chkFold (chkStep (chkFold 4294967295 (ints a)) (z.toNat : Int)) (ints t) := by
    intro z
    simp [chkFold, ints, List.foldl_append]
  rw [e, e] at h2
  have r := chkFold_range (ints a) 4294967295 (by decide) (by decide)
  exact step_byte x y r.1 r.2 (fold_inj t (chkStep_range _ _).1 (chkStep_range _ _).2 (chkStep_range _ _).1 (chkStep_range _ _).2 h2)

end Go.Proofs.Ytlcaphickofccaa
