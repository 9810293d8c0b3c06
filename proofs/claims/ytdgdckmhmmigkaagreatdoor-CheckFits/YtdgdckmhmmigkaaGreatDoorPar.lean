/-
  sum.Parse and the reference's Parse, each by a contract: the number of sixteen digits, or the error 9.
-/
import Derived.Test.YtdgdckmhmmigkaaGreatDoorHex
import Derived.BigQuiet
namespace Go.Proofs.YtdgdckmhmmigkaaGreatDoor
open Go.RowKit

def digitsL : List UInt8 := [48, 49, 50, 51, 52, 53, 54, 55, 56, 57, 97, 98, 99, 100, 101, 102]
/-- The place of a byte among the digits, or -1. -/
def digVal (c : UInt8) : Int := Lib.indexByte digitsL c
theorem indexByte_lt (l : List UInt8) (c : UInt8) : Lib.indexByte l c < l.length := by
  induction l with
  | nil => simp [Lib.indexByte]
  | cons b l ih =>
    simp only [Lib.indexByte, List.length_cons]
    split
    · omega
    · split <;> omega
theorem digVal_range (c : UInt8) : -1 ≤ digVal c ∧ digVal c < 16 := ⟨Lib.indexByte_ge _ _, indexByte_lt digitsL c⟩
theorem digIdx_any (c : UInt8) (w : World) :
    Calls Tryz.prog 72 #[.string { data := #[48, 49, 50, 51, 52, 53, 54, 55, 56, 57, 97, 98, 99, 100, 101, 102] }, .int .u8 (c.toNat : Int)] w fun e w' => e = .returned (.int .i64 (digVal c)) ∧ w' = w := by
  have h := indexByte_any { data := #[48, 49, 50, 51, 52, 53, 54, 55, 56, 57, 97, 98, 99, 100, 101, 102] } (c.toNat : Int) w
  have hc : ((c.toNat : Int)).toNat.toUInt8 = c := by simp
  rw [hc] at h
  exact h

def parFold : List UInt8 → Int → Option Int
  | [], n => some n
  | b :: l, n => if digVal b < 0 then none else parFold l (U (U (n * 16) + digVal b))
theorem parFold_append (l r : List UInt8) : ∀ n, parFold (l ++ r) n = (parFold l n).bind (parFold r) := by
  induction l with
  | nil => intro n; rfl
  | cons b l ih =>
    intro n
    simp only [List.cons_append, parFold]
    split
    · rfl
    · exact ih _
def parOf (s : ByteArray) : Int × Int := if s.size = 16 then (match parFold s.data.toList 0 with | some n => (n, 0) | none => (0, 9)) else (0, 9)

theorem parFold_ok (l : List UInt8) (k : Nat) (hk : k < l.length) (n : Int) (h : parFold (l.take k) 0 = some n) (hd : 0 ≤ digVal l[k]) :
    parFold (l.take (k + 1)) 0 = some (U (U (n * 16) + digVal l[k])) := by
  rw [List.take_add_one, parFold_append, h]
  simp [List.getElem?_eq_getElem hk, parFold, Int.not_lt.2 hd]
theorem parFold_bad (l : List UInt8) (k : Nat) (hk : k < l.length) (n : Int) (h : parFold (l.take k) 0 = some n) (hd : digVal l[k] < 0) :
    parFold l 0 = none := by
  have e : l = l.take k ++ (l[k] :: l.drop (k + 1)) := by simp
  rw [e, parFold_append, h]
  simp [parFold, hd]

set_option maxHeartbeats 800000 in
set_option maxRecDepth 100000 in
theorem par_any (s : ByteArray) (w : World) :
    Calls Tryz.prog 63 #[.string s] w fun e w' => e = .returned (.tuple #[.int .u64 (parOf s).1, .int .i64 (parOf s).2]) ∧ w' = w := by
  by_cases hs : s.size = 16
  · have hsz : s.data.toList.length = 16 := by rw [← hs]; rfl
    go_enter Tryz.func63, Tryz.ntmps63
    go_wp2
    go_loop [4, 10] (fun d i => ∃ (k : Nat) (n : Int), k ≤ 16 ∧ i = .int .i64 (k : Int) ∧ d = .int .u64 n ∧ Hid (parFold (s.data.toList.take k) 0 = some n))
      (fun _ i => 16 - (intOf i).toNat)
    case atStart => exact ⟨0, 0, by omega, rfl, rfl, rfl⟩
    case round =>
      obtain ⟨k, n, hk, rfl, rfl, HP⟩ := hrel
      by_cases hlt : k < 16
      · have hk2 : k < s.size := by omega
        have hr := digVal_range s[k]
        have hl : s.data.toList[k] = s[k] := rfl
        have HL : Hid (_ = _) := hl
        clear hl
        go_wp2_with (go_at_call 72; refine (digIdx_any _ _).mono ?_; rintro e w' ⟨rfl, rfl⟩)
        · go_ret2
          refine ⟨?_, rfl⟩
          have hbad : digVal s[k] < 0 := by assumption
          rw [parOf, if_pos hs, parFold_bad s.data.toList k (by omega) n HP.out (by rw [HL.out]; exact hbad)]
          rfl
        · have hok : 0 ≤ digVal s[k] := by omega
          go_round
          case rel =>
            have := parFold_ok s.data.toList k (by omega) n HP.out (by rw [HL.out]; exact hok)
            rw [HL.out] at this
            refine ⟨k + 1, _, by omega, by go_num, rfl, this⟩
          case measure => simp [intOf]; omega
      · have : k = 16 := by omega
        subst this
        go_wp2
        go_ret2
        refine ⟨?_, rfl⟩
        have := HP.out
        rw [List.take_of_length_le (by omega)] at this
        rw [parOf, if_pos hs, this]
        rfl
  · go_enter Tryz.func63, Tryz.ntmps63
    go_wp2
    go_ret2
    exact ⟨by rw [parOf, if_neg hs]; rfl, rfl⟩

/-- The last of the first k digits that is the byte c, or 16. -/
def refAt (c : UInt8) : Nat → Int
  | 0 => 16
  | k + 1 => if digitOf k = (c.toNat : Int) then (k : Int) else refAt c k
theorem refAt_all (c : UInt8) : refAt c 16 = if digVal c < 0 then 16 else digVal c := by
  have h : ∀ n : Fin 256, refAt (UInt8.ofNat n.1) 16 = if digVal (UInt8.ofNat n.1) < 0 then 16 else digVal (UInt8.ofNat n.1) := by decide +kernel
  have := h ⟨c.toNat, c.toNat_lt⟩
  simpa using this

end Go.Proofs.YtdgdckmhmmigkaaGreatDoor
