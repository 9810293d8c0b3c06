/-
  sum.Parse and the reference's Parse, each by a contract: the number of sixteen digits, or the error 9.
-/
import Derived.Test.YtjeklplgjobeeaaDoorHex
import Derived.BigQuiet
namespace Go.Proofs.YtjeklplgjobeeaaDoor
open Go.RowKit

def digitsL : List UInt8 := [48, 49, 50, 51, 52, 53, 54, 55, 56, 57, 97, 98, 99, 100, 101, 102]
/-- The place of a byte among the digits, or -1. -/
def digVal (c : UInt8) : Int := Lib.indexByte digitsL c
theorem indexByte_lt (l : List UInt8) (c : UInt8) : Lib.indexByte l c < l.length := by
  induction l with
  | nil => simp [Lib.indexByte]
  | cons b l ih =>
    simp only [Lib.indexByte, List.length_cons]
    split
    · omega
    · split <;> omega
theorem digVal_range (c : UInt8) : -1 ≤ digVal c ∧ digVal c < 16 := ⟨Lib.indexByte_ge _ _, indexByte_lt digitsL c⟩
theorem digIdx_any (c : UInt8) (w : World) :
    Calls Tryd.prog 50 #[.string { data := #[48, 49, 50, 51, 52, 53, 54, 55, 56, 57, 97, 98, 99, 100, 101, 102] }, .int .u8 (c.toNat : Int)] w fun e w' => e = .returned (.int .i64 (digVal c)) ∧ w' = w := by
  have h := indexByte_any { data := #[48, 49, 50, 51, 52, 53, 54, 55, 56, 57, 97, 98, 99, 100, 101, 102] } (c.toNat : Int) w
  have hc : ((c.toNat : Int)).toNat.toUInt8 = c := by simp
  rw [hc] at h
  exact h

def parFold : List UInt8 → Int → Option Int
  | [], n => some n
  | b :: l, n => if digVal b < 0 then none else parFold l (U (U (n * 16) + digVal b))
theorem parFold_append (l r : List UInt8) : ∀ n, parFold (l ++ r) n = (parFold l n).bind (parFold r) := by
  induction l with
  | nil => intro n; rfl
  | cons b l ih =>
    intro n
    simp only [List.cons_append, parFold]
    split
    · rfl
    · exact ih _
def parOf (s : ByteArray) : Int × Int := if s.size = 16 then (match parFold s.data.toList 0 with | some n => (n, 0) | none => (0, 9)) else (0, 9)

theorem parFold_ok (l : List UInt8) (k : Nat) (hk : k < l.length) (n : Int) (h : parFold (l.take k) 0 = some n) (hd : 0 ≤ digVal l[k]) :
    parFold (l.take (k + 1)) 0 = some (U (U (n * 16) + digVal l[k])) := by
  rw [List.take_add_one, parFold_append, h]
  simp [List.getElem?_eq_getElem hk, parFold, Int.not_lt.2 hd]
theorem parFold_bad (l : List UInt8) (k : Nat) (hk : k < l.length) (n : Int) (h : parFold (l.take k) 0 = some n) (hd : digVal l[k] < 0) :
    parFold l 0 = none := by
  have e : l = l.take k ++ (l[k] :: l.drop (k + 1)) := by simp
  rw [e, parFold_append, h]
  simp [parFold, hd]

set_option maxHeartbeats 800000 in
set_option maxRecDepth 100000 in
theorem par_any (s : ByteArray) (w : World) :
    Calls Tryd.prog 41 #[.string s] w fun e w' => e = .returned (.tuple #[.int .u64 (parOf s).1, .int .i64 (parOf s).2]) ∧ w' = w := by
  by_cases hs : s.size = 16
  · have hsz : s.data.toList.length = 16 := by rw [← hs]; rfl
    go_enter Tryd.func41, Tryd.ntmps41
    go_wp2
    go_loop [4, 10] (fun d i => ∃ (k : Nat) (n : Int), k ≤ 16 ∧ i = .int .i64 (k : Int) ∧ d = .int .u64 n ∧ Hid (parFold (s.data.toList.take k) 0 = some n))
      (fun _ i => 16 - (intOf i).toNat)
    case atStart => exact ⟨0, 0, by omega, rfl, rfl, rfl⟩
    case round =>
      obtain ⟨k, n, hk, rfl, rfl, HP⟩ := hrel
      by_cases hlt : k < 16
      · have hk2 : k < s.size := by omega
        have hr := digVal_range s[k]
        have hl : s.data.toList[k] = s[k] := rfl
        have HL : Hid (_ = _) := hl
        clear hl
        go_wp2_with (go_at_call 50; refine (digIdx_any _ _).mono ?_; rintro e w' ⟨rfl, rfl⟩)
        · go_ret2
          refine ⟨?_, rfl⟩
          have hbad : digVal s[k] < 0 := by assumption
          rw [parOf, if_pos hs, parFold_bad s.data.toList k (by omega) n HP.out (by rw [HL.out]; exact hbad)]
          rfl
        · have hok : 0 ≤ digVal s[k] := by omega
          go_round
          case rel =>
            have := parFold_ok s.data.toList k (by omega) n HP.out (by rw [HL.out]; exact hok)
            rw [HL.out] at this
            refine ⟨k + 1, _, by omega, by go_num, rfl, this⟩
          case measure => simp [intOf]; omega
      · have : k = 16 := by omega
        subst this
        go_wp2
        go_ret2
        refine ⟨?_, rfl⟩
        have := HP.out
        rw [List.take_of_length_le (by omega)] at this
        rw [parOf, if_pos hs, this]
        rfl
  · go_enter Tryd.func41, Tryd.ntmps41
    go_wp2
    go_ret2
    exact ⟨by rw [parOf, if_neg hs]; rfl, rfl⟩

/-- The last of the first k digits that is the byte c, or 16. -/
def refAt (c : UInt8) : Nat → Int
  | 0 => 16
  | k + 1 => if digitOf k = (c.toNat : Int) then (k : Int) else refAt c k
theorem refAt_all (c : UInt8) : refAt c 16 = if digVal c < 0 then 16 else digVal c := by
  have h : ∀ n : Fin 256, refAt (UInt8.ofNat n.1) 16 = if digVal (UInt8.ofNat n.1) < 0 then 16 else digVal (UInt8.ofNat n.1) := by decide +kernel
  have := h ⟨c.toNat, c.toNat_lt⟩
  simpa using this

set_option maxHeartbeats 1000000 in
set_option maxRecDepth 100000 in
theorem rpar_any (s : ByteArray) (w : World) :
    Calls Tryd.prog 17 #[.string s] w fun e w' => e = .returned (.tuple #[.int .u64 (parOf s).1, .int .i64 (parOf s).2]) ∧ ∃ m, w' = w.drewN m := by
  by_cases hs : s.size = 16
  · have hsz : s.data.toList.length = 16 := by rw [← hs]; rfl
    go_enter Tryd.func17, Tryd.ntmps17
    go_wp2
    go_loopg [4, 5] 17 (fun g d i wr => ∃ (k : Nat) (n : Int), k + g = 17 ∧ k ≤ 16 ∧ i = .int .i64 (k : Int) ∧ d = .int .u64 n ∧ Hid (parFold (s.data.toList.take k) 0 = some n) ∧ Hid (∃ m, wr = w.drewN m))
    case atStart => exact ⟨0, 0, by omega, by omega, rfl, rfl, rfl, 0, rfl⟩
    case round =>
      obtain ⟨k, n, hg, hk, rfl, rfl, HP, HW⟩ := hrel
      have hgk : ∃ g0, g0 = gk := ⟨_, rfl⟩
      obtain ⟨g0, hg0⟩ := hgk
      have HG : Hid (g0 = gk ∧ k + g0 = 17) := ⟨hg0, by omega⟩
      clear hg0
      by_cases hlt : k < 16
      · have hk2 : k < s.size := by omega
        have hl : s.data.toList[k] = s[k] := rfl
        have HL : Hid (_ = _) := hl
        clear hl
        go_wp2
        go_loopg [6, 7] 17 (fun g a i wr => ∃ (j : Nat), j + g = 17 ∧ j ≤ 16 ∧ i = .int .u64 (j : Int) ∧ a = .int .u64 (refAt s[k] j) ∧ Hid (∃ m, wr = w.drewN m))
        case atStart => exact ⟨0, by omega, by omega, rfl, rfl, HW⟩
        case round =>
          obtain ⟨j, hg2, hj, rfl, rfl, HW2⟩ := hrel
          by_cases hlt2 : j < 16
          · have hj0 : (0 : Int) ≤ (j : Int) := by omega
            have hj1 : (j : Int) < 16 := by omega
            go_wp2
            go_quiet (first | (go_at_call 31; exact Calls.quiet_of_same (digit_any (j : Int) hj0 hj1 _)))
            go_wp2
            · have heq : (digitOf (j : Int) == (s[k].toNat : Int)) = true := by assumption
              have hv : refAt s[k] (j + 1) = (j : Int) := by rw [refAt, if_pos (by simpa using heq)]
              go_roundg (gk - 1)
              case measure => omega
              case rel =>
                refine ⟨j + 1, by omega, by omega, by go_num, by rw [hv], ?_⟩
                obtain ⟨m, hm⟩ := HW2.out
                exact ⟨_, by rw [hm, World.drewN_drewN]⟩
            · have hne : (digitOf (j : Int) == (s[k].toNat : Int)) = false := by assumption
              have hv : refAt s[k] (j + 1) = refAt s[k] j := by rw [refAt, if_neg (by simpa using hne)]
              go_roundg (gk - 1)
              case measure => omega
              case rel =>
                refine ⟨j + 1, by omega, by omega, by go_num, by rw [hv], ?_⟩
                obtain ⟨m, hm⟩ := HW2.out
                exact ⟨_, by rw [hm, World.drewN_drewN]⟩
          · have : j = 16 := by omega
            subst this
            have hv := refAt_all s[k]
            have hr := digVal_range s[k]
            by_cases hneg : digVal s[k] < 0
            · rw [if_pos hneg] at hv
              go_wp2
              go_ret2
              refine ⟨?_, HW2.out⟩
              rw [parOf, if_pos hs, parFold_bad s.data.toList k (by omega) n HP.out (by rw [HL.out]; exact hneg)]
              rfl
            · rw [if_neg hneg] at hv
              have hn16 : (digVal s[k] == 16) = false := by simp; omega
              go_wp2
              go_roundg (g0 - 1)
              case measure => have := HG.out; omega
              case rel =>
                have hgo := HG.out
                have := parFold_ok s.data.toList k (by omega) n HP.out (by rw [HL.out]; omega)
                rw [HL.out] at this
                exact ⟨k + 1, _, by omega, by omega, by go_num, rfl, this, HW2⟩
      · have : k = 16 := by omega
        subst this
        go_wp2
        go_ret2
        refine ⟨?_, HW.out⟩
        have := HP.out
        rw [List.take_of_length_le (by omega)] at this
        rw [parOf, if_pos hs, this]
        rfl
  · go_enter Tryd.func17, Tryd.ntmps17
    go_wp2
    go_ret2
    exact ⟨by rw [parOf, if_neg hs]; rfl, 0, rfl⟩
end Go.Proofs.YtjeklplgjobeeaaDoor
