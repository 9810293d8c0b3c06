import Derived.Test.YtijchmcajhdcoaaGreatDoorRows
import Derived.WalkKit
import Derived.WalkSpells
import Derived.WalkLawsBesides
import Derived.Lib.Bytealg
import Derived.Laws.IdiomStrings
import Derived.Deep.LoopGhost
import Derived.BigQuiet
/-!
  The small functions of layer 1 and of its reference, each by a contract: Spread, the step of an ID, a digit, strings.IndexByte. No condition but that each integer fits its kind.
-/
namespace Go.Proofs.YtijchmcajhdcoaaGreatDoor
open Go.RowKit

abbrev U (n : Int) : Int := IntKind.u64.wrap n
abbrev X64 (a b : Int) : Int := bits BinOp.xor IntKind.u64 a b
def mixA (z : Int) : Int := U (X64 z (z / 1073741824) * 13787848793156543929)
def mixB (z : Int) : Int := U (X64 z (z / 134217728) * 10723151780598845931)
def mixC (z : Int) : Int := X64 z (z / 2147483648)
def spread (a b : Int) : Int := mixC (mixB (mixA (U (a + U (U (U b + 1) * 11400714819323198485)))))

/-- The step of an ID by one byte. -/
def idStep (a b : Int) : Int := U (X64 a (U b) * 1099511628211)

theorem U_tdiv (z k : Int) (hk : 1 ≤ k) : U ((U z).tdiv k) = U z / k := by
  have h0 : 0 ≤ U z := wrap_u64_nonneg z
  have h1 : U z < 18446744073709551616 := by show IntKind.u64.wrap z < _; rw [IntKind.wrap_u64]; omega
  rw [Int.tdiv_eq_ediv_of_nonneg h0]
  have h2 : 0 ≤ U z / k := Int.ediv_nonneg h0 (by omega)
  have h3 : U z / k ≤ U z := Int.ediv_le_self _ h0
  show IntKind.u64.wrap (U z / k) = _
  rw [IntKind.wrap_u64]
  omega

/-- The digit of a number from 0 to 15. -/
def digitOf (a : Int) : Int := if a < 10 then 48 + a else 87 + a

set_option maxHeartbeats 400000 in
set_option maxRecDepth 100000 in
theorem digit_any (a : Int) (h0 : 0 ≤ a) (h1 : a < 16) (w : World) :
    Calls Tryz.prog 40 #[.int .u64 a] w fun e w' => e = .returned (.int .u8 (digitOf a)) ∧ w' = w := by
  go_enter Tryz.func40, Tryz.ntmps40
  go_wp2
  · have h : a < 10 := by assumption
    go_ret
    exact ⟨by simp only [digitOf, if_pos h]; rfl, rfl⟩
  · have h : ¬ a < 10 := by omega
    go_ret
    exact ⟨by simp only [digitOf, if_neg h]; rfl, rfl⟩

set_option maxHeartbeats 400000 in
set_option maxRecDepth 100000 in
theorem indexByte_any (s : ByteArray) (c : Int) (w : World) :
    Calls Tryz.prog 71 #[.string s, .int .u8 c] w fun e w' => e = .returned (.int .i64 (Lib.indexByte s.data.toList c.toNat.toUInt8)) ∧ w' = w := by
  go_enter Tryz.func71, Tryz.ntmps71
  go_wp2
  rw [run_callFunc_extern Tryz.func91 (by kernel_rfl) (by kernel_rfl) (by kernel_rfl) (e := Extern.BytealgIndexByte.indexByte) (by kernel_rfl), Lib.run_indexByteString]
  simp only [Result.andThen]
  rw [Oper.upon_value]
  go_wp2
  go_ret
  exact ⟨rfl, rfl⟩

end Go.Proofs.YtijchmcajhdcoaaGreatDoor

/-!
  sum.Hex and the reference's Hex, each by a contract: the sixteen digits of a number below 2^64.
-/
namespace Go.Proofs.YtijchmcajhdcoaaGreatDoor
open Go.RowKit

/-- The digit at place j from the right. -/
def digAt (id : Int) (j : Nat) : Int := digitOf (id / 16 ^ j % 16)
/-- The last k digits. -/
def hexTail (id : Int) : Nat → List UInt8
  | 0 => []
  | k + 1 => (digAt id k).toNat.toUInt8 :: hexTail id k
def hexS (id : Int) : ByteArray := ⟨(hexTail id 16).toArray⟩

theorem digitOf_range (n : Int) (h0 : 0 ≤ n) (h1 : n < 16) : 48 ≤ digitOf n ∧ digitOf n < 103 := by
  unfold digitOf; split <;> omega
theorem digAt_range (id : Int) (j : Nat) : 48 ≤ digAt id j ∧ digAt id j < 103 := digitOf_range _ (by omega) (by omega)
theorem byte_of (d : Int) (h0 : 0 ≤ d) (h1 : d < 256) : ((d.toNat.toUInt8).toNat : Int) = d := by
  obtain ⟨n, rfl⟩ := Int.eq_ofNat_of_zero_le h0
  have : n < 256 := by omega
  simp [Nat.mod_eq_of_lt this]
theorem hexTail_length (id : Int) : ∀ k, (hexTail id k).length = k
  | 0 => rfl
  | k + 1 => by simp [hexTail, hexTail_length id k]
theorem hexTail_get (id : Int) : ∀ (k j : Nat) (hj : j < (hexTail id k).length), (((hexTail id k)[j]).toNat : Int) = digAt id (k - 1 - j)
  | 0, j, hj => by simp [hexTail] at hj
  | k + 1, 0, hj => by
    simp only [hexTail, List.getElem_cons_zero]
    rw [byte_of _ (by have := digAt_range id k; omega) (by have := digAt_range id k; omega)]
    rfl
  | k + 1, j + 1, hj => by
    simp only [hexTail, List.getElem_cons_succ]
    rw [hexTail_get id k j (by simpa [hexTail] using hj)]
    congr 1
    omega

theorem dig_list : ∀ m : Fin 16, ((([48, 49, 50, 51, 52, 53, 54, 55, 56, 57, 97, 98, 99, 100, 101, 102] : List UInt8)[m.1]'m.2).toNat : Int) = digitOf m.1 := by decide
theorem dig_byte (m : Nat) (h : m < 16) (hh : m < ByteArray.size { data := #[48, 49, 50, 51, 52, 53, 54, 55, 56, 57, 97, 98, 99, 100, 101, 102] }) :
    ((({ data := #[48, 49, 50, 51, 52, 53, 54, 55, 56, 57, 97, 98, 99, 100, 101, 102] } : ByteArray)[m]'hh).toNat : Int) = digitOf m := dig_list ⟨m, h⟩
theorem addr_at (b j : Nat) : (⟨b, 0, none⟩ : Addr).add j = ⟨b, j, none⟩ := by
  unfold Addr.add
  split <;> simp_all
theorem zeros16 (j : Nat) (hj : j < 16) : (#[Value.int IntKind.u8 0, Value.int IntKind.u8 0, Value.int IntKind.u8 0, Value.int IntKind.u8 0, Value.int IntKind.u8 0, Value.int IntKind.u8 0, Value.int IntKind.u8 0, Value.int IntKind.u8 0, Value.int IntKind.u8 0, Value.int IntKind.u8 0, Value.int IntKind.u8 0, Value.int IntKind.u8 0, Value.int IntKind.u8 0, Value.int IntKind.u8 0, Value.int IntKind.u8 0, Value.int IntKind.u8 0] : Array Value)[j]? = some (.int .u8 0) := by
  match j, hj with
  | 0, _ | 1, _ | 2, _ | 3, _ | 4, _ | 5, _ | 6, _ | 7, _ | 8, _ | 9, _ | 10, _ | 11, _ | 12, _ | 13, _ | 14, _ | 15, _ => rfl
  | n + 16, h => omega

set_option maxHeartbeats 800000 in
set_option maxRecDepth 100000 in
theorem hex_any (id : Int) (h0 : 0 ≤ id) (h1 : id < 18446744073709551616) (w : World) :
    Calls Tryz.prog 65 #[.int .u64 id] w fun e w' => e = .returned (.string (hexS id)) ∧ Below w.heap.size w w' := by
  go_enter Tryz.func65, Tryz.ntmps65
  go_wp2
  go_loopg [0, 4] 16 (fun g d i wr => ∃ (k : Nat) (n : Int), k + g = 16 ∧ d = .int .u64 n ∧ i = .int .i64 (15 - (k : Int)) ∧ 0 ≤ n ∧ n < 18446744073709551616 ∧ n = id / 16 ^ k
    ∧ Below w.heap.size w wr ∧ (∀ j, j < 16 → wr.cell? ⟨w.heap.size, j, none⟩ = some (.int .u8 (if 16 - k ≤ j then digAt id (15 - j) else 0))) ∧ (∀ j, wr.frozen? ⟨w.heap.size, j, none⟩ = false))
  case atStart =>
    refine ⟨0, id, rfl, rfl, rfl, h0, h1, by simp, (Below.refl _ _).alloc (Nat.le_refl _) _, ?_, ?_⟩
    · intro j hj
      rw [World.cell?_alloc_new, if_neg (by omega)]
      exact zeros16 j hj
    · intro j
      exact World.frozen?_alloc_new _ _ _ _
  case round =>
    obtain ⟨k, n, hk, rfl, rfl, n0, n1, hn, hb, hc, hf⟩ := hrel
    have HN : Hid (n = id / 16 ^ k) := hn
    have HC : Hid (∀ j, j < 16 → wr.cell? ⟨w.heap.size, j, none⟩ = some (.int .u8 (if 16 - k ≤ j then digAt id (15 - j) else 0))) := hc
    by_cases hg : 1 ≤ gk
    · have hcell := hc (15 - k) (by omega)
      rw [if_neg (by omega)] at hcell
      have hfz := hf (15 - k)
      clear hn hc
      go_wp2
      rw [dig_byte (n % 16).toNat (by omega)]
      have hd : digitOf ((n % 16).toNat : Int) = digAt id k := by
        have : ((n % 16).toNat : Int) = n % 16 := by omega
        rw [this, digAt, ← HN.out]
      rw [hd]
      go_roundg (gk - 1)
      case measure => omega
      case rel =>
        refine ⟨k + 1, n / 16, by omega, rfl, by go_num, by omega, by omega, ?_, hb.setCell (Nat.le_refl _) _, ?_, ?_⟩
        · rw [HN.out, Int.pow_succ, Int.ediv_ediv_of_nonneg (by exact Int.pow_nonneg (by decide))]
        · intro j hj
          by_cases hjk : j = 15 - k
          · subst hjk
            rw [World.cell?_setCell_same _ _ _ hcell, if_pos (by omega)]
            congr 3
            omega
          · rw [World.cell?_setCell_other _ _ _ _ (by intro h; injection h; omega), HC.out j hj]
            by_cases h2 : 16 - k ≤ j
            · rw [if_pos h2, if_pos (by omega)]
            · rw [if_neg h2, if_neg (by omega)]
        · intro j
          rw [World.frozen?_setCell]
          exact hf j
    · have : k = 16 := by omega
      subst this
      have hconv : (convert 72 9 (.slice (some ⟨w.heap.size, 0, none⟩) 16 16)).run Tryz.prog wr = .ok (.string (hexS id)) wr := by
        have h := run_convert_bytes_back (P := Tryz.prog) wr 72 9 5 ⟨w.heap.size, 0, none⟩ 16 (hexTail id 16) Tryz.underlying72 Tryz.underlying5 Tryz.underlying9 (by
          intro j hj
          rw [hexTail_length] at hj
          have := hc j hj
          rw [if_pos (by omega)] at this
          rw [hexTail_get]
          rw [addr_at]
          exact this)
        rw [hexTail_length] at h
        exact h
      clear hc hn
      go_wp2
      go_ret
      exact ⟨rfl, hb⟩

theorem conv_one (ww : World) (d : Int) (h0 : 0 ≤ d) (h1 : d < 256) :
    (convert 72 9 (.slice (some ⟨ww.heap.size, 0, none⟩) 1 1)).run Tryz.prog (ww.alloc (.cells #[.int .u8 d] 5)) = .ok (.string ⟨#[d.toNat.toUInt8]⟩) (ww.alloc (.cells #[.int .u8 d] 5)) := by
  have h := run_convert_bytes_back (P := Tryz.prog) (ww.alloc (.cells #[.int .u8 d] 5)) 72 9 5 ⟨ww.heap.size, 0, none⟩ 1 [d.toNat.toUInt8] Tryz.underlying72 Tryz.underlying5 Tryz.underlying9 (by
    intro j hj
    have hj0 : j = 0 := by simpa using hj
    subst hj0
    rw [addr_at, World.cell?_alloc_new]
    simp only [List.getElem_cons_zero]
    rw [byte_of d h0 h1]
    rfl)
  exact h

set_option maxHeartbeats 800000 in
set_option maxRecDepth 100000 in
theorem rhex_any (id : Int) (h0 : 0 ≤ id) (h1 : id < 18446744073709551616) (w : World) :
    Calls Tryz.prog 26 #[.int .u64 id] w fun e w' => e = .returned (.string (hexS id)) ∧ Below w.heap.size w w' := by
  go_enter Tryz.func26, Tryz.ntmps26
  go_wp2
  go_loopg [0, 3, 4] 16 (fun g d s i wr => ∃ (k : Nat) (n : Int) (b : ByteArray), k + g = 16 ∧ d = .int .u64 n ∧ i = .int .i64 (k : Int) ∧ s = .string b ∧ 0 ≤ n ∧ n < 18446744073709551616 ∧ n = id / 16 ^ k
    ∧ b = ⟨(hexTail id k).toArray⟩ ∧ Below w.heap.size w wr)
  case atStart =>
    exact ⟨0, id, _, rfl, rfl, rfl, rfl, h0, h1, by simp, rfl, Below.refl _ _⟩
  case round =>
    obtain ⟨k, n, b, hk, rfl, rfl, rfl, n0, n1, hn, hb, hw⟩ := hrel
    have HN : Hid (n = id / 16 ^ k) := hn
    have HB : Hid (b = ⟨(hexTail id k).toArray⟩) := hb
    have hbs : b.size ≤ 16 := by rw [hb]; show (hexTail id k).toArray.size ≤ 16; rw [List.size_toArray, hexTail_length]; omega
    clear hn hb
    by_cases hg : 1 ≤ gk
    · have hd : digitOf (n % 16) = digAt id k := by
        rw [digAt, ← HN.out]
      have hr := digAt_range id k
      have hcv := fun ww => conv_one ww (digAt id k) (by omega) (by omega)
      go_wp2_with (go_at_call 40; refine (digit_any _ (by omega) (by omega) _).mono ?_; rintro e w' ⟨rfl, rfl⟩)
      go_roundg (gk - 1)
      case measure => omega
      case rel =>
        refine ⟨k + 1, n / 16, _, by omega, rfl, by go_num, rfl, by omega, by omega, ?_, ?_, ?_⟩
        · rw [HN.out, Int.pow_succ, Int.ediv_ediv_of_nonneg (by exact Int.pow_nonneg (by decide))]
        · rw [HB.out]
          apply ByteArray.ext
          rw [ByteArray.data_append, hexTail]
          simp
        · exact hw.alloc hw.size _
    · have : k = 16 := by omega
      subst this
      go_wp2
      go_ret
      exact ⟨by rw [HB.out]; rfl, hw⟩
end Go.Proofs.YtijchmcajhdcoaaGreatDoor

/-!
  sum.Parse and the reference's Parse, each by a contract: the number of sixteen digits, or the error 9.
-/
namespace Go.Proofs.YtijchmcajhdcoaaGreatDoor
open Go.RowKit

def digitsL : List UInt8 := [48, 49, 50, 51, 52, 53, 54, 55, 56, 57, 97, 98, 99, 100, 101, 102]
/-- The place of a byte among the digits, or -1. -/
def digVal (c : UInt8) : Int := Lib.indexByte digitsL c
theorem indexByte_lt (l : List UInt8) (c : UInt8) : Lib.indexByte l c < l.length := by
  induction l with
  | nil => simp [Lib.indexByte]
  | cons b l ih =>
    simp only [Lib.indexByte, List.length_cons]
    split
    · omega
    · split <;> omega
theorem digVal_range (c : UInt8) : -1 ≤ digVal c ∧ digVal c < 16 := ⟨Lib.indexByte_ge _ _, indexByte_lt digitsL c⟩
theorem digIdx_any (c : UInt8) (w : World) :
    Calls Tryz.prog 71 #[.string { data := #[48, 49, 50, 51, 52, 53, 54, 55, 56, 57, 97, 98, 99, 100, 101, 102] }, .int .u8 (c.toNat : Int)] w fun e w' => e = .returned (.int .i64 (digVal c)) ∧ w' = w := by
  have h := indexByte_any { data := #[48, 49, 50, 51, 52, 53, 54, 55, 56, 57, 97, 98, 99, 100, 101, 102] } (c.toNat : Int) w
  have hc : ((c.toNat : Int)).toNat.toUInt8 = c := by simp
  rw [hc] at h
  exact h

def parFold : List UInt8 → Int → Option Int
  | [], n => some n
  | b :: l, n => if digVal b < 0 then none else parFold l (U (U (n * 16) + digVal b))
theorem parFold_append (l r : List UInt8) : ∀ n, parFold (l ++ r) n = (parFold l n).bind (parFold r) := by
  induction l with
  | nil => intro n; rfl
  | cons b l ih =>
    intro n
    simp only [List.cons_append, parFold]
    split
    · rfl
    · exact ih _
def parOf (s : ByteArray) : Int × Int := if s.size = 16 then (match parFold s.data.toList 0 with | some n => (n, 0) | none => (0, 9)) else (0, 9)

theorem parFold_ok (l : List UInt8) (k : Nat) (hk : k < l.length) (n : Int) (h : parFold (l.take k) 0 = some n) (hd : 0 ≤ digVal l[k]) :
    parFold (l.take (k + 1)) 0 = some (U (U (n * 16) + digVal l[k])) := by
  rw [List.take_add_one, parFold_append, h]
  simp [List.getElem?_eq_getElem hk, parFold, Int.not_lt.2 hd]
theorem parFold_bad (l : List UInt8) (k : Nat) (hk : k < l.length) (n : Int) (h : parFold (l.take k) 0 = some n) (hd : digVal l[k] < 0) :
    parFold l 0 = none := by
  have e : l = l.take k ++ (l[k] :: l.drop (k + 1)) := by simp
  rw [e, parFold_append, h]
  simp [parFold, hd]

set_option maxHeartbeats 800000 in
set_option maxRecDepth 100000 in
theorem par_any (s : ByteArray) (w : World) :
    Calls Tryz.prog 59 #[.string s] w fun e w' => e = .returned (.tuple #[.int .u64 (parOf s).1, .int .i64 (parOf s).2]) ∧ w' = w := by
  by_cases hs : s.size = 16
  · have hsz : s.data.toList.length = 16 := by rw [← hs]; rfl
    go_enter Tryz.func59, Tryz.ntmps59
    go_wp2
    go_loop [4, 10] (fun d i => ∃ (k : Nat) (n : Int), k ≤ 16 ∧ i = .int .i64 (k : Int) ∧ d = .int .u64 n ∧ Hid (parFold (s.data.toList.take k) 0 = some n))
      (fun _ i => 16 - (intOf i).toNat)
    case atStart => exact ⟨0, 0, by omega, rfl, rfl, rfl⟩
    case round =>
      obtain ⟨k, n, hk, rfl, rfl, HP⟩ := hrel
      by_cases hlt : k < 16
      · have hk2 : k < s.size := by omega
        have hr := digVal_range s[k]
        have hl : s.data.toList[k] = s[k] := rfl
        have HL : Hid (_ = _) := hl
        clear hl
        go_wp2_with (go_at_call 71; refine (digIdx_any _ _).mono ?_; rintro e w' ⟨rfl, rfl⟩)
        · go_ret2
          refine ⟨?_, rfl⟩
          have hbad : digVal s[k] < 0 := by assumption
          rw [parOf, if_pos hs, parFold_bad s.data.toList k (by omega) n HP.out (by rw [HL.out]; exact hbad)]
          rfl
        · have hok : 0 ≤ digVal s[k] := by omega
          go_round
          case rel =>
            have := parFold_ok s.data.toList k (by omega) n HP.out (by rw [HL.out]; exact hok)
            rw [HL.out] at this
            refine ⟨k + 1, _, by omega, by go_num, rfl, this⟩
          case measure => simp [intOf]; omega
      · have : k = 16 := by omega
        subst this
        go_wp2
        go_ret2
        refine ⟨?_, rfl⟩
        have := HP.out
        rw [List.take_of_length_le (by omega)] at this
        rw [parOf, if_pos hs, this]
        rfl
  · go_enter Tryz.func59, Tryz.ntmps59
    go_wp2
    go_ret2
    exact ⟨by rw [parOf, if_neg hs]; rfl, rfl⟩

/-- The last of the first k digits that is the byte c, or 16. -/
def refAt (c : UInt8) : Nat → Int
  | 0 => 16
  | k + 1 => if digitOf k = (c.toNat : Int) then (k : Int) else refAt c k
theorem refAt_all (c : UInt8) : refAt c 16 = if digVal c < 0 then 16 else digVal c := by
  have h : ∀ n : Fin 256, refAt (UInt8.ofNat n.1) 16 = if digVal (UInt8.ofNat n.1) < 0 then 16 else digVal (UInt8.ofNat n.1) := by decide +kernel
  have := h ⟨c.toNat, c.toNat_lt⟩
  simpa using this

set_option maxHeartbeats 1000000 in
set_option maxRecDepth 100000 in
theorem rpar_any (s : ByteArray) (w : World) :
    Calls Tryz.prog 35 #[.string s] w fun e w' => e = .returned (.tuple #[.int .u64 (parOf s).1, .int .i64 (parOf s).2]) ∧ ∃ m, w' = w.drewN m := by
  by_cases hs : s.size = 16
  · have hsz : s.data.toList.length = 16 := by rw [← hs]; rfl
    go_enter Tryz.func35, Tryz.ntmps35
    go_wp2
    go_loopg [4, 5] 17 (fun g d i wr => ∃ (k : Nat) (n : Int), k + g = 17 ∧ k ≤ 16 ∧ i = .int .i64 (k : Int) ∧ d = .int .u64 n ∧ Hid (parFold (s.data.toList.take k) 0 = some n) ∧ Hid (∃ m, wr = w.drewN m))
    case atStart => exact ⟨0, 0, by omega, by omega, rfl, rfl, rfl, 0, rfl⟩
    case round =>
      obtain ⟨k, n, hg, hk, rfl, rfl, HP, HW⟩ := hrel
      have hgk : ∃ g0, g0 = gk := ⟨_, rfl⟩
      obtain ⟨g0, hg0⟩ := hgk
      have HG : Hid (g0 = gk ∧ k + g0 = 17) := ⟨hg0, by omega⟩
      clear hg0
      by_cases hlt : k < 16
      · have hk2 : k < s.size := by omega
        have hl : s.data.toList[k] = s[k] := rfl
        have HL : Hid (_ = _) := hl
        clear hl
        go_wp2
        go_loopg [6, 7] 17 (fun g a i wr => ∃ (j : Nat), j + g = 17 ∧ j ≤ 16 ∧ i = .int .u64 (j : Int) ∧ a = .int .u64 (refAt s[k] j) ∧ Hid (∃ m, wr = w.drewN m))
        case atStart => exact ⟨0, by omega, by omega, rfl, rfl, HW⟩
        case round =>
          obtain ⟨j, hg2, hj, rfl, rfl, HW2⟩ := hrel
          by_cases hlt2 : j < 16
          · have hj0 : (0 : Int) ≤ (j : Int) := by omega
            have hj1 : (j : Int) < 16 := by omega
            go_wp2
            go_quiet (first | (go_at_call 40; exact Calls.quiet_of_same (digit_any (j : Int) hj0 hj1 _)))
            go_wp2
            · have heq : (digitOf (j : Int) == (s[k].toNat : Int)) = true := by assumption
              have hv : refAt s[k] (j + 1) = (j : Int) := by rw [refAt, if_pos (by simpa using heq)]
              go_roundg (gk - 1)
              case measure => omega
              case rel =>
                refine ⟨j + 1, by omega, by omega, by go_num, by rw [hv], ?_⟩
                obtain ⟨m, hm⟩ := HW2.out
                exact ⟨_, by rw [hm, World.drewN_drewN]⟩
            · have hne : (digitOf (j : Int) == (s[k].toNat : Int)) = false := by assumption
              have hv : refAt s[k] (j + 1) = refAt s[k] j := by rw [refAt, if_neg (by simpa using hne)]
              go_roundg (gk - 1)
              case measure => omega
              case rel =>
                refine ⟨j + 1, by omega, by omega, by go_num, by rw [hv], ?_⟩
                obtain ⟨m, hm⟩ := HW2.out
                exact ⟨_, by rw [hm, World.drewN_drewN]⟩
          · have : j = 16 := by omega
            subst this
            have hv := refAt_all s[k]
            have hr := digVal_range s[k]
            by_cases hneg : digVal s[k] < 0
            · rw [if_pos hneg] at hv
              go_wp2
              go_ret2
              refine ⟨?_, HW2.out⟩
              rw [parOf, if_pos hs, parFold_bad s.data.toList k (by omega) n HP.out (by rw [HL.out]; exact hneg)]
              rfl
            · rw [if_neg hneg] at hv
              have hn16 : (digVal s[k] == 16) = false := by simp; omega
              go_wp2
              go_roundg (g0 - 1)
              case measure => have := HG.out; omega
              case rel =>
                have hgo := HG.out
                have := parFold_ok s.data.toList k (by omega) n HP.out (by rw [HL.out]; omega)
                rw [HL.out] at this
                exact ⟨k + 1, _, by omega, by omega, by go_num, rfl, this, HW2⟩
      · have : k = 16 := by omega
        subst this
        go_wp2
        go_ret2
        refine ⟨?_, HW.out⟩
        have := HP.out
        rw [List.take_of_length_le (by omega)] at this
        rw [parOf, if_pos hs, this]
        rfl
  · go_enter Tryz.func35, Tryz.ntmps35
    go_wp2
    go_ret2
    exact ⟨by rw [parOf, if_neg hs]; rfl, 0, rfl⟩
end Go.Proofs.YtijchmcajhdcoaaGreatDoor
