/-
  sum.Hex and the reference's Hex, each by a contract: the sixteen digits of a number below 2^64.
-/
import Derived.Test.YtdgdckmhmmigkaaDoorSmall
import Derived.Laws.IdiomStrings
import Derived.Deep.LoopGhost
namespace Go.Proofs.YtdgdckmhmmigkaaDoor
open Go.RowKit

/-- The digit at place j from the right. -/
def digAt (id : Int) (j : Nat) : Int := digitOf (id / 16 ^ j % 16)
/-- The last k digits. -/
def hexTail (id : Int) : Nat → List UInt8
  | 0 => []
  | k + 1 => (digAt id k).toNat.toUInt8 :: hexTail id k
def hexS (id : Int) : ByteArray := ⟨(hexTail id 16).toArray⟩

theorem digitOf_range (n : Int) (h0 : 0 ≤ n) (h1 : n < 16) : 48 ≤ digitOf n ∧ digitOf n < 103 := by
  unfold digitOf; split <;> omega
theorem digAt_range (id : Int) (j : Nat) : 48 ≤ digAt id j ∧ digAt id j < 103 := digitOf_range _ (by omega) (by omega)
theorem byte_of (d : Int) (h0 : 0 ≤ d) (h1 : d < 256) : ((d.toNat.toUInt8).toNat : Int) = d := by
  obtain ⟨n, rfl⟩ := Int.eq_ofNat_of_zero_le h0
  have : n < 256 := by omega
  simp [Nat.mod_eq_of_lt this]
theorem hexTail_length (id : Int) : ∀ k, (hexTail id k).length = k
  | 0 => rfl
  | k + 1 => by simp [hexTail, hexTail_length id k]
theorem hexTail_get (id : Int) : ∀ (k j : Nat) (hj : j < (hexTail id k).length), (((hexTail id k)[j]).toNat : Int) = digAt id (k - 1 - j)
  | 0, j, hj => by simp [hexTail] at hj
  | k + 1, 0, hj => by
    simp only [hexTail, List.getElem_cons_zero]
    rw [byte_of _ (by have := digAt_range id k; omega) (by have := digAt_range id k; omega)]
    rfl
  | k + 1, j + 1, hj => by
    simp only [hexTail, List.getElem_cons_succ]
    rw [hexTail_get id k j (by simpa [hexTail] using hj)]
    congr 1
    omega

theorem dig_list : ∀ m : Fin 16, ((([48, 49, 50, 51, 52, 53, 54, 55, 56, 57, 97, 98, 99, 100, 101, 102] : List UInt8)[m.1]'m.2).toNat : Int) = digitOf m.1 := by decide
theorem dig_byte (m : Nat) (h : m < 16) (hh : m < ByteArray.size { data := #[48, 49, 50, 51, 52, 53, 54, 55, 56, 57, 97, 98, 99, 100, 101, 102] }) :
    ((({ data := #[48, 49, 50, 51, 52, 53, 54, 55, 56, 57, 97, 98, 99, 100, 101, 102] } : ByteArray)[m]'hh).toNat : Int) = digitOf m := dig_list ⟨m, h⟩
theorem addr_at (b j : Nat) : (⟨b, 0, none⟩ : Addr).add j = ⟨b, j, none⟩ := by
  unfold Addr.add
  split <;> simp_all
theorem zeros16 (j : Nat) (hj : j < 16) : (#[Value.int IntKind.u8 0, Value.int IntKind.u8 0, Value.int IntKind.u8 0, Value.int IntKind.u8 0, Value.int IntKind.u8 0, Value.int IntKind.u8 0, Value.int IntKind.u8 0, Value.int IntKind.u8 0, Value.int IntKind.u8 0, Value.int IntKind.u8 0, Value.int IntKind.u8 0, Value.int IntKind.u8 0, Value.int IntKind.u8 0, Value.int IntKind.u8 0, Value.int IntKind.u8 0, Value.int IntKind.u8 0] : Array Value)[j]? = some (.int .u8 0) := by
  match j, hj with
  | 0, _ | 1, _ | 2, _ | 3, _ | 4, _ | 5, _ | 6, _ | 7, _ | 8, _ | 9, _ | 10, _ | 11, _ | 12, _ | 13, _ | 14, _ | 15, _ => rfl
  | n + 16, h => omega

set_option maxHeartbeats 800000 in
set_option maxRecDepth 100000 in
theorem hex_any (id : Int) (h0 : 0 ≤ id) (h1 : id < 18446744073709551616) (w : World) :
    Calls Tryd.prog 59 #[.int .u64 id] w fun e w' => e = .returned (.string (hexS id)) ∧ Below w.heap.size w w' := by
  go_enter Tryd.func59, Tryd.ntmps59
  go_wp2
  go_loopg [0, 4] 16 (fun g d i wr => ∃ (k : Nat) (n : Int), k + g = 16 ∧ d = .int .u64 n ∧ i = .int .i64 (15 - (k : Int)) ∧ 0 ≤ n ∧ n < 18446744073709551616 ∧ n = id / 16 ^ k
    ∧ Below w.heap.size w wr ∧ (∀ j, j < 16 → wr.cell? ⟨w.heap.size, j, none⟩ = some (.int .u8 (if 16 - k ≤ j then digAt id (15 - j) else 0))) ∧ (∀ j, wr.frozen? ⟨w.heap.size, j, none⟩ = false))
  case atStart =>
    refine ⟨0, id, rfl, rfl, rfl, h0, h1, by simp, (Below.refl _ _).alloc (Nat.le_refl _) _, ?_, ?_⟩
    · intro j hj
      rw [World.cell?_alloc_new, if_neg (by omega)]
      exact zeros16 j hj
    · intro j
      exact World.frozen?_alloc_new _ _ _ _
  case round =>
    obtain ⟨k, n, hk, rfl, rfl, n0, n1, hn, hb, hc, hf⟩ := hrel
    have HN : Hid (n = id / 16 ^ k) := hn
    have HC : Hid (∀ j, j < 16 → wr.cell? ⟨w.heap.size, j, none⟩ = some (.int .u8 (if 16 - k ≤ j then digAt id (15 - j) else 0))) := hc
    by_cases hg : 1 ≤ gk
    · have hcell := hc (15 - k) (by omega)
      rw [if_neg (by omega)] at hcell
      have hfz := hf (15 - k)
      clear hn hc
      go_wp2
      rw [dig_byte (n % 16).toNat (by omega)]
      have hd : digitOf ((n % 16).toNat : Int) = digAt id k := by
        have : ((n % 16).toNat : Int) = n % 16 := by omega
        rw [this, digAt, ← HN.out]
      rw [hd]
      go_roundg (gk - 1)
      case measure => omega
      case rel =>
        refine ⟨k + 1, n / 16, by omega, rfl, by go_num, by omega, by omega, ?_, hb.setCell (Nat.le_refl _) _, ?_, ?_⟩
        · rw [HN.out, Int.pow_succ, Int.ediv_ediv_of_nonneg (by exact Int.pow_nonneg (by decide))]
        · intro j hj
          by_cases hjk : j = 15 - k
          · subst hjk
            rw [World.cell?_setCell_same _ _ _ hcell, if_pos (by omega)]
            congr 3
            omega
          · rw [World.cell?_setCell_other _ _ _ _ (by intro h; injection h; omega), HC.out j hj]
            by_cases h2 : 16 - k ≤ j
            · rw [if_pos h2, if_pos (by omega)]
            · rw [if_neg h2, if_neg (by omega)]
        · intro j
          rw [World.frozen?_setCell]
          exact hf j
    · have : k = 16 := by omega
      subst this
      have hconv : (convert 73 9 (.slice (some ⟨w.heap.size, 0, none⟩) 16 16)).run Tryd.prog wr = .ok (.string (hexS id)) wr := by
        have h := run_convert_bytes_back (P := Tryd.prog) wr 73 9 5 ⟨w.heap.size, 0, none⟩ 16 (hexTail id 16) Tryd.underlying73 Tryd.underlying5 Tryd.underlying9 (by
          intro j hj
          rw [hexTail_length] at hj
          have := hc j hj
          rw [if_pos (by omega)] at this
          rw [hexTail_get]
          rw [addr_at]
          exact this)
        rw [hexTail_length] at h
        exact h
      clear hc hn
      go_wp2
      go_ret
      exact ⟨rfl, hb⟩

theorem conv_one (ww : World) (d : Int) (h0 : 0 ≤ d) (h1 : d < 256) :
    (convert 73 9 (.slice (some ⟨ww.heap.size, 0, none⟩) 1 1)).run Tryd.prog (ww.alloc (.cells #[.int .u8 d] 5)) = .ok (.string ⟨#[d.toNat.toUInt8]⟩) (ww.alloc (.cells #[.int .u8 d] 5)) := by
  have h := run_convert_bytes_back (P := Tryd.prog) (ww.alloc (.cells #[.int .u8 d] 5)) 73 9 5 ⟨ww.heap.size, 0, none⟩ 1 [d.toNat.toUInt8] Tryd.underlying73 Tryd.underlying5 Tryd.underlying9 (by
    intro j hj
    have hj0 : j = 0 := by simpa using hj
    subst hj0
    rw [addr_at, World.cell?_alloc_new]
    simp only [List.getElem_cons_zero]
    rw [byte_of d h0 h1]
    rfl)
  exact h

end Go.Proofs.YtdgdckmhmmigkaaDoor
