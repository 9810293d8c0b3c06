/-
  sum.Hex and the reference's Hex, each by a contract: the sixteen digits of a number below 2^64.
-/
import Derived.Test.YtdgdckmhmmigkaaGreatDoorSmall
import Derived.Laws.IdiomStrings
import Derived.Deep.LoopGhost
namespace Go.Proofs.YtdgdckmhmmigkaaGreatDoor
open Go.RowKit

/-- The digit at place j from the right. -/
def digAt (id : Int) (j : Nat) : Int := digitOf (id / 16 ^ j % 16)
/-- The last k digits. -/
def hexTail (id : Int) : Nat → List UInt8
  | 0 => []
  | k + 1 => (digAt id k).toNat.toUInt8 :: hexTail id k
def hexS (id : Int) : ByteArray := ⟨(hexTail id 16).toArray⟩

theorem digitOf_range (n : Int) (h0 : 0 ≤ n) (h1 : n < 16) : 48 ≤ digitOf n ∧ digitOf n < 103 := by
  unfold digitOf; split <;> omega
theorem digAt_range (id : Int) (j : Nat) : 48 ≤ digAt id j ∧ digAt id j < 103 := digitOf_range _ (by omega) (by omega)
theorem byte_of (d : Int) (h0 : 0 ≤ d) (h1 : d < 256) : ((d.toNat.toUInt8).toNat : Int) = d := by
  obtain ⟨n, rfl⟩ := Int.eq_ofNat_of_zero_le h0
  have : n < 256 := by omega
  simp [Nat.mod_eq_of_lt this]
theorem hexTail_length (id : Int) : ∀ k, (hexTail id k).length = k
  | 0 => rfl
  | k + 1 => by simp [hexTail, hexTail_length id k]
theorem hexTail_get (id : Int) : ∀ (k j : Nat) (hj : j < (hexTail id k).length), (((hexTail id k)[j]).toNat : Int) = digAt id (k - 1 - j)
  | 0, j, hj => by simp [hexTail] at hj
  | k + 1, 0, hj => by
    simp only [hexTail, List.getElem_cons_zero]
    rw [byte_of _ (by have := digAt_range id k; omega) (by have := digAt_range id k; omega)]
    rfl
  | k + 1, j + 1, hj => by
    simp only [hexTail, List.getElem_cons_succ]
    rw [hexTail_get id k j (by simpa [hexTail] using hj)]
    congr 1
    omega

theorem dig_list : ∀ m : Fin 16, ((([48, 49, 50, 51, 52, 53, 54, 55, 56, 57, 97, 98, 99, 100, 101, 102] : List UInt8)[m.1]'m.2).toNat : Int) = digitOf m.1 := by decide
theorem dig_byte (m : Nat) (h : m < 16) (hh : m < ByteArray.size { data := #[48, 49, 50, 51, 52, 53, 54, 55, 56, 57, 97, 98, 99, 100, 101, 102] }) :
    ((({ data := #[48, 49, 50, 51, 52, 53, 54, 55, 56, 57, 97, 98, 99, 100, 101, 102] } : ByteArray)[m]'hh).toNat : Int) = digitOf m := dig_list ⟨m, h⟩
theorem addr_at (b j : Nat) : (⟨b, 0, none⟩ : Addr).add j = ⟨b, j, none⟩ := by
  unfold Addr.add
  split <;> simp_all
theorem zeros16 (j : Nat) (hj : j < 16) : (#[Value.int IntKind.u8 0, Value.int IntKind.u8 0, Value.int IntKind.u8 0, Value.int IntKind.u8 0, Value.int IntKind.u8 0, Value.int IntKind.u8 0, Value.int IntKind.u8 0, Value.int IntKind.u8 0, Value.int IntKind.u8 0, Value.int IntKind.u8 0, Value.int IntKind.u8 0, Value.int IntKind.u8 0, Value.int IntKind.u8 0, Value.int IntKind.u8 0, Value.int IntKind.u8 0, Value.int IntKind.u8 0] : Array Value)[j]? = some (.int .u8 0) := by
  match j, hj with
  | 0, _ | 1, _ | 2, _ | 3, _ | 4, _ | 5, _ | 6, _ | 7, _ | 8, _ | 9, _ | 10, _ | 11, _ | 12, _ | 13, _ | 14, _ | 15, _ => rfl
  | n + 16, h => omega

theorem conv_one (ww : World) (d : Int) (h0 : 0 ≤ d) (h1 : d < 256) :
    (convert 118 9 (.slice (some ⟨ww.heap.size, 0, none⟩) 1 1)).run Tryz.prog (ww.alloc (.cells #[.int .u8 d] 5)) = .ok (.string ⟨#[d.toNat.toUInt8]⟩) (ww.alloc (.cells #[.int .u8 d] 5)) := by
  have h := run_convert_bytes_back (P := Tryz.prog) (ww.alloc (.cells #[.int .u8 d] 5)) 118 9 5 ⟨ww.heap.size, 0, none⟩ 1 [d.toNat.toUInt8] Tryz.underlying118 Tryz.underlying5 Tryz.underlying9 (by
    intro j hj
    have hj0 : j = 0 := by simpa using hj
    subst hj0
    rw [addr_at, World.cell?_alloc_new]
    simp only [List.getElem_cons_zero]
    rw [byte_of d h0 h1]
    rfl)
  exact h

end Go.Proofs.YtdgdckmhmmigkaaGreatDoor
