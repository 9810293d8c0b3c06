/-
  The small functions of layer 1 and of its reference, each by a contract: Spread, the step of an ID, a digit, strings.IndexByte. No condition but that each integer fits its kind.
-/
import Derived.Test.YtdgdckmhmmigkaaGreatDoorRows
import Derived.WalkKit
import Derived.WalkSpells
import Derived.WalkLawsBesides
import Derived.Lib.Bytealg
namespace Go.Proofs.YtdgdckmhmmigkaaGreatDoor
open Go.RowKit

abbrev U (n : Int) : Int := IntKind.u64.wrap n
abbrev X64 (a b : Int) : Int := bits BinOp.xor IntKind.u64 a b
def mixA (z : Int) : Int := U (X64 z (z / 1073741824) * 13787848793156543929)
def mixB (z : Int) : Int := U (X64 z (z / 134217728) * 10723151780598845931)
def mixC (z : Int) : Int := X64 z (z / 2147483648)
def spread (a b : Int) : Int := mixC (mixB (mixA (U (a + U (U (U b + 1) * 11400714819323198485)))))

/-- The step of an ID by one byte. -/
def idStep (a b : Int) : Int := U (X64 a (U b) * 1099511628211)

theorem U_tdiv (z k : Int) (hk : 1 ≤ k) : U ((U z).tdiv k) = U z / k := by
  have h0 : 0 ≤ U z := wrap_u64_nonneg z
  have h1 : U z < 18446744073709551616 := by show IntKind.u64.wrap z < _; rw [IntKind.wrap_u64]; omega
  rw [Int.tdiv_eq_ediv_of_nonneg h0]
  have h2 : 0 ≤ U z / k := Int.ediv_nonneg h0 (by omega)
  have h3 : U z / k ≤ U z := Int.ediv_le_self _ h0
  show IntKind.u64.wrap (U z / k) = _
  rw [IntKind.wrap_u64]
  omega

/-- The digit of a number from 0 to 15. -/
def digitOf (a : Int) : Int := if a < 10 then 48 + a else 87 + a

set_option maxHeartbeats 400000 in
set_option maxRecDepth 100000 in
theorem indexByte_any (s : ByteArray) (c : Int) (w : World) :
    Calls Tryz.prog 72 #[.string s, .int .u8 c] w fun e w' => e = .returned (.int .i64 (Lib.indexByte s.data.toList c.toNat.toUInt8)) ∧ w' = w := by
  go_enter Tryz.func72, Tryz.ntmps72
  go_wp2
  rw [run_callFunc_extern Tryz.func91 (by kernel_rfl) (by kernel_rfl) (by kernel_rfl) (e := Extern.BytealgIndexByte.indexByte) (by kernel_rfl), Lib.run_indexByteString]
  simp only [Result.andThen]
  rw [Oper.upon_value]
  go_wp2
  go_ret
  exact ⟨rfl, rfl⟩

end Go.Proofs.YtdgdckmhmmigkaaGreatDoor
