/-
  The small functions of layer 1 and of its reference, each by a contract: Spread, the step of an ID, a digit, strings.IndexByte. No condition but that each integer fits its kind.
-/
import Derived.Test.YtkoelofjgceohaaRows
import Derived.WalkKit
import Derived.WalkSpells
import Derived.WalkLawsBesides
import Derived.Lib.Bytealg
namespace Go.Proofs.Ytkoelofjgceohaa
open Go.RowKit

abbrev U (n : Int) : Int := IntKind.u64.wrap n
abbrev X64 (a b : Int) : Int := bits BinOp.xor IntKind.u64 a b
def mixA (z : Int) : Int := U (X64 z (z / 1073741824) * 13787848793156543929)
def mixB (z : Int) : Int := U (X64 z (z / 134217728) * 10723151780598845931)
def mixC (z : Int) : Int := X64 z (z / 2147483648)
def spread (a b : Int) : Int := mixC (mixB (mixA (U (a + U (U (U b + 1) * 11400714819323198485)))))

/-- The step of an ID by one byte. -/
def idStep (a b : Int) : Int := U (X64 a (U b) * 1099511628211)

theorem U_tdiv (z k : Int) (hk : 1 ≤ k) : U ((U z).tdiv k) = U z / k := by
  have h0 : 0 ≤ U z := wrap_u64_nonneg z
  have h1 : U z < 18446744073709551616 := by show IntKind.u64.wrap z < _; rw [IntKind.wrap_u64]; omega
  rw [Int.tdiv_eq_ediv_of_nonneg h0]
  have h2 : 0 ≤ U z / k := Int.ediv_nonneg h0 (by omega)
  have h3 : U z / k ≤ U z := Int.ediv_le_self _ h0
  show IntKind.u64.wrap (U z / k) = _
  rw [IntKind.wrap_u64]
  omega

set_option maxHeartbeats 400000 in
set_option maxRecDepth 100000 in
theorem spread_any (a b : Int) (w : World) :
    Calls Try.prog 29 #[.int .u64 a, .int .i64 b] w fun e w' => e = .returned (.int .u64 (spread a b)) ∧ w' = w := by
  go_enter Try.func29, Try.ntmps29
  go_wp2
  go_ret
  exact ⟨rfl, rfl⟩

set_option maxHeartbeats 400000 in
set_option maxRecDepth 100000 in
theorem rspread_raw (a b : Int) (w : World) :
    Calls Try.prog 31 #[.int .u64 a, .int .i64 b] w fun e w' => e = .returned (.int .u64
      (X64 (U (X64 (U (X64 (U (a + U (U (U b + 1) * 11400714819323198485))) (U ((U (a + U (U (U b + 1) * 11400714819323198485))).tdiv 1073741824)) * 13787848793156543929))
        (U ((U (X64 (U (a + U (U (U b + 1) * 11400714819323198485))) (U ((U (a + U (U (U b + 1) * 11400714819323198485))).tdiv 1073741824)) * 13787848793156543929)).tdiv 134217728)) * 10723151780598845931))
        (U ((U (X64 (U (X64 (U (a + U (U (U b + 1) * 11400714819323198485))) (U ((U (a + U (U (U b + 1) * 11400714819323198485))).tdiv 1073741824)) * 13787848793156543929))
        (U ((U (X64 (U (a + U (U (U b + 1) * 11400714819323198485))) (U ((U (a + U (U (U b + 1) * 11400714819323198485))).tdiv 1073741824)) * 13787848793156543929)).tdiv 134217728)) * 10723151780598845931)).tdiv 2147483648)))) ∧ w' = w := by
  go_enter Try.func31, Try.ntmps31
  go_wp2
  go_ret
  exact ⟨rfl, rfl⟩

theorem rspread_any (a b : Int) (w : World) :
    Calls Try.prog 31 #[.int .u64 a, .int .i64 b] w fun e w' => e = .returned (.int .u64 (spread a b)) ∧ w' = w := by
  refine (rspread_raw a b w).mono ?_
  rintro e w' ⟨rfl, hw⟩
  refine ⟨?_, hw⟩
  rw [U_tdiv _ 1073741824 (by decide), U_tdiv _ 134217728 (by decide), U_tdiv _ 2147483648 (by decide)]
  rfl

set_option maxHeartbeats 400000 in
set_option maxRecDepth 100000 in
theorem idstep_any (a b : Int) (w : World) :
    Calls Try.prog 39 #[.int .u64 a, .int .u8 b] w fun e w' => e = .returned (.int .u64 (idStep a b)) ∧ w' = w := by
  go_enter Try.func39, Try.ntmps39
  go_wp2
  go_ret
  exact ⟨rfl, rfl⟩

/-- The digit of a number from 0 to 15. -/
def digitOf (a : Int) : Int := if a < 10 then 48 + a else 87 + a

end Go.Proofs.Ytkoelofjgceohaa
