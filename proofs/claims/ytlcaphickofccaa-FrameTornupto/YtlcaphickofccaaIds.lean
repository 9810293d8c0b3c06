/-
  sum.ID and the reference's ID, each by a contract: the fold of the step over all bytes.
-/
import Derived.Test.YtlcaphickofccaaSmall
namespace Go.Proofs.Ytlcaphickofccaa
open Go.RowKit

/-- A slice of bytes that reads as the numbers zs: empty, or at an address, a byte a cell. -/
def BytesAt (w : World) (v : Value) (zs : List Int) : Prop :=
  ∃ a cap, v = .slice a zs.length cap ∧ zs.length ≤ 9223372036854775807 ∧ (zs = [] ∨ ∃ b off, a = some ⟨b, off, none⟩ ∧ ∀ j, j < zs.length → w.cell? ⟨b, off + j, none⟩ = some (.int .u8 (zs.getD j 0)))

/-- A slice of such slices. -/
def PartsAt (w : World) (v : Value) (zss : List (List Int)) : Prop :=
  ∃ a cap, v = .slice a zss.length cap ∧ zss.length ≤ 9223372036854775807 ∧ (zss = [] ∨ ∃ b off, a = some ⟨b, off, none⟩ ∧ ∀ j, j < zss.length → ∃ u, w.cell? ⟨b, off + j, none⟩ = some u ∧ BytesAt w u (zss.getD j []))

def idFold (h : Int) (zs : List Int) : Int := zs.foldl idStep h

theorem idFold_step (h : Int) (zs : List Int) (k : Nat) (hk : k < zs.length) : idFold h (zs.take (k + 1)) = idStep (idFold h (zs.take k)) zs[k] := by
  unfold idFold
  rw [List.take_add_one, List.foldl_append]
  simp [List.getElem?_eq_getElem hk]

def idFolds (h : Int) (zss : List (List Int)) : Int := zss.foldl idFold h
theorem idFolds_step (h : Int) (zss : List (List Int)) (k : Nat) (hk : k < zss.length) : idFolds h (zss.take (k + 1)) = idFold (idFolds h (zss.take k)) (zss.getD k []) := by
  unfold idFolds
  rw [List.take_add_one, List.foldl_append]
  simp [List.getElem?_eq_getElem hk, List.getD]

theorem i64_and255 (n : Int) : bits .and .i64 n 255 = n % 256 := by
  have h255 : (BitVec.ofInt 64 255).toNat = 2 ^ 8 - 1 := by decide
  have key : (BitVec.ofInt 64 n &&& BitVec.ofInt 64 255).toNat = (n % ((2 ^ 64 : Nat) : Int)).toNat % 2 ^ 8 := by
    rw [BitVec.toNat_and, BitVec.toNat_ofInt, h255, Nat.and_two_pow_sub_one_eq_mod]
  show IntKind.i64.wrap ((BitVec.ofInt 64 n &&& BitVec.ofInt 64 255).toNat : Nat) = n % 256
  rw [key, IntKind.wrap_i64]
  omega

theorem idStep_mod (a k : Int) : idStep a (k % 256) = IntKind.u64.wrap (bits BinOp.xor IntKind.u64 a (k % 256) * 1099511628211) := by
  have h : U (k % 256) = k % 256 := by show IntKind.u64.wrap _ = _; rw [IntKind.wrap_u64]; omega
  rw [idStep, h]

end Go.Proofs.Ytlcaphickofccaa
