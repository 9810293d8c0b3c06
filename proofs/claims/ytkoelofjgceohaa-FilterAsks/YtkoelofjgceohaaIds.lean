/-
  sum.ID and the reference's ID, each by a contract: the fold of the step over all bytes.
-/
import Derived.Test.YtkoelofjgceohaaSmall
namespace Go.Proofs.Ytkoelofjgceohaa
open Go.RowKit

/-- A slice of bytes that reads as the numbers zs: empty, or at an address, a byte a cell. -/
def BytesAt (w : World) (v : Value) (zs : List Int) : Prop :=
  ∃ a cap, v = .slice a zs.length cap ∧ zs.length ≤ 9223372036854775807 ∧ (zs = [] ∨ ∃ b off, a = some ⟨b, off, none⟩ ∧ ∀ j, j < zs.length → w.cell? ⟨b, off + j, none⟩ = some (.int .u8 (zs.getD j 0)))

/-- A slice of such slices. -/
def PartsAt (w : World) (v : Value) (zss : List (List Int)) : Prop :=
  ∃ a cap, v = .slice a zss.length cap ∧ zss.length ≤ 9223372036854775807 ∧ (zss = [] ∨ ∃ b off, a = some ⟨b, off, none⟩ ∧ ∀ j, j < zss.length → ∃ u, w.cell? ⟨b, off + j, none⟩ = some u ∧ BytesAt w u (zss.getD j []))

def idFold (h : Int) (zs : List Int) : Int := zs.foldl idStep h

theorem idFold_step (h : Int) (zs : List Int) (k : Nat) (hk : k < zs.length) : idFold h (zs.take (k + 1)) = idStep (idFold h (zs.take k)) zs[k] := by
  unfold idFold
  rw [List.take_add_one, List.foldl_append]
  simp [List.getElem?_eq_getElem hk]

def idFolds (h : Int) (zss : List (List Int)) : Int := zss.foldl idFold h
theorem idFolds_step (h : Int) (zss : List (List Int)) (k : Nat) (hk : k < zss.length) : idFolds h (zss.take (k + 1)) = idFold (idFolds h (zss.take k)) (zss.getD k []) := by
  unfold idFolds
  rw [List.take_add_one, List.foldl_append]
  simp [List.getElem?_eq_getElem hk, List.getD]

set_option maxHeartbeats 800000 in
set_option maxRecDepth 100000 in
theorem id_walk (kind : Int) (b off cap : Nat) (zss : List (List Int)) (w : World) (hn : zss.length ≤ 9223372036854775807)
    (hc : ∀ j, j < zss.length → ∃ u, w.cell? ⟨b, off + j, none⟩ = some u ∧ BytesAt w u (zss.getD j [])) :
    Calls Try.prog 28 #[.int .i64 kind, .slice (some ⟨b, off, none⟩) zss.length cap] w fun e w' => e = .returned (.int .u64 (idFolds (idStep 14695981039346656037 (kind % 256)) zss)) ∧ w' = w := by
  go_enter Try.func28, Try.ntmps28
  go_wp2_with (go_at_call 39; refine (idstep_any _ _ _).mono ?_; rintro e w' ⟨rfl, rfl⟩)
  go_loop [5, 15] (fun h i => ∃ k : Nat, k ≤ zss.length ∧ i = .int .i64 k ∧ h = .int .u64 (idFolds (idStep 14695981039346656037 (kind % 256)) (zss.take k)))
    (fun _ i => zss.length - (intOf i).toNat)
  case atStart => exact ⟨0, Nat.zero_le _, rfl, rfl⟩
  case round =>
    obtain ⟨k, hk, rfl, rfl⟩ := hrel
    by_cases hlt : k < zss.length
    · obtain ⟨u, hcell, a, ca, rfl, hl, hb⟩ := hc k hlt
      have hstep := idFolds_step (idStep 14695981039346656037 (kind % 256)) zss k hlt
      generalize zss.getD k [] = zs at hl hb hcell hstep
      generalize idFolds (idStep 14695981039346656037 (kind % 256)) (zss.take k) = h at hstep ⊢
      have HS : Hid (_ = _) := hstep
      clear hstep
      rcases hb with rfl | ⟨b', off', rfl, hc'⟩
      · go_wp2
        refine wp_loop_rounds 1 ?_
        rw [rounds_succ]
        go_wp2
        go_round
        case rel => exact ⟨k + 1, by omega, by go_num, by rw [HS.out]; rfl⟩
        case measure => simp [intOf]; omega
      · go_wp2
        go_loop [5, 21] (fun g i => ∃ m : Nat, m ≤ zs.length ∧ i = .int .i64 m ∧ g = .int .u64 (idFold h (zs.take m)))
          (fun _ i => zs.length - (intOf i).toNat)
        case atStart => exact ⟨0, Nat.zero_le _, rfl, rfl⟩
        case round =>
          obtain ⟨m, hm, rfl, rfl⟩ := hrel
          have hcm : m < zs.length → w'.cell? ⟨b', off' + m, none⟩ = some (.int .u8 (zs.getD m 0)) := fun hm' => hc' m hm'
          go_wp2_with (go_at_call 39; refine (idstep_any _ _ _).mono ?_; rintro e w' ⟨rfl, rfl⟩)
          · have hlt2 : m < zs.length := by assumption
            go_round
            case rel => exact ⟨m + 1, by omega, by go_num, by rw [idFold_step h zs m hlt2]⟩
            case measure => simp [intOf]; omega
          · have : m = zs.length := by omega
            subst this
            go_round
            case rel => exact ⟨k + 1, by omega, by go_num, by rw [HS.out]; simp⟩
            case measure => simp [intOf]; omega
    · have : k = zss.length := by omega
      subst this
      go_wp2
      go_ret
      exact ⟨by simp, rfl⟩

theorem id_any (kind : Int) (v : Value) (zss : List (List Int)) (w : World) (h : PartsAt w v zss) :
    Calls Try.prog 28 #[.int .i64 kind, v] w fun e w' => e = .returned (.int .u64 (idFolds (idStep 14695981039346656037 (kind % 256)) zss)) ∧ w' = w := by
  obtain ⟨a, cap, rfl, hn, h⟩ := h
  rcases h with rfl | ⟨b, off, rfl, hc⟩
  · go_enter Try.func28, Try.ntmps28
    go_wp2_with (go_at_call 39; refine (idstep_any _ _ _).mono ?_; rintro e w' ⟨rfl, rfl⟩)
    refine wp_loop_rounds 1 ?_
    rw [rounds_succ]
    go_wp2
    go_ret
    exact ⟨by simp [idFolds], rfl⟩
  · exact id_walk kind b off cap zss w hn hc

theorem i64_and255 (n : Int) : bits .and .i64 n 255 = n % 256 := by
  have h255 : (BitVec.ofInt 64 255).toNat = 2 ^ 8 - 1 := by decide
  have key : (BitVec.ofInt 64 n &&& BitVec.ofInt 64 255).toNat = (n % ((2 ^ 64 : Nat) : Int)).toNat % 2 ^ 8 := by
    rw [BitVec.toNat_and, BitVec.toNat_ofInt, h255, Nat.and_two_pow_sub_one_eq_mod]
  show IntKind.i64.wrap ((BitVec.ofInt 64 n &&& BitVec.ofInt 64 255).toNat : Nat) = n % 256
  rw [key, IntKind.wrap_i64]
  omega

theorem idStep_mod (a k : Int) : idStep a (k % 256) = IntKind.u64.wrap (bits BinOp.xor IntKind.u64 a (k % 256) * 1099511628211) := by
  have h : U (k % 256) = k % 256 := by show IntKind.u64.wrap _ = _; rw [IntKind.wrap_u64]; omega
  rw [idStep, h]

set_option maxHeartbeats 800000 in
set_option maxRecDepth 100000 in
theorem rid_any (kind : Int) (v : Value) (zs : List Int) (w : World) (h : BytesAt w v zs) :
    Calls Try.prog 30 #[.int .i64 kind, v] w fun e w' => e = .returned (.int .u64 (idFold (idStep 14695981039346656037 (kind % 256)) zs)) ∧ w' = w := by
  obtain ⟨a, cap, rfl, hn, h⟩ := h
  have he := i64_and255 kind
  rcases h with rfl | ⟨b, off, rfl, hc⟩
  · go_enter Try.func30, Try.ntmps30
    go_wp2
    refine wp_loop_rounds 1 ?_
    rw [rounds_succ]
    go_wp2
    go_ret
    refine ⟨?_, rfl⟩
    rw [idFold, List.foldl_nil, idStep_mod]
    rfl
  · go_enter Try.func30, Try.ntmps30
    go_wp2
    go_loop [5, 6] (fun h i => ∃ k : Nat, k ≤ zs.length ∧ i = .int .i64 k ∧ h = .int .u64 (idFold (idStep 14695981039346656037 (kind % 256)) (zs.take k)))
      (fun _ i => zs.length - (intOf i).toNat)
    case atStart => exact ⟨0, Nat.zero_le _, rfl, by rw [List.take_zero, idFold, List.foldl_nil, idStep_mod]⟩
    case round =>
      obtain ⟨m, hm, rfl, rfl⟩ := hrel
      have hcm : m < zs.length → w.cell? ⟨b, off + m, none⟩ = some (.int .u8 (zs.getD m 0)) := fun hm' => hc m hm'
      go_wp2
      · have hlt2 : m < zs.length := by assumption
        go_round
        case rel => exact ⟨m + 1, by omega, by go_num, by rw [idFold_step _ zs m hlt2]; rfl⟩
        case measure => simp [intOf]; omega
      · have : m = zs.length := by omega
        subst this
        go_ret
        exact ⟨by simp, rfl⟩
end Go.Proofs.Ytkoelofjgceohaa
