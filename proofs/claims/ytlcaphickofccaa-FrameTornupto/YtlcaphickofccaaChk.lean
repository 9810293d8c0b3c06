/-
  sum.Check and the reference's Check, each by a contract: the fold of the eight bit steps over all bytes.
-/
import Derived.Test.YtlcaphickofccaaIds
namespace Go.Proofs.Ytlcaphickofccaa
open Go.RowKit

abbrev X32 (a b : Int) : Int := bits BinOp.xor IntKind.u32 a b

theorem X32_range (a b : Int) : 0 ≤ X32 a b ∧ X32 a b < 4294967296 := by
  show 0 ≤ IntKind.u32.wrap _ ∧ IntKind.u32.wrap _ < 4294967296
  rw [IntKind.wrap_u32]
  omega

/-- One bit's step. -/
def crcBit (c : Int) : Int := if c % 2 = 1 then X32 (c / 2) 3988292384 else c / 2
def crcBits : Nat → Int → Int
  | 0, c => c
  | n + 1, c => crcBit (crcBits n c)
theorem crcBit_range (c : Int) (h0 : 0 ≤ c) (h1 : c < 4294967296) : 0 ≤ crcBit c ∧ crcBit c < 4294967296 := by
  unfold crcBit
  split
  · exact X32_range _ _
  · omega
def chkStep (c b : Int) : Int := crcBits 8 (bits BinOp.xor IntKind.u32 c (b % 4294967296))

theorem and1_u32 (c : Int) (h0 : 0 ≤ c) (h1 : c < 4294967296) : bits .and .u32 c 1 = c % 2 := by
  have h255 : (BitVec.ofInt 32 1).toNat = 2 ^ 1 - 1 := by decide
  have key : (BitVec.ofInt 32 c &&& BitVec.ofInt 32 1).toNat = (c % ((2 ^ 32 : Nat) : Int)).toNat % 2 ^ 1 := by
    rw [BitVec.toNat_and, BitVec.toNat_ofInt, h255, Nat.and_two_pow_sub_one_eq_mod]
  show IntKind.u32.wrap ((BitVec.ofInt 32 c &&& BitVec.ofInt 32 1).toNat : Nat) = c % 2
  rw [key, IntKind.wrap_u32]
  omega

set_option maxHeartbeats 800000 in
theorem chkstep_at (a b c0 : Int) (hc0 : bits BinOp.xor IntKind.u32 a (b % 4294967296) = c0) (r0 : 0 ≤ c0) (r1 : c0 < 4294967296) (w : World) :
    Calls Try.prog 25 #[.int .u32 a, .int .u8 b] w fun e w' => e = .returned (.int .u32 (crcBits 8 c0)) ∧ w' = w := by
  go_enter Try.func25, Try.ntmps25
  go_wp2
  go_loop [0, 10] (fun c i => ∃ k : Nat, k ≤ 8 ∧ i = .int .i64 k ∧ c = .int .u32 (crcBits k c0) ∧ 0 ≤ crcBits k c0 ∧ crcBits k c0 < 4294967296)
    (fun _ i => 8 - (intOf i).toNat)
  case atStart => exact ⟨0, by omega, rfl, rfl, r0, r1⟩
  case round =>
    obtain ⟨k, hk, rfl, rfl, h0, h1⟩ := hrel
    have hb := crcBit_range _ h0 h1
    have he : crcBit (crcBits k c0) = crcBits (k + 1) c0 := rfl
    have ha := and1_u32 _ h0 h1
    rw [he] at hb
    have HE : Hid (_ = _) := he
    clear he
    go_wp2
    · have hk8 : (k : Int) < 8 := by assumption
      have hodd : (crcBits k c0 % 2 == 1) = true := by assumption
      have hv : crcBits (k + 1) c0 = bits BinOp.xor IntKind.u32 (crcBits k c0 / 2) 3988292384 := by
        rw [← HE.out, crcBit, if_pos (by simpa using hodd)]
      go_round
      case rel => exact ⟨k + 1, by omega, by go_num, by rw [hv], hb.1, hb.2⟩
      case measure => simp [intOf]; omega
    · have hk8 : (k : Int) < 8 := by assumption
      have hodd : (crcBits k c0 % 2 == 1) = false := by assumption
      have hv : crcBits (k + 1) c0 = crcBits k c0 / 2 := by
        rw [← HE.out, crcBit, if_neg (by simpa using hodd)]
      go_round
      case rel => exact ⟨k + 1, by omega, by go_num, by rw [hv], hb.1, hb.2⟩
      case measure => simp [intOf]; omega
    · have : k = 8 := by omega
      subst this
      go_ret
      exact ⟨rfl, rfl⟩

theorem chkstep_any (a b : Int) (w : World) :
    Calls Try.prog 25 #[.int .u32 a, .int .u8 b] w fun e w' => e = .returned (.int .u32 (chkStep a b)) ∧ w' = w :=
  chkstep_at a b _ rfl (X32_range a _).1 (X32_range a _).2 w

theorem crcBits_range (n : Nat) (c : Int) (h0 : 0 ≤ c) (h1 : c < 4294967296) : 0 ≤ crcBits n c ∧ crcBits n c < 4294967296 := by
  induction n with
  | zero => exact ⟨h0, h1⟩
  | succ n ih => exact crcBit_range _ ih.1 ih.2
theorem chkStep_range (c b : Int) : 0 ≤ chkStep c b ∧ chkStep c b < 4294967296 := crcBits_range 8 _ (X32_range c _).1 (X32_range c _).2

def chkFold (h : Int) (zs : List Int) : Int := zs.foldl chkStep h
theorem chkFold_range (zs : List Int) : ∀ (h : Int), 0 ≤ h → h < 4294967296 → 0 ≤ chkFold h zs ∧ chkFold h zs < 4294967296 := by
  induction zs with
  | nil => intro h h0 h1; exact ⟨h0, h1⟩
  | cons z zs ih => intro h _ _; exact ih _ (chkStep_range h z).1 (chkStep_range h z).2
theorem chkFold_step (h : Int) (zs : List Int) (k : Nat) (hk : k < zs.length) : chkFold h (zs.take (k + 1)) = chkStep (chkFold h (zs.take k)) zs[k] := by
  unfold chkFold
  rw [List.take_add_one, List.foldl_append]
  simp [List.getElem?_eq_getElem hk]
def chkFolds (h : Int) (zss : List (List Int)) : Int := zss.foldl chkFold h
theorem chkFolds_range (zss : List (List Int)) : ∀ (h : Int), 0 ≤ h → h < 4294967296 → 0 ≤ chkFolds h zss ∧ chkFolds h zss < 4294967296 := by
  induction zss with
  | nil => intro h h0 h1; exact ⟨h0, h1⟩
  | cons z zs ih => intro h h0 h1; exact ih _ (chkFold_range z h h0 h1).1 (chkFold_range z h h0 h1).2
theorem xor_max (c : Int) (h0 : 0 ≤ c) (h1 : c < 4294967296) : bits BinOp.xor IntKind.u32 IntKind.u32.max c = 4294967295 - c := by
  obtain ⟨n, rfl⟩ := Int.eq_ofNat_of_zero_le h0
  have hn : n < 4294967296 := by omega
  have hm : (IntKind.u32.max : Int) = ((4294967295 : Nat) : Int) := by decide
  rw [hm, u32_xor_nat _ _ (by decide) hn]
  have h : (BitVec.allOnes 32 ^^^ BitVec.ofNat 32 n).toNat = 4294967295 - n := by
    rw [BitVec.allOnes_xor, BitVec.toNat_not, BitVec.toNat_ofNat, Nat.mod_eq_of_lt hn]
  rw [BitVec.toNat_xor, BitVec.toNat_allOnes, BitVec.toNat_ofNat, Nat.mod_eq_of_lt hn] at h
  have h' : 4294967295 ^^^ n = 4294967295 - n := h
  rw [h']
  omega
theorem chkFolds_step (h : Int) (zss : List (List Int)) (k : Nat) (hk : k < zss.length) : chkFolds h (zss.take (k + 1)) = chkFold (chkFolds h (zss.take k)) (zss.getD k []) := by
  unfold chkFolds
  rw [List.take_add_one, List.foldl_append]
  simp [List.getElem?_eq_getElem hk, List.getD]

set_option maxHeartbeats 800000 in
theorem chk_walk (b off cap : Nat) (zss : List (List Int)) (w : World) (hn : zss.length ≤ 9223372036854775807)
    (hc : ∀ j, j < zss.length → ∃ u, w.cell? ⟨b, off + j, none⟩ = some u ∧ BytesAt w u (zss.getD j [])) :
    Calls Try.prog 18 #[.slice (some ⟨b, off, none⟩) zss.length cap] w fun e w' => e = .returned (.int .u32 (bits BinOp.xor IntKind.u32 IntKind.u32.max (chkFolds 4294967295 zss))) ∧ w' = w := by
  go_enter Try.func18, Try.ntmps18
  go_wp2
  go_loop [3, 10] (fun h i => ∃ k : Nat, k ≤ zss.length ∧ i = .int .i64 k ∧ h = .int .u32 (chkFolds 4294967295 (zss.take k)))
    (fun _ i => zss.length - (intOf i).toNat)
  case atStart => exact ⟨0, Nat.zero_le _, rfl, rfl⟩
  case round =>
    obtain ⟨k, hk, rfl, rfl⟩ := hrel
    by_cases hlt : k < zss.length
    · obtain ⟨u, hcell, a, ca, rfl, hl, hb⟩ := hc k hlt
      have hstep := chkFolds_step 4294967295 zss k hlt
      generalize zss.getD k [] = zs at hl hb hcell hstep
      generalize chkFolds 4294967295 (zss.take k) = h at hstep ⊢
      have HS : Hid (_ = _) := hstep
      clear hstep
      rcases hb with rfl | ⟨b', off', rfl, hc'⟩
      · go_wp2
        refine wp_loop_rounds 1 ?_
        rw [rounds_succ]
        go_wp2
        go_round
        case rel => exact ⟨k + 1, by omega, by go_num, by rw [HS.out]; rfl⟩
        case measure => simp [intOf]; omega
      · go_wp2
        go_loop [3, 16] (fun g i => ∃ m : Nat, m ≤ zs.length ∧ i = .int .i64 m ∧ g = .int .u32 (chkFold h (zs.take m)))
          (fun _ i => zs.length - (intOf i).toNat)
        case atStart => exact ⟨0, Nat.zero_le _, rfl, rfl⟩
        case round =>
          obtain ⟨m, hm, rfl, rfl⟩ := hrel
          have hcm : m < zs.length → w.cell? ⟨b', off' + m, none⟩ = some (.int .u8 (zs.getD m 0)) := fun hm' => hc' m hm'
          go_wp2_with (go_at_call 25; refine (chkstep_any _ _ _).mono ?_; rintro e w' ⟨rfl, rfl⟩)
          · have hlt2 : m < zs.length := by assumption
            go_round
            case rel => exact ⟨m + 1, by omega, by go_num, by rw [chkFold_step h zs m hlt2]⟩
            case measure => simp [intOf]; omega
          · have : m = zs.length := by omega
            subst this
            go_round
            case rel => exact ⟨k + 1, by omega, by go_num, by rw [HS.out]; simp⟩
            case measure => simp [intOf]; omega
    · have : k = zss.length := by omega
      subst this
      go_wp2
      go_ret
      exact ⟨by simp, rfl⟩

set_option maxHeartbeats 800000 in
theorem chk_raw (v : Value) (zss : List (List Int)) (w : World) (h : PartsAt w v zss) :
    Calls Try.prog 18 #[v] w fun e w' => e = .returned (.int .u32 (bits BinOp.xor IntKind.u32 IntKind.u32.max (chkFolds 4294967295 zss))) ∧ w' = w := by
  obtain ⟨a, cap, rfl, hn, h⟩ := h
  rcases h with rfl | ⟨b, off, rfl, hc⟩
  · go_enter Try.func18, Try.ntmps18
    go_wp2
    refine wp_loop_rounds 1 ?_
    rw [rounds_succ]
    go_wp2
    go_ret
    exact ⟨rfl, rfl⟩
  · exact chk_walk b off cap zss w hn hc

theorem chk_any (v : Value) (zss : List (List Int)) (w : World) (h : PartsAt w v zss) :
    Calls Try.prog 18 #[v] w fun e w' => e = .returned (.int .u32 (4294967295 - chkFolds 4294967295 zss)) ∧ w' = w := by
  have hr := chkFolds_range zss 4294967295 (by decide) (by decide)
  have hx := xor_max _ hr.1 hr.2
  rw [← hx]
  exact chk_raw v zss w h

set_option maxHeartbeats 800000 in
theorem rchk_any (v : Value) (zs : List Int) (w : World) (h : BytesAt w v zs) :
    Calls Try.prog 20 #[v] w fun e w' => e = .returned (.int .u32 (4294967295 - chkFold 4294967295 zs)) ∧ w' = w := by
  obtain ⟨a, cap, rfl, hn, h⟩ := h
  rcases h with rfl | ⟨b, off, rfl, hc⟩
  · go_enter Try.func20, Try.ntmps20
    go_wp2
    refine wp_loop_rounds 1 ?_
    rw [rounds_succ]
    go_wp2
    go_ret
    exact ⟨rfl, rfl⟩
  · go_enter Try.func20, Try.ntmps20
    go_wp2
    go_loop [3, 4] (fun h i => ∃ k : Nat, k ≤ zs.length ∧ i = .int .i64 k ∧ h = .int .u32 (chkFold 4294967295 (zs.take k)))
      (fun _ i => zs.length - (intOf i).toNat)
    case atStart => exact ⟨0, Nat.zero_le _, rfl, rfl⟩
    case round =>
      obtain ⟨m, hm, rfl, rfl⟩ := hrel
      by_cases hlt : m < zs.length
      · have hcm := hc m hlt
        have hst := chkFold_step 4294967295 zs m hlt
        have hz : zs.getD m 0 = zs[m] := by simp [List.getD, List.getElem?_eq_getElem hlt]
        rw [hz] at hcm
        generalize zs[m] = z at hcm hst
        generalize chkFold 4294967295 (zs.take m) = h at hst ⊢
        have HS : Hid (_ = _) := hst
        clear hst hz hc
        obtain ⟨r0, r1⟩ := X32_range h (z % 4294967296)
        have hc0 : ∃ c0, c0 = bits BinOp.xor IntKind.u32 h (z % 4294967296) := ⟨_, rfl⟩
        obtain ⟨c0, hc0⟩ := hc0
        have HC : Hid (chkStep h z = crcBits 8 c0) := by rw [hc0]; exact show chkStep h z = _ from rfl
        replace r0 : 0 ≤ c0 := by rw [hc0]; exact r0
        replace r1 : c0 < 4294967296 := by rw [hc0]; exact r1
        have hc1 := hc0.symm
        clear hc0
        go_wp2
        go_loop [3, 5] (fun c i => ∃ k : Nat, k ≤ 8 ∧ i = .int .i64 k ∧ c = .int .u32 (crcBits k c0) ∧ 0 ≤ crcBits k c0 ∧ crcBits k c0 < 4294967296)
          (fun _ i => 8 - (intOf i).toNat)
        case atStart => exact ⟨0, by omega, rfl, rfl, r0, r1⟩
        case round =>
          obtain ⟨k, hk, rfl, rfl, h0, h1⟩ := hrel
          have hb := crcBit_range _ h0 h1
          have he : crcBit (crcBits k c0) = crcBits (k + 1) c0 := rfl
          rw [he] at hb
          have HE : Hid (_ = _) := he
          clear he
          go_wp2
          · have hk8 : (k : Int) < 8 := by assumption
            have hodd : (crcBits k c0 % 2 == 1) = true := by assumption
            have hv : crcBits (k + 1) c0 = bits BinOp.xor IntKind.u32 (crcBits k c0 / 2) 3988292384 := by
              rw [← HE.out, crcBit, if_pos (by simpa using hodd)]
            go_round
            case rel => exact ⟨k + 1, by omega, by go_num, by rw [hv], hb.1, hb.2⟩
            case measure => simp [intOf]; omega
          · have hk8 : (k : Int) < 8 := by assumption
            have hodd : (crcBits k c0 % 2 == 1) = false := by assumption
            have hv : crcBits (k + 1) c0 = crcBits k c0 / 2 := by
              rw [← HE.out, crcBit, if_neg (by simpa using hodd)]
            go_round
            case rel => exact ⟨k + 1, by omega, by go_num, by rw [hv], hb.1, hb.2⟩
            case measure => simp [intOf]; omega
          · have : k = 8 := by omega
            subst this
            go_round
            case rel => exact ⟨m + 1, by omega, by go_num, by rw [HS.out, HC.out]⟩
            case measure => simp [intOf]; omega
      · have : m = zs.length := by omega
        subst this
        go_wp2
        go_ret
        refine ⟨?_, rfl⟩
        obtain ⟨r0, r1⟩ := chkFold_range zs 4294967295 (by decide) (by decide)
        have hq : (4294967295 - chkFold 4294967295 zs) % 4294967296 = 4294967295 - chkFold 4294967295 zs := by omega
        rw [hq]
        rfl
end Go.Proofs.Ytlcaphickofccaa
