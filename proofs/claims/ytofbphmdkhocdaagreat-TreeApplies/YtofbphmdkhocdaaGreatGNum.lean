/-
  The reference's Number and Value (forebearref07), each by a contract. No condition but that each number fits its kind.
-/
import Derived.Test.YtofbphmdkhocdaaGreatGBytes
import Derived.Test.YtofbphmdkhocdaaGreatGVal
namespace Go.Proofs.YtofbphmdkhocdaaGreat
open Go.RowKit

set_option maxHeartbeats 1600000 in
set_option maxRecDepth 100000 in
/-- The reference's Number. -/
theorem rnumber_any (n k : Nat) (hn : n < 18446744073709551616) (hk : k ≤ 8) (w : World) :
    Calls Tryz.prog 66 #[.int .u64 (n : Int), .int .i64 (k : Int)] w fun e w' => e = .returned (tx (low k n)) ∧ Below w.heap.size w w' := by
  go_enter Tryz.func66, Tryz.ntmps66
  go_wp2_with fail
  go_loopg [0, 5, 6] k (fun m nv sv iv wr => ∃ (i p : Nat) (s : ByteArray), iv = .int .i64 i ∧ i + m = k ∧ nv = .int .u64 (p : Int) ∧ sv = .string s ∧ p < 18446744073709551616 ∧ Hid (∃ t : Bs, s = ⟨t.toArray⟩ ∧ t.length = i ∧ low k n = low m p ++ t ∧ Below w.heap.size w wr))
  case atStart => exact ⟨0, n, _, rfl, by omega, rfl, rfl, hn, [], rfl, rfl, by simp, Below.refl _ _⟩
  case round =>
    obtain ⟨i, p, s, rfl, hi, rfl, rfl, hp, HR⟩ := hrel
    by_cases hin : i < k
    · have id : (i : Int) < (k : Int) := by omega
      have hcv := conv_str (bat_lit wr [UInt8.ofNat p] 5 (0, 0) #[.int .u8 ((p : Int) % 256)] (by simp [UInt8.toNat_ofNat']) 1 rfl (by simp))
      obtain ⟨z, hz⟩ : ∃ z : ByteArray, z = ⟨[UInt8.ofNat p].toArray⟩ := ⟨_, rfl⟩
      rw [show tx [UInt8.ofNat p] = Value.string z by rw [hz]] at hcv
      have hsz : ¬ (9223372036854775807 < z.size + s.size) := by
        obtain ⟨t, e1, e2, _⟩ := HR.out
        rw [hz, e1]
        show ¬ (9223372036854775807 < 1 + t.toArray.size)
        simp only [List.size_toArray]
        omega
      have HZ : Hid (z = ⟨[UInt8.ofNat p].toArray⟩) := hz
      clear hz
      go_wp2
      go_roundg (gk - 1)
      case measure => omega
      case rel =>
        obtain ⟨t, e1, e2, e3, e4⟩ := HR.out
        refine ⟨i + 1, p / 256, z ++ s, by go_num, by omega, by go_num, rfl, by omega, UInt8.ofNat p :: t, ?_, by simp [e2], ?_, e4.trans ((bz1 wr _).mono e4.size)⟩
        · rw [HZ.out, e1]
          rfl
        · obtain ⟨g, rfl⟩ : ∃ g, gk = g + 1 := ⟨gk - 1, by omega⟩
          rw [e3, Nat.add_sub_cancel]
          simp [low]
    · obtain rfl : i = k := by omega
      obtain ⟨t, e1, e2, e3, e4⟩ := HR.out
      have hg : gk = 0 := by omega
      rw [hg] at e3
      have e5 : low i n = t := by rw [e3]; rfl
      have HH : Hid (s = ⟨(low i n).toArray⟩ ∧ Below w.heap.size w wr) := ⟨by rw [e5]; exact e1, e4⟩
      clear e1 e2 e3 e4 e5 hg
      go_wp2
      go_ret
      exact ⟨by rw [HH.out.1]; rfl, HH.out.2⟩

end Go.Proofs.YtofbphmdkhocdaaGreat
