/-
  ParseDeep by a contract. No condition but that the program's variables hold what its text lays there.
-/
import Derived.Test.YtgeigegaoadmfaaDoorJAnz
namespace Go.Proofs.YtgeigegaoadmfaaDoor
open Go.RowKit

theorem mod_nat (n0 : Int) (m : Nat) (h0 : 0 < m) (h1 : m ≤ 1000) : ∃ N : Nat, wrap64 ((IntKind.u64.wrap n0).tmod (m : Int)) = (N : Int) ∧ N < m := by
  have a := Int.tmod_lt_of_pos (IntKind.u64.wrap n0) (show (0 : Int) < (m : Int) by omega)
  have hw : 0 ≤ IntKind.u64.wrap n0 := by rw [IntKind.wrap_u64]; omega
  have b := Int.tmod_nonneg (m : Int) hw
  refine ⟨((IntKind.u64.wrap n0).tmod (m : Int)).toNat, ?_, by omega⟩
  have c : wrap64 ((IntKind.u64.wrap n0).tmod (m : Int)) = (IntKind.u64.wrap n0).tmod (m : Int) := by
    unfold wrap64
    omega
  rw [c]
  omega
theorem snoc_rep {t : ByteArray} {i : Nat} {c : UInt8} (h : t.data.toList = List.replicate i c) : (t ++ ⟨#[c]⟩ : ByteArray).data.toList = List.replicate (i + 1) c := by
  rw [List.replicate_succ', ← h]
  simp

theorem app_rep {t : ByteArray} {j : Nat} {c : UInt8} {l : Bs} (h : t.data.toList = l ++ List.replicate j c) : (t ++ ⟨#[c]⟩ : ByteArray).data.toList = l ++ List.replicate (j + 1) c := by
  rw [List.replicate_succ', ← List.append_assoc, ← h]
  simp

set_option maxHeartbeats 3200000 in
set_option maxRecDepth 100000 in
theorem deep_walk (n0 k0 : Int) (w : World) (hg : Gl w) (hi : Inf w) :
    Calls Tryd.prog 5 #[.int .i64 n0, .int .i64 k0] w fun e w' => e = .returned (.bool true) ∧ Below w.heap.size w w' := by
  have ha := awake_any w hg hi
  have H : Hid (Gl w ∧ Inf w) := ⟨hg, hi⟩
  clear hg hi
  go_enter Tryd.func5, Tryd.ntmps5
  go_wp2_with fail
  refine ha.mono ?_
  rintro e w1 ⟨rfl, b1⟩
  have B1 : Hid (Below w.heap.size w w1) := b1
  clear ha b1
  go_wp2_with fail
  obtain ⟨N, hN, hN4⟩ : ∃ N : Nat, wrap64 ((IntKind.u64.wrap n0).tmod 40) = (N : Int) ∧ N < 40 := mod_nat n0 40 (by omega) (by omega)
  obtain ⟨K, hK, hK3⟩ : ∃ K : Nat, wrap64 ((IntKind.u64.wrap k0).tmod 300) = (K : Int) ∧ K < 300 := mod_nat k0 300 (by omega) (by omega)
  rw [hN, hK]
  clear hN hK
  go_loopg [5, 6] N (fun g sv iv wr => ∃ (i : Nat) (t : ByteArray), sv = .string t ∧ iv = .int .i64 i ∧ i + g = N ∧ wr = w1 ∧ Hid (t.data.toList = List.replicate i 33))
  case atStart => exact ⟨0, ⟨#[]⟩, rfl, rfl, by omega, rfl, rfl⟩
  case round =>
    obtain ⟨i, t, rfl, rfl, hi, rfl, HT⟩ := hrel
    have hts : t.size = i := by rw [bsize, HT.out, List.length_replicate]
    by_cases hin : i < N
    · have hii : (i : Int) < (N : Int) := by omega
      go_wp2_with fail
      go_roundg (gk - 1)
      case measure => omega
      case rel => exact ⟨i + 1, _, rfl, by go_num, by omega, rfl, snoc_rep HT.out⟩
    · obtain rfl : i = N := by omega
      clear hi hin
      go_wp2_with fail
      have HT1 : Hid (t.data.toList = List.replicate i 33 ++ List.replicate 0 40) := by show _ = _; rw [HT.out]; simp
      clear hts HT
      go_loopg [5, 7] K (fun g sv iv wq => ∃ (j : Nat) (t : ByteArray), sv = .string t ∧ iv = .int .i64 j ∧ j + g = K ∧ wq = wr ∧ Hid (t.data.toList = List.replicate i 33 ++ List.replicate j 40))
      case atStart => exact ⟨0, t, rfl, rfl, by omega, rfl, HT1.out⟩
      case round =>
        clear HT1
        obtain ⟨j, t, rfl, rfl, hj, rfl, HT⟩ := hrel
        have hts : t.size = i + j := by rw [bsize, HT.out]; simp
        by_cases hjn : j < K
        · have hjj : (j : Int) < (K : Int) := by omega
          go_wp2_with fail
          go_roundg (gk - 1)
          case measure => omega
          case rel => exact ⟨j + 1, _, rfl, by go_num, by omega, rfl, app_rep HT.out⟩
        · obtain rfl : j = K := by omega
          clear hj hjn
          go_wp2_with fail
          have HT1 : Hid ((t ++ ⟨#[97]⟩ : ByteArray).data.toList = (List.replicate i 33 ++ (List.replicate j 40 ++ [97])) ++ List.replicate 0 41) := by show _ = _; simp [HT.out]
          obtain ⟨T, hT⟩ : ∃ T, (t ++ ⟨#[97]⟩ : ByteArray) = T := ⟨_, rfl⟩
          rw [hT] at HT1 ⊢
          clear hts HT hT
          go_loopg [5, 8] j (fun g sv iv wq => ∃ (m : Nat) (t : ByteArray), sv = .string t ∧ iv = .int .i64 m ∧ m + g = j ∧ wq = wr ∧ Hid (t.data.toList = (List.replicate i 33 ++ (List.replicate j 40 ++ [97])) ++ List.replicate m 41))
          case atStart => exact ⟨0, T, rfl, rfl, by omega, rfl, HT1.out⟩
          case round =>
            clear HT1
            obtain ⟨m, t, rfl, rfl, hm, rfl, HT⟩ := hrel
            have hts : t.size = i + j + 1 + m := by rw [bsize, HT.out]; simp; omega
            by_cases hmn : m < j
            · have hmm : (m : Int) < (j : Int) := by omega
              go_wp2_with fail
              go_roundg (gk - 1)
              case measure => omega
              case rel => exact ⟨m + 1, _, rfl, by go_num, by omega, rfl, app_rep HT.out⟩
            · obtain rfl : m = j := by omega
              clear hm hmn
              go_wp2_with fail
              obtain ⟨us, x, hsc, hgm, hdx⟩ := deep (t.size : Int) i m
              have htl : t.data.toList = List.replicate i 33 ++ (List.replicate m 40 ++ 97 :: List.replicate m 41) := by rw [HT.out]; simp
              rw [← htl] at hsc
              have hwf := read_wf hsc (by rw [← bsize]; omega) hgm
              have hrn := rn_of hgm
              refine (parse_ans t (by omega) hsc wr (H.out.1.below B1.out) (H.out.2.below B1.out)).mono ?_
              rintro e w2 ⟨⟨o, y, a, b, p, l, q, r⟩, at1, c1, rfl, b2, hp⟩
              have B2 : Hid (Below w.heap.size w w2) := B1.out.trans (b2.mono B1.out.size)
              clear b2 htl hsc hgm hts HT
              by_cases h24 : 24 ≤ i
              · obtain ⟨rfl, rfl, hv⟩ := hp.deep hrn (by omega)
                cases hv
                clear hp hrn
                go_upto_region 20 with fail
                obtain ⟨W3, m3, hW3, hm3, hx3, bW3, c3, hB3, hlt3⟩ := lay6 B2.out B2.out.size 28 (.int .i64 0) (.string ⟨#[]⟩) (.int .i64 0) (.int .u64 0) (.slice none 0 0) (.int .i64 0)
                have B3 : Hid (Below w.heap.size w W3) := bW3
                obtain ⟨x0, x1, x2, x3, x4, x5⟩ := hx3.cells
                clear hx3 bW3 c3
                rw [hW3, hm3]
                clear hW3 hm3
                have hii : (24 : Int) ≤ (i : Int) := by omega
                go_wp2_with fail
                go_ret
                exact ⟨rfl, B3.out⟩
              · obtain ⟨rfl, rfl, hn, _⟩ := hp.okay hrn (by omega)
                obtain ⟨W3, m3, hW3, hm3, hx3, bW3, c3, hB3, hlt3⟩ := lay6 B2.out B2.out.size 28 (.int .i64 o) (.string ⟨y.toArray⟩) (.int .i64 a) (.int .u64 b) (.slice p l q) (.int .i64 r)
                have B3 : Hid (Below w.heap.size w W3) := bW3
                obtain ⟨x0, x1, x2, x3, x4, x5⟩ := hx3.cells
                have hnd := lnode_any x (by omega) _ W3 _ (hn.below c3)
                have HD : Hid (∀ (Q : Nat → Prop) (w : World) (v : NV), NdIn Q w v x → Calls Tryd.prog 11 #[v.val] w fun e w' => e = .returned (.int .i64 (x.dep : Nat)) ∧ Below w.heap.size w w') := rdepth_any x (by omega)
                have HE : Hid (x.dep = i + 1) := hdx
                have hii : ¬ (24 : Int) ≤ (i : Int) := by omega
                clear hx3 bW3 c3 hn hp hrn hwf hdx
                go_upto_region 20 with fail
                clear hW3 hm3
                go_wp2_with (go_at_call 9; refine hnd.mono ?_; rintro e w4 ⟨_, rfl, nv, rfl, hn4, b4⟩)
                have B4 : Hid (Below w.heap.size w w4) := B3.out.trans (b4.mono B3.out.size)
                clear hnd b4
                go_wp2_with (go_at_call 11; refine (HD.out _ _ _ hn4).mono ?_; rintro e w5 ⟨rfl, b5⟩)
                rw [HE.out]
                go_wp2_with fail
                go_ret
                exact ⟨by show Ending.returned (.bool (((i + 1 : Nat) : Int) == (i : Int) + 1)) = _; simp, B4.out.trans (b5.mono B4.out.size)⟩

end Go.Proofs.YtgeigegaoadmfaaDoor
