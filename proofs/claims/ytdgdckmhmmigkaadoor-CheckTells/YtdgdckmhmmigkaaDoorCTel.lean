/-
  CheckTells by a contract. No condition but that the program's variables hold what its text lays there.
-/
import Derived.Test.YtdgdckmhmmigkaaDoorJBck
import Derived.Test.YtdgdckmhmmigkaaDoorJRef
namespace Go.Proofs.YtdgdckmhmmigkaaDoor
open Go.RowKit

set_option maxHeartbeats 3200000 in
set_option maxRecDepth 100000 in
theorem tells_walk (s : ByteArray) (hm : s.size ≤ 9223372036854775807) (w : World) (hg : Gl w) (hi : Inf w) (hf : Fns w) :
    Calls Tryd.prog 3 #[.string s] w fun e w' => e = .returned (.bool true) ∧ Below w.heap.size w w' := by
  have ha := awake24 w hg hi hf
  have H : Hid (Gl w ∧ Inf w ∧ Fns w) := ⟨hg, hi, hf⟩
  clear hg hi hf
  go_enter Tryd.func3, Tryd.ntmps3
  go_wp2_with fail
  refine ha.mono ?_
  rintro e w1 ⟨rfl, b1⟩
  have B1 : Hid (Below w.heap.size w w1) := b1
  clear ha b1
  go_wp2_with fail
  refine (parse_any s hm w1 (H.out.1.below B1.out) (H.out.2.1.below B1.out)).mono ?_
  rintro e w2 ⟨v, a, c, rfl, b2, hp⟩
  rcases hp with ⟨ts, nd, hl, hsc, hgm, hdp, rfl, rfl, hn⟩ | ⟨rfl, hc⟩
  · obtain ⟨o, y, i, j, p, l, q, r⟩ := v
    obtain ⟨W3, m3, hW3, hm3, hx3, bW3, c3, hB3, hlt3⟩ := lay6 (B1.out.trans (b2.mono B1.out.size)) (by have := B1.out.size; have := b2.size; omega) 28 (.int .i64 o) (.string ⟨y.toArray⟩) (.int .i64 i) (.int .u64 j) (.slice p l q) (.int .i64 r)
    have B3 : Hid (Below w.heap.size w W3) := bW3
    obtain ⟨hwf, hwt, hsz⟩ := read_wf hsc hl hgm
    have hN := hn.below c3
    have hcc := tcheck_any nd (by omega) _ W3 _ (H.out.2.2.below B3.out) hN
    have HC : Hid (Calls Tryd.prog 8 #[.agg #[.int .i64 o, .string ⟨y.toArray⟩, .int .i64 i, .int .u64 j, .slice p l q, .int .i64 r]] W3 fun e w' => e = .returned (ckV nd.ck) ∧ Below W3.heap.size W3 w') := hcc
    have HX : Hid (Box6 W3 m3 28 (.int .i64 o) (.string ⟨y.toArray⟩) (.int .i64 i) (.int .u64 j) (.slice p l q) (.int .i64 r)) := hx3
    have hll := fun u (b : Below W3.heap.size W3 u) => lnode_any nd (by omega) _ u _ (hN.below b)
    have HL : Hid (∀ u, Below W3.heap.size W3 u → Calls Tryd.prog 10 #[.agg #[.int .i64 o, .string ⟨y.toArray⟩, .int .i64 i, .int .u64 j, .slice p l q, .int .i64 r]] u fun e w' => ∃ x, e = .returned x ∧ Nw u nd x w') := hll
    have HK : Hid (∀ (Q : Nat → Prop) (u : World) (v : NV), NdIn Q u v nd → Calls Tryd.prog 9 #[v.val] u fun e w' => e = .returned (ckV nd.ck) ∧ Below u.heap.size u w') := rcheck_any nd hwf (by omega)
    obtain ⟨⟨rt, ra, re⟩, hR⟩ : ∃ R, nd.ck = R := ⟨_, rfl⟩
    rw [hR] at HC HK
    obtain ⟨x0, x1, x2, x3, x4, x5⟩ := hx3.cells
    clear b2 hx3 bW3 c3 hn hN hsc hgm hwf hwt hsz hR hcc hll
    go_upto_region 4 with fail
    clear hW3 hm3
    go_wp2_with (go_at_call 8; refine HC.out.mono ?_; rintro e w4 ⟨rfl, b4⟩; simp only [ckV]; have B4 : Hid (Below W3.heap.size W3 w4) := b4; obtain ⟨y0, y1, y2, y3, y4, y5⟩ := (HX.out.below b4).cells; clear b4)
    refine (HL.out w4 B4.out).mono ?_
    rintro e w5 ⟨_, rfl, nv, rfl, hn5, b5⟩
    have B5 : Hid (Below W3.heap.size W3 w5) := B4.out.trans (b5.mono B4.out.size)
    clear b5
    go_wp2_with (go_at_call 9; refine (HK.out _ _ _ hn5).mono ?_; rintro e w6 ⟨rfl, b6⟩; simp only [ckV])
    go_ret
    exact ⟨by simp, B3.out.trans ((B5.out.trans (b6.mono B5.out.size)).mono B3.out.size)⟩
  · have B2 : Hid (Below w.heap.size w w2) := B1.out.trans (b2.mono B1.out.size)
    have hc0 : (c == 0) = false := by rw [beq_eq_false_iff_ne]; omega
    have hc1 : ¬ c = 0 := by omega
    clear b2 hc
    go_upto_region 4 with fail
    obtain ⟨W3, m3, hW3, hm3, hx3, bW3, c3, hB3, hlt3⟩ := lay6 B2.out B2.out.size 28 (.int .i64 0) (.string ⟨#[]⟩) (.int .i64 0) (.int .u64 0) (.slice none 0 0) (.int .i64 0)
    rw [hW3, hm3]
    clear hW3 hm3
    go_wp2_with fail
    go_ret
    exact ⟨rfl, bW3⟩

end Go.Proofs.YtdgdckmhmmigkaaDoor
