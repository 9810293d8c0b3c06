/-
  DiskPlays' walk, and the statements' built: of whatever script it returns a disk that calls have made. No condition but that what is handed in is no longer than any memory holds.
-/
import Derived.Test.YtlhlipjbcapidaaScript
namespace Go.Proofs.Ytlhlipjbcapidaa
open Go.RowKit

theorem six_zero (w : World) : Six (w.alloc (.cells #[.slice none 0 0, .int .i64 0, .bool false, .bool false, .int .i64 0, .int .i64 0] 28)) w.heap.size (.slice none 0 0) (.int .i64 0) (.bool false) (.bool false) (.int .i64 0) (.int .i64 0) := Six.new w _ _ _ _ _ _

/-- Ahead of the first call. -/
theorem PI.start {W w1 w2 : World} {b mb : Nat} (hW : W.heap.size ≤ mb) (hd : DiskAt w1 b dk0 (fun i => W.heap.size ≤ i ∧ i < w1.heap.size)) (hb : Below W.heap.size W w1) (hm : mb = w1.heap.size) (h2 : Below w1.heap.size w1 w2) (hs : Six w2 mb (.slice none 0 0) (.int .i64 0) (.bool false) (.bool false) (.int .i64 0) (.int .i64 0)) : PI W mb w2 b none 0 0 dk0 0 (fun i => W.heap.size ≤ i ∧ i < w1.heap.size) :=
  ⟨hd.below h2, ⟨none, 0, 0, rfl, rfl, Nat.le_refl _, RdG.nil _ _ _, fun h => absurd h (by omega)⟩, hs, Dk.ok0, Nat.le_refl _, fun k q => q.1, fun q => by omega, hW, hb.trans (h2.mono hb.size)⟩

set_option maxHeartbeats 6400000 in
set_option maxRecDepth 100000 in
theorem plays_walk (so : Option Addr) (n sc : Nat) (xs : List AV) (W : World) (hl : xs.length = n) (hn : n ≤ 4611686018427387904) (hr : RdG encA W so xs) (ha : ∀ a ∈ xs, ActIn W a) :
    Calls Try.prog 3 #[.slice so n sc] W fun e w' => e = .returned (.bool true) ∧ Below W.heap.size W w' := by
  have H : Hid (xs.length = n ∧ RdG encA W so xs ∧ ∀ a ∈ xs, ActIn W a) := ⟨hl, hr, ha⟩
  clear hl hr ha
  obtain ⟨K, hK⟩ : ∃ K, min n 200 = K := ⟨_, rfl⟩
  go_enter Try.func3, Try.ntmps3
  go_wp2_with fail
  refine (awake_walk W).mono ?_
  rintro e w0 ⟨rfl, B0⟩
  have HB : Hid (Below W.heap.size W w0) := B0
  clear B0
  go_wp2_with fail
  refine (new_any w0).mono ?_
  rintro e w1 ⟨b, rfl, D1, B1⟩
  have M1 : Hid (DiskAt w1 b dk0 (fun i => w0.heap.size ≤ i ∧ i < w1.heap.size) ∧ Below w0.heap.size w0 w1) := ⟨D1, B1⟩
  clear D1 B1
  go_wp2_with fail
  obtain ⟨mb, hmb⟩ : ∃ mb, w1.heap.size = mb := ⟨_, rfl⟩
  have P0 : Hid (PI w0 mb (w1.alloc (.cells #[.slice none 0 0, .int .i64 0, .bool false, .bool false, .int .i64 0, .int .i64 0] 28)) b none 0 0 dk0 0 (fun i => w0.heap.size ≤ i ∧ i < w1.heap.size)) := PI.start (by rw [← hmb]; exact M1.out.2.size) M1.out.1 M1.out.2 hmb.symm (bz1 _ _) (by rw [← hmb]; exact six_zero w1)
  rw [hmb]
  clear M1 hmb
  go_loopg [3, 5, 6] K (fun k dv iv _ wr => ∃ (i b : Nat) (ao : Option Addr) (L c : Nat) (D : Dk) (S : Nat → Prop), dv = .pointer (some ⟨b, 0, none⟩) ∧ iv = .int .i64 i ∧ i + k = K ∧ Hid (PI w0 mb wr b ao L c D i S))
  case atStart => exact ⟨0, b, none, 0, 0, dk0, _, rfl, rfl, by omega, P0⟩
  case round =>
    obtain ⟨i, b, ao, L, c, D, S, rfl, rfl, hi, HR⟩ := hrel
    by_cases hin : i < K
    · have i1 : (i : Int) < (n : Int) := by omega
      have i2 : (i : Int) < 200 := by omega
      have hix : i < xs.length := by rw [H.out.1]; omega
      obtain ⟨a, hax⟩ : ∃ a, xs[i]? = some a := ⟨_, List.getElem?_eq_getElem hix⟩
      obtain ⟨sb, sf, rfl, hlt⟩ := H.out.2.1.some_of hax
      obtain ⟨_, c0, c1, c2, c3, c4, c5, c6⟩ := H.out.2.1.acts hax
      have bw : Below W.heap.size W wr := HB.out.trans (HR.out.bel.mono HB.out.size)
      have k0 := (bw.cell (p := ⟨sb, sf + i * 7, none⟩) hlt).trans c0
      have k1 := (bw.cell (p := ⟨sb, sf + i * 7 + 1, none⟩) hlt).trans c1
      have k2 := (bw.cell (p := ⟨sb, sf + i * 7 + 2, none⟩) hlt).trans c2
      have k3 := (bw.cell (p := ⟨sb, sf + i * 7 + 3, none⟩) hlt).trans c3
      have k4 := (bw.cell (p := ⟨sb, sf + i * 7 + 4, none⟩) hlt).trans c4
      have k5 := (bw.cell (p := ⟨sb, sf + i * 7 + 5, none⟩) hlt).trans c5
      have k6 := (bw.cell (p := ⟨sb, sf + i * 7 + 6, none⟩) hlt).trans c6
      have bd : Below W.heap.size W wr.drew := bw.drew
      have hS : ∀ k, S k → W.heap.size ≤ k := fun k q => by have := HR.out.low k q; have := HB.out.size; omega
      obtain ⟨data, hact⟩ := (H.out.2.2 a (List.mem_of_getElem? hax)).at bd hS
      have PD : PI w0 mb wr.drew b ao L c D i S := HR.out.below (Below.refl _ wr).drew
      have hp := play_any PD.disk.lt PD.disk PD.ok (by have := PD.wrt; omega) (fun k q => .inl q) (fun k q => by
        rcases q with q | q
        · exact PD.disk.lt k q
        · rw [q]; exact PD.box.lt) PD.ref a.kind a.mask hact
      have HP : Hid (PI w0 mb wr.drew b ao L c D i S) := PD
      obtain ⟨x0, x1, x2, x3, x4, x5⟩ := HR.out.box.cells
      obtain ⟨kind, nm, tt, da, dn, dc, N, keep, mask⟩ := a
      clear c0 c1 c2 c3 c4 c5 c6 bw bd hS hact PD hax
      simp only at k0 k1 k2 k3 k4 k5 k6 hp
      go_wp2_with fail
      go_region_with
        (first | (go_at_call 9; refine hp.mono ?_; rintro e w2 ⟨b2, v2, rfl, HL⟩; obtain ⟨a3, M, c3, D', rfl, sx, hst⟩ := HP.out.step HL; obtain ⟨y0, y1, y2, y3, y4, y5⟩ := sx.cells; obtain ⟨f0, f1, f2, f3, f4, f5⟩ := sx.thaw; have HST : Hid _ := hst; clear hst sx HL))
      all_goals
        obtain ⟨w3, hw3⟩ : ∃ w3, (((((w2.setCell ⟨mb, 0, none⟩ (.slice a3 M c3)).setCell ⟨mb, 1, none⟩ (.int .i64 (D'.writes : Int))).setCell ⟨mb, 2, none⟩ (.bool D'.armed)).setCell ⟨mb, 3, none⟩ (.bool D'.dead)).setCell ⟨mb, 4, none⟩ (.int .i64 (D'.after : Int))).setCell ⟨mb, 5, none⟩ (.int .i64 (D'.keep : Int)) = w3 := ⟨_, rfl⟩
        obtain ⟨S', P3⟩ := HST.out w3 hw3
        have HP3 : Hid (PI w0 mb w3 b2 a3 M c3 D' (i + 1) S') := P3
        have ht : Calls Try.prog 10 #[.pointer (some ⟨b2, 0, none⟩), rv a3 M c3 D'] w3 fun e w' => e = .returned (.bool true) ∧ Below w3.heap.size w3 w' := by
          obtain ⟨a3', M', c3', e, hM, hc, hR, hF⟩ := P3.ref
          cases e
          exact tells_walk P3.disk P3.ok hM hR
        clear x0 x1 x2 x3 x4 x5 y0 y1 y2 y3 y4 y5 f0 f1 f2 f3 f4 f5 k0 k1 k2 k3 k4 k5 k6 HST hp
        obtain ⟨x0, x1, x2, x3, x4, x5⟩ := P3.box.cells
        clear P3
        go_wp2_with fail
        refine ht.mono ?_
        rintro e w4 ⟨rfl, B4⟩
        have HP4 : Hid (PI w0 mb w4 b2 a3 M c3 D' (i + 1) S') := HP3.out.below B4
        clear B4 ht x0 x1 x2 x3 x4 x5
        go_wp2
        go_roundg (gk - 1)
        case measure => omega
        case rel => exact ⟨i + 1, b2, a3, M, c3, D', S', rfl, by go_num, by omega, HP4⟩
    · obtain rfl : i = K := by omega
      have BE : Hid (Below W.heap.size W wr) := HB.out.trans (HR.out.bel.mono HB.out.size)
      by_cases h2 : n ≤ 200
      · have i1 : decide ((i : Int) < (n : Int)) = false := by rw [decide_eq_false_iff_not]; omega
        have i1' : decide (i < n) = false := by rw [decide_eq_false_iff_not]; omega
        clear hK
        go_wp2
        go_ret
        exact ⟨rfl, BE.out⟩
      · have i1 : (i : Int) < (n : Int) := by omega
        have i2 : decide ((i : Int) < 200) = false := by rw [decide_eq_false_iff_not]; omega
        have i2' : decide (i < 200) = false := by rw [decide_eq_false_iff_not]; omega
        clear hK
        go_wp2
        go_ret
        exact ⟨rfl, BE.out⟩
set_option maxHeartbeats 6400000 in
set_option maxRecDepth 100000 in
theorem built_walk (so : Option Addr) (n sc : Nat) (xs : List AV) (W : World) (hl : xs.length = n) (hn : n ≤ 4611686018427387904) (hr : RdG encA W so xs) (ha : ∀ a ∈ xs, ActIn W a) :
    Calls Try.prog 11 #[.slice so n sc] W fun e w' => ∃ b, e = .returned (.tuple #[.pointer (some ⟨b, 0, none⟩), .bool true]) ∧ Hid (∃ D, MineE W.heap.size W w' b D ∧ D.ok ∧ D.writes ≤ 200) := by
  have H : Hid (xs.length = n ∧ RdG encA W so xs ∧ ∀ a ∈ xs, ActIn W a) := ⟨hl, hr, ha⟩
  clear hl hr ha
  obtain ⟨K, hK⟩ : ∃ K, min n 200 = K := ⟨_, rfl⟩
  obtain ⟨w0, hw0⟩ : ∃ w0, w0 = W := ⟨_, rfl⟩
  have HB : Hid (Below W.heap.size W w0) := by rw [hw0]; exact Below.refl _ _
  go_enter Try.func11, Try.ntmps11
  go_wp2_with fail
  rw [← hw0]
  refine (new_any w0).mono ?_
  rintro e w1 ⟨b, rfl, D1, B1⟩
  have M1 : Hid (DiskAt w1 b dk0 (fun i => w0.heap.size ≤ i ∧ i < w1.heap.size) ∧ Below w0.heap.size w0 w1) := ⟨D1, B1⟩
  clear D1 B1
  go_wp2_with fail
  obtain ⟨mb, hmb⟩ : ∃ mb, w1.heap.size = mb := ⟨_, rfl⟩
  have P0 : Hid (PI w0 mb (w1.alloc (.cells #[.slice none 0 0, .int .i64 0, .bool false, .bool false, .int .i64 0, .int .i64 0] 28)) b none 0 0 dk0 0 (fun i => w0.heap.size ≤ i ∧ i < w1.heap.size)) := PI.start (by rw [← hmb]; exact M1.out.2.size) M1.out.1 M1.out.2 hmb.symm (bz1 _ _) (by rw [← hmb]; exact six_zero w1)
  rw [hmb]
  clear M1 hmb
  go_loopg [4, 6, 7] K (fun k dv iv _ wr => ∃ (i b : Nat) (ao : Option Addr) (L c : Nat) (D : Dk) (S : Nat → Prop), dv = .pointer (some ⟨b, 0, none⟩) ∧ iv = .int .i64 i ∧ i + k = K ∧ Hid (PI w0 mb wr b ao L c D i S))
  case atStart => exact ⟨0, b, none, 0, 0, dk0, _, rfl, rfl, by omega, P0⟩
  case round =>
    obtain ⟨i, b, ao, L, c, D, S, rfl, rfl, hi, HR⟩ := hrel
    by_cases hin : i < K
    · have i1 : (i : Int) < (n : Int) := by omega
      have i2 : (i : Int) < 200 := by omega
      have hix : i < xs.length := by rw [H.out.1]; omega
      obtain ⟨a, hax⟩ : ∃ a, xs[i]? = some a := ⟨_, List.getElem?_eq_getElem hix⟩
      obtain ⟨sb, sf, rfl, hlt⟩ := H.out.2.1.some_of hax
      obtain ⟨_, c0, c1, c2, c3, c4, c5, c6⟩ := H.out.2.1.acts hax
      have bw : Below W.heap.size W wr := HB.out.trans (HR.out.bel.mono HB.out.size)
      have k0 := (bw.cell (p := ⟨sb, sf + i * 7, none⟩) hlt).trans c0
      have k1 := (bw.cell (p := ⟨sb, sf + i * 7 + 1, none⟩) hlt).trans c1
      have k2 := (bw.cell (p := ⟨sb, sf + i * 7 + 2, none⟩) hlt).trans c2
      have k3 := (bw.cell (p := ⟨sb, sf + i * 7 + 3, none⟩) hlt).trans c3
      have k4 := (bw.cell (p := ⟨sb, sf + i * 7 + 4, none⟩) hlt).trans c4
      have k5 := (bw.cell (p := ⟨sb, sf + i * 7 + 5, none⟩) hlt).trans c5
      have k6 := (bw.cell (p := ⟨sb, sf + i * 7 + 6, none⟩) hlt).trans c6
      have bd : Below W.heap.size W wr.drew := bw.drew
      have hS : ∀ k, S k → W.heap.size ≤ k := fun k q => by have := HR.out.low k q; have := HB.out.size; omega
      obtain ⟨data, hact⟩ := (H.out.2.2 a (List.mem_of_getElem? hax)).at bd hS
      have PD : PI w0 mb wr.drew b ao L c D i S := HR.out.below (Below.refl _ wr).drew
      have hp := play_any PD.disk.lt PD.disk PD.ok (by have := PD.wrt; omega) (fun k q => .inl q) (fun k q => by
        rcases q with q | q
        · exact PD.disk.lt k q
        · rw [q]; exact PD.box.lt) PD.ref a.kind a.mask hact
      have HP : Hid (PI w0 mb wr.drew b ao L c D i S) := PD
      obtain ⟨x0, x1, x2, x3, x4, x5⟩ := HR.out.box.cells
      obtain ⟨kind, nm, tt, da, dn, dc, N, keep, mask⟩ := a
      clear c0 c1 c2 c3 c4 c5 c6 bw bd hS hact PD hax
      simp only at k0 k1 k2 k3 k4 k5 k6 hp
      go_wp2_with fail
      go_region_with
        (first | (go_at_call 9; refine hp.mono ?_; rintro e w2 ⟨b2, v2, rfl, HL⟩; obtain ⟨a3, M, c3, D', rfl, sx, hst⟩ := HP.out.step HL; obtain ⟨y0, y1, y2, y3, y4, y5⟩ := sx.cells; obtain ⟨f0, f1, f2, f3, f4, f5⟩ := sx.thaw; have HST : Hid _ := hst; clear hst sx HL))
      all_goals
        obtain ⟨w3, hw3⟩ : ∃ w3, (((((w2.setCell ⟨mb, 0, none⟩ (.slice a3 M c3)).setCell ⟨mb, 1, none⟩ (.int .i64 (D'.writes : Int))).setCell ⟨mb, 2, none⟩ (.bool D'.armed)).setCell ⟨mb, 3, none⟩ (.bool D'.dead)).setCell ⟨mb, 4, none⟩ (.int .i64 (D'.after : Int))).setCell ⟨mb, 5, none⟩ (.int .i64 (D'.keep : Int)) = w3 := ⟨_, rfl⟩
        obtain ⟨S', P3⟩ := HST.out w3 hw3
        have HP3 : Hid (PI w0 mb w3 b2 a3 M c3 D' (i + 1) S') := P3
        clear x0 x1 x2 x3 x4 x5 y0 y1 y2 y3 y4 y5 f0 f1 f2 f3 f4 f5 k0 k1 k2 k3 k4 k5 k6 HST hp
        clear P3
        go_wp2
        go_roundg (gk - 1)
        case measure => omega
        case rel => exact ⟨i + 1, b2, a3, M, c3, D', S', rfl, by go_num, by omega, HP3⟩
    · obtain rfl : i = K := by omega
      have ME : Hid (∃ D, MineE W.heap.size W wr b D ∧ D.ok ∧ D.writes ≤ 200) := ⟨D, ⟨S, HR.out.disk, fun k q => by rw [← hw0]; exact HR.out.low k q, by rw [← hw0]; exact HR.out.bel⟩, HR.out.ok, by have := HR.out.wrt; omega⟩
      by_cases h2 : n ≤ 200
      · have i1 : decide ((i : Int) < (n : Int)) = false := by rw [decide_eq_false_iff_not]; omega
        have i1' : decide (i < n) = false := by rw [decide_eq_false_iff_not]; omega
        clear hK
        go_wp2
        refine bodyPost_ret (results_tmp2 rfl _ _ _) rfl ?_
        exact ⟨b, rfl, ME⟩
      · have i1 : (i : Int) < (n : Int) := by omega
        have i2 : decide ((i : Int) < 200) = false := by rw [decide_eq_false_iff_not]; omega
        have i2' : decide (i < 200) = false := by rw [decide_eq_false_iff_not]; omega
        clear hK
        go_wp2
        refine bodyPost_ret (results_tmp2 rfl _ _ _) rfl ?_
        exact ⟨b, rfl, ME⟩
end Go.Proofs.Ytlhlipjbcapidaa
