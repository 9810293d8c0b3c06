/-
  parse.write and parse.Show by contracts. No condition but that the program's variables hold what its text lays there, and that a tree isn't too great.
-/
import Derived.Test.YtdgdckmhmmigkaaDoorBWkd
import Derived.Test.YtdgdckmhmmigkaaDoorELWrt
namespace Go.Proofs.YtdgdckmhmmigkaaDoor
open Go.RowKit

theorem infNe {op : Int} (ho : ¬ (op = 6 ∨ op = 7 ∨ op = 8 ∨ op = 9 ∨ op = 10)) : ∀ (i : Nat) (x : Ifx), infL[i]? = some x → ¬ x.1 = op := by
  intro i x hx e
  match i, hx with
  | 0, hx => cases hx; exact ho (.inl e.symm)
  | 1, hx => cases hx; exact ho (.inr (.inl e.symm))
  | 2, hx => cases hx; exact ho (.inr (.inr (.inl e.symm)))
  | 3, hx => cases hx; exact ho (.inr (.inr (.inr (.inl e.symm))))
  | 4, hx => cases hx; exact ho (.inr (.inr (.inr (.inr e.symm))))

/-- One token, written down. -/
theorem write_one (t : Tk) (ht : Gd t) (hl : (st t).length ≤ 100000) (w : World) (hg : Gl w) (cs : Array Value) (hc : cs = (encT.cells t).toArray) :
    Calls Tryd.prog 32 #[.slice (some ⟨w.heap.size, 0, none⟩) 1 1] (w.alloc (.cells cs 57)) fun e w' => e = .returned (.string ⟨(st t).toArray⟩) ∧ Below (w.alloc (.cells cs 57)).heap.size (w.alloc (.cells cs 57)) w' := by
  have hr := rdG_new encT w [t] 57 cs (by rw [hc]; simp [Enc.all])
  have e : YtdgdckmhmmigkaaDoor.wr [t] = st t := by simp [YtdgdckmhmmigkaaDoor.wr, jn]
  have := lwrite_any (ao := some ⟨w.heap.size, 0, none⟩) (n := 1) (c := 1) (ts := [t]) (w.alloc (.cells cs 57)) hr rfl (Nat.le_refl _) (by omega) (by simpa using ht) (by rw [e]; exact hl) (hg.below (bz1 w _))
  rw [e] at this
  exact this

set_option maxHeartbeats 3200000 in
set_option maxRecDepth 100000 in
theorem write_name (nd : Nd) (hw : WfT nd) (hop : nd.op = 1) : PW nd := by
  intro B b l w v hB hBw hv hG hlen hwt
  have hvo := hv.op
  have hvt := hv.text
  have hvn := hv.num
  have hvi := hv.id
  rw [hop] at hvo
  have hbw : b < w.heap.size := hB.lt
  have hsl := shown_len nd hw
  have hi30 : (Tryd.prog.info? 94).map (·.size) = some infV.size := by kernel_rfl
  have hV := infAt
  have hGi : ∀ u, Below B w u → ∃ tt fz, u.heap[1]? = some (.cells infV tt fz) := fun u hu => (hG.on hu).inf
  obtain ⟨V, hVe⟩ : ∃ V, infV = V := ⟨_, rfl⟩
  rw [hVe] at hi30 hV hGi
  clear hVe
  have HGI : Hid (∀ u, Below B w u → ∃ tt fz, u.heap[1]? = some (.cells V tt fz)) := hGi
  clear hGi
  obtain ⟨vo, vt, vn, vi, va, vl, vc, vp⟩ := v
  simp only at hvo hvt hvn hvi ⊢
  subst hvo
  have HF : Hid (vt = nd.text ∧ vn = nd.num ∧ vi = nd.id) := ⟨hvt, hvn, hvi⟩
  clear hvt hvn hvi
  have HV : Hid (NdIn (fun g => g < B) w ⟨1, vt, vn, vi, va, vl, vc, vp⟩ nd ∧ Gb B w ∧ WfT nd ∧ nd.op = 1) := ⟨hv, hG, hw, hop⟩
  clear hv hG hw hop
  obtain ⟨W3, m3, hW3, hm3, hx3, bW3, _, hB3, hlt3⟩ := lay6 (Below.refl _ w) (Nat.le_refl _) 28 (.int .i64 1) (.string ⟨vt.toArray⟩) (.int .i64 vn) (.int .u64 vi) (.slice va vl vc) (.int .i64 vp)
  have hmb : ¬ m3 = b := by omega
  obtain ⟨e0, e1, e2, e3, e4, e5⟩ := hx3.cells
  have H3 : Hid (Below w.heap.size w W3 ∧ Box6 W3 m3 28 (.int .i64 1) (.string ⟨vt.toArray⟩) (.int .i64 vn) (.int .u64 vi) (.slice va vl vc) (.int .i64 vp)) := ⟨bW3, hx3⟩
  have hs3 := bW3.size
  have HW : Hid (Bd B b l W3 ∧ Below B w W3 ∧ Lib.OthersKept 5 (some b) W3 W3 ∧ W3.heap.size ≤ W3.heap.size) := ⟨hB.below bW3, bW3.mono hBw, Lib.OthersKept.refl _ _ _, Nat.le_refl _⟩
  clear hx3 bW3 hB
  go_enter Tryd.func23, Tryd.ntmps23
  go_upto_region 1 with fail
  clear hW3 hm3
  rw [shown_name HV.out.2.2.2, ← HF.out.1] at hsl
  go_wp2_with fail
  refine (write_any B b (l) ⟨(vt : Bs).toArray⟩ _ HW.out.1 (by show (l).length + (vt : Bs).length ≤ _; omega) (by have := HW.out.2.2.2; omega)).mono ?_
  rintro e w4 ⟨rfl, hB9, hb9, hk9⟩
  have HW9 : Hid (Bd B b (l ++ vt) w4 ∧ Below B w w4 ∧ Lib.OthersKept 5 (some b) W3 w4 ∧ W3.heap.size ≤ w4.heap.size) := ⟨hB9, HW.out.2.1.trans hb9, HW.out.2.2.1.trans hk9, by have := HW.out.2.2.2; have := hb9.size; omega⟩
  clear HW hB9 hb9 hk9 e0 e1 e2 e3 e4 e5
  have HW := HW9
  clear HW9
  have x9 := H3.out.2.kept HW.out.2.2.1 hmb (by decide)
  obtain ⟨e0, e1, e2, e3, e4, e5⟩ := x9.cells
  clear x9
  have HK : Hid (l ++ vt = l ++ txt nd.ps) := by
    show _ = _
    rw [shown_name HV.out.2.2.2, HF.out.1]
  rw [HK.out] at HW
  clear HK
  go_upto_region 22 with fail
  clear e0 e1 e2 e3 e4 e5
  obtain ⟨tt, fz, hinf⟩ := HGI.out _ HW.out.2.1
  go_wp2_with (refine wpList_load_row rfl 94 _ rfl 1 rfl tt _ fz _ hinf Tryd.underlying94 rfl hi30 ?_)
  clear hinf
  go_loopg [78] 5 (fun g v wr => ∃ (i : Nat), v = .int .i64 i ∧ i + g = 5 ∧ Hid (Below w4.heap.size w4 wr))
  case atStart => exact ⟨0, rfl, rfl, Below.refl _ _⟩
  case round =>
    obtain ⟨i, rfl, hi, HB⟩ := hrel
    obtain ⟨e0, e1, e2, e3, e4, e5⟩ := ((H3.out.2.kept HW.out.2.2.1 hmb (by decide)).below HB.out).cells
    by_cases h5 : i < 5
    · have hii : (i : Int) < 5 := by omega
      obtain ⟨z, hz, hidx⟩ := hV i h5
      have hne := infNe (op := 1) (by decide) i z hz
      obtain ⟨o, g, wt, lv, f, s⟩ := z
      simp only at hidx hne
      have hne1 : (o == 1) = false := by rw [beq_eq_false_iff_ne]; exact hne
      clear hz
      obtain ⟨Wa, ma, hWa, hma, hxa, bWa, ba, hBa, hlta⟩ := lay6 HB.out HB.out.size 93 (.int .i64 o) (.string ⟨g.toArray⟩) (.string ⟨wt.toArray⟩) (.int .i64 lv) (.int .i64 f) (.int .i64 s)
      obtain ⟨f0, f1, f2, f3, f4, f5⟩ := hxa.cells
      obtain ⟨z0, z1, z2, z3, z4, z5⟩ := ((H3.out.2.kept HW.out.2.2.1 hmb (by decide)).below bWa).cells
      have HBa : Hid (Below w4.heap.size w4 Wa) := bWa
      clear hxa bWa ba
      go_upto_region 25 with fail
      clear hWa hma
      go_wp2_with fail
      go_roundg (gk - 1)
      case measure => omega
      case rel => exact ⟨i + 1, by go_num, by omega, HBa.out⟩
    · obtain rfl : i = 5 := by omega
      go_wp2_with fail
      go_end0
      exact ⟨rfl, HW.out.1.below HB.out, HW.out.2.1.trans (HB.out.mono (by have := HW.out.2.2.2; omega)), ((okept H3.out.1).trans HW.out.2.2.1).trans (okept HB.out)⟩

set_option maxHeartbeats 3200000 in
set_option maxRecDepth 100000 in
theorem write_hash (nd : Nd) (hw : WfT nd) (hop : nd.op = 2) : PW nd := by
  intro B b l w v hB hBw hv hG hlen hwt
  have hvo := hv.op
  have hvt := hv.text
  have hvn := hv.num
  have hvi := hv.id
  rw [hop] at hvo
  have hbw : b < w.heap.size := hB.lt
  have hsl := shown_len nd hw
  have hi30 : (Tryd.prog.info? 94).map (·.size) = some infV.size := by kernel_rfl
  have hV := infAt
  have hGi : ∀ u, Below B w u → ∃ tt fz, u.heap[1]? = some (.cells infV tt fz) := fun u hu => (hG.on hu).inf
  obtain ⟨V, hVe⟩ : ∃ V, infV = V := ⟨_, rfl⟩
  rw [hVe] at hi30 hV hGi
  clear hVe
  have HGI : Hid (∀ u, Below B w u → ∃ tt fz, u.heap[1]? = some (.cells V tt fz)) := hGi
  clear hGi
  obtain ⟨vo, vt, vn, vi, va, vl, vc, vp⟩ := v
  simp only at hvo hvt hvn hvi ⊢
  subst hvo
  have HF : Hid (vt = nd.text ∧ vn = nd.num ∧ vi = nd.id) := ⟨hvt, hvn, hvi⟩
  clear hvt hvn hvi
  have HV : Hid (NdIn (fun g => g < B) w ⟨2, vt, vn, vi, va, vl, vc, vp⟩ nd ∧ Gb B w ∧ WfT nd ∧ nd.op = 2) := ⟨hv, hG, hw, hop⟩
  clear hv hG hw hop
  obtain ⟨W3, m3, hW3, hm3, hx3, bW3, _, hB3, hlt3⟩ := lay6 (Below.refl _ w) (Nat.le_refl _) 28 (.int .i64 2) (.string ⟨vt.toArray⟩) (.int .i64 vn) (.int .u64 vi) (.slice va vl vc) (.int .i64 vp)
  have hmb : ¬ m3 = b := by omega
  obtain ⟨e0, e1, e2, e3, e4, e5⟩ := hx3.cells
  have H3 : Hid (Below w.heap.size w W3 ∧ Box6 W3 m3 28 (.int .i64 2) (.string ⟨vt.toArray⟩) (.int .i64 vn) (.int .u64 vi) (.slice va vl vc) (.int .i64 vp)) := ⟨bW3, hx3⟩
  have hs3 := bW3.size
  have HW : Hid (Bd B b l W3 ∧ Below B w W3 ∧ Lib.OthersKept 5 (some b) W3 W3 ∧ W3.heap.size ≤ W3.heap.size) := ⟨hB.below bW3, bW3.mono hBw, Lib.OthersKept.refl _ _ _, Nat.le_refl _⟩
  clear hx3 bW3 hB
  go_enter Tryd.func23, Tryd.ntmps23
  go_upto_region 1 with fail
  clear hW3 hm3
  have hgd : Gd (haT vi) ∧ vt = vt ∧ (st (haT vi)).length ≤ 100000 ∧ txt nd.ps = st (haT vi) := by
    rw [shown_hash HV.out.2.2.2, ← HF.out.2.2] at hsl ⊢
    refine ⟨?_, rfl, by omega, rfl⟩
    have hwf := HV.out.2.2.1.1
    rw [HV.out.2.2.2, ← HF.out.2.2] at hwf
    unfold WfN at hwf
    simp at hwf
    exact hwf.2.2.1
  have HGD : Hid (Gd (haT vi) ∧ (st (haT vi)).length ≤ 100000 ∧ txt nd.ps = st (haT vi)) := ⟨hgd.1, hgd.2.2.1, hgd.2.2.2⟩
  rw [HGD.out.2.2] at hsl
  clear hgd
  go_wp2_with fail
  refine (write_one (haT vi) HGD.out.1 HGD.out.2.1 _ (HV.out.2.1.on HW.out.2.1).gl _ (by simp [encT, haT])).mono ?_
  rintro e w4 ⟨rfl, b9⟩
  have HW9 : Hid (Bd B b (l) w4 ∧ Below B w w4 ∧ Lib.OthersKept 5 (some b) W3 w4 ∧ W3.heap.size ≤ w4.heap.size) := ⟨(HW.out.1.below (bz1 _ _)).below b9, (HW.out.2.1.trans ((bz1 _ _).mono (by have := HW.out.2.2.2; omega))).trans (b9.mono (by have := HW.out.2.2.2; simp; omega)), (HW.out.2.2.1.trans (okept (bz1 _ _))).trans (okept b9), by have := HW.out.2.2.2; have := b9.size; simp at this; omega⟩
  clear HW b9 e0 e1 e2 e3 e4 e5
  have HW := HW9
  clear HW9
  have x9 := H3.out.2.kept HW.out.2.2.1 hmb (by decide)
  obtain ⟨e0, e1, e2, e3, e4, e5⟩ := x9.cells
  clear x9
  go_wp2_with fail
  refine (write_any B b (l) ⟨(st (haT vi) : Bs).toArray⟩ _ HW.out.1 (by show (l).length + (st (haT vi) : Bs).length ≤ _; omega) (by have := HW.out.2.2.2; omega)).mono ?_
  rintro e w5 ⟨rfl, hB9, hb9, hk9⟩
  have HW9 : Hid (Bd B b (l ++ st (haT vi)) w5 ∧ Below B w w5 ∧ Lib.OthersKept 5 (some b) W3 w5 ∧ W3.heap.size ≤ w5.heap.size) := ⟨hB9, HW.out.2.1.trans hb9, HW.out.2.2.1.trans hk9, by have := HW.out.2.2.2; have := hb9.size; omega⟩
  clear HW hB9 hb9 hk9 e0 e1 e2 e3 e4 e5
  have HW := HW9
  clear HW9
  have x9 := H3.out.2.kept HW.out.2.2.1 hmb (by decide)
  obtain ⟨e0, e1, e2, e3, e4, e5⟩ := x9.cells
  clear x9
  have HK : Hid (l ++ st (haT vi) = l ++ txt nd.ps) := by
    show _ = _
    rw [HGD.out.2.2]
  rw [HK.out] at HW
  clear HK
  go_upto_region 22 with fail
  clear e0 e1 e2 e3 e4 e5
  obtain ⟨tt, fz, hinf⟩ := HGI.out _ HW.out.2.1
  go_wp2_with (refine wpList_load_row rfl 94 _ rfl 1 rfl tt _ fz _ hinf Tryd.underlying94 rfl hi30 ?_)
  clear hinf
  go_loopg [78] 5 (fun g v wr => ∃ (i : Nat), v = .int .i64 i ∧ i + g = 5 ∧ Hid (Below w5.heap.size w5 wr))
  case atStart => exact ⟨0, rfl, rfl, Below.refl _ _⟩
  case round =>
    obtain ⟨i, rfl, hi, HB⟩ := hrel
    obtain ⟨e0, e1, e2, e3, e4, e5⟩ := ((H3.out.2.kept HW.out.2.2.1 hmb (by decide)).below HB.out).cells
    by_cases h5 : i < 5
    · have hii : (i : Int) < 5 := by omega
      obtain ⟨z, hz, hidx⟩ := hV i h5
      have hne := infNe (op := 2) (by decide) i z hz
      obtain ⟨o, g, wt, lv, f, s⟩ := z
      simp only at hidx hne
      have hne1 : (o == 2) = false := by rw [beq_eq_false_iff_ne]; exact hne
      clear hz
      obtain ⟨Wa, ma, hWa, hma, hxa, bWa, ba, hBa, hlta⟩ := lay6 HB.out HB.out.size 93 (.int .i64 o) (.string ⟨g.toArray⟩) (.string ⟨wt.toArray⟩) (.int .i64 lv) (.int .i64 f) (.int .i64 s)
      obtain ⟨f0, f1, f2, f3, f4, f5⟩ := hxa.cells
      obtain ⟨z0, z1, z2, z3, z4, z5⟩ := ((H3.out.2.kept HW.out.2.2.1 hmb (by decide)).below bWa).cells
      have HBa : Hid (Below w5.heap.size w5 Wa) := bWa
      clear hxa bWa ba
      go_upto_region 25 with fail
      clear hWa hma
      go_wp2_with fail
      go_roundg (gk - 1)
      case measure => omega
      case rel => exact ⟨i + 1, by go_num, by omega, HBa.out⟩
    · obtain rfl : i = 5 := by omega
      go_wp2_with fail
      go_end0
      exact ⟨rfl, HW.out.1.below HB.out, HW.out.2.1.trans (HB.out.mono (by have := HW.out.2.2.2; omega)), ((okept H3.out.1).trans HW.out.2.2.1).trans (okept HB.out)⟩

set_option maxHeartbeats 3200000 in
set_option maxRecDepth 100000 in
theorem write_num (nd : Nd) (hw : WfT nd) (hop : nd.op = 3) : PW nd := by
  intro B b l w v hB hBw hv hG hlen hwt
  have hvo := hv.op
  have hvt := hv.text
  have hvn := hv.num
  have hvi := hv.id
  rw [hop] at hvo
  have hbw : b < w.heap.size := hB.lt
  have hsl := shown_len nd hw
  have hi30 : (Tryd.prog.info? 94).map (·.size) = some infV.size := by kernel_rfl
  have hV := infAt
  have hGi : ∀ u, Below B w u → ∃ tt fz, u.heap[1]? = some (.cells infV tt fz) := fun u hu => (hG.on hu).inf
  obtain ⟨V, hVe⟩ : ∃ V, infV = V := ⟨_, rfl⟩
  rw [hVe] at hi30 hV hGi
  clear hVe
  have HGI : Hid (∀ u, Below B w u → ∃ tt fz, u.heap[1]? = some (.cells V tt fz)) := hGi
  clear hGi
  obtain ⟨vo, vt, vn, vi, va, vl, vc, vp⟩ := v
  simp only at hvo hvt hvn hvi ⊢
  subst hvo
  have HF : Hid (vt = nd.text ∧ vn = nd.num ∧ vi = nd.id) := ⟨hvt, hvn, hvi⟩
  clear hvt hvn hvi
  have HV : Hid (NdIn (fun g => g < B) w ⟨3, vt, vn, vi, va, vl, vc, vp⟩ nd ∧ Gb B w ∧ WfT nd ∧ nd.op = 3) := ⟨hv, hG, hw, hop⟩
  clear hv hG hw hop
  obtain ⟨W3, m3, hW3, hm3, hx3, bW3, _, hB3, hlt3⟩ := lay6 (Below.refl _ w) (Nat.le_refl _) 28 (.int .i64 3) (.string ⟨vt.toArray⟩) (.int .i64 vn) (.int .u64 vi) (.slice va vl vc) (.int .i64 vp)
  have hmb : ¬ m3 = b := by omega
  obtain ⟨e0, e1, e2, e3, e4, e5⟩ := hx3.cells
  have H3 : Hid (Below w.heap.size w W3 ∧ Box6 W3 m3 28 (.int .i64 3) (.string ⟨vt.toArray⟩) (.int .i64 vn) (.int .u64 vi) (.slice va vl vc) (.int .i64 vp)) := ⟨bW3, hx3⟩
  have hs3 := bW3.size
  have HW : Hid (Bd B b l W3 ∧ Below B w W3 ∧ Lib.OthersKept 5 (some b) W3 W3 ∧ W3.heap.size ≤ W3.heap.size) := ⟨hB.below bW3, bW3.mono hBw, Lib.OthersKept.refl _ _ _, Nat.le_refl _⟩
  clear hx3 bW3 hB
  go_enter Tryd.func23, Tryd.ntmps23
  go_upto_region 1 with fail
  clear hW3 hm3
  have hgd : Gd (nuT vn) ∧ vt = vt ∧ (st (nuT vn)).length ≤ 100000 ∧ txt nd.ps = st (nuT vn) := by
    rw [shown_num HV.out.2.2.2, ← HF.out.2.1] at hsl ⊢
    refine ⟨?_, rfl, by omega, rfl⟩
    have hwf := HV.out.2.2.1.1
    rw [HV.out.2.2.2, ← HF.out.2.1] at hwf
    unfold WfN at hwf
    simp at hwf
    exact hwf.2.1
  have HGD : Hid (Gd (nuT vn) ∧ (st (nuT vn)).length ≤ 100000 ∧ txt nd.ps = st (nuT vn)) := ⟨hgd.1, hgd.2.2.1, hgd.2.2.2⟩
  rw [HGD.out.2.2] at hsl
  clear hgd
  go_wp2_with fail
  refine (write_one (nuT vn) HGD.out.1 HGD.out.2.1 _ (HV.out.2.1.on HW.out.2.1).gl _ (by simp [encT, nuT])).mono ?_
  rintro e w4 ⟨rfl, b9⟩
  have HW9 : Hid (Bd B b (l) w4 ∧ Below B w w4 ∧ Lib.OthersKept 5 (some b) W3 w4 ∧ W3.heap.size ≤ w4.heap.size) := ⟨(HW.out.1.below (bz1 _ _)).below b9, (HW.out.2.1.trans ((bz1 _ _).mono (by have := HW.out.2.2.2; omega))).trans (b9.mono (by have := HW.out.2.2.2; simp; omega)), (HW.out.2.2.1.trans (okept (bz1 _ _))).trans (okept b9), by have := HW.out.2.2.2; have := b9.size; simp at this; omega⟩
  clear HW b9 e0 e1 e2 e3 e4 e5
  have HW := HW9
  clear HW9
  have x9 := H3.out.2.kept HW.out.2.2.1 hmb (by decide)
  obtain ⟨e0, e1, e2, e3, e4, e5⟩ := x9.cells
  clear x9
  go_wp2_with fail
  refine (write_any B b (l) ⟨(st (nuT vn) : Bs).toArray⟩ _ HW.out.1 (by show (l).length + (st (nuT vn) : Bs).length ≤ _; omega) (by have := HW.out.2.2.2; omega)).mono ?_
  rintro e w5 ⟨rfl, hB9, hb9, hk9⟩
  have HW9 : Hid (Bd B b (l ++ st (nuT vn)) w5 ∧ Below B w w5 ∧ Lib.OthersKept 5 (some b) W3 w5 ∧ W3.heap.size ≤ w5.heap.size) := ⟨hB9, HW.out.2.1.trans hb9, HW.out.2.2.1.trans hk9, by have := HW.out.2.2.2; have := hb9.size; omega⟩
  clear HW hB9 hb9 hk9 e0 e1 e2 e3 e4 e5
  have HW := HW9
  clear HW9
  have x9 := H3.out.2.kept HW.out.2.2.1 hmb (by decide)
  obtain ⟨e0, e1, e2, e3, e4, e5⟩ := x9.cells
  clear x9
  have HK : Hid (l ++ st (nuT vn) = l ++ txt nd.ps) := by
    show _ = _
    rw [HGD.out.2.2]
  rw [HK.out] at HW
  clear HK
  go_upto_region 22 with fail
  clear e0 e1 e2 e3 e4 e5
  obtain ⟨tt, fz, hinf⟩ := HGI.out _ HW.out.2.1
  go_wp2_with (refine wpList_load_row rfl 94 _ rfl 1 rfl tt _ fz _ hinf Tryd.underlying94 rfl hi30 ?_)
  clear hinf
  go_loopg [78] 5 (fun g v wr => ∃ (i : Nat), v = .int .i64 i ∧ i + g = 5 ∧ Hid (Below w5.heap.size w5 wr))
  case atStart => exact ⟨0, rfl, rfl, Below.refl _ _⟩
  case round =>
    obtain ⟨i, rfl, hi, HB⟩ := hrel
    obtain ⟨e0, e1, e2, e3, e4, e5⟩ := ((H3.out.2.kept HW.out.2.2.1 hmb (by decide)).below HB.out).cells
    by_cases h5 : i < 5
    · have hii : (i : Int) < 5 := by omega
      obtain ⟨z, hz, hidx⟩ := hV i h5
      have hne := infNe (op := 3) (by decide) i z hz
      obtain ⟨o, g, wt, lv, f, s⟩ := z
      simp only at hidx hne
      have hne1 : (o == 3) = false := by rw [beq_eq_false_iff_ne]; exact hne
      clear hz
      obtain ⟨Wa, ma, hWa, hma, hxa, bWa, ba, hBa, hlta⟩ := lay6 HB.out HB.out.size 93 (.int .i64 o) (.string ⟨g.toArray⟩) (.string ⟨wt.toArray⟩) (.int .i64 lv) (.int .i64 f) (.int .i64 s)
      obtain ⟨f0, f1, f2, f3, f4, f5⟩ := hxa.cells
      obtain ⟨z0, z1, z2, z3, z4, z5⟩ := ((H3.out.2.kept HW.out.2.2.1 hmb (by decide)).below bWa).cells
      have HBa : Hid (Below w5.heap.size w5 Wa) := bWa
      clear hxa bWa ba
      go_upto_region 25 with fail
      clear hWa hma
      go_wp2_with fail
      go_roundg (gk - 1)
      case measure => omega
      case rel => exact ⟨i + 1, by go_num, by omega, HBa.out⟩
    · obtain rfl : i = 5 := by omega
      go_wp2_with fail
      go_end0
      exact ⟨rfl, HW.out.1.below HB.out, HW.out.2.1.trans (HB.out.mono (by have := HW.out.2.2.2; omega)), ((okept H3.out.1).trans HW.out.2.2.1).trans (okept HB.out)⟩

set_option maxHeartbeats 3200000 in
set_option maxRecDepth 100000 in
theorem write_text (nd : Nd) (hw : WfT nd) (hop : nd.op = 4) : PW nd := by
  intro B b l w v hB hBw hv hG hlen hwt
  have hvo := hv.op
  have hvt := hv.text
  have hvn := hv.num
  have hvi := hv.id
  rw [hop] at hvo
  have hbw : b < w.heap.size := hB.lt
  have hsl := shown_len nd hw
  have hi30 : (Tryd.prog.info? 94).map (·.size) = some infV.size := by kernel_rfl
  have hV := infAt
  have hGi : ∀ u, Below B w u → ∃ tt fz, u.heap[1]? = some (.cells infV tt fz) := fun u hu => (hG.on hu).inf
  obtain ⟨V, hVe⟩ : ∃ V, infV = V := ⟨_, rfl⟩
  rw [hVe] at hi30 hV hGi
  clear hVe
  have HGI : Hid (∀ u, Below B w u → ∃ tt fz, u.heap[1]? = some (.cells V tt fz)) := hGi
  clear hGi
  obtain ⟨vo, vt, vn, vi, va, vl, vc, vp⟩ := v
  simp only at hvo hvt hvn hvi ⊢
  subst hvo
  have HF : Hid (vt = nd.text ∧ vn = nd.num ∧ vi = nd.id) := ⟨hvt, hvn, hvi⟩
  clear hvt hvn hvi
  have HV : Hid (NdIn (fun g => g < B) w ⟨4, vt, vn, vi, va, vl, vc, vp⟩ nd ∧ Gb B w ∧ WfT nd ∧ nd.op = 4) := ⟨hv, hG, hw, hop⟩
  clear hv hG hw hop
  obtain ⟨W3, m3, hW3, hm3, hx3, bW3, _, hB3, hlt3⟩ := lay6 (Below.refl _ w) (Nat.le_refl _) 28 (.int .i64 4) (.string ⟨vt.toArray⟩) (.int .i64 vn) (.int .u64 vi) (.slice va vl vc) (.int .i64 vp)
  have hmb : ¬ m3 = b := by omega
  obtain ⟨e0, e1, e2, e3, e4, e5⟩ := hx3.cells
  have H3 : Hid (Below w.heap.size w W3 ∧ Box6 W3 m3 28 (.int .i64 4) (.string ⟨vt.toArray⟩) (.int .i64 vn) (.int .u64 vi) (.slice va vl vc) (.int .i64 vp)) := ⟨bW3, hx3⟩
  have hs3 := bW3.size
  have HW : Hid (Bd B b l W3 ∧ Below B w W3 ∧ Lib.OthersKept 5 (some b) W3 W3 ∧ W3.heap.size ≤ W3.heap.size) := ⟨hB.below bW3, bW3.mono hBw, Lib.OthersKept.refl _ _ _, Nat.le_refl _⟩
  clear hx3 bW3 hB
  go_enter Tryd.func23, Tryd.ntmps23
  go_upto_region 1 with fail
  clear hW3 hm3
  have hgd : Gd (txT vt) ∧ vt = vt ∧ (st (txT vt)).length ≤ 100000 ∧ txt nd.ps = st (txT vt) := by
    rw [shown_text HV.out.2.2.2, ← HF.out.1] at hsl ⊢
    refine ⟨?_, rfl, by omega, rfl⟩
    have hwf := HV.out.2.2.1.1
    rw [HV.out.2.2.2, ← HF.out.1] at hwf
    unfold WfN at hwf
    simp at hwf
    exact hwf.1
  have HGD : Hid (Gd (txT vt) ∧ (st (txT vt)).length ≤ 100000 ∧ txt nd.ps = st (txT vt)) := ⟨hgd.1, hgd.2.2.1, hgd.2.2.2⟩
  rw [HGD.out.2.2] at hsl
  clear hgd
  go_wp2_with fail
  refine (write_one (txT vt) HGD.out.1 HGD.out.2.1 _ (HV.out.2.1.on HW.out.2.1).gl _ (by simp [encT, txT])).mono ?_
  rintro e w4 ⟨rfl, b9⟩
  have HW9 : Hid (Bd B b (l) w4 ∧ Below B w w4 ∧ Lib.OthersKept 5 (some b) W3 w4 ∧ W3.heap.size ≤ w4.heap.size) := ⟨(HW.out.1.below (bz1 _ _)).below b9, (HW.out.2.1.trans ((bz1 _ _).mono (by have := HW.out.2.2.2; omega))).trans (b9.mono (by have := HW.out.2.2.2; simp; omega)), (HW.out.2.2.1.trans (okept (bz1 _ _))).trans (okept b9), by have := HW.out.2.2.2; have := b9.size; simp at this; omega⟩
  clear HW b9 e0 e1 e2 e3 e4 e5
  have HW := HW9
  clear HW9
  have x9 := H3.out.2.kept HW.out.2.2.1 hmb (by decide)
  obtain ⟨e0, e1, e2, e3, e4, e5⟩ := x9.cells
  clear x9
  go_wp2_with fail
  refine (write_any B b (l) ⟨(st (txT vt) : Bs).toArray⟩ _ HW.out.1 (by show (l).length + (st (txT vt) : Bs).length ≤ _; omega) (by have := HW.out.2.2.2; omega)).mono ?_
  rintro e w5 ⟨rfl, hB9, hb9, hk9⟩
  have HW9 : Hid (Bd B b (l ++ st (txT vt)) w5 ∧ Below B w w5 ∧ Lib.OthersKept 5 (some b) W3 w5 ∧ W3.heap.size ≤ w5.heap.size) := ⟨hB9, HW.out.2.1.trans hb9, HW.out.2.2.1.trans hk9, by have := HW.out.2.2.2; have := hb9.size; omega⟩
  clear HW hB9 hb9 hk9 e0 e1 e2 e3 e4 e5
  have HW := HW9
  clear HW9
  have x9 := H3.out.2.kept HW.out.2.2.1 hmb (by decide)
  obtain ⟨e0, e1, e2, e3, e4, e5⟩ := x9.cells
  clear x9
  have HK : Hid (l ++ st (txT vt) = l ++ txt nd.ps) := by
    show _ = _
    rw [HGD.out.2.2]
  rw [HK.out] at HW
  clear HK
  go_upto_region 22 with fail
  clear e0 e1 e2 e3 e4 e5
  obtain ⟨tt, fz, hinf⟩ := HGI.out _ HW.out.2.1
  go_wp2_with (refine wpList_load_row rfl 94 _ rfl 1 rfl tt _ fz _ hinf Tryd.underlying94 rfl hi30 ?_)
  clear hinf
  go_loopg [78] 5 (fun g v wr => ∃ (i : Nat), v = .int .i64 i ∧ i + g = 5 ∧ Hid (Below w5.heap.size w5 wr))
  case atStart => exact ⟨0, rfl, rfl, Below.refl _ _⟩
  case round =>
    obtain ⟨i, rfl, hi, HB⟩ := hrel
    obtain ⟨e0, e1, e2, e3, e4, e5⟩ := ((H3.out.2.kept HW.out.2.2.1 hmb (by decide)).below HB.out).cells
    by_cases h5 : i < 5
    · have hii : (i : Int) < 5 := by omega
      obtain ⟨z, hz, hidx⟩ := hV i h5
      have hne := infNe (op := 4) (by decide) i z hz
      obtain ⟨o, g, wt, lv, f, s⟩ := z
      simp only at hidx hne
      have hne1 : (o == 4) = false := by rw [beq_eq_false_iff_ne]; exact hne
      clear hz
      obtain ⟨Wa, ma, hWa, hma, hxa, bWa, ba, hBa, hlta⟩ := lay6 HB.out HB.out.size 93 (.int .i64 o) (.string ⟨g.toArray⟩) (.string ⟨wt.toArray⟩) (.int .i64 lv) (.int .i64 f) (.int .i64 s)
      obtain ⟨f0, f1, f2, f3, f4, f5⟩ := hxa.cells
      obtain ⟨z0, z1, z2, z3, z4, z5⟩ := ((H3.out.2.kept HW.out.2.2.1 hmb (by decide)).below bWa).cells
      have HBa : Hid (Below w5.heap.size w5 Wa) := bWa
      clear hxa bWa ba
      go_upto_region 25 with fail
      clear hWa hma
      go_wp2_with fail
      go_roundg (gk - 1)
      case measure => omega
      case rel => exact ⟨i + 1, by go_num, by omega, HBa.out⟩
    · obtain rfl : i = 5 := by omega
      go_wp2_with fail
      go_end0
      exact ⟨rfl, HW.out.1.below HB.out, HW.out.2.1.trans (HB.out.mono (by have := HW.out.2.2.2; omega)), ((okept H3.out.1).trans HW.out.2.2.1).trans (okept HB.out)⟩

set_option maxHeartbeats 3200000 in
set_option maxRecDepth 100000 in
theorem write_call (nd : Nd) (hw : WfT nd) (hop : nd.op = 5) (hP : ∀ k ∈ ndL nd.kids, PW k) : PW nd := by
  intro B b l w v hB hBw hv hG hlen hwt
  have hvo := hv.op
  have hvt := hv.text
  have hvn := hv.num
  have hvi := hv.id
  rw [hop] at hvo
  have hbw : b < w.heap.size := hB.lt
  have hsl := shown_len nd hw
  have hi30 : (Tryd.prog.info? 94).map (·.size) = some infV.size := by kernel_rfl
  have hV := infAt
  have hGi : ∀ u, Below B w u → ∃ tt fz, u.heap[1]? = some (.cells infV tt fz) := fun u hu => (hG.on hu).inf
  obtain ⟨V, hVe⟩ : ∃ V, infV = V := ⟨_, rfl⟩
  rw [hVe] at hi30 hV hGi
  clear hVe
  have HGI : Hid (∀ u, Below B w u → ∃ tt fz, u.heap[1]? = some (.cells V tt fz)) := hGi
  clear hGi
  obtain ⟨vo, vt, vn, vi, va, vl, vc, vp⟩ := v
  simp only at hvo hvt hvn hvi ⊢
  subst hvo
  have HF : Hid (vt = nd.text ∧ vn = nd.num ∧ vi = nd.id) := ⟨hvt, hvn, hvi⟩
  clear hvt hvn hvi
  have HV : Hid (NdIn (fun g => g < B) w ⟨5, vt, vn, vi, va, vl, vc, vp⟩ nd ∧ Gb B w ∧ WfT nd ∧ nd.op = 5) := ⟨hv, hG, hw, hop⟩
  clear hv hG hw hop
  obtain ⟨W3, m3, hW3, hm3, hx3, bW3, _, hB3, hlt3⟩ := lay6 (Below.refl _ w) (Nat.le_refl _) 28 (.int .i64 5) (.string ⟨vt.toArray⟩) (.int .i64 vn) (.int .u64 vi) (.slice va vl vc) (.int .i64 vp)
  have hmb : ¬ m3 = b := by omega
  obtain ⟨e0, e1, e2, e3, e4, e5⟩ := hx3.cells
  have H3 : Hid (Below w.heap.size w W3 ∧ Box6 W3 m3 28 (.int .i64 5) (.string ⟨vt.toArray⟩) (.int .i64 vn) (.int .u64 vi) (.slice va vl vc) (.int .i64 vp)) := ⟨bW3, hx3⟩
  have hs3 := bW3.size
  have HW : Hid (Bd B b l W3 ∧ Below B w W3 ∧ Lib.OthersKept 5 (some b) W3 W3 ∧ W3.heap.size ≤ W3.heap.size) := ⟨hB.below bW3, bW3.mono hBw, Lib.OthersKept.refl _ _ _, Nat.le_refl _⟩
  clear hx3 bW3 hB
  go_enter Tryd.func23, Tryd.ntmps23
  go_upto_region 1 with fail
  clear hW3 hm3
  rw [shown_call HV.out.2.2.2, ← HF.out.1] at hsl
  simp only [List.length_append, List.length_singleton] at hsl
  have hwk : (wk [44, 32] 1 1 nd.kt).length + vt.length + 2 ≤ nd.wt := by omega
  have hvl : vt.length + 32 ≤ nd.wt := by have : nd.wt = nd.text.length + 32 + fw nd.kids := rfl; rw [← HF.out.1] at this; omega
  have hfw : nd.wt = vt.length + 32 + fw nd.kids := by have : nd.wt = nd.text.length + 32 + fw nd.kids := rfl; rw [← HF.out.1] at this; exact this
  go_wp2_with fail
  have htx : (⟨vt.toArray⟩ : ByteArray) ++ ⟨#[40]⟩ = ⟨(vt ++ [40]).toArray⟩ := txt_app vt [40]
  rw [htx]
  clear htx
  refine (write_any B b (l) ⟨((vt ++ [40]) : Bs).toArray⟩ _ HW.out.1 (by show (l).length + ((vt ++ [40]) : Bs).length ≤ _; simp; omega) (by have := HW.out.2.2.2; omega)).mono ?_
  rintro e w4 ⟨rfl, hB9, hb9, hk9⟩
  have HW9 : Hid (Bd B b (l ++ (vt ++ [40])) w4 ∧ Below B w w4 ∧ Lib.OthersKept 5 (some b) W3 w4 ∧ W3.heap.size ≤ w4.heap.size) := ⟨hB9, HW.out.2.1.trans hb9, HW.out.2.2.1.trans hk9, by have := HW.out.2.2.2; have := hb9.size; omega⟩
  clear HW hB9 hb9 hk9 e0 e1 e2 e3 e4 e5
  have HW := HW9
  clear HW9
  have x9 := H3.out.2.kept HW.out.2.2.1 hmb (by decide)
  obtain ⟨e0, e1, e2, e3, e4, e5⟩ := x9.cells
  clear x9
  go_wp2_with fail
  refine (wkids_any nd HV.out.2.2.1 hP [44, 32] (by decide) 1 1 B b (l ++ (vt ++ [40])) _ ⟨5, vt, vn, vi, va, vl, vc, vp⟩ HW.out.1 (by have := HW.out.2.2.2; omega) (HV.out.1.onB HW.out.2.1) (HV.out.2.1.on HW.out.2.1) (by first | omega | (simp; omega)) hwt).mono ?_
  rintro e w5 ⟨rfl, hB9, hb9, hk9⟩
  have HW9 : Hid (Bd B b (l ++ (vt ++ [40]) ++ wk [44, 32] 1 1 nd.kt) w5 ∧ Below B w w5 ∧ Lib.OthersKept 5 (some b) W3 w5 ∧ W3.heap.size ≤ w5.heap.size) := ⟨hB9, HW.out.2.1.trans hb9, HW.out.2.2.1.trans hk9, by have := HW.out.2.2.2; have := hb9.size; omega⟩
  clear HW hB9 hb9 hk9 e0 e1 e2 e3 e4 e5
  have HW := HW9
  clear HW9
  have x9 := H3.out.2.kept HW.out.2.2.1 hmb (by decide)
  obtain ⟨e0, e1, e2, e3, e4, e5⟩ := x9.cells
  clear x9
  go_wp2_with fail
  refine (write_any B b (l ++ (vt ++ [40]) ++ wk [44, 32] 1 1 nd.kt) ⟨([41] : Bs).toArray⟩ _ HW.out.1 (by show (l ++ (vt ++ [40]) ++ wk [44, 32] 1 1 nd.kt).length + ([41] : Bs).length ≤ _; simp; omega) (by have := HW.out.2.2.2; omega)).mono ?_
  rintro e w6 ⟨rfl, hB9, hb9, hk9⟩
  have HW9 : Hid (Bd B b (l ++ (vt ++ [40]) ++ wk [44, 32] 1 1 nd.kt ++ [41]) w6 ∧ Below B w w6 ∧ Lib.OthersKept 5 (some b) W3 w6 ∧ W3.heap.size ≤ w6.heap.size) := ⟨hB9, HW.out.2.1.trans hb9, HW.out.2.2.1.trans hk9, by have := HW.out.2.2.2; have := hb9.size; omega⟩
  clear HW hB9 hb9 hk9 e0 e1 e2 e3 e4 e5
  have HW := HW9
  clear HW9
  have x9 := H3.out.2.kept HW.out.2.2.1 hmb (by decide)
  obtain ⟨e0, e1, e2, e3, e4, e5⟩ := x9.cells
  clear x9
  have HK : Hid (l ++ (vt ++ [40]) ++ wk [44, 32] 1 1 nd.kt ++ [41] = l ++ txt nd.ps) := by
    show _ = _
    rw [shown_call HV.out.2.2.2, HF.out.1]; simp
  rw [HK.out] at HW
  clear HK
  go_upto_region 22 with fail
  clear e0 e1 e2 e3 e4 e5
  obtain ⟨tt, fz, hinf⟩ := HGI.out _ HW.out.2.1
  go_wp2_with (refine wpList_load_row rfl 94 _ rfl 1 rfl tt _ fz _ hinf Tryd.underlying94 rfl hi30 ?_)
  clear hinf
  go_loopg [78] 5 (fun g v wr => ∃ (i : Nat), v = .int .i64 i ∧ i + g = 5 ∧ Hid (Below w6.heap.size w6 wr))
  case atStart => exact ⟨0, rfl, rfl, Below.refl _ _⟩
  case round =>
    obtain ⟨i, rfl, hi, HB⟩ := hrel
    obtain ⟨e0, e1, e2, e3, e4, e5⟩ := ((H3.out.2.kept HW.out.2.2.1 hmb (by decide)).below HB.out).cells
    by_cases h5 : i < 5
    · have hii : (i : Int) < 5 := by omega
      obtain ⟨z, hz, hidx⟩ := hV i h5
      have hne := infNe (op := 5) (by decide) i z hz
      obtain ⟨o, g, wt, lv, f, s⟩ := z
      simp only at hidx hne
      have hne1 : (o == 5) = false := by rw [beq_eq_false_iff_ne]; exact hne
      clear hz
      obtain ⟨Wa, ma, hWa, hma, hxa, bWa, ba, hBa, hlta⟩ := lay6 HB.out HB.out.size 93 (.int .i64 o) (.string ⟨g.toArray⟩) (.string ⟨wt.toArray⟩) (.int .i64 lv) (.int .i64 f) (.int .i64 s)
      obtain ⟨f0, f1, f2, f3, f4, f5⟩ := hxa.cells
      obtain ⟨z0, z1, z2, z3, z4, z5⟩ := ((H3.out.2.kept HW.out.2.2.1 hmb (by decide)).below bWa).cells
      have HBa : Hid (Below w6.heap.size w6 Wa) := bWa
      clear hxa bWa ba
      go_upto_region 25 with fail
      clear hWa hma
      go_wp2_with fail
      go_roundg (gk - 1)
      case measure => omega
      case rel => exact ⟨i + 1, by go_num, by omega, HBa.out⟩
    · obtain rfl : i = 5 := by omega
      go_wp2_with fail
      go_end0
      exact ⟨rfl, HW.out.1.below HB.out, HW.out.2.1.trans (HB.out.mono (by have := HW.out.2.2.2; omega)), ((okept H3.out.1).trans HW.out.2.2.1).trans (okept HB.out)⟩

set_option maxHeartbeats 3200000 in
set_option maxRecDepth 100000 in
theorem write_not (nd : Nd) (hw : WfT nd) (hop : nd.op = 11) (hP : ∀ k ∈ ndL nd.kids, PW k) : PW nd := by
  intro B b l w v hB hBw hv hG hlen hwt
  have hvo := hv.op
  have hvt := hv.text
  have hvn := hv.num
  have hvi := hv.id
  rw [hop] at hvo
  have hbw : b < w.heap.size := hB.lt
  have hsl := shown_len nd hw
  have hi30 : (Tryd.prog.info? 94).map (·.size) = some infV.size := by kernel_rfl
  have hV := infAt
  have hGi : ∀ u, Below B w u → ∃ tt fz, u.heap[1]? = some (.cells infV tt fz) := fun u hu => (hG.on hu).inf
  obtain ⟨V, hVe⟩ : ∃ V, infV = V := ⟨_, rfl⟩
  rw [hVe] at hi30 hV hGi
  clear hVe
  have HGI : Hid (∀ u, Below B w u → ∃ tt fz, u.heap[1]? = some (.cells V tt fz)) := hGi
  clear hGi
  obtain ⟨vo, vt, vn, vi, va, vl, vc, vp⟩ := v
  simp only at hvo hvt hvn hvi ⊢
  subst hvo
  have HF : Hid (vt = nd.text ∧ vn = nd.num ∧ vi = nd.id) := ⟨hvt, hvn, hvi⟩
  clear hvt hvn hvi
  have HV : Hid (NdIn (fun g => g < B) w ⟨11, vt, vn, vi, va, vl, vc, vp⟩ nd ∧ Gb B w ∧ WfT nd ∧ nd.op = 11) := ⟨hv, hG, hw, hop⟩
  clear hv hG hw hop
  obtain ⟨W3, m3, hW3, hm3, hx3, bW3, _, hB3, hlt3⟩ := lay6 (Below.refl _ w) (Nat.le_refl _) 28 (.int .i64 11) (.string ⟨vt.toArray⟩) (.int .i64 vn) (.int .u64 vi) (.slice va vl vc) (.int .i64 vp)
  have hmb : ¬ m3 = b := by omega
  obtain ⟨e0, e1, e2, e3, e4, e5⟩ := hx3.cells
  have H3 : Hid (Below w.heap.size w W3 ∧ Box6 W3 m3 28 (.int .i64 11) (.string ⟨vt.toArray⟩) (.int .i64 vn) (.int .u64 vi) (.slice va vl vc) (.int .i64 vp)) := ⟨bW3, hx3⟩
  have hs3 := bW3.size
  have HW : Hid (Bd B b l W3 ∧ Below B w W3 ∧ Lib.OthersKept 5 (some b) W3 W3 ∧ W3.heap.size ≤ W3.heap.size) := ⟨hB.below bW3, bW3.mono hBw, Lib.OthersKept.refl _ _ _, Nat.le_refl _⟩
  clear hx3 bW3 hB
  go_enter Tryd.func23, Tryd.ntmps23
  go_upto_region 1 with fail
  clear hW3 hm3
  have hkl : len nd.kids = 1 := by
    have hwf := HV.out.2.2.1.1
    rw [HV.out.2.2.2] at hwf
    unfold WfN at hwf
    simp at hwf
    exact hwf.2.2.2
  have HKL : Hid (len nd.kids = 1) := hkl
  rw [shown_not HV.out.2.2.2 hkl] at hsl
  clear hkl
  simp only [List.length_append, List.length_singleton] at hsl
  have hfw : nd.wt = vt.length + 32 + fw nd.kids := by have : nd.wt = nd.text.length + 32 + fw nd.kids := rfl; rw [← HF.out.1] at this; exact this
  go_wp2_with fail
  refine (write_any B b (l) ⟨([33] : Bs).toArray⟩ _ HW.out.1 (by show (l).length + ([33] : Bs).length ≤ _; simp; omega) (by have := HW.out.2.2.2; omega)).mono ?_
  rintro e w4 ⟨rfl, hB9, hb9, hk9⟩
  have HW9 : Hid (Bd B b (l ++ [33]) w4 ∧ Below B w w4 ∧ Lib.OthersKept 5 (some b) W3 w4 ∧ W3.heap.size ≤ w4.heap.size) := ⟨hB9, HW.out.2.1.trans hb9, HW.out.2.2.1.trans hk9, by have := HW.out.2.2.2; have := hb9.size; omega⟩
  clear HW hB9 hb9 hk9 e0 e1 e2 e3 e4 e5
  have HW := HW9
  clear HW9
  have x9 := H3.out.2.kept HW.out.2.2.1 hmb (by decide)
  obtain ⟨e0, e1, e2, e3, e4, e5⟩ := x9.cells
  clear x9
  go_wp2_with fail
  refine (wkids_any nd HV.out.2.2.1 hP [] (by decide) 4 4 B b (l ++ [33]) _ ⟨11, vt, vn, vi, va, vl, vc, vp⟩ HW.out.1 (by have := HW.out.2.2.2; omega) (HV.out.1.onB HW.out.2.1) (HV.out.2.1.on HW.out.2.1) (by first | omega | (simp; omega)) hwt).mono ?_
  rintro e w5 ⟨rfl, hB9, hb9, hk9⟩
  have HW9 : Hid (Bd B b (l ++ [33] ++ wk [] 4 4 nd.kt) w5 ∧ Below B w w5 ∧ Lib.OthersKept 5 (some b) W3 w5 ∧ W3.heap.size ≤ w5.heap.size) := ⟨hB9, HW.out.2.1.trans hb9, HW.out.2.2.1.trans hk9, by have := HW.out.2.2.2; have := hb9.size; omega⟩
  clear HW hB9 hb9 hk9 e0 e1 e2 e3 e4 e5
  have HW := HW9
  clear HW9
  have x9 := H3.out.2.kept HW.out.2.2.1 hmb (by decide)
  obtain ⟨e0, e1, e2, e3, e4, e5⟩ := x9.cells
  clear x9
  have HK : Hid (l ++ [33] ++ wk [] 4 4 nd.kt = l ++ txt nd.ps) := by
    show _ = _
    rw [shown_not HV.out.2.2.2 HKL.out]; simp
  rw [HK.out] at HW
  clear HK
  go_upto_region 22 with fail
  clear e0 e1 e2 e3 e4 e5
  obtain ⟨tt, fz, hinf⟩ := HGI.out _ HW.out.2.1
  go_wp2_with (refine wpList_load_row rfl 94 _ rfl 1 rfl tt _ fz _ hinf Tryd.underlying94 rfl hi30 ?_)
  clear hinf
  go_loopg [78] 5 (fun g v wr => ∃ (i : Nat), v = .int .i64 i ∧ i + g = 5 ∧ Hid (Below w5.heap.size w5 wr))
  case atStart => exact ⟨0, rfl, rfl, Below.refl _ _⟩
  case round =>
    obtain ⟨i, rfl, hi, HB⟩ := hrel
    obtain ⟨e0, e1, e2, e3, e4, e5⟩ := ((H3.out.2.kept HW.out.2.2.1 hmb (by decide)).below HB.out).cells
    by_cases h5 : i < 5
    · have hii : (i : Int) < 5 := by omega
      obtain ⟨z, hz, hidx⟩ := hV i h5
      have hne := infNe (op := 11) (by decide) i z hz
      obtain ⟨o, g, wt, lv, f, s⟩ := z
      simp only at hidx hne
      have hne1 : (o == 11) = false := by rw [beq_eq_false_iff_ne]; exact hne
      clear hz
      obtain ⟨Wa, ma, hWa, hma, hxa, bWa, ba, hBa, hlta⟩ := lay6 HB.out HB.out.size 93 (.int .i64 o) (.string ⟨g.toArray⟩) (.string ⟨wt.toArray⟩) (.int .i64 lv) (.int .i64 f) (.int .i64 s)
      obtain ⟨f0, f1, f2, f3, f4, f5⟩ := hxa.cells
      obtain ⟨z0, z1, z2, z3, z4, z5⟩ := ((H3.out.2.kept HW.out.2.2.1 hmb (by decide)).below bWa).cells
      have HBa : Hid (Below w5.heap.size w5 Wa) := bWa
      clear hxa bWa ba
      go_upto_region 25 with fail
      clear hWa hma
      go_wp2_with fail
      go_roundg (gk - 1)
      case measure => omega
      case rel => exact ⟨i + 1, by go_num, by omega, HBa.out⟩
    · obtain rfl : i = 5 := by omega
      go_wp2_with fail
      go_end0
      exact ⟨rfl, HW.out.1.below HB.out, HW.out.2.1.trans (HB.out.mono (by have := HW.out.2.2.2; omega)), ((okept H3.out.1).trans HW.out.2.2.1).trans (okept HB.out)⟩

set_option maxHeartbeats 3200000 in
set_option maxRecDepth 100000 in
theorem write_up0 (nd : Nd) (hw : WfT nd) (hop : nd.op = 12) (hP : ∀ k ∈ ndL nd.kids, PW k) (hn0 : nd.num = 0) : PW nd := by
  intro B b l w v hB hBw hv hG hlen hwt
  have hvo := hv.op
  have hvt := hv.text
  have hvn := hv.num
  have hvi := hv.id
  rw [hop] at hvo
  have hbw : b < w.heap.size := hB.lt
  have hsl := shown_len nd hw
  have hi30 : (Tryd.prog.info? 94).map (·.size) = some infV.size := by kernel_rfl
  have hV := infAt
  have hGi : ∀ u, Below B w u → ∃ tt fz, u.heap[1]? = some (.cells infV tt fz) := fun u hu => (hG.on hu).inf
  obtain ⟨V, hVe⟩ : ∃ V, infV = V := ⟨_, rfl⟩
  rw [hVe] at hi30 hV hGi
  clear hVe
  have HGI : Hid (∀ u, Below B w u → ∃ tt fz, u.heap[1]? = some (.cells V tt fz)) := hGi
  clear hGi
  obtain ⟨vo, vt, vn, vi, va, vl, vc, vp⟩ := v
  simp only at hvo hvt hvn hvi ⊢
  subst hvo
  have HF : Hid (vt = nd.text ∧ vn = nd.num ∧ vi = nd.id) := ⟨hvt, hvn, hvi⟩
  clear hvt hvn hvi
  have HV : Hid (NdIn (fun g => g < B) w ⟨12, vt, vn, vi, va, vl, vc, vp⟩ nd ∧ Gb B w ∧ WfT nd ∧ nd.op = 12) := ⟨hv, hG, hw, hop⟩
  clear hv hG hw hop
  obtain ⟨W3, m3, hW3, hm3, hx3, bW3, _, hB3, hlt3⟩ := lay6 (Below.refl _ w) (Nat.le_refl _) 28 (.int .i64 12) (.string ⟨vt.toArray⟩) (.int .i64 vn) (.int .u64 vi) (.slice va vl vc) (.int .i64 vp)
  have hmb : ¬ m3 = b := by omega
  obtain ⟨e0, e1, e2, e3, e4, e5⟩ := hx3.cells
  have H3 : Hid (Below w.heap.size w W3 ∧ Box6 W3 m3 28 (.int .i64 12) (.string ⟨vt.toArray⟩) (.int .i64 vn) (.int .u64 vi) (.slice va vl vc) (.int .i64 vp)) := ⟨bW3, hx3⟩
  have hs3 := bW3.size
  have HW : Hid (Bd B b l W3 ∧ Below B w W3 ∧ Lib.OthersKept 5 (some b) W3 W3 ∧ W3.heap.size ≤ W3.heap.size) := ⟨hB.below bW3, bW3.mono hBw, Lib.OthersKept.refl _ _ _, Nat.le_refl _⟩
  clear hx3 bW3 hB
  go_enter Tryd.func23, Tryd.ntmps23
  go_upto_region 1 with fail
  clear hW3 hm3
  have hkl : len nd.kids = 1 := by
    have hwf := HV.out.2.2.1.1
    rw [HV.out.2.2.2] at hwf
    unfold WfN at hwf
    simp at hwf
    exact hwf.2.2.2
  have HKL : Hid (len nd.kids = 1) := hkl
  rw [shown_up HV.out.2.2.2 hkl, if_pos hn0] at hsl
  clear hkl
  simp only [List.length_append, List.length_singleton] at hsl
  have hfw : nd.wt = vt.length + 32 + fw nd.kids := by have : nd.wt = nd.text.length + 32 + fw nd.kids := rfl; rw [← HF.out.1] at this; exact this
  have hvn0 : vn = 0 := by rw [HF.out.2.1]; exact hn0
  subst hvn0
  have HN0 : Hid (nd.num = 0) := hn0
  clear hn0
  go_wp2_with fail
  refine (wkids_any nd HV.out.2.2.1 hP [] (by decide) 5 5 B b (l) _ ⟨12, vt, 0, vi, va, vl, vc, vp⟩ HW.out.1 (by have := HW.out.2.2.2; omega) (HV.out.1.onB HW.out.2.1) (HV.out.2.1.on HW.out.2.1) (by first | omega | (simp; omega)) hwt).mono ?_
  rintro e w4 ⟨rfl, hB9, hb9, hk9⟩
  have HW9 : Hid (Bd B b (l ++ wk [] 5 5 nd.kt) w4 ∧ Below B w w4 ∧ Lib.OthersKept 5 (some b) W3 w4 ∧ W3.heap.size ≤ w4.heap.size) := ⟨hB9, HW.out.2.1.trans hb9, HW.out.2.2.1.trans hk9, by have := HW.out.2.2.2; have := hb9.size; omega⟩
  clear HW hB9 hb9 hk9 e0 e1 e2 e3 e4 e5
  have HW := HW9
  clear HW9
  have x9 := H3.out.2.kept HW.out.2.2.1 hmb (by decide)
  obtain ⟨e0, e1, e2, e3, e4, e5⟩ := x9.cells
  clear x9
  go_wp2_with fail
  refine (write_any B b (l ++ wk [] 5 5 nd.kt) ⟨([94] : Bs).toArray⟩ _ HW.out.1 (by show (l ++ wk [] 5 5 nd.kt).length + ([94] : Bs).length ≤ _; simp; omega) (by have := HW.out.2.2.2; omega)).mono ?_
  rintro e w5 ⟨rfl, hB9, hb9, hk9⟩
  have HW9 : Hid (Bd B b (l ++ wk [] 5 5 nd.kt ++ [94]) w5 ∧ Below B w w5 ∧ Lib.OthersKept 5 (some b) W3 w5 ∧ W3.heap.size ≤ w5.heap.size) := ⟨hB9, HW.out.2.1.trans hb9, HW.out.2.2.1.trans hk9, by have := HW.out.2.2.2; have := hb9.size; omega⟩
  clear HW hB9 hb9 hk9 e0 e1 e2 e3 e4 e5
  have HW := HW9
  clear HW9
  have x9 := H3.out.2.kept HW.out.2.2.1 hmb (by decide)
  obtain ⟨e0, e1, e2, e3, e4, e5⟩ := x9.cells
  clear x9
  have HK : Hid (l ++ wk [] 5 5 nd.kt ++ [94] = l ++ txt nd.ps) := by
    show _ = _
    rw [shown_up HV.out.2.2.2 HKL.out, if_pos HN0.out]; simp
  rw [HK.out] at HW
  clear HK
  go_upto_region 22 with fail
  clear e0 e1 e2 e3 e4 e5
  obtain ⟨tt, fz, hinf⟩ := HGI.out _ HW.out.2.1
  go_wp2_with (refine wpList_load_row rfl 94 _ rfl 1 rfl tt _ fz _ hinf Tryd.underlying94 rfl hi30 ?_)
  clear hinf
  go_loopg [78] 5 (fun g v wr => ∃ (i : Nat), v = .int .i64 i ∧ i + g = 5 ∧ Hid (Below w5.heap.size w5 wr))
  case atStart => exact ⟨0, rfl, rfl, Below.refl _ _⟩
  case round =>
    obtain ⟨i, rfl, hi, HB⟩ := hrel
    obtain ⟨e0, e1, e2, e3, e4, e5⟩ := ((H3.out.2.kept HW.out.2.2.1 hmb (by decide)).below HB.out).cells
    by_cases h5 : i < 5
    · have hii : (i : Int) < 5 := by omega
      obtain ⟨z, hz, hidx⟩ := hV i h5
      have hne := infNe (op := 12) (by decide) i z hz
      obtain ⟨o, g, wt, lv, f, s⟩ := z
      simp only at hidx hne
      have hne1 : (o == 12) = false := by rw [beq_eq_false_iff_ne]; exact hne
      clear hz
      obtain ⟨Wa, ma, hWa, hma, hxa, bWa, ba, hBa, hlta⟩ := lay6 HB.out HB.out.size 93 (.int .i64 o) (.string ⟨g.toArray⟩) (.string ⟨wt.toArray⟩) (.int .i64 lv) (.int .i64 f) (.int .i64 s)
      obtain ⟨f0, f1, f2, f3, f4, f5⟩ := hxa.cells
      obtain ⟨z0, z1, z2, z3, z4, z5⟩ := ((H3.out.2.kept HW.out.2.2.1 hmb (by decide)).below bWa).cells
      have HBa : Hid (Below w5.heap.size w5 Wa) := bWa
      clear hxa bWa ba
      go_upto_region 25 with fail
      clear hWa hma
      go_wp2_with fail
      go_roundg (gk - 1)
      case measure => omega
      case rel => exact ⟨i + 1, by go_num, by omega, HBa.out⟩
    · obtain rfl : i = 5 := by omega
      go_wp2_with fail
      go_end0
      exact ⟨rfl, HW.out.1.below HB.out, HW.out.2.1.trans (HB.out.mono (by have := HW.out.2.2.2; omega)), ((okept H3.out.1).trans HW.out.2.2.1).trans (okept HB.out)⟩

set_option maxHeartbeats 3200000 in
set_option maxRecDepth 100000 in
theorem write_upK (nd : Nd) (hw : WfT nd) (hop : nd.op = 12) (hP : ∀ k ∈ ndL nd.kids, PW k) (hn0 : nd.num ≠ 0) : PW nd := by
  intro B b l w v hB hBw hv hG hlen hwt
  have hvo := hv.op
  have hvt := hv.text
  have hvn := hv.num
  have hvi := hv.id
  rw [hop] at hvo
  have hbw : b < w.heap.size := hB.lt
  have hsl := shown_len nd hw
  have hi30 : (Tryd.prog.info? 94).map (·.size) = some infV.size := by kernel_rfl
  have hV := infAt
  have hGi : ∀ u, Below B w u → ∃ tt fz, u.heap[1]? = some (.cells infV tt fz) := fun u hu => (hG.on hu).inf
  obtain ⟨V, hVe⟩ : ∃ V, infV = V := ⟨_, rfl⟩
  rw [hVe] at hi30 hV hGi
  clear hVe
  have HGI : Hid (∀ u, Below B w u → ∃ tt fz, u.heap[1]? = some (.cells V tt fz)) := hGi
  clear hGi
  obtain ⟨vo, vt, vn, vi, va, vl, vc, vp⟩ := v
  simp only at hvo hvt hvn hvi ⊢
  subst hvo
  have HF : Hid (vt = nd.text ∧ vn = nd.num ∧ vi = nd.id) := ⟨hvt, hvn, hvi⟩
  clear hvt hvn hvi
  have HV : Hid (NdIn (fun g => g < B) w ⟨12, vt, vn, vi, va, vl, vc, vp⟩ nd ∧ Gb B w ∧ WfT nd ∧ nd.op = 12) := ⟨hv, hG, hw, hop⟩
  clear hv hG hw hop
  obtain ⟨W3, m3, hW3, hm3, hx3, bW3, _, hB3, hlt3⟩ := lay6 (Below.refl _ w) (Nat.le_refl _) 28 (.int .i64 12) (.string ⟨vt.toArray⟩) (.int .i64 vn) (.int .u64 vi) (.slice va vl vc) (.int .i64 vp)
  have hmb : ¬ m3 = b := by omega
  obtain ⟨e0, e1, e2, e3, e4, e5⟩ := hx3.cells
  have H3 : Hid (Below w.heap.size w W3 ∧ Box6 W3 m3 28 (.int .i64 12) (.string ⟨vt.toArray⟩) (.int .i64 vn) (.int .u64 vi) (.slice va vl vc) (.int .i64 vp)) := ⟨bW3, hx3⟩
  have hs3 := bW3.size
  have HW : Hid (Bd B b l W3 ∧ Below B w W3 ∧ Lib.OthersKept 5 (some b) W3 W3 ∧ W3.heap.size ≤ W3.heap.size) := ⟨hB.below bW3, bW3.mono hBw, Lib.OthersKept.refl _ _ _, Nat.le_refl _⟩
  clear hx3 bW3 hB
  go_enter Tryd.func23, Tryd.ntmps23
  go_upto_region 1 with fail
  clear hW3 hm3
  have hkl : len nd.kids = 1 := by
    have hwf := HV.out.2.2.1.1
    rw [HV.out.2.2.2] at hwf
    unfold WfN at hwf
    simp at hwf
    exact hwf.2.2.2
  have HKL : Hid (len nd.kids = 1) := hkl
  rw [shown_up HV.out.2.2.2 hkl, if_neg hn0, ← HF.out.2.1] at hsl
  clear hkl
  simp only [List.length_append, List.length_singleton] at hsl
  have hfw : nd.wt = vt.length + 32 + fw nd.kids := by have : nd.wt = nd.text.length + 32 + fw nd.kids := rfl; rw [← HF.out.1] at this; exact this
  have hvn0 : ¬ vn = 0 := by rw [HF.out.2.1]; exact hn0
  have hvn1 : (vn == 0) = false := by rw [beq_eq_false_iff_ne]; exact hvn0
  have hvn2 : (vn != 0) = true := by simpa using hvn0
  have HGD : Hid (Gd (nuT vn) ∧ (st (nuT vn)).length ≤ 100000) := by
    have hwf := HV.out.2.2.1.1
    rw [HV.out.2.2.2] at hwf
    unfold WfN at hwf
    simp [hn0] at hwf
    rw [← HF.out.2.1] at hwf
    exact ⟨hwf.2.1, by have := num_len hwf.2.1; omega⟩
  have HN0 : Hid (nd.num ≠ 0) := hn0
  clear hn0
  go_wp2_with fail
  refine (wkids_any nd HV.out.2.2.1 hP [] (by decide) 5 5 B b (l) _ ⟨12, vt, vn, vi, va, vl, vc, vp⟩ HW.out.1 (by have := HW.out.2.2.2; omega) (HV.out.1.onB HW.out.2.1) (HV.out.2.1.on HW.out.2.1) (by first | omega | (simp; omega)) hwt).mono ?_
  rintro e w4 ⟨rfl, hB9, hb9, hk9⟩
  have HW9 : Hid (Bd B b (l ++ wk [] 5 5 nd.kt) w4 ∧ Below B w w4 ∧ Lib.OthersKept 5 (some b) W3 w4 ∧ W3.heap.size ≤ w4.heap.size) := ⟨hB9, HW.out.2.1.trans hb9, HW.out.2.2.1.trans hk9, by have := HW.out.2.2.2; have := hb9.size; omega⟩
  clear HW hB9 hb9 hk9 e0 e1 e2 e3 e4 e5
  have HW := HW9
  clear HW9
  have x9 := H3.out.2.kept HW.out.2.2.1 hmb (by decide)
  obtain ⟨e0, e1, e2, e3, e4, e5⟩ := x9.cells
  clear x9
  go_wp2_with fail
  refine (write_any B b (l ++ wk [] 5 5 nd.kt) ⟨([94] : Bs).toArray⟩ _ HW.out.1 (by show (l ++ wk [] 5 5 nd.kt).length + ([94] : Bs).length ≤ _; simp; omega) (by have := HW.out.2.2.2; omega)).mono ?_
  rintro e w5 ⟨rfl, hB9, hb9, hk9⟩
  have HW9 : Hid (Bd B b (l ++ wk [] 5 5 nd.kt ++ [94]) w5 ∧ Below B w w5 ∧ Lib.OthersKept 5 (some b) W3 w5 ∧ W3.heap.size ≤ w5.heap.size) := ⟨hB9, HW.out.2.1.trans hb9, HW.out.2.2.1.trans hk9, by have := HW.out.2.2.2; have := hb9.size; omega⟩
  clear HW hB9 hb9 hk9 e0 e1 e2 e3 e4 e5
  have HW := HW9
  clear HW9
  have x9 := H3.out.2.kept HW.out.2.2.1 hmb (by decide)
  obtain ⟨e0, e1, e2, e3, e4, e5⟩ := x9.cells
  clear x9
  go_wp2_with fail
  refine (write_one (nuT vn) HGD.out.1 HGD.out.2 _ (HV.out.2.1.on HW.out.2.1).gl _ (by simp [encT, nuT])).mono ?_
  rintro e w6 ⟨rfl, b9⟩
  have HW9 : Hid (Bd B b (l ++ wk [] 5 5 nd.kt ++ [94]) w6 ∧ Below B w w6 ∧ Lib.OthersKept 5 (some b) W3 w6 ∧ W3.heap.size ≤ w6.heap.size) := ⟨(HW.out.1.below (bz1 _ _)).below b9, (HW.out.2.1.trans ((bz1 _ _).mono (by have := HW.out.2.2.2; omega))).trans (b9.mono (by have := HW.out.2.2.2; simp; omega)), (HW.out.2.2.1.trans (okept (bz1 _ _))).trans (okept b9), by have := HW.out.2.2.2; have := b9.size; simp at this; omega⟩
  clear HW b9 e0 e1 e2 e3 e4 e5
  have HW := HW9
  clear HW9
  have x9 := H3.out.2.kept HW.out.2.2.1 hmb (by decide)
  obtain ⟨e0, e1, e2, e3, e4, e5⟩ := x9.cells
  clear x9
  go_wp2_with fail
  refine (write_any B b (l ++ wk [] 5 5 nd.kt ++ [94]) ⟨(st (nuT vn) : Bs).toArray⟩ _ HW.out.1 (by show (l ++ wk [] 5 5 nd.kt ++ [94]).length + (st (nuT vn) : Bs).length ≤ _; simp; omega) (by have := HW.out.2.2.2; omega)).mono ?_
  rintro e w7 ⟨rfl, hB9, hb9, hk9⟩
  have HW9 : Hid (Bd B b (l ++ wk [] 5 5 nd.kt ++ [94] ++ st (nuT vn)) w7 ∧ Below B w w7 ∧ Lib.OthersKept 5 (some b) W3 w7 ∧ W3.heap.size ≤ w7.heap.size) := ⟨hB9, HW.out.2.1.trans hb9, HW.out.2.2.1.trans hk9, by have := HW.out.2.2.2; have := hb9.size; omega⟩
  clear HW hB9 hb9 hk9 e0 e1 e2 e3 e4 e5
  have HW := HW9
  clear HW9
  have x9 := H3.out.2.kept HW.out.2.2.1 hmb (by decide)
  obtain ⟨e0, e1, e2, e3, e4, e5⟩ := x9.cells
  clear x9
  have HK : Hid (l ++ wk [] 5 5 nd.kt ++ [94] ++ st (nuT vn) = l ++ txt nd.ps) := by
    show _ = _
    rw [shown_up HV.out.2.2.2 HKL.out, if_neg HN0.out, HF.out.2.1]; simp
  rw [HK.out] at HW
  clear HK
  go_upto_region 22 with fail
  clear e0 e1 e2 e3 e4 e5
  obtain ⟨tt, fz, hinf⟩ := HGI.out _ HW.out.2.1
  go_wp2_with (refine wpList_load_row rfl 94 _ rfl 1 rfl tt _ fz _ hinf Tryd.underlying94 rfl hi30 ?_)
  clear hinf
  go_loopg [78] 5 (fun g v wr => ∃ (i : Nat), v = .int .i64 i ∧ i + g = 5 ∧ Hid (Below w7.heap.size w7 wr))
  case atStart => exact ⟨0, rfl, rfl, Below.refl _ _⟩
  case round =>
    obtain ⟨i, rfl, hi, HB⟩ := hrel
    obtain ⟨e0, e1, e2, e3, e4, e5⟩ := ((H3.out.2.kept HW.out.2.2.1 hmb (by decide)).below HB.out).cells
    by_cases h5 : i < 5
    · have hii : (i : Int) < 5 := by omega
      obtain ⟨z, hz, hidx⟩ := hV i h5
      have hne := infNe (op := 12) (by decide) i z hz
      obtain ⟨o, g, wt, lv, f, s⟩ := z
      simp only at hidx hne
      have hne1 : (o == 12) = false := by rw [beq_eq_false_iff_ne]; exact hne
      clear hz
      obtain ⟨Wa, ma, hWa, hma, hxa, bWa, ba, hBa, hlta⟩ := lay6 HB.out HB.out.size 93 (.int .i64 o) (.string ⟨g.toArray⟩) (.string ⟨wt.toArray⟩) (.int .i64 lv) (.int .i64 f) (.int .i64 s)
      obtain ⟨f0, f1, f2, f3, f4, f5⟩ := hxa.cells
      obtain ⟨z0, z1, z2, z3, z4, z5⟩ := ((H3.out.2.kept HW.out.2.2.1 hmb (by decide)).below bWa).cells
      have HBa : Hid (Below w7.heap.size w7 Wa) := bWa
      clear hxa bWa ba
      go_upto_region 25 with fail
      clear hWa hma
      go_wp2_with fail
      go_roundg (gk - 1)
      case measure => omega
      case rel => exact ⟨i + 1, by go_num, by omega, HBa.out⟩
    · obtain rfl : i = 5 := by omega
      go_wp2_with fail
      go_end0
      exact ⟨rfl, HW.out.1.below HB.out, HW.out.2.1.trans (HB.out.mono (by have := HW.out.2.2.2; omega)), ((okept H3.out.1).trans HW.out.2.2.1).trans (okept HB.out)⟩

set_option maxHeartbeats 3200000 in
set_option maxRecDepth 100000 in
theorem write_bin {op : Int} {j : Nat} {g0 bt : Bs} {lv0 ff oo : Int} (hj : infL[j]? = some (op, g0, bt, lv0, ff, oo)) (nd : Nd) (hw : WfT nd) (hop : nd.op = op) (hP : ∀ k ∈ ndL nd.kids, PW k) : PW nd := by
  intro B b l w v hB hBw hv hG hlen hwt
  have hvo := hv.op
  have hvt := hv.text
  have hvn := hv.num
  have hvi := hv.id
  rw [hop] at hvo
  have hbw : b < w.heap.size := hB.lt
  have hsl := shown_len nd hw
  have hi30 : (Tryd.prog.info? 94).map (·.size) = some infV.size := by kernel_rfl
  have hV := infAt
  have hGi : ∀ u, Below B w u → ∃ tt fz, u.heap[1]? = some (.cells infV tt fz) := fun u hu => (hG.on hu).inf
  obtain ⟨V, hVe⟩ : ∃ V, infV = V := ⟨_, rfl⟩
  rw [hVe] at hi30 hV hGi
  clear hVe
  have HGI : Hid (∀ u, Below B w u → ∃ tt fz, u.heap[1]? = some (.cells V tt fz)) := hGi
  clear hGi
  obtain ⟨vo, vt, vn, vi, va, vl, vc, vp⟩ := v
  simp only at hvo hvt hvn hvi ⊢
  have hvo' := hvo.symm
  clear hvo
  subst hvo'
  have HF : Hid (vt = nd.text ∧ vn = nd.num ∧ vi = nd.id) := ⟨hvt, hvn, hvi⟩
  clear hvt hvn hvi
  have HV : Hid (NdIn (fun g => g < B) w ⟨op, vt, vn, vi, va, vl, vc, vp⟩ nd ∧ Gb B w ∧ WfT nd ∧ nd.op = op) := ⟨hv, hG, hw, hop⟩
  clear hv hG hw hop
  obtain ⟨W3, m3, hW3, hm3, hx3, bW3, _, hB3, hlt3⟩ := lay6 (Below.refl _ w) (Nat.le_refl _) 28 (.int .i64 op) (.string ⟨vt.toArray⟩) (.int .i64 vn) (.int .u64 vi) (.slice va vl vc) (.int .i64 vp)
  have hmb : ¬ m3 = b := by omega
  obtain ⟨e0, e1, e2, e3, e4, e5⟩ := hx3.cells
  have H3 : Hid (Below w.heap.size w W3 ∧ Box6 W3 m3 28 (.int .i64 op) (.string ⟨vt.toArray⟩) (.int .i64 vn) (.int .u64 vi) (.slice va vl vc) (.int .i64 vp)) := ⟨bW3, hx3⟩
  have hs3 := bW3.size
  have HW : Hid (Bd B b l W3 ∧ Below B w W3 ∧ Lib.OthersKept 5 (some b) W3 W3 ∧ W3.heap.size ≤ W3.heap.size) := ⟨hB.below bW3, bW3.mono hBw, Lib.OthersKept.refl _ _ _, Nat.le_refl _⟩
  clear hx3 bW3 hB
  go_enter Tryd.func23, Tryd.ntmps23
  go_upto_region 1 with fail
  clear hW3 hm3
  have hkl : len nd.kids = 2 := by
    have hwf := HV.out.2.2.1.1
    rw [HV.out.2.2.2] at hwf
    have h5 : op = 6 ∨ op = 7 ∨ op = 8 ∨ op = 9 ∨ op = 10 := by
      match j, hj with
      | 0, hj => cases hj; exact .inl rfl
      | 1, hj => cases hj; exact .inr (.inl rfl)
      | 2, hj => cases hj; exact .inr (.inr (.inl rfl))
      | 3, hj => cases hj; exact .inr (.inr (.inr (.inl rfl)))
      | 4, hj => cases hj; exact .inr (.inr (.inr (.inr rfl)))
    rcases hwf with h | h | h | h | h | h | h | h
    · omega
    · omega
    · omega
    · omega
    · omega
    · exact h.2.2.2.2
    · omega
    · omega
  have hbt : bt.length ≤ 3 := by
    match j, hj with
    | 0, hj => cases hj; decide
    | 1, hj => cases hj; decide
    | 2, hj => cases hj; decide
    | 3, hj => cases hj; decide
    | 4, hj => cases hj; decide
  have hne : ¬ op = 1 ∧ ¬ op = 2 ∧ ¬ op = 3 ∧ ¬ op = 4 ∧ ¬ op = 5 ∧ ¬ op = 11 ∧ ¬ op = 12 := by
    match j, hj with
    | 0, hj => cases hj; decide
    | 1, hj => cases hj; decide
    | 2, hj => cases hj; decide
    | 3, hj => cases hj; decide
    | 4, hj => cases hj; decide
  have n1 : (op == 1) = false := by rw [beq_eq_false_iff_ne]; exact hne.1
  have n2 : (op == 2) = false := by rw [beq_eq_false_iff_ne]; exact hne.2.1
  have n3 : (op == 3) = false := by rw [beq_eq_false_iff_ne]; exact hne.2.2.1
  have n4 : (op == 4) = false := by rw [beq_eq_false_iff_ne]; exact hne.2.2.2.1
  have n5 : (op == 5) = false := by rw [beq_eq_false_iff_ne]; exact hne.2.2.2.2.1
  have n11 : (op == 11) = false := by rw [beq_eq_false_iff_ne]; exact hne.2.2.2.2.2.1
  have n12 : (op == 12) = false := by rw [beq_eq_false_iff_ne]; exact hne.2.2.2.2.2.2
  have HT : Hid (txt nd.ps = wk bt ff oo nd.kt) := shown_bin hj HV.out.2.2.2 hkl
  have HJ : Hid (infL[j]? = some (op, g0, bt, lv0, ff, oo) ∧ bt.length ≤ 3) := ⟨hj, hbt⟩
  have hj5 : j < 5 := (List.getElem?_eq_some_iff.1 hj).1
  clear hkl hbt hne hj hsl
  have hfw : nd.wt = vt.length + 32 + fw nd.kids := by have : nd.wt = nd.text.length + 32 + fw nd.kids := rfl; rw [← HF.out.1] at this; exact this
  go_upto_region 22 with fail
  clear e0 e1 e2 e3 e4 e5
  obtain ⟨tt, fz, hinf⟩ := HGI.out _ HW.out.2.1
  go_wp2_with (refine wpList_load_row rfl 94 _ rfl 1 rfl tt _ fz _ hinf Tryd.underlying94 rfl hi30 ?_)
  clear hinf
  go_loopg [78] 5 (fun g v wr => ∃ (i : Nat), v = .int .i64 i ∧ i + g = 5 ∧ Hid ((i ≤ j → Bd B b l wr) ∧ (j < i → Bd B b (l ++ wk bt ff oo nd.kt) wr) ∧ Below B w wr ∧ Lib.OthersKept 5 (some b) W3 wr ∧ W3.heap.size ≤ wr.heap.size))
  case atStart => exact ⟨0, rfl, rfl, fun _ => HW.out.1, fun q => by omega, HW.out.2.1, HW.out.2.2.1, HW.out.2.2.2⟩
  case round =>
    obtain ⟨i, rfl, hi, HI⟩ := hrel
    by_cases h5 : i < 5
    · have hii : (i : Int) < 5 := by omega
      obtain ⟨z, hz, hidx⟩ := hV i h5
      by_cases hej : i = j
      · subst hej
        obtain rfl := Option.some.inj (hz.symm.trans HJ.out.1)
        simp only at hidx
        clear hz
        obtain ⟨Wa, ma, hWa, hma, hxa, bWa, ba, hBa, hlta⟩ := lay6 (Below.refl _ wr) (Nat.le_refl _) 93 (.int .i64 op) (.string ⟨g0.toArray⟩) (.string ⟨bt.toArray⟩) (.int .i64 lv0) (.int .i64 ff) (.int .i64 oo)
        obtain ⟨f0, f1, f2, f3, f4, f5⟩ := hxa.cells
        obtain ⟨z0, z1, z2, z3, z4, z5⟩ := ((H3.out.2.kept HI.out.2.2.2.1 hmb (by decide)).below bWa).cells
        have HA : Hid (Bd B b l Wa ∧ Below B w Wa ∧ Lib.OthersKept 5 (some b) W3 Wa ∧ W3.heap.size ≤ Wa.heap.size) := ⟨(HI.out.1 (Nat.le_refl _)).below bWa, HI.out.2.2.1.trans (bWa.mono (by have := HI.out.2.2.2.2; omega)), HI.out.2.2.2.1.trans (okept bWa), by have := HI.out.2.2.2.2; have := bWa.size; omega⟩
        clear hxa bWa ba
        go_upto_region 25 with fail
        clear hWa hma
        go_wp2_with fail
        refine (wkids_any nd HV.out.2.2.1 hP bt HJ.out.2 ff oo B b l _ ⟨op, vt, vn, vi, va, vl, vc, vp⟩ HA.out.1 (by have := HA.out.2.2.2; omega) (HV.out.1.onB HA.out.2.1) (HV.out.2.1.on HA.out.2.1) (by omega) hwt).mono ?_
        rintro e w5 ⟨rfl, hB9, hb9, hk9⟩
        have HE : Hid (Bd B b (l ++ wk bt ff oo nd.kt) w5 ∧ Below B w w5 ∧ Lib.OthersKept 5 (some b) W3 w5 ∧ W3.heap.size ≤ w5.heap.size) := ⟨hB9, HA.out.2.1.trans hb9, HA.out.2.2.1.trans hk9, by have := HA.out.2.2.2; have := hb9.size; omega⟩
        clear hB9 hb9 hk9 z0 z1 z2 z3 z4 z5 f0 f1 f2 f3 f4 f5
        go_wp2_with fail
        go_roundg (gk - 1)
        case measure => omega
        case rel => exact ⟨i + 1, by go_num, by omega, fun q => by omega, fun _ => HE.out.1, HE.out.2.1, HE.out.2.2.1, HE.out.2.2.2⟩
      · have hne : ¬ z.1 = op := fun e => hej (inf_op hz HJ.out.1 e)
        obtain ⟨o, g, wt, lv, f, s⟩ := z
        simp only at hidx hne
        have hne1 : (o == op) = false := by rw [beq_eq_false_iff_ne]; exact hne
        have HEJ : Hid (¬ i = j) := hej
        clear hz hej
        obtain ⟨Wa, ma, hWa, hma, hxa, bWa, ba, hBa, hlta⟩ := lay6 (Below.refl _ wr) (Nat.le_refl _) 93 (.int .i64 o) (.string ⟨g.toArray⟩) (.string ⟨wt.toArray⟩) (.int .i64 lv) (.int .i64 f) (.int .i64 s)
        obtain ⟨f0, f1, f2, f3, f4, f5⟩ := hxa.cells
        obtain ⟨z0, z1, z2, z3, z4, z5⟩ := ((H3.out.2.kept HI.out.2.2.2.1 hmb (by decide)).below bWa).cells
        have HBa : Hid (Below wr.heap.size wr Wa) := bWa
        clear hxa bWa ba
        go_upto_region 25 with fail
        clear hWa hma
        go_wp2_with fail
        go_roundg (gk - 1)
        case measure => omega
        case rel => exact ⟨i + 1, by go_num, by omega, fun q => (HI.out.1 (by have := HEJ.out; omega)).below HBa.out, fun q => (HI.out.2.1 (by have := HEJ.out; omega)).below HBa.out, HI.out.2.2.1.trans (HBa.out.mono (by have := HI.out.2.2.2.2; omega)), HI.out.2.2.2.1.trans (okept HBa.out), by have := HI.out.2.2.2.2; have := HBa.out.size; omega⟩
    · obtain rfl : i = 5 := by omega
      go_wp2_with fail
      go_end0
      exact ⟨rfl, by rw [HT.out]; exact HI.out.2.1 hj5, HI.out.2.2.1, (okept H3.out.1).trans HI.out.2.2.2.1⟩

/-- write of whatever tree can be read. -/
theorem write_any2 (nd : Nd) : WfT nd → PW nd := by
  induction nd using Nd.ind with
  | h nd ih =>
    intro hw
    have hP : ∀ k ∈ ndL nd.kids, PW k := fun k hk => ih k hk (wf_kids _ hw.2 k hk)
    rcases hw.1 with ⟨h, _⟩ | ⟨h, _⟩ | ⟨h, _⟩ | ⟨h, _⟩ | ⟨h, _⟩ | ⟨h, _⟩ | ⟨h, _⟩ | ⟨h, _⟩
    · exact write_name nd hw h
    · exact write_hash nd hw h
    · exact write_num nd hw h
    · exact write_text nd hw h
    · exact write_call nd hw h hP
    · rcases h with h | h | h | h | h
      · exact write_bin (j := 0) rfl nd hw h hP
      · exact write_bin (j := 1) rfl nd hw h hP
      · exact write_bin (j := 2) rfl nd hw h hP
      · exact write_bin (j := 3) rfl nd hw h hP
      · exact write_bin (j := 4) rfl nd hw h hP
    · exact write_not nd hw h hP
    · by_cases h0 : nd.num = 0
      · exact write_up0 nd hw h hP h0
      · exact write_upK nd hw h hP h0

end Go.Proofs.YtdgdckmhmmigkaaDoor
