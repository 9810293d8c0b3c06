/-
  Several texts, laid together.
-/
import Derived.Test.YtjlokpjflgbgdaaGreatML51
import Derived.Test.YtjlokpjflgbgdaaGreatML40
set_option maxHeartbeats 6400000
set_option maxRecDepth 100000
namespace Go.Proofs.YtjlokpjflgbgdaaGreat
open Go.RowKit
theorem play_ref {B : Nat} {E : Nat -> Prop} {w0 w : World} {s b : Nat} {fa oa ra ta xa ya za : Option Addr} {fl fc on oc rn rc tn tc xn xc yn yc zn zc : Nat} {U : Nat -> Prop} {st : St} {d : Dk} {bl tl cl : List UInt64} {qa : Option Addr} {qn qc : Nat} {qs : List Int}
  (hI : WI B E w s b (.slice fa fl fc) (.slice oa on oc) (.slice ra rn rc) (.slice ta tn tc) (.slice xa xn xc) (.slice ya yn yc) (.slice za zn zc) U st d bl tl cl) (h0 : Below B w0 w) (hB0 : w0.heap.size = B) (hB : B <= w.heap.size) (hq : RdG encI w0 qa qs) (hql : qs.length = qn) (hqm : qn <= 4000000000000000000) (hcn : cl.length <= 1000000) (hst : st.ok) (hok : d.ok) (hw : d.writes <= 1000000) (hsz : st.size <= 1000000) (dv pv : Value) (nm : ByteArray) (hnm : nm.size <= 140737488355328) (dt kp : Int) (x : UInt64) (hx : pickU cl (pickI qs 0) = x) (Q) (hQ : sref st d nm.data.toList x = Q) :
  Calls Tryz.prog 13 #[.agg (wdV s b d (.slice fa fl fc) (.slice oa on oc) (.slice ra rn rc) (.slice ta tn tc) (.slice xa xn xc) (.slice ya yn yc) (.slice za zn zc)), actV 3 dv pv (.slice qa qn qc) nm dt kp] w λ e w' => ∃ vf vo vr vt, e = .returned (.tuple #[.agg (wdV s b Q.2.1 vf vo vr vt (.slice xa xn xc) (.slice ya yn yc) (.slice za zn zc)), .bool true]) /\ Hid (∃ U', WI B E w' s b vf vo vr vt (.slice xa xn xc) (.slice ya yn yc) (.slice za zn zc) U' Q.1 Q.2.1 bl tl cl /\ Below B w0 w' /\ ∀ i, E i -> w'.heap[i]? = w.heap[i]?) := by
 obtain ⟨W, hW⟩ : ∃ W, ((w.alloc (.cells (wdV s b d (.slice fa fl fc) (.slice oa on oc) (.slice ra rn rc) (.slice ta tn tc) (.slice xa xn xc) (.slice ya yn yc) (.slice za zn zc)) 35)).alloc (.cells (actC 3 dv pv (.slice qa qn qc) nm dt kp) 43)).alloc (.cells zeroW 35) = W := ⟨_, rfl⟩
 have bW : Below w.heap.size w W := by rw [<- hW]; exact bz3 _ _ _ _
 have hBX : Bx w.heap.size W (wdV s b d (.slice fa fl fc) (.slice oa on oc) (.slice ra rn rc) (.slice ta tn tc) (.slice xa xn xc) (.slice ya yn yc) (.slice za zn zc)) (actC 3 dv pv (.slice qa qn qc) nm dt kp) := by rw [<- hW]; exact Bx.new _ _ _
 have MD : Hid (Md B w.heap.size E (λ i => Fb w.heap.size i ∨ E i) w0 w W s b (.slice fa fl fc) (.slice oa on oc) (.slice ra rn rc) (.slice ta tn tc) (.slice xa xn xc) (.slice ya yn yc) (.slice za zn zc) U st d bl tl cl (wdV s b d (.slice fa fl fc) (.slice oa on oc) (.slice ra rn rc) (.slice ta tn tc) (.slice xa xn xc) (.slice ya yn yc) (.slice za zn zc)) (actC 3 dv pv (.slice qa qn qc) nm dt kp)) := Md.start hI h0 hB hBX bW
 have hnl : nm.data.toList.length <= 140737488355328 := by
  have e := bsize nm
  omega
 have HH : Hid (st.ok /\ d.ok /\ d.writes <= 1000000 /\ st.size <= 1000000 /\ nm.data.toList.length <= 140737488355328 /\ sref st d nm.data.toList x = Q) := ⟨hst, hok, hw, hsz, hnl, hQ⟩
 obtain ⟨pi, hpi⟩ : ∃ pi, pickI qs 0 = pi := ⟨_, rfl⟩
 obtain ⟨xx, hxx⟩ : ∃ xx : Int, (x.toNat : Int) = xx := ⟨_, rfl⟩
 have PI : Hid (Calls Tryz.prog 56 #[.slice qa qn qc, .int .i64 0] W.drew λ e w' => e = .returned (.int .i64 pi) /\ w' = W.drew) := pickI_any ((hq.below (by rw [hB0]; exact MD.out.bel)).below (Below.refl _ W).drew) hql hqm 0 pi hpi
 have hzl : zn = cl.length := by
  obtain ⟨a', c', e', _⟩ := MD.out.inv.oc.form
  cases e'
  rfl
 have PU : Hid (Calls Tryz.prog 32 #[.slice za zn zc, .int .i64 pi] W.drew λ e w' => e = .returned (.int .u64 xx) /\ w' = W.drew) := pickU_any (MD.out.inv.oc.rdc.1.below (Below.refl _ W).drew) hzl.symm (by omega) pi xx (by rw [<- hxx, <- hx, hpi])
 have XX := hid hxx
 have y3 := hBX.act.cell (j := 3) rfl
 have p13 := hBX.box.cell (j := 13) rfl
 have y0 := hBX.act.cell (j := 0) rfl
 have y4 := hBX.act.cell (j := 4) rfl
 have p1 := hBX.box.cell (j := 1) rfl
 clear hI h0 hB hst hok hw hsz hBX bW hnm hnl hQ hB0 hq hql hqm hcn hx hpi hxx hzl
 go_enter Tryz.func13, Tryz.ntmps13
 go_upto_region 34 with fail
 clear hW
 go_cut [15] (λ cv u => ∃ v, v = u /\ cv = .int .u64 xx /\ Hid (Below W.heap.size W v))
 case first =>
  go_region_law
   (first
    | (refine step_val2 rfl (.tmp 150) (.const (.int .i64 0)) 56 #[41, 3] rfl enters_pick (.slice qa qn qc) (.int .i64 0) (.int .i64 pi) (by simp [Act.eval]) (by simp [Act.eval]) PI.out ?_)
    | (refine step_val2 rfl (.tmp 148) (.tmp 151) 32 #[33, 3] rfl enters_Pick (.slice za zn zc) (.int .i64 pi) (.int .u64 xx) (by simp [Act.eval]) (by simp [Act.eval]) PU.out ?_))
  all_goals
   go_wp2_with fail
   go_meet
   exact ⟨_, rfl, rfl, (Below.refl _ W).drew⟩
 case rest =>
 obtain ⟨u0, rfl, hc15, HB0⟩ := hcut
 subst hc15
 have MD0 : Hid (Md B w.heap.size E (λ i => Fb w.heap.size i ∨ E i) w0 w u0 s b (.slice fa fl fc) (.slice oa on oc) (.slice ra rn rc) (.slice ta tn tc) (.slice xa xn xc) (.slice ya yn yc) (.slice za zn zc) U st d bl tl cl (wdV s b d (.slice fa fl fc) (.slice oa on oc) (.slice ra rn rc) (.slice ta tn tc) (.slice xa xn xc) (.slice ya yn yc) (.slice za zn zc)) (actC 3 dv pv (.slice qa qn qc) nm dt kp)) := MD.out.below HB0.out
 clear MD y0 y3 y4 p1 p13 PI PU HB0
 have y0 := MD0.out.bx.act.cell (j := 0) rfl
 have y4 := MD0.out.bx.act.cell (j := 4) rfl
 have p1 := MD0.out.bx.box.cell (j := 1) rfl
 have hsr := setRef_any (U := U) MD0.out.inv.duo HH.out.1 nm.data.toList x HH.out.2.1 HH.out.2.2.1 (by have := HH.out.2.2.2.1; unfold St.size at this; omega) (by have := HH.out.2.2.2.1; unfold St.size at this; omega)
 rw [HH.out.2.2.2.2.2] at hsr
 rw [show tx nm.data.toList = .string nm from rfl, XX.out] at hsr
 go_wp2_with fail
 refine hsr.mono ?_
 rintro e u1 ⟨r8, rfl, H8⟩
 have HE : Hid (r8 = Q.2.2 /\ Aft u0 u1 s b Q.1 Q.2.1 U (Since U u0 u1)) := ⟨H8.out.1, Aft.of (Below.refl _ _) H8.out.2.1 H8.out.2.2⟩
 clear hsr H8 y0 y4 p1
 obtain ⟨c1, c2, c3, c4, _⟩ := MD0.out.call (u2 := u1) HE.out.2
 have hr := rsetRef_any c2 c1 HH.out.1 HH.out.2.2.2.1 HH.out.2.1 HH.out.2.2.1 nm.data.toList HH.out.2.2.2.2.1 x Q HH.out.2.2.2.2.2
 rw [show tx nm.data.toList = .string nm from rfl, XX.out] at hr
 have g2 := c3.box.cell (j := 2) rfl
 have g3 := c3.box.cell (j := 3) rfl
 have g4 := c3.box.cell (j := 4) rfl
 have g5 := c3.box.cell (j := 5) rfl
 have g6 := c3.box.cell (j := 6) rfl
 have g7 := c3.box.cell (j := 7) rfl
 have g8 := c3.box.cell (j := 8) rfl
 have g9 := c3.box.cell (j := 9) rfl
 have g10 := c3.box.cell (j := 10) rfl
 have ga := c3.act.cell (j := 4) rfl
 have gk := c3.act.cell (j := 0) rfl
 clear c1 c2 c4
 go_wp2_with fail
 clear c3
 refine hr.mono ?_
 rintro e u2 ⟨m', r9, rfl, H9⟩
 obtain ⟨q2, q3, q4⟩ := H9.out
 obtain ⟨fa', fl', fc', oa', on', oc', ra', rn', rc', ta', tn', tc', rfl, l1, l2, l3, l4⟩ := q3
 have eR : r8 = r9 := by rw [q2, HE.out.1]
 have M2 : Hid (Md B w.heap.size E (λ i => Fb w.heap.size i ∨ E i) w0 w u2 s b (.slice fa' fl' fc') (.slice oa' on' oc') (.slice ra' rn' rc') (.slice ta' tn' tc') (.slice xa xn xc) (.slice ya yn yc) (.slice za zn zc) (Since U u0 u1) Q.1 Q.2.1 bl tl cl (wdV s b d (.slice fa fl fc) (.slice oa on oc) (.slice ra rn rc) (.slice ta tn tc) (.slice xa xn xc) (.slice ya yn yc) (.slice za zn zc)) (actC 3 dv pv (.slice qa qn qc) nm dt kp)) := (MD0.out.call HE.out.2).2.2.2.2 _ _ _ _ q4 ⟨fa', fl', fc', oa', on', oc', ra', rn', rc', ta', tn', tc', rfl, l1, l2, l3, l4⟩
 clear q2 q4 l1 l2 l3 l4 H9 hr g2 g3 g4 g5 g6 g7 g8 g9 g10 ga gk
 subst eR
 obtain ⟨X, hX⟩ : ∃ X, layL u2 w.heap.size [.slice fa' fl' fc', .int .i64 (Q.2.1.writes : Int), .bool Q.2.1.armed, .bool Q.2.1.dead, .int .i64 (Q.2.1.after : Int), .int .i64 (Q.2.1.keep : Int), .slice oa' on' oc', .slice ra' rn' rc', .slice ta' tn' tc'] 2 = X := ⟨_, rfl⟩
 have M3 : Hid (Md B w.heap.size E (λ i => Fb w.heap.size i ∨ E i) w0 w X s b (.slice fa' fl' fc') (.slice oa' on' oc') (.slice ra' rn' rc') (.slice ta' tn' tc') (.slice xa xn xc) (.slice ya yn yc) (.slice za zn zc) (Since U u0 u1) Q.1 Q.2.1 bl tl cl (wdV s b Q.2.1 (.slice fa' fl' fc') (.slice oa' on' oc') (.slice ra' rn' rc') (.slice ta' tn' tc') (.slice xa xn xc) (.slice ya yn yc) (.slice za zn zc)) (actC 3 dv pv (.slice qa qn qc) nm dt kp)) := by
  have h1 := M2.out.bx.box.lays [.slice fa' fl' fc', .int .i64 (Q.2.1.writes : Int), .bool Q.2.1.armed, .bool Q.2.1.dead, .int .i64 (Q.2.1.after : Int), .int .i64 (Q.2.1.keep : Int), .slice oa' on' oc', .slice ra' rn' rc', .slice ta' tn' tc'] 2
  rw [hX, set9] at h1
  exact M2.out.lay (by rw [<- hX]; exact lay_all _ _ _) h1
 have TH := hid (M2.out.bx.box.there (o := 2) (n := 9) (by simp [wdV]))
 have HXX := hid hX
 clear hX M2
 go_upto_region 54 with (refine wpList_store_to rfl 32 (.tmp 171) (.tmp 169) rfl w.heap.size 2 #[.slice fa' fl' fc', .int .i64 (Q.2.1.writes : Int), .bool Q.2.1.armed, .bool Q.2.1.dead, .int .i64 (Q.2.1.after : Int), .int .i64 (Q.2.1.keep : Int), .slice oa' on' oc', .slice ra' rn' rc', .slice ta' tn' tc'] rfl rfl TH.out (by kernel_rfl) (by simp [Value.oneCell']) ?_; intro w9 hw9; obtain rfl : X = w9 := (hw9.trans HXX.out).symm; clear hw9; have yk := M3.out.bx.act.cell (j := 0) rfl)
 have p0 := M3.out.bx.box.cell (j := 0) rfl
 have s0 := M3.out.bx.res.cell (j := 0) rfl
 have f0 := M3.out.bx.res.thaw 0
 have p1 := M3.out.bx.box.cell (j := 1) rfl
 have s1 := M3.out.bx.res.cell (j := 1) rfl
 have f1 := M3.out.bx.res.thaw 1
 have p2 := M3.out.bx.box.cell (j := 2) rfl
 have s2 := M3.out.bx.res.cell (j := 2) rfl
 have f2 := M3.out.bx.res.thaw 2
 have p3 := M3.out.bx.box.cell (j := 3) rfl
 have s3 := M3.out.bx.res.cell (j := 3) rfl
 have f3 := M3.out.bx.res.thaw 3
 have p4 := M3.out.bx.box.cell (j := 4) rfl
 have s4 := M3.out.bx.res.cell (j := 4) rfl
 have f4 := M3.out.bx.res.thaw 4
 have p5 := M3.out.bx.box.cell (j := 5) rfl
 have s5 := M3.out.bx.res.cell (j := 5) rfl
 have f5 := M3.out.bx.res.thaw 5
 have p6 := M3.out.bx.box.cell (j := 6) rfl
 have s6 := M3.out.bx.res.cell (j := 6) rfl
 have f6 := M3.out.bx.res.thaw 6
 have p7 := M3.out.bx.box.cell (j := 7) rfl
 have s7 := M3.out.bx.res.cell (j := 7) rfl
 have f7 := M3.out.bx.res.thaw 7
 have p8 := M3.out.bx.box.cell (j := 8) rfl
 have s8 := M3.out.bx.res.cell (j := 8) rfl
 have f8 := M3.out.bx.res.thaw 8
 have p9 := M3.out.bx.box.cell (j := 9) rfl
 have s9 := M3.out.bx.res.cell (j := 9) rfl
 have f9 := M3.out.bx.res.thaw 9
 have p10 := M3.out.bx.box.cell (j := 10) rfl
 have s10 := M3.out.bx.res.cell (j := 10) rfl
 have f10 := M3.out.bx.res.thaw 10
 have p11 := M3.out.bx.box.cell (j := 11) rfl
 have s11 := M3.out.bx.res.cell (j := 11) rfl
 have f11 := M3.out.bx.res.thaw 11
 have p12 := M3.out.bx.box.cell (j := 12) rfl
 have s12 := M3.out.bx.res.cell (j := 12) rfl
 have f12 := M3.out.bx.res.thaw 12
 have p13 := M3.out.bx.box.cell (j := 13) rfl
 have s13 := M3.out.bx.res.cell (j := 13) rfl
 have f13 := M3.out.bx.res.thaw 13
 go_wp2
 refine bodyPost_ret (v := .tuple #[.agg (wdV s b Q.2.1 (.slice fa' fl' fc') (.slice oa' on' oc') (.slice ra' rn' rc') (.slice ta' tn' tc') (.slice xa xn xc) (.slice ya yn yc) (.slice za zn zc)), .bool true]) ?_ rfl ⟨_, _, _, _, rfl, ?_⟩
 ·simp [results, Tryz.f13]
  go_simp
 ·have ht := lay_all (W := X) (w.heap.size + 2) [.pointer (some ⟨b, 0, none⟩), .pointer (some ⟨s, 0, none⟩), .slice fa' fl' fc', .int .i64 (Q.2.1.writes : Int), .bool Q.2.1.armed, .bool Q.2.1.dead, .int .i64 (Q.2.1.after : Int), .int .i64 (Q.2.1.keep : Int), .slice oa' on' oc', .slice ra' rn' rc', .slice ta' tn' tc', .slice xa xn xc, .slice ya yn yc, .slice za zn zc] 0
  simp only [layL, Nat.reduceAdd] at ht
  exact ⟨_, M3.out.done ht⟩
end Go.Proofs.YtjlokpjflgbgdaaGreat

namespace Go.Proofs.YtjlokpjflgbgdaaGreat
open Go.RowKit
theorem play_tag {B : Nat} {E : Nat -> Prop} {w0 w : World} {s b : Nat} {fa oa ra ta xa ya za : Option Addr} {fl fc on oc rn rc tn tc xn xc yn yc zn zc : Nat} {U : Nat -> Prop} {st : St} {d : Dk} {bl tl cl : List UInt64} {qa : Option Addr} {qn qc : Nat} {qs : List Int}
  (hI : WI B E w s b (.slice fa fl fc) (.slice oa on oc) (.slice ra rn rc) (.slice ta tn tc) (.slice xa xn xc) (.slice ya yn yc) (.slice za zn zc) U st d bl tl cl) (h0 : Below B w0 w) (hB0 : w0.heap.size = B) (hB : B <= w.heap.size) (hq : RdG encI w0 qa qs) (hql : qs.length = qn) (hqm : qn <= 4000000000000000000) (hcn : cl.length <= 1000000) (hst : st.ok) (hok : d.ok) (hw : d.writes <= 1000000) (hsz : st.size <= 1000000) (dv pv : Value) (nm : ByteArray) (hnm : nm.size <= 140737488355328) (dt kp : Int) (x : UInt64) (hx : pickU cl (pickI qs 0) = x) (Q) (hQ : stag st d nm.data.toList x = Q) :
  Calls Tryz.prog 13 #[.agg (wdV s b d (.slice fa fl fc) (.slice oa on oc) (.slice ra rn rc) (.slice ta tn tc) (.slice xa xn xc) (.slice ya yn yc) (.slice za zn zc)), actV 4 dv pv (.slice qa qn qc) nm dt kp] w λ e w' => ∃ vf vo vr vt, e = .returned (.tuple #[.agg (wdV s b Q.2.1 vf vo vr vt (.slice xa xn xc) (.slice ya yn yc) (.slice za zn zc)), .bool true]) /\ Hid (∃ U', WI B E w' s b vf vo vr vt (.slice xa xn xc) (.slice ya yn yc) (.slice za zn zc) U' Q.1 Q.2.1 bl tl cl /\ Below B w0 w' /\ ∀ i, E i -> w'.heap[i]? = w.heap[i]?) := by
 obtain ⟨W, hW⟩ : ∃ W, ((w.alloc (.cells (wdV s b d (.slice fa fl fc) (.slice oa on oc) (.slice ra rn rc) (.slice ta tn tc) (.slice xa xn xc) (.slice ya yn yc) (.slice za zn zc)) 35)).alloc (.cells (actC 4 dv pv (.slice qa qn qc) nm dt kp) 43)).alloc (.cells zeroW 35) = W := ⟨_, rfl⟩
 have bW : Below w.heap.size w W := by rw [<- hW]; exact bz3 _ _ _ _
 have hBX : Bx w.heap.size W (wdV s b d (.slice fa fl fc) (.slice oa on oc) (.slice ra rn rc) (.slice ta tn tc) (.slice xa xn xc) (.slice ya yn yc) (.slice za zn zc)) (actC 4 dv pv (.slice qa qn qc) nm dt kp) := by rw [<- hW]; exact Bx.new _ _ _
 have MD : Hid (Md B w.heap.size E (λ i => Fb w.heap.size i ∨ E i) w0 w W s b (.slice fa fl fc) (.slice oa on oc) (.slice ra rn rc) (.slice ta tn tc) (.slice xa xn xc) (.slice ya yn yc) (.slice za zn zc) U st d bl tl cl (wdV s b d (.slice fa fl fc) (.slice oa on oc) (.slice ra rn rc) (.slice ta tn tc) (.slice xa xn xc) (.slice ya yn yc) (.slice za zn zc)) (actC 4 dv pv (.slice qa qn qc) nm dt kp)) := Md.start hI h0 hB hBX bW
 have hnl : nm.data.toList.length <= 140737488355328 := by
  have e := bsize nm
  omega
 have HH : Hid (st.ok /\ d.ok /\ d.writes <= 1000000 /\ st.size <= 1000000 /\ nm.data.toList.length <= 140737488355328 /\ stag st d nm.data.toList x = Q) := ⟨hst, hok, hw, hsz, hnl, hQ⟩
 obtain ⟨pi, hpi⟩ : ∃ pi, pickI qs 0 = pi := ⟨_, rfl⟩
 obtain ⟨xx, hxx⟩ : ∃ xx : Int, (x.toNat : Int) = xx := ⟨_, rfl⟩
 have PI : Hid (Calls Tryz.prog 56 #[.slice qa qn qc, .int .i64 0] W.drew λ e w' => e = .returned (.int .i64 pi) /\ w' = W.drew) := pickI_any ((hq.below (by rw [hB0]; exact MD.out.bel)).below (Below.refl _ W).drew) hql hqm 0 pi hpi
 have hzl : zn = cl.length := by
  obtain ⟨a', c', e', _⟩ := MD.out.inv.oc.form
  cases e'
  rfl
 have PU : Hid (Calls Tryz.prog 32 #[.slice za zn zc, .int .i64 pi] W.drew λ e w' => e = .returned (.int .u64 xx) /\ w' = W.drew) := pickU_any (MD.out.inv.oc.rdc.1.below (Below.refl _ W).drew) hzl.symm (by omega) pi xx (by rw [<- hxx, <- hx, hpi])
 have XX := hid hxx
 have y3 := hBX.act.cell (j := 3) rfl
 have p13 := hBX.box.cell (j := 13) rfl
 have y0 := hBX.act.cell (j := 0) rfl
 have y4 := hBX.act.cell (j := 4) rfl
 have p1 := hBX.box.cell (j := 1) rfl
 clear hI h0 hB hst hok hw hsz hBX bW hnm hnl hQ hB0 hq hql hqm hcn hx hpi hxx hzl
 go_enter Tryz.func13, Tryz.ntmps13
 go_upto_region 34 with fail
 clear hW
 go_cut [15] (λ cv u => ∃ v, v = u /\ cv = .int .u64 xx /\ Hid (Below W.heap.size W v))
 case first =>
  go_region_law
   (first
    | (refine step_val2 rfl (.tmp 150) (.const (.int .i64 0)) 56 #[41, 3] rfl enters_pick (.slice qa qn qc) (.int .i64 0) (.int .i64 pi) (by simp [Act.eval]) (by simp [Act.eval]) PI.out ?_)
    | (refine step_val2 rfl (.tmp 148) (.tmp 151) 32 #[33, 3] rfl enters_Pick (.slice za zn zc) (.int .i64 pi) (.int .u64 xx) (by simp [Act.eval]) (by simp [Act.eval]) PU.out ?_))
  all_goals
   go_wp2_with fail
   go_meet
   exact ⟨_, rfl, rfl, (Below.refl _ W).drew⟩
 case rest =>
 obtain ⟨u0, rfl, hc15, HB0⟩ := hcut
 subst hc15
 have MD0 : Hid (Md B w.heap.size E (λ i => Fb w.heap.size i ∨ E i) w0 w u0 s b (.slice fa fl fc) (.slice oa on oc) (.slice ra rn rc) (.slice ta tn tc) (.slice xa xn xc) (.slice ya yn yc) (.slice za zn zc) U st d bl tl cl (wdV s b d (.slice fa fl fc) (.slice oa on oc) (.slice ra rn rc) (.slice ta tn tc) (.slice xa xn xc) (.slice ya yn yc) (.slice za zn zc)) (actC 4 dv pv (.slice qa qn qc) nm dt kp)) := MD.out.below HB0.out
 clear MD y0 y3 y4 p1 p13 PI PU HB0
 have y0 := MD0.out.bx.act.cell (j := 0) rfl
 have y4 := MD0.out.bx.act.cell (j := 4) rfl
 have p1 := MD0.out.bx.box.cell (j := 1) rfl
 have hsr := setTag_any (U := U) MD0.out.inv.duo HH.out.1 nm.data.toList HH.out.2.2.2.2.1 x HH.out.2.1 HH.out.2.2.1 (by have := HH.out.2.2.2.1; unfold St.size at this; omega) (by have := HH.out.2.2.2.1; unfold St.size at this; omega)
 rw [HH.out.2.2.2.2.2] at hsr
 rw [show tx nm.data.toList = .string nm from rfl, XX.out] at hsr
 go_wp2_with fail
 refine hsr.mono ?_
 rintro e u1 ⟨r8, rfl, H8⟩
 have HE : Hid (r8 = Q.2.2 /\ Aft u0 u1 s b Q.1 Q.2.1 U (Since U u0 u1)) := ⟨H8.out.1, Aft.of (Below.refl _ _) H8.out.2.1 H8.out.2.2⟩
 clear hsr H8 y0 y4 p1
 obtain ⟨c1, c2, c3, c4, _⟩ := MD0.out.call (u2 := u1) HE.out.2
 have hr := rsetTag_any c2 c1 HH.out.1 HH.out.2.2.2.1 HH.out.2.1 HH.out.2.2.1 nm.data.toList HH.out.2.2.2.2.1 x Q HH.out.2.2.2.2.2
 rw [show tx nm.data.toList = .string nm from rfl, XX.out] at hr
 have g2 := c3.box.cell (j := 2) rfl
 have g3 := c3.box.cell (j := 3) rfl
 have g4 := c3.box.cell (j := 4) rfl
 have g5 := c3.box.cell (j := 5) rfl
 have g6 := c3.box.cell (j := 6) rfl
 have g7 := c3.box.cell (j := 7) rfl
 have g8 := c3.box.cell (j := 8) rfl
 have g9 := c3.box.cell (j := 9) rfl
 have g10 := c3.box.cell (j := 10) rfl
 have ga := c3.act.cell (j := 4) rfl
 have gk := c3.act.cell (j := 0) rfl
 clear c1 c2 c4
 go_wp2_with fail
 clear c3
 refine hr.mono ?_
 rintro e u2 ⟨m', r9, rfl, H9⟩
 obtain ⟨q2, q3, q4⟩ := H9.out
 obtain ⟨fa', fl', fc', oa', on', oc', ra', rn', rc', ta', tn', tc', rfl, l1, l2, l3, l4⟩ := q3
 have eR : r8 = r9 := by rw [q2, HE.out.1]
 have M2 : Hid (Md B w.heap.size E (λ i => Fb w.heap.size i ∨ E i) w0 w u2 s b (.slice fa' fl' fc') (.slice oa' on' oc') (.slice ra' rn' rc') (.slice ta' tn' tc') (.slice xa xn xc) (.slice ya yn yc) (.slice za zn zc) (Since U u0 u1) Q.1 Q.2.1 bl tl cl (wdV s b d (.slice fa fl fc) (.slice oa on oc) (.slice ra rn rc) (.slice ta tn tc) (.slice xa xn xc) (.slice ya yn yc) (.slice za zn zc)) (actC 4 dv pv (.slice qa qn qc) nm dt kp)) := (MD0.out.call HE.out.2).2.2.2.2 _ _ _ _ q4 ⟨fa', fl', fc', oa', on', oc', ra', rn', rc', ta', tn', tc', rfl, l1, l2, l3, l4⟩
 clear q2 q4 l1 l2 l3 l4 H9 hr g2 g3 g4 g5 g6 g7 g8 g9 g10 ga gk
 subst eR
 obtain ⟨X, hX⟩ : ∃ X, layL u2 w.heap.size [.slice fa' fl' fc', .int .i64 (Q.2.1.writes : Int), .bool Q.2.1.armed, .bool Q.2.1.dead, .int .i64 (Q.2.1.after : Int), .int .i64 (Q.2.1.keep : Int), .slice oa' on' oc', .slice ra' rn' rc', .slice ta' tn' tc'] 2 = X := ⟨_, rfl⟩
 have M3 : Hid (Md B w.heap.size E (λ i => Fb w.heap.size i ∨ E i) w0 w X s b (.slice fa' fl' fc') (.slice oa' on' oc') (.slice ra' rn' rc') (.slice ta' tn' tc') (.slice xa xn xc) (.slice ya yn yc) (.slice za zn zc) (Since U u0 u1) Q.1 Q.2.1 bl tl cl (wdV s b Q.2.1 (.slice fa' fl' fc') (.slice oa' on' oc') (.slice ra' rn' rc') (.slice ta' tn' tc') (.slice xa xn xc) (.slice ya yn yc) (.slice za zn zc)) (actC 4 dv pv (.slice qa qn qc) nm dt kp)) := by
  have h1 := M2.out.bx.box.lays [.slice fa' fl' fc', .int .i64 (Q.2.1.writes : Int), .bool Q.2.1.armed, .bool Q.2.1.dead, .int .i64 (Q.2.1.after : Int), .int .i64 (Q.2.1.keep : Int), .slice oa' on' oc', .slice ra' rn' rc', .slice ta' tn' tc'] 2
  rw [hX, set9] at h1
  exact M2.out.lay (by rw [<- hX]; exact lay_all _ _ _) h1
 have TH := hid (M2.out.bx.box.there (o := 2) (n := 9) (by simp [wdV]))
 have HXX := hid hX
 clear hX M2
 go_upto_region 54 with (refine wpList_store_to rfl 32 (.tmp 187) (.tmp 185) rfl w.heap.size 2 #[.slice fa' fl' fc', .int .i64 (Q.2.1.writes : Int), .bool Q.2.1.armed, .bool Q.2.1.dead, .int .i64 (Q.2.1.after : Int), .int .i64 (Q.2.1.keep : Int), .slice oa' on' oc', .slice ra' rn' rc', .slice ta' tn' tc'] rfl rfl TH.out (by kernel_rfl) (by simp [Value.oneCell']) ?_; intro w9 hw9; obtain rfl : X = w9 := (hw9.trans HXX.out).symm; clear hw9; have yk := M3.out.bx.act.cell (j := 0) rfl)
 have p0 := M3.out.bx.box.cell (j := 0) rfl
 have s0 := M3.out.bx.res.cell (j := 0) rfl
 have f0 := M3.out.bx.res.thaw 0
 have p1 := M3.out.bx.box.cell (j := 1) rfl
 have s1 := M3.out.bx.res.cell (j := 1) rfl
 have f1 := M3.out.bx.res.thaw 1
 have p2 := M3.out.bx.box.cell (j := 2) rfl
 have s2 := M3.out.bx.res.cell (j := 2) rfl
 have f2 := M3.out.bx.res.thaw 2
 have p3 := M3.out.bx.box.cell (j := 3) rfl
 have s3 := M3.out.bx.res.cell (j := 3) rfl
 have f3 := M3.out.bx.res.thaw 3
 have p4 := M3.out.bx.box.cell (j := 4) rfl
 have s4 := M3.out.bx.res.cell (j := 4) rfl
 have f4 := M3.out.bx.res.thaw 4
 have p5 := M3.out.bx.box.cell (j := 5) rfl
 have s5 := M3.out.bx.res.cell (j := 5) rfl
 have f5 := M3.out.bx.res.thaw 5
 have p6 := M3.out.bx.box.cell (j := 6) rfl
 have s6 := M3.out.bx.res.cell (j := 6) rfl
 have f6 := M3.out.bx.res.thaw 6
 have p7 := M3.out.bx.box.cell (j := 7) rfl
 have s7 := M3.out.bx.res.cell (j := 7) rfl
 have f7 := M3.out.bx.res.thaw 7
 have p8 := M3.out.bx.box.cell (j := 8) rfl
 have s8 := M3.out.bx.res.cell (j := 8) rfl
 have f8 := M3.out.bx.res.thaw 8
 have p9 := M3.out.bx.box.cell (j := 9) rfl
 have s9 := M3.out.bx.res.cell (j := 9) rfl
 have f9 := M3.out.bx.res.thaw 9
 have p10 := M3.out.bx.box.cell (j := 10) rfl
 have s10 := M3.out.bx.res.cell (j := 10) rfl
 have f10 := M3.out.bx.res.thaw 10
 have p11 := M3.out.bx.box.cell (j := 11) rfl
 have s11 := M3.out.bx.res.cell (j := 11) rfl
 have f11 := M3.out.bx.res.thaw 11
 have p12 := M3.out.bx.box.cell (j := 12) rfl
 have s12 := M3.out.bx.res.cell (j := 12) rfl
 have f12 := M3.out.bx.res.thaw 12
 have p13 := M3.out.bx.box.cell (j := 13) rfl
 have s13 := M3.out.bx.res.cell (j := 13) rfl
 have f13 := M3.out.bx.res.thaw 13
 go_wp2
 refine bodyPost_ret (v := .tuple #[.agg (wdV s b Q.2.1 (.slice fa' fl' fc') (.slice oa' on' oc') (.slice ra' rn' rc') (.slice ta' tn' tc') (.slice xa xn xc) (.slice ya yn yc) (.slice za zn zc)), .bool true]) ?_ rfl ⟨_, _, _, _, rfl, ?_⟩
 ·simp [results, Tryz.f13]
  go_simp
 ·have ht := lay_all (W := X) (w.heap.size + 2) [.pointer (some ⟨b, 0, none⟩), .pointer (some ⟨s, 0, none⟩), .slice fa' fl' fc', .int .i64 (Q.2.1.writes : Int), .bool Q.2.1.armed, .bool Q.2.1.dead, .int .i64 (Q.2.1.after : Int), .int .i64 (Q.2.1.keep : Int), .slice oa' on' oc', .slice ra' rn' rc', .slice ta' tn' tc', .slice xa xn xc, .slice ya yn yc, .slice za zn zc] 0
  simp only [layL, Nat.reduceAdd] at ht
  exact ⟨_, M3.out.done ht⟩
end Go.Proofs.YtjlokpjflgbgdaaGreat

namespace Go.Proofs.YtjlokpjflgbgdaaGreat
open Go.RowKit
theorem play_drop {B : Nat} {E : Nat -> Prop} {w0 w : World} {s b : Nat} {fa oa ra ta xa ya za : Option Addr} {fl fc on oc rn rc tn tc xn xc yn yc zn zc : Nat} {U : Nat -> Prop} {st : St} {d : Dk} {bl tl cl : List UInt64}
  (hI : WI B E w s b (.slice fa fl fc) (.slice oa on oc) (.slice ra rn rc) (.slice ta tn tc) (.slice xa xn xc) (.slice ya yn yc) (.slice za zn zc) U st d bl tl cl) (h0 : Below B w0 w) (hB : B <= w.heap.size) (hst : st.ok) (hok : d.ok) (hw : d.writes <= 1000000) (hsz : st.size <= 1000000) (dv pv : Value) (nm : ByteArray) (hnm : nm.size <= 140737488355328) (dt kp : Int) (qv : Value) (Q) (hQ : sdrop st d nm.data.toList = Q) :
  Calls Tryz.prog 13 #[.agg (wdV s b d (.slice fa fl fc) (.slice oa on oc) (.slice ra rn rc) (.slice ta tn tc) (.slice xa xn xc) (.slice ya yn yc) (.slice za zn zc)), actV 5 dv pv qv nm dt kp] w λ e w' => ∃ vf vo vr vt, e = .returned (.tuple #[.agg (wdV s b Q.2.1 vf vo vr vt (.slice xa xn xc) (.slice ya yn yc) (.slice za zn zc)), .bool true]) /\ Hid (∃ U', WI B E w' s b vf vo vr vt (.slice xa xn xc) (.slice ya yn yc) (.slice za zn zc) U' Q.1 Q.2.1 bl tl cl /\ Below B w0 w' /\ ∀ i, E i -> w'.heap[i]? = w.heap[i]?) := by
 obtain ⟨W, hW⟩ : ∃ W, ((w.alloc (.cells (wdV s b d (.slice fa fl fc) (.slice oa on oc) (.slice ra rn rc) (.slice ta tn tc) (.slice xa xn xc) (.slice ya yn yc) (.slice za zn zc)) 35)).alloc (.cells (actC 5 dv pv qv nm dt kp) 43)).alloc (.cells zeroW 35) = W := ⟨_, rfl⟩
 have bW : Below w.heap.size w W := by rw [<- hW]; exact bz3 _ _ _ _
 have hBX : Bx w.heap.size W (wdV s b d (.slice fa fl fc) (.slice oa on oc) (.slice ra rn rc) (.slice ta tn tc) (.slice xa xn xc) (.slice ya yn yc) (.slice za zn zc)) (actC 5 dv pv qv nm dt kp) := by rw [<- hW]; exact Bx.new _ _ _
 have MD : Hid (Md B w.heap.size E (λ i => Fb w.heap.size i ∨ E i) w0 w W s b (.slice fa fl fc) (.slice oa on oc) (.slice ra rn rc) (.slice ta tn tc) (.slice xa xn xc) (.slice ya yn yc) (.slice za zn zc) U st d bl tl cl (wdV s b d (.slice fa fl fc) (.slice oa on oc) (.slice ra rn rc) (.slice ta tn tc) (.slice xa xn xc) (.slice ya yn yc) (.slice za zn zc)) (actC 5 dv pv qv nm dt kp)) := Md.start hI h0 hB hBX bW
 have hnl : nm.data.toList.length <= 140737488355328 := by
  have e := bsize nm
  omega
 have HH : Hid (st.ok /\ d.ok /\ d.writes <= 1000000 /\ st.size <= 1000000 /\ nm.data.toList.length <= 140737488355328 /\ sdrop st d nm.data.toList = Q) := ⟨hst, hok, hw, hsz, hnl, hQ⟩
 have y0 := hBX.act.cell (j := 0) rfl
 have y4 := hBX.act.cell (j := 4) rfl
 have p1 := hBX.box.cell (j := 1) rfl
 clear hI h0 hB hst hok hw hsz hBX bW hnm hnl hQ
 go_enter Tryz.func13, Tryz.ntmps13
 go_upto_region 41 with fail
 clear hW
 have MD0 := MD
 have hsr := dropRef_any (U := U) MD0.out.inv.duo HH.out.1 nm.data.toList HH.out.2.2.2.2.1 HH.out.2.1 HH.out.2.2.1 (by have := HH.out.2.2.2.1; unfold St.size at this; omega) (by have := HH.out.2.2.2.1; unfold St.size at this; omega)
 rw [HH.out.2.2.2.2.2] at hsr
 rw [show tx nm.data.toList = .string nm from rfl] at hsr
 go_wp2_with fail
 refine hsr.mono ?_
 rintro e u1 ⟨r8, rfl, H8⟩
 have HE : Hid (r8 = Q.2.2 /\ Aft W u1 s b Q.1 Q.2.1 U (Since U W u1)) := ⟨H8.out.1, Aft.of (Below.refl _ _) H8.out.2.1 H8.out.2.2⟩
 clear hsr H8 y0 y4 p1
 obtain ⟨c1, c2, c3, c4, _⟩ := MD0.out.call (u2 := u1) HE.out.2
 have hr := rdropRef_any c2 c1 HH.out.1 HH.out.2.2.2.1 HH.out.2.1 HH.out.2.2.1 nm.data.toList HH.out.2.2.2.2.1 Q HH.out.2.2.2.2.2
 rw [show tx nm.data.toList = .string nm from rfl] at hr
 have g2 := c3.box.cell (j := 2) rfl
 have g3 := c3.box.cell (j := 3) rfl
 have g4 := c3.box.cell (j := 4) rfl
 have g5 := c3.box.cell (j := 5) rfl
 have g6 := c3.box.cell (j := 6) rfl
 have g7 := c3.box.cell (j := 7) rfl
 have g8 := c3.box.cell (j := 8) rfl
 have g9 := c3.box.cell (j := 9) rfl
 have g10 := c3.box.cell (j := 10) rfl
 have ga := c3.act.cell (j := 4) rfl
 have gk := c3.act.cell (j := 0) rfl
 clear c1 c2 c4
 go_wp2_with fail
 clear c3
 refine hr.mono ?_
 rintro e u2 ⟨m', r9, rfl, H9⟩
 obtain ⟨q2, q3, q4⟩ := H9.out
 obtain ⟨fa', fl', fc', oa', on', oc', ra', rn', rc', ta', tn', tc', rfl, l1, l2, l3, l4⟩ := q3
 have eR : r8 = r9 := by rw [q2, HE.out.1]
 have M2 : Hid (Md B w.heap.size E (λ i => Fb w.heap.size i ∨ E i) w0 w u2 s b (.slice fa' fl' fc') (.slice oa' on' oc') (.slice ra' rn' rc') (.slice ta' tn' tc') (.slice xa xn xc) (.slice ya yn yc) (.slice za zn zc) (Since U W u1) Q.1 Q.2.1 bl tl cl (wdV s b d (.slice fa fl fc) (.slice oa on oc) (.slice ra rn rc) (.slice ta tn tc) (.slice xa xn xc) (.slice ya yn yc) (.slice za zn zc)) (actC 5 dv pv qv nm dt kp)) := (MD0.out.call HE.out.2).2.2.2.2 _ _ _ _ q4 ⟨fa', fl', fc', oa', on', oc', ra', rn', rc', ta', tn', tc', rfl, l1, l2, l3, l4⟩
 clear q2 q4 l1 l2 l3 l4 H9 hr g2 g3 g4 g5 g6 g7 g8 g9 g10 ga gk
 subst eR
 obtain ⟨X, hX⟩ : ∃ X, layL u2 w.heap.size [.slice fa' fl' fc', .int .i64 (Q.2.1.writes : Int), .bool Q.2.1.armed, .bool Q.2.1.dead, .int .i64 (Q.2.1.after : Int), .int .i64 (Q.2.1.keep : Int), .slice oa' on' oc', .slice ra' rn' rc', .slice ta' tn' tc'] 2 = X := ⟨_, rfl⟩
 have M3 : Hid (Md B w.heap.size E (λ i => Fb w.heap.size i ∨ E i) w0 w X s b (.slice fa' fl' fc') (.slice oa' on' oc') (.slice ra' rn' rc') (.slice ta' tn' tc') (.slice xa xn xc) (.slice ya yn yc) (.slice za zn zc) (Since U W u1) Q.1 Q.2.1 bl tl cl (wdV s b Q.2.1 (.slice fa' fl' fc') (.slice oa' on' oc') (.slice ra' rn' rc') (.slice ta' tn' tc') (.slice xa xn xc) (.slice ya yn yc) (.slice za zn zc)) (actC 5 dv pv qv nm dt kp)) := by
  have h1 := M2.out.bx.box.lays [.slice fa' fl' fc', .int .i64 (Q.2.1.writes : Int), .bool Q.2.1.armed, .bool Q.2.1.dead, .int .i64 (Q.2.1.after : Int), .int .i64 (Q.2.1.keep : Int), .slice oa' on' oc', .slice ra' rn' rc', .slice ta' tn' tc'] 2
  rw [hX, set9] at h1
  exact M2.out.lay (by rw [<- hX]; exact lay_all _ _ _) h1
 have TH := hid (M2.out.bx.box.there (o := 2) (n := 9) (by simp [wdV]))
 have HXX := hid hX
 clear hX M2
 go_upto_region 54 with (refine wpList_store_to rfl 32 (.tmp 203) (.tmp 201) rfl w.heap.size 2 #[.slice fa' fl' fc', .int .i64 (Q.2.1.writes : Int), .bool Q.2.1.armed, .bool Q.2.1.dead, .int .i64 (Q.2.1.after : Int), .int .i64 (Q.2.1.keep : Int), .slice oa' on' oc', .slice ra' rn' rc', .slice ta' tn' tc'] rfl rfl TH.out (by kernel_rfl) (by simp [Value.oneCell']) ?_; intro w9 hw9; obtain rfl : X = w9 := (hw9.trans HXX.out).symm; clear hw9; have yk := M3.out.bx.act.cell (j := 0) rfl)
 have p0 := M3.out.bx.box.cell (j := 0) rfl
 have s0 := M3.out.bx.res.cell (j := 0) rfl
 have f0 := M3.out.bx.res.thaw 0
 have p1 := M3.out.bx.box.cell (j := 1) rfl
 have s1 := M3.out.bx.res.cell (j := 1) rfl
 have f1 := M3.out.bx.res.thaw 1
 have p2 := M3.out.bx.box.cell (j := 2) rfl
 have s2 := M3.out.bx.res.cell (j := 2) rfl
 have f2 := M3.out.bx.res.thaw 2
 have p3 := M3.out.bx.box.cell (j := 3) rfl
 have s3 := M3.out.bx.res.cell (j := 3) rfl
 have f3 := M3.out.bx.res.thaw 3
 have p4 := M3.out.bx.box.cell (j := 4) rfl
 have s4 := M3.out.bx.res.cell (j := 4) rfl
 have f4 := M3.out.bx.res.thaw 4
 have p5 := M3.out.bx.box.cell (j := 5) rfl
 have s5 := M3.out.bx.res.cell (j := 5) rfl
 have f5 := M3.out.bx.res.thaw 5
 have p6 := M3.out.bx.box.cell (j := 6) rfl
 have s6 := M3.out.bx.res.cell (j := 6) rfl
 have f6 := M3.out.bx.res.thaw 6
 have p7 := M3.out.bx.box.cell (j := 7) rfl
 have s7 := M3.out.bx.res.cell (j := 7) rfl
 have f7 := M3.out.bx.res.thaw 7
 have p8 := M3.out.bx.box.cell (j := 8) rfl
 have s8 := M3.out.bx.res.cell (j := 8) rfl
 have f8 := M3.out.bx.res.thaw 8
 have p9 := M3.out.bx.box.cell (j := 9) rfl
 have s9 := M3.out.bx.res.cell (j := 9) rfl
 have f9 := M3.out.bx.res.thaw 9
 have p10 := M3.out.bx.box.cell (j := 10) rfl
 have s10 := M3.out.bx.res.cell (j := 10) rfl
 have f10 := M3.out.bx.res.thaw 10
 have p11 := M3.out.bx.box.cell (j := 11) rfl
 have s11 := M3.out.bx.res.cell (j := 11) rfl
 have f11 := M3.out.bx.res.thaw 11
 have p12 := M3.out.bx.box.cell (j := 12) rfl
 have s12 := M3.out.bx.res.cell (j := 12) rfl
 have f12 := M3.out.bx.res.thaw 12
 have p13 := M3.out.bx.box.cell (j := 13) rfl
 have s13 := M3.out.bx.res.cell (j := 13) rfl
 have f13 := M3.out.bx.res.thaw 13
 go_wp2
 refine bodyPost_ret (v := .tuple #[.agg (wdV s b Q.2.1 (.slice fa' fl' fc') (.slice oa' on' oc') (.slice ra' rn' rc') (.slice ta' tn' tc') (.slice xa xn xc) (.slice ya yn yc) (.slice za zn zc)), .bool true]) ?_ rfl ⟨_, _, _, _, rfl, ?_⟩
 ·simp [results, Tryz.f13]
  go_simp
 ·have ht := lay_all (W := X) (w.heap.size + 2) [.pointer (some ⟨b, 0, none⟩), .pointer (some ⟨s, 0, none⟩), .slice fa' fl' fc', .int .i64 (Q.2.1.writes : Int), .bool Q.2.1.armed, .bool Q.2.1.dead, .int .i64 (Q.2.1.after : Int), .int .i64 (Q.2.1.keep : Int), .slice oa' on' oc', .slice ra' rn' rc', .slice ta' tn' tc', .slice xa xn xc, .slice ya yn yc, .slice za zn zc] 0
  simp only [layL, Nat.reduceAdd] at ht
  exact ⟨_, M3.out.done ht⟩
end Go.Proofs.YtjlokpjflgbgdaaGreat

namespace Go.Proofs.YtjlokpjflgbgdaaGreat
open Go.RowKit
def AV.ac (a : AV) (data : Bs) (ps : List Bs) (qs : List Int) : Ac := ⟨a.k, data, ps, qs, a.nm.data.toList, a.dt⟩
def Played (B : Nat) (E : Nat -> Prop) (w0 w : World) (s b : Nat) (v' : Wd) (u : Value) (w' : World) : Prop :=
 ∃ fa' fl' fc' oa' on' oc' ra' rn' rc' ta' tn' tc' xa' xn' xc' ya' yn' yc' za' zn' zc' U', u = .tuple #[.agg (wdV s b v'.d (.slice fa' fl' fc') (.slice oa' on' oc') (.slice ra' rn' rc') (.slice ta' tn' tc') (.slice xa' xn' xc') (.slice ya' yn' yc') (.slice za' zn' zc')), .bool true] /\ WI B E w' s b (.slice fa' fl' fc') (.slice oa' on' oc') (.slice ra' rn' rc') (.slice ta' tn' tc') (.slice xa' xn' xc') (.slice ya' yn' yc') (.slice za' zn' zc') U' v'.st v'.d v'.bl v'.tl v'.cl /\ Below B w0 w' /\ ∀ i, E i -> w'.heap[i]? = w.heap[i]?
theorem play6 {B : Nat} {E : Nat -> Prop} {w0 w : World} {s b : Nat} {fa oa ra ta xa ya za : Option Addr} {fl fc on oc rn rc tn tc xn xc yn yc zn zc : Nat} {U : Nat -> Prop} {v : Wd} {a : AV} {data : Bs} {ps : List Bs} {qs : List Int} {N : Nat}
  (hI : WI B E w s b (.slice fa fl fc) (.slice oa on oc) (.slice ra rn rc) (.slice ta tn tc) (.slice xa xn xc) (.slice ya yn yc) (.slice za zn zc) U v.st v.d v.bl v.tl v.cl) (h0 : Below B w0 w) (hB0 : w0.heap.size = B) (hB : B <= w.heap.size) (hA : ActAt w0 a data ps qs) (hnm : a.nm.size <= 140737488355328) (hk : a.k < 6) (hf : v.fine N) (hN : N <= 1000000) :
  Calls Tryz.prog 13 #[.agg (wdV s b v.d (.slice fa fl fc) (.slice oa on oc) (.slice ra rn rc) (.slice ta tn tc) (.slice xa xn xc) (.slice ya yn yc) (.slice za zn zc)), a.val] w λ e w' => ∃ u, e = .returned u /\ Hid (Played B E w0 w s b (wstep (a.ac data ps qs) v) u w') := by
 have hw : v.d.writes <= 1000000 := Nat.le_trans hf.writes hN
 have hsz : v.st.size <= 1000000 := Nat.le_trans hf.size hN
 have hbn : v.bl.length <= 1000000 := Nat.le_trans hf.bl hN
 have htn : v.tl.length <= 1000000 := Nat.le_trans hf.tl hN
 have hcn : v.cl.length <= 1000000 := Nat.le_trans hf.cl hN
 by_cases h3 : a.k < 3
 ·refine (play_all hI h0 hB0 hB hA h3 hf.d hw hsz hbn htn hcn).mono ?_
  rintro e w' ⟨u, rfl, h⟩
  obtain ⟨fa', fl', fc', oa', on', oc', ra', rn', rc', ta', tn', tc', xa', xn', xc', ya', yn', yc', za', zn', zc', U', st', d', bl', tl', cl', e1, h1, h2, h4, _, _, _, hr⟩ := h.out
  have hv : wstep (a.ac data ps qs) v = ⟨st', d', bl', tl', cl'⟩ := by
   rcases hr with ⟨q, rfl, rfl, rfl, rfl, rfl⟩ | ⟨q, Q, hQ, rfl, rfl, rfl, rfl, rfl⟩ | ⟨q, Q, hQ, rfl, rfl, rfl, rfl, rfl⟩ | ⟨q, Q, hQ, rfl, rfl, rfl, rfl, rfl⟩
   ·unfold wstep AV.ac
    simp only
    rw [if_neg (by omega), if_neg (by omega), if_neg (by omega), if_neg (by omega), if_neg (by omega), if_neg (by omega)]
   ·unfold wstep AV.ac
    simp only
    rw [if_pos q, hQ]
   ·unfold wstep AV.ac
    simp only
    rw [if_neg (by omega), if_pos q, hQ]
   ·unfold wstep AV.ac
    simp only
    rw [if_neg (by omega), if_neg (by omega), if_pos q, hQ]
  rw [hv]
  exact ⟨_, rfl, fa', fl', fc', oa', on', oc', ra', rn', rc', ta', tn', tc', xa', xn', xc', ya', yn', yc', za', zn', zc', U', e1, h1, h2, h4⟩
 ·obtain ⟨k, da, dn, dc, pa, pn, pc, qa, qn, qc, nm, dt, kp⟩ := a
  obtain ⟨a1, a2, a3, a4, a5, a6, a7, a8, a9, a10⟩ := hA
  simp only at a1 a2 a3 a4 a5 a6 a7 a8 a9 a10 hk h3 hnm
  have hc : k = 3 ∨ k = 4 ∨ k = 5 := by omega
  rcases hc with rfl | rfl | rfl
  ·have hv : wstep (AV.ac ⟨3, da, dn, dc, pa, pn, pc, qa, qn, qc, nm, dt, kp⟩ data ps qs) v = ⟨(sref v.st v.d nm.data.toList (pickU v.cl (pickI qs 0))).1, (sref v.st v.d nm.data.toList (pickU v.cl (pickI qs 0))).2.1, v.bl, v.tl, v.cl⟩ := by
    unfold wstep AV.ac
    simp
   rw [hv]
   refine (play_ref hI h0 hB0 hB a8 a9 (by omega) hcn hf.st hf.d hw hsz _ _ nm hnm dt kp _ rfl _ rfl).mono ?_
   rintro e w' ⟨vf, vo, vr, vt, rfl, h⟩
   obtain ⟨U', h1, h2, h4⟩ := h.out
   obtain ⟨fa', fl', fc', oa', on', oc', ra', rn', rc', ta', tn', tc', _, _, _, _, _, _, _, _, _, rfl, rfl, rfl, rfl, _, _, _⟩ := h1.form
   exact ⟨_, rfl, _, _, _, _, _, _, _, _, _, _, _, _, _, _, _, _, _, _, _, _, _, U', rfl, h1, h2, h4⟩
  ·have hv : wstep (AV.ac ⟨4, da, dn, dc, pa, pn, pc, qa, qn, qc, nm, dt, kp⟩ data ps qs) v = ⟨(stag v.st v.d nm.data.toList (pickU v.cl (pickI qs 0))).1, (stag v.st v.d nm.data.toList (pickU v.cl (pickI qs 0))).2.1, v.bl, v.tl, v.cl⟩ := by
    unfold wstep AV.ac
    simp
   rw [hv]
   refine (play_tag hI h0 hB0 hB a8 a9 (by omega) hcn hf.st hf.d hw hsz _ _ nm hnm dt kp _ rfl _ rfl).mono ?_
   rintro e w' ⟨vf, vo, vr, vt, rfl, h⟩
   obtain ⟨U', h1, h2, h4⟩ := h.out
   obtain ⟨fa', fl', fc', oa', on', oc', ra', rn', rc', ta', tn', tc', _, _, _, _, _, _, _, _, _, rfl, rfl, rfl, rfl, _, _, _⟩ := h1.form
   exact ⟨_, rfl, _, _, _, _, _, _, _, _, _, _, _, _, _, _, _, _, _, _, _, _, _, U', rfl, h1, h2, h4⟩
  ·have hv : wstep (AV.ac ⟨5, da, dn, dc, pa, pn, pc, qa, qn, qc, nm, dt, kp⟩ data ps qs) v = ⟨(sdrop v.st v.d nm.data.toList).1, (sdrop v.st v.d nm.data.toList).2.1, v.bl, v.tl, v.cl⟩ := by
    unfold wstep AV.ac
    simp
   rw [hv]
   refine (play_drop hI h0 hB hf.st hf.d hw hsz _ _ nm hnm dt kp _ _ rfl).mono ?_
   rintro e w' ⟨vf, vo, vr, vt, rfl, h⟩
   obtain ⟨U', h1, h2, h4⟩ := h.out
   obtain ⟨fa', fl', fc', oa', on', oc', ra', rn', rc', ta', tn', tc', _, _, _, _, _, _, _, _, _, rfl, rfl, rfl, rfl, _, _, _⟩ := h1.form
   exact ⟨_, rfl, _, _, _, _, _, _, _, _, _, _, _, _, _, _, _, _, _, _, _, _, _, U', rfl, h1, h2, h4⟩
end Go.Proofs.YtjlokpjflgbgdaaGreat
