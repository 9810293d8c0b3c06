/-
  The statements' Play of a tree.
-/
import Derived.Test.YtjlokpjflgbgdaaGreatML37
set_option maxHeartbeats 6400000
set_option maxRecDepth 100000
namespace Go.Proofs.YtjlokpjflgbgdaaGreat
open Go.RowKit
theorem enters_Entries8 : ∀ args w, (callFunc 51 args).run Tryz.prog w = .ok (.enter 51 args) w := enters_of Tryz.func51 (by kernel_rfl) rfl
theorem enters_PutTree : ∀ args w, (callFunc 50 args).run Tryz.prog w = .ok (.enter 50 args) w := enters_of Tryz.func50 (by kernel_rfl) rfl
theorem wipe_at {w : World} {base n cap : Nat} {la : Option Addr} {es : List En} (h : OwnG encE 69 w base (.slice la n cap) es) {i : Nat} (hi : i < n) :
  ∃ g u0 u1, la = some ⟨g, 0, none⟩ /\ g < w.heap.size /\ w.cell? ⟨g, i * 2, none⟩ = some u0 /\ w.cell? ⟨g, i * 2 + 1, none⟩ = some u1 /\ w.frozen? ⟨g, i * 2, none⟩ = false /\ w.frozen? ⟨g, i * 2 + 1, none⟩ = false /\ (w.setCell ⟨g, i * 2, none⟩ (.string ⟨#[]⟩)).frozen? ⟨g, i * 2 + 1, none⟩ = false /\
   Hid (∃ es', OwnG encE 69 ((w.setCell ⟨g, i * 2, none⟩ (.string ⟨#[]⟩)).setCell ⟨g, i * 2 + 1, none⟩ (.int .u64 0)) base (.slice la n cap) es') := by
 have hl : es.length = n := own_len h
 obtain ⟨x, hx⟩ := get_some hl hi
 rcases h.2 with ⟨e, h0⟩ | ⟨g, cap', cur, e, hb, hg, hnc, hcm, hcs, htake⟩
 ·omega
 ·cases e
  have hr := h.rdc.1
  obtain ⟨hlt, c0, c1⟩ := RdG.ents hr hx
  simp only [Nat.zero_add] at c0 c1
  refine ⟨g, _, _, rfl, hlt, c0, c1, by simp [World.frozen?, hg], by simp [World.frozen?, hg], by simp [World.frozen?, World.setCell, Array.getElem?_modify, hg], ?_⟩
  have p1 := h.put hx (j := 0) (by decide) (([], x.2) : En) (tx []) rfl
  have hx1 : (es.set i (([], x.2) : En))[i]? = some ([], x.2) := by
   rw [List.getElem?_set_self (by omega)]
  have p2 := p1.put hx1 (j := 1) (by decide) (([], 0) : En) (.int .u64 0) rfl
  exact ⟨_, p2⟩
theorem play_tree {B : Nat} {E : Nat -> Prop} {w0 w : World} {s b : Nat} {fa oa ra ta xa ya za pa qa : Option Addr} {fl fc on oc rn rc tn tc xn xc yn yc zn zc pn pc qn qc : Nat} {U : Nat -> Prop} {st : St} {d : Dk} {bl tl cl : List UInt64} {ps : List Bs} {qs : List Int}
  (hI : WI B E w s b (.slice fa fl fc) (.slice oa on oc) (.slice ra rn rc) (.slice ta tn tc) (.slice xa xn xc) (.slice ya yn yc) (.slice za zn zc) U st d bl tl cl) (h0 : Below B w0 w) (hB0 : w0.heap.size = B) (hB : B <= w.heap.size) (hp : RdG encT w0 pa ps) (hpl : ps.length = pn) (hpn : pn * 24 <= 140737488355328) (hpf : ∀ p ∈ ps, p.length <= 9223372036854775807) (hq : RdG encI w0 qa qs) (hql : qs.length = qn) (hqn : qn <= 4000000000000000000) (hok : d.ok) (hw : d.writes <= 1000000) (hsz : st.size <= 1000000) (dv : Value) (nm : ByteArray) (dt kp : Int) (Q) (hQ : stree st d (aents ps qs bl) = Q) (tl' : List UInt64) (htl' : tl' = if Q.2.2 = 0 then tl ++ [Q.2.1] else tl) (hbn : bl.length <= 1000000) (htn : tl.length <= 1000000) :
  Calls Tryz.prog 13 #[.agg (wdV s b d (.slice fa fl fc) (.slice oa on oc) (.slice ra rn rc) (.slice ta tn tc) (.slice xa xn xc) (.slice ya yn yc) (.slice za zn zc)), .agg (actC 1 dv (.slice pa pn pc) (.slice qa qn qc) nm dt kp)] w λ e w' => ∃ vf vo vr vt xt, e = .returned (.tuple #[.agg (wdV s b Q.1.2 vf vo vr vt (.slice xa xn xc) xt (.slice za zn zc)), .bool true]) /\ Hid (∃ U', WI B E w' s b vf vo vr vt (.slice xa xn xc) xt (.slice za zn zc) U' Q.1.1 Q.1.2 bl tl' cl /\ Below B w0 w' /\ (∀ i, E i -> w'.heap[i]? = w.heap[i]?) /\ OwnG encU 56 w' B (.slice ya yn yc) tl) := by
 obtain ⟨W, hW⟩ : ∃ W, ((w.alloc (.cells (wdV s b d (.slice fa fl fc) (.slice oa on oc) (.slice ra rn rc) (.slice ta tn tc) (.slice xa xn xc) (.slice ya yn yc) (.slice za zn zc)) 35)).alloc (.cells (actC 1 dv (.slice pa pn pc) (.slice qa qn qc) nm dt kp) 43)).alloc (.cells zeroW 35) = W := ⟨_, rfl⟩
 have bW : Below w.heap.size w W := by rw [<- hW]; exact bz3 _ _ _ _
 have hBX : Bx w.heap.size W (wdV s b d (.slice fa fl fc) (.slice oa on oc) (.slice ra rn rc) (.slice ta tn tc) (.slice xa xn xc) (.slice ya yn yc) (.slice za zn zc)) (actC 1 dv (.slice pa pn pc) (.slice qa qn qc) nm dt kp) := by rw [<- hW]; exact Bx.new _ _ _
 have MD : Hid (Md B w.heap.size E (λ i => Fb w.heap.size i ∨ E i) w0 w W s b (.slice fa fl fc) (.slice oa on oc) (.slice ra rn rc) (.slice ta tn tc) (.slice xa xn xc) (.slice ya yn yc) (.slice za zn zc) U st d bl tl cl (wdV s b d (.slice fa fl fc) (.slice oa on oc) (.slice ra rn rc) (.slice ta tn tc) (.slice xa xn xc) (.slice ya yn yc) (.slice za zn zc)) (actC 1 dv (.slice pa pn pc) (.slice qa qn qc) nm dt kp)) := Md.start hI h0 hB hBX bW
 have bB : Below w0.heap.size w0 W := by rw [hB0]; exact MD.out.bel
 obtain ⟨es, hes⟩ : ∃ es, aents ps qs bl = es := ⟨_, rfl⟩
 have hel : es.length = pn := by rw [<- hes]; unfold aents; simp [hpl]
 have hbx := MD.out.inv.ob.rdc
 have hbl : bl.length = xn := own_len MD.out.inv.ob
 have hEn := aents_any (w := W) (pc := pc) (qc := qc) (bc := xc) (dv := dv) 1 nm dt kp (hp.below bB) hpl hpn (hq.below bB) hql hqn hbx.1 hbl (by omega)
 rw [hes] at hEn hQ
 have hFn : Fine es := by
  intro e he
  rw [<- hes] at he
  unfold aents at he
  rw [List.mem_map] at he
  obtain ⟨i, hi, rfl⟩ := he
  rw [List.mem_range] at hi
  unfold aent
  rw [List.getD_eq_getElem?_getD, List.getElem?_eq_getElem hi]
  exact hpf _ (List.getElem_mem hi)
 have y0 := hBX.act.cell (j := 0) rfl
 have y1 := hBX.act.cell (j := 1) rfl
 have y2 := hBX.act.cell (j := 2) rfl
 have y3 := hBX.act.cell (j := 3) rfl
 have y4 := hBX.act.cell (j := 4) rfl
 have y5 := hBX.act.cell (j := 5) rfl
 have y6 := hBX.act.cell (j := 6) rfl
 have x11 := hBX.box.cell (j := 11) rfl
 have HH : Hid (es.length = pn /\ Fine es /\ d.ok /\ d.writes <= 1000000 /\ st.size <= 1000000 /\ stree st d es = Q /\ (tl' = if Q.2.2 = 0 then tl ++ [Q.2.1] else tl) /\ tl.length <= 1000000 /\ pn * 24 <= 140737488355328) := ⟨hel, hFn, hok, hw, hsz, hQ, htl', htn, hpn⟩
 clear hI h0 hB0 hB hp hpl hpn hq hql hqn hok hw hsz hQ htl' hbn htn hBX bW bB hes hel hbx hbl hFn hpf
 go_enter Tryz.func13, Tryz.ntmps13
 go_upto_region 13 with fail
 clear hW
 go_wp2_with fail
 refine hEn.mono ?_
 rintro e w1 ⟨v, rfl, H1⟩
 obtain ⟨la, lc, ev, hlc, _⟩ := H1.out.1.whole HH.out.1
 subst ev
 have M1 : Hid (Md B w.heap.size E (λ i => (Fb w.heap.size i ∨ E i) ∨ (Value.slice la pn lc).ownBlock = some i) w0 w w1 s b (.slice fa fl fc) (.slice oa on oc) (.slice ra rn rc) (.slice ta tn tc) (.slice xa xn xc) (.slice ya yn yc) (.slice za zn zc) U st d bl tl cl (wdV s b d (.slice fa fl fc) (.slice oa on oc) (.slice ra rn rc) (.slice ta tn tc) (.slice xa xn xc) (.slice ya yn yc) (.slice za zn zc)) (actC 1 dv (.slice pa pn pc) (.slice qa qn qc) nm dt kp)) := MD.out.more H1.out.2 (λ i q => ⟨by have := (H1.out.1.lt i q).1; omega, (H1.out.1.lt i q).2⟩)
 have EN : Hid (Calls Tryz.prog 51 #[.slice la pn lc] w1.drew λ e w' => ∃ v, e = .returned v /\ Hid (OwnG encE 230 w' w1.heap.size v es /\ Below w1.heap.size w1 w')) := by
  refine (entries_any w1.drew (H1.out.1.rdc.1.below (Below.refl _ _).drew) HH.out.1 HH.out.2.2.2.2.2.2.2.2).mono ?_
  rintro e w' ⟨v, rfl, h⟩
  exact ⟨v, rfl, h.out.1, below_drew h.out.2⟩
 have PT : Hid (∀ w2, Below w1.heap.size w1 w2 -> ∀ ea ec, OwnG encE 230 w2 w1.heap.size (.slice ea pn ec) es -> Calls Tryz.prog 50 #[rm d (.slice fa fl fc) (.slice oa on oc) (.slice ra rn rc) (.slice ta tn tc), .slice ea pn ec] w2 λ e w' => ∃ v, e = .returned v /\ Hid (∃ m' i r, v = .tuple #[m', .int .u64 i, .int .i64 r] /\ i = (Q.2.1.toNat : Int) /\ r = Q.2.2 /\ RMS (Zb (λ i => (Fb w.heap.size i ∨ E i) ∨ (Value.slice la pn lc).ownBlock = some i) (Rows U (.slice xa xn xc) (.slice ya yn yc) (.slice za zn zc))) w' m' Q.1.1 Q.1.2 /\ Below w1.heap.size w1 w')) := by
  intro w2 b2 ea ec ho
  refine (rputTree_any (λ i q => ?_) (M1.out.refz.below b2) HH.out.2.2.2.2.1 HH.out.2.2.1 HH.out.2.2.2.1 ho.rdc.1 HH.out.1 (by have := HH.out.2.2.2.2.2.2.2.2; omega) Q HH.out.2.2.2.2.2.1).mono ?_
  ·rcases q with q | q
   ·exact Nat.lt_of_lt_of_le (M1.out.inv.lt i q).2 b2.size
   ·exact Nat.lt_of_lt_of_le (M1.out.flt i q) b2.size
  ·rintro e w' ⟨m', i, r, rfl, h⟩
   exact ⟨_, rfl, m', i, r, rfl, h.out.1, h.out.2.1, h.out.2.2.1, b2.trans (h.out.2.2.2.mono b2.size)⟩
 have c1 := M1.out.bx
 have g2 := c1.box.cell (j := 2) rfl
 have g3 := c1.box.cell (j := 3) rfl
 have g4 := c1.box.cell (j := 4) rfl
 have g5 := c1.box.cell (j := 5) rfl
 have g6 := c1.box.cell (j := 6) rfl
 have g7 := c1.box.cell (j := 7) rfl
 have g8 := c1.box.cell (j := 8) rfl
 have g9 := c1.box.cell (j := 9) rfl
 have g10 := c1.box.cell (j := 10) rfl
 have HL : Hid (pn <= lc /\ OwnG encE 69 w1 (W.heap.size + 1) (.slice la pn lc) es /\ Below W.heap.size W w1) := ⟨hlc, H1.out.1, H1.out.2⟩
 clear y0 y1 y2 y3 y4 y5 y6 x11 hEn H1 hlc c1
 go_upto_region 14 with fail
 go_cut [9, 7] (λ iv rv u => ∃ v i9 r9 fa' fl' fc' oa' on' oc' ra' rn' rc' ta' tn' tc', v = u /\ iv = .int .u64 i9 /\ rv = .int .i64 r9 /\ Hid (i9 = (Q.2.1.toNat : Int) /\ r9 = Q.2.2 /\ Md B w.heap.size E (λ i => (Fb w.heap.size i ∨ E i) ∨ (Value.slice la pn lc).ownBlock = some i) w0 w v s b (.slice fa fl fc) (.slice oa on oc) (.slice ra rn rc) (.slice ta tn tc) (.slice xa xn xc) (.slice ya yn yc) (.slice za zn zc) U st d bl tl cl (wdV s b Q.1.2 (.slice fa' fl' fc') (.slice oa' on' oc') (.slice ra' rn' rc') (.slice ta' tn' tc') (.slice xa xn xc) (.slice ya yn yc) (.slice za zn zc)) (actC 1 dv (.slice pa pn pc) (.slice qa qn qc) nm dt kp) /\ RMS (Zb (λ i => (Fb w.heap.size i ∨ E i) ∨ (Value.slice la pn lc).ownBlock = some i) (Rows U (.slice xa xn xc) (.slice ya yn yc) (.slice za zn zc))) v (rm Q.1.2 (.slice fa' fl' fc') (.slice oa' on' oc') (.slice ra' rn' rc') (.slice ta' tn' tc')) Q.1.1 Q.1.2 /\ OwnG encE 69 v (W.heap.size + 1) (.slice la pn lc) es))
 case first =>
  go_region_law
   (first
    | (refine step_call1 rfl (.tmp 71) 51 #[57] rfl enters_Entries8 (.slice la pn lc) (by simp [Act.eval, Act.put]) _ EN.out ?_; intro v2 w2 h2; obtain ⟨ea, ec, e2, _, _⟩ := h2.out.1.whole HH.out.1; subst e2; have P2 := hid (PT.out w2 h2.out.2 ea ec h2.out.1); have B2 := hid h2.out.2; clear h2; have c2 := M1.out.bx.below B2.out; have h2 := c2.box.cell (j := 2) rfl; have h3 := c2.box.cell (j := 3) rfl; have h4 := c2.box.cell (j := 4) rfl; have h5 := c2.box.cell (j := 5) rfl; have h6 := c2.box.cell (j := 6) rfl; have h7 := c2.box.cell (j := 7) rfl; have h8 := c2.box.cell (j := 8) rfl; have h9 := c2.box.cell (j := 9) rfl; have h10 := c2.box.cell (j := 10) rfl; clear c2)
    | (refine step_call2 rfl (.tmp 70) (.tmp 72) 50 #[32, 117] rfl enters_PutTree (rm d (.slice fa fl fc) (.slice oa on oc) (.slice ra rn rc) (.slice ta tn tc)) (.slice ea pn ec) (by simp [Act.eval]) (by simp [Act.eval]) _ P2.out ?_; intro v3 w3 h3; obtain ⟨m3, i9, r9, e3, q1, q2, q3, q4⟩ := h3.out; subst e3; obtain ⟨fa', fl', fc', oa', on', oc', ra', rn', rc', ta', tn', tc', rfl, l1, l2, l3, l4⟩ := q3; have H9 := hid (And.intro q1 (And.intro q2 (And.intro (show RMS (Zb (λ i => (Fb w.heap.size i ∨ E i) ∨ (Value.slice la pn lc).ownBlock = some i) (Rows U (.slice xa xn xc) (.slice ya yn yc) (.slice za zn zc))) w3 (rm Q.1.2 (.slice fa' fl' fc') (.slice oa' on' oc') (.slice ra' rn' rc') (.slice ta' tn' tc')) Q.1.1 Q.1.2 from ⟨fa', fl', fc', oa', on', oc', ra', rn', rc', ta', tn', tc', rfl, l1, l2, l3, l4⟩) q4))); clear h3 q1 q2 q4 l1 l2 l3 l4; have c3 := M1.out.bx.below H9.out.2.2.2; have k2 := c3.box.cell (j := 2) rfl; have f2 := c3.box.thaw 2; have k3 := c3.box.cell (j := 3) rfl; have f3 := c3.box.thaw 3; have k4 := c3.box.cell (j := 4) rfl; have f4 := c3.box.thaw 4; have k5 := c3.box.cell (j := 5) rfl; have f5 := c3.box.thaw 5; have k6 := c3.box.cell (j := 6) rfl; have f6 := c3.box.thaw 6; have k7 := c3.box.cell (j := 7) rfl; have f7 := c3.box.thaw 7; have k8 := c3.box.cell (j := 8) rfl; have f8 := c3.box.thaw 8; have k9 := c3.box.cell (j := 9) rfl; have f9 := c3.box.thaw 9; have k10 := c3.box.cell (j := 10) rfl; have f10 := c3.box.thaw 10; clear c3)
    | fail)
  all_goals
   have hM := (M1.out.below H9.out.2.2.2).bx.box.lays [.slice fa' fl' fc', .int .i64 (Q.1.2.writes : Int), .bool Q.1.2.armed, .bool Q.1.2.dead, .int .i64 (Q.1.2.after : Int), .int .i64 (Q.1.2.keep : Int), .slice oa' on' oc', .slice ra' rn' rc', .slice ta' tn' tc'] 2
   rw [set9] at hM
   have hT := lay_all (W := w3) w.heap.size [.slice fa' fl' fc', .int .i64 (Q.1.2.writes : Int), .bool Q.1.2.armed, .bool Q.1.2.dead, .int .i64 (Q.1.2.after : Int), .int .i64 (Q.1.2.keep : Int), .slice oa' on' oc', .slice ra' rn' rc', .slice ta' tn' tc'] 2
   have FIN := hid (And.intro H9.out.1 (And.intro H9.out.2.1 (And.intro ((M1.out.below H9.out.2.2.2).lay hT hM) (And.intro (H9.out.2.2.1.turned hT (λ i q => .inr (.inl (.inl (by have q' : i = w.heap.size := q; exact ⟨by omega, by omega⟩))))) ((HL.out.2.1.below H9.out.2.2.2).stays hT (λ g q r => by have r' : g = w.heap.size := r; have := (HL.out.2.1.lt g q).1; have := MD.out.bx.lt; omega))))))
   clear hM hT
   simp only [layL, Nat.reduceAdd] at FIN
   go_wp2_with fail
   go_meet
   exact ⟨_, i9, r9, fa', fl', fc', oa', on', oc', ra', rn', rc', ta', tn', tc', rfl, rfl, rfl, FIN⟩
 case rest =>
  obtain ⟨X, i9, r9, fa', fl', fc', oa', on', oc', ra', rn', rc', ta', tn', tc', rfl, rfl, rfl, HX⟩ := hcut
  have x1 := HX.out.2.2.1.bx.box.cell (j := 1) rfl
  have hTr := tree_put HX.out.2.2.1.inv.duo HX.out.2.2.2.2.rdc.1 HH.out.1 (by have := HH.out.2.2.2.2.2.2.2.2; omega) HH.out.2.1 HL.out.1 HH.out.2.2.1 HH.out.2.2.2.1 (by have := HH.out.2.2.2.2.1; unfold St.size at this; omega)
  rw [HH.out.2.2.2.2.2.1] at hTr
  clear g2 g3 g4 g5 g6 g7 g8 g9 g10
  go_wp2_with fail
  refine hTr.mono ?_
  rintro e u3 ⟨i8, r8, rfl, H8⟩
  have eI : i8 = i9 := by rw [H8.out.1, HX.out.1]
  have eR : r8 = r9 := by rw [H8.out.2.1, HX.out.2.1]
  obtain ⟨U1, hU1⟩ : ∃ U1, Since U X u3 = U1 := ⟨_, rfl⟩
  have AF : Aft X u3 s b Q.1.1 Q.1.2 U U1 := by rw [<- hU1]; exact Aft.of (Below.refl _ _) H8.out.2.2.1 H8.out.2.2.2
  have M3 : Hid (Md B w.heap.size E (λ i => (Fb w.heap.size i ∨ E i) ∨ (Value.slice la pn lc).ownBlock = some i) w0 w u3 s b (.slice fa' fl' fc') (.slice oa' on' oc') (.slice ra' rn' rc') (.slice ta' tn' tc') (.slice xa xn xc) (.slice ya yn yc) (.slice za zn zc) U1 Q.1.1 Q.1.2 bl tl cl (wdV s b Q.1.2 (.slice fa' fl' fc') (.slice oa' on' oc') (.slice ra' rn' rc') (.slice ta' tn' tc') (.slice xa xn xc) (.slice ya yn yc) (.slice za zn zc)) (actC 1 dv (.slice pa pn pc) (.slice qa qn qc) nm dt kp)) := (HX.out.2.2.1.call AF).2.2.2.2 _ _ _ _ (Below.refl _ _) (HX.out.2.2.1.move AF HX.out.2.2.2.1)
  have HE : Hid (i8 = (Q.2.1.toNat : Int) /\ r8 = Q.2.2) := ⟨H8.out.1, H8.out.2.1⟩
  have L3 : Hid (OwnG encE 69 u3 (W.heap.size + 1) (.slice la pn lc) es /\ ∀ i, (Value.slice la pn lc).ownBlock = some i -> w.heap.size + 3 <= i) := ⟨HX.out.2.2.2.2.stays H8.out.2.2.2 (λ g q r => HX.out.2.2.1.far g (.inl r) (.inr q)), λ i q => by have := (HX.out.2.2.2.2.lt i q).1; have := MD.out.bx.lt; omega⟩
  subst eI eR
  clear AF hU1 H8 hTr x1
  go_wp2_with fail
  go_loopg [12] pn (λ m iv wr => ∃ i : Nat, iv = .int .i64 i /\ i + m = pn /\ Hid ((∃ es', OwnG encE 69 wr (W.heap.size + 1) (.slice la pn lc) es') /\ Md B w.heap.size E (λ i => (Fb w.heap.size i ∨ E i) ∨ (Value.slice la pn lc).ownBlock = some i) w0 w wr s b (.slice fa' fl' fc') (.slice oa' on' oc') (.slice ra' rn' rc') (.slice ta' tn' tc') (.slice xa xn xc) (.slice ya yn yc) (.slice za zn zc) U1 Q.1.1 Q.1.2 bl tl cl (wdV s b Q.1.2 (.slice fa' fl' fc') (.slice oa' on' oc') (.slice ra' rn' rc') (.slice ta' tn' tc') (.slice xa xn xc) (.slice ya yn yc) (.slice za zn zc)) (actC 1 dv (.slice pa pn pc) (.slice qa qn qc) nm dt kp)))
  case atStart => exact ⟨0, rfl, by omega, ⟨_, L3.out.1⟩, M3.out⟩
  case round =>
   obtain ⟨i, rfl, hi, HR⟩ := hrel
   have HPN := hid HH.out.2.2.2.2.2.2.2.2
   by_cases hin : i < pn
   ·have id : (i : Int) < (pn : Int) := by omega
    have id0 : (0 : Int) <= (i : Int) := by omega
    obtain ⟨⟨es', ho⟩, hm⟩ := HR.out
    obtain ⟨g, v0, v1, rfl, hlt, c0, c1, f0, f1, f1', HO⟩ := wipe_at ho hin
    have HM := hid hm
    have HOn := hid ho
    clear ho hm HR
    have hpn := HPN.out
    go_wp2
    go_roundg (gk - 1)
    case measure => omega
    case rel =>
     refine ⟨i + 1, by go_num, by omega, HO.out, ?_⟩
     have t1 : Turned (λ j => j = g) wr (wr.setCell ⟨g, i * 2, none⟩ (.string ⟨#[]⟩)) := turned_set _ _
     have t2 : Turned (λ j => j = g) (wr.setCell ⟨g, i * 2, none⟩ (.string ⟨#[]⟩)) ((wr.setCell ⟨g, i * 2, none⟩ (.string ⟨#[]⟩)).setCell ⟨g, i * 2 + 1, none⟩ (.int .u64 0)) := turned_set _ _
     exact HM.out.other (t1.trans t2 (λ _ _ q => q)) (λ j q => by have q' : j = g := q; subst q'; exact ⟨.inr rfl, L3.out.2 j rfl⟩)
   ·obtain rfl : i = pn := by omega
    have M6 := hid HR.out.2
    clear HR HX M3 L3 HPN
    by_cases hr0 : r8 = 0
    ·subst hr0
     have htn := HH.out.2.2.2.2.2.2.2.1
     have hBX : B <= wr.heap.size := Nat.le_trans M6.out.hH (by have := M6.out.bx.lt; omega)
     have p12 := M6.out.bx.box.cell (j := 12) rfl
     have f12 := M6.out.bx.box.thaw 12
     have hlt := M6.out.bx.box.lt
     go_upto_region 54 with (at_builtin; refine appK_one encU 56 33 8 _ rfl Tryz.info56 Tryz.underlying33 rfl (.tmp 98) (.tmp 100) rfl B (.slice ya yn yc) tl Q.2.1 _ (by simp [Act.eval]) M6.out.inv.ot (by simp [Act.eval]) (by omega) (by simp only [maxLen]; omega) hBX _ (by show _ = #[Value.int .u64 (Q.2.1.toNat : Int)]; rw [HE.out.1]) ?_; intro v4 w4 ho4 hk4 hm4 ht4; obtain ⟨a4, c4, e4, _, _⟩ := ho4.whole (n := tl.length + 1) (by simp); subst e4; have M4 := hid (And.intro (M6.out.rowT ho4 hm4 ht4) hk4); clear ho4 hk4 hm4 ht4; have p12 := M4.out.1.bx.box.cell (j := 12) rfl; have f12 := M4.out.1.bx.box.thaw 12)
     obtain ⟨Y, hY⟩ : ∃ Y, w4.setCell ⟨w.heap.size, 12, none⟩ (.slice a4 (tl.length + 1) c4) = Y := ⟨_, rfl⟩
     have M5 : Hid (Md B w.heap.size E (λ j => (Fb w.heap.size j ∨ E j) ∨ (Value.slice la i lc).ownBlock = some j) w0 w Y s b (.slice fa' fl' fc') (.slice oa' on' oc') (.slice ra' rn' rc') (.slice ta' tn' tc') (.slice xa xn xc) (.slice a4 (tl.length + 1) c4) (.slice za zn zc) U1 Q.1.1 Q.1.2 bl (tl ++ [Q.2.1]) cl (wdV s b Q.1.2 (.slice fa' fl' fc') (.slice oa' on' oc') (.slice ra' rn' rc') (.slice ta' tn' tc') (.slice xa xn xc) (.slice a4 (tl.length + 1) c4) (.slice za zn zc)) (actC 1 dv (.slice pa i pc) (.slice qa qn qc) nm dt kp)) := by
      have h1 := M4.out.1.bx.box.lays [.slice a4 (tl.length + 1) c4] 12
      rw [set12] at h1
      rw [<- hY]
      exact M4.out.1.lay (turned_set 12 _) h1
     have O5 : Hid (OwnG encU 56 Y B (.slice ya yn yc) tl) := by
      rw [<- hY]
      exact M4.out.2.stays (turned_set (b := w.heap.size) 12 _) (λ g q r => by have r' : g = w.heap.size := r; exact M6.out.far g (.inr (.inr (.inl q))) (.inl (.inl ⟨by omega, by omega⟩)))
     rw [hY]
     clear hY p12 f12
     have p0 := M5.out.bx.box.cell (j := 0) rfl
     have s0 := M5.out.bx.res.cell (j := 0) rfl
     have f0 := M5.out.bx.res.thaw 0
     have p1 := M5.out.bx.box.cell (j := 1) rfl
     have s1 := M5.out.bx.res.cell (j := 1) rfl
     have f1 := M5.out.bx.res.thaw 1
     have p2 := M5.out.bx.box.cell (j := 2) rfl
     have s2 := M5.out.bx.res.cell (j := 2) rfl
     have f2 := M5.out.bx.res.thaw 2
     have p3 := M5.out.bx.box.cell (j := 3) rfl
     have s3 := M5.out.bx.res.cell (j := 3) rfl
     have f3 := M5.out.bx.res.thaw 3
     have p4 := M5.out.bx.box.cell (j := 4) rfl
     have s4 := M5.out.bx.res.cell (j := 4) rfl
     have f4 := M5.out.bx.res.thaw 4
     have p5 := M5.out.bx.box.cell (j := 5) rfl
     have s5 := M5.out.bx.res.cell (j := 5) rfl
     have f5 := M5.out.bx.res.thaw 5
     have p6 := M5.out.bx.box.cell (j := 6) rfl
     have s6 := M5.out.bx.res.cell (j := 6) rfl
     have f6 := M5.out.bx.res.thaw 6
     have p7 := M5.out.bx.box.cell (j := 7) rfl
     have s7 := M5.out.bx.res.cell (j := 7) rfl
     have f7 := M5.out.bx.res.thaw 7
     have p8 := M5.out.bx.box.cell (j := 8) rfl
     have s8 := M5.out.bx.res.cell (j := 8) rfl
     have f8 := M5.out.bx.res.thaw 8
     have p9 := M5.out.bx.box.cell (j := 9) rfl
     have s9 := M5.out.bx.res.cell (j := 9) rfl
     have f9 := M5.out.bx.res.thaw 9
     have p10 := M5.out.bx.box.cell (j := 10) rfl
     have s10 := M5.out.bx.res.cell (j := 10) rfl
     have f10 := M5.out.bx.res.thaw 10
     have p11 := M5.out.bx.box.cell (j := 11) rfl
     have s11 := M5.out.bx.res.cell (j := 11) rfl
     have f11 := M5.out.bx.res.thaw 11
     have p12 := M5.out.bx.box.cell (j := 12) rfl
     have s12 := M5.out.bx.res.cell (j := 12) rfl
     have f12 := M5.out.bx.res.thaw 12
     have p13 := M5.out.bx.box.cell (j := 13) rfl
     have s13 := M5.out.bx.res.cell (j := 13) rfl
     have f13 := M5.out.bx.res.thaw 13
     go_wp2
     refine bodyPost_ret (v := .tuple #[.agg (wdV s b Q.1.2 (.slice fa' fl' fc') (.slice oa' on' oc') (.slice ra' rn' rc') (.slice ta' tn' tc') (.slice xa xn xc) (.slice a4 (tl.length + 1) c4) (.slice za zn zc)), .bool true]) ?_ rfl ⟨_, _, _, _, _, rfl, ?_⟩
     ·simp [results, Tryz.f13]
      go_simp
     ·have ht := lay_all (W := Y) (w.heap.size + 2) [.pointer (some ⟨b, 0, none⟩), .pointer (some ⟨s, 0, none⟩), .slice fa' fl' fc', .int .i64 (Q.1.2.writes : Int), .bool Q.1.2.armed, .bool Q.1.2.dead, .int .i64 (Q.1.2.after : Int), .int .i64 (Q.1.2.keep : Int), .slice oa' on' oc', .slice ra' rn' rc', .slice ta' tn' tc', .slice xa xn xc, .slice a4 (tl.length + 1) c4, .slice za zn zc] 0
      simp only [layL, Nat.reduceAdd] at ht
      have hh := M5.out.done ht
      have ho := O5.out.stays ht (λ g q r => by have r' : g = w.heap.size + 2 := r; exact M6.out.far g (.inr (.inr (.inl q))) (.inl (.inl ⟨by omega, by omega⟩)))
      have hbl := HH.out.2.2.2.2.2.2.1
      rw [if_pos (HE.out.2.symm)] at hbl
      rw [hbl]
      exact ⟨_, hh.1, hh.2.1, hh.2.2, ho⟩
    ·have hz : Hid (¬ r8 = 0) := hr0
     go_upto_region 54 with fail
     have p0 := M6.out.bx.box.cell (j := 0) rfl
     have s0 := M6.out.bx.res.cell (j := 0) rfl
     have f0 := M6.out.bx.res.thaw 0
     have p1 := M6.out.bx.box.cell (j := 1) rfl
     have s1 := M6.out.bx.res.cell (j := 1) rfl
     have f1 := M6.out.bx.res.thaw 1
     have p2 := M6.out.bx.box.cell (j := 2) rfl
     have s2 := M6.out.bx.res.cell (j := 2) rfl
     have f2 := M6.out.bx.res.thaw 2
     have p3 := M6.out.bx.box.cell (j := 3) rfl
     have s3 := M6.out.bx.res.cell (j := 3) rfl
     have f3 := M6.out.bx.res.thaw 3
     have p4 := M6.out.bx.box.cell (j := 4) rfl
     have s4 := M6.out.bx.res.cell (j := 4) rfl
     have f4 := M6.out.bx.res.thaw 4
     have p5 := M6.out.bx.box.cell (j := 5) rfl
     have s5 := M6.out.bx.res.cell (j := 5) rfl
     have f5 := M6.out.bx.res.thaw 5
     have p6 := M6.out.bx.box.cell (j := 6) rfl
     have s6 := M6.out.bx.res.cell (j := 6) rfl
     have f6 := M6.out.bx.res.thaw 6
     have p7 := M6.out.bx.box.cell (j := 7) rfl
     have s7 := M6.out.bx.res.cell (j := 7) rfl
     have f7 := M6.out.bx.res.thaw 7
     have p8 := M6.out.bx.box.cell (j := 8) rfl
     have s8 := M6.out.bx.res.cell (j := 8) rfl
     have f8 := M6.out.bx.res.thaw 8
     have p9 := M6.out.bx.box.cell (j := 9) rfl
     have s9 := M6.out.bx.res.cell (j := 9) rfl
     have f9 := M6.out.bx.res.thaw 9
     have p10 := M6.out.bx.box.cell (j := 10) rfl
     have s10 := M6.out.bx.res.cell (j := 10) rfl
     have f10 := M6.out.bx.res.thaw 10
     have p11 := M6.out.bx.box.cell (j := 11) rfl
     have s11 := M6.out.bx.res.cell (j := 11) rfl
     have f11 := M6.out.bx.res.thaw 11
     have p12 := M6.out.bx.box.cell (j := 12) rfl
     have s12 := M6.out.bx.res.cell (j := 12) rfl
     have f12 := M6.out.bx.res.thaw 12
     have p13 := M6.out.bx.box.cell (j := 13) rfl
     have s13 := M6.out.bx.res.cell (j := 13) rfl
     have f13 := M6.out.bx.res.thaw 13
     go_wp2
     refine bodyPost_ret (v := .tuple #[.agg (wdV s b Q.1.2 (.slice fa' fl' fc') (.slice oa' on' oc') (.slice ra' rn' rc') (.slice ta' tn' tc') (.slice xa xn xc) (.slice ya yn yc) (.slice za zn zc)), .bool true]) ?_ rfl ⟨_, _, _, _, _, rfl, ?_⟩
     ·simp [results, Tryz.f13]
      go_simp
     ·have ht := lay_all (W := wr) (w.heap.size + 2) [.pointer (some ⟨b, 0, none⟩), .pointer (some ⟨s, 0, none⟩), .slice fa' fl' fc', .int .i64 (Q.1.2.writes : Int), .bool Q.1.2.armed, .bool Q.1.2.dead, .int .i64 (Q.1.2.after : Int), .int .i64 (Q.1.2.keep : Int), .slice oa' on' oc', .slice ra' rn' rc', .slice ta' tn' tc', .slice xa xn xc, .slice ya yn yc, .slice za zn zc] 0
      simp only [layL, Nat.reduceAdd] at ht
      have hh := M6.out.done ht
      have ho := M6.out.inv.ot.stays ht (λ g q r => by have r' : g = w.heap.size + 2 := r; exact M6.out.far g (.inr (.inr (.inl q))) (.inl (.inl ⟨by omega, by omega⟩)))
      have hbl := HH.out.2.2.2.2.2.2.1
      rw [if_neg (by rw [<- HE.out.2]; exact hz.out)] at hbl
      rw [hbl]
      exact ⟨_, hh.1, hh.2.1, hh.2.2, ho⟩
end Go.Proofs.YtjlokpjflgbgdaaGreat
