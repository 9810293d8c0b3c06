/-
  The statements' Play of a commit.
-/
import Derived.Test.YtmhcpbbiokpjjaaGreatM29
set_option maxHeartbeats 6400000
set_option maxRecDepth 100000
namespace Go.Proofs.YtmhcpbbiokpjjaaGreat
open Go.RowKit
def Fc (E:Nat->Prop) (H C:Nat) (ua:Option Addr) (N uc:Nat):Nat->Prop:=λ i=>(Fb H i∨E i)∨i=C∨(Value.slice ua N uc).ownBlock=some i
theorem Zd2:∀ args w,(callFunc 43 args).run Tryz.prog w=.ok (.enter 43 args) w:=enters_of Tryz.func43 (by kernel_rfl) rfl
theorem Zda:∀ args w,(callFunc 42 args).run Tryz.prog w=.ok (.enter 42 args) w:=enters_of Tryz.func42 (by kernel_rfl) rfl
theorem Zls {w:World} {base n cap:Nat} {la:Option Addr} {xs:List UInt64} (h:OwnG encU 53 w base (.slice la n cap) xs) {i:Nat} (hi:i<n) :
  ∃ g u0,la=some ⟨g,0,none⟩/\g<w.heap.size/\w.cell? ⟨g,i,none⟩=some u0/\w.frozen? ⟨g,i,none⟩=false/\Hid (∃ xs',OwnG encU 53 (w.setCell ⟨g,i,none⟩ (.int .u64 0)) base (.slice la n cap) xs'):=by
 have hl:xs.length=n:=ZaF h;obtain ⟨x,hx⟩:=Zaf hl hi
 rcases h.2 with ⟨e,h0⟩ | ⟨g,cap',cur,e,hb,hg,hnc,hcm,hcs,htake⟩
 ·omega
 ·cases e;obtain ⟨hlt,c0⟩:=RdG.nums h.rdc.1 hx;simp only [Nat.zero_add] at c0;refine ⟨g,_,rfl,hlt,c0,by simp [World.frozen?,hg],?_⟩;have p1:=h.put hx (j:=0) (by decide) (0:UInt64) (.int .u64 0) rfl;rw [show i*encU.size+0=i from Nat.mul_one i] at p1;exact ⟨_,p1⟩
theorem ZlG {B:Nat} {E:Nat->Prop} {w0 w:World} {s b:Nat} {fa oa ra ta xa ya za da qa:Option Addr} {fl fc on oc rn rc tn tc xn xc yn yc zn zc dn dc qn qc:Nat} {U:Nat->Prop} {st:St} {d:Dk} {bl tl cl:List UInt64} {data:Bs} {qs:List Int}
  (hI:WI B E w s b (.slice fa fl fc) (.slice oa on oc) (.slice ra rn rc) (.slice ta tn tc) (.slice xa xn xc) (.slice ya yn yc) (.slice za zn zc) U st d bl tl cl) (h0:Below B w0 w) (hB0:w0.heap.size=B) (hB:B<=w.heap.size) (hd:BAt w0 (.slice da dn dc) data) (hq:RdG encI w0 qa qs) (hql:qs.length=qn) (hqn:qn*8<=140737488355328) (hok:d.ok) (hw:d.writes<=1000000) (hsz:st.size<=1000000) (pv:Value) (nm:ByteArray) (dt kp:Int) (Q) (hQ:scom st d (anode data qs dt tl cl)=Q) (cl':List UInt64) (hcl':cl'=if Q.2.2=0 then cl++[Q.2.1] else cl) (htn:tl.length<=1000000) (hcn:cl.length<=1000000) :
  Calls Tryz.prog 11 #[.agg (wdV s b d (.slice fa fl fc) (.slice oa on oc) (.slice ra rn rc) (.slice ta tn tc) (.slice xa xn xc) (.slice ya yn yc) (.slice za zn zc)),.agg (actC 2 (.slice da dn dc) pv (.slice qa qn qc) nm dt kp)] w λ e w'=>∃ vf vo vr vt xz,e=.returned (.tuple #[.agg (wdV s b Q.1.2 vf vo vr vt (.slice xa xn xc) (.slice ya yn yc) xz),.bool true])/\Hid (∃ U',WI B E w' s b vf vo vr vt (.slice xa xn xc) (.slice ya yn yc) xz U' Q.1.1 Q.1.2 bl tl cl'/\Below B w0 w'/\(∀ i,E i->w'.heap[i]? = w.heap[i]?)/\OwnG encU 53 w' B (.slice za zn zc) cl):=by
 obtain ⟨W,hW⟩:∃ W,((w.alloc (.cells (wdV s b d (.slice fa fl fc) (.slice oa on oc) (.slice ra rn rc) (.slice ta tn tc) (.slice xa xn xc) (.slice ya yn yc) (.slice za zn zc)) 35)).alloc (.cells (actC 2 (.slice da dn dc) pv (.slice qa qn qc) nm dt kp) 43)).alloc (.cells zeroW 35)=W:=⟨_,rfl⟩
 have bW:Below w.heap.size w W:=by rw [<- hW]; exact bz3 _ _ _ _
 have hBX:Bx w.heap.size W (wdV s b d (.slice fa fl fc) (.slice oa on oc) (.slice ra rn rc) (.slice ta tn tc) (.slice xa xn xc) (.slice ya yn yc) (.slice za zn zc)) (actC 2 (.slice da dn dc) pv (.slice qa qn qc) nm dt kp):=by rw [<- hW]; exact Bx.new _ _ _
 have MD:Hid (Md B w.heap.size E (λ i=>Fb w.heap.size i∨E i) w0 w W s b (.slice fa fl fc) (.slice oa on oc) (.slice ra rn rc) (.slice ta tn tc) (.slice xa xn xc) (.slice ya yn yc) (.slice za zn zc) U st d bl tl cl (wdV s b d (.slice fa fl fc) (.slice oa on oc) (.slice ra rn rc) (.slice ta tn tc) (.slice xa xn xc) (.slice ya yn yc) (.slice za zn zc)) (actC 2 (.slice da dn dc) pv (.slice qa qn qc) nm dt kp)):=Md.start hI h0 hB hBX bW
 have bB:Below w0.heap.size w0 W:=by rw [hB0]; exact MD.out.bel
 obtain ⟨cm,hcm⟩:∃ cm,anode data qs dt tl cl=cm:=⟨_,rfl⟩
 obtain ⟨nt,hnt⟩:∃ nt:ByteArray,nt=⟨data.toArray⟩:=⟨_,rfl⟩
 obtain ⟨tr,htr⟩:∃ tr:Int,(cm.tree.toNat:Int)=tr:=⟨_,rfl⟩
 obtain ⟨N,hN⟩:∃ N,cm.ps.length=N:=⟨_,rfl⟩
 have hNq:N<=qn:=by rw [<- hN,<- hcm]; unfold anode; simp; omega
 have hdt:cm.date=dt:=by rw [<- hcm]; rfl
 have hno:nt=⟨cm.note.toArray⟩:=by rw [hnt,<- hcm]; rfl
 have hNo:=Zko (w:=W) (dc:=dc) (qc:=qc) (tc:=yc) (cc:=zc) 2 pv nm dt kp (.pointer (some ⟨b,0,none⟩)) (.pointer (some ⟨s,0,none⟩)) (.slice fa fl fc) (d.writes:Int) d.armed d.dead (d.after:Int) (d.keep:Int) (.slice oa on oc) (.slice ra rn rc) (.slice ta tn tc) (.slice xa xn xc) (hd.below bB) nt hnt (hq.below bB) hql hqn MD.out.inv.ot.rdc.1 (ZaF MD.out.inv.ot) (by have:tl.length=yn:=ZaF MD.out.inv.ot; omega) MD.out.inv.oc.rdc.1 (ZaF MD.out.inv.oc) (by have:cl.length=zn:=ZaF MD.out.inv.oc; omega) tr (by rw [hcm]; exact htr) N (by rw [hcm]; exact hN);rw [hcm] at hNo hQ;have y0:=hBX.act.cell (j:=0) rfl;have y1:=hBX.act.cell (j:=1) rfl;have y2:=hBX.act.cell (j:=2) rfl;have y3:=hBX.act.cell (j:=3) rfl;have y4:=hBX.act.cell (j:=4) rfl;have y5:=hBX.act.cell (j:=5) rfl;have y6:=hBX.act.cell (j:=6) rfl;obtain ⟨x0,x1,x2,x3,x4,x5,x6,x7,x8,x9,x10,x11,x12,x13⟩:=hBX.box.c14
 have HH:Hid (cm.ps.length=N/\d.ok/\d.writes<=1000000/\st.size<=1000000/\scom st d cm=Q/\(cl'=if Q.2.2=0 then cl++[Q.2.1] else cl)/\cl.length<=1000000/\N*8<=140737488355328/\cm.date=dt/\nt=⟨cm.note.toArray⟩/\(cm.tree.toNat:Int)=tr):=⟨hN,hok,hw,hsz,hQ,hcl',hcn,by omega,hdt,hno,htr⟩
 clear hI h0 hB0 hB hd hq hql hqn hok hw hsz hQ hcl' htn hcn hBX bW bB hcm hnt htr hN hNq hdt hno;go_enter Tryz.func11,Tryz.ntmps11
 go_upto_region 23 with fail
 clear hW;go_wp2_with fail;refine hNo.mono ?_;rintro e w1 ⟨ua,uc,rfl,H1⟩
 obtain ⟨C,hC⟩:∃ C,w1.heap.size=C:=⟨_,rfl⟩
 obtain ⟨w2,hw2⟩:∃ w2,w1.alloc (.cells #[.int .u64 tr,.slice ua N uc,.int .i64 dt,.string nt] 67)=w2:=⟨_,rfl⟩
 have b12:Below w1.heap.size w1 w2:=by rw [<- hw2]; exact bz1 _ _
 have s2:w2.heap.size=w1.heap.size+1:=by rw [<- hw2]; simp
 have bW2:=H1.out.2.trans (b12.mono H1.out.2.size)
 have M1:Hid (Md B w.heap.size E (Fc E w.heap.size C ua N uc) w0 w w2 s b (.slice fa fl fc) (.slice oa on oc) (.slice ra rn rc) (.slice ta tn tc) (.slice xa xn xc) (.slice ya yn yc) (.slice za zn zc) U st d bl tl cl (wdV s b d (.slice fa fl fc) (.slice oa on oc) (.slice ra rn rc) (.slice ta tn tc) (.slice xa xn xc) (.slice ya yn yc) (.slice za zn zc)) (actC 2 (.slice da dn dc) pv (.slice qa qn qc) nm dt kp)):=MD.out.more (G:=λ i=>i=C∨(Value.slice ua N uc).ownBlock=some i) bW2 (λ i q=>by
  have:=H1.out.2.size
  rcases q with q | q
  ·omega
  ·have:=H1.out.1.lt i q
   omega)
 have L2:Hid (OwnG encU 53 w2 (W.heap.size+4) (.slice ua N uc) cm.ps/\Box4 w2 C 67 (.int .u64 tr) (.slice ua N uc) (.int .i64 dt) (.string nt)/\C<w2.heap.size/\w.heap.size+3<=C/\∀ i,(Value.slice ua N uc).ownBlock=some i->w.heap.size+3<=i/\i≠C):=by
  have l3:=MD.out.bx.lt;have:=H1.out.2.size;refine ⟨H1.out.1.below b12,?_,by omega,by omega,λ i q=>?_⟩
  ·rw [<- hw2,<- hC];exact Box4.new _ _ _ _ _ _
  ·have:=H1.out.1.lt i q;omega
 have CO:Hid (Calls Tryz.prog 43 #[.agg #[.int .u64 tr,.slice ua N uc,.int .i64 dt,.string nt]] w2.drew λ e w'=>∃ v,e=.returned v/\Hid (∃ ea ec,v=.agg #[.int .u64 tr,.slice ea N ec,.int .i64 dt,.string nt]/\RdG encU w' ea cm.ps/\Below w2.heap.size w2 w')):=by
  refine (ZfF (L2.out.1.rdc.1.below (Below.refl _ _).drew) HH.out.1 HH.out.2.2.2.2.2.2.2.1 nt dt tr).mono ?_;rintro e w' ⟨ea,ec,rfl,h⟩;exact ⟨_,rfl,ea,ec,rfl,h.out.1,Zag h.out.2.2⟩
 have PC:Hid (∀ w3,Below w2.heap.size w2 w3->∀ ea ec,RdG encU w3 ea cm.ps->Calls Tryz.prog 42 #[(rm d (.slice fa fl fc) (.slice oa on oc) (.slice ra rn rc) (.slice ta tn tc)),.agg #[.int .u64 tr,.slice ea N ec,.int .i64 dt,.string nt]] w3 λ e w'=>∃ v,e=.returned v/\Hid (∃ m' i r,v=.tuple #[m',.int .u64 i,.int .i64 r]/\i=(Q.2.1.toNat:Int)/\r=Q.2.2/\RMS (Zb (Fc E w.heap.size C ua N uc) (Rows U (.slice xa xn xc) (.slice ya yn yc) (.slice za zn zc))) w' m' Q.1.1 Q.1.2/\Below w2.heap.size w2 w')):=by
  intro w3 b3 ea ec ho;have h:=ZgH (pc:=ec) (λ i q=>?_) (M1.out.refz.below b3) HH.out.2.2.2.1 HH.out.2.1 HH.out.2.2.1 ho HH.out.1 (by have:=HH.out.2.2.2.2.2.2.2.1; omega) nt HH.out.2.2.2.2.2.2.2.2.2.1 dt HH.out.2.2.2.2.2.2.2.2.1 Q HH.out.2.2.2.2.1
  ·rw [HH.out.2.2.2.2.2.2.2.2.2.2] at h;refine h.mono ?_;rintro e w' ⟨m',i,r,rfl,h⟩;exact ⟨_,rfl,m',i,r,rfl,h.out.1,h.out.2.1,h.out.2.2.1,b3.trans (h.out.2.2.2.mono b3.size)⟩
  ·rcases q with q | q
   ·exact Nat.lt_of_lt_of_le (M1.out.inv.lt i q).2 b3.size
   ·exact Nat.lt_of_lt_of_le (M1.out.flt i q) b3.size
 have c1:=M1.out.bx;have g2:=c1.box.cell (j:=2) rfl;have g3:=c1.box.cell (j:=3) rfl;have g4:=c1.box.cell (j:=4) rfl;have g5:=c1.box.cell (j:=5) rfl;have g6:=c1.box.cell (j:=6) rfl;have g7:=c1.box.cell (j:=7) rfl;have g8:=c1.box.cell (j:=8) rfl;have g9:=c1.box.cell (j:=9) rfl;have g10:=c1.box.cell (j:=10) rfl;obtain ⟨t0,t1,t2,t3⟩:=L2.out.2.1.cells
 have HC:Hid (w1.heap.size=C/\Below W.heap.size W w2):=⟨hC,bW2⟩
 clear y0 y1 y2 y3 y4 y5 y6 x0 x1 x2 x3 x4 x5 x6 x7 x8 x9 x10 x11 x12 x13 hNo H1 c1 b12 s2 bW2
 go_upto_region 24 with fail
 clear hw2 hC;go_cut [9,7] (λ iv rv u=>∃ v i9 r9 fa' fl' fc' oa' on' oc' ra' rn' rc' ta' tn' tc',v=u/\iv=.int .u64 i9/\rv=.int .i64 r9/\Hid (i9=(Q.2.1.toNat:Int)/\r9=Q.2.2/\Md B w.heap.size E (Fc E w.heap.size C ua N uc) w0 w v s b (.slice fa fl fc) (.slice oa on oc) (.slice ra rn rc) (.slice ta tn tc) (.slice xa xn xc) (.slice ya yn yc) (.slice za zn zc) U st d bl tl cl (wdV s b Q.1.2 (.slice fa' fl' fc') (.slice oa' on' oc') (.slice ra' rn' rc') (.slice ta' tn' tc') (.slice xa xn xc) (.slice ya yn yc) (.slice za zn zc)) (actC 2 (.slice da dn dc) pv (.slice qa qn qc) nm dt kp)/\RMS (Zb (Fc E w.heap.size C ua N uc) (Rows U (.slice xa xn xc) (.slice ya yn yc) (.slice za zn zc))) v (rm Q.1.2 (.slice fa' fl' fc') (.slice oa' on' oc') (.slice ra' rn' rc') (.slice ta' tn' tc')) Q.1.1 Q.1.2/\OwnG encU 53 v (W.heap.size+4) (.slice ua N uc) cm.ps/\Box4 v C 67 (.int .u64 tr) (.slice ua N uc) (.int .i64 dt) (.string nt)))
 case first =>
  go_region_law
   (first
    | (refine Zer rfl (.tmp 111) 43 #[67] rfl Zd2 (.agg #[.int .u64 tr,.slice ua N uc,.int .i64 dt,.string nt]) (by simp [Act.eval]) _ CO.out ?_; intro v2 w3 h2; obtain ⟨ea,ec,e2,h3,h4⟩:=h2.out; subst e2; have P2:=hid (PC.out w3 h4 ea ec h3); have B2:=hid h4; clear h2 h3 h4; have c2:=M1.out.bx.below B2.out; have h2:=c2.box.cell (j:=2) rfl; have h3:=c2.box.cell (j:=3) rfl; have h4:=c2.box.cell (j:=4) rfl; have h5:=c2.box.cell (j:=5) rfl; have h6:=c2.box.cell (j:=6) rfl; have h7:=c2.box.cell (j:=7) rfl; have h8:=c2.box.cell (j:=8) rfl; have h9:=c2.box.cell (j:=9) rfl; have h10:=c2.box.cell (j:=10) rfl; clear c2)
    | (refine Zbc rfl (.tmp 110) (.tmp 112) 42 #[32,108] rfl Zda (rm d (.slice fa fl fc) (.slice oa on oc) (.slice ra rn rc) (.slice ta tn tc)) (.agg #[.int .u64 tr,.slice ea N ec,.int .i64 dt,.string nt]) (by simp [Act.eval]) (by simp [Act.eval]) _ P2.out ?_; intro v3 w4 h3; obtain ⟨m3,i9,r9,e3,q1,q2,q3,q4⟩:=h3.out; subst e3; obtain ⟨fa',fl',fc',oa',on',oc',ra',rn',rc',ta',tn',tc',rfl,l1,l2,l3,l4⟩:=q3; have H9:=hid (And.intro q1 (And.intro q2 (And.intro (show RMS (Zb (Fc E w.heap.size C ua N uc) (Rows U (.slice xa xn xc) (.slice ya yn yc) (.slice za zn zc))) w4 (rm Q.1.2 (.slice fa' fl' fc') (.slice oa' on' oc') (.slice ra' rn' rc') (.slice ta' tn' tc')) Q.1.1 Q.1.2 from ⟨fa',fl',fc',oa',on',oc',ra',rn',rc',ta',tn',tc',rfl,l1,l2,l3,l4⟩) q4))); clear h3 q1 q2 q4 l1 l2 l3 l4; have c3:=M1.out.bx.below H9.out.2.2.2; have k2:=c3.box.cell (j:=2) rfl; have f2:=c3.box.thaw 2; have k3:=c3.box.cell (j:=3) rfl; have f3:=c3.box.thaw 3; have k4:=c3.box.cell (j:=4) rfl; have f4:=c3.box.thaw 4; have k5:=c3.box.cell (j:=5) rfl; have f5:=c3.box.thaw 5; have k6:=c3.box.cell (j:=6) rfl; have f6:=c3.box.thaw 6; have k7:=c3.box.cell (j:=7) rfl; have f7:=c3.box.thaw 7; have k8:=c3.box.cell (j:=8) rfl; have f8:=c3.box.thaw 8; have k9:=c3.box.cell (j:=9) rfl; have f9:=c3.box.thaw 9; have k10:=c3.box.cell (j:=10) rfl; have f10:=c3.box.thaw 10; clear c3)
    | fail)
  all_goals
   have hM:=(M1.out.below H9.out.2.2.2).bx.box.lays [.slice fa' fl' fc',.int .i64 (Q.1.2.writes:Int),.bool Q.1.2.armed,.bool Q.1.2.dead,.int .i64 (Q.1.2.after:Int),.int .i64 (Q.1.2.keep:Int),.slice oa' on' oc',.slice ra' rn' rc',.slice ta' tn' tc'] 2;rw [set9] at hM;have hT:=Zam (W:=w4) w.heap.size [.slice fa' fl' fc',.int .i64 (Q.1.2.writes:Int),.bool Q.1.2.armed,.bool Q.1.2.dead,.int .i64 (Q.1.2.after:Int),.int .i64 (Q.1.2.keep:Int),.slice oa' on' oc',.slice ra' rn' rc',.slice ta' tn' tc'] 2;have FIN:=hid (And.intro H9.out.1 (And.intro H9.out.2.1 (And.intro ((M1.out.below H9.out.2.2.2).lay hT hM) (And.intro (H9.out.2.2.1.turned hT (λ i q=>.inr (.inl (.inl (by have q':i=w.heap.size:=q; exact ⟨by omega,by omega⟩))))) (And.intro ((L2.out.1.below H9.out.2.2.2).stays hT (λ g q r=>by have r':g=w.heap.size:=r; have:=(L2.out.2.2.2.2 g q).1; omega)) ((L2.out.2.1.below H9.out.2.2.2 L2.out.2.2.1).turned hT (by have:=L2.out.2.2.2.1; show ¬ C=w.heap.size; omega)))))));clear hM hT;simp only [layL,Nat.reduceAdd] at FIN;go_wp2_with fail;go_meet;exact ⟨_,i9,r9,fa',fl',fc',oa',on',oc',ra',rn',rc',ta',tn',tc',rfl,rfl,rfl,FIN⟩
 case rest =>
  obtain ⟨X,i9,r9,fa',fl',fc',oa',on',oc',ra',rn',rc',ta',tn',tc',rfl,rfl,rfl,HX⟩:=hcut;have x1:=HX.out.2.2.1.bx.box.cell (j:=1) rfl;obtain ⟨z0,z1,z2,z3⟩:=HX.out.2.2.2.2.2.cells;have hTr:=ZmB (pc:=uc) HX.out.2.2.1.inv.duo HX.out.2.2.2.2.1.rdc.1 HH.out.1 (by have:=HH.out.2.2.2.2.2.2.2.1; omega) HX.out.2.2.2.2.1.rdc.2 nt HH.out.2.2.2.2.2.2.2.2.2.1 dt HH.out.2.2.2.2.2.2.2.2.1 HH.out.2.1 HH.out.2.2.1 (by have:=HH.out.2.2.2.1; unfold St.size at this; omega);rw [HH.out.2.2.2.2.1,HH.out.2.2.2.2.2.2.2.2.2.2] at hTr;clear g2 g3 g4 g5 g6 g7 g8 g9 g10 t0 t1 t2 t3;go_wp2_with fail;refine hTr.mono ?_;rintro e u3 ⟨i8,r8,rfl,H8⟩
  have eI:i8=i9:=by rw [H8.out.1,HX.out.1]
  have eR:r8=r9:=by rw [H8.out.2.1,HX.out.2.1]
  obtain ⟨U1,hU1⟩:∃ U1,Zaj U X u3=U1:=⟨_,rfl⟩
  have AF:Aft X u3 s b Q.1.1 Q.1.2 U U1:=by rw [<- hU1]; exact Aft.of (Below.refl _ _) H8.out.2.2.1 H8.out.2.2.2
  have M3:Hid (Md B w.heap.size E (Fc E w.heap.size C ua N uc) w0 w u3 s b (.slice fa' fl' fc') (.slice oa' on' oc') (.slice ra' rn' rc') (.slice ta' tn' tc') (.slice xa xn xc) (.slice ya yn yc) (.slice za zn zc) U1 Q.1.1 Q.1.2 bl tl cl (wdV s b Q.1.2 (.slice fa' fl' fc') (.slice oa' on' oc') (.slice ra' rn' rc') (.slice ta' tn' tc') (.slice xa xn xc) (.slice ya yn yc) (.slice za zn zc)) (actC 2 (.slice da dn dc) pv (.slice qa qn qc) nm dt kp)):=(HX.out.2.2.1.call AF).2.2.2.2 _ _ _ _ (Below.refl _ _) (HX.out.2.2.1.move AF HX.out.2.2.2.1)
  have HE:Hid (i8=(Q.2.1.toNat:Int)/\r8=Q.2.2):=⟨H8.out.1,H8.out.2.1⟩
  have L3:Hid (OwnG encU 53 u3 (W.heap.size+4) (.slice ua N uc) cm.ps/\Box4 u3 C 67 (.int .u64 tr) (.slice ua N uc) (.int .i64 dt) (.string nt)):=⟨HX.out.2.2.2.2.1.stays H8.out.2.2.2 (λ g q r=>HX.out.2.2.1.far g (.inl r) (.inr (.inr q))),HX.out.2.2.2.2.2.turned H8.out.2.2.2 (λ r=>HX.out.2.2.1.far C (.inl r) (.inr (.inl rfl)))⟩
  subst eI eR;clear AF hU1 H8 hTr x1 z0 z1 z2 z3;go_wp2_with fail;go_loopg [14] N (λ m iv wr=>∃ i:Nat,iv=.int .i64 i/\i+m=N/\Hid ((∃ xs',OwnG encU 53 wr (W.heap.size+4) (.slice ua N uc) xs')/\Md B w.heap.size E (Fc E w.heap.size C ua N uc) w0 w wr s b (.slice fa' fl' fc') (.slice oa' on' oc') (.slice ra' rn' rc') (.slice ta' tn' tc') (.slice xa xn xc) (.slice ya yn yc) (.slice za zn zc) U1 Q.1.1 Q.1.2 bl tl cl (wdV s b Q.1.2 (.slice fa' fl' fc') (.slice oa' on' oc') (.slice ra' rn' rc') (.slice ta' tn' tc') (.slice xa xn xc) (.slice ya yn yc) (.slice za zn zc)) (actC 2 (.slice da dn dc) pv (.slice qa qn qc) nm dt kp)/\Box4 wr C 67 (.int .u64 tr) (.slice ua N uc) (.int .i64 dt) (.string nt)))
  case atStart=>exact ⟨0,rfl,by omega,⟨_,L3.out.1⟩,M3.out,L3.out.2⟩
  case round =>
   obtain ⟨i,rfl,hi,HR⟩:=hrel;have hpn:=HH.out.2.2.2.2.2.2.2.1;obtain ⟨t0,t1,t2,t3⟩:=HR.out.2.2.cells;by_cases hin:i<N
   ·have id:(i:Int)<(N:Int):=by omega
    have id0:(0:Int)<=(i:Int):=by omega
    obtain ⟨⟨xs',ho⟩,hm,hcb⟩:=HR.out;obtain ⟨g,v0,rfl,hlt,c0,f0,HO⟩:=Zls ho hin;have HM:=hid (And.intro hm hcb);clear ho hm hcb HR;go_wp2;go_roundg (gk - 1)
    case measure=>omega
    case rel =>
     have tt:Zaa (λ j=>j=g) wr (wr.setCell ⟨g,i,none⟩ (.int .u64 0)):=Zae _ _;refine ⟨i+1,by go_num,by omega,HO.out,?_,HM.out.2.turned tt (λ q=>(L2.out.2.2.2.2 g rfl).2 (show C=g from q).symm)⟩;exact HM.out.1.other tt (λ j q=>by have q':j=g:=q; subst q'; exact ⟨.inr (.inr rfl),(L2.out.2.2.2.2 j rfl).1⟩)
   ·obtain rfl:i=N:=by omega
    have M6:=hid HR.out.2.1;clear HR HX M3 L3;by_cases hr0:r8=0
    ·subst hr0;have htn:=HH.out.2.2.2.2.2.2.1;have hBX:B<=wr.heap.size:=Nat.le_trans M6.out.hH (by have:=M6.out.bx.lt; omega);have p13:=M6.out.bx.box.cell (j:=13) rfl;have f13:=M6.out.bx.box.thaw 13;have hlt:=M6.out.bx.box.lt
     go_upto_region 54 with (at_builtin; refine Ze7 encU 53 33 8 _ rfl Tryz.info53 Tryz.underlying33 rfl (.tmp 139) (.tmp 141) rfl B (.slice za zn zc) cl Q.2.1 _ (by simp [Act.eval]) M6.out.inv.oc (by simp [Act.eval]) (by omega) (by simp only [maxLen]; omega) hBX _ (by show _=#[Value.int .u64 (Q.2.1.toNat:Int)]; rw [HE.out.1]) ?_; intro v4 w4 ho4 hk4 hm4 ht4; obtain ⟨a4,c4,e4,_,_⟩:=ho4.whole (n:=cl.length+1) (by simp); subst e4; have M4:=hid (And.intro (M6.out.rowC ho4 hm4 ht4) hk4); clear ho4 hk4 hm4 ht4; have p13:=M4.out.1.bx.box.cell (j:=13) rfl; have f13:=M4.out.1.bx.box.thaw 13)
     obtain ⟨Y,hY⟩:∃ Y,w4.setCell ⟨w.heap.size,13,none⟩ (.slice a4 (cl.length+1) c4)=Y:=⟨_,rfl⟩
     have M5:Hid (Md B w.heap.size E (Fc E w.heap.size C ua i uc) w0 w Y s b (.slice fa' fl' fc') (.slice oa' on' oc') (.slice ra' rn' rc') (.slice ta' tn' tc') (.slice xa xn xc) (.slice ya yn yc) (.slice a4 (cl.length+1) c4) U1 Q.1.1 Q.1.2 bl tl (cl++[Q.2.1]) (wdV s b Q.1.2 (.slice fa' fl' fc') (.slice oa' on' oc') (.slice ra' rn' rc') (.slice ta' tn' tc') (.slice xa xn xc) (.slice ya yn yc) (.slice a4 (cl.length+1) c4)) (actC 2 (.slice da dn dc) pv (.slice qa qn qc) nm dt kp)):=by
      have h1:=M4.out.1.bx.box.lays [.slice a4 (cl.length+1) c4] 13;rw [set13] at h1;rw [<- hY];exact M4.out.1.lay (Zae 13 _) h1
     have O5:Hid (OwnG encU 53 Y B (.slice za zn zc) cl):=by
      rw [<- hY];exact M4.out.2.stays (Zae (b:=w.heap.size) 13 _) (λ g q r=>by have r':g=w.heap.size:=r; exact M6.out.far g (.inr (.inr (.inr q))) (.inl (.inl ⟨by omega,by omega⟩)))
     rw [hY];clear hY p13 f13;obtain ⟨p0,p1,p2,p3,p4,p5,p6,p7,p8,p9,p10,p11,p12,p13⟩:=M5.out.bx.box.c14;obtain ⟨s0,s1,s2,s3,s4,s5,s6,s7,s8,s9,s10,s11,s12,s13⟩:=M5.out.bx.res.c14;obtain ⟨f0,f1,f2,f3,f4,f5,f6,f7,f8,f9,f10,f11,f12,f13⟩:=M5.out.bx.res.t14;go_wp2;refine bodyPost_ret (v:=.tuple #[.agg (wdV s b Q.1.2 (.slice fa' fl' fc') (.slice oa' on' oc') (.slice ra' rn' rc') (.slice ta' tn' tc') (.slice xa xn xc) (.slice ya yn yc) (.slice a4 (cl.length+1) c4)),.bool true]) ?_ rfl ⟨_,_,_,_,_,rfl,?_⟩
     ·simp [results,Tryz.f11];go_simp
     ·have ht:=Zam (W:=Y) (w.heap.size+2) [.pointer (some ⟨b,0,none⟩),.pointer (some ⟨s,0,none⟩),.slice fa' fl' fc',.int .i64 (Q.1.2.writes:Int),.bool Q.1.2.armed,.bool Q.1.2.dead,.int .i64 (Q.1.2.after:Int),.int .i64 (Q.1.2.keep:Int),.slice oa' on' oc',.slice ra' rn' rc',.slice ta' tn' tc',.slice xa xn xc,.slice ya yn yc,.slice a4 (cl.length+1) c4] 0;simp only [layL,Nat.reduceAdd] at ht;have hh:=M5.out.done ht;have ho:=O5.out.stays ht (λ g q r=>by have r':g=w.heap.size+2:=r; exact M6.out.far g (.inr (.inr (.inr q))) (.inl (.inl ⟨by omega,by omega⟩)));have hbl:=HH.out.2.2.2.2.2.1;rw [if_pos (HE.out.2.symm)] at hbl;rw [hbl];exact ⟨_,hh.1,hh.2.1,hh.2.2,ho⟩
    ·have hz:Hid (¬ r8=0):=hr0
     go_upto_region 54 with fail
     obtain ⟨p0,p1,p2,p3,p4,p5,p6,p7,p8,p9,p10,p11,p12,p13⟩:=M6.out.bx.box.c14;obtain ⟨s0,s1,s2,s3,s4,s5,s6,s7,s8,s9,s10,s11,s12,s13⟩:=M6.out.bx.res.c14;obtain ⟨f0,f1,f2,f3,f4,f5,f6,f7,f8,f9,f10,f11,f12,f13⟩:=M6.out.bx.res.t14;go_wp2;refine bodyPost_ret (v:=.tuple #[.agg (wdV s b Q.1.2 (.slice fa' fl' fc') (.slice oa' on' oc') (.slice ra' rn' rc') (.slice ta' tn' tc') (.slice xa xn xc) (.slice ya yn yc) (.slice za zn zc)),.bool true]) ?_ rfl ⟨_,_,_,_,_,rfl,?_⟩
     ·simp [results,Tryz.f11];go_simp
     ·have ht:=Zam (W:=wr) (w.heap.size+2) [.pointer (some ⟨b,0,none⟩),.pointer (some ⟨s,0,none⟩),.slice fa' fl' fc',.int .i64 (Q.1.2.writes:Int),.bool Q.1.2.armed,.bool Q.1.2.dead,.int .i64 (Q.1.2.after:Int),.int .i64 (Q.1.2.keep:Int),.slice oa' on' oc',.slice ra' rn' rc',.slice ta' tn' tc',.slice xa xn xc,.slice ya yn yc,.slice za zn zc] 0;simp only [layL,Nat.reduceAdd] at ht;have hh:=M6.out.done ht;have ho:=M6.out.inv.oc.stays ht (λ g q r=>by have r':g=w.heap.size+2:=r; exact M6.out.far g (.inr (.inr (.inr q))) (.inl (.inl ⟨by omega,by omega⟩)));have hbl:=HH.out.2.2.2.2.2.1;rw [if_neg (by rw [<- HE.out.2]; exact hz.out)] at hbl;rw [hbl];exact ⟨_,hh.1,hh.2.1,hh.2.2,ho⟩
end Go.Proofs.YtmhcpbbiokpjjaaGreat
