/-
  Several texts, laid together.
-/
import Derived.Test.YtmhcpbbiokpjjaaGreatM42
set_option maxHeartbeats 6400000
set_option maxRecDepth 100000
namespace Go.Proofs.YtmhcpbbiokpjjaaGreat
open Go.RowKit
theorem Zka {B:Nat} {E:Nat->Prop} {w0 w:World} {s b:Nat} {fa oa ra ta xa ya za:Option Addr} {fl fc on oc rn rc tn tc xn xc yn yc zn zc:Nat} {U:Nat->Prop} {st:St} {d:Dk} {bl tl cl:List UInt64}
  (hI:WI B E w s b (.slice fa fl fc) (.slice oa on oc) (.slice ra rn rc) (.slice ta tn tc) (.slice xa xn xc) (.slice ya yn yc) (.slice za zn zc) U st d bl tl cl) (h0:Below B w0 w) (hB:B<=w.heap.size) (hst:st.ok) (hok:d.ok) (hw:d.writes<=1000000) (hsz:st.size<=1000000) (dv pv:Value) (nm:ByteArray) (hnm:nm.size<=140737488355328) (dt kp:Int) (qv:Value) (Q) (hQ:sdrop st d nm.data.toList=Q) :
  Calls Tryz.prog 11 #[.agg (wdV s b d (.slice fa fl fc) (.slice oa on oc) (.slice ra rn rc) (.slice ta tn tc) (.slice xa xn xc) (.slice ya yn yc) (.slice za zn zc)),actV 5 dv pv qv nm dt kp] w λ e w'=>∃ vf vo vr vt,e=.returned (.tuple #[.agg (wdV s b Q.2.1 vf vo vr vt (.slice xa xn xc) (.slice ya yn yc) (.slice za zn zc)),.bool true])/\Hid (∃ U',WI B E w' s b vf vo vr vt (.slice xa xn xc) (.slice ya yn yc) (.slice za zn zc) U' Q.1 Q.2.1 bl tl cl/\Below B w0 w'/\∀ i,E i->w'.heap[i]? = w.heap[i]?):=by
 obtain ⟨W,hW⟩:∃ W,((w.alloc (.cells (wdV s b d (.slice fa fl fc) (.slice oa on oc) (.slice ra rn rc) (.slice ta tn tc) (.slice xa xn xc) (.slice ya yn yc) (.slice za zn zc)) 35)).alloc (.cells (actC 5 dv pv qv nm dt kp) 43)).alloc (.cells zeroW 35)=W:=⟨_,rfl⟩
 have bW:Below w.heap.size w W:=by rw [<- hW]; exact bz3 _ _ _ _
 have hBX:Bx w.heap.size W (wdV s b d (.slice fa fl fc) (.slice oa on oc) (.slice ra rn rc) (.slice ta tn tc) (.slice xa xn xc) (.slice ya yn yc) (.slice za zn zc)) (actC 5 dv pv qv nm dt kp):=by rw [<- hW]; exact Bx.new _ _ _
 have MD:Hid (Md B w.heap.size E (λ i=>Fb w.heap.size i∨E i) w0 w W s b (.slice fa fl fc) (.slice oa on oc) (.slice ra rn rc) (.slice ta tn tc) (.slice xa xn xc) (.slice ya yn yc) (.slice za zn zc) U st d bl tl cl (wdV s b d (.slice fa fl fc) (.slice oa on oc) (.slice ra rn rc) (.slice ta tn tc) (.slice xa xn xc) (.slice ya yn yc) (.slice za zn zc)) (actC 5 dv pv qv nm dt kp)):=Md.start hI h0 hB hBX bW
 have hnl:nm.data.toList.length<=140737488355328:=by
  have e:=bsize nm;omega
 have HH:Hid (st.ok/\d.ok/\d.writes<=1000000/\st.size<=1000000/\nm.data.toList.length<=140737488355328/\sdrop st d nm.data.toList=Q):=⟨hst,hok,hw,hsz,hnl,hQ⟩
 have y0:=hBX.act.cell (j:=0) rfl;have y4:=hBX.act.cell (j:=4) rfl;have p1:=hBX.box.cell (j:=1) rfl;clear hI h0 hB hst hok hw hsz hBX bW hnm hnl hQ;go_enter Tryz.func11,Tryz.ntmps11
 go_upto_region 41 with fail
 clear hW;have MD0:=MD;have hsr:=Zgt (U:=U) MD0.out.inv.duo HH.out.1 nm.data.toList HH.out.2.2.2.2.1 HH.out.2.1 HH.out.2.2.1 (by have:=HH.out.2.2.2.1; unfold St.size at this; omega) (by have:=HH.out.2.2.2.1; unfold St.size at this; omega);rw [HH.out.2.2.2.2.2] at hsr;rw [show tx nm.data.toList=.string nm from rfl] at hsr;go_wp2_with fail;refine hsr.mono ?_;rintro e u1 ⟨r8,rfl,H8⟩
 have HE:Hid (r8=Q.2.2/\Aft W u1 s b Q.1 Q.2.1 U (Zaj U W u1)):=⟨H8.out.1,Aft.of (Below.refl _ _) H8.out.2.1 H8.out.2.2⟩
 clear hsr H8 y0 y4 p1;obtain ⟨c1,c2,c3,c4,_⟩:=MD0.out.call (u2:=u1) HE.out.2;have hr:=Zfi c2 c1 HH.out.1 HH.out.2.2.2.1 HH.out.2.1 HH.out.2.2.1 nm.data.toList HH.out.2.2.2.2.1 Q HH.out.2.2.2.2.2;rw [show tx nm.data.toList=.string nm from rfl] at hr;have g2:=c3.box.cell (j:=2) rfl;have g3:=c3.box.cell (j:=3) rfl;have g4:=c3.box.cell (j:=4) rfl;have g5:=c3.box.cell (j:=5) rfl;have g6:=c3.box.cell (j:=6) rfl;have g7:=c3.box.cell (j:=7) rfl;have g8:=c3.box.cell (j:=8) rfl;have g9:=c3.box.cell (j:=9) rfl;have g10:=c3.box.cell (j:=10) rfl;have ga:=c3.act.cell (j:=4) rfl;have gk:=c3.act.cell (j:=0) rfl;clear c1 c2 c4;go_wp2_with fail;clear c3;refine hr.mono ?_;rintro e u2 ⟨m',r9,rfl,H9⟩;obtain ⟨q2,q3,q4⟩:=H9.out;obtain ⟨fa',fl',fc',oa',on',oc',ra',rn',rc',ta',tn',tc',rfl,l1,l2,l3,l4⟩:=q3
 have eR:r8=r9:=by rw [q2,HE.out.1]
 have M2:Hid (Md B w.heap.size E (λ i=>Fb w.heap.size i∨E i) w0 w u2 s b (.slice fa' fl' fc') (.slice oa' on' oc') (.slice ra' rn' rc') (.slice ta' tn' tc') (.slice xa xn xc) (.slice ya yn yc) (.slice za zn zc) (Zaj U W u1) Q.1 Q.2.1 bl tl cl (wdV s b d (.slice fa fl fc) (.slice oa on oc) (.slice ra rn rc) (.slice ta tn tc) (.slice xa xn xc) (.slice ya yn yc) (.slice za zn zc)) (actC 5 dv pv qv nm dt kp)):=(MD0.out.call HE.out.2).2.2.2.2 _ _ _ _ q4 ⟨fa',fl',fc',oa',on',oc',ra',rn',rc',ta',tn',tc',rfl,l1,l2,l3,l4⟩;clear q2 q4 l1 l2 l3 l4 H9 hr g2 g3 g4 g5 g6 g7 g8 g9 g10 ga gk;subst eR
 obtain ⟨X,hX⟩:∃ X,layL u2 w.heap.size [.slice fa' fl' fc',.int .i64 (Q.2.1.writes:Int),.bool Q.2.1.armed,.bool Q.2.1.dead,.int .i64 (Q.2.1.after:Int),.int .i64 (Q.2.1.keep:Int),.slice oa' on' oc',.slice ra' rn' rc',.slice ta' tn' tc'] 2=X:=⟨_,rfl⟩
 have M3:Hid (Md B w.heap.size E (λ i=>Fb w.heap.size i∨E i) w0 w X s b (.slice fa' fl' fc') (.slice oa' on' oc') (.slice ra' rn' rc') (.slice ta' tn' tc') (.slice xa xn xc) (.slice ya yn yc) (.slice za zn zc) (Zaj U W u1) Q.1 Q.2.1 bl tl cl (wdV s b Q.2.1 (.slice fa' fl' fc') (.slice oa' on' oc') (.slice ra' rn' rc') (.slice ta' tn' tc') (.slice xa xn xc) (.slice ya yn yc) (.slice za zn zc)) (actC 5 dv pv qv nm dt kp)):=by
  have h1:=M2.out.bx.box.lays [.slice fa' fl' fc',.int .i64 (Q.2.1.writes:Int),.bool Q.2.1.armed,.bool Q.2.1.dead,.int .i64 (Q.2.1.after:Int),.int .i64 (Q.2.1.keep:Int),.slice oa' on' oc',.slice ra' rn' rc',.slice ta' tn' tc'] 2;rw [hX,set9] at h1;exact M2.out.lay (by rw [<- hX]; exact Zam _ _ _) h1
 have TH:=hid (M2.out.bx.box.there (o:=2) (n:=9) (by simp [wdV]));have HXX:=hid hX;clear hX M2
 go_upto_region 54 with (refine Zah rfl 32 (.tmp 203) (.tmp 201) rfl w.heap.size 2 #[.slice fa' fl' fc',.int .i64 (Q.2.1.writes:Int),.bool Q.2.1.armed,.bool Q.2.1.dead,.int .i64 (Q.2.1.after:Int),.int .i64 (Q.2.1.keep:Int),.slice oa' on' oc',.slice ra' rn' rc',.slice ta' tn' tc'] rfl rfl TH.out (by kernel_rfl) (by simp [Value.oneCell']) ?_; intro w9 hw9; obtain rfl:X=w9:=(hw9.trans HXX.out).symm; clear hw9; have yk:=M3.out.bx.act.cell (j:=0) rfl)
 obtain ⟨p0,p1,p2,p3,p4,p5,p6,p7,p8,p9,p10,p11,p12,p13⟩:=M3.out.bx.box.c14;obtain ⟨s0,s1,s2,s3,s4,s5,s6,s7,s8,s9,s10,s11,s12,s13⟩:=M3.out.bx.res.c14;obtain ⟨f0,f1,f2,f3,f4,f5,f6,f7,f8,f9,f10,f11,f12,f13⟩:=M3.out.bx.res.t14;go_wp2;refine bodyPost_ret (v:=.tuple #[.agg (wdV s b Q.2.1 (.slice fa' fl' fc') (.slice oa' on' oc') (.slice ra' rn' rc') (.slice ta' tn' tc') (.slice xa xn xc) (.slice ya yn yc) (.slice za zn zc)),.bool true]) ?_ rfl ⟨_,_,_,_,rfl,?_⟩
 ·simp [results,Tryz.f11];go_simp
 ·have ht:=Zam (W:=X) (w.heap.size+2) [.pointer (some ⟨b,0,none⟩),.pointer (some ⟨s,0,none⟩),.slice fa' fl' fc',.int .i64 (Q.2.1.writes:Int),.bool Q.2.1.armed,.bool Q.2.1.dead,.int .i64 (Q.2.1.after:Int),.int .i64 (Q.2.1.keep:Int),.slice oa' on' oc',.slice ra' rn' rc',.slice ta' tn' tc',.slice xa xn xc,.slice ya yn yc,.slice za zn zc] 0;simp only [layL,Nat.reduceAdd] at ht;exact ⟨_,M3.out.done ht⟩
def AV.ac (a:AV) (data:Bs) (ps:List Bs) (qs:List Int):Ac:=⟨a.k,data,ps,qs,a.nm.data.toList,a.dt⟩
def Zf0 (B:Nat) (E:Nat->Prop) (w0 w:World) (s b:Nat) (v':Wd) (u:Value) (w':World):Prop :=
 ∃ fa' fl' fc' oa' on' oc' ra' rn' rc' ta' tn' tc' xa' xn' xc' ya' yn' yc' za' zn' zc' U',u=.tuple #[.agg (wdV s b v'.d (.slice fa' fl' fc') (.slice oa' on' oc') (.slice ra' rn' rc') (.slice ta' tn' tc') (.slice xa' xn' xc') (.slice ya' yn' yc') (.slice za' zn' zc')),.bool true]/\WI B E w' s b (.slice fa' fl' fc') (.slice oa' on' oc') (.slice ra' rn' rc') (.slice ta' tn' tc') (.slice xa' xn' xc') (.slice ya' yn' yc') (.slice za' zn' zc') U' v'.st v'.d v'.bl v'.tl v'.cl/\Below B w0 w'/\∀ i,E i->w'.heap[i]? = w.heap[i]?
theorem play6 {B:Nat} {E:Nat->Prop} {w0 w:World} {s b:Nat} {fa oa ra ta xa ya za:Option Addr} {fl fc on oc rn rc tn tc xn xc yn yc zn zc:Nat} {U:Nat->Prop} {v:Wd} {a:AV} {data:Bs} {ps:List Bs} {qs:List Int} {N:Nat}
  (hI:WI B E w s b (.slice fa fl fc) (.slice oa on oc) (.slice ra rn rc) (.slice ta tn tc) (.slice xa xn xc) (.slice ya yn yc) (.slice za zn zc) U v.st v.d v.bl v.tl v.cl) (h0:Below B w0 w) (hB0:w0.heap.size=B) (hB:B<=w.heap.size) (hA:ZiN w0 a data ps qs) (hnm:a.nm.size<=140737488355328) (hk:a.k<6) (hf:v.fine N) (hN:N<=1000000) :
  Calls Tryz.prog 11 #[.agg (wdV s b v.d (.slice fa fl fc) (.slice oa on oc) (.slice ra rn rc) (.slice ta tn tc) (.slice xa xn xc) (.slice ya yn yc) (.slice za zn zc)),a.val] w λ e w'=>∃ u,e=.returned u/\Hid (Zf0 B E w0 w s b (wstep (a.ac data ps qs) v) u w'):=by
 have hw:v.d.writes<=1000000:=Nat.le_trans hf.writes hN;have hsz:v.st.size<=1000000:=Nat.le_trans hf.size hN;have hbn:v.bl.length<=1000000:=Nat.le_trans hf.bl hN;have htn:v.tl.length<=1000000:=Nat.le_trans hf.tl hN;have hcn:v.cl.length<=1000000:=Nat.le_trans hf.cl hN;by_cases h3:a.k<3
 ·refine (Zk6 hI h0 hB0 hB hA h3 hf.d hw hsz hbn htn hcn).mono ?_;rintro e w' ⟨u,rfl,h⟩;obtain ⟨fa',fl',fc',oa',on',oc',ra',rn',rc',ta',tn',tc',xa',xn',xc',ya',yn',yc',za',zn',zc',U',st',d',bl',tl',cl',e1,h1,h2,h4,_,_,_,hr⟩:=h.out
  have hv:wstep (a.ac data ps qs) v=⟨st',d',bl',tl',cl'⟩:=by
   rcases hr with ⟨q,rfl,rfl,rfl,rfl,rfl⟩ | ⟨q,Q,hQ,rfl,rfl,rfl,rfl,rfl⟩ | ⟨q,Q,hQ,rfl,rfl,rfl,rfl,rfl⟩ | ⟨q,Q,hQ,rfl,rfl,rfl,rfl,rfl⟩
   ·unfold wstep AV.ac;simp only;rw [if_neg (by omega),if_neg (by omega),if_neg (by omega),if_neg (by omega),if_neg (by omega),if_neg (by omega)]
   ·unfold wstep AV.ac;simp only;rw [if_pos q,hQ]
   ·unfold wstep AV.ac;simp only;rw [if_neg (by omega),if_pos q,hQ]
   ·unfold wstep AV.ac;simp only;rw [if_neg (by omega),if_neg (by omega),if_pos q,hQ]
  rw [hv];exact ⟨_,rfl,fa',fl',fc',oa',on',oc',ra',rn',rc',ta',tn',tc',xa',xn',xc',ya',yn',yc',za',zn',zc',U',e1,h1,h2,h4⟩
 ·obtain ⟨k,da,dn,dc,pa,pn,pc,qa,qn,qc,nm,dt,kp⟩:=a;obtain ⟨a1,a2,a3,a4,a5,a6,a7,a8,a9,a10⟩:=hA;simp only at a1 a2 a3 a4 a5 a6 a7 a8 a9 a10 hk h3 hnm
  have hc:k=3∨k=4∨k=5:=by omega
  rcases hc with rfl | rfl | rfl
  ·have hv:wstep (AV.ac ⟨3,da,dn,dc,pa,pn,pc,qa,qn,qc,nm,dt,kp⟩ data ps qs) v=⟨(sref v.st v.d nm.data.toList (pickU v.cl (pickI qs 0))).1,(sref v.st v.d nm.data.toList (pickU v.cl (pickI qs 0))).2.1,v.bl,v.tl,v.cl⟩:=by
    unfold wstep AV.ac;simp
   rw [hv];refine (Zl4 hI h0 hB0 hB a8 a9 (by omega) hcn hf.st hf.d hw hsz _ _ nm hnm dt kp _ rfl _ rfl).mono ?_;rintro e w' ⟨vf,vo,vr,vt,rfl,h⟩;obtain ⟨U',h1,h2,h4⟩:=h.out;obtain ⟨fa',fl',fc',oa',on',oc',ra',rn',rc',ta',tn',tc',_,_,_,_,_,_,_,_,_,rfl,rfl,rfl,rfl,_,_,_⟩:=h1.form;exact ⟨_,rfl,_,_,_,_,_,_,_,_,_,_,_,_,_,_,_,_,_,_,_,_,_,U',rfl,h1,h2,h4⟩
  ·have hv:wstep (AV.ac ⟨4,da,dn,dc,pa,pn,pc,qa,qn,qc,nm,dt,kp⟩ data ps qs) v=⟨(stag v.st v.d nm.data.toList (pickU v.cl (pickI qs 0))).1,(stag v.st v.d nm.data.toList (pickU v.cl (pickI qs 0))).2.1,v.bl,v.tl,v.cl⟩:=by
    unfold wstep AV.ac;simp
   rw [hv];refine (ZkZ hI h0 hB0 hB a8 a9 (by omega) hcn hf.st hf.d hw hsz _ _ nm hnm dt kp _ rfl _ rfl).mono ?_;rintro e w' ⟨vf,vo,vr,vt,rfl,h⟩;obtain ⟨U',h1,h2,h4⟩:=h.out;obtain ⟨fa',fl',fc',oa',on',oc',ra',rn',rc',ta',tn',tc',_,_,_,_,_,_,_,_,_,rfl,rfl,rfl,rfl,_,_,_⟩:=h1.form;exact ⟨_,rfl,_,_,_,_,_,_,_,_,_,_,_,_,_,_,_,_,_,_,_,_,_,U',rfl,h1,h2,h4⟩
  ·have hv:wstep (AV.ac ⟨5,da,dn,dc,pa,pn,pc,qa,qn,qc,nm,dt,kp⟩ data ps qs) v=⟨(sdrop v.st v.d nm.data.toList).1,(sdrop v.st v.d nm.data.toList).2.1,v.bl,v.tl,v.cl⟩:=by
    unfold wstep AV.ac;simp
   rw [hv];refine (Zka hI h0 hB hf.st hf.d hw hsz _ _ nm hnm dt kp _ _ rfl).mono ?_;rintro e w' ⟨vf,vo,vr,vt,rfl,h⟩;obtain ⟨U',h1,h2,h4⟩:=h.out;obtain ⟨fa',fl',fc',oa',on',oc',ra',rn',rc',ta',tn',tc',_,_,_,_,_,_,_,_,_,rfl,rfl,rfl,rfl,_,_,_⟩:=h1.form;exact ⟨_,rfl,_,_,_,_,_,_,_,_,_,_,_,_,_,_,_,_,_,_,_,_,_,U',rfl,h1,h2,h4⟩
theorem set14 (a0 a1 a2 a3 a4 a5 a6 a7 a8 a9 a10 a11 a12 a13 n0 n1 n2 n3 n4 n5 n6 n7 n8 n9 n10 n11 n12 n13:Value):setL #[a0,a1,a2,a3,a4,a5,a6,a7,a8,a9,a10,a11,a12,a13] [n0,n1,n2,n3,n4,n5,n6,n7,n8,n9,n10,n11,n12,n13] 0=#[n0,n1,n2,n3,n4,n5,n6,n7,n8,n9,n10,n11,n12,n13]:=by simp [setL]
def WB (B R:Nat) (w0 u:World) (v:Wd):Prop:=∃ s b fa fl fc oa on oc ra rn rc ta tn tc xa xn xc ya yn yc za zn zc U,
 WI B (λ j=>j=R) u s b (.slice fa fl fc) (.slice oa on oc) (.slice ra rn rc) (.slice ta tn tc) (.slice xa xn xc) (.slice ya yn yc) (.slice za zn zc) U v.st v.d v.bl v.tl v.cl/\BoxA u R 35 (wdV s b v.d (.slice fa fl fc) (.slice oa on oc) (.slice ra rn rc) (.slice ta tn tc) (.slice xa xn xc) (.slice ya yn yc) (.slice za zn zc))/\Below B w0 u/\B<=R
theorem WB.start {w w1 w2:World} {s b:Nat} (h1:Below w.heap.size w w1) (hd:Duo w2 s b st0 dk0 (λ i=>w1.heap.size<=i/\i<w2.heap.size)) (h2:Below w1.heap.size w1 w2) :
  WI w.heap.size (λ j=>j=w2.heap.size) (w2.alloc (.cells (wdV s b dk0 nilV nilV nilV nilV nilV nilV nilV) 35)) s b nilV nilV nilV nilV nilV nilV nilV (λ i=>w1.heap.size<=i/\i<w2.heap.size) st0 dk0 [] [] []/\BoxA (w2.alloc (.cells (wdV s b dk0 nilV nilV nilV nilV nilV nilV nilV) 35)) w2.heap.size 35 (wdV s b dk0 nilV nilV nilV nilV nilV nilV nilV)/\Below w.heap.size w (w2.alloc (.cells (wdV s b dk0 nilV nilV nilV nilV nilV nilV nilV) 35))/\w.heap.size<=w2.heap.size:=by
 have b2:Below w.heap.size w w2:=h1.trans (h2.mono h1.size);have b3:=bz1 w2 (.cells (wdV s b dk0 nilV nilV nilV nilV nilV nilV nilV) 35);refine ⟨⟨hd.below b3,λ i q=>?_,rms0 _ _,λ i q r=>?_,λ i q=>?_,OwnG.nil _ _ _ _,OwnG.nil _ _ _ _,OwnG.nil _ _ _ _,λ g q=>(by cases q),λ g q=>(by cases q),λ g q=>(by cases q),λ g q=>(by cases q),λ g q=>(by cases q),λ g q=>(by cases q)⟩,BoxA.new _ _ _,b2.trans (b3.mono b2.size),b2.size⟩
 ·have:=q.1;have:=h1.size;omega
 ·have r':i=w2.heap.size:=r
  rcases q with q | q | q | q
  ·have:=q.2;omega
  ·cases q
  ·cases q
  ·cases q
 ·have q':i=w2.heap.size:=q;rw [q'];simp
theorem WB.stored {B R:Nat} {w0 w3:World} {s b:Nat} {v:Wd} {fa oa ra ta xa ya za:Option Addr} {fl fc on oc rn rc tn tc xn xc yn yc zn zc:Nat} {U:Nat->Prop} {cs:Array Value} (h1:WI B (λ j=>j=R) w3 s b (.slice fa fl fc) (.slice oa on oc) (.slice ra rn rc) (.slice ta tn tc) (.slice xa xn xc) (.slice ya yn yc) (.slice za zn zc) U v.st v.d v.bl v.tl v.cl) (h2:Below B w0 w3) (hb:BoxA w3 R 35 cs) (hs:∃ a0 a1 a2 a3 a4 a5 a6 a7 a8 a9 a10 a11 a12 a13,cs=#[a0,a1,a2,a3,a4,a5,a6,a7,a8,a9,a10,a11,a12,a13]) (hR:B<=R) :
  WB B R w0 (layL w3 R [.pointer (some ⟨b,0,none⟩),.pointer (some ⟨s,0,none⟩),.slice fa fl fc,.int .i64 (v.d.writes:Int),.bool v.d.armed,.bool v.d.dead,.int .i64 (v.d.after:Int),.int .i64 (v.d.keep:Int),.slice oa on oc,.slice ra rn rc,.slice ta tn tc,.slice xa xn xc,.slice ya yn yc,.slice za zn zc] 0) v:=by
 obtain ⟨a0,a1,a2,a3,a4,a5,a6,a7,a8,a9,a10,a11,a12,a13,rfl⟩:=hs;have hT:=Zam (W:=w3) R [.pointer (some ⟨b,0,none⟩),.pointer (some ⟨s,0,none⟩),.slice fa fl fc,.int .i64 (v.d.writes:Int),.bool v.d.armed,.bool v.d.dead,.int .i64 (v.d.after:Int),.int .i64 (v.d.keep:Int),.slice oa on oc,.slice ra rn rc,.slice ta tn tc,.slice xa xn xc,.slice ya yn yc,.slice za zn zc] 0;have hM:=hb.lays [.pointer (some ⟨b,0,none⟩),.pointer (some ⟨s,0,none⟩),.slice fa fl fc,.int .i64 (v.d.writes:Int),.bool v.d.armed,.bool v.d.dead,.int .i64 (v.d.after:Int),.int .i64 (v.d.keep:Int),.slice oa on oc,.slice ra rn rc,.slice ta tn tc,.slice xa xn xc,.slice ya yn yc,.slice za zn zc] 0;rw [set14] at hM;exact ⟨s,b,fa,fl,fc,oa,on,oc,ra,rn,rc,ta,tn,tc,xa,xn,xc,ya,yn,yc,za,zn,zc,U,h1.turn hT (λ i q=>q),hM,h2.trans (hT.below (Nat.le_trans hR (Nat.le_of_lt hb.lt)) (λ i hi q=>by have q':i=R:=q; omega)),hR⟩
end Go.Proofs.YtmhcpbbiokpjjaaGreat
