/-
  Several texts, laid together.
-/
import Derived.Test.YtmhcpbbiokpjjaaGreatM46
set_option maxHeartbeats 6400000
set_option maxRecDepth 100000
namespace Go.Proofs.YtmhcpbbiokpjjaaGreat
open Go.RowKit
theorem Zek {d:Dk} (h:Calm d) (n b:Bs):Calm (dapp d n b).1:=by
 unfold dapp
 repeat' split
 all_goals first | exact h | exact (Zkt h _ _ _).1
theorem Duo.appends {u:World} {s b:Nat} {st:St} {d:Dk} {U:Nat->Prop} (h:Duo u s b st d U) (hok:d.ok) (hw:d.writes<=1000000) {v:Value} {raw:Bs} (hp:Zau u v [raw]) (hl:raw.length<=140737488355328) :
  Calls Tryz.prog 56 #[.pointer (some ⟨b,0,none⟩),tx fileN,v] u λ e u'=>∃ r,e=.returned (.int .i64 r)/\Hid (r=(dapp d fileN raw).2/\Duo u' s b st (dapp d fileN raw).1 (Zaj U u u')/\Zaa U u u'):=by
 obtain ⟨S,T,hS,hT,hap,hU,hUl⟩:=h;refine (Zfs hT hok (by omega) fileN (by decide) hp (by simp) (λ x hx=>by rw [List.mem_singleton] at hx; rw [hx]; omega)).mono ?_;rintro e u' ⟨r,rfl,hr,k1,k2⟩
 have ef:[raw].flatten=raw:=by simp
 rw [ef] at hr k1;refine ⟨r,rfl,hr.out,⟨S,Zaj T u u',hS.stays k2 hap,k1,λ i q r=>?_,λ i q=>?_,λ i q=>?_⟩,k2.mono (λ i _ q=>hU i (.inr q))⟩
 ·rcases r with r | r
  ·exact hap i q r
  ·have:=hUl i (hU i (.inl q));have:=r.1;omega
 ·rcases q with q | q
  ·exact .inl (hU i (.inl q))
  ·exact q.imp (λ q=>hU i (.inr q)) id
 ·rcases q with q | q
  ·exact Nat.lt_of_lt_of_le (hUl i q) k2.size
  ·exact q.2
theorem Zk2 {B:Nat} {E:Nat->Prop} {w0 w:World} {s b:Nat} {fa oa ra ta xa ya za:Option Addr} {fl fc on oc rn rc tn tc xn xc yn yc zn zc:Nat} {U:Nat->Prop} {st:St} {d:Dk} {bl tl cl:List UInt64}
  (hI:WI B E w s b (.slice fa fl fc) (.slice oa on oc) (.slice ra rn rc) (.slice ta tn tc) (.slice xa xn xc) (.slice ya yn yc) (.slice za zn zc) U st d bl tl cl) (h0:Below B w0 w) (hB:B<=w.heap.size) (hok:d.ok) (hw:d.writes<=999999) {da:Option Addr} {dn dc:Nat} {data:Bs} (hB0:w0.heap.size=B) (hda:BAt w0 (.slice da dn dc) data) (hdl:data.length<=140737488355328) (pv:Value) (nm:ByteArray) (dt kp:Int) (qv:Value) :
  Calls Tryz.prog 11 #[.agg (wdV s b d (.slice fa fl fc) (.slice oa on oc) (.slice ra rn rc) (.slice ta tn tc) (.slice xa xn xc) (.slice ya yn yc) (.slice za zn zc)),actV 8 (.slice da dn dc) pv qv nm dt kp] w λ e w'=>∃ x,e=.returned x/\Hid (∃ s',Zf0 B E w0 w s' b ⟨(sopen (dapp (dres d) fileN data).1).1,(sopen (dapp (dres d) fileN data).1).2.1,bl,tl,cl⟩ x w'):=by
 obtain ⟨W,hW⟩:∃ W,((w.alloc (.cells (wdV s b d (.slice fa fl fc) (.slice oa on oc) (.slice ra rn rc) (.slice ta tn tc) (.slice xa xn xc) (.slice ya yn yc) (.slice za zn zc)) 35)).alloc (.cells (actC 8 (.slice da dn dc) pv qv nm dt kp) 43)).alloc (.cells zeroW 35)=W:=⟨_,rfl⟩
 have bW:Below w.heap.size w W:=by rw [<- hW]; exact bz3 _ _ _ _
 have hBX:Bx w.heap.size W (wdV s b d (.slice fa fl fc) (.slice oa on oc) (.slice ra rn rc) (.slice ta tn tc) (.slice xa xn xc) (.slice ya yn yc) (.slice za zn zc)) (actC 8 (.slice da dn dc) pv qv nm dt kp):=by rw [<- hW]; exact Bx.new _ _ _
 have MD:Hid (Md B w.heap.size E (λ i=>Fb w.heap.size i∨E i) w0 w W s b (.slice fa fl fc) (.slice oa on oc) (.slice ra rn rc) (.slice ta tn tc) (.slice xa xn xc) (.slice ya yn yc) (.slice za zn zc) U st d bl tl cl (wdV s b d (.slice fa fl fc) (.slice oa on oc) (.slice ra rn rc) (.slice ta tn tc) (.slice xa xn xc) (.slice ya yn yc) (.slice za zn zc)) (actC 8 (.slice da dn dc) pv qv nm dt kp)):=Md.start hI h0 hB hBX bW
 have HH:Hid (d.ok/\d.writes<=999999/\w0.heap.size=B/\BAt w0 (.slice da dn dc) data/\data.length<=140737488355328):=⟨hok,hw,hB0,hda,hdl⟩
 have y0:=hBX.act.cell (j:=0) rfl;have p0:=hBX.box.cell (j:=0) rfl;clear hI h0 hB hBX bW hok hw hda hdl hB0
 obtain ⟨d5,hd5⟩:∃ d5,(sopen (dapp (dres d) fileN data).1).2.1=d5:=⟨_,rfl⟩
 rw [hd5];have HD5:Hid ((sopen (dapp (dres d) fileN data).1).2.1=d5):=hd5;clear hd5;go_enter Tryz.func11,Tryz.ntmps11
 go_upto_region 48 with fail
 clear hW;go_wp2_with fail;refine (MD.out.inv.duo.restarts).mono ?_;rintro e u1 ⟨rfl,H8⟩
 have HE:Hid (Aft W u1 s b st (dres d) U (Zaj U W u1)):=by
  obtain ⟨q2,q3,q4⟩:=H8.out;exact Aft.of (Below.refl _ _) (q2.mono (λ _ q=>.inl q) (λ i q=>q.elim (λ q=>q2.lt i q) (λ q=>q.2))) (q3.mono (λ i _ q=>by have q':i=b:=q; rw [q']; exact q4))
 clear H8 y0 p0;obtain ⟨c1,c2,c3,c4,_⟩:=MD.out.call (u2:=u1) HE.out;have hr:=Zc1 (ao:=fa) (L:=fl) (c:=fc) (d:=d) (w:=u1);have g2:=c3.box.cell (j:=2) rfl;have g3:=c3.box.cell (j:=3) rfl;have g4:=c3.box.cell (j:=4) rfl;have g5:=c3.box.cell (j:=5) rfl;have g6:=c3.box.cell (j:=6) rfl;have g7:=c3.box.cell (j:=7) rfl;have C1:=hid c1;clear c1 c2 c3 c4;go_wp2_with fail;refine hr.mono ?_;rintro e u2 ⟨rfl,q4⟩
 have M2:Hid (Md B w.heap.size E (λ i=>Fb w.heap.size i∨E i) w0 w u2 s b (.slice fa fl fc) (.slice oa on oc) (.slice ra rn rc) (.slice ta tn tc) (.slice xa xn xc) (.slice ya yn yc) (.slice za zn zc) (Zaj U W u1) st (dres d) bl tl cl (wdV s b d (.slice fa fl fc) (.slice oa on oc) (.slice ra rn rc) (.slice ta tn tc) (.slice xa xn xc) (.slice ya yn yc) (.slice za zn zc)) (actC 8 (.slice da dn dc) pv qv nm dt kp)):=by
  refine (MD.out.call HE.out).2.2.2.2 _ _ _ _ q4 ?_;obtain ⟨_,_,_,_,_,_,_,_,_,_,_,_,em,l1,l2,l3,l4⟩:=C1.out.below q4;cases em;exact ⟨_,_,_,_,_,_,_,_,_,_,_,_,rfl,l1,l2,l3,l4⟩
 clear q4 hr g2 g3 g4 g5 g6 g7 C1
 obtain ⟨X,hX⟩:∃ X,layL u2 w.heap.size [.slice fa fl fc,.int .i64 ((dres d).writes:Int),.bool (dres d).armed,.bool (dres d).dead,.int .i64 ((dres d).after:Int),.int .i64 ((dres d).keep:Int)] 2=X:=⟨_,rfl⟩
 have M3:Hid (Md B w.heap.size E (λ i=>Fb w.heap.size i∨E i) w0 w X s b (.slice fa fl fc) (.slice oa on oc) (.slice ra rn rc) (.slice ta tn tc) (.slice xa xn xc) (.slice ya yn yc) (.slice za zn zc) (Zaj U W u1) st (dres d) bl tl cl (wdV s b (dres d) (.slice fa fl fc) (.slice oa on oc) (.slice ra rn rc) (.slice ta tn tc) (.slice xa xn xc) (.slice ya yn yc) (.slice za zn zc)) (actC 8 (.slice da dn dc) pv qv nm dt kp)):=by
  have h1:=M2.out.bx.box.lays [.slice fa fl fc,.int .i64 ((dres d).writes:Int),.bool (dres d).armed,.bool (dres d).dead,.int .i64 ((dres d).after:Int),.int .i64 ((dres d).keep:Int)] 2;rw [hX,set6] at h1;exact M2.out.lay (by rw [<- hX]; exact Zam _ _ _) h1
 have TH:=hid (M2.out.bx.box.there (o:=2) (n:=6) (by simp [wdV]));have HXX:=hid hX;clear hX M2
 go_upto_region 50 with (refine Zah rfl 28 (.tmp 239) (.tmp 237) rfl w.heap.size 2 #[.slice fa fl fc,.int .i64 ((dres d).writes:Int),.bool (dres d).armed,.bool (dres d).dead,.int .i64 ((dres d).after:Int),.int .i64 ((dres d).keep:Int)] rfl rfl TH.out (by kernel_rfl) (by simp [Value.oneCell']) ?_; intro w9 hw9; obtain rfl:X=w9:=(hw9.trans HXX.out).symm; clear hw9)
 have yk:=M3.out.bx.act.cell (j:=0) rfl;have y1:=M3.out.bx.act.cell (j:=1) rfl;have p0:=M3.out.bx.box.cell (j:=0) rfl;have DB:=hid (λ (u:World) (hu:Below B w0 u)=>HH.out.2.2.2.1.below (w':=u) (by rw [HH.out.2.2.1]; exact hu))
 obtain ⟨d2,hd2⟩:∃ d2,(dapp (dres d) fileN data).1=d2:=⟨_,rfl⟩
 have G2:Hid ((dapp (dres d) fileN data).1=d2/\Calm d2/\d2.ok/\d2.writes<=1000000):=by
  rw [<- hd2];exact ⟨rfl,Zek ⟨rfl,rfl⟩ _ _,Zeq (Zed HH.out.1) _ _,by have:=Zmt (dres d) fileN data; have:=HH.out.2.1; have e:(dres d).writes=d.writes:=rfl; omega⟩
 have hap:=(M3.out.inv.duo.below (bz1 X (.cells #[.slice da dn dc] 39))).appends (Zed HH.out.1) (by have:=HH.out.2.1; have e:(dres d).writes=d.writes:=rfl; omega) (ZaB (DB.out X M3.out.bel) 39) HH.out.2.2.2.2;rw [hd2] at hap;clear hd2;go_wp2_with fail;refine hap.mono ?_;rintro e u3 ⟨r3,rfl,H3⟩;have HE3:Hid (Aft X u3 s b st d2 (Zaj U W u1) (Zaj (Zaj U W u1) (X.alloc (.cells #[.slice da dn dc] 39)) u3)):=Aft.of (bz1 _ _) H3.out.2.1 H3.out.2.2;clear hap H3 yk y1 p0;obtain ⟨c1,c2,c3,c4,_⟩:=M3.out.call (u2:=u3) HE3.out;have cv:=ZaY (DB.out u3 c4)
 obtain ⟨sd,hsd⟩:∃ sd:ByteArray,tx data=.string sd:=⟨_,rfl⟩
 obtain ⟨_,_,_,_,_,_,_,_,_,_,_,_,em,l1,l2,l3,l4⟩:=hid c1 |>.out
 cases em;have hr:=Zg3 c2 (RMS.rvs l1) (Zed HH.out.1) (by have:=HH.out.2.1; have e:(dres d).writes=d.writes:=rfl; omega) fileN data (by decide) HH.out.2.2.2.2;rw [G2.out.1] at hr;rw [hsd] at hr cv;have g2:=c3.box.cell (j:=2) rfl;have g3:=c3.box.cell (j:=3) rfl;have g4:=c3.box.cell (j:=4) rfl;have g5:=c3.box.cell (j:=5) rfl;have g6:=c3.box.cell (j:=6) rfl;have g7:=c3.box.cell (j:=7) rfl;have gd:=c3.act.cell (j:=1) rfl;have C1:=hid c1;clear c1 c2 c3 c4 l1 l2 l3 l4 hsd;go_wp2_with fail;refine hr.mono ?_;rintro e u4 ⟨v4,rfl,V4,q4⟩;obtain ⟨fb1,fl1,fc1,rfl,v1,v2,v3,v4⟩:=V4
 have M4:Hid (Md B w.heap.size E (λ i=>Fb w.heap.size i∨E i) w0 w u4 s b (.slice fb1 fl1 fc1) (.slice oa on oc) (.slice ra rn rc) (.slice ta tn tc) (.slice xa xn xc) (.slice ya yn yc) (.slice za zn zc) (Zaj (Zaj U W u1) (X.alloc (.cells #[.slice da dn dc] 39)) u3) st d2 bl tl cl (wdV s b (dres d) (.slice fa fl fc) (.slice oa on oc) (.slice ra rn rc) (.slice ta tn tc) (.slice xa xn xc) (.slice ya yn yc) (.slice za zn zc)) (actC 8 (.slice da dn dc) pv qv nm dt kp)):=by
  refine (M3.out.call HE3.out).2.2.2.2 _ _ _ _ q4 ?_;obtain ⟨_,_,_,_,_,_,_,_,_,_,_,_,em,l1,l2,l3,l4⟩:=C1.out.below q4;cases em;exact ⟨_,_,_,_,_,_,_,_,_,_,_,_,rfl,⟨v1,v2,v3,v4⟩,l2,l3,l4⟩
 clear q4 hr g2 g3 g4 g5 g6 g7 gd C1 v1 v2 v3 v4 cv;clear M3 TH HXX
 obtain ⟨Y,hY⟩:∃ Y,layL u4 w.heap.size [.slice fb1 fl1 fc1,.int .i64 (d2.writes:Int),.bool d2.armed,.bool d2.dead,.int .i64 (d2.after:Int),.int .i64 (d2.keep:Int)] 2=Y:=⟨_,rfl⟩
 have M3:Hid (Md B w.heap.size E (λ i=>Fb w.heap.size i∨E i) w0 w Y s b (.slice fb1 fl1 fc1) (.slice oa on oc) (.slice ra rn rc) (.slice ta tn tc) (.slice xa xn xc) (.slice ya yn yc) (.slice za zn zc) (Zaj (Zaj U W u1) (X.alloc (.cells #[.slice da dn dc] 39)) u3) st d2 bl tl cl (wdV s b d2 (.slice fb1 fl1 fc1) (.slice oa on oc) (.slice ra rn rc) (.slice ta tn tc) (.slice xa xn xc) (.slice ya yn yc) (.slice za zn zc)) (actC 8 (.slice da dn dc) pv qv nm dt kp)):=by
  have h1:=M4.out.bx.box.lays [.slice fb1 fl1 fc1,.int .i64 (d2.writes:Int),.bool d2.armed,.bool d2.dead,.int .i64 (d2.after:Int),.int .i64 (d2.keep:Int)] 2;rw [hY,set6] at h1;exact M4.out.lay (by rw [<- hY]; exact Zam _ _ _) h1
 have TH:=hid (M4.out.bx.box.there (o:=2) (n:=6) (by simp [wdV]));have HYY:=hid hY;clear hY M4
 go_upto_region 53 with (refine Zah rfl 28 (.tmp 260) (.tmp 257) rfl w.heap.size 2 #[.slice fb1 fl1 fc1,.int .i64 (d2.writes:Int),.bool d2.armed,.bool d2.dead,.int .i64 (d2.after:Int),.int .i64 (d2.keep:Int)] rfl rfl TH.out (by kernel_rfl) (by simp [Value.oneCell']) ?_; intro w9 hw9; obtain rfl:Y=w9:=(hw9.trans HYY.out).symm; clear hw9)
 have yk:=M3.out.bx.act.cell (j:=0) rfl;obtain ⟨p0,p1,p2,p3,p4,p5,p6,p7,p8,p9,p10,p11,p12,p13⟩:=M3.out.bx.box.c14;have hag:=ZeA (v:=⟨st,d2,bl,tl,cl⟩) M3.out.wide M3.out.bel (by have:=M3.out.hH; have:=M3.out.flt _ (M3.out.box w.heap.size ⟨Nat.le_refl _,by omega⟩); omega) G2.out.2.1 G2.out.2.2.1 G2.out.2.2.2;rw [show sopen d2=sopen (dapp (dres d) fileN data).1 by rw [G2.out.1]] at hag;rw [HD5.out] at hag;go_wp2_with fail;refine hag.mono ?_;rintro e u5 ⟨x,rfl,H5⟩;obtain ⟨s',fa',fl',fc',oa',on',oc',ra',rn',rc',ta',tn',tc',xa',xn',xc',ya',yn',yc',za',zn',zc',U',rfl,hwi,hbe,hke⟩:=H5.out
 have M5:Hid (WI B (λ i=>Fb w.heap.size i∨E i) u5 s' b (.slice fa' fl' fc') (.slice oa' on' oc') (.slice ra' rn' rc') (.slice ta' tn' tc') (.slice xa' xn' xc') (.slice ya' yn' yc') (.slice za' zn' zc') U' (sopen (dapp (dres d) fileN data).1).1 d5 bl tl cl/\Below B w0 u5/\(∀ i,E i->u5.heap[i]? = w.heap[i]?)/\BoxA u5 (w.heap.size+2) 35 zeroW):=⟨hwi,hbe,λ i q=>(hke i (.inr q)).trans (M3.out.keep i q),(hke _ (.inl ⟨by omega,by omega⟩)).trans M3.out.bx.res⟩
 clear H5 hwi hbe hke hag yk p0 p1 p2 p3 p4 p5 p6 p7 p8 p9 p10 p11 p12 p13;obtain ⟨z0,z1,z2,z3,z4,z5,z6,z7,z8,z9,z10,z11,z12,z13⟩:=M5.out.2.2.2.c14;obtain ⟨f0,f1,f2,f3,f4,f5,f6,f7,f8,f9,f10,f11,f12,f13⟩:=M5.out.2.2.2.t14;go_wp2;refine bodyPost_ret (v:=.tuple #[.agg (wdV s' b d5 (.slice fa' fl' fc') (.slice oa' on' oc') (.slice ra' rn' rc') (.slice ta' tn' tc') (.slice xa' xn' xc') (.slice ya' yn' yc') (.slice za' zn' zc')),.bool true]) ?_ rfl ⟨_,rfl,?_⟩
 ·simp [results,Tryz.f11];go_simp
 ·have ht:=Zam (W:=u5) (w.heap.size+2) [.pointer (some ⟨b,0,none⟩),.pointer (some ⟨s',0,none⟩),.slice fa' fl' fc',.int .i64 (d5.writes:Int),.bool d5.armed,.bool d5.dead,.int .i64 (d5.after:Int),.int .i64 (d5.keep:Int),.slice oa' on' oc',.slice ra' rn' rc',.slice ta' tn' tc',.slice xa' xn' xc',.slice ya' yn' yc',.slice za' zn' zc'] 0;simp only [layL,Nat.reduceAdd] at ht;have hH:=M3.out.hH;have hl:=M5.out.2.2.2.lt;refine ⟨s',fa',fl',fc',oa',on',oc',ra',rn',rc',ta',tn',tc',xa',xn',xc',ya',yn',yc',za',zn',zc',U',rfl,(M5.out.1.turn ht (λ i q=>.inl ⟨by have q':i=w.heap.size+2:=q; omega,by have q':i=w.heap.size+2:=q; omega⟩)).less (λ i q=>.inr q),M5.out.2.1.trans (ht.below (by omega) (λ k hk q=>by have q':k=w.heap.size+2:=q; omega)),λ i q=>?_⟩;have hi:=(M3.out.esub i q).2;exact (ht.block i (by omega) (λ r=>by have r':i=w.heap.size+2:=r; omega)).trans (M5.out.2.2.1 i q)
theorem Zki {B:Nat} {E:Nat->Prop} {w0 w:World} {s b:Nat} {fa oa ra ta xa ya za:Option Addr} {fl fc on oc rn rc tn tc xn xc yn yc zn zc:Nat} {U:Nat->Prop} {st:St} {d:Dk} {bl tl cl:List UInt64}
  (hI:WI B E w s b (.slice fa fl fc) (.slice oa on oc) (.slice ra rn rc) (.slice ta tn tc) (.slice xa xn xc) (.slice ya yn yc) (.slice za zn zc) U st d bl tl cl) (h0:Below B w0 w) (hB:B<=w.heap.size) (k:Int) (hk:8<k) (dv pv qv:Value) (nm:ByteArray) (dt kp:Int) :
  Calls Tryz.prog 11 #[.agg (wdV s b d (.slice fa fl fc) (.slice oa on oc) (.slice ra rn rc) (.slice ta tn tc) (.slice xa xn xc) (.slice ya yn yc) (.slice za zn zc)),.agg (actC k dv pv qv nm dt kp)] w λ e w'=>e=.returned (.tuple #[.agg (wdV s b d (.slice fa fl fc) (.slice oa on oc) (.slice ra rn rc) (.slice ta tn tc) (.slice xa xn xc) (.slice ya yn yc) (.slice za zn zc)),.bool true])/\Hid (WI B E w' s b (.slice fa fl fc) (.slice oa on oc) (.slice ra rn rc) (.slice ta tn tc) (.slice xa xn xc) (.slice ya yn yc) (.slice za zn zc) U st d bl tl cl/\Below B w0 w'/\∀ i,E i->w'.heap[i]? = w.heap[i]?):=by
 obtain ⟨W,hW⟩:∃ W,((w.alloc (.cells (wdV s b d (.slice fa fl fc) (.slice oa on oc) (.slice ra rn rc) (.slice ta tn tc) (.slice xa xn xc) (.slice ya yn yc) (.slice za zn zc)) 35)).alloc (.cells (actC k dv pv qv nm dt kp) 43)).alloc (.cells zeroW 35)=W:=⟨_,rfl⟩
 have bW:Below w.heap.size w W:=by rw [<- hW]; exact bz3 _ _ _ _
 have hBX:Bx w.heap.size W (wdV s b d (.slice fa fl fc) (.slice oa on oc) (.slice ra rn rc) (.slice ta tn tc) (.slice xa xn xc) (.slice ya yn yc) (.slice za zn zc)) (actC k dv pv qv nm dt kp):=by rw [<- hW]; exact Bx.new _ _ _
 have MD:Hid (Md B w.heap.size E (λ i=>Fb w.heap.size i∨E i) w0 w W s b (.slice fa fl fc) (.slice oa on oc) (.slice ra rn rc) (.slice ta tn tc) (.slice xa xn xc) (.slice ya yn yc) (.slice za zn zc) U st d bl tl cl (wdV s b d (.slice fa fl fc) (.slice oa on oc) (.slice ra rn rc) (.slice ta tn tc) (.slice xa xn xc) (.slice ya yn yc) (.slice za zn zc)) (actC k dv pv qv nm dt kp)):=Md.start hI h0 hB hBX bW;have y0:=MD.out.bx.act.cell (j:=0) rfl;obtain ⟨p0,p1,p2,p3,p4,p5,p6,p7,p8,p9,p10,p11,p12,p13⟩:=MD.out.bx.box.c14;obtain ⟨s0,s1,s2,s3,s4,s5,s6,s7,s8,s9,s10,s11,s12,s13⟩:=MD.out.bx.res.c14;obtain ⟨f0,f1,f2,f3,f4,f5,f6,f7,f8,f9,f10,f11,f12,f13⟩:=MD.out.bx.res.t14
 have n0:(k==0)=false:=by rw [beq_eq_false_iff_ne]; omega
 have m0:¬ k=0:=by omega
 have n1:(k==1)=false:=by rw [beq_eq_false_iff_ne]; omega
 have m1:¬ k=1:=by omega
 have n2:(k==2)=false:=by rw [beq_eq_false_iff_ne]; omega
 have m2:¬ k=2:=by omega
 have n3:(k==3)=false:=by rw [beq_eq_false_iff_ne]; omega
 have m3:¬ k=3:=by omega
 have n4:(k==4)=false:=by rw [beq_eq_false_iff_ne]; omega
 have m4:¬ k=4:=by omega
 have n5:(k==5)=false:=by rw [beq_eq_false_iff_ne]; omega
 have m5:¬ k=5:=by omega
 have n6:(k==6)=false:=by rw [beq_eq_false_iff_ne]; omega
 have m6:¬ k=6:=by omega
 have n7:(k==7)=false:=by rw [beq_eq_false_iff_ne]; omega
 have m7:¬ k=7:=by omega
 have n8:(k==8)=false:=by rw [beq_eq_false_iff_ne]; omega
 have m8:¬ k=8:=by omega
 clear hI h0 hB hBX bW hk;go_enter Tryz.func11,Tryz.ntmps11
 go_upto_region 54 with fail
 clear hW;go_wp2;refine bodyPost_ret (v:=.tuple #[.agg (wdV s b d (.slice fa fl fc) (.slice oa on oc) (.slice ra rn rc) (.slice ta tn tc) (.slice xa xn xc) (.slice ya yn yc) (.slice za zn zc)),.bool true]) ?_ rfl ⟨rfl,?_⟩
 ·simp [results,Tryz.f11];go_simp
 ·have ht:=Zam (W:=W) (w.heap.size+2) [.pointer (some ⟨b,0,none⟩),.pointer (some ⟨s,0,none⟩),.slice fa fl fc,.int .i64 (d.writes:Int),.bool d.armed,.bool d.dead,.int .i64 (d.after:Int),.int .i64 (d.keep:Int),.slice oa on oc,.slice ra rn rc,.slice ta tn tc,.slice xa xn xc,.slice ya yn yc,.slice za zn zc] 0;simp only [layL,Nat.reduceAdd] at ht;exact MD.out.done ht
def pstep (a:Ac) (kp:Int) (v:Wd):Wd :=
 if a.k=6 then ⟨v.st,(dcut v.d (a.dt.tmod 64) kp).1,v.bl,v.tl,v.cl⟩
 else if a.k=7 then ⟨(sopen (dres v.d)).1,(sopen (dres v.d)).2.1,v.bl,v.tl,v.cl⟩
 else if a.k=8 then ⟨(sopen (dapp (dres v.d) fileN a.data).1).1,(sopen (dapp (dres v.d) fileN a.data).1).2.1,v.bl,v.tl,v.cl⟩
 else wstep a v
theorem Zkn {d:Dk} (h:d.ok):(ofile d).length<=262144:=by
 unfold ofile
 cases e:fget d.files fileN with
 | none=>exact Nat.zero_le _
 | some b=>exact h.get e
theorem ZfW {v:Wd} {n:Nat} (h:v.fine n) (hn:262144<=n) {d:Dk} (hd:d.ok) (hc:Calm d) (hw:d.writes<=n+1):Wd.fine ⟨(sopen d).1,(sopen d).2.1,v.bl,v.tl,v.cl⟩ (n+2):=by
 obtain ⟨_,h2,_,_,h5,_⟩:=Zd9 hc hd.rise;have hr:=ZeR (ofile d) St.ok0 rfl;have hl:=Zkn hd;have hb:=h.bl;have ht:=h.tl;have hcl:=h.cl
 refine ⟨?_,Zmv hd,?_,?_,?_,?_,?_⟩ <;> simp only
 ·rw [h2]; exact hr.1
 ·omega
 ·rw [h2]; omega
 ·omega
 ·omega
 ·omega
theorem Wd.fine.pstep {v:Wd} {n:Nat} (h:v.fine n) (hn:262144<=n) (a:Ac) (kp:Int):(pstep a kp v).fine (n+2):=by
 have hw:=h.writes;unfold Go.Proofs.YtmhcpbbiokpjjaaGreat.pstep
 split
 ·have hx:(a.dt.tmod 64)<=9223372036854775807:=by have:=Int.tmod_lt_of_pos a.dt (b:=64) (by omega); omega
  have hwc:=ZnC v.d (a.dt.tmod 64) kp;have hs:=h.size;have hb:=h.bl;have ht:=h.tl;have hcl:=h.cl
  refine ⟨h.st,ZnF h.d _ _ hx,?_,?_,?_,?_,?_⟩ <;> simp only <;> omega
 ·split
  ·exact ZfW h hn (Zed h.d) ⟨rfl,rfl⟩ (by have e:(dres v.d).writes=v.d.writes:=rfl; omega)
  ·split
   ·exact ZfW h hn (Zeq (Zed h.d) _ _) (Zek ⟨rfl,rfl⟩ _ _) (by have:=Zmt (dres v.d) fileN a.data; have e:(dres v.d).writes=v.d.writes:=rfl; omega)
   ·exact (h.step a).more
theorem Nmd.pstep {v:Wd} (h:Nmd v.st) (hst:v.st.ok) (a:Ac) (kp:Int):Nmd (pstep a kp v).st:=by
 unfold Go.Proofs.YtmhcpbbiokpjjaaGreat.pstep
 split
 ·exact h
 ·split
  ·exact Nmd.opened
  ·split
   ·exact Nmd.opened
   ·exact h.stp (Zkr hst a)
theorem play9 {B:Nat} {E:Nat->Prop} {w0 w:World} {s b:Nat} {fa oa ra ta xa ya za:Option Addr} {fl fc on oc rn rc tn tc xn xc yn yc zn zc:Nat} {U:Nat->Prop} {v:Wd} {a:AV} {data:Bs} {ps:List Bs} {qs:List Int} {N:Nat}
  (hI:WI B E w s b (.slice fa fl fc) (.slice oa on oc) (.slice ra rn rc) (.slice ta tn tc) (.slice xa xn xc) (.slice ya yn yc) (.slice za zn zc) U v.st v.d v.bl v.tl v.cl) (h0:Below B w0 w) (hB0:w0.heap.size=B) (hB:B<=w.heap.size) (hA:ZiN w0 a data ps qs) (hfit:a.nm.size<=140737488355328) (hkp : -9223372036854775808<=a.kp/\a.kp<=9223372036854775807) (hf:v.fine N) (hN:N<=999999) :
  Calls Tryz.prog 11 #[.agg (wdV s b v.d (.slice fa fl fc) (.slice oa on oc) (.slice ra rn rc) (.slice ta tn tc) (.slice xa xn xc) (.slice ya yn yc) (.slice za zn zc)),a.val] w λ e w'=>∃ u,e=.returned u/\Hid (∃ s',Zf0 B E w0 w s' b (pstep (a.ac data ps qs) a.kp v) u w'):=by
 have hw:=hf.writes;by_cases h6:a.k<6
 ·have e:pstep (a.ac data ps qs) a.kp v=wstep (a.ac data ps qs) v:=by
   unfold pstep;have q:(a.ac data ps qs).k=a.k:=rfl;rw [q,if_neg (by omega),if_neg (by omega),if_neg (by omega)]
  rw [e];refine (play6 hI h0 hB0 hB hA hfit h6 hf (by omega)).mono ?_;rintro e w' ⟨u,rfl,X⟩;exact ⟨u,rfl,s,X.out⟩
 ·obtain ⟨k,da,dn,dc,pa,pn,pc,qa,qn,qc,nm,dt,kp⟩:=a;obtain ⟨a1,a2,a3,a4,a5,a6,a7,a8,a9,a10⟩:=hA;simp only at a1 a2 a3 h6 hkp;by_cases k6:k=6
  ·subst k6;refine (ZkW hI h0 hB _ _ nm dt kp hkp _ _ rfl).mono ?_;rintro e w' ⟨vf,vo,vr,vt,rfl,X⟩;obtain ⟨U',h1,h2,h4⟩:=X.out;obtain ⟨fa',fl',fc',oa',on',oc',ra',rn',rc',ta',tn',tc',_,_,_,_,_,_,_,_,_,rfl,rfl,rfl,rfl,_,_,_⟩:=h1.form;exact ⟨_,rfl,s,_,_,_,_,_,_,_,_,_,_,_,_,_,_,_,_,_,_,_,_,_,U',rfl,h1,h2,h4⟩
  ·by_cases k7:k=7
   ·subst k7;exact ZiK hI h0 hB hf.d (by omega) _ _ nm dt kp _
   ·by_cases k8:k=8
    ·subst k8;exact Zk2 hI h0 hB hf.d (by omega) hB0 a1 (by omega) _ nm dt kp _
    ·have e:pstep (AV.ac ⟨k,da,dn,dc,pa,pn,pc,qa,qn,qc,nm,dt,kp⟩ data ps qs) kp v=v:=by
      unfold pstep wstep AV.ac;simp only;rw [if_neg (by omega),if_neg (by omega),if_neg (by omega),if_neg (by omega),if_neg (by omega),if_neg (by omega),if_neg (by omega),if_neg (by omega),if_neg (by omega)]
     rw [e];refine (Zki hI h0 hB k (by omega) _ _ _ nm dt kp).mono ?_;rintro e w' ⟨rfl,X⟩;exact ⟨_,rfl,s,_,_,_,_,_,_,_,_,_,_,_,_,_,_,_,_,_,_,_,_,_,U,rfl,X.out.1,X.out.2.1,X.out.2.2⟩
section
variable {S:Nat->Prop} {ao:Option Addr} {L c:Nat} {d:Dk} {w:World}
end
end Go.Proofs.YtmhcpbbiokpjjaaGreat
