/-
  Several texts, laid together.
-/
import Derived.Test.YtmhcpbbiokpjjaaGreatM28
import Derived.Test.YtmhcpbbiokpjjaaGreatM30
set_option maxHeartbeats 6400000
set_option maxRecDepth 100000
namespace Go.Proofs.YtmhcpbbiokpjjaaGreat
open Go.RowKit
theorem ZjI {B:Nat} {E:Nat->Prop} {w0 w:World} {s b:Nat} {fa oa ra ta xa ya za:Option Addr} {fl fc on oc rn rc tn tc xn xc yn yc zn zc:Nat} {U:Nat->Prop} {st:St} {d:Dk} {bl tl cl:List UInt64}
  (hI:WI B E w s b (.slice fa fl fc) (.slice oa on oc) (.slice ra rn rc) (.slice ta tn tc) (.slice xa xn xc) (.slice ya yn yc) (.slice za zn zc) U st d bl tl cl) (h0:Below B w0 w) (hB:B<=w.heap.size) (k:Int) (hk:k<0) (dv pv qv:Value) (nm:ByteArray) (dt kp:Int) :
  Calls Tryz.prog 11 #[.agg (wdV s b d (.slice fa fl fc) (.slice oa on oc) (.slice ra rn rc) (.slice ta tn tc) (.slice xa xn xc) (.slice ya yn yc) (.slice za zn zc)),.agg (actC k dv pv qv nm dt kp)] w λ e w'=>e=.returned (.tuple #[.agg (wdV s b d (.slice fa fl fc) (.slice oa on oc) (.slice ra rn rc) (.slice ta tn tc) (.slice xa xn xc) (.slice ya yn yc) (.slice za zn zc)),.bool true])/\Hid (WI B E w' s b (.slice fa fl fc) (.slice oa on oc) (.slice ra rn rc) (.slice ta tn tc) (.slice xa xn xc) (.slice ya yn yc) (.slice za zn zc) U st d bl tl cl/\Below B w0 w'/\∀ i,E i->w'.heap[i]? = w.heap[i]?):=by
 obtain ⟨W,hW⟩:∃ W,((w.alloc (.cells (wdV s b d (.slice fa fl fc) (.slice oa on oc) (.slice ra rn rc) (.slice ta tn tc) (.slice xa xn xc) (.slice ya yn yc) (.slice za zn zc)) 35)).alloc (.cells (actC k dv pv qv nm dt kp) 43)).alloc (.cells zeroW 35)=W:=⟨_,rfl⟩
 have bW:Below w.heap.size w W:=by rw [<- hW]; exact bz3 _ _ _ _
 have hBX:Bx w.heap.size W (wdV s b d (.slice fa fl fc) (.slice oa on oc) (.slice ra rn rc) (.slice ta tn tc) (.slice xa xn xc) (.slice ya yn yc) (.slice za zn zc)) (actC k dv pv qv nm dt kp):=by rw [<- hW]; exact Bx.new _ _ _
 have MD:Hid (Md B w.heap.size E (λ i=>Fb w.heap.size i∨E i) w0 w W s b (.slice fa fl fc) (.slice oa on oc) (.slice ra rn rc) (.slice ta tn tc) (.slice xa xn xc) (.slice ya yn yc) (.slice za zn zc) U st d bl tl cl (wdV s b d (.slice fa fl fc) (.slice oa on oc) (.slice ra rn rc) (.slice ta tn tc) (.slice xa xn xc) (.slice ya yn yc) (.slice za zn zc)) (actC k dv pv qv nm dt kp)):=Md.start hI h0 hB hBX bW;have y0:=MD.out.bx.act.cell (j:=0) rfl;obtain ⟨p0,p1,p2,p3,p4,p5,p6,p7,p8,p9,p10,p11,p12,p13⟩:=MD.out.bx.box.c14;obtain ⟨s0,s1,s2,s3,s4,s5,s6,s7,s8,s9,s10,s11,s12,s13⟩:=MD.out.bx.res.c14;obtain ⟨f0,f1,f2,f3,f4,f5,f6,f7,f8,f9,f10,f11,f12,f13⟩:=MD.out.bx.res.t14
 have n0:(k==0)=false:=by rw [beq_eq_false_iff_ne]; omega
 have m0:¬ k=0:=by omega
 have n1:(k==1)=false:=by rw [beq_eq_false_iff_ne]; omega
 have m1:¬ k=1:=by omega
 have n2:(k==2)=false:=by rw [beq_eq_false_iff_ne]; omega
 have m2:¬ k=2:=by omega
 have n3:(k==3)=false:=by rw [beq_eq_false_iff_ne]; omega
 have m3:¬ k=3:=by omega
 have n4:(k==4)=false:=by rw [beq_eq_false_iff_ne]; omega
 have m4:¬ k=4:=by omega
 have n5:(k==5)=false:=by rw [beq_eq_false_iff_ne]; omega
 have m5:¬ k=5:=by omega
 have n6:(k==6)=false:=by rw [beq_eq_false_iff_ne]; omega
 have m6:¬ k=6:=by omega
 have n7:(k==7)=false:=by rw [beq_eq_false_iff_ne]; omega
 have m7:¬ k=7:=by omega
 have n8:(k==8)=false:=by rw [beq_eq_false_iff_ne]; omega
 have m8:¬ k=8:=by omega
 clear hI h0 hB hBX bW hk;go_enter Tryz.func11,Tryz.ntmps11
 go_upto_region 54 with fail
 clear hW;go_wp2;refine bodyPost_ret (v:=.tuple #[.agg (wdV s b d (.slice fa fl fc) (.slice oa on oc) (.slice ra rn rc) (.slice ta tn tc) (.slice xa xn xc) (.slice ya yn yc) (.slice za zn zc)),.bool true]) ?_ rfl ⟨rfl,?_⟩
 ·simp [results,Tryz.f11];go_simp
 ·have ht:=Zam (W:=W) (w.heap.size+2) [.pointer (some ⟨b,0,none⟩),.pointer (some ⟨s,0,none⟩),.slice fa fl fc,.int .i64 (d.writes:Int),.bool d.armed,.bool d.dead,.int .i64 (d.after:Int),.int .i64 (d.keep:Int),.slice oa on oc,.slice ra rn rc,.slice ta tn tc,.slice xa xn xc,.slice ya yn yc,.slice za zn zc] 0;simp only [layL,Nat.reduceAdd] at ht;exact MD.out.done ht
structure AV where
 k:Int
 da:Option Addr
 dn:Nat
 dc:Nat
 pa:Option Addr
 pn:Nat
 pc:Nat
 qa:Option Addr
 qn:Nat
 qc:Nat
 nm:ByteArray
 dt:Int
 kp:Int
abbrev AV.val (a:AV):Value:=actV a.k (.slice a.da a.dn a.dc) (.slice a.pa a.pn a.pc) (.slice a.qa a.qn a.qc) a.nm a.dt a.kp
def encA:Enc AV:=⟨λ a=>[.int .i64 a.k,.slice a.da a.dn a.dc,.slice a.pa a.pn a.pc,.slice a.qa a.qn a.qc,.string a.nm,.int .i64 a.dt,.int .i64 a.kp],7,λ _=>rfl,by decide,by intro x u h; simp at h; rcases h with rfl | rfl | rfl | rfl | rfl | rfl | rfl <;> rfl⟩
theorem RdG.acts {w:World} {b off:Nat} {l:List AV} (h:RdG encA w (some ⟨b,off,none⟩) l) {i:Nat} {a:AV} (hx:l[i]? = some a):b<w.heap.size/\w.cell? ⟨b,off+i*7,none⟩=some (.int .i64 a.k)/\w.cell? ⟨b,off+i*7+1,none⟩=some (.slice a.da a.dn a.dc)/\w.cell? ⟨b,off+i*7+2,none⟩=some (.slice a.pa a.pn a.pc)/\w.cell? ⟨b,off+i*7+3,none⟩=some (.slice a.qa a.qn a.qc)/\w.cell? ⟨b,off+i*7+4,none⟩=some (.string a.nm)/\w.cell? ⟨b,off+i*7+5,none⟩=some (.int .i64 a.dt)/\w.cell? ⟨b,off+i*7+6,none⟩=some (.int .i64 a.kp):=by
 obtain ⟨b', off', e', hlt, hc⟩ := h (by rcases Nat.lt_or_ge i l.length with q | q
                                         · omega
                                         · rw [List.getElem?_eq_none q] at hx; cases hx)
 obtain ⟨rfl,rfl⟩:b=b'/\off=off':=by simpa using e'
 have h0:=hc i a hx 0 _ rfl;have h1:=hc i a hx 1 _ rfl;have h2:=hc i a hx 2 _ rfl;have h3:=hc i a hx 3 _ rfl;have h4:=hc i a hx 4 _ rfl;have h5:=hc i a hx 5 _ rfl;have h6:=hc i a hx 6 _ rfl;refine ⟨hlt,?_,?_,?_,?_,?_,?_,?_⟩
 ·simpa [encA] using h0
 ·simpa [encA,Nat.add_assoc] using h1
 ·simpa [encA,Nat.add_assoc] using h2
 ·simpa [encA,Nat.add_assoc] using h3
 ·simpa [encA,Nat.add_assoc] using h4
 ·simpa [encA,Nat.add_assoc] using h5
 ·simpa [encA,Nat.add_assoc] using h6
structure ZiN (w:World) (a:AV) (data:Bs) (ps:List Bs) (qs:List Int):Prop where
 hd:BAt w (.slice a.da a.dn a.dc) data
 dl:data.length=a.dn
 dm:a.dn<=140737488355328
 hp:RdG encT w a.pa ps
 pl:ps.length=a.pn
 pm:a.pn*24<=140737488355328
 pf:∀ p∈ps,p.length<=9223372036854775807
 hq:RdG encI w a.qa qs
 ql:qs.length=a.qn
 qm:a.qn*8<=140737488355328
structure Acts (w:World) (ao:Option Addr) (n:Nat) (l:List AV):Prop where
 rd:RdG encA w ao l
 len:l.length=n
 each:∀ a∈l,∃ data ps qs,ZiN w a data ps qs
def Rel (k:Int) (data:Bs) (ps:List Bs) (qs:List Int) (dt:Int) (st:St) (d:Dk) (bl tl cl:List UInt64) (st':St) (d':Dk) (bl' tl' cl':List UInt64):Prop :=
 (k<0/\st'=st/\d'=d/\bl'=bl/\tl'=tl/\cl'=cl) ∨
 (k=0/\∃ Q,sblob st d data=Q/\st'=Q.1.1/\d'=Q.1.2/\(bl'=if Q.2.2=0 then bl++[Q.2.1] else bl)/\tl'=tl/\cl'=cl) ∨
 (k=1/\∃ Q,stree st d (aents ps qs bl)=Q/\st'=Q.1.1/\d'=Q.1.2/\bl'=bl/\(tl'=if Q.2.2=0 then tl++[Q.2.1] else tl)/\cl'=cl) ∨
 (k=2/\∃ Q,scom st d (anode data qs dt tl cl)=Q/\st'=Q.1.1/\d'=Q.1.2/\bl'=bl/\tl'=tl/\(cl'=if Q.2.2=0 then cl++[Q.2.1] else cl))
theorem WI.form {B:Nat} {E:Nat->Prop} {w:World} {s b:Nat} {vf vo vr vt xb xt xc:Value} {U:Nat->Prop} {st:St} {d:Dk} {bl tl cl:List UInt64} (h:WI B E w s b vf vo vr vt xb xt xc U st d bl tl cl) :
  ∃ fa fl fc oa on oc ra rn rc ta tn tc xa xn xd ya yn yc za zn zc,vf=.slice fa fl fc/\vo=.slice oa on oc/\vr=.slice ra rn rc/\vt=.slice ta tn tc/\xb=.slice xa xn xd/\xt=.slice ya yn yc/\xc=.slice za zn zc:=by
 obtain ⟨fa,fl,fc,oa,on,oc,ra,rn,rc,ta,tn,tc,e,_⟩:=h.ref;obtain ⟨xa,xd,e1,_⟩:=h.ob.whole rfl;obtain ⟨ya,yc,e2,_⟩:=h.ot.whole rfl;obtain ⟨za,zc,e3,_⟩:=h.oc.whole rfl;simp at e;exact ⟨fa,fl,fc,oa,on,oc,ra,rn,rc,ta,tn,tc,xa,_,xd,ya,_,yc,za,_,zc,e.1,e.2.1,e.2.2.1,e.2.2.2,e1,e2,e3⟩
theorem WI.more {B:Nat} {E G:Nat->Prop} {w w':World} {s b:Nat} {vf vo vr vt xb xt xc:Value} {U:Nat->Prop} {st:St} {d:Dk} {bl tl cl:List UInt64} (h:WI B E w s b vf vo vr vt xb xt xc U st d bl tl cl) (hb:Below w.heap.size w w') (hG:∀ i,G i->w.heap.size<=i/\i<w'.heap.size):WI B (λ i=>E i∨G i) w' s b vf vo vr vt xb xt xc U st d bl tl cl:=by
 have h':=h.below hb;refine ⟨h'.duo,h.low,(h.ref.into (λ i hi q=>?_)).below hb,λ i q r=>?_,λ i q=>q.elim (h'.elt i) (λ q=>(hG i q).2),h'.ob,h'.ot,h'.oc,h.fb,h.ft,h.fc,h.bt,h.bc,h.tc⟩
 ·rcases q with q | q | q
  ·exact .inl q
  ·exact .inr q
  ·have:=(hG i q).1;omega
 ·rcases r with r | r
  ·exact h.fe i q r
  ·have:=(hG i r).1;have:=(h.lt i q).2;omega
theorem WI.turn {B:Nat} {E G:Nat->Prop} {w w':World} {s b:Nat} {vf vo vr vt xb xt xc:Value} {U:Nat->Prop} {st:St} {d:Dk} {bl tl cl:List UInt64} (h:WI B E w s b vf vo vr vt xb xt xc U st d bl tl cl) (ht:Zaa G w w') (hG:∀ i,G i->E i):WI B E w' s b vf vo vr vt xb xt xc U st d bl tl cl:=by
 have ne:∀ i,Rows U xb xt xc i->¬ G i:=λ i q r=>h.fe i q (hG i r)
 exact ⟨h.duo.stays ht (λ i q=>ne i (.inl q)),h.low,h.ref.turned ht (λ i q=>.inr (hG i q)),h.fe,λ i q=>Nat.lt_of_lt_of_le (h.elt i q) ht.size,h.ob.stays ht (λ g q=>ne g (.inr (.inl q))),h.ot.stays ht (λ g q=>ne g (.inr (.inr (.inl q)))),h.oc.stays ht (λ g q=>ne g (.inr (.inr (.inr q)))),h.fb,h.ft,h.fc,h.bt,h.bc,h.tc⟩
theorem WI.less {B:Nat} {E E':Nat->Prop} {w:World} {s b:Nat} {vf vo vr vt xb xt xc:Value} {U:Nat->Prop} {st:St} {d:Dk} {bl tl cl:List UInt64} (h:WI B E w s b vf vo vr vt xb xt xc U st d bl tl cl) (hE:∀ i,E' i->E i):WI B E' w s b vf vo vr vt xb xt xc U st d bl tl cl :=
 ⟨h.duo,h.low,h.ref.mono (λ i q=>q.imp id (hE i)),λ i q r=>h.fe i q (hE i r),λ i q=>h.elt i (hE i q),h.ob,h.ot,h.oc,h.fb,h.ft,h.fc,h.bt,h.bc,h.tc⟩
theorem Zg0:∀ args w,(callFunc 11 args).run Tryz.prog w=.ok (.enter 11 args) w:=enters_of Tryz.func11 (by kernel_rfl) rfl
theorem Zk6 {B:Nat} {E:Nat->Prop} {w0 w:World} {s b:Nat} {fa oa ra ta xa ya za:Option Addr} {fl fc on oc rn rc tn tc xn xc yn yc zn zc:Nat} {U:Nat->Prop} {st:St} {d:Dk} {bl tl cl:List UInt64} {a:AV} {data:Bs} {ps:List Bs} {qs:List Int}
  (hI:WI B E w s b (.slice fa fl fc) (.slice oa on oc) (.slice ra rn rc) (.slice ta tn tc) (.slice xa xn xc) (.slice ya yn yc) (.slice za zn zc) U st d bl tl cl) (h0:Below B w0 w) (hB0:w0.heap.size=B) (hB:B<=w.heap.size) (hA:ZiN w0 a data ps qs) (hk:a.k<3) (hok:d.ok) (hw:d.writes<=1000000) (hsz:st.size<=1000000) (hbn:bl.length<=1000000) (htn:tl.length<=1000000) (hcn:cl.length<=1000000) :
  Calls Tryz.prog 11 #[.agg (wdV s b d (.slice fa fl fc) (.slice oa on oc) (.slice ra rn rc) (.slice ta tn tc) (.slice xa xn xc) (.slice ya yn yc) (.slice za zn zc)),a.val] w λ e w'=>∃ v,e=.returned v/\Hid (∃ fa' fl' fc' oa' on' oc' ra' rn' rc' ta' tn' tc' xa' xn' xc' ya' yn' yc' za' zn' zc' U' st' d' bl' tl' cl',v=.tuple #[.agg (wdV s b d' (.slice fa' fl' fc') (.slice oa' on' oc') (.slice ra' rn' rc') (.slice ta' tn' tc') (.slice xa' xn' xc') (.slice ya' yn' yc') (.slice za' zn' zc')),.bool true]/\WI B E w' s b (.slice fa' fl' fc') (.slice oa' on' oc') (.slice ra' rn' rc') (.slice ta' tn' tc') (.slice xa' xn' xc') (.slice ya' yn' yc') (.slice za' zn' zc') U' st' d' bl' tl' cl'/\Below B w0 w'/\(∀ i,E i->w'.heap[i]? = w.heap[i]?)/\OwnG encU 53 w' B (.slice xa xn xc) bl/\OwnG encU 53 w' B (.slice ya yn yc) tl/\OwnG encU 53 w' B (.slice za zn zc) cl/\Rel a.k data ps qs a.dt st d bl tl cl st' d' bl' tl' cl'):=by
 obtain ⟨k,da,dn,dc,pa,pn,pc,qa,qn,qc,nm,dt,kp⟩:=a;obtain ⟨a1,a2,a3,a4,a5,a6,a7,a8,a9,a10⟩:=hA;simp only at a1 a2 a3 a4 a5 a6 a7 a8 a9 a10 hk
 have hc:k<0∨k=0∨k=1∨k=2:=by omega
 rcases hc with q | rfl | rfl | rfl
 ·refine (ZjI hI h0 hB k q _ _ _ nm dt kp).mono ?_;rintro e w' ⟨rfl,h⟩;obtain ⟨h1,h2,h3⟩:=h.out;exact ⟨_,rfl,_,_,_,_,_,_,_,_,_,_,_,_,_,_,_,_,_,_,_,_,_,_,_,_,_,_,_,rfl,h1,h2,h3,h1.ob,h1.ot,h1.oc,.inl ⟨q,rfl,rfl,rfl,rfl,rfl⟩⟩
 ·refine (Zj8 hI h0 hB0 hB a1 a2 a3 hok hw hsz _ _ nm dt kp _ rfl _ rfl hbn).mono ?_;rintro e w' ⟨vf,vo,vr,vt,x,rfl,h⟩;obtain ⟨U',h1,h2,h3,h4⟩:=h.out;obtain ⟨fa',fl',fc',oa',on',oc',ra',rn',rc',ta',tn',tc',xa',xn',xc',_,_,_,_,_,_,rfl,rfl,rfl,rfl,rfl,_,_⟩:=h1.form;exact ⟨_,rfl,_,_,_,_,_,_,_,_,_,_,_,_,_,_,_,_,_,_,_,_,_,_,_,_,_,_,_,rfl,h1,h2,h3,h4,h1.ot,h1.oc,.inr (.inl ⟨rfl,_,rfl,rfl,rfl,rfl,rfl,rfl⟩)⟩
 ·refine (ZiX hI h0 hB0 hB a4 a5 a6 a7 a8 a9 (by omega) hok hw hsz _ nm dt kp _ rfl _ rfl hbn htn).mono ?_;rintro e w' ⟨vf,vo,vr,vt,x,rfl,h⟩;obtain ⟨U',h1,h2,h3,h4⟩:=h.out;obtain ⟨fa',fl',fc',oa',on',oc',ra',rn',rc',ta',tn',tc',_,_,_,ya',yn',yc',_,_,_,rfl,rfl,rfl,rfl,_,rfl,_⟩:=h1.form;exact ⟨_,rfl,_,_,_,_,_,_,_,_,_,_,_,_,_,_,_,_,_,_,_,_,_,_,_,_,_,_,_,rfl,h1,h2,h3,h1.ob,h4,h1.oc,.inr (.inr (.inl ⟨rfl,_,rfl,rfl,rfl,rfl,rfl,rfl⟩))⟩
 ·refine (ZlG hI h0 hB0 hB a1 a8 a9 a10 hok hw hsz _ nm dt kp _ rfl _ rfl htn hcn).mono ?_;rintro e w' ⟨vf,vo,vr,vt,x,rfl,h⟩;obtain ⟨U',h1,h2,h3,h4⟩:=h.out;obtain ⟨fa',fl',fc',oa',on',oc',ra',rn',rc',ta',tn',tc',_,_,_,_,_,_,za',zn',zc',rfl,rfl,rfl,rfl,_,_,rfl⟩:=h1.form;exact ⟨_,rfl,_,_,_,_,_,_,_,_,_,_,_,_,_,_,_,_,_,_,_,_,_,_,_,_,_,_,_,rfl,h1,h2,h3,h1.ob,h1.ot,h4,.inr (.inr (.inr ⟨rfl,_,rfl,rfl,rfl,rfl,rfl,rfl⟩))⟩
section
variable {w w':World} {s b:Nat} {st:St} {d d':Dk} {U:Nat->Prop}
theorem Duo.cuts (h:Duo w s b st d U) {x y:Int} (hx : -9223372036854775808<=x/\x<=9223372036854775807) (hy : -9223372036854775808<=y/\y<=9223372036854775807) :
  Calls Tryz.prog 52 #[.pointer (some ⟨b,0,none⟩),.int .i64 x,.int .i64 y] w λ e w'=>∃ r,e=.returned (.int .i64 r)/\Hid (r=(dcut d x y).2/\Duo w' s b st (dcut d x y).1 U/\Zaa (λ i=>i=b) w w'/\U b):=by
 obtain ⟨S,T,h1,h2,h3,h4,h5⟩:=h
 have hb:T b:=by
  obtain ⟨m,f,a,k,q⟩:=h2;exact q.mine.1
 refine (ZnL h2 hx hy).mono ?_;rintro e w' ⟨r,rfl,hr,k1,k2⟩;exact ⟨r,rfl,hr.out,⟨S,T,h1.stays k2 (λ i q r=>by have r':i=b:=r; rw [r'] at q; exact h3 _ q hb),k1,h3,h4,λ i q=>Nat.lt_of_lt_of_le (h5 i q) k2.size⟩,k2,h4 _ (.inr hb)⟩
theorem Duo.restarts (h:Duo w s b st d U) :
  Calls Tryz.prog 54 #[.pointer (some ⟨b,0,none⟩)] w λ e w'=>e=.returned (.tuple #[])/\Hid (Duo w' s b st (dres d) U/\Zaa (λ i=>i=b) w w'/\U b):=by
 obtain ⟨S,T,h1,h2,h3,h4,h5⟩:=h
 have hb:T b:=by
  obtain ⟨m,f,a,k,q⟩:=h2;exact q.mine.1
 refine (ZhV h2).mono ?_;rintro e w' ⟨rfl,k1,k2⟩;exact ⟨rfl,⟨S,T,h1.stays k2 (λ i q r=>by have r':i=b:=r; rw [r'] at q; exact h3 _ q hb),k1,h3,h4,λ i q=>Nat.lt_of_lt_of_le (h5 i q) k2.size⟩,k2,h4 _ (.inr hb)⟩
end
theorem ZiM (d:Dk) (x y:Int):(dcut d x y).1.files=d.files:=by
 unfold dcut
 split
 ·rfl
 ·split <;> rfl
end Go.Proofs.YtmhcpbbiokpjjaaGreat
