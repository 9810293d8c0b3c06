/-
  Several texts, laid together.
-/
import Derived.Test.YtjlokpjflgbgdaaGreatMC27
import Derived.Test.YtjlokpjflgbgdaaGreatMC30
set_option maxHeartbeats 6400000
set_option maxRecDepth 100000
namespace Go.Proofs.YtjlokpjflgbgdaaGreat
open Go.RowKit
theorem play_none {B:Nat} {E:Nat->Prop} {w0 w:World} {s b:Nat} {fa oa ra ta xa ya za:Option Addr} {fl fc on oc rn rc tn tc xn xc yn yc zn zc:Nat} {U:Nat->Prop} {st:St} {d:Dk} {bl tl cl:List UInt64}
  (hI:WI B E w s b (.slice fa fl fc) (.slice oa on oc) (.slice ra rn rc) (.slice ta tn tc) (.slice xa xn xc) (.slice ya yn yc) (.slice za zn zc) U st d bl tl cl) (h0:Below B w0 w) (hB:B<=w.heap.size) (k:Int) (hk:k<0) (dv pv qv:Value) (nm:ByteArray) (dt kp:Int) :
  Calls Tryz.prog 13 #[.agg (wdV s b d (.slice fa fl fc) (.slice oa on oc) (.slice ra rn rc) (.slice ta tn tc) (.slice xa xn xc) (.slice ya yn yc) (.slice za zn zc)),.agg (actC k dv pv qv nm dt kp)] w λ e w'=>e=.returned (.tuple #[.agg (wdV s b d (.slice fa fl fc) (.slice oa on oc) (.slice ra rn rc) (.slice ta tn tc) (.slice xa xn xc) (.slice ya yn yc) (.slice za zn zc)),.bool true])/\Hid (WI B E w' s b (.slice fa fl fc) (.slice oa on oc) (.slice ra rn rc) (.slice ta tn tc) (.slice xa xn xc) (.slice ya yn yc) (.slice za zn zc) U st d bl tl cl/\Below B w0 w'/\∀ i,E i->w'.heap[i]? = w.heap[i]?):=by
 obtain ⟨W,hW⟩:∃ W,((w.alloc (.cells (wdV s b d (.slice fa fl fc) (.slice oa on oc) (.slice ra rn rc) (.slice ta tn tc) (.slice xa xn xc) (.slice ya yn yc) (.slice za zn zc)) 35)).alloc (.cells (actC k dv pv qv nm dt kp) 43)).alloc (.cells zeroW 35)=W:=⟨_,rfl⟩
 have bW:Below w.heap.size w W:=by rw [<- hW]; exact bz3 _ _ _ _
 have hBX:Bx w.heap.size W (wdV s b d (.slice fa fl fc) (.slice oa on oc) (.slice ra rn rc) (.slice ta tn tc) (.slice xa xn xc) (.slice ya yn yc) (.slice za zn zc)) (actC k dv pv qv nm dt kp):=by rw [<- hW]; exact Bx.new _ _ _
 have MD:Hid (Md B w.heap.size E (λ i=>Fb w.heap.size i∨E i) w0 w W s b (.slice fa fl fc) (.slice oa on oc) (.slice ra rn rc) (.slice ta tn tc) (.slice xa xn xc) (.slice ya yn yc) (.slice za zn zc) U st d bl tl cl (wdV s b d (.slice fa fl fc) (.slice oa on oc) (.slice ra rn rc) (.slice ta tn tc) (.slice xa xn xc) (.slice ya yn yc) (.slice za zn zc)) (actC k dv pv qv nm dt kp)):=Md.start hI h0 hB hBX bW;have y0:=MD.out.bx.act.cell (j:=0) rfl;have p0:=MD.out.bx.box.cell (j:=0) rfl;have s0:=MD.out.bx.res.cell (j:=0) rfl;have f0:=MD.out.bx.res.thaw 0;have p1:=MD.out.bx.box.cell (j:=1) rfl;have s1:=MD.out.bx.res.cell (j:=1) rfl;have f1:=MD.out.bx.res.thaw 1;have p2:=MD.out.bx.box.cell (j:=2) rfl;have s2:=MD.out.bx.res.cell (j:=2) rfl;have f2:=MD.out.bx.res.thaw 2;have p3:=MD.out.bx.box.cell (j:=3) rfl;have s3:=MD.out.bx.res.cell (j:=3) rfl;have f3:=MD.out.bx.res.thaw 3;have p4:=MD.out.bx.box.cell (j:=4) rfl;have s4:=MD.out.bx.res.cell (j:=4) rfl;have f4:=MD.out.bx.res.thaw 4;have p5:=MD.out.bx.box.cell (j:=5) rfl;have s5:=MD.out.bx.res.cell (j:=5) rfl;have f5:=MD.out.bx.res.thaw 5;have p6:=MD.out.bx.box.cell (j:=6) rfl;have s6:=MD.out.bx.res.cell (j:=6) rfl;have f6:=MD.out.bx.res.thaw 6;have p7:=MD.out.bx.box.cell (j:=7) rfl;have s7:=MD.out.bx.res.cell (j:=7) rfl;have f7:=MD.out.bx.res.thaw 7;have p8:=MD.out.bx.box.cell (j:=8) rfl;have s8:=MD.out.bx.res.cell (j:=8) rfl;have f8:=MD.out.bx.res.thaw 8;have p9:=MD.out.bx.box.cell (j:=9) rfl;have s9:=MD.out.bx.res.cell (j:=9) rfl;have f9:=MD.out.bx.res.thaw 9;have p10:=MD.out.bx.box.cell (j:=10) rfl;have s10:=MD.out.bx.res.cell (j:=10) rfl;have f10:=MD.out.bx.res.thaw 10;have p11:=MD.out.bx.box.cell (j:=11) rfl;have s11:=MD.out.bx.res.cell (j:=11) rfl;have f11:=MD.out.bx.res.thaw 11;have p12:=MD.out.bx.box.cell (j:=12) rfl;have s12:=MD.out.bx.res.cell (j:=12) rfl;have f12:=MD.out.bx.res.thaw 12;have p13:=MD.out.bx.box.cell (j:=13) rfl;have s13:=MD.out.bx.res.cell (j:=13) rfl;have f13:=MD.out.bx.res.thaw 13
 have n0:(k==0)=false:=by rw [beq_eq_false_iff_ne]; omega
 have m0:¬ k=0:=by omega
 have n1:(k==1)=false:=by rw [beq_eq_false_iff_ne]; omega
 have m1:¬ k=1:=by omega
 have n2:(k==2)=false:=by rw [beq_eq_false_iff_ne]; omega
 have m2:¬ k=2:=by omega
 have n3:(k==3)=false:=by rw [beq_eq_false_iff_ne]; omega
 have m3:¬ k=3:=by omega
 have n4:(k==4)=false:=by rw [beq_eq_false_iff_ne]; omega
 have m4:¬ k=4:=by omega
 have n5:(k==5)=false:=by rw [beq_eq_false_iff_ne]; omega
 have m5:¬ k=5:=by omega
 have n6:(k==6)=false:=by rw [beq_eq_false_iff_ne]; omega
 have m6:¬ k=6:=by omega
 have n7:(k==7)=false:=by rw [beq_eq_false_iff_ne]; omega
 have m7:¬ k=7:=by omega
 have n8:(k==8)=false:=by rw [beq_eq_false_iff_ne]; omega
 have m8:¬ k=8:=by omega
 clear hI h0 hB hBX bW hk;go_enter Tryz.func13,Tryz.ntmps13
 go_upto_region 54 with fail
 clear hW;go_wp2;refine bodyPost_ret (v:=.tuple #[.agg (wdV s b d (.slice fa fl fc) (.slice oa on oc) (.slice ra rn rc) (.slice ta tn tc) (.slice xa xn xc) (.slice ya yn yc) (.slice za zn zc)),.bool true]) ?_ rfl ⟨rfl,?_⟩
 ·simp [results,Tryz.f13];go_simp
 ·have ht:=lay_all (W:=W) (w.heap.size+2) [.pointer (some ⟨b,0,none⟩),.pointer (some ⟨s,0,none⟩),.slice fa fl fc,.int .i64 (d.writes:Int),.bool d.armed,.bool d.dead,.int .i64 (d.after:Int),.int .i64 (d.keep:Int),.slice oa on oc,.slice ra rn rc,.slice ta tn tc,.slice xa xn xc,.slice ya yn yc,.slice za zn zc] 0;simp only [layL,Nat.reduceAdd] at ht;exact MD.out.done ht
end Go.Proofs.YtjlokpjflgbgdaaGreat

namespace Go.Proofs.YtjlokpjflgbgdaaGreat
open Go.RowKit
structure AV where
 k:Int
 da:Option Addr
 dn:Nat
 dc:Nat
 pa:Option Addr
 pn:Nat
 pc:Nat
 qa:Option Addr
 qn:Nat
 qc:Nat
 nm:ByteArray
 dt:Int
 kp:Int
abbrev AV.val (a:AV):Value:=actV a.k (.slice a.da a.dn a.dc) (.slice a.pa a.pn a.pc) (.slice a.qa a.qn a.qc) a.nm a.dt a.kp
def encA:Enc AV:=⟨λ a=>[.int .i64 a.k,.slice a.da a.dn a.dc,.slice a.pa a.pn a.pc,.slice a.qa a.qn a.qc,.string a.nm,.int .i64 a.dt,.int .i64 a.kp],7,λ _=>rfl,by decide,by intro x u h; simp at h; rcases h with rfl | rfl | rfl | rfl | rfl | rfl | rfl <;> rfl⟩
theorem RdG.acts {w:World} {b off:Nat} {l:List AV} (h:RdG encA w (some ⟨b,off,none⟩) l) {i:Nat} {a:AV} (hx:l[i]? = some a):b<w.heap.size/\w.cell? ⟨b,off+i*7,none⟩=some (.int .i64 a.k)/\w.cell? ⟨b,off+i*7+1,none⟩=some (.slice a.da a.dn a.dc)/\w.cell? ⟨b,off+i*7+2,none⟩=some (.slice a.pa a.pn a.pc)/\w.cell? ⟨b,off+i*7+3,none⟩=some (.slice a.qa a.qn a.qc)/\w.cell? ⟨b,off+i*7+4,none⟩=some (.string a.nm)/\w.cell? ⟨b,off+i*7+5,none⟩=some (.int .i64 a.dt)/\w.cell? ⟨b,off+i*7+6,none⟩=some (.int .i64 a.kp):=by
 obtain ⟨b', off', e', hlt, hc⟩ := h (by rcases Nat.lt_or_ge i l.length with q | q
                                         · omega
                                         · rw [List.getElem?_eq_none q] at hx; cases hx)
 obtain ⟨rfl,rfl⟩:b=b'/\off=off':=by simpa using e'
 have h0:=hc i a hx 0 _ rfl;have h1:=hc i a hx 1 _ rfl;have h2:=hc i a hx 2 _ rfl;have h3:=hc i a hx 3 _ rfl;have h4:=hc i a hx 4 _ rfl;have h5:=hc i a hx 5 _ rfl;have h6:=hc i a hx 6 _ rfl;refine ⟨hlt,?_,?_,?_,?_,?_,?_,?_⟩
 ·simpa [encA] using h0
 ·simpa [encA,Nat.add_assoc] using h1
 ·simpa [encA,Nat.add_assoc] using h2
 ·simpa [encA,Nat.add_assoc] using h3
 ·simpa [encA,Nat.add_assoc] using h4
 ·simpa [encA,Nat.add_assoc] using h5
 ·simpa [encA,Nat.add_assoc] using h6
structure ActAt (w:World) (a:AV) (data:Bs) (ps:List Bs) (qs:List Int):Prop where
 hd:BAt w (.slice a.da a.dn a.dc) data
 dl:data.length=a.dn
 dm:a.dn<=140737488355328
 hp:RdG encT w a.pa ps
 pl:ps.length=a.pn
 pm:a.pn*24<=140737488355328
 pf:∀ p∈ps,p.length<=9223372036854775807
 hq:RdG encI w a.qa qs
 ql:qs.length=a.qn
 qm:a.qn*8<=140737488355328
structure Acts (w:World) (ao:Option Addr) (n:Nat) (l:List AV):Prop where
 rd:RdG encA w ao l
 len:l.length=n
 each:∀ a∈l,∃ data ps qs,ActAt w a data ps qs
end Go.Proofs.YtjlokpjflgbgdaaGreat

namespace Go.Proofs.YtjlokpjflgbgdaaGreat
open Go.RowKit
def Rel (k:Int) (data:Bs) (ps:List Bs) (qs:List Int) (dt:Int) (st:St) (d:Dk) (bl tl cl:List UInt64) (st':St) (d':Dk) (bl' tl' cl':List UInt64):Prop :=
 (k<0/\st'=st/\d'=d/\bl'=bl/\tl'=tl/\cl'=cl) ∨
 (k=0/\∃ Q,sblob st d data=Q/\st'=Q.1.1/\d'=Q.1.2/\(bl'=if Q.2.2=0 then bl++[Q.2.1] else bl)/\tl'=tl/\cl'=cl) ∨
 (k=1/\∃ Q,stree st d (aents ps qs bl)=Q/\st'=Q.1.1/\d'=Q.1.2/\bl'=bl/\(tl'=if Q.2.2=0 then tl++[Q.2.1] else tl)/\cl'=cl) ∨
 (k=2/\∃ Q,scom st d (anode data qs dt tl cl)=Q/\st'=Q.1.1/\d'=Q.1.2/\bl'=bl/\tl'=tl/\(cl'=if Q.2.2=0 then cl++[Q.2.1] else cl))
theorem WI.form {B:Nat} {E:Nat->Prop} {w:World} {s b:Nat} {vf vo vr vt xb xt xc:Value} {U:Nat->Prop} {st:St} {d:Dk} {bl tl cl:List UInt64} (h:WI B E w s b vf vo vr vt xb xt xc U st d bl tl cl) :
  ∃ fa fl fc oa on oc ra rn rc ta tn tc xa xn xd ya yn yc za zn zc,vf=.slice fa fl fc/\vo=.slice oa on oc/\vr=.slice ra rn rc/\vt=.slice ta tn tc/\xb=.slice xa xn xd/\xt=.slice ya yn yc/\xc=.slice za zn zc:=by
 obtain ⟨fa,fl,fc,oa,on,oc,ra,rn,rc,ta,tn,tc,e,_⟩:=h.ref;obtain ⟨xa,xd,e1,_⟩:=h.ob.whole rfl;obtain ⟨ya,yc,e2,_⟩:=h.ot.whole rfl;obtain ⟨za,zc,e3,_⟩:=h.oc.whole rfl;simp at e;exact ⟨fa,fl,fc,oa,on,oc,ra,rn,rc,ta,tn,tc,xa,_,xd,ya,_,yc,za,_,zc,e.1,e.2.1,e.2.2.1,e.2.2.2,e1,e2,e3⟩
theorem WI.turn {B:Nat} {E G:Nat->Prop} {w w':World} {s b:Nat} {vf vo vr vt xb xt xc:Value} {U:Nat->Prop} {st:St} {d:Dk} {bl tl cl:List UInt64} (h:WI B E w s b vf vo vr vt xb xt xc U st d bl tl cl) (ht:Turned G w w') (hG:∀ i,G i->E i):WI B E w' s b vf vo vr vt xb xt xc U st d bl tl cl:=by
 have ne:∀ i,Rows U xb xt xc i->¬ G i:=λ i q r=>h.fe i q (hG i r)
 exact ⟨h.duo.stays ht (λ i q=>ne i (.inl q)),h.low,h.ref.turned ht (λ i q=>.inr (hG i q)),h.fe,λ i q=>Nat.lt_of_lt_of_le (h.elt i q) ht.size,h.ob.stays ht (λ g q=>ne g (.inr (.inl q))),h.ot.stays ht (λ g q=>ne g (.inr (.inr (.inl q)))),h.oc.stays ht (λ g q=>ne g (.inr (.inr (.inr q)))),h.fb,h.ft,h.fc,h.bt,h.bc,h.tc⟩
theorem enters_Play:∀ args w,(callFunc 13 args).run Tryz.prog w=.ok (.enter 13 args) w:=enters_of Tryz.func13 (by kernel_rfl) rfl
theorem play_all {B:Nat} {E:Nat->Prop} {w0 w:World} {s b:Nat} {fa oa ra ta xa ya za:Option Addr} {fl fc on oc rn rc tn tc xn xc yn yc zn zc:Nat} {U:Nat->Prop} {st:St} {d:Dk} {bl tl cl:List UInt64} {a:AV} {data:Bs} {ps:List Bs} {qs:List Int}
  (hI:WI B E w s b (.slice fa fl fc) (.slice oa on oc) (.slice ra rn rc) (.slice ta tn tc) (.slice xa xn xc) (.slice ya yn yc) (.slice za zn zc) U st d bl tl cl) (h0:Below B w0 w) (hB0:w0.heap.size=B) (hB:B<=w.heap.size) (hA:ActAt w0 a data ps qs) (hk:a.k<3) (hok:d.ok) (hw:d.writes<=1000000) (hsz:st.size<=1000000) (hbn:bl.length<=1000000) (htn:tl.length<=1000000) (hcn:cl.length<=1000000) :
  Calls Tryz.prog 13 #[.agg (wdV s b d (.slice fa fl fc) (.slice oa on oc) (.slice ra rn rc) (.slice ta tn tc) (.slice xa xn xc) (.slice ya yn yc) (.slice za zn zc)),a.val] w λ e w'=>∃ v,e=.returned v/\Hid (∃ fa' fl' fc' oa' on' oc' ra' rn' rc' ta' tn' tc' xa' xn' xc' ya' yn' yc' za' zn' zc' U' st' d' bl' tl' cl',v=.tuple #[.agg (wdV s b d' (.slice fa' fl' fc') (.slice oa' on' oc') (.slice ra' rn' rc') (.slice ta' tn' tc') (.slice xa' xn' xc') (.slice ya' yn' yc') (.slice za' zn' zc')),.bool true]/\WI B E w' s b (.slice fa' fl' fc') (.slice oa' on' oc') (.slice ra' rn' rc') (.slice ta' tn' tc') (.slice xa' xn' xc') (.slice ya' yn' yc') (.slice za' zn' zc') U' st' d' bl' tl' cl'/\Below B w0 w'/\(∀ i,E i->w'.heap[i]? = w.heap[i]?)/\OwnG encU 56 w' B (.slice xa xn xc) bl/\OwnG encU 56 w' B (.slice ya yn yc) tl/\OwnG encU 56 w' B (.slice za zn zc) cl/\Rel a.k data ps qs a.dt st d bl tl cl st' d' bl' tl' cl'):=by
 obtain ⟨k,da,dn,dc,pa,pn,pc,qa,qn,qc,nm,dt,kp⟩:=a;obtain ⟨a1,a2,a3,a4,a5,a6,a7,a8,a9,a10⟩:=hA;simp only at a1 a2 a3 a4 a5 a6 a7 a8 a9 a10 hk
 have hc:k<0∨k=0∨k=1∨k=2:=by omega
 rcases hc with q | rfl | rfl | rfl
 ·refine (play_none hI h0 hB k q _ _ _ nm dt kp).mono ?_;rintro e w' ⟨rfl,h⟩;obtain ⟨h1,h2,h3⟩:=h.out;exact ⟨_,rfl,_,_,_,_,_,_,_,_,_,_,_,_,_,_,_,_,_,_,_,_,_,_,_,_,_,_,_,rfl,h1,h2,h3,h1.ob,h1.ot,h1.oc,.inl ⟨q,rfl,rfl,rfl,rfl,rfl⟩⟩
 ·refine (play_blob hI h0 hB0 hB a1 a2 a3 hok hw hsz _ _ nm dt kp _ rfl _ rfl hbn).mono ?_;rintro e w' ⟨vf,vo,vr,vt,x,rfl,h⟩;obtain ⟨U',h1,h2,h3,h4⟩:=h.out;obtain ⟨fa',fl',fc',oa',on',oc',ra',rn',rc',ta',tn',tc',xa',xn',xc',_,_,_,_,_,_,rfl,rfl,rfl,rfl,rfl,_,_⟩:=h1.form;exact ⟨_,rfl,_,_,_,_,_,_,_,_,_,_,_,_,_,_,_,_,_,_,_,_,_,_,_,_,_,_,_,rfl,h1,h2,h3,h4,h1.ot,h1.oc,.inr (.inl ⟨rfl,_,rfl,rfl,rfl,rfl,rfl,rfl⟩)⟩
 ·refine (play_tree hI h0 hB0 hB a4 a5 a6 a7 a8 a9 (by omega) hok hw hsz _ nm dt kp _ rfl _ rfl hbn htn).mono ?_;rintro e w' ⟨vf,vo,vr,vt,x,rfl,h⟩;obtain ⟨U',h1,h2,h3,h4⟩:=h.out;obtain ⟨fa',fl',fc',oa',on',oc',ra',rn',rc',ta',tn',tc',_,_,_,ya',yn',yc',_,_,_,rfl,rfl,rfl,rfl,_,rfl,_⟩:=h1.form;exact ⟨_,rfl,_,_,_,_,_,_,_,_,_,_,_,_,_,_,_,_,_,_,_,_,_,_,_,_,_,_,_,rfl,h1,h2,h3,h1.ob,h4,h1.oc,.inr (.inr (.inl ⟨rfl,_,rfl,rfl,rfl,rfl,rfl,rfl⟩))⟩
 ·refine (play_com hI h0 hB0 hB a1 a8 a9 a10 hok hw hsz _ nm dt kp _ rfl _ rfl htn hcn).mono ?_;rintro e w' ⟨vf,vo,vr,vt,x,rfl,h⟩;obtain ⟨U',h1,h2,h3,h4⟩:=h.out;obtain ⟨fa',fl',fc',oa',on',oc',ra',rn',rc',ta',tn',tc',_,_,_,_,_,_,za',zn',zc',rfl,rfl,rfl,rfl,_,_,rfl⟩:=h1.form;exact ⟨_,rfl,_,_,_,_,_,_,_,_,_,_,_,_,_,_,_,_,_,_,_,_,_,_,_,_,_,_,_,rfl,h1,h2,h3,h1.ob,h1.ot,h4,.inr (.inr (.inr ⟨rfl,_,rfl,rfl,rfl,rfl,rfl,rfl⟩))⟩
end Go.Proofs.YtjlokpjflgbgdaaGreat

namespace Go.Proofs.YtjlokpjflgbgdaaGreat
open Go.RowKit
def Calm (d:Dk):Prop:=d.armed=false/\d.dead=false
theorem dlay_calm {d:Dk} (h:Calm d) (n own more:Bs):Calm (dlay d n own more).1/\((dlay d n own more).2≠0->(dlay d n own more).1=d):=by
 obtain ⟨ha,hd⟩:=h
 have e:dnext d=({ d with writes:=d.writes+1 },true,false):=by
  unfold dnext;rw [ha,hd];simp
 unfold dlay;rw [e];by_cases h1:isName n=false
 ·rw [if_pos h1]; exact ⟨⟨ha,hd⟩,λ _=>rfl⟩
 rw [if_neg h1];by_cases h2:262144<own.length+more.length∨(fget d.files n=none/\32<=d.files.length)
 ·rw [if_pos h2]; exact ⟨⟨ha,hd⟩,λ _=>rfl⟩
 rw [if_neg h2];exact ⟨⟨ha,hd⟩,λ q=>absurd rfl q⟩
section
variable {co:Array Value} {B R O:Nat} {w0 u u':World} {s b:Nat} {vf vo vr vt xb xt xc:Value} {U:Nat->Prop} {st:St} {d:Dk} {bl tl cl:List UInt64}
end
end Go.Proofs.YtjlokpjflgbgdaaGreat

namespace Go.Proofs.YtjlokpjflgbgdaaGreat
open Go.RowKit
theorem sealB_parts (k:Int) (body rest:Bs):sealB k body++rest=b4 body.length++(UInt8.ofNat k.toNat::(body++(b4 (crc (headB k body))++rest))):=by
 simp [sealB,headB]
theorem take4 (n:Nat) (t:Bs):(b4 n++t).take 4=b4 n:=by
 rw [List.take_append_of_le_length (by rw [b4_len]; exact Nat.le_refl _),List.take_of_length_le (by rw [b4_len]; exact Nat.le_refl _)]
theorem fopen_seal {k:Int} {body:Bs} (rest:Bs) (h0:0<=k) (h1:k<=255) (hl:body.length<=8192):fopen (sealB k body++rest)=((k,body),9+body.length,0):=by
 have hp:=sealB_parts k body rest
 have ht:(sealB k body++rest).take 4=b4 body.length:=by rw [hp,take4]
 have hv:val ((sealB k body++rest).take 4)=body.length:=by rw [ht,val_b4 (by omega)]
 have hlen:(sealB k body++rest).length=9+body.length+rest.length:=by rw [List.length_append,sealB_len]
 have hh:(sealB k body++rest).take (5+body.length)=headB k body:=by
  rw [sealB,List.append_assoc,List.take_append_of_le_length (by rw [headB_len]; exact Nat.le_refl _),List.take_of_length_le (by rw [headB_len]; exact Nat.le_refl _)]
 have hd:(sealB k body++rest).drop (5+body.length)=b4 (crc (headB k body))++rest:=by
  rw [sealB,List.append_assoc,List.drop_append_of_le_length (by rw [headB_len]; exact Nat.le_refl _),List.drop_of_length_le (by rw [headB_len]; exact Nat.le_refl _),List.nil_append]
 have h4:(sealB k body++rest).getD 4 0=UInt8.ofNat k.toNat:=by rw [hp]; rfl
 have h5:((sealB k body++rest).drop 5).take body.length=body:=by
  rw [hp];show (body++_).take body.length=body;rw [List.take_append_of_le_length (Nat.le_refl _),List.take_of_length_le (Nat.le_refl _)]
 unfold fopen;rw [hv,if_neg (by omega),if_neg (by omega),if_neg (by omega),hh,hd,take4,val_b4 (crc_lt _),if_neg (by simp),h4,h5]
 have e:((UInt8.ofNat k.toNat).toNat:Int)=k:=by rw [UInt8.toNat_ofNat']; omega
 rw [e]
theorem fseal_ok {k:Int} {body:Bs} (h0:0<=k) (h1:k<=255) (hl:body.length<=8192):fseal (k,body)=(sealB k body,0):=by
 unfold fseal;rw [if_neg (by simp only; omega),if_neg (by simp only; omega)]
theorem fopen_ext {b c:Bs} (h:(fopen b).2.2=0) (he:c.take (fopen b).2.1=b.take (fopen b).2.1) (hl:(fopen b).2.1<=c.length):fopen c=fopen b:=by
 obtain ⟨h1,h2,h3,h4,h5⟩:=fopen_ok h;rw [h5] at he hl ⊢;simp only at he hl
 obtain ⟨v,hv⟩:∃ v,val (b.take 4)=v:=⟨_,rfl⟩
 rw [hv] at h2 h3 h4 h5 he hl ⊢
 have tk:∀ k,k<=9+v->c.take k=b.take k:=by
  intro k hk;have:=congrArg (List.take k) he;rw [List.take_take,List.take_take,Nat.min_eq_left hk] at this;exact this
 have dt:∀ i k,i+k<=9+v->(c.drop i).take k=(b.drop i).take k:=by
  intro i k hk;have:=congrArg (List.drop i) (tk (i+k) hk);rw [List.drop_take,List.drop_take,show i+k - i=k by omega] at this;exact this
 have g4:c.getD 4 0=b.getD 4 0:=by
  have e:=congrArg (λ l:Bs=>l[4]?) (tk 5 (by omega));simp only [List.getElem?_take] at e;simp only [show (4:Nat)<5 by omega,if_true] at e;rw [List.getD_eq_getElem?_getD,List.getD_eq_getElem?_getD,e]
 have hv':val (c.take 4)=v:=by rw [tk 4 (by omega),hv]
 unfold fopen;rw [hv',if_neg (by omega),if_neg (by omega),if_neg (by omega),dt (5+v) 4 (by omega),tk (5+v) (by omega),if_neg (by rw [h4]; simp),g4,dt 5 v (by omega)]
theorem fopen_app {b:Bs} (r:Bs) (h:(fopen b).2.2=0):fopen (b++r)=fopen b:=by
 have h9:=fopen_n h;exact fopen_ext h (List.take_append_of_le_length h9.2.1) (by rw [List.length_append]; omega)
theorem sread_app:∀ (n:Nat) (b r:Bs) (s0 st:St),b.length<=n->sread s0 b=(st,b.length)->sread s0 (b++r)=((sread st r).1,b.length+(sread st r).2)
 | n,b,r,s0,st,hn,h=>by
  by_cases h0:b=[]
  ·subst h0;rw [sread_nil] at h;cases h;simp
  ·have hp:0<b.length:=by
    rcases b with _ | _
    ·exact absurd rfl h0
    ·simp
   by_cases hf:(fopen b).2.2=0/\s0.fits (fopen b).1=true
   ·rw [sread_step hp hf] at h;have h9:=fopen_n hf.1;obtain ⟨e1,e2⟩:=Prod.mk.inj h
    obtain ⟨k,hk⟩:∃ k,(fopen b).2.1=k:=⟨_,rfl⟩
    have ih:sread (s0.take (fopen b).1) (b.drop (fopen b).2.1)=(st,(b.drop (fopen b).2.1).length):=by
     rw [List.length_drop];refine Prod.ext e1 ?_;show (sread _ _).2=_;omega
    cases n with
    | zero=>omega
    | succ n =>
     have:=sread_app n (b.drop (fopen b).2.1) r _ st (by rw [List.length_drop]; omega) ih;have ha:=fopen_app r hf.1;rw [sread_step (by rw [List.length_append]; omega) (by rw [ha]; exact hf),ha,List.drop_append_of_le_length h9.2.1,this,List.length_drop];refine Prod.ext rfl ?_;show _+(_+_)=_+_;omega
   ·rw [sread_stop hf] at h;have:=(Prod.mk.inj h).2;omega
theorem sread_take:∀ (n:Nat) (b:Bs) (s0:St),b.length<=n->sread s0 (b.take (sread s0 b).2)=sread s0 b
 | n,b,s0,hn=>by
  by_cases hf:0<b.length/\(fopen b).2.2=0/\s0.fits (fopen b).1=true
  ·have h9:=fopen_n hf.2.1;rw [sread_step hf.1 hf.2]
   cases n with
   | zero=>omega
   | succ n =>
    have ih:=sread_take n (b.drop (fopen b).2.1) (s0.take (fopen b).1) (by rw [List.length_drop]; omega)
    obtain ⟨m,hm⟩:∃ m,(sread (s0.take (fopen b).1) (b.drop (fopen b).2.1)).2=m:=⟨_,rfl⟩
    show sread s0 (b.take ((fopen b).2.1+(sread (s0.take (fopen b).1) (b.drop (fopen b).2.1)).2))=_
    have hb:fopen (b.take ((fopen b).2.1+(sread (s0.take (fopen b).1) (b.drop (fopen b).2.1)).2))=fopen b:=by
     refine fopen_ext hf.2.1 ?_ ?_
     ·rw [List.take_take,Nat.min_eq_left (by omega)]
     ·rw [List.length_take]; omega
    rw [sread_step (by rw [List.length_take]; omega) (by rw [hb]; exact hf.2),hb,List.drop_take,show (fopen b).2.1+(sread (s0.take (fopen b).1) (b.drop (fopen b).2.1)).2 - (fopen b).2.1=(sread (s0.take (fopen b).1) (b.drop (fopen b).2.1)).2 by omega,ih]
  ·have hs:sread s0 b=(s0,0):=by
    by_cases h0:b=[]
    ·rw [h0,sread_nil]
    ·refine sread_stop (λ q=>hf ⟨?_,q⟩)
     rcases b with _ | _
     ·exact absurd rfl h0
     ·simp
   rw [hs];simp [sread_nil]
theorem sread_seal {st:St} {f:Fr} (hf:st.fits f=true) (hl:f.2.length<=8192):sread st (sealB f.1 f.2)=(st.take f,(sealB f.1 f.2).length):=by
 have hk:=fits_kind hf;have ho:=fopen_seal (k:=f.1) (body:=f.2) [] (by omega) (by omega) hl;rw [List.append_nil] at ho;have e:((f.1,f.2):Fr)=f:=rfl;rw [sread_step (by rw [sealB_len]; omega) (by rw [ho]; exact ⟨rfl,hf⟩),ho];simp only;rw [List.drop_of_length_le (by rw [sealB_len]; exact Nat.le_refl _),sread_nil,sealB_len]
 rfl
def Stp (st:St) (d:Dk) (st':St) (d':Dk):Prop:=(st'=st/\d'=d)∨∃ f,st.fits f=true/\f.2.length<=8192/\st'=(sapp st d f).1/\d'=(sapp st d f).2.1
theorem sput_stp {st:St} {d:Dk} {k:Int} {b:Bs} (hk:k=1∨k=2∨k=3) (hr:st.right (k,b)=true) (hl:b.length<=8192):Stp st d (sput st d k b).1.1 (sput st d k b).1.2:=by
 unfold sput
 cases e:oget st.objs k (oid k b) with
 | some old =>
  simp only
  split <;> exact .inl ⟨rfl,rfl⟩
 | none =>
  simp only
  split
  ·exact .inl ⟨rfl,rfl⟩
  ·rename_i h0
   refine .inr ⟨(k,b),?_,hl,rfl,rfl⟩;unfold St.fits;rw [if_neg (by show ¬ (k=4∨k=5); omega),hr]
   have hh:st.has k (oid k b)=false:=by
    unfold St.has;rw [e]
    rfl
   simp [h0,hh]
theorem wstep_stp {v:Wd} (hst:v.st.ok) (a:Ac):Stp v.st v.d (wstep a v).st (wstep a v).d:=by
 unfold wstep
 split
 ·show Stp v.st v.d (sblob v.st v.d a.data).1.1 (sblob v.st v.d a.data).1.2;unfold sblob
  split
  ·exact .inl ⟨rfl,rfl⟩
  ·exact sput_stp (.inl rfl) (by unfold St.right; rw [if_pos rfl]; simp; omega) (by omega)
 ·split
  ·obtain ⟨es,hes⟩:∃ es,aents a.ps a.qs v.bl=es:=⟨_,rfl⟩
   show Stp v.st v.d (stree v.st v.d (aents a.ps a.qs v.bl)).1.1 (stree v.st v.d (aents a.ps a.qs v.bl)).1.2;rw [hes];unfold stree
   split
   ·exact .inl ⟨rfl,rfl⟩
   ·rename_i h1
    split
    ·exact .inl ⟨rfl,rfl⟩
    ·rename_i h2
     obtain ⟨c1,c2⟩:=ftree_zero (by simpa using h1);rw [c2];refine sput_stp (.inr (.inl rfl)) ?_ (tree_short c1);unfold St.right;rw [if_neg (by show ¬ (2:Int)=1; omega),if_pos rfl];simp only [rdtree_of c1];simpa using h2
  ·split
   ·obtain ⟨c,hc⟩:∃ c,anode a.data a.qs a.dt v.tl v.cl=c:=⟨_,rfl⟩
    show Stp v.st v.d (scom v.st v.d (anode a.data a.qs a.dt v.tl v.cl)).1.1 (scom v.st v.d (anode a.data a.qs a.dt v.tl v.cl)).1.2;rw [hc];unfold scom
    split
    ·exact .inl ⟨rfl,rfl⟩
    ·rename_i h1
     split
     ·exact .inl ⟨rfl,rfl⟩
     ·rename_i h2
      obtain ⟨c1,c2⟩:=fcom_zero (by simpa using h1);rw [c2]
      refine sput_stp (.inr (.inr rfl)) ?_ (by
       have h3:=(com_read c1).2.1;have h4:=ccom_ok c1
       omega)
      unfold St.right;rw [if_neg (by show ¬ (3:Int)=1; omega),if_neg (by show ¬ (3:Int)=2; omega),if_pos rfl];simp only [rdcom_of c1];simpa using h2
   ·split
    ·obtain ⟨i,hi⟩:∃ i,pickU v.cl (pickI a.qs 0)=i:=⟨_,rfl⟩
     show Stp v.st v.d (sref v.st v.d a.nm (pickU v.cl (pickI a.qs 0))).1 (sref v.st v.d a.nm (pickU v.cl (pickI a.qs 0))).2.1;rw [hi];unfold sref
     split
     ·exact .inl ⟨rfl,rfl⟩
     ·rename_i h1
      split
      ·exact .inl ⟨rfl,rfl⟩
      ·rename_i h2
       have h1':isName a.nm=true:=by simpa using h1
       exact .inr ⟨_,sref_fits hst h1' (by simpa using h2),lab_short i h1',rfl,rfl⟩
    ·split
     ·obtain ⟨i,hi⟩:∃ i,pickU v.cl (pickI a.qs 0)=i:=⟨_,rfl⟩
      show Stp v.st v.d (stag v.st v.d a.nm (pickU v.cl (pickI a.qs 0))).1 (stag v.st v.d a.nm (pickU v.cl (pickI a.qs 0))).2.1;rw [hi];unfold stag
      split
      ·exact .inl ⟨rfl,rfl⟩
      ·rename_i h1
       split
       ·exact .inl ⟨rfl,rfl⟩
       ·rename_i h2
        split
        ·exact .inl ⟨rfl,rfl⟩
        ·rename_i h3
         have h1':isName a.nm=true:=by simpa using h1
         have h2':v.st.has 3 i=true:=by simpa using h2
         have h3':(nget v.st.tags a.nm).isSome=false:=by simpa using h3
         refine .inr ⟨_,?_,lab_short i h1',rfl,rfl⟩;unfold St.fits;rw [if_pos (.inr rfl)];simp [labI_of,labN_of,labB_len,h1',h2',h3']
     ·split
      ·show Stp v.st v.d (sdrop v.st v.d a.nm).1 (sdrop v.st v.d a.nm).2.1;unfold sdrop
       split
       ·exact .inl ⟨rfl,rfl⟩
       ·rename_i h1
        split
        ·exact .inl ⟨rfl,rfl⟩
        ·rename_i h2
         have h1':isName a.nm=true:=by simpa using h1
         have h2':(nget v.st.refs a.nm).isSome=true:=by
          cases q:(nget v.st.refs a.nm).isSome with
          | true=>rfl
          | false=>exact absurd q h2
         refine .inr ⟨_,?_,lab_short 0 h1',rfl,rfl⟩;unfold St.fits;rw [if_pos (.inl rfl)];simp [labI_of,labN_of,labB_len,h1',h2']
      ·exact .inl ⟨rfl,rfl⟩
def Lk (st:St) (d:Dk):Prop:=(d.dead=false/\sread st0 (ofile d)=(st,(ofile d).length)) ∨
 (d.dead=true/\∃ good f m,ofile d=good++(sealB f.1 f.2).take m/\sread st0 good=(st,good.length)/\st.fits f=true/\f.2.length<=8192)
theorem Lk.start:Lk st0 dk0:=.inl ⟨rfl,by show sread st0 []=_; rw [sread_nil]; rfl⟩
theorem ofile_with {d:Dk} {x:Dk} {b:Bs} (hr:FRise d.files) (hx:x.files=fwith d.files fileN b):ofile x=b:=by
 unfold ofile;rw [hx,fget_with _ _ _ hr,if_pos rfl]
 rfl
theorem dapp_cases {d:Dk} (hd:FRise d.files) (b:Bs) :
  (∃ e,e≠0/\dapp d fileN b=(d,e)) ∨
  (d.dead=false/\∃ d',dapp d fileN b=(d',0)/\ofile d'=ofile d++b/\d'.dead=false) ∨
  (d.dead=false/\d.armed=true/\∃ d',dapp d fileN b=(d',8)/\ofile d'=ofile d++b.take d.keep/\d'.dead=true):=by
 unfold dapp dlay;rw [if_neg (by rw [fileN_name]; simp)]
 split
 ·exact .inl ⟨7,by decide,rfl⟩
 ·by_cases hdead:d.dead=true
  ·left
   have e:dnext d=(d,false,false):=by unfold dnext; rw [if_pos hdead]
   rw [e];exact ⟨8,by decide,rfl⟩
  ·have hdf:d.dead=false:=by simpa using hdead
   by_cases ha:(d.armed&&d.after==0)=true
   ·right; right
    have e:dnext d=({ d with dead:=true,armed:=false },false,true):=by unfold dnext; rw [if_neg hdead,if_pos ha]
    rw [e]
    have ha2:d.armed=true:=by rw [Bool.and_eq_true] at ha; exact ha.1
    exact ⟨hdf,ha2,_,rfl,ofile_with hd rfl,rfl⟩
   ·right; left
    have e:dnext d=({ d with after:=if d.armed then d.after - 1 else d.after,writes:=d.writes+1 },true,false):=by unfold dnext; rw [if_neg hdead,if_neg ha]
    rw [e];exact ⟨hdf,_,rfl,ofile_with hd rfl,hdf⟩
theorem sapp_cases {st:St} {d:Dk} {f:Fr} (hd:FRise d.files) (hf:st.fits f=true) (hl:f.2.length<=8192) :
  ((sapp st d f).1=st/\(sapp st d f).2.1=d) ∨
  (d.dead=false/\(sapp st d f).1=st.take f/\ofile (sapp st d f).2.1=ofile d++sealB f.1 f.2/\(sapp st d f).2.1.dead=false) ∨
  (d.dead=false/\d.armed=true/\(sapp st d f).1=st/\ofile (sapp st d f).2.1=ofile d++(sealB f.1 f.2).take d.keep/\(sapp st d f).2.1.dead=true):=by
 have hk:=fits_kind hf;have hs:fseal f=(sealB f.1 f.2,0):=fseal_ok (k:=f.1) (body:=f.2) (by omega) (by omega) hl;unfold sapp;rw [hs]
 rcases dapp_cases hd (sealB f.1 f.2) with ⟨e,h0,h1⟩ | ⟨h0,d',h1,h2,h3⟩ | ⟨h0,ha,d',h1,h2,h3⟩
 ·left
  rw [h1];simp [h0]
 ·right; left
  rw [h1];exact ⟨h0,by simp,h2,h3⟩
 ·right; right
  rw [h1];exact ⟨h0,ha,by simp,h2,h3⟩
theorem Lk.step {st st':St} {d d':Dk} (h:Lk st d) (hd:FRise d.files) (hs:Stp st d st' d'):Lk st' d':=by
 rcases hs with ⟨rfl,rfl⟩ | ⟨f,hf,hl,rfl,rfl⟩
 ·exact h
 ·rcases sapp_cases hd hf hl with ⟨e1,e2⟩ | ⟨e0,e1,e2,e3⟩ | ⟨e0,_,e1,e2,e3⟩
  ·rw [e1,e2]; exact h
  ·rw [e1]
   rcases h with ⟨_,h⟩ | ⟨h,_⟩
   ·refine .inl ⟨e3,?_⟩;rw [e2,sread_app _ _ _ _ _ (Nat.le_refl _) h,sread_seal hf hl,List.length_append]
   ·rw [e0] at h; cases h
  ·rw [e1]
   rcases h with ⟨_,h⟩ | ⟨h,_⟩
   ·exact .inr ⟨e3,_,f,_,e2,h,hf,hl⟩
   ·rw [e0] at h; cases h
theorem has_take {st:St} (f:Fr) {k:Int} {i:UInt64} (h:st.has k i=true):(st.take f).has k i=true:=by
 unfold St.take
 split
 ·exact h
 ·split
  ·exact h
  ·exact has_snoc h
theorem sopen_calm {d:Dk} (hc:Calm d) (hr:FRise d.files):(sopen d).2.2=0/\(sopen d).1=(sread st0 (ofile d)).1/\Calm (sopen d).2.1/\ofile (sopen d).2.1=(ofile d).take (sread st0 (ofile d)).2/\(sopen d).2.1.writes<=d.writes+1/\((sread st0 (ofile d)).2=(ofile d).length->(sopen d).2.1=d):=by
 obtain ⟨ha,hd⟩:=hc;have hle:=(sread_ok (ofile d) St.ok0 rfl).2.2;unfold sopen
 split
 ·rename_i hlt
  have e:dnext d=({ d with writes:=d.writes+1 },true,false):=by
   unfold dnext;rw [ha,hd];simp
  obtain ⟨b,hb⟩:∃ b,fget d.files fileN=some b:=by
   cases q:fget d.files fileN with
   | some b=>exact ⟨b,rfl⟩
   | none =>
    have:ofile d=[]:=by unfold ofile; rw [q]; rfl
    rw [this] at hlt;simp at hlt
  have hob:ofile d=b:=by unfold ofile; rw [hb]; rfl
  have ht:dtrim d fileN ((sread st0 (ofile d)).2:Int)=({ d with writes:=d.writes+1,files:=fwith d.files fileN (b.take (sread st0 (ofile d)).2) },0):=by
   unfold dtrim;rw [if_neg (by rw [fileN_name]; simp),hb];simp only;rw [if_neg (by rw [<- hob]; omega),e];simp
  rw [ht];simp only [if_true];refine ⟨trivial,trivial,⟨ha,hd⟩,?_,Nat.le_refl _,λ q=>absurd q (by omega)⟩;rw [ofile_with hr rfl,hob]
 ·rename_i hge
  refine ⟨rfl,rfl,⟨ha,hd⟩,?_,Nat.le_succ _,λ _=>rfl⟩;show ofile d=_;rw [List.take_of_length_le (by omega)]
end Go.Proofs.YtjlokpjflgbgdaaGreat
