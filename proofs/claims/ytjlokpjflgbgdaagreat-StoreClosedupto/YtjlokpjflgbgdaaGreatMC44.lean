/-
  The walk of StoreClosed.
-/
import Derived.Test.YtjlokpjflgbgdaaGreatMC43
set_option maxHeartbeats 6400000
set_option maxRecDepth 100000
namespace Go.Proofs.YtjlokpjflgbgdaaGreat
open Go.RowKit
structure MC (B R:Nat) (w0 u:World) (s b:Nat) (cs:Array Value) (st:St) (d:Dk) (S T:Nat->Prop):Prop where
 box:BoxA u R 35 cs
 sto:StoreAt u s b st S
 dsk:DiskAt u b d T
 far:∀ i,S i->¬ T i
 nr:¬ T R
 lt:∀ i,T i->B<=i
 bel:Below B w0 u
 low:B<=R
theorem WI.mc {B R:Nat} {w0 u:World} {s b:Nat} {vf vo vr vt xb xt xc:Value} {U:Nat->Prop} {v:Wd} {cs:Array Value} (h:WI B (λ j=>j=R) u s b vf vo vr vt xb xt xc U v.st v.d v.bl v.tl v.cl) (hb:BoxA u R 35 cs) (h0:Below B w0 u) (hR:B<=R):∃ S T,MC B R w0 u s b cs v.st v.d S T:=by
 obtain ⟨S,T,h1,h2,h3,h4,h5⟩:=h.duo;exact ⟨S,T,hb,h1,h2,h3,λ q=>h.fe R (.inl (h4 R (.inr q))) rfl,λ i q=>h.low i (h4 i (.inr q)),h0,hR⟩
theorem MC.below {B R:Nat} {w0 u u':World} {s b:Nat} {cs:Array Value} {st:St} {d:Dk} {S T:Nat->Prop} (h:MC B R w0 u s b cs st d S T) (hb:Below u.heap.size u u'):MC B R w0 u' s b cs st d S T :=
 ⟨h.box.below hb h.box.lt,h.sto.below hb,h.dsk.below hb,h.far,h.nr,h.lt,h.bel.trans (hb.mono (Nat.le_trans h.low (Nat.le_of_lt h.box.lt))),h.low⟩
theorem MC.turn {B R:Nat} {w0 u u':World} {s b:Nat} {cs:Array Value} {st:St} {d d':Dk} {S T T':Nat->Prop} (h:MC B R w0 u s b cs st d S T) (ht:Turned T u u') (hd:DiskAt u' b d' T') (hT:∀ i,T' i->T i∨u.heap.size<=i):MC B R w0 u' s b cs st d' S T':=by
 have hs:=h.sto.lt;have hu:B<=u.heap.size:=Nat.le_trans h.low (Nat.le_of_lt h.box.lt);refine ⟨h.box.turned ht h.nr,h.sto.stays ht h.far,hd,λ i q r=>?_,λ r=>?_,λ i r=>?_,h.bel.trans (ht.below hu (λ k hk q=>by have:=h.lt k q; omega)),h.low⟩
 ·rcases hT i r with r | r
  ·exact h.far i q r
  ·have:=hs i q;omega
 ·rcases hT R r with r | r
  ·exact h.nr r
  ·have:=h.box.lt;omega
 ·rcases hT i r with r | r
  ·exact h.lt i r
  ·omega
theorem MC.appends {B R:Nat} {w0 u:World} {s b:Nat} {cs:Array Value} {st:St} {d:Dk} {S T:Nat->Prop} (h:MC B R w0 u s b cs st d S T) (hok:d.ok) (hw:d.writes<=1000000) {v:Value} {raw:Bs} (hp:PartsB u v [raw]) (hl:raw.length<=1048576) :
  Calls Tryz.prog 25 #[.pointer (some ⟨b,0,none⟩),tx fileN,v] u λ e u'=>∃ r,e=.returned (.int .i64 r)/\Hid (r=(dapp d fileN raw).2/\∃ T',MC B R w0 u' s b cs st (dapp d fileN raw).1 S T'):=by
 refine (append_at h.dsk hok (by omega) fileN (by decide) hp (by simp) (λ x hx=>by rw [List.mem_singleton] at hx; rw [hx]; omega)).mono ?_;rintro e u' ⟨r,rfl,hr,k1,k2⟩
 have ef:[raw].flatten=raw:=by simp
 rw [ef] at hr k1;exact ⟨r,rfl,hr.out,_,h.turn k2 k1 (λ i q=>q.imp id (λ q=>q.1))⟩
theorem MC.opens {B R:Nat} {w0 u:World} {s b:Nat} {cs:Array Value} {st:St} {d:Dk} {S T:Nat->Prop} (h:MC B R w0 u s b cs st d S T) (hok:d.ok) (hw:d.writes<=1000000) (hc:Calm d) :
  Calls Tryz.prog 20 #[.pointer (some ⟨b,0,none⟩)] u λ e u'=>∃ t,e=.returned (.tuple #[.pointer (some ⟨t,0,none⟩),.int .i64 0])/\Hid (∃ S3 T',MC B R w0 u' s b cs st (sopen d).2.1 S T'/\MC B R w0 u' t b cs (sopen d).1 (sopen d).2.1 S3 T'):=by
 refine (open_store h.dsk hok hw).mono ?_;rintro e u' ⟨T',hL,hcs⟩;obtain ⟨k1,k2,k3⟩:=hL.out;have m:=h.turn k3 k1 k2
 rcases hcs with ⟨h0,s2,rfl,hs⟩ | ⟨r,rfl,hr⟩
 ·obtain ⟨S2,q1,q2⟩:=hs.out;exact ⟨s2,rfl,S2,T',m,⟨m.box,q1,m.dsk,λ i q=>(q2 i q).2,m.nr,m.lt,m.bel,m.low⟩⟩
 ·exact absurd (hr.out.1.symm.trans (sopen_calm hc hok.rise).1) hr.out.2
structure SE (B:Nat) (w0 u:World) (s b:Nat) (la:Option Addr) (st:St):Prop where
 sto:∃ S,StoreAt u s b st S
 rd:RdG encU u la st.coms
 bel:Below B w0 u
 low:B<=u.heap.size
theorem SE.below {B:Nat} {w0 u u':World} {s b:Nat} {la:Option Addr} {st:St} (h:SE B w0 u s b la st) (hb:Below u.heap.size u u'):SE B w0 u' s b la st :=
 ⟨h.sto.imp (λ _ q=>q.below hb),h.rd.below hb,h.bel.trans (hb.mono h.low),Nat.le_trans h.low hb.size⟩
theorem closed_walk {w:World} {ao rwa:Option Addr} {n c rwn rwc:Nat} {l:List AV} {raw:Bs} (hA:Acts w ao n l) (hN:∀ a∈l,a.nm.size<=140737488355328) (hn:n<=4000000000000000000) (hraw:BAt w (.slice rwa rwn rwc) raw) (hrl:raw.length<=1048576) :
  Calls Tryz.prog 5 #[.slice ao n c,.slice rwa rwn rwc] w λ e w'=>e=.returned (.bool true)/\Below w.heap.size w w':=by
 have HA:Hid (Acts w ao n l/\(∀ a∈l,a.nm.size<=140737488355328)/\BAt w (.slice rwa rwn rwc) raw/\raw.length<=1048576):=⟨hA,hN,hraw,hrl⟩
 clear hA hN hraw hrl;go_enter Tryz.func5,Tryz.ntmps5;go_wp2_with fail;refine (awake_any w).mono ?_;rintro e w1 ⟨rfl,b1⟩;have B1:Hid (Below w.heap.size w w1):=b1;clear b1;go_wp2_with fail;refine (fresh_any w1).mono ?_;rintro e w2 ⟨s,b,rfl,H2⟩
 obtain ⟨R,hR⟩:∃ R,w2.heap.size=R:=⟨_,rfl⟩
 have L1:Hid (∃ v:Wd,(v.good 0/\Calm v.d)/\WB w.heap.size R w (w2.alloc (.cells (wdV s b dk0 nilV nilV nilV nilV nilV nilV nilV) 35)) v):=by
  rw [<- hR];have h:=WB.start B1.out H2.out.1 H2.out.2;exact ⟨wd0,⟨wd0_good,rfl,rfl⟩,s,b,none,0,0,none,0,0,none,0,0,none,0,0,none,0,0,none,0,0,none,0,0,_,h.1,h.2.1,h.2.2.1,h.2.2.2⟩
 have HRB:Hid (w.heap.size<=R):=by
  rw [<- hR];have:=B1.out.size;have:=H2.out.2.size;show w.heap.size<=_;omega
 clear H2
 go_upto_region 4 with fail
 clear hR;go_wp2_with fail;go_loopg [6,7] (min n 40) (λ m ov iv wr=>ov=.bool true/\∃ i:Nat,iv=.int .i64 i/\i+m=min n 40/\Hid (∃ v:Wd,(v.good i/\Calm v.d)/\WB w.heap.size R w wr v))
 case atStart=>exact ⟨rfl,0,rfl,by omega,L1.out⟩
 case round =>
  obtain ⟨rfl,i,rfl,hi,HR⟩:=hrel;clear L1;obtain ⟨v,hv,hwb⟩:=HR.out
  have HV:Hid ((v.good i/\Calm v.d)/\WB w.heap.size R w wr v):=⟨hv,hwb⟩
  clear HR hv;obtain ⟨s,b,fa,fl,fc,oa,on,oc,ra,rn,rc,ta,tn,tc,xa,xn,xc,ya,yn,yc,za,zn,zc,U,h1,h2,h4,h5⟩:=hwb
  have HW:Hid (WI w.heap.size (λ j=>j=R) wr s b (.slice fa fl fc) (.slice oa on oc) (.slice ra rn rc) (.slice ta tn tc) (.slice xa xn xc) (.slice ya yn yc) (.slice za zn zc) U v.st v.d v.bl v.tl v.cl/\BoxA wr R 35 (wdV s b v.d (.slice fa fl fc) (.slice oa on oc) (.slice ra rn rc) (.slice ta tn tc) (.slice xa xn xc) (.slice ya yn yc) (.slice za zn zc))/\Below w.heap.size w wr):=⟨h1,h2,h4⟩
  clear h1 h2 h4 h5
  go_upto_region 5 with fail
  go_cut [43] from 36 to 62 (λ tv u=>∃ f,u=wr/\tv=.bool f/\Hid (f=true->i<min n 40))
  case first =>
   by_cases hin:i<n
   ·have id:(i:Int)<(n:Int):=by omega
    have id2:decide ((i:Int)<(n:Int))=true:=by simpa using id
    by_cases h40:i<40
    ·have i6:(i:Int)<40:=by omega
     have i62:decide ((i:Int)<40)=true:=by simpa using i6
     go_wp2_with fail;go_meet;exact ⟨_,rfl,rfl,λ _=>by omega⟩
    ·have i6:¬ (i:Int)<40:=by omega
     have i62:decide ((i:Int)<40)=false:=by simpa using i6
     go_wp2_with fail;go_meet;exact ⟨_,rfl,rfl,λ q=>(by cases q)⟩
   ·have id:¬ (i:Int)<(n:Int):=by omega
    have id2:decide ((i:Int)<(n:Int))=false:=by simpa using id
    go_wp2_with fail;go_meet;exact ⟨_,rfl,rfl,λ q=>(by cases q)⟩
  case rest =>
   obtain ⟨f,rfl,rfl,HF⟩:=hcut
   cases f with
   | true =>
    have hin:=HF.out rfl
    have id:(i:Int)<(n:Int):=by omega
    have id0:(0:Int)<=(i:Int):=by omega
    obtain ⟨a,ha⟩:=get_some HA.out.1.len (show i<n by omega);obtain ⟨g,off,rfl,hlt⟩:=HA.out.1.rd.some_of ha;have HAC:=hid ((HA.out.1.rd.below HW.out.2.2).acts ha);obtain ⟨hbw,c0,c1,c2,c3,c4,c5',c6⟩:=HAC.out;have hnm:=HA.out.2.1 a (List.mem_of_getElem? ha);obtain ⟨data,ps,qs,hAt⟩:=HA.out.1.each a (List.mem_of_getElem? ha)
    obtain ⟨ak,hak⟩:∃ ak,a.k=ak:=⟨_,rfl⟩
    rw [hak] at c0
    have HG:Hid (∀ ac,(wstep ac v).good (i+1)/\Calm (wstep ac v).d):=λ ac=>⟨HV.out.1.1.step ac,(wstep_stp HV.out.1.1.fine.st ac).calm HV.out.1.2⟩
    have HK:Hid (a.k=ak):=hak;clear hak HF;by_cases h6:ak<6
    ·have PA:=hid (play6 (w0:=w) (v:=v) (a:=a) (N:=i) (HW.out.1.below (Below.refl _ _).drew) HW.out.2.2.drew rfl (Nat.le_trans HW.out.2.2.size (Nat.le_refl _)) hAt hnm (by rw [HK.out]; exact h6) HV.out.1.1.fine (by omega));obtain ⟨k,da,dn,dc,pa,pn,pc,qa,qn,qc,nm,dt,kp⟩:=a;obtain rfl:k=ak:=HK.out;simp only at c1 c2 c3 c4 c5' c6;clear ha hAt hnm HV HK
     go_upto_region 10 with fail
     have p0:=HW.out.2.1.cell (j:=0) rfl;have p1:=HW.out.2.1.cell (j:=1) rfl;have p2:=HW.out.2.1.cell (j:=2) rfl;have p3:=HW.out.2.1.cell (j:=3) rfl;have p4:=HW.out.2.1.cell (j:=4) rfl;have p5:=HW.out.2.1.cell (j:=5) rfl;have p6:=HW.out.2.1.cell (j:=6) rfl;have p7:=HW.out.2.1.cell (j:=7) rfl;have p8:=HW.out.2.1.cell (j:=8) rfl;have p9:=HW.out.2.1.cell (j:=9) rfl;have p10:=HW.out.2.1.cell (j:=10) rfl;have p11:=HW.out.2.1.cell (j:=11) rfl;have p12:=HW.out.2.1.cell (j:=12) rfl;have p13:=HW.out.2.1.cell (j:=13) rfl
     go_region_law
      (first
       | (refine step_call2 rfl (.tmp 55) (.tmp 59) 13 #[35,43] rfl enters_Play (.agg (wdV s b v.d (.slice fa fl fc) (.slice oa on oc) (.slice ra rn rc) (.slice ta tn tc) (.slice xa xn xc) (.slice ya yn yc) (.slice za zn zc))) (actV k (.slice da dn dc) (.slice pa pn pc) (.slice qa qn qc) nm dt kp) (by simp [Act.eval]) (by simp [Act.eval]) _ PA.out ?_; intro v3 w3 h3; obtain ⟨fa',fl',fc',oa',on',oc',ra',rn',rc',ta',tn',tc',xa',xn',xc',ya',yn',yc',za',zn',zc',U',e3,q1,q2,q3⟩:=h3.out; subst e3; have kR:BoxA w3 R 35 (wdV s b v.d (.slice fa fl fc) (.slice oa on oc) (.slice ra rn rc) (.slice ta tn tc) (.slice xa xn xc) (.slice ya yn yc) (.slice za zn zc)):=(q3 R rfl).trans HW.out.2.1; have H9:=hid (WB.stored q1 q2 kR ⟨_,_,_,_,_,_,_,_,_,_,_,_,_,_,rfl⟩ HRB.out); have k0:=kR.cell (j:=0) rfl; have f0:=kR.thaw 0; have k1:=kR.cell (j:=1) rfl; have f1:=kR.thaw 1; have k2:=kR.cell (j:=2) rfl; have f2:=kR.thaw 2; have k3:=kR.cell (j:=3) rfl; have f3:=kR.thaw 3; have k4:=kR.cell (j:=4) rfl; have f4:=kR.thaw 4; have k5:=kR.cell (j:=5) rfl; have f5:=kR.thaw 5; have k6:=kR.cell (j:=6) rfl; have f6:=kR.thaw 6; have k7:=kR.cell (j:=7) rfl; have f7:=kR.thaw 7; have k8:=kR.cell (j:=8) rfl; have f8:=kR.thaw 8; have k9:=kR.cell (j:=9) rfl; have f9:=kR.thaw 9; have k10:=kR.cell (j:=10) rfl; have f10:=kR.thaw 10; have k11:=kR.cell (j:=11) rfl; have f11:=kR.thaw 11; have k12:=kR.cell (j:=12) rfl; have f12:=kR.thaw 12; have k13:=kR.cell (j:=13) rfl; have f13:=kR.thaw 13; clear h3 q1 q2 q3 kR)
       | fail)
     all_goals
      simp only [layL,Nat.reduceAdd] at H9;clear k0 k1 k2 k3 k4 k5 k6 k7 k8 k9 k10 k11 k12 k13 p0 p1 p2 p3 p4 p5 p6 p7 p8 p9 p10 p11 p12 p13 c0 c1 c2 c3 c4 c5' c6;go_wp2;go_roundg (gk - 1)
      case measure=>omega
      case rel=>exact ⟨rfl,i+1,by go_num,by omega,_,HG.out _,H9.out⟩
    ·have FIN:=hid (⟨v,⟨HV.out.1.1.more,HV.out.1.2⟩,HV.out.2⟩:∃ v:Wd,(v.good (i+1)/\Calm v.d)/\WB w.heap.size R w _ v);clear c1 c2 c3 c4 c5' c6 ha hAt hnm HV HW HAC HG HK;go_wp2;go_roundg (gk - 1)
     case measure=>omega
     case rel=>exact ⟨rfl,i+1,by go_num,by omega,FIN.out⟩
   | false =>
    clear HF;obtain ⟨S0,T0,hmc⟩:=HW.out.1.mc HW.out.2.1 HW.out.2.2 HRB.out
    have GV:Hid (v.good i/\Calm v.d/\i<=40):=⟨HV.out.1.1,HV.out.1.2,by omega⟩
    have M0:=hid hmc;clear HV HW hmc;have p0:=M0.out.box.cell (j:=0) rfl;have hrb:=BAt.below HA.out.2.2.1 M0.out.bel;have hpa:PartsB (wc.alloc (.cells #[.slice rwa rwn rwc] 39)) (.slice (some ⟨wc.heap.size,0,none⟩) 1 1) [raw]:=parts_one hrb 39;have hap:=(M0.out.below (bz1 wc (.cells #[.slice rwa rwn rwc] 39))).appends GV.out.1.fine.d (by have:=GV.out.1.fine.writes; have:=GV.out.2.2; omega) hpa HA.out.2.2.2;have hkind:=hid (dapp_calm GV.out.2.1 GV.out.1.fine.d.rise raw)
    obtain ⟨d2,hd2⟩:∃ d2,(dapp v.d fileN raw).1=d2:=⟨_,rfl⟩
    rw [hd2] at hap;have HD2:=hid hd2;clear hpa hrb hd2;go_wp2_with fail;refine hap.mono ?_;rintro e w4 ⟨r,rfl,J4⟩;clear hap p0
    rcases hkind.out with q7 | ⟨q0,qc,qf⟩
    ·obtain rfl:r=7:=by rw [J4.out.1,q7]
     have FIN:Hid (Below w.heap.size w w4):=by
      obtain ⟨T',h⟩:=J4.out.2;exact h.bel
     clear J4 hkind q7 HD2 M0;go_wp2;go_ret;exact ⟨rfl,FIN.out⟩
    ·obtain rfl:r=0:=by rw [J4.out.1,q0]
     rw [HD2.out] at qc qf
     have G2:Hid (Calm d2/\ofile d2=ofile v.d++raw/\d2.ok/\d2.writes<=100):=by
      refine ⟨qc,qf,?_,?_⟩
      ·rw [<- HD2.out]; exact ok_app GV.out.1.fine.d _ _
      ·rw [<- HD2.out];have:=wr_lay v.d fileN ((fget v.d.files fileN).getD []) raw;have:=GV.out.1.fine.writes;have:=GV.out.2.2;show (dlay v.d fileN ((fget v.d.files fileN).getD []) raw).1.writes<=100;omega
     obtain ⟨T4,hm4⟩:=J4.out.2;have M4:=hid hm4;clear J4 hkind q0 qc qf HD2 M0 hm4;have p0:=M4.out.box.cell (j:=0) rfl;have hop:=M4.out.opens G2.out.2.2.1 (by have:=G2.out.2.2.2; omega) G2.out.1;have cal:=hid (sopen_calm G2.out.1 G2.out.2.2.1.rise)
     obtain ⟨st2,hst2⟩:∃ st2,(sopen d2).1=st2:=⟨_,rfl⟩
     obtain ⟨d3,hd3⟩:∃ d3,(sopen d2).2.1=d3:=⟨_,rfl⟩
     rw [hst2,hd3] at hop
     have E2:Hid (st2.ok/\st2.size<=262144/\Calm d3/\d3.ok/\d3.writes<=200/\(sopen d3).2.1=d3/\(sopen d3).1=st2):=by
      obtain ⟨c1,c2,c3,c4,c5,c6⟩:=cal.out;rw [hst2] at c2;rw [hd3] at c3 c4 c5;have hr:=sread_ok (ofile d2) St.ok0 rfl
      have hl:(ofile d2).length<=262144:=by
       unfold ofile
       cases q:fget d2.files fileN with
       | none=>simp
       | some bb=>exact G2.out.2.2.1.get q
      have ok3:d3.ok:=by rw [<- hd3]; exact ok_open G2.out.2.2.1
      have ht:=sread_take _ (ofile d2) st0 (Nat.le_refl _);rw [<- c4] at ht
      have hle:(ofile d3).length=(sread st0 (ofile d2)).2:=by rw [c4,List.length_take]; omega
      have cal3:=sopen_calm c3 ok3.rise;refine ⟨by rw [c2]; exact hr.1,by rw [c2]; omega,c3,ok3,by have:=G2.out.2.2.2; omega,cal3.2.2.2.2.2 (by rw [ht,hle]),by rw [cal3.2.1,ht,c2]⟩
     clear hst2 hd3 cal;go_wp2_with fail;refine hop.mono ?_;rintro e w5 ⟨s2,rfl,J5⟩;obtain ⟨S3,T5,hm5,hm6⟩:=J5.out;have M5:=hid hm6;clear hop p0 J5 hm5 hm6 M4;have p0:=M5.out.box.cell (j:=0) rfl;have hwr:=writes_at M5.out.dsk
     obtain ⟨wn,hwn⟩:∃ wn,d3.writes=wn:=⟨_,rfl⟩
     rw [hwn] at hwr;go_wp2_with fail;refine hwr.mono ?_;rintro e w6 ⟨rfl,hw6⟩;rw [hw6];clear hwr hw6;have hop:=M5.out.opens E2.out.2.2.2.1 (by have:=E2.out.2.2.2.2.1; omega) E2.out.2.2.1;rw [E2.out.2.2.2.2.2.1,E2.out.2.2.2.2.2.2] at hop;go_wp2_with fail;refine hop.mono ?_;rintro e w7 ⟨s3,rfl,J7⟩;obtain ⟨S7,T7,hm7,hm8⟩:=J7.out;have M7:=hid (And.intro hm7 hm8);clear hop p0 J7 hm7 hm8 M5;have p0:=M7.out.1.box.cell (j:=0) rfl;have hwr:=writes_at M7.out.1.dsk;rw [hwn] at hwr
     have wne:((wn:Int) != (wn:Int))=false:=by simp
     clear hwn;go_wp2_with fail;refine hwr.mono ?_;rintro e w8 ⟨rfl,hw8⟩;rw [hw8];clear hwr hw8 p0
     have hsz:st2.objs.length<=1000000:=by have:=E2.out.2.1; unfold St.size at this; omega
     have hcm:=commits_any M7.out.2.sto E2.out.1.one (by omega);go_wp2_with fail;refine hcm.mono ?_;rintro e w9 ⟨a9,n9,c9,rfl,J9⟩;have M9:=hid (M7.out.1.below J9.out.2.2.2);have N9:=hid J9.out.2.1;clear hcm J9 M7;have hcm:=commits_any M9.out.sto E2.out.1.one (by omega);go_wp2_with fail;refine hcm.mono ?_;rintro e w10 ⟨a10,n10,c10,rfl,J10⟩
     obtain rfl:n9=n10:=by rw [<- N9.out,<- J10.out.2.1]
     have nne:((n9:Int) != (n9:Int))=false:=by simp
     have M10:=hid (M9.out.below J10.out.2.2.2);clear hcm J10 M9 N9;have hcm:=commits_any M10.out.sto E2.out.1.one (by omega);go_wp2_with fail;refine hcm.mono ?_;rintro e w11 ⟨la,ln,lc,rfl,J11⟩
     have L2:Hid (SE w.heap.size w w11 s2 b la st2):=⟨⟨_,M10.out.sto.below J11.out.2.2.2⟩,J11.out.2.2.1,(M10.out.below J11.out.2.2.2).bel,Nat.le_trans M10.out.low (Nat.le_of_lt (M10.out.below J11.out.2.2.2).box.lt)⟩
     have HL:Hid (st2.ok/\st2.coms.length=ln/\ln<=1000000/\(∀ o∈st2.objs,o.body.length<=8192)/\st2.size<=1000000):=by
      refine ⟨E2.out.1,J11.out.2.1,?_,λ o ho=>(E2.out.1.ids o ho).2.2.2.2,by have:=E2.out.2.1; omega⟩;rw [<- J11.out.2.1,coms_len];exact Nat.le_trans (List.length_filter_le _ _) hsz
     have hln:ln<=1000000:=HL.out.2.2.1;clear hcm J11 M10 E2 G2 GV hsz wne nne;go_wp2_with fail;go_loopg [15,16,17,18,19,20,21,22,23,24,25] ln (λ m iv _ _ _ _ _ _ _ _ _ _ wr=>∃ j:Nat,iv=.int .i64 j/\j+m=ln/\Hid (SE w.heap.size w wr s2 b la st2))
     case atStart=>exact ⟨0,rfl,by omega,L2.out⟩
     case round =>
      obtain ⟨j,rfl,hj,HR2⟩:=hrel;clear L2;by_cases hjn:j<ln
      ·have jd:(j:Int)<(ln:Int):=by omega
       have jp:(0:Int)<=(j:Int):=by omega
       obtain ⟨gO,hgO⟩:∃ gO,gO=gk:=⟨_,rfl⟩
       have GO:Hid (gO=gk/\j+gO=ln):=⟨hgO,by omega⟩
       clear hgO;obtain ⟨y,hy⟩:=get_some HL.out.2.1 hjn;obtain ⟨g2,off2,rfl,hlt2⟩:=HR2.out.rd.some_of hy;obtain ⟨_,c0⟩:=HR2.out.rd.nums hy;have hth:st2.has 3 y=true:=coms_mem.1 (List.mem_of_getElem? hy)
       obtain ⟨cm,hcm⟩:∃ cm,st2.com y=cm:=⟨_,rfl⟩
       have CM:=HL.out.1.comm hth;have cfew:=com_few HL.out.1 hth;obtain ⟨S2,hs2⟩:=HR2.out.sto;have hgt:=get_any hs2 y true hth;rw [hcm] at CM hgt cfew;have CM:=hid CM
       obtain ⟨yi,hyi⟩:∃ yi:Int,(y.toNat:Int)=yi:=⟨_,rfl⟩
       have HY:=hid (And.intro hy hyi);rw [hyi] at c0 hgt;clear hyi hy hs2 hth hcm
       obtain ⟨tr,htr⟩:∃ tr:Int,(cm.tree.toNat:Int)=tr:=⟨_,rfl⟩
       obtain ⟨pn,hpn⟩:∃ pn,cm.ps.length=pn:=⟨_,rfl⟩
       obtain ⟨dt,hdt⟩:∃ dt,cm.date=dt:=⟨_,rfl⟩
       obtain ⟨nt,hnt⟩:∃ nt:ByteArray,(⟨cm.note.toArray⟩:ByteArray)=nt:=⟨_,rfl⟩
       rw [htr,hpn,hdt,show tx cm.note=.string nt by rw [<- hnt]] at hgt;rw [hpn] at cfew;have HC:=hid (And.intro htr hpn);have HPF:=hid cfew;clear htr hpn hdt hnt cfew;go_wp2_with fail;refine hgt.mono ?_;rintro e w12 ⟨pa,pc,rfl,J12⟩;have K12:=hid (And.intro (HR2.out.below J12.out.2.2) (And.intro J12.out.1 J12.out.2.2));clear hgt J12 c0
       go_upto_region 28 with fail
       obtain ⟨w13,hw13⟩:∃ w13,w13=w12.alloc (.cells #[.int .u64 tr,.slice pa pn pc,.int .i64 dt,.string nt] 61):=⟨_,rfl⟩
       have b13:Below w12.heap.size w12 w13:=by rw [hw13]; exact bz1 _ _
       have bx13:Box4 w13 w12.heap.size 61 (.int .u64 tr) (.slice pa pn pc) (.int .i64 dt) (.string nt):=by rw [hw13]; exact Box4.new _ _ _ _ _ _
       obtain ⟨C,hC⟩:∃ C,w12.heap.size=C:=⟨_,rfl⟩
       have K13:=hid (And.intro (K12.out.1.below b13) (And.intro (K12.out.2.1.below b13) (K12.out.2.2.trans (b13.mono K12.out.2.2.size))));rw [<- hw13];rw [hC] at bx13 ⊢;have X13:=hid bx13;clear K12 b13 hw13 hC bx13;obtain ⟨x0,x1,x2,x3⟩:=X13.out.cells;obtain ⟨S2,hs2⟩:=K13.out.1.sto;have hfl:=files_any hs2 cm.tree true CM.out.1;rw [HC.out.1] at hfl;clear hs2;go_wp2_with fail;refine hfl.mono ?_;rintro e w14 ⟨fv,rfl,J14⟩;obtain ⟨fa2,fc2,rfl,_,frd⟩:=J14.out.1.whole rfl
       obtain ⟨fn2,hfn2⟩:∃ fn2,(st2.files cm.tree).length=fn2:=⟨_,rfl⟩
       rw [hfn2];have hft:=HL.out.1.tre CM.out.1;have tfew:=tree_few HL.out.1 CM.out.1;rw [hfn2] at tfew;have HTF:=hid tfew;clear tfew
       obtain ⟨fls,hfls⟩:∃ fls,st2.files cm.tree=fls:=⟨_,rfl⟩
       rw [hfls] at hft frd hfn2;have K14:=hid (And.intro (K13.out.1.below J14.out.2) (And.intro (X13.out.below J14.out.2 X13.out.lt) (And.intro frd (K13.out.2.1.below J14.out.2))));have W14:=hid (K13.out.2.2.trans (J14.out.2.mono K13.out.2.2.size));have HF2:=hid (And.intro hft hfn2);clear hfl J14 frd K13 X13 x0 x1 x2 x3 hft hfn2 hfls
       go_upto_region 29 with fail
       go_cut [162] from 119 to 199 (λ tv u=>∃ x,x=u/\tv=.bool false/\Hid (Below w14.heap.size w14 x))
       case first =>
        by_cases hj0:j=0
        ·subst hj0
         have z0:decide ((0:Int)<((0:Nat):Int))=false:=by decide
         go_quiet (fail);go_wp2;go_meet;exact ⟨_,rfl,rfl,bdrewN _ _⟩
        ·obtain ⟨jj,rfl⟩:∃ jj,j=jj+1:=⟨j - 1,by omega⟩
         obtain ⟨y',hy'⟩:=get_some HL.out.2.1 (show jj<ln by omega);obtain ⟨_,c1⟩:=K14.out.1.rd.nums hy';obtain ⟨_,c2⟩:=K14.out.1.rd.nums HY.out.1;rw [HY.out.2] at c2
         obtain ⟨yj,hyj⟩:∃ yj:Int,(y'.toNat:Int)=yj:=⟨_,rfl⟩
         have hlt:=coms_rise HL.out.1 hy' HY.out.1;rw [UInt64.lt_iff_toNat_lt] at hlt
         have zl:¬ yi<=yj:=by have:=HY.out.2; omega
         have zl2:decide (yi<=yj)=false:=by simpa using zl
         rw [hyj] at c1
         have s1:((jj+1:Nat):Int) - 1=(jj:Int):=by omega
         have s2:IntKind.i64.wrap (jj:Int)=(jj:Int):=by rw [IntKind.wrap_i64]; omega
         have s3:decide ((0:Int)<((jj+1:Nat):Int))=true:=by rw [decide_eq_true_eq]; omega
         have s4:(jj:Int)<(ln:Int):=by omega
         have s5:(0:Int)<=(jj:Int):=by omega
         clear hy' hyj hlt;go_quiet (fail);go_wp2;go_meet;exact ⟨_,rfl,rfl,bdrewN _ _⟩
       case rest =>
        obtain ⟨w15,rfl,rfl,B15⟩:=hcut
        have K15:Hid (SE w.heap.size w w15 s2 b (some ⟨g2,off2,none⟩) st2/\Box4 w15 C 61 (.int .u64 tr) (.slice pa pn pc) (.int .i64 dt) (.string nt)/\RdG encE w15 fa2 fls/\RdG encU w15 pa cm.ps):=⟨K14.out.1.below B15.out,K14.out.2.1.below B15.out K14.out.2.1.lt,K14.out.2.2.1.below B15.out,K14.out.2.2.2.below B15.out⟩
        have hpn4:pn<=1000000:=HPF.out;have hfn4:fn2<=1000000:=HTF.out;clear K14 B15 W14 HR2 HY jd jp hlt2;go_wp2_with fail;go_loopg [20,21,22] fn2 (λ m iv _ _ wr=>∃ k:Nat,iv=.int .i64 k/\k+m=fn2/\Hid (SE w.heap.size w wr s2 b (some ⟨g2,off2,none⟩) st2/\Box4 wr C 61 (.int .u64 tr) (.slice pa pn pc) (.int .i64 dt) (.string nt)/\RdG encE wr fa2 fls/\RdG encU wr pa cm.ps))
        case atStart=>exact ⟨0,rfl,by omega,K15.out⟩
        case round =>
         obtain ⟨k3,rfl,hk3,HR3⟩:=hrel;clear K15;by_cases hkn:k3<fn2
         ·have kd:(k3:Int)<(fn2:Int):=by omega
          obtain ⟨⟨fp,fz⟩,hfz⟩:=get_some HF2.out.2 hkn;obtain ⟨g3,off3,rfl,_⟩:=HR3.out.2.2.1.some_of hfz;obtain ⟨_,_,c1⟩:=HR3.out.2.2.1.ents hfz;obtain ⟨S2,hs2⟩:=HR3.out.1.sto;have hdt3:=data_any hs2 HL.out.2.2.2.1 fz true (HF2.out.1 _ (List.mem_of_getElem? hfz))
          obtain ⟨zi,hzi⟩:∃ zi:Int,(fz.toNat:Int)=zi:=⟨_,rfl⟩
          simp only at c1;rw [hzi] at c1 hdt3;clear hzi hfz hs2;go_wp2_with fail;refine hdt3.mono ?_;rintro e w16 ⟨v5,rfl,J16⟩;have N16:=hid J16.out.2;clear hdt3 c1 J16;go_wp2;go_roundg (gk - 1)
          case measure=>omega
          case rel=>exact ⟨k3+1,by go_num,by omega,HR3.out.1.below N16.out,HR3.out.2.1.below N16.out HR3.out.2.1.lt,HR3.out.2.2.1.below N16.out,HR3.out.2.2.2.below N16.out⟩
         ·have kd:¬ (k3:Int)<(fn2:Int):=by omega
          have K16:Hid (SE w.heap.size w _ s2 b (some ⟨g2,off2,none⟩) st2/\Box4 _ C 61 (.int .u64 tr) (.slice pa pn pc) (.int .i64 dt) (.string nt)/\RdG encU _ pa cm.ps):=⟨HR3.out.1,HR3.out.2.1,HR3.out.2.2.2⟩
          clear HR3 HF2;go_wp2_with fail;clear kd hfn4;go_loopg [23,24,25] pn (λ m iv _ _ wr=>∃ k:Nat,iv=.int .i64 k/\k+m=pn/\Hid (SE w.heap.size w wr s2 b (some ⟨g2,off2,none⟩) st2/\Box4 wr C 61 (.int .u64 tr) (.slice pa pn pc) (.int .i64 dt) (.string nt)/\RdG encU wr pa cm.ps))
          case atStart=>exact ⟨0,rfl,by omega,K16.out⟩
          case round =>
           obtain ⟨k4,rfl,hk4,HR4⟩:=hrel;clear K16;obtain ⟨x0,x1,x2,x3⟩:=HR4.out.2.1.cells;clear x0 x2 x3;by_cases hkn4:k4<pn
           ·have kd4:(k4:Int)<(pn:Int):=by omega
            obtain ⟨pz,hpz⟩:=get_some HC.out.2 hkn4;obtain ⟨g3,off3,rfl,_⟩:=HR4.out.2.2.some_of hpz;obtain ⟨_,c1⟩:=HR4.out.2.2.nums hpz;obtain ⟨S2,hs2⟩:=HR4.out.1.sto;have hdt3:=get_any hs2 pz true (CM.out.2 _ (List.mem_of_getElem? hpz))
            obtain ⟨zi,hzi⟩:∃ zi:Int,(pz.toNat:Int)=zi:=⟨_,rfl⟩
            rw [hzi] at c1 hdt3;clear hzi hpz hs2;go_wp2_with fail;refine hdt3.mono ?_;rintro e w16 ⟨pa6,pc6,rfl,J16⟩;have N16:=hid J16.out.2.2;clear hdt3 c1 J16 x1;generalize ((st2.com pz).tree.toNat:Int)=tr6;generalize (st2.com pz).ps.length=pn6;generalize (st2.com pz).date=dt6;generalize (⟨(st2.com pz).note.toArray⟩:ByteArray)=nt6;go_wp2;go_roundg (gk - 1)
            case measure=>omega
            case rel=>exact ⟨k4+1,by go_num,by omega,(HR4.out.1.below N16.out).below (bz1 _ _),(HR4.out.2.1.below N16.out HR4.out.2.1.lt).below (bz1 _ _) (HR4.out.2.1.below N16.out HR4.out.2.1.lt).lt,(HR4.out.2.2.below N16.out).below (bz1 _ _)⟩
           ·have kd4:¬ (k4:Int)<(pn:Int):=by omega
            have K17:=hid HR4.out.1;clear HR4 CM HC;go_wp2;go_roundg (gO - 1)
            case measure=>have:=GO.out; omega
            case rel=>exact ⟨j+1,by go_num,by have:=GO.out; omega,K17.out⟩
      ·have jd:¬ (j:Int)<(ln:Int):=by omega
       obtain ⟨S2,hs2⟩:=HR2.out.sto;have hrf:=refs_any hs2 HL.out.1 HL.out.2.2.2.2;have K20:=hid (And.intro HR2.out.bel (And.intro HR2.out.low hs2));have SL:=hid (And.intro hs2.lt HR2.out.low);clear HR2 hs2;go_wp2_with fail;refine hrf.mono ?_;rintro e w20 ⟨a20,n20,c20,rfl,J20⟩;have hs3:=K20.out.2.2.below J20.out.2.2.2;have htg:=tags_any hs3 HL.out.1 HL.out.2.2.2.2;have K21:=hid (And.intro (K20.out.1.trans (J20.out.2.2.2.mono K20.out.2.1)) (And.intro (Nat.le_trans K20.out.2.1 J20.out.2.2.2.size) (And.intro hs3 (And.intro J20.out.2.2.1 J20.out.2.1))));have Z20:=hid J20.out.2.2.2.size;clear hrf K20 J20 hs3 jd;go_wp2_with fail;refine htg.mono ?_;rintro e w21 ⟨a21,n21,c21,rfl,J21⟩;have K22:=hid (And.intro (K21.out.1.trans (J21.out.2.2.2.mono K21.out.2.1)) (And.intro (Nat.le_trans K21.out.2.1 J21.out.2.2.2.size) (And.intro (K21.out.2.2.1.below J21.out.2.2.2) (And.intro (K21.out.2.2.2.1.below J21.out.2.2.2) (And.intro K21.out.2.2.2.2 (And.intro J21.out.2.2.1.rdc.1 J21.out.2.1))))));have Z21:=hid (Nat.le_trans Z20.out J21.out.2.2.2.size)
       have hsum:st2.refs.length+n21<=1000000:=by
        have h1:=HL.out.2.2.2.2;have h2:=J21.out.2.1;unfold St.size at h1;omega
       clear htg K21 J21 Z20;have hO:=K22.out.2.2.2.1;have hRt:=K22.out.2.2.2.2.2.1;have hLt:=K22.out.2.2.2.2.2.2;go_wp2_with (at_builtin; refine appG_list encE 73 70 24 _ rfl infoN Tryz.underlying70 rfl (.tmp 201) (.tmp 203) rfl _ _ st2.refs st2.tags a21 n21 c21 rfl hO rfl hRt hLt (by omega) (by simp only [maxLen]; omega) Z21.out ?_; intro v22 w22 ho22 hb22 hm22 ht22);obtain ⟨a22,c22,rfl,_,rd22⟩:=ho22.whole rfl
       obtain ⟨n22,hn22⟩:∃ n22,(st2.refs++st2.tags).length=n22:=⟨_,rfl⟩
       rw [hn22]
       have n22f:n22<=1000000:=by rw [<- hn22,List.length_append]; omega
       have K23:Hid ((∃ S,StoreAt w22 s2 b st2 S)/\RdG encE w22 a22 (st2.refs++st2.tags)/\Below w.heap.size w w22/\w.heap.size<=w22.heap.size):=by
        refine ⟨⟨_,K22.out.2.2.1.stays ht22 (λ i hi q=>?_)⟩,rd22,K22.out.1.trans (hb22.mono SL.out.2),Nat.le_trans K22.out.2.1 ht22.size⟩;have h1:=SL.out.1 i hi;have h2:=(hO.lt i q).1;omega
       have NM:=hid (And.intro HL.out.1.nams hn22);clear hO hRt hLt K22 ho22 hb22 hm22 ht22 rd22 hn22 hsum Z21 SL;go_wp2_with fail;go_loopg [27,28,29] n22 (λ m iv _ _ wr=>∃ k:Nat,iv=.int .i64 k/\k+m=n22/\Hid ((∃ S,StoreAt wr s2 b st2 S)/\RdG encE wr a22 (st2.refs++st2.tags)/\Below w.heap.size w wr/\w.heap.size<=wr.heap.size))
       case atStart=>exact ⟨0,rfl,by omega,K23.out⟩
       case round =>
        obtain ⟨k5,rfl,hk5,HR5⟩:=hrel;clear K23;by_cases hkn5:k5<n22
        ·have kd5:(k5:Int)<(n22:Int):=by omega
         obtain ⟨⟨fp,fz⟩,hfz⟩:=get_some NM.out.2 hkn5;obtain ⟨g3,off3,rfl,_⟩:=HR5.out.2.1.some_of hfz;obtain ⟨_,_,c1⟩:=HR5.out.2.1.ents hfz;obtain ⟨S2,hs2⟩:=HR5.out.1;have hdt3:=get_any hs2 fz true (NM.out.1 _ (List.mem_of_getElem? hfz))
         obtain ⟨zi,hzi⟩:∃ zi:Int,(fz.toNat:Int)=zi:=⟨_,rfl⟩
         simp only at c1;rw [hzi] at c1 hdt3;clear hzi hfz hs2;go_wp2_with fail;refine hdt3.mono ?_;rintro e w16 ⟨pa6,pc6,rfl,J16⟩;have N16:=hid J16.out.2.2;clear hdt3 c1 J16;generalize ((st2.com fz).tree.toNat:Int)=tr6;generalize (st2.com fz).ps.length=pn6;generalize (st2.com fz).date=dt6;generalize (⟨(st2.com fz).note.toArray⟩:ByteArray)=nt6;go_wp2;go_roundg (gk - 1)
         case measure=>omega
         case rel=>exact ⟨k5+1,by go_num,by omega,(HR5.out.1.imp (λ _ q=>q.below N16.out)).imp (λ _ q=>q.below (bz1 _ _)),(HR5.out.2.1.below N16.out).below (bz1 _ _),(HR5.out.2.2.1.trans (N16.out.mono HR5.out.2.2.2)).trans ((bz1 _ _).mono (Nat.le_trans HR5.out.2.2.2 N16.out.size)),Nat.le_trans (Nat.le_trans HR5.out.2.2.2 N16.out.size) (bz1 _ _).size⟩
        ·have kd5:¬ (k5:Int)<(n22:Int):=by omega
         have FIN:=hid HR5.out.2.2.1;clear HR5;go_wp2;go_ret;exact ⟨rfl,FIN.out⟩
end Go.Proofs.YtjlokpjflgbgdaaGreat
