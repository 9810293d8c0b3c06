/-
  Several texts, laid together.
-/
import Derived.Test.YtmhcpbbiokpjjaaGreatM41
set_option maxHeartbeats 6400000
set_option maxRecDepth 100000
namespace Go.Proofs.YtmhcpbbiokpjjaaGreat
open Go.RowKit
def Stp (st:St) (d:Dk) (st':St) (d':Dk):Prop:=(st'=st/\d'=d)∨∃ f,st.fits f=true/\f.2.length<=8192/\st'=(sapp st d f).1/\d'=(sapp st d f).2.1
theorem ZeL {st:St} {d:Dk} {k:Int} {b:Bs} (hk:k=1∨k=2∨k=3) (hr:st.right (k,b)=true) (hl:b.length<=8192):Stp st d (sput st d k b).1.1 (sput st d k b).1.2:=by
 unfold sput
 cases e:oget st.objs k (oid k b) with
 | some old =>
  simp only
  split <;> exact .inl ⟨rfl,rfl⟩
 | none =>
  simp only
  split
  ·exact .inl ⟨rfl,rfl⟩
  ·rename_i h0
   refine .inr ⟨(k,b),?_,hl,rfl,rfl⟩;unfold St.fits;rw [if_neg (by show ¬ (k=4∨k=5); omega),hr]
   have hh:st.has k (oid k b)=false:=by
    unfold St.has;rw [e]
    rfl
   simp [h0,hh]
theorem Zkr {v:Wd} (hst:v.st.ok) (a:Ac):Stp v.st v.d (wstep a v).st (wstep a v).d:=by
 unfold wstep
 split
 ·show Stp v.st v.d (sblob v.st v.d a.data).1.1 (sblob v.st v.d a.data).1.2;unfold sblob
  split
  ·exact .inl ⟨rfl,rfl⟩
  ·exact ZeL (.inl rfl) (by unfold St.right; rw [if_pos rfl]; simp; omega) (by omega)
 ·split
  ·obtain ⟨es,hes⟩:∃ es,aents a.ps a.qs v.bl=es:=⟨_,rfl⟩
   show Stp v.st v.d (stree v.st v.d (aents a.ps a.qs v.bl)).1.1 (stree v.st v.d (aents a.ps a.qs v.bl)).1.2;rw [hes];unfold stree
   split
   ·exact .inl ⟨rfl,rfl⟩
   ·rename_i h1
    split
    ·exact .inl ⟨rfl,rfl⟩
    ·rename_i h2
     obtain ⟨c1,c2⟩:=ZcT (by simpa using h1);rw [c2];refine ZeL (.inr (.inl rfl)) ?_ (ZcN c1);unfold St.right;rw [if_neg (by show ¬ (2:Int)=1; omega),if_pos rfl];simp only [Zcr c1];simpa using h2
  ·split
   ·obtain ⟨c,hc⟩:∃ c,anode a.data a.qs a.dt v.tl v.cl=c:=⟨_,rfl⟩
    show Stp v.st v.d (scom v.st v.d (anode a.data a.qs a.dt v.tl v.cl)).1.1 (scom v.st v.d (anode a.data a.qs a.dt v.tl v.cl)).1.2;rw [hc];unfold scom
    split
    ·exact .inl ⟨rfl,rfl⟩
    ·rename_i h1
     split
     ·exact .inl ⟨rfl,rfl⟩
     ·rename_i h2
      obtain ⟨c1,c2⟩:=ZdP (by simpa using h1);rw [c2]
      refine ZeL (.inr (.inr rfl)) ?_ (by
       have h3:=(Zb4 c1).2.1;have h4:=Za3 c1
       omega)
      unfold St.right;rw [if_neg (by show ¬ (3:Int)=1; omega),if_neg (by show ¬ (3:Int)=2; omega),if_pos rfl];simp only [Zdg c1];simpa using h2
   ·split
    ·obtain ⟨i,hi⟩:∃ i,pickU v.cl (pickI a.qs 0)=i:=⟨_,rfl⟩
     show Stp v.st v.d (sref v.st v.d a.nm (pickU v.cl (pickI a.qs 0))).1 (sref v.st v.d a.nm (pickU v.cl (pickI a.qs 0))).2.1;rw [hi];unfold sref
     split
     ·exact .inl ⟨rfl,rfl⟩
     ·rename_i h1
      split
      ·exact .inl ⟨rfl,rfl⟩
      ·rename_i h2
       have h1':isName a.nm=true:=by simpa using h1
       exact .inr ⟨_,Zfe hst h1' (by simpa using h2),Zbo i h1',rfl,rfl⟩
    ·split
     ·obtain ⟨i,hi⟩:∃ i,pickU v.cl (pickI a.qs 0)=i:=⟨_,rfl⟩
      show Stp v.st v.d (stag v.st v.d a.nm (pickU v.cl (pickI a.qs 0))).1 (stag v.st v.d a.nm (pickU v.cl (pickI a.qs 0))).2.1;rw [hi];unfold stag
      split
      ·exact .inl ⟨rfl,rfl⟩
      ·rename_i h1
       split
       ·exact .inl ⟨rfl,rfl⟩
       ·rename_i h2
        split
        ·exact .inl ⟨rfl,rfl⟩
        ·rename_i h3
         have h1':isName a.nm=true:=by simpa using h1
         have h2':v.st.has 3 i=true:=by simpa using h2
         have h3':(nget v.st.tags a.nm).isSome=false:=by simpa using h3
         refine .inr ⟨_,?_,Zbo i h1',rfl,rfl⟩;unfold St.fits;rw [if_pos (.inr rfl)];simp [Zbz,ZbC,Zaz,h1',h2',h3']
     ·split
      ·show Stp v.st v.d (sdrop v.st v.d a.nm).1 (sdrop v.st v.d a.nm).2.1;unfold sdrop
       split
       ·exact .inl ⟨rfl,rfl⟩
       ·rename_i h1
        split
        ·exact .inl ⟨rfl,rfl⟩
        ·rename_i h2
         have h1':isName a.nm=true:=by simpa using h1
         have h2':(nget v.st.refs a.nm).isSome=true:=by
          cases q:(nget v.st.refs a.nm).isSome with
          | true=>rfl
          | false=>exact absurd q h2
         refine .inr ⟨_,?_,Zbo 0 h1',rfl,rfl⟩;unfold St.fits;rw [if_pos (.inl rfl)];simp [Zbz,ZbC,Zaz,h1',h2']
      ·exact .inl ⟨rfl,rfl⟩
theorem Zic {d:Dk} {x:Dk} {b:Bs} (hr:Za4 d.files) (hx:x.files=fwith d.files fileN b):ofile x=b:=by
 unfold ofile;rw [hx,Zcy _ _ _ hr,if_pos rfl]
 rfl
theorem Zd9 {d:Dk} (hc:Calm d) (hr:Za4 d.files):(sopen d).2.2=0/\(sopen d).1=(sread st0 (ofile d)).1/\Calm (sopen d).2.1/\ofile (sopen d).2.1=(ofile d).take (sread st0 (ofile d)).2/\(sopen d).2.1.writes<=d.writes+1/\((sread st0 (ofile d)).2=(ofile d).length->(sopen d).2.1=d):=by
 obtain ⟨ha,hd⟩:=hc;have hle:=(ZeR (ofile d) St.ok0 rfl).2.2;unfold sopen
 split
 ·rename_i hlt
  have e:dnext d=({ d with writes:=d.writes+1 },true,false):=by
   unfold dnext;rw [ha,hd];simp
  obtain ⟨b,hb⟩:∃ b,fget d.files fileN=some b:=by
   cases q:fget d.files fileN with
   | some b=>exact ⟨b,rfl⟩
   | none =>
    have:ofile d=[]:=by unfold ofile; rw [q]; rfl
    rw [this] at hlt;simp at hlt
  have hob:ofile d=b:=by unfold ofile; rw [hb]; rfl
  have ht:dtrim d fileN ((sread st0 (ofile d)).2:Int)=({ d with writes:=d.writes+1,files:=fwith d.files fileN (b.take (sread st0 (ofile d)).2) },0):=by
   unfold dtrim;rw [if_neg (by rw [Zix]; simp),hb];simp only;rw [if_neg (by rw [<- hob]; omega),e];simp
  rw [ht];simp only [if_true];refine ⟨trivial,trivial,⟨ha,hd⟩,?_,Nat.le_refl _,λ q=>absurd q (by omega)⟩;rw [Zic hr rfl,hob]
 ·rename_i hge
  refine ⟨rfl,rfl,⟨ha,hd⟩,?_,Nat.le_succ _,λ _=>rfl⟩;show ofile d=_;rw [List.take_of_length_le (by omega)]
theorem Zk5 (st:St):st.coms.length=(st.objs.filter (λ o=>decide (o.kind=3))).length:=by
 unfold St.coms;rw [ZeC,List.length_map]
def wd0:Wd:=⟨st0,dk0,[],[],[]⟩
theorem Zl4 {B:Nat} {E:Nat->Prop} {w0 w:World} {s b:Nat} {fa oa ra ta xa ya za:Option Addr} {fl fc on oc rn rc tn tc xn xc yn yc zn zc:Nat} {U:Nat->Prop} {st:St} {d:Dk} {bl tl cl:List UInt64} {qa:Option Addr} {qn qc:Nat} {qs:List Int}
  (hI:WI B E w s b (.slice fa fl fc) (.slice oa on oc) (.slice ra rn rc) (.slice ta tn tc) (.slice xa xn xc) (.slice ya yn yc) (.slice za zn zc) U st d bl tl cl) (h0:Below B w0 w) (hB0:w0.heap.size=B) (hB:B<=w.heap.size) (hq:RdG encI w0 qa qs) (hql:qs.length=qn) (hqm:qn<=4000000000000000000) (hcn:cl.length<=1000000) (hst:st.ok) (hok:d.ok) (hw:d.writes<=1000000) (hsz:st.size<=1000000) (dv pv:Value) (nm:ByteArray) (hnm:nm.size<=140737488355328) (dt kp:Int) (x:UInt64) (hx:pickU cl (pickI qs 0)=x) (Q) (hQ:sref st d nm.data.toList x=Q) :
  Calls Tryz.prog 11 #[.agg (wdV s b d (.slice fa fl fc) (.slice oa on oc) (.slice ra rn rc) (.slice ta tn tc) (.slice xa xn xc) (.slice ya yn yc) (.slice za zn zc)),actV 3 dv pv (.slice qa qn qc) nm dt kp] w λ e w'=>∃ vf vo vr vt,e=.returned (.tuple #[.agg (wdV s b Q.2.1 vf vo vr vt (.slice xa xn xc) (.slice ya yn yc) (.slice za zn zc)),.bool true])/\Hid (∃ U',WI B E w' s b vf vo vr vt (.slice xa xn xc) (.slice ya yn yc) (.slice za zn zc) U' Q.1 Q.2.1 bl tl cl/\Below B w0 w'/\∀ i,E i->w'.heap[i]? = w.heap[i]?):=by
 obtain ⟨W,hW⟩:∃ W,((w.alloc (.cells (wdV s b d (.slice fa fl fc) (.slice oa on oc) (.slice ra rn rc) (.slice ta tn tc) (.slice xa xn xc) (.slice ya yn yc) (.slice za zn zc)) 35)).alloc (.cells (actC 3 dv pv (.slice qa qn qc) nm dt kp) 43)).alloc (.cells zeroW 35)=W:=⟨_,rfl⟩
 have bW:Below w.heap.size w W:=by rw [<- hW]; exact bz3 _ _ _ _
 have hBX:Bx w.heap.size W (wdV s b d (.slice fa fl fc) (.slice oa on oc) (.slice ra rn rc) (.slice ta tn tc) (.slice xa xn xc) (.slice ya yn yc) (.slice za zn zc)) (actC 3 dv pv (.slice qa qn qc) nm dt kp):=by rw [<- hW]; exact Bx.new _ _ _
 have MD:Hid (Md B w.heap.size E (λ i=>Fb w.heap.size i∨E i) w0 w W s b (.slice fa fl fc) (.slice oa on oc) (.slice ra rn rc) (.slice ta tn tc) (.slice xa xn xc) (.slice ya yn yc) (.slice za zn zc) U st d bl tl cl (wdV s b d (.slice fa fl fc) (.slice oa on oc) (.slice ra rn rc) (.slice ta tn tc) (.slice xa xn xc) (.slice ya yn yc) (.slice za zn zc)) (actC 3 dv pv (.slice qa qn qc) nm dt kp)):=Md.start hI h0 hB hBX bW
 have hnl:nm.data.toList.length<=140737488355328:=by
  have e:=bsize nm;omega
 have HH:Hid (st.ok/\d.ok/\d.writes<=1000000/\st.size<=1000000/\nm.data.toList.length<=140737488355328/\sref st d nm.data.toList x=Q):=⟨hst,hok,hw,hsz,hnl,hQ⟩
 obtain ⟨pi,hpi⟩:∃ pi,pickI qs 0=pi:=⟨_,rfl⟩
 obtain ⟨xx,hxx⟩:∃ xx:Int,(x.toNat:Int)=xx:=⟨_,rfl⟩
 have PI:Hid (Calls Tryz.prog 45 #[.slice qa qn qc,.int .i64 0] W.drew λ e w'=>e=.returned (.int .i64 pi)/\w'=W.drew):=Zcx ((hq.below (by rw [hB0]; exact MD.out.bel)).below (Below.refl _ W).drew) hql hqm 0 pi hpi
 have hzl:zn=cl.length:=by
  obtain ⟨a',c',e',_⟩:=MD.out.inv.oc.form;cases e'
  rfl
 have PU:Hid (Calls Tryz.prog 17 #[.slice za zn zc,.int .i64 pi] W.drew λ e w'=>e=.returned (.int .u64 xx)/\w'=W.drew):=ZbR (MD.out.inv.oc.rdc.1.below (Below.refl _ W).drew) hzl.symm (by omega) pi xx (by rw [<- hxx,<- hx,hpi]);have XX:=hid hxx;have y3:=hBX.act.cell (j:=3) rfl;have y0:=hBX.act.cell (j:=0) rfl;have y4:=hBX.act.cell (j:=4) rfl;have p13:=hBX.box.cell (j:=13) rfl;have p1:=hBX.box.cell (j:=1) rfl;clear hI h0 hB hst hok hw hsz hBX bW hnm hnl hQ hB0 hq hql hqm hcn hx hpi hxx hzl;go_enter Tryz.func11,Tryz.ntmps11
 go_upto_region 34 with fail
 clear hW;go_cut [15] (λ cv u=>∃ v,v=u/\cv=.int .u64 xx/\Hid (Below W.heap.size W v))
 case first =>
  go_region_law
   (first
    | (refine Zbi rfl (.tmp 150) (.const (.int .i64 0)) 45 #[41,3] rfl Zcc (.slice qa qn qc) (.int .i64 0) (.int .i64 pi) (by simp [Act.eval]) (by simp [Act.eval]) PI.out ?_)
    | (refine Zbi rfl (.tmp 148) (.tmp 151) 17 #[33,3] rfl Zbx (.slice za zn zc) (.int .i64 pi) (.int .u64 xx) (by simp [Act.eval]) (by simp [Act.eval]) PU.out ?_))
  all_goals
   go_wp2_with fail;go_meet;exact ⟨_,rfl,rfl,(Below.refl _ W).drew⟩
 case rest =>
 obtain ⟨u0,rfl,hc15,HB0⟩:=hcut;subst hc15;have MD0:Hid (Md B w.heap.size E (λ i=>Fb w.heap.size i∨E i) w0 w u0 s b (.slice fa fl fc) (.slice oa on oc) (.slice ra rn rc) (.slice ta tn tc) (.slice xa xn xc) (.slice ya yn yc) (.slice za zn zc) U st d bl tl cl (wdV s b d (.slice fa fl fc) (.slice oa on oc) (.slice ra rn rc) (.slice ta tn tc) (.slice xa xn xc) (.slice ya yn yc) (.slice za zn zc)) (actC 3 dv pv (.slice qa qn qc) nm dt kp)):=MD.out.below HB0.out;clear MD y0 y3 y4 p1 p13 PI PU HB0;have y0:=MD0.out.bx.act.cell (j:=0) rfl;have y4:=MD0.out.bx.act.cell (j:=4) rfl;have p1:=MD0.out.bx.box.cell (j:=1) rfl;have hsr:=Zih (U:=U) MD0.out.inv.duo HH.out.1 nm.data.toList x HH.out.2.1 HH.out.2.2.1 (by have:=HH.out.2.2.2.1; unfold St.size at this; omega) (by have:=HH.out.2.2.2.1; unfold St.size at this; omega);rw [HH.out.2.2.2.2.2] at hsr;rw [show tx nm.data.toList=.string nm from rfl,XX.out] at hsr;go_wp2_with fail;refine hsr.mono ?_;rintro e u1 ⟨r8,rfl,H8⟩
 have HE:Hid (r8=Q.2.2/\Aft u0 u1 s b Q.1 Q.2.1 U (Zaj U u0 u1)):=⟨H8.out.1,Aft.of (Below.refl _ _) H8.out.2.1 H8.out.2.2⟩
 clear hsr H8 y0 y4 p1;obtain ⟨c1,c2,c3,c4,_⟩:=MD0.out.call (u2:=u1) HE.out.2;have hr:=Zgm c2 c1 HH.out.1 HH.out.2.2.2.1 HH.out.2.1 HH.out.2.2.1 nm.data.toList HH.out.2.2.2.2.1 x Q HH.out.2.2.2.2.2;rw [show tx nm.data.toList=.string nm from rfl,XX.out] at hr;have g2:=c3.box.cell (j:=2) rfl;have g3:=c3.box.cell (j:=3) rfl;have g4:=c3.box.cell (j:=4) rfl;have g5:=c3.box.cell (j:=5) rfl;have g6:=c3.box.cell (j:=6) rfl;have g7:=c3.box.cell (j:=7) rfl;have g8:=c3.box.cell (j:=8) rfl;have g9:=c3.box.cell (j:=9) rfl;have g10:=c3.box.cell (j:=10) rfl;have ga:=c3.act.cell (j:=4) rfl;have gk:=c3.act.cell (j:=0) rfl;clear c1 c2 c4;go_wp2_with fail;clear c3;refine hr.mono ?_;rintro e u2 ⟨m',r9,rfl,H9⟩;obtain ⟨q2,q3,q4⟩:=H9.out;obtain ⟨fa',fl',fc',oa',on',oc',ra',rn',rc',ta',tn',tc',rfl,l1,l2,l3,l4⟩:=q3
 have eR:r8=r9:=by rw [q2,HE.out.1]
 have M2:Hid (Md B w.heap.size E (λ i=>Fb w.heap.size i∨E i) w0 w u2 s b (.slice fa' fl' fc') (.slice oa' on' oc') (.slice ra' rn' rc') (.slice ta' tn' tc') (.slice xa xn xc) (.slice ya yn yc) (.slice za zn zc) (Zaj U u0 u1) Q.1 Q.2.1 bl tl cl (wdV s b d (.slice fa fl fc) (.slice oa on oc) (.slice ra rn rc) (.slice ta tn tc) (.slice xa xn xc) (.slice ya yn yc) (.slice za zn zc)) (actC 3 dv pv (.slice qa qn qc) nm dt kp)):=(MD0.out.call HE.out.2).2.2.2.2 _ _ _ _ q4 ⟨fa',fl',fc',oa',on',oc',ra',rn',rc',ta',tn',tc',rfl,l1,l2,l3,l4⟩;clear q2 q4 l1 l2 l3 l4 H9 hr g2 g3 g4 g5 g6 g7 g8 g9 g10 ga gk;subst eR
 obtain ⟨X,hX⟩:∃ X,layL u2 w.heap.size [.slice fa' fl' fc',.int .i64 (Q.2.1.writes:Int),.bool Q.2.1.armed,.bool Q.2.1.dead,.int .i64 (Q.2.1.after:Int),.int .i64 (Q.2.1.keep:Int),.slice oa' on' oc',.slice ra' rn' rc',.slice ta' tn' tc'] 2=X:=⟨_,rfl⟩
 have M3:Hid (Md B w.heap.size E (λ i=>Fb w.heap.size i∨E i) w0 w X s b (.slice fa' fl' fc') (.slice oa' on' oc') (.slice ra' rn' rc') (.slice ta' tn' tc') (.slice xa xn xc) (.slice ya yn yc) (.slice za zn zc) (Zaj U u0 u1) Q.1 Q.2.1 bl tl cl (wdV s b Q.2.1 (.slice fa' fl' fc') (.slice oa' on' oc') (.slice ra' rn' rc') (.slice ta' tn' tc') (.slice xa xn xc) (.slice ya yn yc) (.slice za zn zc)) (actC 3 dv pv (.slice qa qn qc) nm dt kp)):=by
  have h1:=M2.out.bx.box.lays [.slice fa' fl' fc',.int .i64 (Q.2.1.writes:Int),.bool Q.2.1.armed,.bool Q.2.1.dead,.int .i64 (Q.2.1.after:Int),.int .i64 (Q.2.1.keep:Int),.slice oa' on' oc',.slice ra' rn' rc',.slice ta' tn' tc'] 2;rw [hX,set9] at h1;exact M2.out.lay (by rw [<- hX]; exact Zam _ _ _) h1
 have TH:=hid (M2.out.bx.box.there (o:=2) (n:=9) (by simp [wdV]));have HXX:=hid hX;clear hX M2
 go_upto_region 54 with (refine Zah rfl 32 (.tmp 171) (.tmp 169) rfl w.heap.size 2 #[.slice fa' fl' fc',.int .i64 (Q.2.1.writes:Int),.bool Q.2.1.armed,.bool Q.2.1.dead,.int .i64 (Q.2.1.after:Int),.int .i64 (Q.2.1.keep:Int),.slice oa' on' oc',.slice ra' rn' rc',.slice ta' tn' tc'] rfl rfl TH.out (by kernel_rfl) (by simp [Value.oneCell']) ?_; intro w9 hw9; obtain rfl:X=w9:=(hw9.trans HXX.out).symm; clear hw9; have yk:=M3.out.bx.act.cell (j:=0) rfl)
 obtain ⟨p0,p1,p2,p3,p4,p5,p6,p7,p8,p9,p10,p11,p12,p13⟩:=M3.out.bx.box.c14;obtain ⟨s0,s1,s2,s3,s4,s5,s6,s7,s8,s9,s10,s11,s12,s13⟩:=M3.out.bx.res.c14;obtain ⟨f0,f1,f2,f3,f4,f5,f6,f7,f8,f9,f10,f11,f12,f13⟩:=M3.out.bx.res.t14;go_wp2;refine bodyPost_ret (v:=.tuple #[.agg (wdV s b Q.2.1 (.slice fa' fl' fc') (.slice oa' on' oc') (.slice ra' rn' rc') (.slice ta' tn' tc') (.slice xa xn xc) (.slice ya yn yc) (.slice za zn zc)),.bool true]) ?_ rfl ⟨_,_,_,_,rfl,?_⟩
 ·simp [results,Tryz.f11];go_simp
 ·have ht:=Zam (W:=X) (w.heap.size+2) [.pointer (some ⟨b,0,none⟩),.pointer (some ⟨s,0,none⟩),.slice fa' fl' fc',.int .i64 (Q.2.1.writes:Int),.bool Q.2.1.armed,.bool Q.2.1.dead,.int .i64 (Q.2.1.after:Int),.int .i64 (Q.2.1.keep:Int),.slice oa' on' oc',.slice ra' rn' rc',.slice ta' tn' tc',.slice xa xn xc,.slice ya yn yc,.slice za zn zc] 0;simp only [layL,Nat.reduceAdd] at ht;exact ⟨_,M3.out.done ht⟩
theorem ZkZ {B:Nat} {E:Nat->Prop} {w0 w:World} {s b:Nat} {fa oa ra ta xa ya za:Option Addr} {fl fc on oc rn rc tn tc xn xc yn yc zn zc:Nat} {U:Nat->Prop} {st:St} {d:Dk} {bl tl cl:List UInt64} {qa:Option Addr} {qn qc:Nat} {qs:List Int}
  (hI:WI B E w s b (.slice fa fl fc) (.slice oa on oc) (.slice ra rn rc) (.slice ta tn tc) (.slice xa xn xc) (.slice ya yn yc) (.slice za zn zc) U st d bl tl cl) (h0:Below B w0 w) (hB0:w0.heap.size=B) (hB:B<=w.heap.size) (hq:RdG encI w0 qa qs) (hql:qs.length=qn) (hqm:qn<=4000000000000000000) (hcn:cl.length<=1000000) (hst:st.ok) (hok:d.ok) (hw:d.writes<=1000000) (hsz:st.size<=1000000) (dv pv:Value) (nm:ByteArray) (hnm:nm.size<=140737488355328) (dt kp:Int) (x:UInt64) (hx:pickU cl (pickI qs 0)=x) (Q) (hQ:stag st d nm.data.toList x=Q) :
  Calls Tryz.prog 11 #[.agg (wdV s b d (.slice fa fl fc) (.slice oa on oc) (.slice ra rn rc) (.slice ta tn tc) (.slice xa xn xc) (.slice ya yn yc) (.slice za zn zc)),actV 4 dv pv (.slice qa qn qc) nm dt kp] w λ e w'=>∃ vf vo vr vt,e=.returned (.tuple #[.agg (wdV s b Q.2.1 vf vo vr vt (.slice xa xn xc) (.slice ya yn yc) (.slice za zn zc)),.bool true])/\Hid (∃ U',WI B E w' s b vf vo vr vt (.slice xa xn xc) (.slice ya yn yc) (.slice za zn zc) U' Q.1 Q.2.1 bl tl cl/\Below B w0 w'/\∀ i,E i->w'.heap[i]? = w.heap[i]?):=by
 obtain ⟨W,hW⟩:∃ W,((w.alloc (.cells (wdV s b d (.slice fa fl fc) (.slice oa on oc) (.slice ra rn rc) (.slice ta tn tc) (.slice xa xn xc) (.slice ya yn yc) (.slice za zn zc)) 35)).alloc (.cells (actC 4 dv pv (.slice qa qn qc) nm dt kp) 43)).alloc (.cells zeroW 35)=W:=⟨_,rfl⟩
 have bW:Below w.heap.size w W:=by rw [<- hW]; exact bz3 _ _ _ _
 have hBX:Bx w.heap.size W (wdV s b d (.slice fa fl fc) (.slice oa on oc) (.slice ra rn rc) (.slice ta tn tc) (.slice xa xn xc) (.slice ya yn yc) (.slice za zn zc)) (actC 4 dv pv (.slice qa qn qc) nm dt kp):=by rw [<- hW]; exact Bx.new _ _ _
 have MD:Hid (Md B w.heap.size E (λ i=>Fb w.heap.size i∨E i) w0 w W s b (.slice fa fl fc) (.slice oa on oc) (.slice ra rn rc) (.slice ta tn tc) (.slice xa xn xc) (.slice ya yn yc) (.slice za zn zc) U st d bl tl cl (wdV s b d (.slice fa fl fc) (.slice oa on oc) (.slice ra rn rc) (.slice ta tn tc) (.slice xa xn xc) (.slice ya yn yc) (.slice za zn zc)) (actC 4 dv pv (.slice qa qn qc) nm dt kp)):=Md.start hI h0 hB hBX bW
 have hnl:nm.data.toList.length<=140737488355328:=by
  have e:=bsize nm;omega
 have HH:Hid (st.ok/\d.ok/\d.writes<=1000000/\st.size<=1000000/\nm.data.toList.length<=140737488355328/\stag st d nm.data.toList x=Q):=⟨hst,hok,hw,hsz,hnl,hQ⟩
 obtain ⟨pi,hpi⟩:∃ pi,pickI qs 0=pi:=⟨_,rfl⟩
 obtain ⟨xx,hxx⟩:∃ xx:Int,(x.toNat:Int)=xx:=⟨_,rfl⟩
 have PI:Hid (Calls Tryz.prog 45 #[.slice qa qn qc,.int .i64 0] W.drew λ e w'=>e=.returned (.int .i64 pi)/\w'=W.drew):=Zcx ((hq.below (by rw [hB0]; exact MD.out.bel)).below (Below.refl _ W).drew) hql hqm 0 pi hpi
 have hzl:zn=cl.length:=by
  obtain ⟨a',c',e',_⟩:=MD.out.inv.oc.form;cases e'
  rfl
 have PU:Hid (Calls Tryz.prog 17 #[.slice za zn zc,.int .i64 pi] W.drew λ e w'=>e=.returned (.int .u64 xx)/\w'=W.drew):=ZbR (MD.out.inv.oc.rdc.1.below (Below.refl _ W).drew) hzl.symm (by omega) pi xx (by rw [<- hxx,<- hx,hpi]);have XX:=hid hxx;have y3:=hBX.act.cell (j:=3) rfl;have y0:=hBX.act.cell (j:=0) rfl;have y4:=hBX.act.cell (j:=4) rfl;have p13:=hBX.box.cell (j:=13) rfl;have p1:=hBX.box.cell (j:=1) rfl;clear hI h0 hB hst hok hw hsz hBX bW hnm hnl hQ hB0 hq hql hqm hcn hx hpi hxx hzl;go_enter Tryz.func11,Tryz.ntmps11
 go_upto_region 34 with fail
 clear hW;go_cut [15] (λ cv u=>∃ v,v=u/\cv=.int .u64 xx/\Hid (Below W.heap.size W v))
 case first =>
  go_region_law
   (first
    | (refine Zbi rfl (.tmp 150) (.const (.int .i64 0)) 45 #[41,3] rfl Zcc (.slice qa qn qc) (.int .i64 0) (.int .i64 pi) (by simp [Act.eval]) (by simp [Act.eval]) PI.out ?_)
    | (refine Zbi rfl (.tmp 148) (.tmp 151) 17 #[33,3] rfl Zbx (.slice za zn zc) (.int .i64 pi) (.int .u64 xx) (by simp [Act.eval]) (by simp [Act.eval]) PU.out ?_))
  all_goals
   go_wp2_with fail;go_meet;exact ⟨_,rfl,rfl,(Below.refl _ W).drew⟩
 case rest =>
 obtain ⟨u0,rfl,hc15,HB0⟩:=hcut;subst hc15;have MD0:Hid (Md B w.heap.size E (λ i=>Fb w.heap.size i∨E i) w0 w u0 s b (.slice fa fl fc) (.slice oa on oc) (.slice ra rn rc) (.slice ta tn tc) (.slice xa xn xc) (.slice ya yn yc) (.slice za zn zc) U st d bl tl cl (wdV s b d (.slice fa fl fc) (.slice oa on oc) (.slice ra rn rc) (.slice ta tn tc) (.slice xa xn xc) (.slice ya yn yc) (.slice za zn zc)) (actC 4 dv pv (.slice qa qn qc) nm dt kp)):=MD.out.below HB0.out;clear MD y0 y3 y4 p1 p13 PI PU HB0;have y0:=MD0.out.bx.act.cell (j:=0) rfl;have y4:=MD0.out.bx.act.cell (j:=4) rfl;have p1:=MD0.out.bx.box.cell (j:=1) rfl;have hsr:=ZiJ (U:=U) MD0.out.inv.duo HH.out.1 nm.data.toList HH.out.2.2.2.2.1 x HH.out.2.1 HH.out.2.2.1 (by have:=HH.out.2.2.2.1; unfold St.size at this; omega) (by have:=HH.out.2.2.2.1; unfold St.size at this; omega);rw [HH.out.2.2.2.2.2] at hsr;rw [show tx nm.data.toList=.string nm from rfl,XX.out] at hsr;go_wp2_with fail;refine hsr.mono ?_;rintro e u1 ⟨r8,rfl,H8⟩
 have HE:Hid (r8=Q.2.2/\Aft u0 u1 s b Q.1 Q.2.1 U (Zaj U u0 u1)):=⟨H8.out.1,Aft.of (Below.refl _ _) H8.out.2.1 H8.out.2.2⟩
 clear hsr H8 y0 y4 p1;obtain ⟨c1,c2,c3,c4,_⟩:=MD0.out.call (u2:=u1) HE.out.2;have hr:=Zgp c2 c1 HH.out.1 HH.out.2.2.2.1 HH.out.2.1 HH.out.2.2.1 nm.data.toList HH.out.2.2.2.2.1 x Q HH.out.2.2.2.2.2;rw [show tx nm.data.toList=.string nm from rfl,XX.out] at hr;have g2:=c3.box.cell (j:=2) rfl;have g3:=c3.box.cell (j:=3) rfl;have g4:=c3.box.cell (j:=4) rfl;have g5:=c3.box.cell (j:=5) rfl;have g6:=c3.box.cell (j:=6) rfl;have g7:=c3.box.cell (j:=7) rfl;have g8:=c3.box.cell (j:=8) rfl;have g9:=c3.box.cell (j:=9) rfl;have g10:=c3.box.cell (j:=10) rfl;have ga:=c3.act.cell (j:=4) rfl;have gk:=c3.act.cell (j:=0) rfl;clear c1 c2 c4;go_wp2_with fail;clear c3;refine hr.mono ?_;rintro e u2 ⟨m',r9,rfl,H9⟩;obtain ⟨q2,q3,q4⟩:=H9.out;obtain ⟨fa',fl',fc',oa',on',oc',ra',rn',rc',ta',tn',tc',rfl,l1,l2,l3,l4⟩:=q3
 have eR:r8=r9:=by rw [q2,HE.out.1]
 have M2:Hid (Md B w.heap.size E (λ i=>Fb w.heap.size i∨E i) w0 w u2 s b (.slice fa' fl' fc') (.slice oa' on' oc') (.slice ra' rn' rc') (.slice ta' tn' tc') (.slice xa xn xc) (.slice ya yn yc) (.slice za zn zc) (Zaj U u0 u1) Q.1 Q.2.1 bl tl cl (wdV s b d (.slice fa fl fc) (.slice oa on oc) (.slice ra rn rc) (.slice ta tn tc) (.slice xa xn xc) (.slice ya yn yc) (.slice za zn zc)) (actC 4 dv pv (.slice qa qn qc) nm dt kp)):=(MD0.out.call HE.out.2).2.2.2.2 _ _ _ _ q4 ⟨fa',fl',fc',oa',on',oc',ra',rn',rc',ta',tn',tc',rfl,l1,l2,l3,l4⟩;clear q2 q4 l1 l2 l3 l4 H9 hr g2 g3 g4 g5 g6 g7 g8 g9 g10 ga gk;subst eR
 obtain ⟨X,hX⟩:∃ X,layL u2 w.heap.size [.slice fa' fl' fc',.int .i64 (Q.2.1.writes:Int),.bool Q.2.1.armed,.bool Q.2.1.dead,.int .i64 (Q.2.1.after:Int),.int .i64 (Q.2.1.keep:Int),.slice oa' on' oc',.slice ra' rn' rc',.slice ta' tn' tc'] 2=X:=⟨_,rfl⟩
 have M3:Hid (Md B w.heap.size E (λ i=>Fb w.heap.size i∨E i) w0 w X s b (.slice fa' fl' fc') (.slice oa' on' oc') (.slice ra' rn' rc') (.slice ta' tn' tc') (.slice xa xn xc) (.slice ya yn yc) (.slice za zn zc) (Zaj U u0 u1) Q.1 Q.2.1 bl tl cl (wdV s b Q.2.1 (.slice fa' fl' fc') (.slice oa' on' oc') (.slice ra' rn' rc') (.slice ta' tn' tc') (.slice xa xn xc) (.slice ya yn yc) (.slice za zn zc)) (actC 4 dv pv (.slice qa qn qc) nm dt kp)):=by
  have h1:=M2.out.bx.box.lays [.slice fa' fl' fc',.int .i64 (Q.2.1.writes:Int),.bool Q.2.1.armed,.bool Q.2.1.dead,.int .i64 (Q.2.1.after:Int),.int .i64 (Q.2.1.keep:Int),.slice oa' on' oc',.slice ra' rn' rc',.slice ta' tn' tc'] 2;rw [hX,set9] at h1;exact M2.out.lay (by rw [<- hX]; exact Zam _ _ _) h1
 have TH:=hid (M2.out.bx.box.there (o:=2) (n:=9) (by simp [wdV]));have HXX:=hid hX;clear hX M2
 go_upto_region 54 with (refine Zah rfl 32 (.tmp 187) (.tmp 185) rfl w.heap.size 2 #[.slice fa' fl' fc',.int .i64 (Q.2.1.writes:Int),.bool Q.2.1.armed,.bool Q.2.1.dead,.int .i64 (Q.2.1.after:Int),.int .i64 (Q.2.1.keep:Int),.slice oa' on' oc',.slice ra' rn' rc',.slice ta' tn' tc'] rfl rfl TH.out (by kernel_rfl) (by simp [Value.oneCell']) ?_; intro w9 hw9; obtain rfl:X=w9:=(hw9.trans HXX.out).symm; clear hw9; have yk:=M3.out.bx.act.cell (j:=0) rfl)
 obtain ⟨p0,p1,p2,p3,p4,p5,p6,p7,p8,p9,p10,p11,p12,p13⟩:=M3.out.bx.box.c14;obtain ⟨s0,s1,s2,s3,s4,s5,s6,s7,s8,s9,s10,s11,s12,s13⟩:=M3.out.bx.res.c14;obtain ⟨f0,f1,f2,f3,f4,f5,f6,f7,f8,f9,f10,f11,f12,f13⟩:=M3.out.bx.res.t14;go_wp2;refine bodyPost_ret (v:=.tuple #[.agg (wdV s b Q.2.1 (.slice fa' fl' fc') (.slice oa' on' oc') (.slice ra' rn' rc') (.slice ta' tn' tc') (.slice xa xn xc) (.slice ya yn yc) (.slice za zn zc)),.bool true]) ?_ rfl ⟨_,_,_,_,rfl,?_⟩
 ·simp [results,Tryz.f11];go_simp
 ·have ht:=Zam (W:=X) (w.heap.size+2) [.pointer (some ⟨b,0,none⟩),.pointer (some ⟨s,0,none⟩),.slice fa' fl' fc',.int .i64 (Q.2.1.writes:Int),.bool Q.2.1.armed,.bool Q.2.1.dead,.int .i64 (Q.2.1.after:Int),.int .i64 (Q.2.1.keep:Int),.slice oa' on' oc',.slice ra' rn' rc',.slice ta' tn' tc',.slice xa xn xc,.slice ya yn yc,.slice za zn zc] 0;simp only [layL,Nat.reduceAdd] at ht;exact ⟨_,M3.out.done ht⟩
end Go.Proofs.YtmhcpbbiokpjjaaGreat
