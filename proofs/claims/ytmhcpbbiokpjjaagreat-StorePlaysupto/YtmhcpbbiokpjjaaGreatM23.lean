/-
  Several texts, laid together.
-/
import Derived.Test.YtmhcpbbiokpjjaaGreatM22
set_option maxHeartbeats 6400000
set_option maxRecDepth 100000
namespace Go.Proofs.YtmhcpbbiokpjjaaGreat
open Go.RowKit
theorem Zdz {Z:Nat->Prop} {w:World} {m:Value} {st:St} {d:Dk} (hZ:∀ i,Z i->i<w.heap.size) (h:RMS Z w m st d) (hsz:st.size<=1000000) (hok:d.ok) (hw:d.writes<=1000000) (k:Int) (hk:k=1∨k=2∨k=3) (body:Bs) (hbl:body.length<=8192) (hri:st.right (k,body)=true) :
  Calls Tryz.prog 115 #[m,.int .i64 k,tx body] w λ e w'=>∃ m' i r,e=.returned (.tuple #[m',.int .u64 i,.int .i64 r])/\Hid (i=((sput st d k body).2.1.toNat:Int)/\r=(sput st d k body).2.2/\RMS Z w' m' (sput st d k body).1.1 (sput st d k body).1.2/\Below w.heap.size w w'):=by
 obtain ⟨fa,fl,fc,oa,on,oc,ra,rn,rc,ta,tn,tc,rfl,h1,h2,h3,h4⟩:=h
 have ho:on<=1000000:=by rw [<- h2.len]; unfold St.size at hsz; omega
 obtain ⟨Q,hQ⟩:∃ Q,sput st d k body=Q:=⟨_,rfl⟩
 rw [hQ]
 obtain ⟨bb,hbb⟩:∃ bb:ByteArray,bb=⟨body.toArray⟩:=⟨_,rfl⟩
 have hbs:bb.size=body.length:=by rw [hbb]; show body.toArray.size=_; simp
 rw [show tx body=.string bb by rw [hbb]]
 obtain ⟨x,hx⟩:∃ x,oid k body=x:=⟨_,rfl⟩
 obtain ⟨W,hW⟩:∃ W,(w.alloc (nineC d (.slice fa fl fc) (.slice oa on oc) (.slice ra rn rc) (.slice ta tn tc))).alloc zeroC=W:=⟨_,rfl⟩
 have P0:Hid (Two w W d (.slice fa fl fc) (.slice oa on oc) (.slice ra rn rc) (.slice ta tn tc)):=by rw [<- hW]; exact Two.new w d _ _ _ _
 obtain ⟨W1,cc,hcv,bW1,sW1,raw1,cap1,cap2⟩:=Zbl W body;rw [show tx body=.string bb by rw [hbb],<- hbs] at hcv;have hid:=ZdN k W1 (raw1.at cap1 (cap2 (by simp only [maxLen]; omega))) x hx;rw [<- hbs] at hid;have P1:Hid (Two w W1 d (.slice fa fl fc) (.slice oa on oc) (.slice ra rn rc) (.slice ta tn tc)):=P0.out.below bW1
 have L:Hid (LG encF (Zy Z w) w fa fl fc d.files/\LG encO (Zy Z w) w oa on oc st.objs/\LG encN (Zy Z w) w ra rn rc st.refs/\LG encN (Zy Z w) w ta tn tc st.tags):=⟨h1.into ZaT,h2.into ZaT,h3.into ZaT,h4.into ZaT⟩
 have HZ:Hid (∀ i,Zy Z w i->i<w.heap.size+2):=Zgu hZ
 have RB:Hid (∀ W',Below w.heap.size w W'->RMS (Zy Z w) W' (rm d (.slice fa fl fc) (.slice oa on oc) (.slice ra rn rc) (.slice ta tn tc)) st d):=λ W' b=>⟨fa,fl,fc,oa,on,oc,ra,rn,rc,ta,tn,tc,rfl,L.out.1.below b,L.out.2.1.below b,L.out.2.2.1.below b,L.out.2.2.2.below b⟩
 have hat:=ZfK (d:=d) (oc:=oc) (vf:=.slice fa fl fc) (vr:=.slice ra rn rc) (vt:=.slice ta tn tc) (L.out.2.1.rd.below P1.out.bel) L.out.2.1.len ho k x
 obtain ⟨xi,hxi⟩:∃ xi:Int,(x.toNat:Int)=xi:=⟨_,rfl⟩
 rw [hxi] at hid hat;have u0:=ZaP x;rw [hxi] at u0
 have G:Hid (d.ok/\d.writes<=1000000/\st.size<=1000000/\st.right (k,body)=true/\body.length<=8192/\bb=⟨body.toArray⟩/\oid k body=x/\(x.toNat:Int)=xi/\sput st d k body=Q/\(k=1∨k=2∨k=3)):=⟨hok,hw,hsz,hri,hbl,hbb,hx,hxi,hQ,hk⟩
 have U0:Hid (xi=0↔x=0):=u0;clear h1 h2 h3 h4 hok hw hsz hri hbl hbb hx hxi hQ hZ u0 raw1 cap1 cap2 sW1 bW1 hbs hk;obtain ⟨x0,x1,x2,x3,x4,x5,x6,x7,x8⟩:=P1.out.box.cells;obtain ⟨z0,z1,z2,z3,z4,z5,z6,z7,z8⟩:=P1.out.res.cells;have gz:=P1.out.res.thaw;have g0:=gz 0;have g1:=gz 1;have g2:=gz 2;have g3:=gz 3;have g4:=gz 4;have g5:=gz 5;have g6:=gz 6;have g7:=gz 7;have g8:=gz 8;have l2:=P1.out.res.lt;clear gz;go_enter Tryz.func115,Tryz.ntmps115;go_wp2_with fail;refine hid.mono ?_;rintro e w1 ⟨rfl,hw1⟩;rw [hw1];clear hw1 w1 hid;go_wp2_with fail;refine hat.mono ?_;rintro e w2 ⟨r2,rfl,R2,B2⟩;have P2:Hid (Two w w2 d (.slice fa fl fc) (.slice oa on oc) (.slice ra rn rc) (.slice ta tn tc)):=P1.out.below B2;clear hat B2;clear x0 x1 x2 x3 x4 x5 x6 x7 x8;clear z0 z1 z2 z3 z4 z5 z6 z7 z8 g0 g1 g2 g3 g4 g5 g6 g7 g8 l2;obtain ⟨x0,x1,x2,x3,x4,x5,x6,x7,x8⟩:=P2.out.box.cells;obtain ⟨z0,z1,z2,z3,z4,z5,z6,z7,z8⟩:=P2.out.res.cells;have gz:=P2.out.res.thaw;have g0:=gz 0;have g1:=gz 1;have g2:=gz 2;have g3:=gz 3;have g4:=gz 4;have g5:=gz 5;have g6:=gz 6;have g7:=gz 7;have g8:=gz 8;have l2:=P2.out.res.lt;clear gz
 rcases R2.out with ⟨q1,q2⟩ | ⟨i2,q2,bs,q3,q1⟩
 ·subst q2;by_cases h0:x=0
  ·have z00:=U0.out.2 h0;subst z00
   have ez:Q=((st,d),0,13):=by
    rw [<- G.out.2.2.2.2.2.2.2.2.1];unfold sput;rw [G.out.2.2.2.2.2.2.1,q1];simp [h0]
   clear q1 h0 R2;go_wp2;refine bodyPost_ret (v:=.tuple #[rm d (.slice fa fl fc) (.slice oa on oc) (.slice ra rn rc) (.slice ta tn tc),.int .u64 0,.int .i64 13]) ?_ rfl ⟨_,_,_,rfl,?_⟩
   ·simp [results,Tryz.f115];go_simp
   ·rw [ez];exact ⟨rfl,rfl,Zan P2.out.bel (RB.out _ P2.out.bel) (Zad _ _ _ _ _ _ _ _ _ _ _)⟩
  ·have m1:(xi==0)=false:=by
    have:=λ z=>h0 (U0.out.1 z)
    simpa using this
   have hh:=ZaA (d:=d) (oc:=oc) (vf:=.slice fa fl fc) (vr:=.slice ra rn rc) (vt:=.slice ta tn tc) (L.out.2.1.rd.below P2.out.bel) L.out.2.1.len ho k x false (by unfold St.has; rw [q1]; rfl);rw [G.out.2.2.2.2.2.2.2.1] at hh
   have hfit:st.fits (k,body)=true:=by
    unfold St.fits;have hk:=G.out.2.2.2.2.2.2.2.2.2;rw [if_neg (by show ¬ (k=4∨k=5); omega),G.out.2.2.2.1,show oid (k,body).1 (k,body).2=x from G.out.2.2.2.2.2.2.1];unfold St.has;rw [show oget st.objs (k,body).1 x=none from q1];simp [h0]
   have ez:Q=(((sapp st d (k,body)).1,(sapp st d (k,body)).2.1),if (sapp st d (k,body)).2.2=0 then x else 0,(sapp st d (k,body)).2.2):=by
    rw [<- G.out.2.2.2.2.2.2.2.2.1];unfold sput;rw [G.out.2.2.2.2.2.2.1,q1];simp [h0]
   have EZ:Hid _:=ez;clear q1 h0 R2 ez;go_wp2_with fail;refine hh.mono ?_;rintro e w3 ⟨rfl,B3⟩;have P3:Hid (Two w w3 d (.slice fa fl fc) (.slice oa on oc) (.slice ra rn rc) (.slice ta tn tc)):=P2.out.below B3;clear hh B3;clear x0 x1 x2 x3 x4 x5 x6 x7 x8;clear z0 z1 z2 z3 z4 z5 z6 z7 z8 g0 g1 g2 g3 g4 g5 g6 g7 g8 l2;obtain ⟨x0,x1,x2,x3,x4,x5,x6,x7,x8⟩:=P3.out.box.cells;obtain ⟨z0,z1,z2,z3,z4,z5,z6,z7,z8⟩:=P3.out.res.cells;have gz:=P3.out.res.thaw;have g0:=gz 0;have g1:=gz 1;have g2:=gz 2;have g3:=gz 3;have g4:=gz 4;have g5:=gz 5;have g6:=gz 6;have g7:=gz 7;have g8:=gz 8;have l2:=P3.out.res.lt;clear gz;have had:=Zdm (λ i q=>by have:=HZ.out i q; have:=P3.out.size; omega) (RB.out w3 P3.out.bel) G.out.2.2.1 G.out.1 G.out.2.1 k (by have:=G.out.2.2.2.2.2.2.2.2.2; omega) (by have:=G.out.2.2.2.2.2.2.2.2.2; omega) body G.out.2.2.2.2.1 hfit;rw [show tx body=.string bb by rw [G.out.2.2.2.2.2.1]] at had;clear hfit;go_wp2_with fail;refine had.mono ?_;rintro e w4 ⟨m4,r4,rfl,R4⟩
   have R4':Hid (r4=(sapp st d (k,body)).2.2/\RMS (Zy Z w) w4 m4 (sapp st d (k,body)).1 (sapp st d (k,body)).2.1/\Two w w4 d (.slice fa fl fc) (.slice oa on oc) (.slice ra rn rc) (.slice ta tn tc)):=⟨R4.out.1,R4.out.2.1,P3.out.below R4.out.2.2⟩
   clear had R4
   obtain ⟨d4,hd4⟩:∃ d4,(sapp st d (k,body)).2.1=d4:=⟨_,rfl⟩
   obtain ⟨fa4,fl4,fc4,oa4,on4,oc4,ra4,rn4,rc4,ta4,tn4,tc4,em,_⟩:=R4'.out.2.1;rw [hd4] at em;subst em;have HD4:Hid ((sapp st d (k,body)).2.1=d4):=hd4;clear hd4;clear x0 x1 x2 x3 x4 x5 x6 x7 x8;clear z0 z1 z2 z3 z4 z5 z6 z7 z8 g0 g1 g2 g3 g4 g5 g6 g7 g8 l2;obtain ⟨x0,x1,x2,x3,x4,x5,x6,x7,x8⟩:=R4'.out.2.2.box.cells;have fz:=R4'.out.2.2.box.thaw;have f0:=fz 0;have f1:=fz 1;have f2:=fz 2;have f3:=fz 3;have f4:=fz 4;have f5:=fz 5;have f6:=fz 6;have f7:=fz 7;have f8:=fz 8;have l0:=R4'.out.2.2.box.lt;clear fz
   have ne2:w.heap.size≠w.heap.size+1:=by omega
   obtain ⟨z0,z1,z2,z3,z4,z5,z6,z7,z8⟩:=R4'.out.2.2.res.cells;have gz:=R4'.out.2.2.res.thaw;have g0:=gz 0;have g1:=gz 1;have g2:=gz 2;have g3:=gz 3;have g4:=gz 4;have g5:=gz 5;have g6:=gz 6;have g7:=gz 7;have g8:=gz 8;have l2:=R4'.out.2.2.res.lt;clear gz
   have fin:∀ W',Zaa (λ i=>i=w.heap.size+1) ((((((((((w4.setCell ⟨w.heap.size,0,none⟩ (.slice fa4 fl4 fc4)).setCell ⟨w.heap.size,1,none⟩ (.int .i64 (d4.writes:Int))).setCell ⟨w.heap.size,2,none⟩ (.bool d4.armed)).setCell ⟨w.heap.size,3,none⟩ (.bool d4.dead)).setCell ⟨w.heap.size,4,none⟩ (.int .i64 (d4.after:Int))).setCell ⟨w.heap.size,5,none⟩ (.int .i64 (d4.keep:Int))).setCell ⟨w.heap.size,6,none⟩ (.slice oa4 on4 oc4)).setCell ⟨w.heap.size,7,none⟩ (.slice ra4 rn4 rc4)).setCell ⟨w.heap.size,8,none⟩ (.slice ta4 tn4 tc4))) W'->RMS Z W' (rm d4 (.slice fa4 fl4 fc4) (.slice oa4 on4 oc4) (.slice ra4 rn4 rc4) (.slice ta4 tn4 tc4)) (sapp st d (k,body)).1 (sapp st d (k,body)).2.1/\Below w.heap.size w W':=by
    intro W' t6;have t5:=Zad w4 w.heap.size (.slice fa4 fl4 fc4) (.int .i64 (d4.writes:Int)) (.bool d4.armed) (.bool d4.dead) (.int .i64 (d4.after:Int)) (.int .i64 (d4.keep:Int)) (.slice oa4 on4 oc4) (.slice ra4 rn4 rc4) (.slice ta4 tn4 tc4);have b5:=R4'.out.2.2.bel.trans (t5.below R4'.out.2.2.bel.size (λ i hi q=>by have q:i=w.heap.size:=q; omega));exact Zan b5 (R4'.out.2.1.turned t5 (λ i q=>.inr (by have q:i=w.heap.size:=q; omega))) t6
   have FIN:Hid (∀ W',Zaa (λ i=>i=w.heap.size+1) ((((((((((w4.setCell ⟨w.heap.size,0,none⟩ (.slice fa4 fl4 fc4)).setCell ⟨w.heap.size,1,none⟩ (.int .i64 (d4.writes:Int))).setCell ⟨w.heap.size,2,none⟩ (.bool d4.armed)).setCell ⟨w.heap.size,3,none⟩ (.bool d4.dead)).setCell ⟨w.heap.size,4,none⟩ (.int .i64 (d4.after:Int))).setCell ⟨w.heap.size,5,none⟩ (.int .i64 (d4.keep:Int))).setCell ⟨w.heap.size,6,none⟩ (.slice oa4 on4 oc4)).setCell ⟨w.heap.size,7,none⟩ (.slice ra4 rn4 rc4)).setCell ⟨w.heap.size,8,none⟩ (.slice ta4 tn4 tc4))) W'->RMS Z W' (rm d4 (.slice fa4 fl4 fc4) (.slice oa4 on4 oc4) (.slice ra4 rn4 rc4) (.slice ta4 tn4 tc4)) (sapp st d (k,body)).1 (sapp st d (k,body)).2.1/\Below w.heap.size w W'):=fin;clear fin;by_cases hz:r4=0
   ·subst hz;go_wp2;refine bodyPost_ret (v:=.tuple #[rm d4 (.slice fa4 fl4 fc4) (.slice oa4 on4 oc4) (.slice ra4 rn4 rc4) (.slice ta4 tn4 tc4),.int .u64 xi,.int .i64 0]) ?_ rfl ⟨_,_,_,rfl,?_⟩
    ·simp [results,Tryz.f115];go_simp
    ·rw [EZ.out];exact ⟨by rw [if_pos R4'.out.1.symm]; exact G.out.2.2.2.2.2.2.2.1.symm,R4'.out.1,FIN.out _ (Zad _ _ _ _ _ _ _ _ _ _ _)⟩
   ·have m0:(r4 != 0)=true:=by simpa using hz
    go_wp2;refine bodyPost_ret (v:=.tuple #[rm d4 (.slice fa4 fl4 fc4) (.slice oa4 on4 oc4) (.slice ra4 rn4 rc4) (.slice ta4 tn4 tc4),.int .u64 0,.int .i64 r4]) ?_ rfl ⟨_,_,_,rfl,?_⟩
    ·simp [results,Tryz.f115];go_simp
    ·rw [EZ.out];exact ⟨by rw [if_neg (λ q=>hz (R4'.out.1.trans q))]; rfl,R4'.out.1,FIN.out _ (Zad _ _ _ _ _ _ _ _ _ _ _)⟩
 ·subst q2;have RO:=L.out.2.1.rd.below P2.out.bel;obtain ⟨b1,o1,eoa,hlt⟩:=RO.some_of q3;subst eoa;obtain ⟨_,cc0,cc1,cc2⟩:=RO.obs q3;simp only at cc2
  have i0:(0:Int)<=(i2:Int):=by omega
  have i1:(i2:Int)<(on:Int):=by
   have:=(List.getElem?_eq_some_iff.1 q3).1;rw [L.out.2.1.len] at this;omega
  cases hq:(bs==body) with
  | true =>
   have eq:bs=body:=by simpa using hq
   have eq2:(⟨bs.toArray⟩:ByteArray)=bb:=by rw [eq,G.out.2.2.2.2.2.1]
   rw [show tx bs=.string bb by rw [<- eq2]] at cc2
   have ez:Q=((st,d),x,0):=by
    rw [<- G.out.2.2.2.2.2.2.2.2.1];unfold sput;rw [G.out.2.2.2.2.2.2.1,q1];simp [eq]
   clear q1 q3 R2 RO hq eq eq2;go_wp2;refine bodyPost_ret (v:=.tuple #[rm d (.slice fa fl fc) (.slice (some ⟨b1,o1,none⟩) on oc) (.slice ra rn rc) (.slice ta tn tc),.int .u64 xi,.int .i64 0]) ?_ rfl ⟨_,_,_,rfl,?_⟩
   ·simp [results,Tryz.f115];go_simp
   ·rw [ez];exact ⟨G.out.2.2.2.2.2.2.2.1.symm,rfl,Zan P2.out.bel (RB.out _ P2.out.bel) (Zad _ _ _ _ _ _ _ _ _ _ _)⟩
  | false =>
   have eq:¬ bs=body:=by simpa using hq
   obtain ⟨b2,hb2⟩:∃ b2:ByteArray,(⟨bs.toArray⟩:ByteArray)=b2:=⟨_,rfl⟩
   rw [show tx bs=.string b2 by rw [<- hb2]] at cc2
   have hq2:(b2.toList==bb.toList)=false:=by
    rw [<- hb2,G.out.2.2.2.2.2.1,Lib.toList_data,Lib.toList_data];exact hq
   have ez:Q=((st,d),0,13):=by
    rw [<- G.out.2.2.2.2.2.2.2.2.1];unfold sput;rw [G.out.2.2.2.2.2.2.1,q1];simp [eq]
   by_cases h0:x=0
   ·have z00:=U0.out.2 h0;subst z00;clear q1 q3 R2 RO hq eq h0 hb2;go_wp2;refine bodyPost_ret (v:=.tuple #[rm d (.slice fa fl fc) (.slice (some ⟨b1,o1,none⟩) on oc) (.slice ra rn rc) (.slice ta tn tc),.int .u64 0,.int .i64 13]) ?_ rfl ⟨_,_,_,rfl,?_⟩
    ·simp [results,Tryz.f115];go_simp
    ·rw [ez];exact ⟨rfl,rfl,Zan P2.out.bel (RB.out _ P2.out.bel) (Zad _ _ _ _ _ _ _ _ _ _ _)⟩
   ·have m1:(xi==0)=false:=by
     have:=λ z=>h0 (U0.out.1 z)
     simpa using this
    have hh:=ZaA (d:=d) (oc:=oc) (vf:=.slice fa fl fc) (vr:=.slice ra rn rc) (vt:=.slice ta tn tc) (L.out.2.1.rd.below P2.out.bel) L.out.2.1.len ho k x true (by unfold St.has; rw [q1]; rfl);rw [G.out.2.2.2.2.2.2.2.1] at hh;clear q1 q3 R2 RO hq eq h0 hb2;go_wp2_with fail;refine hh.mono ?_;rintro e w3 ⟨rfl,B3⟩;have P3:Hid (Two w w3 d (.slice fa fl fc) (.slice (some ⟨b1,o1,none⟩) on oc) (.slice ra rn rc) (.slice ta tn tc)):=P2.out.below B3;clear hh B3;clear x0 x1 x2 x3 x4 x5 x6 x7 x8;clear z0 z1 z2 z3 z4 z5 z6 z7 z8 g0 g1 g2 g3 g4 g5 g6 g7 g8 l2;obtain ⟨x0,x1,x2,x3,x4,x5,x6,x7,x8⟩:=P3.out.box.cells;obtain ⟨z0,z1,z2,z3,z4,z5,z6,z7,z8⟩:=P3.out.res.cells;have gz:=P3.out.res.thaw;have g0:=gz 0;have g1:=gz 1;have g2:=gz 2;have g3:=gz 3;have g4:=gz 4;have g5:=gz 5;have g6:=gz 6;have g7:=gz 7;have g8:=gz 8;have l2:=P3.out.res.lt;clear gz;go_wp2;refine bodyPost_ret (v:=.tuple #[rm d (.slice fa fl fc) (.slice (some ⟨b1,o1,none⟩) on oc) (.slice ra rn rc) (.slice ta tn tc),.int .u64 0,.int .i64 13]) ?_ rfl ⟨_,_,_,rfl,?_⟩
    ·simp [results,Tryz.f115];go_simp
    ·rw [ez];exact ⟨rfl,rfl,Zan P3.out.bel (RB.out _ P3.out.bel) (Zad _ _ _ _ _ _ _ _ _ _ _)⟩
theorem ZcN {es:List En} (hct:ctree es=0):(treeB es).length<=8192:=by
 have h64:=(ZaQ hct).1
 have:∀ l:List En,(∀ e∈l,e.1.length<=102)->(treeB l).length<=111*l.length:=by
  intro l
  induction l with
  | nil=>intro _; simp [treeB]
  | cons x t ih =>
   intro hx;have:=ih (λ e he=>hx e (List.mem_cons_of_mem _ he));have e1:=hx x List.mem_cons_self
   have e2:(treeB (x::t)).length=(entB x).length+(treeB t).length:=by simp [treeB]
   rw [e2,Zdj,List.length_cons];omega
 have h2:=this es (λ e he=>Zbp (List.all_eq_true.1 (ZaQ hct).2.1 e he));omega
theorem ZcT {es:List En} (h:(ftree es).2=0):ctree es=0/\(ftree es).1=treeB es:=by
 unfold ftree at h ⊢
 split at h
 ·rename_i q
  rw [if_pos q];exact ⟨q,rfl⟩
 ·exact absurd h ‹_›
theorem ZdP {c:Cm} (h:(fcom c).2=0):ccom c=0/\(fcom c).1=comB c:=by
 unfold fcom at h ⊢
 split at h
 ·rename_i q
  rw [if_pos q];exact ⟨q,rfl⟩
 ·exact absurd h ‹_›
theorem ZfY {Z:Nat->Prop} {w:World} {m:Value} {st:St} {d:Dk} (hZ:∀ i,Z i->i<w.heap.size) (h:RMS Z w m st d) (hsz:st.size<=1000000) (hok:d.ok) (hw:d.writes<=1000000) (data:Bs) (hdl:data.length<=140737488355328) (Q) (hQ:sblob st d data=Q) :
  Calls Tryz.prog 37 #[m,tx data] w λ e w'=>∃ m' i r,e=.returned (.tuple #[m',.int .u64 i,.int .i64 r])/\Hid (i=(Q.2.1.toNat:Int)/\r=Q.2.2/\RMS Z w' m' Q.1.1 Q.1.2/\Below w.heap.size w w'):=by
 obtain ⟨fa,fl,fc,oa,on,oc,ra,rn,rc,ta,tn,tc,rfl,h1,h2,h3,h4⟩:=h
 have ho:on<=1000000:=by rw [<- h2.len]; unfold St.size at hsz; omega
 have L:Hid (LG encF (Zy Z w) w fa fl fc d.files/\LG encO (Zy Z w) w oa on oc st.objs/\LG encN (Zy Z w) w ra rn rc st.refs/\LG encN (Zy Z w) w ta tn tc st.tags):=⟨h1.into ZaT,h2.into ZaT,h3.into ZaT,h4.into ZaT⟩
 have HZ:Hid (∀ i,Zy Z w i->i<w.heap.size+2):=Zgu hZ
 have RB:Hid (∀ W',Below w.heap.size w W'->RMS (Zy Z w) W' (rm d (.slice fa fl fc) (.slice oa on oc) (.slice ra rn rc) (.slice ta tn tc)) st d):=λ W' b=>⟨fa,fl,fc,oa,on,oc,ra,rn,rc,ta,tn,tc,rfl,L.out.1.below b,L.out.2.1.below b,L.out.2.2.1.below b,L.out.2.2.2.below b⟩
 obtain ⟨bb,hbb⟩:∃ bb:ByteArray,bb=⟨data.toArray⟩:=⟨_,rfl⟩
 have hbs:bb.size=data.length:=by rw [hbb]; show data.toArray.size=_; simp
 rw [show tx data=.string bb by rw [hbb]]
 obtain ⟨W,hW⟩:∃ W,(w.alloc (nineC d (.slice fa fl fc) (.slice oa on oc) (.slice ra rn rc) (.slice ta tn tc))).alloc zeroC=W:=⟨_,rfl⟩
 have P0:Hid (Two w W d (.slice fa fl fc) (.slice oa on oc) (.slice ra rn rc) (.slice ta tn tc)):=by rw [<- hW]; exact Two.new w d _ _ _ _
 obtain ⟨x0,x1,x2,x3,x4,x5,x6,x7,x8⟩:=P0.out.box.cells;obtain ⟨z0,z1,z2,z3,z4,z5,z6,z7,z8⟩:=P0.out.res.cells;have gz:=P0.out.res.thaw;have g0:=gz 0;have g1:=gz 1;have g2:=gz 2;have g3:=gz 3;have g4:=gz 4;have g5:=gz 5;have g6:=gz 6;have g7:=gz 7;have g8:=gz 8;have l2:=P0.out.res.lt;clear gz;by_cases h4:4096<data.length
 ·have t4:(4096:Int)<(bb.size:Int):=by omega
  have t4n:4096<bb.size:=by omega
  have ez:Q=((st,d),0,4):=by rw [<- hQ]; unfold sblob; rw [if_pos h4]
  subst ez;clear h1 h2 h3 h4 hZ hsz hok hw hbs hbb hQ;go_enter Tryz.func37,Tryz.ntmps37;go_wp2;refine bodyPost_ret (v:=.tuple #[rm d (.slice fa fl fc) (.slice oa on oc) (.slice ra rn rc) (.slice ta tn tc),.int .u64 0,.int .i64 4]) ?_ rfl ⟨_,_,_,rfl,?_⟩
  ·simp [results,Tryz.f37];go_simp
  ·exact ⟨rfl,rfl,Zan P0.out.bel (RB.out _ P0.out.bel) (Zad _ _ _ _ _ _ _ _ _ _ _)⟩
 ·have t4:¬ (4096:Int)<(bb.size:Int):=by omega
  have t4n:¬ 4096<bb.size:=by omega
  have ez:sput st d 1 data=Q:=by rw [<- hQ]; unfold sblob; rw [if_neg h4]
  have hpu:=Zdz (λ i q=>by have:=HZ.out i q; have:=P0.out.size; omega) (RB.out W P0.out.bel) hsz hok hw 1 (.inl rfl) data (by omega) (by unfold St.right; rw [if_pos rfl]; simp; omega);rw [ez,show tx data=.string bb by rw [hbb]] at hpu;clear h1 h2 h3 h4 hZ hsz hok hw hbs hbb hQ ez;go_enter Tryz.func37,Tryz.ntmps37;go_wp2_with fail;refine hpu.mono ?_;rintro e w9 ⟨m9,i9,r9,rfl,R9⟩
  have R9':Hid (i9=(Q.2.1.toNat:Int)/\r9=Q.2.2/\RMS (Zy Z w) w9 m9 Q.1.1 Q.1.2/\Two w w9 d (.slice fa fl fc) (.slice oa on oc) (.slice ra rn rc) (.slice ta tn tc)):=⟨R9.out.1,R9.out.2.1,R9.out.2.2.1,P0.out.below R9.out.2.2.2⟩
  clear hpu R9;obtain ⟨fa4,fl4,fc4,oa4,on4,oc4,ra4,rn4,rc4,ta4,tn4,tc4,em,_⟩:=R9'.out.2.2.1;subst em;clear x0 x1 x2 x3 x4 x5 x6 x7 x8;clear z0 z1 z2 z3 z4 z5 z6 z7 z8 g0 g1 g2 g3 g4 g5 g6 g7 g8 l2;obtain ⟨z0,z1,z2,z3,z4,z5,z6,z7,z8⟩:=R9'.out.2.2.2.res.cells;have gz:=R9'.out.2.2.2.res.thaw;have g0:=gz 0;have g1:=gz 1;have g2:=gz 2;have g3:=gz 3;have g4:=gz 4;have g5:=gz 5;have g6:=gz 6;have g7:=gz 7;have g8:=gz 8;have l2:=R9'.out.2.2.2.res.lt;clear gz;go_wp2;refine bodyPost_ret (v:=.tuple #[rm Q.1.2 (.slice fa4 fl4 fc4) (.slice oa4 on4 oc4) (.slice ra4 rn4 rc4) (.slice ta4 tn4 tc4),.int .u64 i9,.int .i64 r9]) ?_ rfl ⟨_,_,_,rfl,?_⟩
  ·simp [results,Tryz.f37];go_simp
  ·exact ⟨R9'.out.1,R9'.out.2.1,Zan R9'.out.2.2.2.bel R9'.out.2.2.1 (Zad _ _ _ _ _ _ _ _ _ _ _)⟩
theorem Zf5 {Z:Nat->Prop} {w:World} {m:Value} {st:St} {d:Dk} (hZ:∀ i,Z i->i<w.heap.size) (h:RMS Z w m st d) (hsz:st.size<=1000000) (hok:d.ok) (hw:d.writes<=1000000) {ea:Option Addr} {en ec:Nat} {es:List En} (hr:RdG encE w ea es) (hel:es.length=en) (hen:en<=4000000000000000000) (Q) (hQ:stree st d es=Q) :
  Calls Tryz.prog 39 #[m,.slice ea en ec] w λ e w'=>∃ m' i r,e=.returned (.tuple #[m',.int .u64 i,.int .i64 r])/\Hid (i=(Q.2.1.toNat:Int)/\r=Q.2.2/\RMS Z w' m' Q.1.1 Q.1.2/\Below w.heap.size w w'):=by
 obtain ⟨fa,fl,fc,oa,on,oc,ra,rn,rc,ta,tn,tc,rfl,h1,h2,h3,h4⟩:=h
 have ho:on<=1000000:=by rw [<- h2.len]; unfold St.size at hsz; omega
 have L:Hid (LG encF (Zy Z w) w fa fl fc d.files/\LG encO (Zy Z w) w oa on oc st.objs/\LG encN (Zy Z w) w ra rn rc st.refs/\LG encN (Zy Z w) w ta tn tc st.tags):=⟨h1.into ZaT,h2.into ZaT,h3.into ZaT,h4.into ZaT⟩
 have HZ:Hid (∀ i,Zy Z w i->i<w.heap.size+2):=Zgu hZ
 have RB:Hid (∀ W',Below w.heap.size w W'->RMS (Zy Z w) W' (rm d (.slice fa fl fc) (.slice oa on oc) (.slice ra rn rc) (.slice ta tn tc)) st d):=λ W' b=>⟨fa,fl,fc,oa,on,oc,ra,rn,rc,ta,tn,tc,rfl,L.out.1.below b,L.out.2.1.below b,L.out.2.2.1.below b,L.out.2.2.2.below b⟩
 obtain ⟨W,hW⟩:∃ W,(w.alloc (nineC d (.slice fa fl fc) (.slice oa on oc) (.slice ra rn rc) (.slice ta tn tc))).alloc zeroC=W:=⟨_,rfl⟩
 have P0:Hid (Two w W d (.slice fa fl fc) (.slice oa on oc) (.slice ra rn rc) (.slice ta tn tc)):=by rw [<- hW]; exact Two.new w d _ _ _ _
 have htr:=ZfP (c:=ec) W (hr.below P0.out.bel) hel
 obtain ⟨fe,hfe⟩:∃ fe,(ftree es).2=fe:=⟨_,rfl⟩
 obtain ⟨fb,hfb⟩:∃ fb,(ftree es).1=fb:=⟨_,rfl⟩
 obtain ⟨bb,hbb⟩:∃ bb:ByteArray,bb=⟨fb.toArray⟩:=⟨_,rfl⟩
 rw [hfe,hfb,show tx fb=.string bb by rw [hbb]] at htr;by_cases h0:fe=0
 ·subst h0;have hct:=ZcT hfe
  have hlen:fb.length<=8192:=by rw [<- hfb,hct.2]; exact ZcN hct.1
  have hrd:rdtree fb=some es:=by rw [<- hfb,hct.2]; exact Zcr hct.1
  obtain ⟨g,hg⟩:∃ g,st.blobs es=g:=⟨_,rfl⟩
  have G:Hid (RdG encE w ea es/\es.length=en/\fb.length<=8192/\rdtree fb=some es/\st.blobs es=g/\st.size<=1000000/\d.ok/\d.writes<=1000000/\stree st d es=Q/\(ftree es).2=0/\(ftree es).1=fb/\bb=⟨fb.toArray⟩):=⟨hr,hel,hlen,hrd,hg,hsz,hok,hw,hQ,hfe,hfb,hbb⟩
  clear h1 h2 h3 h4 hZ hsz hok hw hQ hr hel hlen hrd hg hct hfe hfb hbb;obtain ⟨x0,x1,x2,x3,x4,x5,x6,x7,x8⟩:=P0.out.box.cells;obtain ⟨z0,z1,z2,z3,z4,z5,z6,z7,z8⟩:=P0.out.res.cells;have gz:=P0.out.res.thaw;have g0:=gz 0;have g1:=gz 1;have g2:=gz 2;have g3:=gz 3;have g4:=gz 4;have g5:=gz 5;have g6:=gz 6;have g7:=gz 7;have g8:=gz 8;have l2:=P0.out.res.lt;clear gz;go_enter Tryz.func39,Tryz.ntmps39;go_wp2_with fail;refine htr.mono ?_;rintro e w1 ⟨rfl,B1⟩;have P1:Hid (Two w w1 d (.slice fa fl fc) (.slice oa on oc) (.slice ra rn rc) (.slice ta tn tc)):=P0.out.below B1;clear htr B1;clear x0 x1 x2 x3 x4 x5 x6 x7 x8;clear z0 z1 z2 z3 z4 z5 z6 z7 z8 g0 g1 g2 g3 g4 g5 g6 g7 g8 l2;obtain ⟨x0,x1,x2,x3,x4,x5,x6,x7,x8⟩:=P1.out.box.cells;obtain ⟨z0,z1,z2,z3,z4,z5,z6,z7,z8⟩:=P1.out.res.cells;have gz:=P1.out.res.thaw;have g0:=gz 0;have g1:=gz 1;have g2:=gz 2;have g3:=gz 3;have g4:=gz 4;have g5:=gz 5;have g6:=gz 6;have g7:=gz 7;have g8:=gz 8;have l2:=P1.out.res.lt;clear gz;have hbl:=Zeh (d:=d) (oc:=oc) (vf:=.slice fa fl fc) (vr:=.slice ra rn rc) (vt:=.slice ta tn tc) (ec:=ec) (L.out.2.1.rd.below P1.out.bel) L.out.2.1.len ho (G.out.1.below P1.out.bel) G.out.2.1 hen g G.out.2.2.2.2.1;go_wp2_with fail;refine hbl.mono ?_;rintro e w2 ⟨rfl,B2⟩;have P2:Hid (Two w w2 d (.slice fa fl fc) (.slice oa on oc) (.slice ra rn rc) (.slice ta tn tc)):=P1.out.below B2;clear hbl B2;clear x0 x1 x2 x3 x4 x5 x6 x7 x8;clear z0 z1 z2 z3 z4 z5 z6 z7 z8 g0 g1 g2 g3 g4 g5 g6 g7 g8 l2;obtain ⟨x0,x1,x2,x3,x4,x5,x6,x7,x8⟩:=P2.out.box.cells;obtain ⟨z0,z1,z2,z3,z4,z5,z6,z7,z8⟩:=P2.out.res.cells;have gz:=P2.out.res.thaw;have g0:=gz 0;have g1:=gz 1;have g2:=gz 2;have g3:=gz 3;have g4:=gz 4;have g5:=gz 5;have g6:=gz 6;have g7:=gz 7;have g8:=gz 8;have l2:=P2.out.res.lt;clear gz
  cases g with
  | false =>
   have ez:Q=((st,d),0,5):=by
    rw [<- G.out.2.2.2.2.2.2.2.2.1];unfold stree;rw [if_neg (by rw [G.out.2.2.2.2.2.2.2.2.2.1]; simp),if_pos G.out.2.2.2.2.1]
   subst ez;go_wp2;refine bodyPost_ret (v:=.tuple #[rm d (.slice fa fl fc) (.slice oa on oc) (.slice ra rn rc) (.slice ta tn tc),.int .u64 0,.int .i64 5]) ?_ rfl ⟨_,_,_,rfl,?_⟩
   ·simp [results,Tryz.f39];go_simp
   ·exact ⟨rfl,rfl,Zan P2.out.bel (RB.out _ P2.out.bel) (Zad _ _ _ _ _ _ _ _ _ _ _)⟩
  | true =>
   have ez:sput st d 2 fb=Q:=by
    rw [<- G.out.2.2.2.2.2.2.2.2.1];unfold stree;rw [if_neg (by rw [G.out.2.2.2.2.2.2.2.2.2.1]; simp),if_neg (by rw [G.out.2.2.2.2.1]; simp),G.out.2.2.2.2.2.2.2.2.2.2.1]
   have hpu:=Zdz (λ i q=>by have:=HZ.out i q; have:=P2.out.size; omega) (RB.out w2 P2.out.bel) G.out.2.2.2.2.2.1 G.out.2.2.2.2.2.2.1 G.out.2.2.2.2.2.2.2.1 2 (.inr (.inl rfl)) fb G.out.2.2.1 (by unfold St.right; rw [if_neg (by show ¬ (2:Int)=1; omega),if_pos rfl]; simp only [G.out.2.2.2.1]; exact G.out.2.2.2.2.1);rw [ez,show tx fb=.string bb by rw [G.out.2.2.2.2.2.2.2.2.2.2.2]] at hpu;clear ez;go_wp2_with fail;refine hpu.mono ?_;rintro e w9 ⟨m9,i9,r9,rfl,R9⟩
   have R9':Hid (i9=(Q.2.1.toNat:Int)/\r9=Q.2.2/\RMS (Zy Z w) w9 m9 Q.1.1 Q.1.2/\Two w w9 d (.slice fa fl fc) (.slice oa on oc) (.slice ra rn rc) (.slice ta tn tc)):=⟨R9.out.1,R9.out.2.1,R9.out.2.2.1,P2.out.below R9.out.2.2.2⟩
   clear hpu R9;obtain ⟨fa4,fl4,fc4,oa4,on4,oc4,ra4,rn4,rc4,ta4,tn4,tc4,em,_⟩:=R9'.out.2.2.1;subst em;clear x0 x1 x2 x3 x4 x5 x6 x7 x8;clear z0 z1 z2 z3 z4 z5 z6 z7 z8 g0 g1 g2 g3 g4 g5 g6 g7 g8 l2;obtain ⟨z0,z1,z2,z3,z4,z5,z6,z7,z8⟩:=R9'.out.2.2.2.res.cells;have gz:=R9'.out.2.2.2.res.thaw;have g0:=gz 0;have g1:=gz 1;have g2:=gz 2;have g3:=gz 3;have g4:=gz 4;have g5:=gz 5;have g6:=gz 6;have g7:=gz 7;have g8:=gz 8;have l2:=R9'.out.2.2.2.res.lt;clear gz;go_wp2;refine bodyPost_ret (v:=.tuple #[rm Q.1.2 (.slice fa4 fl4 fc4) (.slice oa4 on4 oc4) (.slice ra4 rn4 rc4) (.slice ta4 tn4 tc4),.int .u64 i9,.int .i64 r9]) ?_ rfl ⟨_,_,_,rfl,?_⟩
   ·simp [results,Tryz.f39];go_simp
   ·exact ⟨R9'.out.1,R9'.out.2.1,Zan R9'.out.2.2.2.bel R9'.out.2.2.1 (Zad _ _ _ _ _ _ _ _ _ _ _)⟩
 ·have ez:Q=((st,d),0,fe):=by rw [<- hQ]; unfold stree; rw [if_pos (by rw [hfe]; exact h0),hfe]
  have m0:(fe != 0)=true:=by simpa using h0
  subst ez;clear h1 h2 h3 h4 hZ hsz hok hw hQ hr hel hfe hfb hbb;obtain ⟨x0,x1,x2,x3,x4,x5,x6,x7,x8⟩:=P0.out.box.cells;obtain ⟨z0,z1,z2,z3,z4,z5,z6,z7,z8⟩:=P0.out.res.cells;have gz:=P0.out.res.thaw;have g0:=gz 0;have g1:=gz 1;have g2:=gz 2;have g3:=gz 3;have g4:=gz 4;have g5:=gz 5;have g6:=gz 6;have g7:=gz 7;have g8:=gz 8;have l2:=P0.out.res.lt;clear gz;go_enter Tryz.func39,Tryz.ntmps39;go_wp2_with fail;refine htr.mono ?_;rintro e w1 ⟨rfl,B1⟩;have P1:Hid (Two w w1 d (.slice fa fl fc) (.slice oa on oc) (.slice ra rn rc) (.slice ta tn tc)):=P0.out.below B1;clear htr B1;clear x0 x1 x2 x3 x4 x5 x6 x7 x8;clear z0 z1 z2 z3 z4 z5 z6 z7 z8 g0 g1 g2 g3 g4 g5 g6 g7 g8 l2;obtain ⟨x0,x1,x2,x3,x4,x5,x6,x7,x8⟩:=P1.out.box.cells;obtain ⟨z0,z1,z2,z3,z4,z5,z6,z7,z8⟩:=P1.out.res.cells;have gz:=P1.out.res.thaw;have g0:=gz 0;have g1:=gz 1;have g2:=gz 2;have g3:=gz 3;have g4:=gz 4;have g5:=gz 5;have g6:=gz 6;have g7:=gz 7;have g8:=gz 8;have l2:=P1.out.res.lt;clear gz;go_wp2;refine bodyPost_ret (v:=.tuple #[rm d (.slice fa fl fc) (.slice oa on oc) (.slice ra rn rc) (.slice ta tn tc),.int .u64 0,.int .i64 fe]) ?_ rfl ⟨_,_,_,rfl,?_⟩
  ·simp [results,Tryz.f39];go_simp
  ·exact ⟨rfl,rfl,Zan P1.out.bel (RB.out _ P1.out.bel) (Zad _ _ _ _ _ _ _ _ _ _ _)⟩
structure Tri2 (w W:World) (d:Dk) (vf vo vr vt:Value) (tr:Int) (pv:Value) (dt:Int) (nt:ByteArray):Prop where
 bel:Below w.heap.size w W
 box:Zbg W w.heap.size d vf vo vr vt
 com:Box4 W (w.heap.size+1) 108 (.int .u64 tr) pv (.int .i64 dt) (.string nt)
 res:Nine W (w.heap.size+2) (.slice none 0 0) (.int .i64 0) (.bool false) (.bool false) (.int .i64 0) (.int .i64 0) (.slice none 0 0) (.slice none 0 0) (.slice none 0 0)
theorem Tri2.new (w:World) (d:Dk) (vf vo vr vt:Value) (tr:Int) (pv:Value) (dt:Int) (nt:ByteArray) :
  Tri2 w (((w.alloc (nineC d vf vo vr vt)).alloc (.cells #[.int .u64 tr,pv,.int .i64 dt,.string nt] 108)).alloc zeroC) d vf vo vr vt tr pv dt nt:=by
 have e1:(w.alloc (nineC d vf vo vr vt)).heap.size=w.heap.size+1:=by simp
 have e2:((w.alloc (nineC d vf vo vr vt)).alloc (.cells #[.int .u64 tr,pv,.int .i64 dt,.string nt] 108)).heap.size=w.heap.size+2:=by simp
 have b2:=Box4.new (w.alloc (nineC d vf vo vr vt)) 108 (.int .u64 tr) pv (.int .i64 dt) (.string nt);rw [e1] at b2;have b3:=Nine.new ((w.alloc (nineC d vf vo vr vt)).alloc (.cells #[.int .u64 tr,pv,.int .i64 dt,.string nt] 108)) (.slice none 0 0) (.int .i64 0) (.bool false) (.bool false) (.int .i64 0) (.int .i64 0) (.slice none 0 0) (.slice none 0 0) (.slice none 0 0);rw [e2] at b3;exact ⟨bz3 _ _ _ _,((Nine.new w _ _ _ _ _ _ _ _ _).below (bz1 _ _) (by rw [e1]; omega)).below (bz1 _ _) (by rw [e2]; omega),b2.below (bz1 _ _) (by rw [e2]; omega),b3⟩
theorem Tri2.below {w W W':World} {d:Dk} {vf vo vr vt:Value} {tr:Int} {pv:Value} {dt:Int} {nt:ByteArray} (h:Tri2 w W d vf vo vr vt tr pv dt nt) (hb:Below W.heap.size W W'):Tri2 w W' d vf vo vr vt tr pv dt nt :=
 ⟨h.bel.trans (hb.mono h.bel.size),h.box.below hb h.box.lt,h.com.below hb h.com.lt,h.res.below hb h.res.lt⟩
theorem Tri2.size {w W:World} {d:Dk} {vf vo vr vt:Value} {tr:Int} {pv:Value} {dt:Int} {nt:ByteArray} (h:Tri2 w W d vf vo vr vt tr pv dt nt):w.heap.size+3<=W.heap.size:=by
 have:=h.res.lt;omega
theorem ZgH {Z:Nat->Prop} {w:World} {m:Value} {st:St} {d:Dk} (hZ:∀ i,Z i->i<w.heap.size) (h:RMS Z w m st d) (hsz:st.size<=1000000) (hok:d.ok) (hw:d.writes<=1000000) {pa:Option Addr} {pn pc:Nat} {cm:Cm} (hr:RdG encU w pa cm.ps) (hel:cm.ps.length=pn) (hen:pn<=4000000000000000000) (nt:ByteArray) (hnt:nt=⟨cm.note.toArray⟩) (dt:Int) (hdt:cm.date=dt) (Q) (hQ:scom st d cm=Q) :
  Calls Tryz.prog 42 #[m,.agg #[.int .u64 (cm.tree.toNat:Int),.slice pa pn pc,.int .i64 dt,.string nt]] w λ e w'=>∃ m' i r,e=.returned (.tuple #[m',.int .u64 i,.int .i64 r])/\Hid (i=(Q.2.1.toNat:Int)/\r=Q.2.2/\RMS Z w' m' Q.1.1 Q.1.2/\Below w.heap.size w w'):=by
 obtain ⟨fa,fl,fc,oa,on,oc,ra,rn,rc,ta,tn,tc,rfl,h1,h2,h3,h4⟩:=h
 have ho:on<=1000000:=by rw [<- h2.len]; unfold St.size at hsz; omega
 have L:Hid (LG encF (Zx Z w) w fa fl fc d.files/\LG encO (Zx Z w) w oa on oc st.objs/\LG encN (Zx Z w) w ra rn rc st.refs/\LG encN (Zx Z w) w ta tn tc st.tags):=⟨h1.into (λ i hi q=>q.elim (λ q=>q) (λ q=>by omega)),h2.into (λ i hi q=>q.elim (λ q=>q) (λ q=>by omega)),h3.into (λ i hi q=>q.elim (λ q=>q) (λ q=>by omega)),h4.into (λ i hi q=>q.elim (λ q=>q) (λ q=>by omega))⟩
 have HZ:Hid (∀ i,Zx Z w i->i<w.heap.size+3):=λ i q=>q.elim (λ q=>by have:=hZ i q; omega) (λ q=>q.2)
 have RB:Hid (∀ W',Below w.heap.size w W'->RMS (Zx Z w) W' (rm d (.slice fa fl fc) (.slice oa on oc) (.slice ra rn rc) (.slice ta tn tc)) st d):=λ W' b=>⟨fa,fl,fc,oa,on,oc,ra,rn,rc,ta,tn,tc,rfl,L.out.1.below b,L.out.2.1.below b,L.out.2.2.1.below b,L.out.2.2.2.below b⟩
 have hwr0:=λ (W:World) (b:Below w.heap.size w W)=>Zev (c:=cm) (pc:=pc) (hr.below b) hel nt hnt dt hdt
 have hab0:=λ (W:World) (b:Below w.heap.size w W) (q:Bool) (hq:st.above cm=q)=>Zeg (d:=d) (oc:=oc) (vf:=.slice fa fl fc) (vr:=.slice ra rn rc) (vt:=.slice ta tn tc) (pc:=pc) (h2.rd.below b) h2.len ho (hr.below b) hel hen dt nt q hq
 obtain ⟨tr,htr⟩:∃ tr:Int,(cm.tree.toNat:Int)=tr:=⟨_,rfl⟩
 rw [htr] at hwr0 hab0 ⊢
 obtain ⟨fe,hfe⟩:∃ fe,(fcom cm).2=fe:=⟨_,rfl⟩
 obtain ⟨fb,hfb⟩:∃ fb,(fcom cm).1=fb:=⟨_,rfl⟩
 obtain ⟨bb,hbb⟩:∃ bb:ByteArray,bb=⟨fb.toArray⟩:=⟨_,rfl⟩
 rw [hfe,hfb,show tx fb=.string bb by rw [hbb]] at hwr0
 obtain ⟨W,hW⟩:∃ W,((w.alloc (nineC d (.slice fa fl fc) (.slice oa on oc) (.slice ra rn rc) (.slice ta tn tc))).alloc (.cells #[.int .u64 tr,.slice pa pn pc,.int .i64 dt,.string nt] 108)).alloc zeroC=W:=⟨_,rfl⟩
 have P0:Hid (Tri2 w W d (.slice fa fl fc) (.slice oa on oc) (.slice ra rn rc) (.slice ta tn tc) tr (.slice pa pn pc) dt nt):=by rw [<- hW]; exact Tri2.new w d _ _ _ _ _ _ _ _
 have hwr:=hwr0 W P0.out.bel;by_cases h0:fe=0
 ·subst h0;have hct:=ZdP hfe
  have hlen:fb.length<=8192:=by
   rw [<- hfb,hct.2];have h1:=(Zb4 hct.1).2.1;have h2:=Za3 hct.1;omega
  have hrd:rdcom fb=some cm:=by rw [<- hfb,hct.2]; exact Zdg hct.1
  obtain ⟨g,hg⟩:∃ g,st.above cm=g:=⟨_,rfl⟩
  have HAB:Hid (∀ W',Below w.heap.size w W'->Calls Tryz.prog 119 #[rm d (.slice fa fl fc) (.slice oa on oc) (.slice ra rn rc) (.slice ta tn tc),.agg #[.int .u64 tr,.slice pa pn pc,.int .i64 dt,.string nt]] W' λ e w'=>e=.returned (.bool g)/\Below W'.heap.size W' w'):=λ W' b=>hab0 W' b g hg
  have G:Hid (fb.length<=8192/\rdcom fb=some cm/\st.above cm=g/\st.size<=1000000/\d.ok/\d.writes<=1000000/\scom st d cm=Q/\(fcom cm).2=0/\(fcom cm).1=fb/\bb=⟨fb.toArray⟩):=⟨hlen,hrd,hg,hsz,hok,hw,hQ,hfe,hfb,hbb⟩
  clear h1 h2 h3 h4 hZ hsz hok hw hQ hr hel hlen hrd hg hct hfe hfb hbb hab0 hwr0 hnt hdt htr;obtain ⟨x0,x1,x2,x3,x4,x5,x6,x7,x8⟩:=P0.out.box.cells;obtain ⟨c0,c1,c2,c3⟩:=P0.out.com.cells;obtain ⟨z0,z1,z2,z3,z4,z5,z6,z7,z8⟩:=P0.out.res.cells;have gz:=P0.out.res.thaw;have g0:=gz 0;have g1:=gz 1;have g2:=gz 2;have g3:=gz 3;have g4:=gz 4;have g5:=gz 5;have g6:=gz 6;have g7:=gz 7;have g8:=gz 8;have l2:=P0.out.res.lt;clear gz;go_enter Tryz.func42,Tryz.ntmps42;go_wp2_with fail;refine hwr.mono ?_;rintro e w1 ⟨rfl,B1⟩;have P1:Hid (Tri2 w w1 d (.slice fa fl fc) (.slice oa on oc) (.slice ra rn rc) (.slice ta tn tc) tr (.slice pa pn pc) dt nt):=P0.out.below B1;clear hwr B1;clear x0 x1 x2 x3 x4 x5 x6 x7 x8;clear z0 z1 z2 z3 z4 z5 z6 z7 z8 g0 g1 g2 g3 g4 g5 g6 g7 g8 l2;clear c0 c1 c2 c3;obtain ⟨x0,x1,x2,x3,x4,x5,x6,x7,x8⟩:=P1.out.box.cells;obtain ⟨c0,c1,c2,c3⟩:=P1.out.com.cells;obtain ⟨z0,z1,z2,z3,z4,z5,z6,z7,z8⟩:=P1.out.res.cells;have gz:=P1.out.res.thaw;have g0:=gz 0;have g1:=gz 1;have g2:=gz 2;have g3:=gz 3;have g4:=gz 4;have g5:=gz 5;have g6:=gz 6;have g7:=gz 7;have g8:=gz 8;have l2:=P1.out.res.lt;clear gz;go_wp2_with fail;refine (HAB.out w1 P1.out.bel).mono ?_;rintro e w2 ⟨rfl,B2⟩;have P2:Hid (Tri2 w w2 d (.slice fa fl fc) (.slice oa on oc) (.slice ra rn rc) (.slice ta tn tc) tr (.slice pa pn pc) dt nt):=P1.out.below B2;clear HAB B2;clear x0 x1 x2 x3 x4 x5 x6 x7 x8;clear z0 z1 z2 z3 z4 z5 z6 z7 z8 g0 g1 g2 g3 g4 g5 g6 g7 g8 l2;clear c0 c1 c2 c3;obtain ⟨x0,x1,x2,x3,x4,x5,x6,x7,x8⟩:=P2.out.box.cells;obtain ⟨z0,z1,z2,z3,z4,z5,z6,z7,z8⟩:=P2.out.res.cells;have gz:=P2.out.res.thaw;have g0:=gz 0;have g1:=gz 1;have g2:=gz 2;have g3:=gz 3;have g4:=gz 4;have g5:=gz 5;have g6:=gz 6;have g7:=gz 7;have g8:=gz 8;have l2:=P2.out.res.lt;clear gz
  cases g with
  | false =>
   have ez:Q=((st,d),0,5):=by
    rw [<- G.out.2.2.2.2.2.2.1];unfold scom;rw [if_neg (by rw [G.out.2.2.2.2.2.2.2.1]; simp),if_pos G.out.2.2.1]
   subst ez;go_wp2;refine bodyPost_ret (v:=.tuple #[rm d (.slice fa fl fc) (.slice oa on oc) (.slice ra rn rc) (.slice ta tn tc),.int .u64 0,.int .i64 5]) ?_ rfl ⟨_,_,_,rfl,?_⟩
   ·simp [results,Tryz.f42];go_simp
   ·exact ⟨rfl,rfl,Zai P2.out.bel (RB.out _ P2.out.bel) (Zad _ _ _ _ _ _ _ _ _ _ _)⟩
  | true =>
   have ez:sput st d 3 fb=Q:=by
    rw [<- G.out.2.2.2.2.2.2.1];unfold scom;rw [if_neg (by rw [G.out.2.2.2.2.2.2.2.1]; simp),if_neg (by rw [G.out.2.2.1]; simp),G.out.2.2.2.2.2.2.2.2.1]
   have hpu:=Zdz (λ i q=>by have:=HZ.out i q; have:=P2.out.size; omega) (RB.out w2 P2.out.bel) G.out.2.2.2.1 G.out.2.2.2.2.1 G.out.2.2.2.2.2.1 3 (.inr (.inr rfl)) fb G.out.1 (by unfold St.right; rw [if_neg (by show ¬ (3:Int)=1; omega),if_neg (by show ¬ (3:Int)=2; omega),if_pos rfl]; simp only [G.out.2.1]; exact G.out.2.2.1);rw [ez,show tx fb=.string bb by rw [G.out.2.2.2.2.2.2.2.2.2]] at hpu;clear ez;go_wp2_with fail;refine hpu.mono ?_;rintro e w9 ⟨m9,i9,r9,rfl,R9⟩
   have R9':Hid (i9=(Q.2.1.toNat:Int)/\r9=Q.2.2/\RMS (Zx Z w) w9 m9 Q.1.1 Q.1.2/\Tri2 w w9 d (.slice fa fl fc) (.slice oa on oc) (.slice ra rn rc) (.slice ta tn tc) tr (.slice pa pn pc) dt nt):=⟨R9.out.1,R9.out.2.1,R9.out.2.2.1,P2.out.below R9.out.2.2.2⟩
   clear hpu R9;obtain ⟨fa4,fl4,fc4,oa4,on4,oc4,ra4,rn4,rc4,ta4,tn4,tc4,em,_⟩:=R9'.out.2.2.1;subst em;clear x0 x1 x2 x3 x4 x5 x6 x7 x8;clear z0 z1 z2 z3 z4 z5 z6 z7 z8 g0 g1 g2 g3 g4 g5 g6 g7 g8 l2;obtain ⟨z0,z1,z2,z3,z4,z5,z6,z7,z8⟩:=R9'.out.2.2.2.res.cells;have gz:=R9'.out.2.2.2.res.thaw;have g0:=gz 0;have g1:=gz 1;have g2:=gz 2;have g3:=gz 3;have g4:=gz 4;have g5:=gz 5;have g6:=gz 6;have g7:=gz 7;have g8:=gz 8;have l2:=R9'.out.2.2.2.res.lt;clear gz;go_wp2;refine bodyPost_ret (v:=.tuple #[rm Q.1.2 (.slice fa4 fl4 fc4) (.slice oa4 on4 oc4) (.slice ra4 rn4 rc4) (.slice ta4 tn4 tc4),.int .u64 i9,.int .i64 r9]) ?_ rfl ⟨_,_,_,rfl,?_⟩
   ·simp [results,Tryz.f42];go_simp
   ·exact ⟨R9'.out.1,R9'.out.2.1,Zai R9'.out.2.2.2.bel R9'.out.2.2.1 (Zad _ _ _ _ _ _ _ _ _ _ _)⟩
 ·have ez:Q=((st,d),0,fe):=by rw [<- hQ]; unfold scom; rw [if_pos (by rw [hfe]; exact h0),hfe]
  have m0:(fe != 0)=true:=by simpa using h0
  subst ez;clear h1 h2 h3 h4 hZ hsz hok hw hQ hr hel hfe hfb hbb hab0 hwr0 hnt hdt htr;obtain ⟨x0,x1,x2,x3,x4,x5,x6,x7,x8⟩:=P0.out.box.cells;obtain ⟨c0,c1,c2,c3⟩:=P0.out.com.cells;obtain ⟨z0,z1,z2,z3,z4,z5,z6,z7,z8⟩:=P0.out.res.cells;have gz:=P0.out.res.thaw;have g0:=gz 0;have g1:=gz 1;have g2:=gz 2;have g3:=gz 3;have g4:=gz 4;have g5:=gz 5;have g6:=gz 6;have g7:=gz 7;have g8:=gz 8;have l2:=P0.out.res.lt;clear gz;go_enter Tryz.func42,Tryz.ntmps42;go_wp2_with fail;refine hwr.mono ?_;rintro e w1 ⟨rfl,B1⟩;have P1:Hid (Tri2 w w1 d (.slice fa fl fc) (.slice oa on oc) (.slice ra rn rc) (.slice ta tn tc) tr (.slice pa pn pc) dt nt):=P0.out.below B1;clear hwr B1;clear x0 x1 x2 x3 x4 x5 x6 x7 x8;clear z0 z1 z2 z3 z4 z5 z6 z7 z8 g0 g1 g2 g3 g4 g5 g6 g7 g8 l2;clear c0 c1 c2 c3;obtain ⟨x0,x1,x2,x3,x4,x5,x6,x7,x8⟩:=P1.out.box.cells;obtain ⟨z0,z1,z2,z3,z4,z5,z6,z7,z8⟩:=P1.out.res.cells;have gz:=P1.out.res.thaw;have g0:=gz 0;have g1:=gz 1;have g2:=gz 2;have g3:=gz 3;have g4:=gz 4;have g5:=gz 5;have g6:=gz 6;have g7:=gz 7;have g8:=gz 8;have l2:=P1.out.res.lt;clear gz;go_wp2;refine bodyPost_ret (v:=.tuple #[rm d (.slice fa fl fc) (.slice oa on oc) (.slice ra rn rc) (.slice ta tn tc),.int .u64 0,.int .i64 fe]) ?_ rfl ⟨_,_,_,rfl,?_⟩
  ·simp [results,Tryz.f42];go_simp
  ·exact ⟨rfl,rfl,Zai P1.out.bel (RB.out _ P1.out.bel) (Zad _ _ _ _ _ _ _ _ _ _ _)⟩
abbrev nilV:Value:=.slice none 0 0
abbrev rm0:Value:=rm dk0 nilV nilV nilV nilV
theorem Zca {α:Type} (E:Enc α) (Z:Nat->Prop) (w:World):LG E Z w none 0 0 []:=⟨rfl,Nat.le_refl _,RdG.nil _ _ _,λ h=>absurd h (by omega)⟩
theorem rms0 (Z:Nat->Prop) (w:World):RMS Z w rm0 st0 dk0 :=
 ⟨none,0,0,none,0,0,none,0,0,none,0,0,rfl,Zca _ _ _,Zca _ _ _,Zca _ _ _,Zca _ _ _⟩
theorem Zkj:(fcut []).1.length=0:=by
 rw [fcut];simp
theorem Zil (w:World) :
  Calls Tryz.prog 36 #[.agg #[nilV,.int .i64 0,.bool false,.bool false,.int .i64 0,.int .i64 0]] w λ e w'=>e=.returned (.tuple #[rm0,.int .i64 0])/\Below w.heap.size w w':=by
 obtain ⟨W,hW⟩:∃ W,((w.alloc (.cells #[nilV,.int .i64 0,.bool false,.bool false,.int .i64 0,.int .i64 0] 28)).alloc zeroC).alloc zeroC=W:=⟨_,rfl⟩
 have NB:Hid (BoxA W w.heap.size 28 #[nilV,.int .i64 0,.bool false,.bool false,.int .i64 0,.int .i64 0]/\BoxA W (w.heap.size+1) 32 #[nilV,.int .i64 0,.bool false,.bool false,.int .i64 0,.int .i64 0,nilV,nilV,nilV]/\BoxA W (w.heap.size+2) 32 #[nilV,.int .i64 0,.bool false,.bool false,.int .i64 0,.int .i64 0,nilV,nilV,nilV]/\Below w.heap.size w W):=by
  rw [<- hW];exact ZbE _ _ _ _ _ _ _
 have HW:Hid (((w.alloc (.cells #[nilV,.int .i64 0,.bool false,.bool false,.int .i64 0,.int .i64 0] 28)).alloc zeroC).alloc zeroC=W):=hW;clear hW;have hda:Hid (Calls Tryz.prog 111 #[.agg #[nilV,.int .i64 0,.bool false,.bool false,.int .i64 0,.int .i64 0],.string ⟨#[111,98,106,101,99,116,115]⟩] W λ e w'=>e=.returned (.string ⟨#[]⟩)/\Below W.heap.size W w'):=ZdB (c:=0) dk0 fileN W (RdG.nil _ _ _) rfl (by omega) rfl
 have hcu:Hid (∀ w1,Calls Tryz.prog 112 #[.string ⟨#[]⟩] w1 λ e w'=>∃ a c n r,e=.returned (.tuple #[.slice a 0 c,.int .i64 n,.int .i64 r])/\Below w1.heap.size w1 w'):=by
  intro w1;refine (Zho [] w1 (by simp)).mono ?_;rintro e w' ⟨lv,rfl,h⟩;obtain ⟨a,c,e5,_,_,_,_⟩:=OwnG.form h.out.1;have e0:=Zkj;rw [e0] at e5;exact ⟨a,c,_,_,by rw [e5],h.out.2⟩
 have x0:=NB.out.1.cell (j:=0) rfl;have x1:=NB.out.1.cell (j:=1) rfl;have x2:=NB.out.1.cell (j:=2) rfl;have x3:=NB.out.1.cell (j:=3) rfl;have x4:=NB.out.1.cell (j:=4) rfl;have x5:=NB.out.1.cell (j:=5) rfl;go_enter Tryz.func36,Tryz.ntmps36
 go_upto_region 2 with fail
 rw [HW.out];go_wp2_with fail;refine hda.out.mono ?_;rintro e w1 ⟨rfl,b1⟩;have B1:Hid (Below W.heap.size W w1):=b1;clear b1;go_wp2_with fail;refine (hcu.out w1).mono ?_;rintro e w2 ⟨a,c,n,r,rfl,b2⟩;have B2:Hid (Below W.heap.size W w2):=B1.out.trans (b2.mono B1.out.size);clear b2 x0 x1 x2 x3 x4 x5;go_wp2_with fail;go_loopg [9,10] 0 (λ m av iv wr=>av=.int .i64 0/\iv=.int .i64 0/\Hid (Below W.heap.size W wr))
 case atStart=>exact ⟨rfl,rfl,B2.out⟩
 case round =>
  obtain ⟨rfl,rfl,HR⟩:=hrel
  have y:=λ (j:Nat) (v:Value) (h:#[nilV,.int .i64 0,.bool false,.bool false,.int .i64 0,.int .i64 0,nilV,nilV,nilV][j]? = some v)=>(NB.out.2.2.1.below HR.out NB.out.2.2.1.lt).cell h
  have y0:=y 0 _ rfl;have y1:=y 1 _ rfl;have y2:=y 2 _ rfl;have y3:=y 3 _ rfl;have y4:=y 4 _ rfl;have y5:=y 5 _ rfl;have y6:=y 6 _ rfl;have y7:=y 7 _ rfl;have y8:=y 8 _ rfl
  have z:=λ (j:Nat) (v:Value) (h:#[nilV,.int .i64 0,.bool false,.bool false,.int .i64 0,.int .i64 0,nilV,nilV,nilV][j]? = some v)=>(NB.out.2.1.below HR.out NB.out.2.1.lt).cell h
  have f:=(NB.out.2.1.below HR.out NB.out.2.1.lt).thaw;have z0:=z 0 _ rfl;have z1:=z 1 _ rfl;have z2:=z 2 _ rfl;have z3:=z 3 _ rfl;have z4:=z 4 _ rfl;have z5:=z 5 _ rfl;have z6:=z 6 _ rfl;have z7:=z 7 _ rfl;have z8:=z 8 _ rfl;have f0:=f 0;have f1:=f 1;have f2:=f 2;have f3:=f 3;have f4:=f 4;have f5:=f 5;have f6:=f 6;have f7:=f 7;have f8:=f 8;have sz:(⟨#[]⟩:ByteArray).size=0:=rfl;clear y z f;go_wp2;refine bodyPost_ret (v:=.tuple #[.agg #[nilV,.int .i64 0,.bool false,.bool false,.int .i64 0,.int .i64 0,nilV,nilV,nilV],.int .i64 0]) ?_ rfl ⟨rfl,?_⟩
  ·simp [results,Tryz.f36];go_simp
  ·have ht:=Zad wr (w.heap.size+1) nilV (.int .i64 0) (.bool false) (.bool false) (.int .i64 0) (.int .i64 0) nilV nilV nilV;have b:=NB.out.2.2.2.trans (HR.out.mono NB.out.2.2.2.size);exact b.trans (ht.below b.size (λ k hk q=>by have q':k=w.heap.size+1:=q; omega))
section
variable {S:Nat->Prop} {X:Bs->Prop} {w:World} {b m:Nat} {f:Bs->Option Value} {a k:Int} {d:Dk}
theorem ZdK {w':World} (hb:S b) (h:Zaa (λ i=>i=b) w w'):Zaa S w w':=h.mono (T:=S) (λ i _ e=>by rw [e]; exact hb)
theorem Zal.since {w':World} {d':Dk} {f':Bs->Option Value} {a':Int} (hD:Zal w' b m f' a' k d' S) (w:World):Zao w' b d' (Zaj S w w') :=
 ⟨m,f',a',k,ZaE.mono hD (λ _ q=>.inl q) (λ _ q=>q) (λ i hi=>by
  rcases hi with q | q
  ·exact hD.lt i q
  ·exact q.2)⟩
end
end Go.Proofs.YtmhcpbbiokpjjaaGreat
