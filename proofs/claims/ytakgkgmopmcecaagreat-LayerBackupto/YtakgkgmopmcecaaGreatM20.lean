/-
  The statement LayerBack: its walk.
-/
import Derived.Test.YtakgkgmopmcecaaGreatM19
set_option maxHeartbeats 6400000
set_option maxRecDepth 100000
open List renaming length_cons->A2,length_append->Ax,length_nil->Cj
open BitVec renaming ofInt->Cu
open Go.RowKit renaming Below->An
open Nat renaming zero_le->Bw
open Go.Ending renaming returned->Aj
open Go.Value renaming slice->Aa,bool->Ad,string->Ae
open Go.Proofs.Tryz renaming prog->Am
namespace Go.Proofs.YtakgkgmopmcecaaGreat
open Go.RowKit
variable {R:List Rw}
theorem dI(a:List Bs):(lS a).length<65536:=by
 unfold lS
 split
 simp
 ·rename_i h
  have b:=Oe a;rw[A2,Iv];unfold nu;omega
theorem Wc(st:St)(x:UInt64):0<=(st.com x).date/\(st.com x).date<=1099511627776:=by
 unfold St.com
 cases e:iq st.objs 3 x with
 | none=>simp[lA]
 | some b =>
  simp only[Option.bind_some]
  cases a:jF b with
  | none=>simp[lA]
  | some c=>exact⟨(GV (JD a).1).2.2.2.1,(GV (JD a).1).2.2.2.2⟩
theorem oN(c:Int):bits .and .i64 c 65535=c % 65536:=by
 have a:(Cu 64 65535).toNat=2 ^ 16 - 1:=by decide
 have key:(Cu 64 c &&& Cu 64 65535).toNat=(c % ((2 ^ 64:Nat):Int)).toNat % 2 ^ 16:=by
  rw[BitVec.toNat_and,BitVec.toNat_ofInt,a,Nat.and_two_pow_sub_one_eq_mod]
 show IntKind.i64.wrap ((Cu 64 c &&& Cu 64 65535).toNat:Nat)=c % 65536;rw[key,IntKind.wrap_i64];omega
theorem Ws{r:Rw}(h:r.fits):(iJ r).length<=70000:=by
 unfold iJ;simp only[Ax,Bp,Jj];have:=h.pn;have:=h.fb;omega
theorem Nx:∀(R:List Rw),(∀r∈R,r.fits)->(R.flatMap iJ).length<=70000*R.length
 | [],_=>by simp
 | r::R,h=>by
  have b:=Ws (h r (by simp));have c:=Nx R (λ x a=>h x (by simp[a]));rw[List.flatMap_cons,Ax,A2];omega
theorem Oa(h:∀r∈R,r.fits)(d:R.length<=1000000)(i:Nat):((R.take i).flatMap iJ).length<=1000000000000:=by
 have b:=Nx (R.take i) (λ r a=>h r (List.mem_of_mem_take a))
 have c:(R.take i).length<=R.length:=by rw[List.length_take];omega
 omega
theorem eX{b:Int}(h:∀r∈R,r.fits):(km b R).length<=12+70000*R.length:=by
 have:=Nx R h;unfold km;simp only[Ax,Bp,A2,Cj];omega
theorem SG.fits{st:St}{cl:List UInt64}{j:Nat}(h:SG st cl j R [])(c:nD R)(i:R.length<4294967296):∀r∈R,r.fits:=λ r b=>by
 have a:=h.row r b;have f:r.ps=kL (R.map (·.id)) (st.com r.id).ps:=A7 Rw.ps a.eq;have d:r.date=(st.com r.id).date:=A7 Rw.date a.eq;have e:r.fb=st.fil (st.com r.id):=A7 Rw.fb a.eq;have hd:=Wc st r.id;have g:=c.gen r b;refine⟨by rw[d];omega,by have:=c.ps r b;omega,λ p hp=>?_,by omega,by rw[e];exact dI _⟩;rw[f]at hp;have:=SZ a.shut p hp;rw[List.length_map]at this;omega
theorem Wh{w:World}{ao:Option Addr}{n c:Nat}{l:List AV}{acs:List Ac}(hA:nA w ao n l)(hC:JX w l acs)(hN:∀a∈l,a.nm.size<=140737488355328)(hn:n<=4000000000000000000)
  {ca ka:Option Addr} {cn cc kn kc:Nat} {x:List Int} {f:Bs} {p:Int} (aR:gQ encI w ca x) (aQ:x.length=cn) (bf:cn<=4000000000000000000) (aW:gQ gP w ka f) (aX:f.length=kn) (aT:kn<=kc/\kc<=9223372036854775807) (bt:kn<=4000000000000000000)
  (aH:∀w:World,Calls Am 6 #[] w λ e w'=>e=Aj (Ad true)/\Iz w w') :
  Calls Am 3 #[Aa ao n c,Aa ca cn cc,.int .i64 p,Aa ka kn kc] w λ e w'=>e=Aj (Ad true)/\Iz w w':=by
 have H:=I7 hA hC hN aR aQ aW aX
 clear hA hC hN aR aQ aW aX;go_enter Tryz.func3,Tryz.ntmps3;go_wp2_with fail;refine(aH _).mono ?_;rintro e w1 ⟨rfl,B1⟩;have aN:=TD (w:=w1) (c:=c) (acs:=acs) ⟨H.o.1.rd.below B1,H.o.1.len,λ a ha=>by obtain⟨d1,d2,d3,h⟩:=H.o.1.each a ha;exact⟨d1,d2,d3,h.below B1⟩⟩ ⟨H.o.2.1.len,λ i a h=>by obtain⟨d1,d2,d3,h1,h2⟩:=H.o.2.1.at_ i a h;exact⟨d1,d2,d3,h1.below B1,h2⟩⟩ H.o.2.2.1 hn;have an:=Ih B1;clear aH B1;go_wp2_with fail;refine aN.mono ?_;rintro e w2 ⟨u,rfl,J2⟩;clear aN;have ar:=Me acs 40
 obtain⟨v,hv⟩:=Xa (mW (acs.take 40))
 rw[hv]at ar J2;clear hv;obtain⟨s,b,fa,fl,fc,oa,on,oc,ra,rn,rc,ta,tn,tc,xa,xn,xc,ya,yn,yc,za,zn,zc,U,rfl,hW,B2⟩:=J2.o;obtain⟨st,d,bl,tl,cl⟩:=v;simp only at hW;obtain⟨⟨S,q1⟩,q2,q3,q4,q5⟩:=hW.parts;have HV:=Ih ar
 have bv:zn<=40:=by have:=HV.o.fine.cl;rw[<- q5];exact this
 have HO:=I3 q3 (λ o ho=>(HV.o.fine.st.ids o ho).2.2.2.2:(∀o∈st.objs,o.body.length<=8192)) (by have h1:st.size<=40:=HV.o.fine.size;unfold St.size at h1;omega:on<=40)
 obtain⟨K,hK⟩:=Xa w2.heap.size
 obtain⟨W3,ad⟩:=Xb (w2.alloc (.cells (iS s b d (Aa fa fl fc) (Aa oa on oc) (Aa ra rn rc) (Aa ta tn tc) (Aa xa xn xc) (Aa ya yn yc) (Aa za zn zc)) 37))
 have al:=an.o.trans (B2.mono an.o.size)
 have O:Iz w2 W3:=by rw[ad];exact gW _ _
 have am:=al.trans (O.mono al.size)
 have E3:Hid (SE W3 s b st S oa za ca cl x K (iS s b d (Aa fa fl fc) (Aa oa on oc) (Aa ra rn rc) (Aa ta tn tc) (Aa xa xn xc) (Aa ya yn yc) (Aa za zn zc))):=⟨q1.below O,q2.below O,q4.below O,H.o.2.2.2.1.below am,by rw[ad,<- hK];exact gT.new _ _ _⟩
 have H3:=I2 am q5
 clear J2 ar hW q1 q2 q3 q4 q5 B2 al O am an
 go_upto_region 4 with fail
 rw[<- ad];clear ad hK;have a0:=Yx (d:=d) (vf:=Aa fa fl fc) (vr:=Aa ra rn rc) (vt:=Aa ta tn tc) (xb:=Aa xa xn xc) (xt:=Aa ya yn yc) (oc:=oc) (zc:=zc) (cc:=cc) E3.o.store E3.o.objs HO.o.1 (by have:=HO.o.2.2;omega) HO.o.2.1 HV.o.ord HV.o.cc.par E3.o.coms H3.o.2 (by omega) E3.o.cut H.o.2.2.2.2.1 bf;obtain⟨p0,p1,p2,p3,p4,p5,p6,p7,p8,p9,bh,bi,bj,bk⟩:=E3.o.box.all14;go_wp2_with fail;refine a0.mono ?_;rintro e w4 ⟨rv,wv,rfl,J4⟩;clear a0 p0 p1 p2 p3 p4 p5 p6 p7 p8 p9 bh bi bj bk;obtain⟨B,vs,ws,R,gv,be,k,aL⟩:=J4.o
 obtain⟨n1,W⟩:=Xa R.length
 have bu:n1<=zn:=by have:=k.len;rw[Cj]at this;omega
 obtain⟨bm,bo,rfl,_,a6⟩:=k.rows.whole (k.lv.len.trans W)
 obtain⟨M,hM⟩:=Xa w4.heap.size
 obtain⟨Z,aC,rfl,_,a7⟩:=k.want.whole (k.rvs.len.trans W);have aj:=SG.fits k.sg k.stk (by rw[W];omega);have B4:=H3.o.1.trans (aL.mono H3.o.1.size)
 have z:=I3 W aj k.stk
 have G4:=I4 a6 k.lv.lvs (⟨ws,a7,k.rvs.len,λ i v r q1 q2=>(k.rvs.at_ i v r q1 q2).rd⟩:lj w4 Z R) B4
 clear J4 be k aL W a6 a7 E3 B4 aj HV HO hM
 obtain⟨F,aO⟩:=Xa (p % 65536)
 have aP:bits BinOp.and IntKind.i64 p 65535=F:=by rw[<- aO];exact oN p
 have ae:0<=F/\F<65536:=by omega
 obtain⟨cr,af⟩:=Xa (ls (km F R))
 obtain⟨N,T⟩:=Xa (km F R++low 4 cr)
 obtain⟨zz,a3⟩:∃zz:ByteArray,(⟨N.toArray⟩:ByteArray)=zz:=⟨_,rfl⟩
 have hT:=Oa z.o.2.1 (by rw[z.o.1];omega);have ay:=QK (rc:=bo) F G4.o.1 z.o.1 G4.o.2.1 (by omega) (λ r hr=>⟨by have:=(z.o.2.1 r hr).pn;omega,by have:=(z.o.2.1 r hr).fb;omega⟩) hT cr af;rw[T]at ay
 have ai:N.length<=100000000:=by
  have:=eX (b:=F) z.o.2.1;rw[z.o.1]at this;rw[<- T,Ax,Bp];omega
 have HB:Hid (ls (km F R)=cr/\km F R++low 4 cr=N/\(⟨N.toArray⟩:ByteArray)=zz/\jg N=(F,R,0)/\N.length<=100000000):=by
  refine⟨af,T,a3,?_,ai⟩;rw[<- T,<- af];exact dB (by omega) z.o.2.1 (by rw[z.o.1];omega)
 clear aO af T a3 hT ai
 go_upto_region 8 with fail
 clear aP;go_wp2_with fail;refine ay.mono ?_;rintro e E ⟨v5,rfl,J5⟩
 obtain⟨bn,aq⟩:=Xa N.length
 obtain⟨ba,bc,rfl,_,_⟩:=J5.o.1.whole aq
 have P:=I2 J5.o.1 aq
 have G5:=I2 (G4.o.2.2.1.below J5.o.2) (G4.o.2.2.2.trans (J5.o.2.mono G4.o.2.2.2.size))
 clear ay J5 G4 aq
 have KC:Hid (∀u,Iz E u->(convert 24 9 (Aa ba bn bc)).run Am u=.ok (Ae zz) u):=λ u D=>by
  have:=Ga (iW.at ((P.o.1.below D).low (Bw _)));rw[show tx N=Ae zz by rw[<- HB.o.2.2.1]]at this;exact this
 have QE:Hid (∀u,Iz E u->Calls Am 10 #[.int .i64 F,Aa Z n1 aC] u λ e w'=>e=Aj (Ae zz)/\Iz u w'):=λ u D=>by
  have:=Zf (rc:=aC) F (G5.o.1.below D) z.o.1 (by omega) (Oa z.o.2.1 (by rw[z.o.1];omega)) cr HB.o.1;rw[HB.o.2.1,show tx N=Ae zz by rw[<- HB.o.2.2.1]]at this;exact this
 have ze:(zz.toList==zz.toList)=true:=by simp
 go_upto_region 9 with fail
 go_cut[50] (λ tv u=>∃y,y=u/\tv=Ad false/\Hid (Iz E y))
 case first =>
  have V0:Hid (Iz E E.drew):=(Below.refl _ E).drew;have bx:=KC.o _ V0.o
  go_region_with
   (first
    | (go_at_call 10;(with_reducible refine(QE.o _ V0.o).mono ?_);rintro e w6 ⟨rfl,b6⟩;have V1:=Ih (V0.o.trans (b6.mono V0.o.size));have bz:=KC.o _ V1.o;clear b6))
  all_goals
   go_wp2_with fail;go_meet;exact⟨_,rfl,rfl,V1.o⟩
 case rest =>
  obtain⟨w6,bg,rfl,B6⟩:=hcut;subst bg;clear KC QE ze;have aM:iE w6 (Aa ba bn bc) N:=iW.at ((P.o.1.below B6.o).low (Bw _));have ax:=Qe aM P.o.2 (by have:=P.o.2;have:=HB.o.2.2.2.2;omega);rw[HB.o.2.2.2.1]at ax
  have G6:=I2 (G5.o.1.below B6.o) (G5.o.2.trans (B6.o.mono G5.o.2.size))
  clear aM B6 G5 P;go_wp2_with fail;refine ax.mono ?_;rintro e w7 ⟨v7,rfl,J7⟩;obtain⟨⟨bD,o7,l7⟩,b7⟩:=J7.o;obtain⟨bs,a9,rfl,_,r7⟩:=o7.whole (l7.len.trans z.o.1);have aK:=Nw (c:=a9) r7 (l7.len.trans z.o.1) l7.lvs (by omega)
  have G7:=I2 (G6.o.1.below b7) (G6.o.2.trans (b7.mono G6.o.2.size))
  clear ax J7 o7 l7 b7 r7 G6
  have z2:(F != F)=false:=by simp
  go_wp2_with fail;refine aK.mono ?_;rintro e w8 ⟨aa,ac,rfl,J8⟩;have aZ:=Na (c:=ac) (c':=aC) J8.o.1 (G7.o.1.below J8.o.2) z.o.1 (by omega) (λ r hr=>by have:=(z.o.2.1 r hr).pn;omega);have G8:=Ih (G7.o.2.trans (J8.o.2.mono G7.o.2.size));clear aK J8 G7 z2;go_wp2_with fail;refine aZ.mono ?_;rintro e w9 ⟨rfl,b9⟩;have G9:=Ih (G8.o.trans (b9.mono G8.o.size));clear aZ b9 G8;by_cases hk:100000<kn
  ·have g:(100000:Int)<(kn:Int):=by omega
   go_wp2_with fail;go_ret;exact⟨rfl,G9.o⟩
  ·have g:¬(100000:Int)<(kn:Int):=by omega
   have aY:=H.o.2.2.2.2.2.1.below G9.o
   obtain⟨pn,PR,pe,hP⟩:∃pn PR pe,jg f=(pn,PR,pe):=⟨_,_,_,rfl⟩
   obtain⟨pm,aV⟩:=Xa PR.length
   have V:=Zs hP
   have bq:pm<=100000:=by have:=V.1;have:=H.o.2.2.2.2.2.2;omega
   obtain⟨zr,a2⟩:∃zr:ByteArray,(⟨f.toArray⟩:ByteArray)=zr:=⟨_,rfl⟩
   have t:=I4 hP aV V.2 a2
   have C:=H.o.2.2.2.2.2.2;clear hP aV V a2;have aI:=pB w9;have aJ:=aY.below (gW w9 (.cells #[] 5))
   have ak:w9.heap.size<=(w9.alloc (.cells #[] 5)).heap.size:=by simp
   go_wp2_with(at_builtin;refine IN gP 5 24 1 (.int .u8 0) rfl Tryz.info5 Tryz.underlying24 rfl (.tmp 75) (.tmp 76) rfl w9.heap.size _ [] f ka kn kc rfl aI rfl aJ C (by simp;omega) (by simp only[maxLen,Cj];omega) ak ?_;intro bA Y X ah aU a1;obtain⟨ya,yc,bd,_,_⟩:=gM.whole (xs:=f) X C;subst bd);have Q:iE Y (Aa ya kn yc) f:=iW.at (gM.low (xs:=f) X (Bw _));have ab:Hid (Iz w Y):=G9.o.trans (((gW w9 _).trans ah).mono G9.o.size);have av:=Qe Q C (by omega);rw[t.o.1]at av;have aG:Hid (gQ gP Y ka f):=H.o.2.2.2.2.2.1.below ab.o;clear X ah aU a1 Q aI aJ ak aY G9;go_wp2_with fail;refine av.mono ?_;rintro e q ⟨bB,rfl,aE⟩;obtain⟨⟨G,a4,az⟩,ap⟩:=aE.o;obtain⟨ag,aD,rfl,_,a5⟩:=a4.whole (az.len.trans t.o.2.1)
   have ae:∀u,Iz q u->iE u (Aa ka kn kc) f:=λ u D=>⟨ka,kc,by rw[C],by rw[C];exact aT.1,aT.2,(aG.o.below ap).below D⟩
   have aS:=Ga (ae q (Below.refl _ _));rw[show tx f=Ae zr by rw[<- t.o.2.2.2]]at aS;have aw:=ZX (w:=q) (s:=zr) t.o.2.2.2.symm C (by omega);rw[t.o.1]at aw
   have I:=I4 a5 az (ab.o.trans (ap.mono ab.o.size)) ae
   clear av aE a4 az ap a5 ae aG ab;go_wp2_with fail;refine aw.mono ?_;rintro e j ⟨bC,rfl,aF⟩;obtain⟨⟨br,aB,aA⟩,L⟩:=aF.o;obtain⟨a8,bp,rfl,_,_⟩:=aB.whole (aA.len.trans t.o.2.1)
   have m:=I4 (I.o.1.below L) (I.o.2.1.below L) (aA.rd aB) (I.o.2.2.1.trans (L.mono I.o.2.2.1.size))
   have KR:Hid (∀u,Iz j u->(convert 24 9 (Aa ka kn kc)).run Am u=.ok (Ae zr) u):=λ u D=>by
    have:=Ga (I.o.2.2.2 u (L.trans (D.mono L.size)));rw[show tx f=Ae zr by rw[<- t.o.2.2.2]]at this;exact this
   clear aw aS aF aB aA L I
   have QA:Hid (∀u,Iz j u->Calls Am 13 #[Aa ag pm aD] u λ e w'=>∃a' c',e=Aj (Aa a' pm c')/\Hid (lj w' a' PR/\Iz u w')):=λ u D=>Nw (m.o.1.below D) (m.o.2.1.len.trans t.o.2.1) (m.o.2.1.below D).lvs (by omega)
   have QS:Hid (∀u a c,Iz j u->lj u a PR->Calls Am 12 #[Aa a pm c,Aa a8 pm bp] u λ e w'=>e=Aj (Ad true)/\Iz u w'):=λ u a c D ha=>Na ha (m.o.2.2.1.below D) t.o.2.1 (by omega) (λ r hr=>by have:=(t.o.2.2.1 r hr).pn;omega)
   have i1:(pn==pn)=true:=by simp
   have i2:(pe==pe)=true:=by simp
   have V0:Hid (Iz j j.drew):=(Below.refl _ j).drew
   go_upto_region 18 with fail
   by_cases he:pe=0
   ·subst he;obtain⟨e1,_,e3,e4⟩:=Qu t.o.1
    obtain⟨c2,au⟩:=Xa (ls (km pn PR))
    rw[au]at e1
    have QE:Hid (∀u,Iz j u->Calls Am 9 #[.int .i64 pn,Aa ag pm aD] u λ e w'=>∃a c,e=Aj (Aa a kn c)/\Hid ((convert 24 9 (Aa a kn c)).run Am w'=.ok (Ae zr) w'/\Iz u w')):=λ u D=>by
     refine(QK (rc:=aD) pn (m.o.1.below D) t.o.2.1 (m.o.2.1.below D).lvs (by omega) (λ r hr=>⟨by have:=(t.o.2.2.1 r hr).pn;omega,by have:=(t.o.2.2.1 r hr).fb;omega⟩) (Oa t.o.2.2.1 (by rw[t.o.2.1];omega)) c2 au).mono ?_;rintro e w' ⟨v,rfl,J⟩;rw[<- e1]at J;obtain⟨a',c',rfl,_,_⟩:=J.o.1.whole C;refine⟨a',c',rfl,?_,J.o.2⟩;have:=Ga (iW.at (J.o.1.low (Bw _)));rw[show tx f=Ae zr by rw[<- t.o.2.2.2]]at this;exact this
    clear e1 e3 e4 au;refine RZ (c':=og 18) (by kernel_rfl) ?_;refine Rp (λ A hA=>?_);refine Code.wp_mono ?_ (Zo (RV:=λ w a=>lj w a PR) QA QS QE KR A (Kn.of (by rw[hA];rfl) (by rw[hA];rfl)));rintro e b u ⟨rfl,hb,h8,hB⟩;go_wp2_with fail;refine bodyPost_ret (results_tmp rfl _ _ _) (hb.defers.trans (by rw[hA])) ?_;exact⟨A7 Aj (N9 h8),m.o.2.2.2.trans (hB.mono m.o.2.2.2.size)⟩
   ·have j1:(pe != 0)=true:=by rw[Ex];exact he
    refine RZ (c':=og 18) (by kernel_rfl) ?_;refine Rp (λ A hA=>?_);refine Code.wp_mono ?_ (X9 (RV:=λ w a=>lj w a PR) QA QS j1 A (Kn.of (by rw[hA];rfl) (by rw[hA];rfl)));rintro e b u ⟨rfl,hb,h8,hB⟩;go_wp2_with fail;refine bodyPost_ret (results_tmp rfl _ _ _) (hb.defers.trans (by rw[hA])) ?_;exact⟨A7 Aj (N9 h8),m.o.2.2.2.trans (hB.mono m.o.2.2.2.size)⟩
end Go.Proofs.YtakgkgmopmcecaaGreat
