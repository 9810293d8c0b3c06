/-
  The statement LayerRows: its walk.
-/
import Derived.Test.YtlojblelpaegpaaGreatM39
set_option maxHeartbeats 6400000
set_option maxRecDepth 100000
open Go renaming World->Ap
open Go.RowKit renaming Below->An
open List renaming length->Gx,length_map->AQ,mem_map_of_mem->EK,mem_map->Bu,mem_append->AK
open Go.Value renaming slice->Aa,int->Ab,bool->Ad
open Go.IntKind renaming i64->Ak,u64->Al
namespace Go.Proofs.YtlojblelpaegpaaGreat
open Go.RowKit
variable{R:List Rw}{a d i j:Option Addr}{b c:List UInt64}{f:List RV}{m n:Nat}{u w:Ap}{vs:List LV}
structure PR(u:Ap)(ra wa aa:Option Addr)(vs:List LV)(ws:List RV)(R:List Rw)(ak:List UInt64)(n m:Nat):Prop where
 rows:RdG encL u ra vs
 lid:vs.map (·.id)=R.map (·.id)
 lge:vs.map (·.gen)=R.map (·.gen)
 want:RdG encRv u wa ws
 rid:ws.map (·.id)=R.map (·.id)
 rge:ws.map (·.gen)=R.map (·.gen)
 ask:RdG encU u aa ak
 stk:Stk R
 len:R.length=n
 alen:ak.length=m
theorem PR.below{u':Ap}{e b:Option Addr}(h:PR u d e b vs f R c n m)(a:An u.heap.size u u'):PR u' d e b vs f R c n m :=
 ⟨h.rows.below a,h.lid,h.lge,h.want.below a,h.rid,h.rge,h.ask.below a,h.stk,h.len,h.alen⟩
theorem PR.vlen{c:Option Addr}(h:PR u c d a vs f R b n m):vs.length=n:=by
 have e:=A4 Gx h.lid;rw[AQ,AQ]at e;exact e.trans h.len
theorem PR.wlen{f b:Option Addr}{a:List RV}(h:PR u d f b vs a R c n m):a.length=n:=by
 have e:=A4 Gx h.rid;rw[AQ,AQ]at e;exact e.trans h.len
theorem PR.lgen{g:Option Addr}{j:List RV}(h:PR u g i a vs j R b n m):∀v∈vs,1<=v.gen/\v.gen<=250:=λ v f=>by
 have e:v.gen∈R.map (·.gen):=by rw[<- h.lge];exact EK f
 obtain⟨r,c,d⟩:=Bu.1 e;rw[<- d];exact h.stk.gen r c
theorem PR.rgen{b:Option Addr}{a:List RV}(h:PR u i j b vs a R c n m):∀v∈a,0<=v.gen/\v.gen<=250:=λ v g=>by
 have f:v.gen∈R.map (·.gen):=by rw[<- h.rge];exact EK g
 obtain⟨r,d,e⟩:=Bu.1 f;rw[<- e];have:=h.stk.gen r d;omega
theorem PR.bare{c:Option Addr}{e:List RV}(h:PR u c d a vs e R b n m):PR u none none a [] [] [] b 0 m :=
 ⟨RdG.nil _ _ _,rfl,rfl,RdG.nil _ _ _,rfl,rfl,h.ask,Stk.nil,rfl,h.alen⟩
theorem WI.parts{B:Nat}{E:Nat->Prop}{s b:Nat}{vf vr vt xb xt:Value}{oa:Option Addr}{on oc k zc:Nat}{U:Nat->Prop}{st:St}{d:Dk}{bl tl cl:List UInt64}(h:WI B E w s b vf (Aa oa on oc) vr vt xb xt (Aa j k zc) U st d bl tl cl):
  (∃S,Zac w s b st S)/\RdG encO w oa st.objs/\st.objs.length=on/\RdG encU w j cl/\cl.length=k:=by
 obtain⟨S,_,m,_⟩:=h.duo;obtain⟨fa,n,fc,c,g,f,o,q,p,r,t,tc,e,_,i,_,_⟩:=h.ref
 have l:Aa oa on oc=Aa c g f:=by
  simp only[rm,Value.agg.injEq]at e;have:=A4 (λ a:Array Value=>a[6]?) e;simpa using this
 cases l;exact⟨⟨S,m⟩,i.rd,i.len,h.oc.rdc.1,Zam h.oc⟩
theorem ZeI{ao:Option Addr}{c:Nat}{l:List AV}{acs:List Ac}(hA:Acts w ao n l)(hC:ZgF w l acs)(hN:∀a∈l,a.nm.size<=140737488355328)(hn:n<=4000000000000000000)
  {ca pa:Option Addr} {cn cc pn pc:Nat} {E D:List Int} (a3:RdG encI w ca E) (a2:E.length=cn) (bo:cn<=4000000000000000000) (a6:RdG encI w pa D) (a7:D.length=pn) (bI:pn<=4000000000000000000)
  (a0:∀w:Ap,Calls Tryz.prog 8 #[] w λ e w'=>e=.returned (Ad true)/\An w.heap.size w w') :
  Calls Tryz.prog 3 #[Aa ao n c,Aa ca cn cc,Aa pa pn pc] w λ e w'=>e=.returned (Ad true)/\An w.heap.size w w':=by
 have H:Hid (Acts w ao n l/\ZgF w l acs/\(∀a∈l,a.nm.size<=140737488355328)/\RdG encI w ca E/\E.length=cn/\RdG encI w pa D/\D.length=pn):=⟨hA,hC,hN,a3,a2,a6,a7⟩
 clear hA hC hN a3 a2 a6 a7;go_enter Tryz.func3,Tryz.ntmps3;go_wp2_with fail;refine(a0 _).mono ?_;rintro e w1 ⟨rfl,B1⟩;have a1:=Zem (w:=w1) (c:=c) (acs:=acs) ⟨H.o.1.rd.below B1,H.o.1.len,λ a ha=>by obtain⟨d1,d2,d3,h⟩:=H.o.1.each a ha;exact⟨d1,d2,d3,h.below B1⟩⟩ ⟨H.o.2.1.len,λ i a h=>by obtain⟨d1,d2,d3,h1,h2⟩:=H.o.2.1.at_ i a h;exact⟨d1,d2,d3,h1.below B1,h2⟩⟩ H.o.2.2.1 hn;have aA:Hid (An w.heap.size w w1):=B1;clear a0 B1;go_wp2_with fail;refine a1.mono ?_;rintro e w2 ⟨u,rfl,J2⟩;clear a1;have aG:=ZbX acs 40
 obtain⟨v,hv⟩:=Xa (bwd (acs.take 40))
 rw[hv]at aG J2;clear hv;obtain⟨s,b,fa,fl,fc,oa,on,oc,ra,rn,rc,ta,tn,tc,xa,xn,xc,ya,yn,yc,za,zn,zc,U,rfl,hW,B2⟩:=J2.o;obtain⟨st,d,bl,tl,cl⟩:=v;simp only at hW;obtain⟨⟨S,q1⟩,q2,q3,q4,q5⟩:=hW.parts;have HV:Hid (Wd.built ⟨st,d,bl,tl,cl⟩ 40):=aG
 have bJ:zn<=40:=by have:=HV.o.fine.cl;rw[<- q5];exact this
 have HO:Hid (st.objs.length=on/\(∀o∈st.objs,o.body.length<=8192)/\on<=40):=⟨q3,λ o ho=>(HV.o.fine.st.ids o ho).2.2.2.2,by have h1:st.size<=40:=HV.o.fine.size;unfold St.size at h1;omega⟩
 obtain⟨K,hK⟩:=Xa w2.heap.size
 obtain⟨W3,au⟩:=Xb (w2.alloc (.cells (wdV s b d (Aa fa fl fc) (Aa oa on oc) (Aa ra rn rc) (Aa ta tn tc) (Aa xa xn xc) (Aa ya yn yc) (Aa za zn zc)) 36))
 have ay:An w.heap.size w w2:=aA.o.trans (B2.mono aA.o.size)
 have ai:An w2.heap.size w2 W3:=by rw[au];exact bz1 _ _
 have az:An w.heap.size w W3:=ay.trans (ai.mono ay.size)
 have E3:Hid (SE W3 s b st S oa za ca cl E K (wdV s b d (Aa fa fl fc) (Aa oa on oc) (Aa ra rn rc) (Aa ta tn tc) (Aa xa xn xc) (Aa ya yn yc) (Aa za zn zc))):=⟨q1.below ai,q2.below ai,q4.below ai,H.o.2.2.2.1.below az,by rw[au,<- hK];exact BoxA.new _ _ _⟩
 have H3:Hid (An w.heap.size w W3/\cl.length=zn):=⟨az,q5⟩
 clear J2 aG hW q1 q2 q3 q4 q5 B2 ay ai az aA
 go_upto_region 4 with fail
 rw[<- au];clear au hK;have a8:=Zhk (d:=d) (vf:=Aa fa fl fc) (vr:=Aa ra rn rc) (vt:=Aa ta tn tc) (xb:=Aa xa xn xc) (xt:=Aa ya yn yc) (oc:=oc) (zc:=zc) (cc:=cc) E3.o.store E3.o.objs HO.o.1 (by have:=HO.o.2.2;omega) HO.o.2.1 HV.o.ord HV.o.cc.par E3.o.coms H3.o.2 (by omega) E3.o.cut H.o.2.2.2.2.1 bo;obtain⟨p0,p1,p2,p3,p4,p5,p6,p7,p8,p9,bz,bA,bB,bb⟩:=E3.o.box.all14;go_wp2_with fail;refine a8.mono ?_;rintro e w4 ⟨rv,wv,rfl,J4⟩;clear a8 p0 p1 p2 p3 p4 p5 p6 p7 p8 p9 bz bA bB bb;obtain⟨B,vs,ws,R,gv,bk,I,X⟩:=J4.o
 obtain⟨n1,ax⟩:=Xa R.length
 have bH:n1<=zn:=by have:=I.len;rw[List.length_nil]at this;omega
 obtain⟨aP,bC,rfl,_,bf⟩:=I.rows.whole (I.lv.len.trans ax);obtain⟨aU,bE,rfl,_,bi⟩:=I.want.whole (I.rvs.len.trans ax)
 obtain⟨M,hM⟩:=Xa w4.heap.size
 have H4:Hid (SE w4 s b st S oa za ca cl E K (wdV s b d (Aa fa fl fc) (Aa oa on oc) (Aa ra rn rc) (Aa ta tn tc) (Aa xa xn xc) (Aa ya yn yc) (Aa za zn zc))/\PR w4 aP aU none vs ws R [] n1 0/\RdG encI w4 pa D/\w4.heap.size=M) :=
  ⟨E3.o.below X,⟨bf,I.lv.ids,I.lv.gens,bi,I.rvs.ids,I.rvs.gens,RdG.nil _ _ _,I.stk,ax,rfl⟩,H.o.2.2.2.2.2.1.below (H3.o.1.trans (X.mono H3.o.1.size)),hM⟩
 have aV:Hid (An w.heap.size w w4):=H3.o.1.trans (X.mono H3.o.1.size);clear J4 bk I X ax bf bi hM E3;go_wp2_with fail;go_loopg[11,12] (min pn 60) (λ m av iv wr=>∃i:Nat,iv=Ab Ak i/\i+m=min pn 60/\Hid (An M w4 wr/\∃A,A.length=i/\OwnG encU 44 wr M av A))
 case atStart=>exact⟨0,rfl,by omega,Below.refl _ _,[],rfl,OwnG.nil _ _ _ _⟩
 case round =>
  obtain⟨i,rfl,hi,HR⟩:=hrel;have O:Hid (SE wr s b st S oa za ca cl E K (wdV s b d (Aa fa fl fc) (Aa oa on oc) (Aa ra rn rc) (Aa ta tn tc) (Aa xa xn xc) (Aa ya yn yc) (Aa za zn zc))):=H4.o.1.below (by rw[H4.o.2.2.2];exact HR.o.1)
  go_upto_region 11 with fail
  go_cut[42] (λ tv u=>∃f,u=wr/\tv=Ad f/\Hid ((f=true->i<min pn 60)/\(f=false->i=min pn 60)))
  case first =>
   by_cases a4:i<pn
   ·have id:(i:Int)<(pn:Int):=by omega
    have bv:decide ((i:Int)<(pn:Int))=true:=by simpa using id
    by_cases bG:i<60
    ·have i6:(i:Int)<60:=by omega
     have bu:decide ((i:Int)<60)=true:=by simpa using i6
     go_wp2_with fail;go_meet;exact⟨_,rfl,rfl,λ _=>by omega,λ q=>(by cases q)⟩
    ·have i6:¬(i:Int)<60:=by omega
     have bu:decide ((i:Int)<60)=false:=by simpa using i6
     go_wp2_with fail;go_meet;exact⟨_,rfl,rfl,λ q=>(by cases q),λ _=>by omega⟩
   ·have id:¬(i:Int)<(pn:Int):=by omega
    have bv:decide ((i:Int)<(pn:Int))=false:=by simpa using id
    go_wp2_with fail;go_meet;exact⟨_,rfl,rfl,λ q=>(by cases q),λ _=>by omega⟩
  case rest =>
   obtain⟨f,rfl,rfl,HF⟩:=hcut
   cases f with
   | true =>
    have a4:=HF.o.1 rfl
    have id:(i:Int)<(pn:Int):=by omega
    have bK:(0:Int)<=(i:Int):=by omega
    obtain⟨y,hy⟩:∃y,D[i]? = some y:=⟨_,List.getElem?_eq_getElem (by rw[H.o.2.2.2.2.2.2];omega)⟩
    obtain⟨pb,po,rfl,_⟩:=H4.o.2.2.1.some_of hy;obtain⟨V,A,aw,hO⟩:=HR.o;have cy:=(H4.o.2.2.1.below (by rw[H4.o.2.2.2];exact V)).ints hy;have bb:=O.o.box.cell (j:=13) rfl
    obtain⟨z,J⟩:=Xa (pickU cl y)
    obtain⟨zi,aK⟩:∃zi:Int,(z.toNat:Int)=zi:=⟨_,rfl⟩
    have bs:M<=wc.heap.size:=by have:=V.size;have:=H4.o.2.2.2;omega
    have P1:Hid (Calls Tryz.prog 11 #[Aa za zn zc,Ab Ak y] wc.drew λ e w'=>e=.returned (Ab Al zi)/\w'=wc.drew):=ZbF (O.o.coms.below (Below.refl _ wc).drew) H3.o.2 (by omega) y zi (by rw[J,aK])
    have HC:Hid (∀j u,(encU.cells z)[j]? = some u->(wc.drew.alloc (.cells #[Ab Al zi] 44)).cell? ((⟨wc.heap.size,0,none⟩:Addr).add j)=some u):=by
     have:=Zau encU wc.drew z 44;rw[show(encU.cells z).toArray=#[Ab Al zi]from(by show #[Ab Al (z.toNat:Int)]=_;rw[aK])]at this;exact this
    have HT:Hid (A.length=i/\OwnG encU 44 wc M u11 A/\An M w4 wc):=⟨aw,hO,V⟩
    clear hy J aK V aw hO HR
    go_upto_region 13 with fail
    go_region_law
     (first
      | (refine Za5 rfl (.tmp 47) (.tmp 51) 11 #[34,3] rfl Zbk (Aa za zn zc) (Ab Ak y) (Ab Al zi) (by simp[Act.eval]) (by simp[Act.eval]) P1.o ?_)
      | (refine Za2 encU 44 34 8 _ rfl Tryz.info44 Tryz.underlying34 rfl (.tmp 45) (.tmp 53) rfl M u11 A z (by simp[Act.eval]) (HT.o.2.1.below ((Below.refl _ wc).drew.trans (bz1 wc.drew _))) wc.heap.size (by simp[Act.eval]) HC.o (by rw[HT.o.1];omega) (by rw[HT.o.1];simp only[maxLen];omega) (by simp;omega) ?_;intro v4 w5 a5 X bp bt)
      | fail)
    all_goals
     have J4:Hid (OwnG encU 44 w5 M v4 (A++[z])/\An M wc w5):=⟨a5,((bz1 wc _).drew.mono bs).trans X⟩
     clear a5 X bp bt;go_wp2;go_roundg (gk - 1)
     case measure=>omega
     case rel=>exact⟨i+1,by go_num,by omega,HT.o.2.2.trans J4.o.2,A++[z],by rw[List.length_append,HT.o.1];rfl,J4.o.1⟩
   | false =>
    have a4:=HF.o.2 rfl;obtain⟨V,A,aw,hO⟩:=HR.o
    obtain⟨N,al⟩:=Xa A.length
    have bF:N<=60:=by omega
    obtain⟨aE,ar,bn,_,aY⟩:=hO.whole al;subst bn
    obtain⟨Wl,bm⟩:=Xb wc
    subst bm
    have aF:An w4.heap.size w4 Wl:=by rw[H4.o.2.2.2];exact V
    have Q:=H4.o.2.1.below aF
    have aD:Hid (PR Wl aP aU aE vs ws R A n1 N):=⟨Q.rows,Q.lid,Q.lge,Q.want,Q.rid,Q.rge,aY,Q.stk,Q.len,al⟩
    have aB:Hid (An w.heap.size w Wl):=aV.o.trans (aF.mono aV.o.size);have g:Hid (PR Wl none none aE [] [] [] A 0 N):=aD.o.bare;clear HF HR V aw al hO aY aF Q;obtain⟨Ga,aQ,hG⟩:=Zip (gr:=A) HV.o.ord g.o.len;have Z:=ZbB (bc:=0) (c:=ar) (G:=Ga) (rk:=aQ) O.o.store g.o.rows g.o.vlen g.o.lgen (by rw[g.o.lid];exact g.o.stk.nd) g.o.ask g.o.alen (by omega) (by rw[g.o.lid,g.o.lge];exact hG);rw[g.o.lid]at Z;have aC:Hid (st.free (([]:List Rw).map (·.id)) A->Zaz 0 (st.pss (([]:List Rw).map (·.id)++risU A) (risU A)) aQ/\Gens (([]:List Rw).map (·.gen)) (st.pss (([]:List Rw).map (·.id)++risU A) (risU A)) Ga):=hG;have p1:=O.o.box.cell (j:=1) rfl;clear hG;go_wp2_with fail;refine Z.mono ?_;rintro e k ⟨bL,bd,rfl,J5⟩;clear Z p1;obtain⟨bg,af,ae,ab,Y,x⟩:=J5.o;clear J5
    obtain⟨na,P⟩:=Xa af.length
    obtain⟨bw,a9,rfl,_,aO⟩:=ab.whole (Y.len.trans P);have W:=g.o.stk.app ae (λ q=>(aC.o q).2)
    have bq:na<=N:=by have:=W.2;rw[g.o.alen,P]at this;exact this
    have KZ:Hid (∀u,An k.heap.size k u->u.cell? ⟨K,2,none⟩=some (Aa fa fl fc)/\u.cell? ⟨K,3,none⟩=some (Ab Ak (d.writes:Int))/\u.cell? ⟨K,4,none⟩=some (Ad d.armed)/\u.cell? ⟨K,5,none⟩=some (Ad d.dead)/\u.cell? ⟨K,6,none⟩=some (Ab Ak (d.after:Int))/\u.cell? ⟨K,7,none⟩=some (Ab Ak (d.keep:Int))/\u.cell? ⟨K,8,none⟩=some (Aa oa on oc)/\u.cell? ⟨K,9,none⟩=some (Aa ra rn rc)/\u.cell? ⟨K,10,none⟩=some (Aa ta tn tc)):=by
     intro u hu;have J:=O.o.box.below (x.trans (hu.mono x.size)) O.o.box.lt;exact⟨J.cell (j:=2) rfl,J.cell (j:=3) rfl,J.cell (j:=4) rfl,J.cell (j:=5) rfl,J.cell (j:=6) rfl,J.cell (j:=7) rfl,J.cell (j:=8) rfl,J.cell (j:=9) rfl,J.cell (j:=10) rfl⟩
    have ap:∀u,An k.heap.size k u->_:=λ u hu=>ZfA (c:=ar) ((g.o.below (x.trans (hu.mono x.size))).ask) g.o.alen (by omega)
    have ad:∀u (a:Option Addr) (c:Nat),An k.heap.size k u->RdG encU u a A->N<=c->_:=λ u a c hu h1 h2=>Zel (d:=d) (vf:=Aa fa fl fc) (vr:=Aa ra rn rc) (vt:=Aa ta tn tc) (oc:=oc) (bc:=0) (G:=Ga) (rk:=aQ) (O.o.below (x.trans (hu.mono x.size))).objs HO.o.1 (by have:=HO.o.2.2;omega) HO.o.2.1 ((g.o.below (x.trans (hu.mono x.size))).want) g.o.wlen g.o.rgen (by rw[g.o.rid];exact g.o.stk.nd) h1 g.o.alen h2 (by omega) (by rw[g.o.rid,g.o.rge];exact aC.o)
    rw[g.o.rid]at ad;have QI:Hid _:=ap;have QR:Hid _:=ad
    have F:Hid (st.told (([]:List Rw).map (·.id)) Ga A bd af/\OwnG encL 63 k Wl.heap.size (Aa bw na a9) bg/\LvsO k Wl.heap.size bg af/\An Wl.heap.size Wl k/\af.length=na/\Stk (([]:List Rw)++af)):=⟨ae,ab,Y,x,P,W.1⟩
    clear ae ab Y x P W aO ap ad
    go_upto_region 15 with fail
    go_cut[15,16] (λ mv fv u=>fv=Ab Ak bd/\Hid (∃C mw,OwnG encRv 106 u mw mv C/\k.heap.size<=mw/\RvsO u mw C af/\An k.heap.size k u))
    case first =>
     have V0:Hid (An k.heap.size k k.drew):=(Below.refl _ k).drew;have aL:=KZ.o _ V0.o
     go_region_held3 (λ u=>u.cell? ⟨K,2,none⟩=some (Aa fa fl fc)/\u.cell? ⟨K,3,none⟩=some (Ab Ak (d.writes:Int))/\u.cell? ⟨K,4,none⟩=some (Ad d.armed)/\u.cell? ⟨K,5,none⟩=some (Ad d.dead)/\u.cell? ⟨K,6,none⟩=some (Ab Ak (d.after:Int))/\u.cell? ⟨K,7,none⟩=some (Ab Ak (d.keep:Int))/\u.cell? ⟨K,8,none⟩=some (Aa oa on oc)/\u.cell? ⟨K,9,none⟩=some (Aa ra rn rc)/\u.cell? ⟨K,10,none⟩=some (Aa ta tn tc))
      (first | with_reducible exact aL | with_reducible exact aM | with_reducible exact aN | go_keep)
      (first
       | (go_at_call 13;(with_reducible refine(QR.o _ ia ic T.o.1 T.o.2.1 T.o.2.2).mono ?_);rintro e w7 ⟨mv,r7,rfl,X2⟩;have V2:Hid (An k.heap.size k w7):=(by obtain⟨_,_,_,_,_,b⟩:=X2.o;exact T.o.1.trans (b.mono T.o.1.size));have aN:=KZ.o _ V2.o)
       | (go_at_call 14;(with_reducible refine(QI.o _ V0.o).mono ?_);rintro e w6 ⟨ia,ic,rfl,X1⟩;have T:Hid (An k.heap.size k w6/\RdG encU w6 ia A/\N<=ic):=⟨V0.o.trans (X1.o.2.2.mono V0.o.size),X1.o.1,X1.o.2.1⟩;have aM:=KZ.o _ T.o.1))
     all_goals
      go_wp2_with fail;go_meet;obtain⟨C,bD,t2,o2,l2,b2⟩:=X2.o;obtain⟨e1,e2⟩:=F.o.1.uniq t2;rw[<- e1];rw[<- e2]at l2;exact⟨rfl,C,_,o2,T.o.1.size,l2,V2.o⟩
    case rest =>
     obtain⟨aH,HM⟩:=hcut;subst aH;obtain⟨C,mw,o2,an,l2,b2⟩:=HM.o;obtain⟨ma,mc,aI,_,_⟩:=o2.whole (l2.len.trans F.o.2.2.2.2.1);subst aI
     obtain⟨aS,aJ⟩:=Xb wc
     subst aJ;have am:=Zc1 (c:=a9) ((F.o.2.1.below b2).rdc.1) (F.o.2.2.1.len.trans F.o.2.2.2.2.1) ((F.o.2.2.1.below b2).lvs) (by omega)
     have HU:Hid (OwnG encRv 106 aS mw (Aa ma na mc) C/\k.heap.size<=mw/\RvsO aS mw C af/\An k.heap.size k aS):=⟨o2,an,l2,b2⟩
     clear HM o2 an l2 b2 QI QR KZ;go_wp2_with fail;refine am.mono ?_;rintro e w8 ⟨aa,ac,rfl,J8⟩;clear am;have aq:=Zej (c:=ac) (c':=mc) J8.o.1 ((HU.o.2.2.1.rd HU.o.1).below J8.o.2) F.o.2.2.2.2.1 (by omega) (λ r hr=>by have:=F.o.2.2.2.2.2.ps r (AK.2 (.inr hr));omega);go_wp2_with fail;refine aq.mono ?_;rintro e w9 ⟨rfl,b9⟩;clear aq;have aZ:An k.heap.size k w9:=HU.o.2.2.2.trans ((J8.o.2.trans (b9.mono J8.o.2.size)).mono HU.o.2.2.2.size);have ah:An Wl.heap.size Wl w9:=F.o.2.2.2.1.trans (aZ.mono F.o.2.2.2.1.size);have p:Hid (PR w9 aP aU aE vs ws R A n1 N):=aD.o.below ah;have aj:Hid (SE w9 s b st S oa za ca cl E K (wdV s b d (Aa fa fl fc) (Aa oa on oc) (Aa ra rn rc) (Aa ta tn tc) (Aa xa xn xc) (Aa ya yn yc) (Aa za zn zc))):=O.o.below ah;have aW:Hid (An w.heap.size w w9):=aB.o.trans (ah.mono aB.o.size);clear J8 b9 aZ ah HU g O aD F aC aB;obtain⟨Gb,aR,hG⟩:=Zip (gr:=A) HV.o.ord p.o.len;have Z:=ZbB (bc:=bC) (c:=ar) (G:=Gb) (rk:=aR) aj.o.store p.o.rows p.o.vlen p.o.lgen (by rw[p.o.lid];exact p.o.stk.nd) p.o.ask p.o.alen (by omega) (by rw[p.o.lid,p.o.lge];exact hG);rw[p.o.lid]at Z;have aX:Hid (st.free (R.map (·.id)) A->Zaz n1 (st.pss (R.map (·.id)++risU A) (risU A)) aR/\Gens (R.map (·.gen)) (st.pss (R.map (·.id)++risU A) (risU A)) Gb):=hG;have p1:=aj.o.box.cell (j:=1) rfl;clear hG;go_wp2_with fail;refine Z.mono ?_;rintro e t ⟨bM,be,rfl,J5⟩;clear Z p1;obtain⟨bh,ag,ae,ab,Y,x⟩:=J5.o;clear J5
     obtain⟨nb,P⟩:=Xa ag.length
     obtain⟨bx,ba,rfl,_,aO⟩:=ab.whole (Y.len.trans P);have W:=p.o.stk.app ae (λ q=>(aX.o q).2)
     have br:nb<=N:=by have:=W.2;rw[p.o.alen,P]at this;exact this
     have KZ:Hid (∀u,An t.heap.size t u->u.cell? ⟨K,2,none⟩=some (Aa fa fl fc)/\u.cell? ⟨K,3,none⟩=some (Ab Ak (d.writes:Int))/\u.cell? ⟨K,4,none⟩=some (Ad d.armed)/\u.cell? ⟨K,5,none⟩=some (Ad d.dead)/\u.cell? ⟨K,6,none⟩=some (Ab Ak (d.after:Int))/\u.cell? ⟨K,7,none⟩=some (Ab Ak (d.keep:Int))/\u.cell? ⟨K,8,none⟩=some (Aa oa on oc)/\u.cell? ⟨K,9,none⟩=some (Aa ra rn rc)/\u.cell? ⟨K,10,none⟩=some (Aa ta tn tc)):=by
      intro u hu;have J:=aj.o.box.below (x.trans (hu.mono x.size)) aj.o.box.lt;exact⟨J.cell (j:=2) rfl,J.cell (j:=3) rfl,J.cell (j:=4) rfl,J.cell (j:=5) rfl,J.cell (j:=6) rfl,J.cell (j:=7) rfl,J.cell (j:=8) rfl,J.cell (j:=9) rfl,J.cell (j:=10) rfl⟩
     have ap:∀u,An t.heap.size t u->_:=λ u hu=>ZfA (c:=ar) ((p.o.below (x.trans (hu.mono x.size))).ask) p.o.alen (by omega)
     have ad:∀u (a:Option Addr) (c:Nat),An t.heap.size t u->RdG encU u a A->N<=c->_:=λ u a c hu h1 h2=>Zel (d:=d) (vf:=Aa fa fl fc) (vr:=Aa ra rn rc) (vt:=Aa ta tn tc) (oc:=oc) (bc:=bE) (G:=Gb) (rk:=aR) (aj.o.below (x.trans (hu.mono x.size))).objs HO.o.1 (by have:=HO.o.2.2;omega) HO.o.2.1 ((p.o.below (x.trans (hu.mono x.size))).want) p.o.wlen p.o.rgen (by rw[p.o.rid];exact p.o.stk.nd) h1 p.o.alen h2 (by omega) (by rw[p.o.rid,p.o.rge];exact aX.o)
     rw[p.o.rid]at ad;have QI:Hid _:=ap;have QR:Hid _:=ad
     have L:Hid (st.told (R.map (·.id)) Gb A be ag/\OwnG encL 63 t w9.heap.size (Aa bx nb ba) bh/\LvsO t w9.heap.size bh ag/\An w9.heap.size w9 t/\ag.length=nb/\Stk (R++ag)):=⟨ae,ab,Y,x,P,W.1⟩
     clear ae ab Y x P W aO ap ad
     go_upto_region 19 with fail
     go_cut[15,16] (λ mv fv u=>fv=Ab Ak be/\Hid (∃C mw,OwnG encRv 106 u mw mv C/\t.heap.size<=mw/\RvsO u mw C ag/\An t.heap.size t u))
     case first =>
      have V0:Hid (An t.heap.size t t.drew):=(Below.refl _ t).drew;have aL:=KZ.o _ V0.o
      go_region_held3 (λ u=>u.cell? ⟨K,2,none⟩=some (Aa fa fl fc)/\u.cell? ⟨K,3,none⟩=some (Ab Ak (d.writes:Int))/\u.cell? ⟨K,4,none⟩=some (Ad d.armed)/\u.cell? ⟨K,5,none⟩=some (Ad d.dead)/\u.cell? ⟨K,6,none⟩=some (Ab Ak (d.after:Int))/\u.cell? ⟨K,7,none⟩=some (Ab Ak (d.keep:Int))/\u.cell? ⟨K,8,none⟩=some (Aa oa on oc)/\u.cell? ⟨K,9,none⟩=some (Aa ra rn rc)/\u.cell? ⟨K,10,none⟩=some (Aa ta tn tc))
       (first | with_reducible exact aL | with_reducible exact aM | with_reducible exact aN | go_keep)
       (first
        | (go_at_call 13;(with_reducible refine(QR.o _ ia ic T.o.1 T.o.2.1 T.o.2.2).mono ?_);rintro e w7 ⟨mv,r7,rfl,X2⟩;have V2:Hid (An t.heap.size t w7):=(by obtain⟨_,_,_,_,_,b⟩:=X2.o;exact T.o.1.trans (b.mono T.o.1.size));have aN:=KZ.o _ V2.o)
        | (go_at_call 14;(with_reducible refine(QI.o _ V0.o).mono ?_);rintro e w6 ⟨ia,ic,rfl,X1⟩;have T:Hid (An t.heap.size t w6/\RdG encU w6 ia A/\N<=ic):=⟨V0.o.trans (X1.o.2.2.mono V0.o.size),X1.o.1,X1.o.2.1⟩;have aM:=KZ.o _ T.o.1))
      all_goals
       go_wp2_with fail;go_meet;obtain⟨C,bD,t2,o2,l2,b2⟩:=X2.o;obtain⟨e1,e2⟩:=L.o.1.uniq t2;rw[<- e1];rw[<- e2]at l2;exact⟨rfl,C,_,o2,T.o.1.size,l2,V2.o⟩
     case rest =>
      obtain⟨aH,HM⟩:=hcut;subst aH;obtain⟨C,mw,o2,an,l2,b2⟩:=HM.o;obtain⟨ma,mc,aI,_,_⟩:=o2.whole (l2.len.trans L.o.2.2.2.2.1);subst aI
      obtain⟨aT,aJ⟩:=Xb wc
      subst aJ;have am:=Zc1 (c:=ba) ((L.o.2.1.below b2).rdc.1) (L.o.2.2.1.len.trans L.o.2.2.2.2.1) ((L.o.2.2.1.below b2).lvs) (by omega)
      have HU:Hid (OwnG encRv 106 aT mw (Aa ma nb mc) C/\t.heap.size<=mw/\RvsO aT mw C ag/\An t.heap.size t aT):=⟨o2,an,l2,b2⟩
      clear HM o2 an l2 b2 QI QR KZ;go_wp2_with fail;refine am.mono ?_;rintro e w8 ⟨aa,ac,rfl,J8⟩;clear am;have aq:=Zej (c:=ac) (c':=mc) J8.o.1 ((HU.o.2.2.1.rd HU.o.1).below J8.o.2) L.o.2.2.2.2.1 (by omega) (λ r hr=>by have:=L.o.2.2.2.2.2.ps r (AK.2 (.inr hr));omega);go_wp2_with fail;refine aq.mono ?_;rintro e w9 ⟨rfl,b9⟩;clear aq;have bj:Hid (An w.heap.size w w9):=aW.o.trans ((L.o.2.2.2.1.trans ((HU.o.2.2.2.trans ((J8.o.2.trans (b9.mono J8.o.2.size)).mono HU.o.2.2.2.size)).mono L.o.2.2.2.1.size)).mono aW.o.size);clear J8 b9 HU;go_wp2_with fail;go_ret;exact⟨rfl,bj.o⟩
end Go.Proofs.YtlojblelpaegpaaGreat
