/-
  The statement LayerGenerations: its walk.
-/
import Derived.Test.YtlojblelpaegpaaGreatM40
set_option maxHeartbeats 6400000
set_option maxRecDepth 100000
open Go.RowKit renaming Below->An
open List renaming getElem?_eq_getElem->Aq,length_map->AQ,mem_of_getElem?->AY,getElem?_map->Bc
open Go.Value renaming slice->Aa,int->Ab,bool->Ad,string->Ae,pointer->Ah
open Go.IntKind renaming i64->Ak,u64->Al
namespace Go.Proofs.YtlojblelpaegpaaGreat
open Go.RowKit
variable{K b s:Nat}{R:List Rw}{S:Nat->Prop}{c:Option Addr}{cs:Array Value}{st:St}{u w:World}{vs:List LV}
structure GR(w u:World)(s b:Nat)(st:St)(S:Nat->Prop)(K:Nat)(cs:Array Value)(ra:Option Addr)(vs:List LV)(R:List Rw):Prop where
 sto:Zac u s b st S
 box:BoxA u K 36 cs
 rows:RdG encL u ra vs
 lv:Lvs u vs R
 bel:An w.heap.size w u
theorem GR.below{u':World}(h:GR w u s b st S K cs c vs R)(a:An u.heap.size u u'):GR w u' s b st S K cs c vs R :=
 ⟨h.sto.below a,h.box.below a h.box.lt,h.rows.below a,h.lv.below a,h.bel.trans (a.mono h.bel.size)⟩
theorem GR.at(h:GR w u s b st S K cs c vs R){i:Nat}(hi:i<R.length):∃v r,vs[i]? = some v/\R[i]? = some r/\LvAt u v r:=by
 have a:i<vs.length:=by rw[h.lv.len];exact hi
 exact⟨_,_,Aq a,Aq hi,h.lv.at_ i _ _ (Aq a) (Aq hi)⟩
theorem SG.says{cl:List UInt64}{j:Nat}(h:SG st cl j R []){r:Rw}(g:r∈R):
  st.has 3 r.id=true/\r.tree=(st.com r.id).tree/\r.date=(st.com r.id).date/\r.ps.length=(st.com r.id).ps.length/\r.gen=min (topG (R.map (·.gen)) r.ps 0+1) 250 /\
  ∀(k:Nat) (p:UInt64),(st.com r.id).ps[k]? = some p->∃(a:Nat) (q:Rw),r.ps[k]? = some (a:Int)/\R[a]? = some q/\q.id=p/\kat (R.map (·.gen)) (a:Int)=q.gen:=by
 have b:=h.row r g;have d:r.ps=pps (R.map (·.id)) (st.com r.id).ps:=A4 Rw.ps b.eq;refine⟨b.has,A4 Rw.tree b.eq,A4 Rw.date b.eq,by rw[d];unfold pps;rw[AQ],?_,λ k p f=>?_⟩
 ·rw[b.gen];unfold genF;omega
 ·have hp:=b.shut p (AY f);have hi:=List.idxOf_lt_length_of_mem hp
  have c:(R.map (·.id)).idxOf p<R.length:=by rw[AQ]at hi;exact hi
  refine⟨(R.map (·.id)).idxOf p,R[(R.map (·.id)).idxOf p],?_,Aq c,?_,?_⟩
  ·rw[d];unfold pps;rw[Bc,f]
   rfl
  ·have e:=List.getElem_idxOf hi;rw[List.getElem_map]at e;exact e
  ·unfold kat List.getD;rw[Int.toNat_natCast,Bc,Aq c]
   rfl
theorem Zmj{K ps:List Int}{k:Nat}{a:Int}(h:ps[k]? = some a):topG K (ps.take (k+1)) 0=max (topG K (ps.take k) 0) (kat K a):=by
 unfold topG;rw[List.take_add_one,h,List.foldl_append]
 rfl
theorem ZeL{ao:Option Addr}{n c:Nat}{l:List AV}{acs:List Ac}(hA:Acts w ao n l)(hC:ZgF w l acs)(hN:∀a∈l,a.nm.size<=140737488355328)(hn:n<=4000000000000000000)
  {ca:Option Addr} {cn cc:Nat} {D:List Int} (aG:RdG encI w ca D) (aF:D.length=cn) (z:cn<=4000000000000000000)
  (aD:∀w:World,Calls Tryz.prog 8 #[] w λ e w'=>e=.returned (Ad true)/\An w.heap.size w w') :
  Calls Tryz.prog 4 #[Aa ao n c,Aa ca cn cc] w λ e w'=>e=.returned (Ad true)/\An w.heap.size w w':=by
 have H:Hid (Acts w ao n l/\ZgF w l acs/\(∀a∈l,a.nm.size<=140737488355328)/\RdG encI w ca D/\D.length=cn):=⟨hA,hC,hN,aG,aF⟩
 clear hA hC hN aG aF;go_enter Tryz.func4,Tryz.ntmps4;go_wp2_with fail;refine(aD _).mono ?_;rintro e w1 ⟨rfl,B1⟩;have aE:=Zem (w:=w1) (c:=c) (acs:=acs) ⟨H.o.1.rd.below B1,H.o.1.len,λ a ha=>by obtain⟨d1,d2,d3,h⟩:=H.o.1.each a ha;exact⟨d1,d2,d3,h.below B1⟩⟩ ⟨H.o.2.1.len,λ i a h=>by obtain⟨d1,d2,d3,h1,h2⟩:=H.o.2.1.at_ i a h;exact⟨d1,d2,d3,h1.below B1,h2⟩⟩ H.o.2.2.1 hn;have ak:Hid (An w.heap.size w w1):=B1;clear aD B1;go_wp2_with fail;refine aE.mono ?_;rintro e w2 ⟨u,rfl,J2⟩;clear aE;have au:=ZbX acs 40
 obtain⟨v,hv⟩:=Xa (bwd (acs.take 40))
 rw[hv]at au J2;clear hv;obtain⟨s,b,fa,O,fc,oa,on,oc,P,T,Q,V,X,tc,Y,xn,xc,ya,yn,yc,za,G,zc,U,rfl,hW,B2⟩:=J2.o;obtain⟨st,d,bl,tl,cl⟩:=v;simp only at hW;obtain⟨⟨S,q1⟩,q2,q3,q4,q5⟩:=hW.parts;have HV:Hid (Wd.built ⟨st,d,bl,tl,cl⟩ 40):=au
 have br:G<=40:=by have:=HV.o.fine.cl;rw[<- q5];exact this
 have HO:Hid (st.objs.length=on/\(∀o∈st.objs,o.body.length<=8192)/\on<=40):=⟨q3,λ o ho=>(HV.o.fine.st.ids o ho).2.2.2.2,by have h1:st.size<=40:=HV.o.fine.size;unfold St.size at h1;omega⟩
 obtain⟨K,hK⟩:=Xa w2.heap.size
 obtain⟨W3,ad⟩:=Xb (w2.alloc (.cells (wdV s b d (Aa fa O fc) (Aa oa on oc) (Aa P T Q) (Aa V X tc) (Aa Y xn xc) (Aa ya yn yc) (Aa za G zc)) 36))
 have ai:An w.heap.size w w2:=ak.o.trans (B2.mono ak.o.size)
 have aa:An w2.heap.size w2 W3:=by rw[ad];exact bz1 _ _
 have aj:An w.heap.size w W3:=ai.trans (aa.mono ai.size)
 have E3:Hid (SE W3 s b st S oa za ca cl D K (wdV s b d (Aa fa O fc) (Aa oa on oc) (Aa P T Q) (Aa V X tc) (Aa Y xn xc) (Aa ya yn yc) (Aa za G zc))):=⟨q1.below aa,q2.below aa,q4.below aa,H.o.2.2.2.1.below aj,by rw[ad,<- hK];exact BoxA.new _ _ _⟩
 have H3:Hid (An w.heap.size w W3/\cl.length=G):=⟨aj,q5⟩
 clear J2 au hW q1 q2 q3 q4 q5 B2 ai aa aj ak
 go_upto_region 4 with fail
 rw[<- ad];clear ad hK;have aO:=Zhk (d:=d) (vf:=Aa fa O fc) (vr:=Aa P T Q) (vt:=Aa V X tc) (xb:=Aa Y xn xc) (xt:=Aa ya yn yc) (oc:=oc) (zc:=zc) (cc:=cc) E3.o.store E3.o.objs HO.o.1 (by have:=HO.o.2.2;omega) HO.o.2.1 HV.o.ord HV.o.cc.par E3.o.coms H3.o.2 (by omega) E3.o.cut H.o.2.2.2.2 z;obtain⟨p0,p1,p2,p3,p4,p5,p6,p7,p8,p9,bc,bd,be,bf⟩:=E3.o.box.all14;go_wp2_with fail;refine aO.mono ?_;rintro e L ⟨rv,wv,rfl,J4⟩;clear aO p0 p1 p2 p3 p4 p5 p6 p7 p8 p9 bc bd be bf;obtain⟨B,vs,ws,R,gv,aZ,A,af⟩:=J4.o
 obtain⟨E,ag⟩:=Xa R.length
 have bq:E<=G:=by have:=A.len;rw[List.length_nil]at this;omega
 obtain⟨aC,bw,rfl,_,aX⟩:=A.rows.whole (A.lv.len.trans ag)
 obtain⟨M,hM⟩:=Xa L.heap.size
 have t:Hid (SG st cl G R []/\R.length=E/\st.coms.length=E/\(∀r∈R,r.ps.length<=8)/\∀r∈R,1<=r.gen/\r.gen<=250):=⟨A.sg,ag,by rw[<- ag];exact(SG.all (v:=⟨st,d,bl,tl,cl⟩) A.sg (by rw[H3.o.2];omega) HV.o.cc HV.o.fine.st).symm,A.stk.ps,A.stk.gen⟩
 have B4:An w.heap.size w L:=H3.o.1.trans (af.mono H3.o.1.size)
 have G4:Hid (GR w L s b st S K (wdV s b d (Aa fa O fc) (Aa oa on oc) (Aa P T Q) (Aa V X tc) (Aa Y xn xc) (Aa ya yn yc) (Aa za G zc)) aC vs R):=⟨E3.o.store.below af,E3.o.box.below af E3.o.box.lt,aX,A.lv.lvs,B4⟩
 have z:=ZhJ G4.o.sto HV.o.fine.st.one (by have:=HO.o.1;have:=HO.o.2.2;omega);rw[t.o.2.2.1]at z;clear J4 aZ A af ag aX E3 B4;have p1:=G4.o.box.cell (j:=1) rfl;go_wp2_with fail;refine z.mono ?_;rintro e w5 ⟨la,ln,lc,rfl,J5⟩;obtain rfl:E=ln:=J5.o.2.1;have G5:Hid (GR w w5 s b st S K (wdV s b d (Aa fa O fc) (Aa oa on oc) (Aa P T Q) (Aa V X tc) (Aa Y xn xc) (Aa ya yn yc) (Aa za G zc)) aC vs R):=G4.o.below J5.o.2.2.2;clear z J5 G4 p1
 have bb:((E:Int) != (E:Int))=false:=by simp
 go_wp2_with fail;clear bb;go_loopg[9,10,11,12,13,14,15] E (λ m iv _ _ _ _ _ _ wr=>∃i:Nat,iv=Ab Ak i/\i+m=E/\Hid (GR w wr s b st S K (wdV s b d (Aa fa O fc) (Aa oa on oc) (Aa P T Q) (Aa V X tc) (Aa Y xn xc) (Aa ya yn yc) (Aa za G zc)) aC vs R))
 case atStart=>exact⟨0,rfl,by omega,G5.o⟩
 case round =>
  obtain⟨i,rfl,hi,HR⟩:=hrel;clear G5;by_cases a1:i<E
  ·have id:(i:Int)<(E:Int):=by omega
   have bs:(0:Int)<=(i:Int):=by omega
   obtain⟨gO,aH⟩:=Xb gk
   have GO:Hid (gO=gk/\i+gO=E):=⟨aH,by omega⟩
   clear aH;obtain⟨v,r,hv,hr,ar⟩:=HR.o.at (i:=i) (by rw[t.o.2.1];exact a1);obtain⟨rb,ro,rfl,_⟩:=HR.o.rows.some_of hv;have sg:=t.o.1.says (AY hr)
   obtain⟨x,hx⟩:=Xa r.id
   rw[hx]at sg
   obtain⟨cm,z⟩:=Xa (st.com x)
   rw[z]at sg
   obtain⟨J,ay⟩:=Xa cm.tree
   obtain⟨dt,av⟩:=Xa cm.date
   obtain⟨pn,ac⟩:=Xa cm.ps.length
   obtain⟨nt,aJ⟩:∃nt:ByteArray,(⟨cm.note.toArray⟩:ByteArray)=nt:=⟨_,rfl⟩
   have aw:∀u,An wr.heap.size wr u->_:=λ u hu=>ZhS (HR.o.below hu).sto x true sg.1
   rw[z,ay,av,ac,show tx cm.note=Ae nt by rw[<- aJ]]at aw;have QG:Hid _:=aw
   obtain⟨va,vc,gn,al,an,am,aA⟩:∃va vc gn al an am,v=⟨x,J,dt,va,pn,vc,gn,al,an,am⟩:=by
    obtain⟨q1,q2,q3,q4,q5,q6,_,_⟩:=ar;refine⟨v.pa,v.pc,v.gen,v.fa,v.fn,v.fc,?_⟩;have e1:v.id=x:=q1.trans hx;have e2:v.tree=J:=q2.trans (sg.2.1.trans ay);have e3:v.date=dt:=q3.trans (sg.2.2.1.trans av);have e4:v.pn=pn:=q6.symm.trans (sg.2.2.2.1.trans ac);rw[<- e1,<- e2,<- e3,<- e4]
   have C:Hid (vs[i]? = some ⟨x,J,dt,va,pn,vc,gn,al,an,am⟩/\R[i]? = some r/\r.id=x/\cm.ps.length=pn/\r.ps.length=pn/\gn=min (topG (R.map (·.gen)) r.ps 0+1) 250 /\
     ∀(k:Nat) (p:UInt64),cm.ps[k]? = some p->∃(a:Nat) (q:Rw),r.ps[k]? = some (a:Int)/\R[a]? = some q/\q.id=p/\kat (R.map (·.gen)) (a:Int)=q.gen):=by
    refine⟨by rw[<- aA];exact hv,hr,hx,ac,sg.2.2.2.1.trans ac,?_,sg.2.2.2.2.2⟩;have:=ar.2.2.2.1;rw[aA]at this;exact this.trans sg.2.2.2.2.1
   have bi:pn<=8:=by have:=t.o.2.2.2.1 r (AY hr);have:=C.o.2.2.2.2.1;omega
   have KZ:Hid (∀u,An wr.heap.size wr u->u.cell? ⟨K,1,none⟩=some (Ah (some ⟨s,0,none⟩))/\u.cell? ⟨rb,ro+i*6,none⟩=some (Ab Al (x.toNat:Int))):=λ u hu =>
    ⟨(HR.o.below hu).box.cell (j:=1) rfl,((HR.o.below hu).rows.lrows C.o.1).1⟩
   clear hv hr ar sg hx z ay av ac aJ aw aA
   go_upto_region 12 with fail
   go_cut[10,11] (λ pv tv u=>tv=Ad true/\Hid (∃Z pa pc,pv=Ah (some ⟨Z,0,none⟩)/\BoxA u Z 58 #[Ab Al (J.toNat:Int),Aa pa pn pc,Ab Ak dt,Ae nt]/\RdG encU u pa cm.ps/\An wr.heap.size wr u))
   case first =>
    have V0:Hid (An wr.heap.size wr wr.drew):=(Below.refl _ wr).drew
    have F:Hid (An wr.heap.size wr (wr.alloc (.cells #[Ab Al 0,Aa none 0 0,Ab Ak 0,Ae ⟨#[]⟩] 58)).drew/\BoxA (wr.alloc (.cells #[Ab Al 0,Aa none 0 0,Ab Ak 0,Ae ⟨#[]⟩] 58)).drew wr.heap.size 58 #[Ab Al 0,Aa none 0 0,Ab Ak 0,Ae ⟨#[]⟩]):=⟨(bz1 wr _).drew,ZfI _ _ _⟩
    have a9:=KZ.o _ V0.o;have aS:=KZ.o _ F.o.1
    go_region_held3 (λ u=>u.cell? ⟨K,1,none⟩=some (Ah (some ⟨s,0,none⟩))/\u.cell? ⟨rb,ro+i*6,none⟩=some (Ab Al (x.toNat:Int)))
     (first | with_reducible exact a9 | with_reducible exact aS | with_reducible exact aT | with_reducible exact aV | with_reducible exact aW | with_reducible exact aU | go_keep)
     (first
      | (go_at_call 18;(with_reducible refine(QG.o _ V0.o).mono ?_);rintro e L ⟨qa,qc,rfl,X1⟩;have I:Hid (An wr.heap.size wr L):=V0.o.trans (X1.o.2.2.1.mono V0.o.size);have aT:=KZ.o _ I.o;have aW:=KZ.o _ (I.o.trans ((bz1 L (.cells #[Ab Al 0,Aa none 0 0,Ab Ak 0,Ae ⟨#[]⟩] 58)).mono I.o.size));have aV:=KZ.o _ (I.o.trans ((bz1 L (.cells #[Ab Al (J.toNat:Int),Aa qa pn qc,Ab Ak dt,Ae nt] 58)).mono I.o.size)))
      | (go_at_call 18;(with_reducible refine(QG.o _ F.o.1).mono ?_);rintro e L ⟨qa,qc,rfl,X1⟩;have I:Hid (An wr.heap.size wr L):=F.o.1.trans (X1.o.2.2.1.mono F.o.1.size);have aT:=KZ.o _ I.o;have aU:=KZ.o _ (Zcb I.o I.o.size (Nat.le_refl _) (Ab Al (J.toNat:Int)) (Aa qa pn qc) (Ab Ak dt) (Ae nt));have XX:=F.o.2.below X1.o.2.2.1 F.o.2.lt;have XH:Hid _:=XX;have s0:=XX.cell (j:=0) rfl;have s1:=XX.cell (j:=1) rfl;have s2:=XX.cell (j:=2) rfl;have s3:=XX.cell (j:=3) rfl;have f0:=XX.thaw 0;have f1:=XX.thaw 1;have f2:=XX.thaw 2;have f3:=XX.thaw 3;clear XX))
    all_goals
     go_wp2_with fail;go_meet
     first
      | exact⟨rfl,_,qa,qc,rfl,Zjl XH.o _ _ _ _,X1.o.1.turned (Zal (W:=L) wr.heap.size [Ab Al (J.toNat:Int),Aa qa pn qc,Ab Ak dt,Ae nt] 0) (λ h0 p hp e=>by
        have h1:=X1.o.2.2.2 (by have:=C.o.2.2.2.1;omega) p hp;have h2:=F.o.2.lt;have e':p.block=wr.heap.size:=e
        omega),Zcb I.o I.o.size (Nat.le_refl _) _ _ _ _⟩
      | exact⟨rfl,_,qa,qc,rfl,BoxA.new L _ _,X1.o.1.below (bz1 L _),I.o.trans ((bz1 L _).mono I.o.size)⟩
   case rest =>
    obtain⟨a4,N⟩:=hcut;subst a4;obtain⟨Z,pa,pc,a3,hZ,aq,ap⟩:=N.o;subst a3
    obtain⟨u6,aP⟩:=Xa wc
    rw[aP]at hZ aq ap ⊢
    have HP:Hid (GR w u6 s b st S K (wdV s b d (Aa fa O fc) (Aa oa on oc) (Aa P T Q) (Aa V X tc) (Aa Y xn xc) (Aa ya yn yc) (Aa za G zc)) (some ⟨rb,ro,none⟩) vs R/\BoxA u6 Z 58 #[Ab Al (J.toNat:Int),Aa pa pn pc,Ab Ak dt,Ae nt]/\RdG encU u6 pa cm.ps):=⟨HR.o.below ap,hZ,aq⟩
    clear aP N QG KZ hZ aq ap HR
    go_upto_region 13 with fail
    go_cut[93]from 60 to 93 (λ tv u=>∃y,y=u/\tv=Ad false/\Hid (An u6.heap.size u6 y))
    case first =>
     obtain⟨z0,z1,z2,z3,z4,z5⟩:=HP.o.1.rows.lrows C.o.1;have y0:=HP.o.2.1.cell (j:=0) rfl;have y1:=HP.o.2.1.cell (j:=1) rfl;have y2:=HP.o.2.1.cell (j:=2) rfl
     have n0:((J.toNat:Int) != (J.toNat:Int))=false:=by simp
     have n2:(dt != dt)=false:=by simp
     have n3:((pn:Int) != (pn:Int))=false:=by simp
     go_quiet (fail);go_wp2;go_meet;exact⟨_,rfl,rfl,bdrewN _ _⟩
    case rest =>
     obtain⟨u7,a5,rfl,B7⟩:=hcut;subst a5
     have H7:Hid (GR w u7 s b st S K (wdV s b d (Aa fa O fc) (Aa oa on oc) (Aa P T Q) (Aa V X tc) (Aa Y xn xc) (Aa ya yn yc) (Aa za G zc)) (some ⟨rb,ro,none⟩) vs R/\BoxA u7 Z 58 #[Ab Al (J.toNat:Int),Aa pa pn pc,Ab Ak dt,Ae nt]/\RdG encU u7 pa cm.ps):=⟨HP.o.1.below B7.o,HP.o.2.1.below B7.o HP.o.2.1.lt,HP.o.2.2.below B7.o⟩
     clear HP B7;go_wp2_with fail;go_loopg[12,13,14] pn (λ m mv kv _ u=>∃(k:Nat) (g:Int),mv=Ab Ak g/\kv=Ab Ak k/\k+m=pn/\Hid (g=topG (R.map (·.gen)) (r.ps.take k) 0/\0<=g/\g<=250/\GR w u s b st S K (wdV s b d (Aa fa O fc) (Aa oa on oc) (Aa P T Q) (Aa V X tc) (Aa Y xn xc) (Aa ya yn yc) (Aa za G zc)) (some ⟨rb,ro,none⟩) vs R/\BoxA u Z 58 #[Ab Al (J.toNat:Int),Aa pa pn pc,Ab Ak dt,Ae nt]/\RdG encU u pa cm.ps))
     case atStart=>exact⟨0,0,rfl,rfl,by omega,rfl,by omega,by omega,H7.o.1,H7.o.2.1,H7.o.2.2⟩
     case round =>
      obtain⟨k,g,rfl,rfl,hk,f⟩:=hrel;clear H7;by_cases a2:k<pn
      ·have kd:(k:Int)<(pn:Int):=by omega
       have bt:(0:Int)<=(k:Int):=by omega
       obtain⟨p,hp⟩:=Zaf C.o.2.2.2.1 a2;obtain⟨a,q,ha,hq,aL,ax⟩:=C.o.2.2.2.2.2.2 k p hp;have ae:a<R.length:=(List.getElem?_eq_some_iff.1 hq).1
       have bk:a<E:=by rw[t.o.2.1]at ae;exact ae
       obtain⟨vq,q',aR,aK,ab⟩:=f.o.2.2.2.1.at ae;obtain rfl:q=q':=Option.some.inj (hq.symm.trans aK)
       obtain⟨y,hy⟩:=Xa q.gen
       have e1:vq.id=p:=ab.1.trans aL;have e4:vq.gen=y:=ab.2.2.2.1.trans hy;have a8:=t.o.2.2.2.2 q (AY hq);rw[hy]at a8 ax
       have bj:(a:Int)<(E:Int):=by omega
       have bg:(0:Int)<=(a:Int):=by omega
       obtain⟨pb,po,rfl,_⟩:=f.o.2.2.2.2.2.some_of hp;have aN:=f.o.2.2.2.1.lv.at_ i _ _ C.o.1 C.o.2.1;obtain⟨ib,io,az,_⟩:=aN.2.2.2.2.1.some_of ha;have az:va=some ⟨ib,io,none⟩:=az;subst az
       have N:Hid (r.ps[k]? = some (a:Int)/\kat (R.map (·.gen)) (a:Int)=y/\cm.ps[k]? = some p/\vs[a]? = some vq/\vq.id=p/\vq.gen=y):=⟨ha,ax,hp,aR,e1,e4⟩
       clear hp ha hq aL ax ae aR aK ab hy e1 e4 aN;have y1:=f.o.2.2.2.2.1.cell (j:=1) rfl;obtain⟨z0,z1,z2,z3,z4,z5⟩:=f.o.2.2.2.1.rows.lrows C.o.1;have ca:=(f.o.2.2.2.1.lv.at_ i _ _ C.o.1 C.o.2.1).2.2.2.2.1.ints N.o.1;clear z0 z1 z2 z4 z5
       go_upto_region 20 with fail
       clear y1 z3 ca
       go_cut[129]from 109 to 129 (λ tv u=>∃x7,x7=u/\tv=Ad false/\Hid (An wr.heap.size wr x7))
       case first =>
        have y1:=f.o.2.2.2.2.1.cell (j:=1) rfl;obtain⟨_,cp⟩:=f.o.2.2.2.2.2.nums N.o.2.2.1;obtain⟨q0,q1,q2,q3,q4,q5⟩:=f.o.2.2.2.1.rows.lrows N.o.2.2.2.1;rw[N.o.2.2.2.2.1]at q0
        have m0:decide ((a:Int)<0)=false:=by rw[Ax];omega
        have m1:decide ((E:Int)<=(a:Int))=false:=by rw[Ax];omega
        have m2:((p.toNat:Int) != (p.toNat:Int))=false:=by simp
        clear q1 q2 q3 q4 q5;go_quiet (fail);go_wp2;go_meet;refine⟨_,rfl,?_,bdrewN _ _⟩
        first
         | rfl
         | rw[CW (by omega)]
       case rest =>
        obtain⟨u8,a6,rfl,B8⟩:=hcut;subst a6
        have H8:Hid (GR w u8 s b st S K (wdV s b d (Aa fa O fc) (Aa oa on oc) (Aa P T Q) (Aa V X tc) (Aa Y xn xc) (Aa ya yn yc) (Aa za G zc)) (some ⟨rb,ro,none⟩) vs R/\BoxA u8 Z 58 #[Ab Al (J.toNat:Int),Aa (some ⟨pb,po,none⟩) pn pc,Ab Ak dt,Ae nt]/\RdG encU u8 (some ⟨pb,po,none⟩) cm.ps):=⟨f.o.2.2.2.1.below B8.o,f.o.2.2.2.2.1.below B8.o f.o.2.2.2.2.1.lt,f.o.2.2.2.2.2.below B8.o⟩
        obtain⟨q0,q1,q2,q3,q4,q5⟩:=H8.o.1.rows.lrows N.o.2.2.2.1;rw[N.o.2.2.2.2.2]at q4
        have HG:Hid (max g y=topG (R.map (·.gen)) (r.ps.take (k+1)) 0/\0<=g/\g<=250):=⟨by rw[Zmj N.o.1,N.o.2.1,<- f.o.1],f.o.2.1,f.o.2.2.1⟩
        have a0:0<=g:=HG.o.2.1;clear q0 q1 q2 q3 q5 f N B8;by_cases bo:g<y
        ·have e1:max g y=y:=by omega
         rw[e1]at HG;clear e1;go_wp2;go_roundg (gk - 1)
         case measure=>omega
         case rel=>exact⟨k+1,y,by first | rfl | go_num,by go_num,by omega,HG.o.1,by omega,by omega,H8.o.1,H8.o.2.1,H8.o.2.2⟩
        ·have e1:max g y=g:=by omega
         rw[e1]at HG;clear e1;go_wp2
         all_goals
          go_roundg (gk - 1)
          case measure=>omega
          case rel=>exact⟨k+1,g,by first | rfl | (congr 1;omega),by go_num,by omega,HG.o.1,by omega,HG.o.2.2,H8.o.1,H8.o.2.1,H8.o.2.2⟩
      ·have kd:¬(k:Int)<(pn:Int):=by omega
       have y1:=f.o.2.2.2.2.1.cell (j:=1) rfl
       have HG:Hid (gn=min (g+1) 250/\0<=g/\g<=250):=by
        refine⟨?_,f.o.2.1,f.o.2.2.1⟩;rw[C.o.2.2.2.2.2.1,f.o.1,List.take_of_length_le (by have:=C.o.2.2.2.2.1;omega)]
       have H9:Hid (GR w wr s b st S K (wdV s b d (Aa fa O fc) (Aa oa on oc) (Aa P T Q) (Aa V X tc) (Aa Y xn xc) (Aa ya yn yc) (Aa za G zc)) (some ⟨rb,ro,none⟩) vs R):=f.o.2.2.2.1;clear f
       go_upto_region 23 with fail
       clear y1 kd
       go_cut[145]from 137 to 145 (λ tv u=>u=wr/\tv=Ad false)
       case first =>
        obtain⟨z0,z1,z2,z3,z4,z5⟩:=H9.o.rows.lrows C.o.1;clear z0 z1 z2 z3 z5;have a0:=HG.o.2.1;have bm:=HG.o.2.2
        have m1:Ak.wrap (g+1)=g+1:=by rw[IntKind.wrap_i64];omega
        by_cases bn:g+1<250
        ·have e:gn=g+1:=by have:=HG.o.1;omega
         subst e
         have m2:((g+1) != (g+1))=false:=by simp
         go_wp2
         all_goals
          go_meet;refine⟨rfl,?_⟩
          first
           | rfl
           | (rw[show min (g+1) 250=g+1 by omega];simp)
        ·have e:gn=250:=by have:=HG.o.1;omega
         subst e;go_wp2
         all_goals
          go_meet;refine⟨rfl,?_⟩
          first
           | rfl
           | (rw[show min (g+1) 250=250 by omega];simp)
       case rest =>
        obtain⟨a7,rfl⟩:=hcut;subst a7;go_wp2_with fail;go_loopg[15] i (λ m kv u=>∃k:Nat,kv=Ab Ak k/\k+m=i/\Hid (GR w u s b st S K (wdV s b d (Aa fa O fc) (Aa oa on oc) (Aa P T Q) (Aa V X tc) (Aa Y xn xc) (Aa ya yn yc) (Aa za G zc)) (some ⟨rb,ro,none⟩) vs R))
        case atStart=>exact⟨0,rfl,by omega,H9.o⟩
        case round =>
         obtain⟨k5,rfl,bp,HL⟩:=hrel;clear H9;by_cases bh:k5<i
         ·have ba:(k5:Int)<(i:Int):=by omega
          have bu:(0:Int)<=(k5:Int):=by omega
          have bv:(k5:Int)<(E:Int):=by omega
          obtain⟨v5,r5,aQ,aM,ah⟩:=HL.o.at (i:=k5) (by rw[t.o.2.1];omega)
          obtain⟨x5,aB⟩:=Xa v5.id
          have aI:x5≠x:=by
           intro q;have nd:=t.o.1.nd;rw[List.append_nil]at nd
           have h1:(R.map (·.id))[k5]? = some x:=by rw[Bc,aM,<- q,<- aB,ah.1];rfl
           have h2:(R.map (·.id))[i]? = some x:=by rw[Bc,C.o.2.1,<- C.o.2.2.1];rfl
           have:=(List.getElem?_inj (by rw[AQ,t.o.2.1];omega) nd).1 (h1.trans h2.symm);omega
          obtain⟨z0,z1,z2,z3,z4,z5⟩:=HL.o.rows.lrows C.o.1;obtain⟨q0,q1,q2,q3,q4,q5⟩:=HL.o.rows.lrows aQ;rw[aB]at q0
          have hn:¬(x5.toNat:Int)=(x.toNat:Int):=λ q=>aI (UInt64.toNat_inj.1 (Int.ofNat.inj q))
          have hd:((x5.toNat:Int)==(x.toNat:Int))=false:=by simpa using hn
          clear z1 z2 z3 z4 z5 q1 q2 q3 q4 q5 aQ aM ah aB aI hn
          go_upto_region 28 with fail
          go_quiet (fail);go_wp2_with fail;go_roundg (gk - 1)
          case measure=>omega
          case rel=>exact⟨k5+1,by go_num,by omega,HL.o.below (bdrewN _ _)⟩
         ·have ba:¬(k5:Int)<(i:Int):=by omega
          go_wp2;go_roundg (gO - 1)
          case measure=>have:=GO.o;omega
          case rel=>exact⟨i+1,by go_num,by have:=GO.o;omega,HL.o⟩
  ·have id:¬(i:Int)<(E:Int):=by omega
   have aY:Hid (An w.heap.size w wr):=HR.o.bel;clear HR;go_wp2_with fail;go_ret;exact⟨rfl,aY.o⟩
end Go.Proofs.YtlojblelpaegpaaGreat
