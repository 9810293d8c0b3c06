import Derived.Test.YtakgkgmopmcecaaGreatM15
set_option maxHeartbeats 6400000
set_option maxRecDepth 100000
open List renaming take_succ_eq_append_getElem->Bh,map_append->BV,length_append->Ax,length_map->A4,length_filter_le->CT,length_take_le->CS,take_of_length_le->Av,length_cons->A2,take_add_one->AW,length_take->AE,contains_eq_any_beq->Gb,take_length->DJ,idxOf_append->D0
open Go renaming World->Ap,Value->Ar,Calls->At,bodyPost_ret->As
open Go.RowKit renaming Below->An
open Go.RowKit.Below renaming refl->Ao
open Nat renaming le_trans->AU,le_refl->AA,zero_le->Bw
open Go.World renaming new_ne->Gy,cell?->Bf
open Go.Value renaming slice->Aa,int->Ab,bool->Ad,string->Ae,agg->Ag
open Go.Obj renaming cells->Ai
open Go.Ending renaming returned->Aj
open Go.IntKind renaming i64->Ak,u64->Al
open Go.Proofs.Tryz renaming prog->Am
open Go.Proofs.Tryz
namespace Go.Proofs.YtakgkgmopmcecaaGreat
open Go.RowKit
variable {B R c i n oc:Nat}{Q l:List UInt64}{a:List Bs}{ao oa:Option Addr}{b g vf vr vt z0 z3:Ar}{d:Dk}{st:St}{t:TypeId}{u u':World}{w w0:Ap}{x:UInt64}{α:Type}
def kr(A B:List En)(p:Bs):nX:=(p,jr A p,jr B p)
def told(g:Bs->Bool)(c:nX):Bool:=(c.2.1 != c.2.2)&&g c.1
theorem ZB(g:Bs->Bool)(A B:List En):jY g A B=((kj A B).map (kr A B)).filter (told g):=rfl
theorem Y6(g:Bs->Bool)(A B:List En){qs:List Bs}(h:i<qs.length):((qs.take (i+1)).map (kr A B)).filter (told g)=((qs.take i).map (kr A B)).filter (told g)++(if told g (kr A B (el qs i))=true then[kr A B (el qs i)]else[]):=by
 rw[Bh h,BV,List.filter_append,<- F5 h]
 congr 1
 simp only[List.map_cons,List.map_nil,List.filter_cons,List.filter_nil]
theorem Lw{wr d:Ap}{a c:Ar}(h:iU d R 234 a b c)(e:Iz wr d)(g:wr.heap.size<=R)(x y z:Ar):
  iU (((d.setCell ⟨R,0,none⟩ x).setCell ⟨R,1,none⟩ y).setCell ⟨R,2,none⟩ z) R 234 x y z/\Iz wr (((d.setCell ⟨R,0,none⟩ x).setCell ⟨R,1,none⟩ y).setCell ⟨R,2,none⟩ z):=by
 have f:iU (d.setCell ⟨R,0,none⟩ x) R 234 x b c:=by
  unfold iU at h ⊢;simp[World.setCell,Array.getElem?_modify,h]
 have t:Aw (λ i=>i=R) d (((d.setCell ⟨R,0,none⟩ x).setCell ⟨R,1,none⟩ y).setCell ⟨R,2,none⟩ z) :=
  (((Aw.refl (λ i=>i=R) d).setCell (p:=⟨R,0,none⟩) (.inl (show R=R from rfl)) x).setCell (p:=⟨R,1,none⟩) (.inl (show R=R from rfl)) y).setCell (p:=⟨R,2,none⟩) (.inl (show R=R from rfl)) z
 exact⟨(f.put1 y).put2 z,e.trans (t.below e.size (λ i hi q=>by have j:=q;omega))⟩
theorem VH{bo lo:Option Addr}{m d ln lc:Nat}{A B:List En}{b:List Bs}(w:Ap)(ha:gQ gZ w ao A)(I:gQ gZ w bo B)(hl:A.length=n)(hk:B.length=m)(hn:n<=100000)(hm:m<=100000)(hL:Rd w lo b)(ac:b.length=ln)(an:ln<=100000):
  At Am 122 #[Aa ao n c,Aa bo m d,Aa lo ln lc] w λ e w'=>∃v',e=Aj v'/\gM kQ 234 w' w.heap.size v' (jY (jt b) A B)/\Iz w w':=by
 have K:=dM (c:=c) (d:=d) w ha I hl hk hn hm
 have ad:(kj A B).length<=200000:=by
  have h1:=Jp (A.map (·.1)++B.map (·.1));rw[Ax,A4,A4]at h1;unfold kj;omega
 have H:=I6 ha I hl hk hL ac
 obtain⟨qs,Q⟩:=Xa (kj A B)
 rw[Q]at K ad
 have FD:Hid (jY (jt b) A B=(qs.map (kr A B)).filter (told (jt b))):=by show _=_;rw[ZB,Q]
 obtain⟨qn,P⟩:=Xa qs.length
 rw[P]at K ad;have HQ:=Ih P;clear ha I hl hk hL ac Q P;go_enter func122,ntmps122;go_wp2_with fail;refine K.mono ?_;rintro e w1 ⟨a1,c1,rfl,R1,B1⟩
 have F:=I2 R1 B1
 clear R1 B1 K;go_wp2_with fail;go_loopg[7,9] qn (λ k ov v wr=>∃i:Nat,v=Ab Ak i/\i+k=qn/\Hid (gM kQ 234 wr w1.heap.size ov (((qs.take i).map (kr A B)).filter (told (jt b)))/\Iz w1 wr))
 case atStart=>exact⟨0,rfl,by omega,gM.nil _ _ _ _,Ao _ _⟩
 case round =>
  obtain⟨i,rfl,hi,g⟩:=hrel;by_cases ah:i<qn
  ·have id:(i:Int)<(qn:Int):=by omega
   have au:(0:Int)<=(i:Int):=by omega
   obtain⟨b1,C,rfl,t,ab⟩:=F.o.1 (by rw[HQ.o];omega);have S:=Y6 (jt b) A B (qs:=qs) (i:=i) (by rw[HQ.o];exact ah);have cy:=ab i (by rw[HQ.o];omega)
   obtain⟨p,hp⟩:=Xa (el qs i)
   rw[hp]at S cy
   have D:=I2 cy t
   have aa:wr.cell? ⟨b1,C+i,none⟩=some (Ae ⟨p.toArray⟩):=(g.o.2.cell (p:=⟨b1,C+i,none⟩) t).trans cy
   obtain⟨x,hx⟩:=Xa (jr A p)
   obtain⟨y,hy⟩:=Xa (jr B p)
   have ST:Hid (((qs.take (i+1)).map (kr A B)).filter (told (jt b))=((qs.take i).map (kr A B)).filter (told (jt b))++(if((x != y)&&jt b p)=true then[(p,x,y)]else[])):=by
    show _=_;rw[S]
    have:kr A B p=(p,x,y):=by unfold kr;rw[hx,hy]
    rw[this]
    rfl
   have XY:=I2 hx hy
   have aj:((((qs.take i).map (kr A B)).filter (told (jt b)))).length<=200000:=by
    refine AU (CT _ _) ?_;rw[A4];have:=CS i qs;omega
   obtain⟨out,M⟩:=Xa (((qs.take i).map (kr A B)).filter (told (jt b)))
   rw[M]at g ST aj
   have O:=λ(u:Ap) (I:Iz w u)=>Qp (c:=c) p u (H.o.1.below I) H.o.2.2.1 (by omega) x XY.o.1
   have J:=λ(u:Ap) (I:Iz w u)=>Qp (c:=d) p u (H.o.2.1.below I) H.o.2.2.2.1 (by omega) y XY.o.2
   have W0:Hid (Iz w wr.drew):=F.o.2.trans ((g.o.2.mono F.o.2.size).trans (Ao _ wr).drew);clear S hp hx hy M cy t ab
   go_upto_region 6 with fail
   go_cut[10] (λ pv u=>Hid (∃R,pv=.pointer (some ⟨R,0,none⟩)/\iU u R 234 (tx p) (Ab Al (x.toNat:Int)) (Ab Al (y.toNat:Int))/\Iz wr u))
   case first =>
    have ar:=Gy wr ⟨b1,C+i,none⟩ aa
    have j:Hid (∀u:Ap,Iz wr u->Iz w u/\u.cell? ⟨b1,C+i,none⟩=some (Ae ⟨p.toArray⟩)):=by
     intro u hu;exact⟨F.o.2.trans ((g.o.2.trans (hu.mono g.o.2.size)).mono F.o.2.size),((g.o.2.trans (hu.mono g.o.2.size)).cell (p:=⟨b1,C+i,none⟩) D.o.2).trans D.o.1⟩
    have W1:Hid (Iz wr wr.drew):=(Ao _ wr).drew
    have l:=I2 ((gW wr _).drew:Iz wr (wr.alloc (Ai #[Ae ⟨#[]⟩,Ab Al 0,Ab Al 0] 234)).drew) (iU.below (iU.new wr 234 (Ae ⟨#[]⟩) (Ab Al 0) (Ab Al 0)) (Ao _ _).drew:iU (wr.alloc (Ai #[Ae ⟨#[]⟩,Ab Al 0,Ab Al 0] 234)).drew wr.heap.size 234 (Ae ⟨#[]⟩) (Ab Al 0) (Ab Al 0))
    have al:=(j.o _ l.o.1).2
    go_region_held3 (λ u=>u.cell? ⟨b1,C+i,none⟩=some (Ae ⟨p.toArray⟩)) (first | with_reducible exact L | with_reducible exact af | with_reducible exact U | with_reducible exact al | go_keep)
     (first
      | (go_at_call 177;(with_reducible refine(J _ (j.o _ q.o.1).1).mono ?_);rintro e W ⟨rfl,E⟩;have r:=Ih (q.o.1.trans (E.mono q.o.1.size));have L:=(j.o _ r.o).2;have a:=q.o.2.below E;obtain⟨s0,s1,s2⟩:=a.cells;obtain⟨f0,f1,f2⟩:=a.thaw;have Z:Hid _:=a;clear E a)
      | (go_at_call 177;(with_reducible refine(J _ (j.o _ h.o).1).mono ?_);have Y:=XX.o;rintro e W ⟨rfl,E⟩;have r:=Ih (h.o.trans (E.mono h.o.size));have L:=(j.o _ r.o).2;have a:=Y.below E;obtain⟨s0,s1,s2⟩:=a.cells;obtain⟨f0,f1,f2⟩:=a.thaw;have Z:Hid _:=a;clear E a Y)
      | (go_at_call 177;(with_reducible refine(J _ (j.o _ h.o).1).mono ?_);rintro e W ⟨rfl,E⟩;have r:=Ih (h.o.trans (E.mono h.o.size));have L:=(j.o _ r.o).2;have aq:=Gy W ⟨b1,C+i,none⟩ L;clear E)
      | (go_at_call 177;(with_reducible refine(O _ (j.o _ W1.o).1).mono ?_);rintro e G ⟨rfl,V⟩;have h:=Ih (W1.o.trans (V.mono W1.o.size));have U:=(j.o _ h.o).2;have ap:=Gy G ⟨b1,C+i,none⟩ U;have q:=I2 (h.o.trans ((gW G _).mono h.o.size):Iz wr (G.alloc (Ai #[Ae ⟨#[]⟩,Ab Al 0,Ab Al 0] 234))) (iU.new G 234 _ _ _:iU (G.alloc (Ai #[Ae ⟨#[]⟩,Ab Al 0,Ab Al 0] 234)) G.heap.size 234 (Ae ⟨#[]⟩) (Ab Al 0) (Ab Al 0));have af:=(j.o _ q.o.1).2;clear V)
      | (go_at_call 177;(with_reducible refine(O _ (j.o _ l.o.1).1).mono ?_);rintro e G ⟨rfl,V⟩;have h:=Ih (l.o.1.trans (V.mono l.o.1.size));have U:=(j.o _ h.o).2;have XX:=Ih (l.o.2.below V);clear V))
    all_goals
     go_wp2_with fail;go_meet
     first
      | exact⟨_,rfl,iU.new _ 234 _ _ _,r.o.trans ((gW _ _).mono r.o.size)⟩
      | exact⟨_,rfl,(Lw Z.o r.o h.o.size _ _ _).1,(Lw Z.o r.o h.o.size _ _ _).2⟩
      | exact⟨_,rfl,(Lw Z.o r.o (AA _) _ _ _).1,(Lw Z.o r.o (AA _) _ _ _).2⟩
   case rest =>
    obtain⟨R,ak,BX,BW⟩:=hcut.o;subst ak;have WC:=g.o.2.trans (BW.mono g.o.2.size);have WW:=F.o.2.trans (WC.mono F.o.2.size);have ag:wc.cell? ⟨b1,C+i,none⟩=some (Ae ⟨p.toArray⟩):=(WC.cell (p:=⟨b1,C+i,none⟩) D.o.2).trans D.o.1;obtain⟨j0,j1,j2⟩:=BX.cells
    have N:=I4 BX (g.o.1.below BW) WC WW
    clear hcut BX BW WC WW O J W0 aa;by_cases T:x=y
    ·subst T
     have S0:Hid (((qs.take (i+1)).map (kr A B)).filter (told (jt b))=out):=by
      show _=_;rw[ST.o];simp
     go_wp2;go_roundg (gk - 1)
     case measure=>omega
     case rel=>exact⟨i+1,by go_num,by omega,by rw[S0.o];exact N.o.2.1,N.o.2.2.1⟩
    ·have ai:¬(x.toNat:Int)=(y.toNat:Int):=λ e=>T (UInt64.toNat_inj.1 (by omega))
     have am:((x.toNat:Int)==(y.toNat:Int))=false:=by simpa using ai
     obtain⟨f,hf⟩:=Xa (jt b p)
     have ae:=YB (c:=lc) p wc (H.o.2.2.2.2.1.below N.o.2.2.2) H.o.2.2.2.2.2 (by omega) f hf
     have S0:Hid (((qs.take (i+1)).map (kr A B)).filter (told (jt b))=out++(if f=true then[(p,x,y)]else[])):=by
      show _=_
      have I:(x != y)=true:=by simpa using T
      rw[ST.o,I,hf,Bool.true_and]
     clear hf;go_wp2_with fail;refine ae.mono ?_;rintro e w6 ⟨rfl,B6⟩;obtain⟨k0,k1,k2⟩:=(N.o.1.below B6).cells
     have X:Hid (gM kQ 234 w6 w1.heap.size u7 out/\Iz w1 w6):=⟨N.o.2.1.below B6,N.o.2.2.1.trans (B6.mono N.o.2.2.1.size)⟩
     clear B6 ae j0 j1 j2 ag
     cases f with
     | false =>
      have S1:Hid (((qs.take (i+1)).map (kr A B)).filter (told (jt b))=out):=by
       show _=_;rw[S0.o];simp
      go_wp2;go_roundg (gk - 1)
      case measure=>omega
      case rel=>exact⟨i+1,by go_num,by omega,by rw[S1.o];exact X.o.1,X.o.2⟩
     | true =>
      have S1:Hid (((qs.take (i+1)).map (kr A B)).filter (told (jt b))=out++[(p,x,y)]):=by
       show _=_;rw[S0.o];simp
      go_wp2_with(at_builtin;refine BA kQ 234 231 32 (Ag #[Ae ⟨#[]⟩,Ab Al 0,Ab Al 0]) rfl Tryz.info234 underlying231 rfl (.tmp 50) (.tmp 52) rfl w1.heap.size _ out (p,x,y) _ rfl X.o.1 rfl (by omega) (by simp only[maxLen];omega) X.o.2.size _ rfl ?_;intro v8 w8 z s _ _;have G8:=I2 z (X.o.2.trans s);clear z s);go_roundg (gk - 1)
      case measure=>omega
      case rel=>exact⟨i+1,by go_num,by omega,by rw[S1.o];exact G8.o.1,G8.o.2⟩
  ·obtain rfl:i=qn:=by omega
   have e:qs.take i=qs:=Av (by rw[HQ.o];omega);rw[e]at g;clear e;go_wp2;go_ret;exact⟨_,rfl,by rw[FD.o];exact gM.low g.o.1 F.o.2.size,F.o.2.trans (g.o.2.mono F.o.2.size)⟩
structure RE(B:Nat)(u:Ap)(d:Dk)(vf:Ar)(oa:Option Addr)(on oc:Nat)(vr vt:Ar)(st:St):Prop where
 box:GC u B d vf (Aa oa on oc) vr vt
 ob:gQ iH u oa st.objs
theorem RE.next{vf vr vt:Value}{on:Nat}(h:RE B u d vf oa on oc vr vt st)(a:Iz u u'):RE B u' d vf oa on oc vr vt st:=⟨h.box.below a h.box.lt,h.ob.below a⟩
theorem RE.new{on:Nat}(h:gQ iH w oa st.objs):RE w.heap.size (w.alloc (iD d vf (Aa oa on oc) vr vt)) d vf oa on oc vr vt st:=⟨iR.new _ _ _ _ _ _ _ _ _ _,h.below (gW _ _)⟩
theorem fD(u:Ap)(t:Int)(a:Option Addr)(n c:Nat)(dt:Int)(nt:ByteArray):(Instr.field 129 (Ag #[Ab Al t,Aa a n c,Ab Ak dt,Ae nt]) 0).run Am u=.ok (Ab Al t) u:=by kernel_rfl
theorem UL{w:World}{on:Nat}(h:gQ iH w oa st.objs)(hl:st.objs.length=on)(hn:on<=1000000)(hb:∀o∈st.objs,o.body.length<=8192)(x:UInt64):
  At Am 76 #[rm d vf (Aa oa on oc) vr vt,Ab Al (x.toNat:Int)] w λ e w'=>∃v,e=Aj v/\Hid (Own w' w.heap.size v (st.chg (st.com x))/\An w.heap.size w w'):=by
 obtain⟨f,z⟩:=Xa w.heap.size
 obtain⟨Y,E⟩:=Xb (w.alloc (iD d vf (Aa oa on oc) vr vt))
 obtain⟨cm,O⟩:=Xa (st.com x)
 have R0:RE f Y d vf oa on oc vr vt st:=by rw[E,<- z];exact RE.new h
 have B0:An f w Y:=by rw[E,<- z];exact gW _ _
 have H:=I5 hl hb z B0 R0
 have q:=Tn (vf:=vf) (d:=d) (vr:=vr) (vt:=vt) (oc:=oc) R0.ob hl hn hb x cm O;rw[z,O];obtain⟨k0,k1,k2,k3,k4,k5,k6,k7,k8⟩:=R0.box.cells;clear h hl hb R0 B0 O;go_enter func76,ntmps76
 go_upto_region 1 with fail
 rw[<- E];clear E z;go_wp2_with fail;refine q.mono ?_;rintro e w1 ⟨pa,pc,rfl,J1⟩;clear q k0 k1 k2 k3 k4 k5 k6 k7 k8
 obtain⟨pn,U⟩:=Xa cm.ps.length
 obtain⟨C,V⟩:=Xa cm.tree
 rw[U,V]
 obtain⟨b,s⟩:=Xb (w1.alloc (Ai #[Ab Al (C.toNat:Int),Aa pa pn pc,Ab Ak cm.date,tx cm.note] 129))
 obtain⟨Z,hZ⟩:=Xa w1.heap.size
 have D:b.heap[Z]? = some (Ai #[Ab Al (C.toNat:Int),Aa pa pn pc,Ab Ak cm.date,tx cm.note] 129 (0,0)):=by rw[s,<- hZ];exact heap_alloc_new _ _
 have W:Hid (cm.ps.length=pn/\cm.tree=C/\gQ gR b pa cm.ps/\An Y.heap.size Y b/\b.heap[Z]? = some (Ai #[Ab Al (C.toNat:Int),Aa pa pn pc,Ab Ak cm.date,tx cm.note] 129 (0,0))):=by
  refine⟨U,V,?_,?_,D⟩;rw[s];exact J1.o.1.below (gW _ _);rw[s];exact J1.o.2.2.trans ((gW _ _).mono J1.o.2.2.size)
 have J:Hid (∀u,An b.heap.size b u->RE f u d vf oa on oc vr vt st/\u.cell? ⟨Z,0,none⟩=some (Ab Al (C.toNat:Int))/\u.cell? ⟨Z,1,none⟩=some (Aa pa pn pc)/\gQ gR u pa cm.ps/\An f w u):=by
  intro u B;have ab:u.heap[Z]? = some (Ai #[Ab Al (C.toNat:Int),Aa pa pn pc,Ab Ak cm.date,tx cm.note] 129 (0,0)):=(B.block Z (Array.getElem?_eq_some_iff.1 D).1).trans D;have b2:=W.o.2.2.2.1;have b3:=b2.trans (B.mono b2.size);refine⟨H.o.2.2.2.2.next b3,by simp[World.cell?,ab],by simp[World.cell?,ab],W.o.2.2.1.below B,H.o.2.2.2.1.trans (b3.mono ?_)⟩;have:=H.o.2.2.2.1.size;have:=H.o.2.2.1;omega
 have z1:=(J.o b (Ao _ _)).2.2.1;clear J1 U V D
 go_upto_region 3 with fail
 rw[<- s];clear s hZ
 go_upto_if 16 with fail
 go_cut[6] (λ wv u=>∃a n c,wv=Aa a n c/\Hid (gQ gZ u a (st.was cm)/\(st.was cm).length=n/\An b.heap.size b u))
 case first =>
  cases m:cm.ps with
  | nil =>
   have p0:pn=0:=by rw[<- W.o.1,m];rfl
   subst p0
   have hw:st.was cm=[]:=by unfold St.was;rw[m]
   have l:Hid (gQ gZ b none (st.was cm)/\(st.was cm).length=0/\An b.heap.size b b):=by
    rw[hw];exact⟨gQ.nil _ _ _,rfl,Ao _ _⟩
   clear hw m;go_wp2_with fail;go_meet;exact⟨none,0,0,rfl,l.o⟩
  | cons p t =>
   have p0:(0:Int)<(pn:Int):=by
    rw[<- W.o.1,m,A2];omega
   have p1:0<pn:=by omega
   have g:cm.ps[0]? = some p:=by rw[m];rfl
   obtain⟨pb,off,rfl,_⟩:=W.o.2.2.1.some_of g
   have hw:st.was cm=st.files (st.com p).tree:=by unfold St.was;rw[m]
   have HW:=Ih hw;obtain⟨K,N⟩:=Xa (st.com p);obtain⟨G,A⟩:=Xa K.tree;rw[N,A]at HW
   have q:∀u,An b.heap.size b u->_:=λ u B=>Tn (vf:=vf) (d:=d) (vr:=vr) (vt:=vt) (oc:=oc) (J.o u B).1.ob H.o.1 hn H.o.2.1 p K N
   have y:∀u,An b.heap.size b u->_:=λ u B=>PD (vf:=vf) (d:=d) (vr:=vr) (vt:=vt) (oc:=oc) (J.o u B).1.ob H.o.1 hn H.o.2.1 G
   obtain⟨F,M⟩:∃F:ByteArray,(⟨K.note.toArray⟩:ByteArray)=F:=⟨_,rfl⟩
   rw[A,show tx K.note=Ae F by rw[<- M]]at q;have QG:Hid _:=q;have QF:Hid _:=y
   have KZ:Hid (∀u,An b.heap.size b u->u.cell? ⟨f,0,none⟩=some vf/\u.cell? ⟨f,1,none⟩=some (Ab Ak (d.writes:Int))/\u.cell? ⟨f,2,none⟩=some (Ad d.armed)/\u.cell? ⟨f,3,none⟩=some (Ad d.dead)/\u.cell? ⟨f,4,none⟩=some (Ab Ak (d.after:Int))/\u.cell? ⟨f,5,none⟩=some (Ab Ak (d.keep:Int))/\u.cell? ⟨f,6,none⟩=some (Aa oa on oc)/\u.cell? ⟨f,7,none⟩=some vr/\u.cell? ⟨f,8,none⟩=some vt/\u.cell? ⟨Z,1,none⟩=some (Aa (some ⟨pb,off,none⟩) pn pc)/\u.cell? ⟨pb,off,none⟩=some (Ab Al (p.toNat:Int))):=by
    intro u B;obtain⟨k0,k1,k2,k3,k4,k5,k6,k7,k8⟩:=(J.o u B).1.box.cells;have:=((J.o u B).2.2.2.1.nums g).2;rw[Nat.add_zero]at this;exact⟨k0,k1,k2,k3,k4,k5,k6,k7,k8,(J.o u B).2.2.1,this⟩
   clear g hw m N A q y z1 M;have z1:=(J.o b (Ao _ _)).2.2.1;go_upto_region 4 with fail;clear z1;have V0:Hid (An b.heap.size b b.drew):=(Ao _ b).drew;have af:=KZ.o _ V0.o
   have aj:=λ(u:World) (qa:Option Addr) (qc:Nat)=>fD u (G.toNat:Int) qa K.ps.length qc K.date F
   go_region_held3 (λ u=>u.cell? ⟨f,0,none⟩=some vf/\u.cell? ⟨f,1,none⟩=some (Ab Ak (d.writes:Int))/\u.cell? ⟨f,2,none⟩=some (Ad d.armed)/\u.cell? ⟨f,3,none⟩=some (Ad d.dead)/\u.cell? ⟨f,4,none⟩=some (Ab Ak (d.after:Int))/\u.cell? ⟨f,5,none⟩=some (Ab Ak (d.keep:Int))/\u.cell? ⟨f,6,none⟩=some (Aa oa on oc)/\u.cell? ⟨f,7,none⟩=some vr/\u.cell? ⟨f,8,none⟩=some vt/\u.cell? ⟨Z,1,none⟩=some (Aa (some ⟨pb,off,none⟩) pn pc)/\u.cell? ⟨pb,off,none⟩=some (Ab Al (p.toNat:Int)))
    (first | with_reducible exact af | with_reducible exact ag | with_reducible exact ah)
    (first
     | (go_at_call 121;(with_reducible refine(QF.o _ V1.o).mono ?_);rintro e j ⟨fv,rfl,X2⟩;have V2:=I2 (V1.o.trans (X2.o.2.mono V1.o.size)) (X2.o.1.low (Bw _):gM gZ 203 j 0 fv (st.files G));have ah:=KZ.o _ V2.o.1)
     | (go_at_call 74;(with_reducible refine(QG.o _ V0.o).mono ?_);rintro e w4 ⟨qa,qc,rfl,X1⟩;have V1:=Ih (V0.o.trans (X1.o.2.2.mono V0.o.size));have ag:=KZ.o _ V1.o))
   obtain⟨fa,fc,rfl,_,_,f3,_⟩:=V2.o.2.form
   have l:Hid (gQ gZ j fa (st.was cm)/\(st.was cm).length=(st.files G).length/\An b.heap.size b j):=by
    rw[HW.o];exact⟨f3,rfl,V2.o.1⟩
   clear V0 V1 V2 af ag ah X1 X2 f3 QG QF KZ aj;go_wp2_with fail;go_meet;exact⟨fa,_,fc,rfl,l.o⟩
 case rest =>
  obtain⟨a,n,c,rfl,HA⟩:=hcut;clear z1;have KU:=J.o wc HA.o.2.2;obtain⟨k0,k1,k2,k3,k4,k5,k6,k7,k8⟩:=KU.1.box.cells;have z0:=KU.2.1;have y:=PD (vf:=vf) (d:=d) (vr:=vr) (vt:=vt) (oc:=oc) KU.1.ob H.o.1 hn H.o.2.1 C;have BU:=Ih KU.2.2.2.2;clear KU;go_wp2_with fail;refine y.mono ?_;rintro e w4 ⟨fv,rfl,J4⟩;obtain⟨fa,fc,rfl,f1,f2,f3,_⟩:=J4.o.1.form;obtain⟨fn,S⟩:=Xa ((st.files C).length);rw[S]at f1 ⊢;have Q:=VH (c:=c) (d:=fc) (lc:=0) w4 (HA.o.1.below J4.o.2) f3 HA.o.2.1 S (by have:=(Jz st cm).1;have:=HA.o.2.1;omega) (by have:=Mn st C;omega) (Rd.nil w4 none) rfl (by decide);have al:=H.o.2.2.1;have B4:Hid (An f w w4):=BU.o.trans (J4.o.2.mono (by have:=BU.o.size;omega));obtain⟨cs,P⟩:=Xa (jY (jt []) (st.was cm) (st.files C));rw[P]at Q
  have aa:Hid (st.chg cm=cs.map (·.1)):=by
   show St.chg _ _=_;unfold St.chg;rw[W.o.2.1,P]
  clear y J4 f1 f2 f3 S P z0 k0 k1 k2 k3 k4 k5 k6 k7 k8 al;go_wp2_with fail;refine Q.mono ?_;rintro e j ⟨dv,rfl,O5,b5⟩;obtain⟨da,dc,rfl,_,_,d3,_⟩:=O5.form;obtain⟨dn,R⟩:=Xa cs.length;rw[R]
  have am:dn<=128:=by
   have:=(Kg st cm).1;rw[aa.o,A4]at this;omega
  have X:=I3 d3 R (B4.o.trans (b5.mono (by have:=B4.o.size;have:=H.o.2.2.1;omega)):An f w j)
  clear Q O5 b5 d3 R B4;go_wp2_with fail;go_loopg[8,9] dn (λ k bv iv wr=>∃i:Nat,iv=Ab Ak i/\i+k=dn/\Hid (Own wr j.heap.size bv ((cs.take i).map (·.1))/\An j.heap.size j wr))
  case atStart=>exact⟨0,rfl,by omega,Own.nil _ _,Ao _ _⟩
  case round =>
   obtain⟨i,rfl,hi,I⟩:=hrel;by_cases ak:i<dn
   have id:(i:Int)<(dn:Int):=by omega
   have an:(0:Int)<=(i:Int):=by omega
   obtain⟨x,g⟩:∃x,cs[i]? = some x:=⟨_,List.getElem?_eq_getElem (by rw[X.o.2.1];exact ak)⟩
   obtain⟨pb,off,rfl,_⟩:=X.o.1.some_of g;obtain⟨c0,c1,K⟩:=(X.o.1.below I.o.2).chgs4 g
   have r:(cs.take (i+1)).map (·.1)=(cs.take i).map (·.1)++[x.1]:=by
    rw[AW,g,BV]
    rfl
   obtain⟨xp,xo,xn⟩:=x;simp only at c0 r;have ai:=c0;have HT:=Ih r;have hO:=I.o.1;have ae:=I.o.2.size
   have L:((cs.take i).map (·.1)).length<=4000000:=by rw[A4,AE];omega
   clear g r c0 c1 K;go_wp2_with(at_builtin;refine Hl rfl (.tmp 38) (.tmp 44) rfl j.heap.size _ _ xp _ rfl hO rfl L ae ?_;intro v7 w7 ad ac)
   have l:Hid (Own w7 j.heap.size v7 ((cs.take (i+1)).map (·.1))/\An j.heap.size j w7):=by
    rw[HT.o];exact⟨ad,I.o.2.trans ac⟩
   clear ad ac hO ae L ai;go_wp2_with fail;go_roundg (gk - 1)
   case measure=>omega
   case rel=>exact⟨i+1,by go_num,by omega,l.o⟩
   obtain rfl:i=dn:=by omega
   have id:¬(i:Int)<(i:Int):=by omega
   have r:cs.take i=cs:=Av (by rw[X.o.2.1];exact AA _);rw[r,<- aa.o]at I
   have T:f<=j.heap.size:=by
    have h1:=X.o.2.2.size;have h2:=H.o.2.2.1;omega
   have l:=mr (And.intro (Jb I.o.1 T) (X.o.2.2.trans (I.o.2.mono T)));clear r I T;go_wp2;go_ret;exact⟨_,rfl,l.o⟩
section
variable {w:World}{d:Dk}{st:St}{oa:Option Addr}{on oc:Nat}{vf vr vt:Value}
theorem Xk(h:gQ iH w oa st.objs)(hl:st.objs.length=on)(hn:on<=1000000)(hb:∀o∈st.objs,o.body.length<=8192)(x:UInt64)(cm:Cm)(F:st.com x=cm):
  At Am 74 #[rm d vf (Aa oa on oc) vr vt,Ab Al (x.toNat:Int)] w λ e w'=>∃(pa:Option Addr) (pc:Nat),e=Aj (Ag #[Ab Al (cm.tree.toNat:Int),Aa pa cm.ps.length pc,Ab Ak cm.date,tx cm.note])/\Hid (gQ gR w' pa cm.ps/\cm.ps.length<=pc/\Iz w w'/\E2 w pa cm.ps.length):=by
 obtain⟨W,hW⟩:=Xa ((w.alloc (iD d vf (Aa oa on oc) vr vt)).alloc (Ai #[Ab Al 0,Aa none 0 0,Ab Ak 0,Ae ⟨#[]⟩] 129))
 have L:Iz w W:=by rw[<- hW];exact lE _ _ _
 have n9:GC W w.heap.size d vf (Aa oa on oc) vr vt:=by rw[<- hW];exact(iR.new w _ _ _ _ _ _ _ _ _).below (gW _ _) (by simp)
 have bx:ib W (w.heap.size+1) 129 (Ab Al 0) (Aa none 0 0) (Ab Ak 0) (Ae ⟨#[]⟩):=by
  rw[<- hW];have:=ib.new (w.alloc (iD d vf (Aa oa on oc) vr vt)) 129 (Ab Al 0) (Aa none 0 0) (Ab Ak 0) (Ae ⟨#[]⟩)
  rwa [World.size_alloc]at this
 obtain⟨M,N,O,P,Q,R,S,T,U⟩:=n9.cells
 have s:=Ke (d:=d) (oc:=oc) (vf:=vf) (vr:=vr) (vt:=vt) (h.below L) hl hn 3 x
 have c:=I7 L (h.below L) n9 hl hb bx F
 obtain⟨xi,H⟩:∃xi:Int,(x.toNat:Int)=xi:=⟨_,rfl⟩
 rw[H]at s ⊢;clear h hl hb H L n9 bx F;go_enter func74,ntmps74;go_wp2_with fail;refine s.mono ?_;rintro e w1 ⟨r,rfl,Y,X⟩
 have j:=I2 (c.o.1.trans (X.mono c.o.1.size)) X
 have a:=c.o.2.2.2.2.2.1.below j.o.2 c.o.2.2.2.2.2.1.lt;clear X s
 rcases Y.o with⟨C,q2⟩ | ⟨i,q2,bs,I,C⟩
 ·have ec:cm=lA:=by
   rw[<- c.o.2.2.2.2.2.2];unfold St.com;rw[C]
   rfl
  subst q2 ec;obtain⟨x0,x1,x2,x3⟩:=a.cells;obtain⟨f0,f1,f2,f3⟩:=a.thaw;have lt:=a.lt;have f:=li (j.o.1.trans ((GR w1 (w.heap.size+1) (Ab Al 0) (Aa none 0 0) (Ab Ak 0) (Ae ⟨#[]⟩)).below j.o.1.size (λ k hk q=>by have q':=q;omega)));clear C M N O P Q R S T U a Y;go_wp2;refine As (v:=Ag #[Ab Al 0,Aa none 0 0,Ab Ak 0,Ae ⟨#[]⟩]) ?_ rfl ⟨none,0,rfl,gQ.nil _ _ _,AA _,f.o,E2.none _ _⟩;simp[results,Tryz.f74];go_simp
 ·have ec:st.com x=(jF bs).getD lA:=by
   unfold St.com;rw[C]
   rfl
  have E:=c.o.2.2.2.2.1 _ (KA C);simp only at E
  have i0:(0:Int)<=(i:Int):=by omega
  have il:i<on:=by
   rw[<- c.o.2.2.2.1]
   rcases Nat.lt_or_ge i st.objs.length with q|q
   ·exact q
   ·rw[List.getElem?_eq_none q]at I;cases I
  have aa:(i:Int)<(on:Int):=by omega
  have r9:=c.o.2.2.1.below j.o.2 c.o.2.2.1.lt;clear M N O P Q R S T U;obtain⟨M,N,O,P,Q,R,S,T,U⟩:=r9.cells;obtain⟨b1,off,rfl,_⟩:=(c.o.2.1.below j.o.2).some_of I;obtain⟨_,o0,o1,o9⟩:=(c.o.2.1.below j.o.2).obs I
  obtain⟨b,n⟩:∃b:ByteArray,(⟨bs.toArray⟩:ByteArray)=b:=⟨_,rfl⟩
  have o2:w1.cell? ⟨b1,off+i*3+2,none⟩=some (Ae b):=by rw[<- n];exact o9
  have y:=MF bs (by omega) w1;rw[show tx bs=Ae b by rw[<- n]]at y
  have EB:Hid (cm=(jF bs).getD lA):=by rw[<- c.o.2.2.2.2.2.2];exact ec
  have B:=li a;subst q2;clear C I ec o0 o1 o9 r9 E n a Y;go_wp2_with fail;refine y.mono ?_;rintro e V ⟨c2,er,pa,pc,rfl,J⟩
  have ec:cm=c2:=by rw[EB.o];exact J.o.1.com
  subst ec
  obtain⟨m,z⟩:∃m:Int,(cm.tree.toNat:Int)=m:=⟨_,rfl⟩
  obtain⟨pn,g⟩:=Xa cm.ps.length
  obtain⟨dt,t⟩:=Xa cm.date
  obtain⟨nt,u⟩:∃nt:ByteArray,(⟨cm.note.toArray⟩:ByteArray)=nt:=⟨_,rfl⟩
  rw[z,g,t,show tx cm.note=Ae nt by rw[<- u]]
  obtain⟨wA,G⟩:=Xa (V.alloc (Ai #[Ab Al m,Aa pa pn pc,Ab Ak dt,Ae nt] 129))
  have K:Iz V wA:=by rw[<- G];exact gW _ _
  have D:ib wA V.heap.size 129 (Ab Al m) (Aa pa pn pc) (Ab Ak dt) (Ae nt):=by rw[<- G];exact ib.new _ _ _ _ _ _
  have l:=(B.o.below J.o.2.2.2.1 B.o.lt).below K (B.o.below J.o.2.2.2.1 B.o.lt).lt;obtain⟨y0,y1,y2,y3⟩:=D.cells;obtain⟨x0,x1,x2,x3⟩:=l.cells;obtain⟨f0,f1,f2,f3⟩:=l.thaw;have lt:=l.lt;have ht:=GR wA (w.heap.size+1) (Ab Al m) (Aa pa pn pc) (Ab Ak dt) (Ae nt);have bel:Iz w wA:=(j.o.1.trans (J.o.2.2.2.1.mono j.o.1.size)).trans (K.mono (AU j.o.1.size J.o.2.2.2.1.size))
  have NR:Hid (E2 w pa pn):=λ Z p hp=>AU j.o.1.size (J.o.2.2.2.2 (by rw[g];exact Z) p hp)
  have f:Hid (gQ gR ((((wA.setCell ⟨w.heap.size+1,0,none⟩ (Ab Al m)).setCell ⟨w.heap.size+1,1,none⟩ (Aa pa pn pc)).setCell ⟨w.heap.size+1,2,none⟩ (Ab Ak dt)).setCell ⟨w.heap.size+1,3,none⟩ (Ae nt)) pa cm.ps/\pn<=pc/\Iz w ((((wA.setCell ⟨w.heap.size+1,0,none⟩ (Ab Al m)).setCell ⟨w.heap.size+1,1,none⟩ (Aa pa pn pc)).setCell ⟨w.heap.size+1,2,none⟩ (Ab Ak dt)).setCell ⟨w.heap.size+1,3,none⟩ (Ae nt))):=by
   refine⟨(J.o.2.1.below K).turned ht (λ Z p hp q=>?_),by rw[<- g];exact J.o.2.2.1,bel.trans (ht.below bel.size (λ k hk q=>by have q':=q;omega))⟩;have h1:=J.o.2.2.2.2 Z p hp;have h2:=B.o.lt;have q':=q;omega
  have A:=I4 z g t u
  clear z g t u K D l J y EB M N O P Q R S T U o2 ht bel B;go_wp2;refine As (v:=Ag #[Ab Al m,Aa pa pn pc,Ab Ak dt,Ae nt]) ?_ rfl ?_
  ·simp[results,Tryz.f74];go_simp
  ·refine⟨pa,pc,?_,f.o.1,by rw[A.o.2.1];exact f.o.2.1,f.o.2.2,by rw[A.o.2.1];exact NR.o⟩;rw[A.o.1,A.o.2.1,A.o.2.2.1,<- A.o.2.2.2]
end
theorem Vx{l:List Bs}(h:i<l.length)(f:Bs->List α):(l.take (i+1)).flatMap f=(l.take i).flatMap f++f (el l i):=by
 rw[Bh h,List.flatMap_append,<- F5 h];simp
theorem PK(f:Bs->List α)(n:Nat)(h:∀p,(f p).length<=n)(l:List Bs)(i:Nat):((l.take i).flatMap f).length<=n*i:=by
 have key:∀m:List Bs,(m.flatMap f).length<=n*m.length:=by
  intro m
  induction m with
  | nil=>simp
  | cons x t c =>
   have:=h x;simp only[List.flatMap_cons,Ax,A2,Nat.mul_add,Nat.mul_one];omega
 have a:=key (l.take i);have b:=Nat.mul_le_mul_left n (CS i l);omega
theorem dN{a:List Int}(z:Int)(w:Ap)(l:gQ encI w ao a)(p:a.length=n)(t:n<=1000000000)(f:Bool)(m:a.contains z=f):
  At Am 120 #[Aa ao n c,Ab Ak z] w λ e w'=>e=Aj (Ad f)/\w'=w:=by
 have H:=I3 l p m
 clear l p m;go_enter func120,ntmps120;go_wp2_with fail;go_loopg[5] n (λ k v wr=>∃i:Nat,v=Ab Ak i/\i+k=n/\wr=w/\Hid ((a.take i).contains z=false))
 case atStart=>exact⟨0,rfl,by omega,rfl,rfl⟩
 case round =>
  obtain⟨i,rfl,hi,rfl,j⟩:=hrel;by_cases h:i<n
  have id:(i:Int)<(n:Int):=by omega
  obtain⟨y,g⟩:=BK H.o.2.1 h;obtain⟨b,off,rfl,q⟩:=H.o.1.some_of g;have r:=H.o.1.ints g;have Y:=Ih g;clear g;by_cases d:y=z;subst d;go_wp2;go_ret
  have e:f=true:=by
   rw[<- H.o.2.2,List.contains_iff_mem];exact List.mem_of_getElem? Y.o
  exact⟨by rw[e];rfl,rfl⟩
  have s:(y==z)=false:=by simpa using d
  go_wp2;go_roundg (gk - 1)
  case measure=>omega
  case rel =>
   refine⟨i+1,by go_num,by omega,rfl,?_⟩;show _=_;rw[Ol Y.o,Gb,List.any_append,<- Gb,j.o];simp[Ne.symm d]
  obtain rfl:i=n:=by omega
  have e:=j.o;rw[Av (by rw[H.o.2.1];omega),H.o.2.2]at e;subst e;go_wp2;go_ret;exact⟨rfl,rfl⟩
theorem Wq{ps:List Bs}(m:Int)(N:m<=9223372036854775807)(w:Ap)(I:Rd w ao ps)(K:ps.length=n)(Q:n<=4000000)(j:∀x∈ps,x.length<=9223372036854775807):
  At Am 119 #[Aa ao n c,Ab Ak m] w λ e w'=>∃v',e=Aj v'/\gM encI 3 w' w.heap.size v' (ps.flatMap λ p=>iT p m)/\Iz w w':=by
 have H:=I3 I K j
 clear I K j;go_enter func119,ntmps119;go_wp2_with fail;go_loopg[5,6] n (λ k O v wr=>∃i:Nat,v=Ab Ak i/\i+k=n/\Hid (gM encI 3 wr w.heap.size O ((ps.take i).flatMap λ p=>iT p m)/\Iz w wr))
 case atStart=>exact⟨0,rfl,by omega,gM.nil _ _ _ _,Ao _ _⟩
 case round =>
  obtain⟨i,rfl,hi,a⟩:=hrel;by_cases r:i<n
  have id:(i:Int)<(n:Int):=by omega
  obtain⟨b,off,rfl,B,J⟩:=H.o.1 (by rw[H.o.2.1];omega);obtain⟨x,j⟩:=Xa (el ps i);have A:=J i (by rw[H.o.2.1];omega);rw[j]at A
  have C:x.length<=9223372036854775807:=by rw[<- j];exact H.o.2.2 _ (Iy (by rw[H.o.2.1];exact r))
  have P:wr.cell? ⟨b,off+i,none⟩=some (Ae ⟨x.toArray⟩):=(a.o.2.cell B).trans A;have h:=Vx (l:=ps) (i:=i) (by rw[H.o.2.1];exact r) (λ p=>iT p m);rw[j]at h;have z:Hid _:=h;have g:=V9 x m N C wr;have t:=I2 (PK _ _ (λ p=>LK p m) _ _:((ps.take i).flatMap λ p=>iT p m).length<=3*i) (LK x m);obtain⟨G,q⟩:=Xa (((ps.take i).flatMap λ p=>iT p m));obtain⟨L,s⟩:=Xa (iT x m);rw[q]at a t z;rw[s]at t z g;clear J A j h q s;go_wp2_with fail;refine g.mono ?_;rintro e D ⟨R,rfl,E,y⟩;obtain⟨a2,M,rfl,_,_,F,_⟩:=E.form;have u:=I3 F (a.o.1.below y) (a.o.2.trans (y.mono a.o.2.size))
  clear E y F g;go_wp2_with(at_builtin;refine IN encI 3 23 8 (Ab Ak 0) rfl Tryz.info3 underlying23 rfl (.tmp 13) (.tmp 19) rfl w.heap.size _ G L a2 _ M rfl u.o.2.1 rfl u.o.1 rfl (by have:=t.o;omega) (by have:=t.o;simp only[maxLen];omega) u.o.2.2.size ?_;intro v4 S f d _ _);go_roundg (gk - 1)
  case measure=>omega
  case rel=>exact⟨i+1,by go_num,by omega,by rw[z.o];exact f,u.o.2.2.trans d⟩
  obtain rfl:i=n:=by omega
  have e:ps.take i=ps:=Av (by rw[H.o.2.1];omega);rw[e]at a;go_wp2;go_ret;exact⟨_,rfl,a.o.1,a.o.2⟩
theorem ZP{p:Bs}(h:gV p=true):0<(parts p).length:=by
 rw[parts,AC h,Ax];simp
theorem O9(w:Ap)(ha:Rd w ao a)(hl:a.length=n)(hn:n<=9000):
  At Am 118 #[Aa ao n c] w λ e w'=>∃P c',e=Aj (.tuple #[Aa P (jP a).length c',Ab Ak (jR a:Int)])/\Rd w' P (jP a)/\Iz w w':=by
 have H:=I2 ha hl
 clear ha hl;go_enter func118,ntmps118;go_wp2_with fail
 go_loopg[4,5,6] n (λ k rv av v wr=>∃(i:Nat) (Q:Option Addr) (rn rc:Nat) (I:Option Addr) (M ac:Nat),v=Ab Ak i/\rv=Aa Q rn rc/\av=Aa I M ac/\i+k=n /\
  Hid ((kE ((a.take i).filter gV)).length=rn/\Rd wr Q (kE ((a.take i).filter gV))/\(kE ((a.take i).flatMap parts)).length=M/\Rd wr I (kE ((a.take i).flatMap parts))/\Iz w wr))
 case atStart=>exact⟨0,none,0,0,none,0,0,rfl,rfl,rfl,by omega,rfl,Rd.nil _ _,rfl,Rd.nil _ _,Ao _ _⟩
 case round =>
  obtain⟨i,Q,rn,rc,I,M,ac,rfl,rfl,rfl,hi,d⟩:=hrel
  obtain⟨go,J⟩:=Xb gk
  rw[<- J]at hi;have GO:=Ih J;clear J;by_cases Y:i<n
  ·have id:(i:Int)<(n:Int):=by omega
   obtain⟨b,off,rfl,ab,hc⟩:=H.o.1 (by rw[H.o.2];omega)
   obtain⟨x,hx⟩:=Xa (el a i)
   have c0:=hc i (by rw[H.o.2];omega);rw[hx]at c0;have c1:wr.cell? ⟨b,off+i,none⟩=some (Ae ⟨x.toArray⟩):=(d.o.2.2.2.2.cell ab).trans c0;have CX:=Ih c0;have z:=TN (l:=a) (i:=i) (by rw[H.o.2];exact Y) gV;have F:=NU (l:=a) (i:=i) (by rw[H.o.2];exact Y) parts;rw[hx]at z F
   have au:rn<=9000:=by
    rw[<- d.o.1];have U:=Jp ((a.take i).filter gV);have h2:=CT gV (a.take i);have h3:=CS i a;omega
   have ak:((a.take i).flatMap parts).length<=927000:=by
    have U:=Of (a.take i);have h2:=CS i a;omega
   obtain⟨T,X⟩:=Xa ((a.take i).filter gV)
   obtain⟨B,W⟩:=Xa ((a.take i).flatMap parts)
   rw[X]at d z;rw[W]at d F ak;have E:=dO ⟨x.toArray⟩ wr;have ae:=NA x;have q:gV x=true->0<(parts x).length:=ZP;have t:gV x=false->parts x=[]:=TA
   obtain⟨g,hg⟩:=Xa (gV x)
   rw[hg]at z q t
   have ST:Hid ((a.take (i+1)).filter gV=T++(if g then[x]else[])/\(a.take (i+1)).flatMap parts=B++parts x):=⟨z,F⟩
   have S:parts (⟨x.toArray⟩:ByteArray).data.toList=parts x:=rfl;rw[S]at E
   obtain⟨qs,ag⟩:=Xa (parts x)
   rw[ag]at E ae q t ST;clear hc c0 hx z F X W hg S ag;go_wp2_with fail;refine E.mono ?_;rintro e N ⟨v2,rfl,O2,B2⟩;obtain⟨a2,c2,rfl,_,_,R2⟩:=O2.form
   obtain⟨qn,L⟩:=Xa qs.length
   rw[L]at ae q ⊢
   have p:Hid (Rd N a2 qs/\qs.length=qn/\Rd N Q (kE T)/\Rd N I (kE B)/\Iz w N):=⟨R2,L,d.o.2.1.below B2,d.o.2.2.2.1.below B2,d.o.2.2.2.2.trans (B2.mono d.o.2.2.2.2.size)⟩
   have R:N.cell? ⟨b,off+i,none⟩=some (Ae ⟨x.toArray⟩):=(p.o.2.2.2.2.cell ab).trans CX.o;clear O2 B2 R2 E L
   go_upto_if 22 with fail
   go_cut[4] (λ rv u=>∃(h:Option Addr) (G A:Nat),rv=Aa h G A/\Hid (Rd u a2 qs/\qs.length=qn/\Rd u h (kE (T++if g then[x]else[]))/\(kE (T++if g then[x]else[])).length=G/\Rd u I (kE B)/\(kE B).length=M/\Iz w u))
   case first =>
    cases g with
    | true =>
     have af:=q rfl
     have am:(0:Int)<(qn:Int):=by omega
     have m:=Mc (c:=rc) x N p.o.2.2.1 d.o.1 (by omega);rw[<- Mo]at m;go_wp2_with fail;refine m.mono ?_;rintro e w3 ⟨h,A,rfl,R3,B3⟩
     have f:=I6 (p.o.1.below B3) p.o.2.1 R3 (p.o.2.2.2.1.below B3) d.o.2.2.1 (p.o.2.2.2.2.trans (B3.mono p.o.2.2.2.2.size))
     clear m R3 B3 c1 R q t;go_wp2_with fail;go_meet;exact⟨h,_,A,rfl,f.o.1,f.o.2.1,f.o.2.2.1,rfl,f.o.2.2.2⟩
    | false =>
     have af:=t rfl;have K:=p.o.2.1;rw[af]at K;have al:=K.symm;subst al;clear K;go_wp2_with fail;go_meet;exact⟨Q,rn,rc,rfl,p.o.1,p.o.2.1,by simpa using p.o.2.2.1,by simpa using d.o.1,p.o.2.2.2.1,d.o.2.2.1,p.o.2.2.2.2⟩
   case rest =>
    obtain⟨h,G,A,rfl,f⟩:=hcut;clear c1 R q t;go_wp2_with fail;go_loopg[5,8] qn (λ k av v wr=>∃(j:Nat) (C:Option Addr) (s D:Nat),v=Ab Ak j/\av=Aa C s D/\j+k=qn/\Hid ((kE (B++qs.take j)).length=s/\Rd wr C (kE (B++qs.take j))/\Iz wc wr))
    case atStart=>exact⟨0,I,M,ac,rfl,rfl,by omega,by simpa using f.o.2.2.2.2.2.1,by simpa using f.o.2.2.2.2.1,Ao _ _⟩
    case round =>
     obtain⟨j,C,s,D,rfl,rfl,hj,r⟩:=hrel;by_cases aj:j<qn
     ·have jd:(j:Int)<(qn:Int):=by omega
      obtain⟨b2,o2,rfl,ad,V⟩:=f.o.1 (by rw[f.o.2.1];omega)
      obtain⟨y,hy⟩:=Xa (el qs j)
      have cy:=V j (by rw[f.o.2.1];omega);rw[hy]at cy;have ap:wr.cell? ⟨b2,o2+j,none⟩=some (Ae ⟨y.toArray⟩):=(r.o.2.2.cell ad).trans cy
      have ah:qs.take (j+1)=qs.take j++[y]:=by
       have Z:j<qs.length:=by rw[f.o.2.1];exact aj
       rw[Bh Z,<- hy,F5 Z]
      have aq:s<=927103:=by
       rw[<- r.o.1];have U:=Jp (B++qs.take j);have h2:=CS j qs;rw[Ax]at U;omega
      have m:=Mc (c:=D) y wr r.o.2.1 r.o.1 (by omega);rw[<- Mo,List.append_assoc,<- ah]at m;clear V cy hy ah;go_wp2_with fail;refine m.mono ?_;rintro e w5 ⟨O,ai,rfl,R5,B5⟩
      have G5:=I2 R5 (r.o.2.2.trans (B5.mono r.o.2.2.size))
      clear R5 B5 m;go_wp2;go_roundg (gk - 1)
      case measure=>omega
      case rel=>exact⟨j+1,O,_,ai,by go_num,rfl,by omega,rfl,G5.o.1,G5.o.2⟩
     ·obtain rfl:j=qn:=by omega
      have e:qs.take j=qs:=Av (by rw[f.o.2.1];omega);rw[e]at r;clear e;go_wp2;go_roundg (go - 1)
      case measure=>have:=GO.o;omega
      case rel =>
       refine⟨i+1,h,G,A,C,s,D,by go_num,rfl,rfl,by omega,?_⟩;rw[ST.o.1,ST.o.2];exact⟨f.o.2.2.2.1,f.o.2.2.1.below r.o.2.2,r.o.1,r.o.2.1,f.o.2.2.2.2.2.2.trans (r.o.2.2.mono f.o.2.2.2.2.2.2.size)⟩
  ·obtain rfl:i=n:=by omega
   have e:a.take i=a:=Av (by rw[H.o.2];omega);rw[e]at d;clear e;go_wp2;refine As (results_tmp2 rfl _ _ _) rfl ?_;refine⟨I,ac,?_,d.o.2.2.2.1,d.o.2.2.2.2⟩;have U:=d.o.1;have h2:=d.o.2.2.1;unfold jP jR;rw[U,h2]
   rfl
def mO(f:Nat->Bool):Nat->Nat
 | 0=>0
 | s+1=>2*mO f s+(f (7 - s)).toNat
theorem Qx(f:Nat->Bool):∀s,mO f s<2 ^ s
 | 0=>by simp[mO]
 | s+1=>by
  have:=Qx f s;have h:(f (7 - s)).toNat<=1:=Bool.toNat_le _;rw[mO,Nat.pow_succ];omega
theorem fo(f:Nat->Bool):mO f 8=bitsOf f:=by
 simp only[mO,bitsOf,Nat.reduceSub,Nat.sub_zero];omega
theorem fL(f:Nat->Bool){s:Nat}(c:s<8):mO f s<128:=by
 have a:=Qx f s;have b:2 ^ s<=2 ^ 7:=Nat.pow_le_pow_right (by decide) (by omega);omega
theorem fQ(y:UInt8)(u:Int)(h:(y.toNat:Int)=u):(#[Ab .u8 u]:Array Ar)=(gP.cells y).toArray:=by
 rw[<- h]
 rfl
theorem Xx{d:List Bs}(w:Ap)(h:Rd w ao d)(i:d.length=n)(m:n<=9000)(j:8<jR d):
  At Am 75 #[Aa ao n c] w λ e w'=>e=Aj (tx [2])/\Iz w w':=by
 have a:=O9 (c:=c) w h i m
 obtain⟨qs,f⟩:=Xa (jP d)
 obtain⟨pn,b⟩:=Xa (jR d)
 rw[f,b]at a;rw[b]at j
 have k:(8:Int)<(pn:Int):=by omega
 clear h i f b;go_enter func75,ntmps75;go_wp2_with fail;refine a.mono ?_;rintro e w1 ⟨a1,p,rfl,_,g⟩;have G:=Ih g;have l:=Ga (Mg w1 [2] 5 (0,0) #[Ab .u8 2] rfl 1 rfl (by decide));clear g a;go_wp2;go_ret;exact⟨rfl,G.o.trans ((gW w1 _).mono G.o.size)⟩
theorem dY{q:List Bs}(w:Ap)(ha:Rd w ao q)(hl:q.length=n)(hn:n<=9000)(hc:¬8<jR q):
  At Am 75 #[Aa ao n c] w λ e w'=>e=Aj (tx (1::iF (mV q) (nu (jP q).length)))/\Iz w w':=by
 have z:=O9 (c:=c) w ha hl hn;have X:=Oe q
 have R:∀x∈jP q,x.length<=9223372036854775807:=by
  intro x h;obtain⟨p,_,h2⟩:=List.mem_flatMap.1 ((Ir _ _).1 h);have:=TJ h2;omega
 unfold mV
 obtain⟨qs,Q⟩:=Xa (jP q)
 obtain⟨pn,O⟩:=Xa (jR q)
 rw[Q,O]at z X;rw[O]at hc;rw[Q]at R ⊢
 obtain⟨qn,P⟩:=Xa qs.length
 rw[P]at X z ⊢
 obtain⟨b,J⟩:=Xa (nu qn)
 have g:(12*qn<8->8*b=8)/\(¬12*qn<8->12*qn<=8*b/\8*b<12*qn+8):=by
  rw[<- J];unfold nu;omega
 rw[J]
 obtain⟨M,hM⟩:=Xa (8*b)
 have eM:8*(b:Int)=(M:Int):=by omega
 rw[eM];rw[hM]at g;have MM:=Ih hM
 have an:M<=100000:=by omega
 have ap:¬(8:Int)<(pn:Int):=by omega
 have L:=I2 P R
 have N2:=Ih g;clear ha hl Q O R P J hM eM g;go_enter func75,ntmps75;go_wp2_with fail;refine z.mono ?_;rintro e w1 ⟨a1,c1,rfl,R1,B1⟩
 have G:=I2 R1 B1
 clear R1 B1 z
 go_upto_if 24 with fail
 go_cut[5] (λ mv u=>u=w1/\∃V:Nat,mv=Ab Ak (V:Int)/\V<=M/\M<V+8)
 case first =>
  by_cases h8:12*qn<8
  ·have ad:12*(qn:Int)<8:=by omega
   go_wp2_with fail;go_meet;have:=N2.o.1 h8;exact⟨rfl,8,rfl,by omega,by omega⟩
  ·have ad:¬12*(qn:Int)<8:=by omega
   go_wp2_with fail;go_meet;have:=N2.o.2 h8;exact⟨rfl,12*qn,by go_num,by omega,by omega⟩
 case rest =>
  obtain⟨C,V,rfl,h1,h2⟩:=hcut;have i:=C.symm;subst i;clear C;go_wp2_with fail;go_loopg[5] (M - V) (λ t mv wr=>wr=w1/\∃m:Nat,mv=Ab Ak (m:Int)/\m+t=M/\t<8)
  case atStart=>exact⟨rfl,V,rfl,by omega,by omega⟩
  case round =>
   obtain⟨C,m,rfl,h3,h4⟩:=hrel;have i:=C.symm;subst i;clear C h1 h2
   have Z:M % 8=0:=by have:=MM.o;omega
   by_cases h0:m % 8=0
   ·have W:(m:Int) % 8=0:=by omega
    obtain rfl:m=M:=by omega
    have al:((m:Int) % 8 != 0)=false:=by simp[W]
    have T:=Wq (c:=c1) (m:Int) (by omega) w1 G.o.1 L.o.1 (by omega) L.o.2
    obtain⟨a,y⟩:=Xa ((qs.flatMap λ p=>iT p (m:Int)))
    have ah:a.length<=3*qn:=by
     rw[<- y,<- L.o.1];have:=PK (λ p=>iT p (m:Int)) 3 (λ p=>LK p _) qs qs.length
     rwa [DJ]at this
    rw[y]at T;have ON:=Ih y;clear y h4 h3 Z h0 N2;go_wp2_with fail;refine T.mono ?_;rintro e d ⟨v3,rfl,O3,B3⟩;obtain⟨a3,c3,rfl,_,_,R3,_⟩:=O3.form
    obtain⟨zn,U⟩:=Xa a.length
    rw[U]at ah ⊢
    have G3:=I3 R3 U (G.o.2.trans (B3.mono G.o.2.size))
    have O4:=I2 (World.ownsRow_lit d #[Ab .u8 1] 1 (AA _) (by decide) rfl:gM gP 5 (d.alloc (Ai #[Ab .u8 1] 5)) d.heap.size (Aa (some ⟨d.heap.size,0,none⟩) 1 1) [1]) (gW _ _:Iz d (d.alloc (Ai #[Ab .u8 1] 5)))
    clear T O3 B3 R3 U;go_wp2_with fail;go_loopg[7,8] b (λ t ov v wr=>∃(j A:Nat),v=Ab Ak (A:Int)/\j+t=b/\Hid (A=8*j)/\Hid (gM gP 5 wr d.heap.size ov (1::(iF a b).take j)/\Iz d wr))
    case atStart=>exact⟨0,0,rfl,by omega,rfl,O4.o⟩
    case round =>
     obtain⟨j,A,rfl,hj,AJ,l⟩:=hrel
     obtain⟨go,H⟩:=Xb gk
     rw[<- H]at hj;have GO:=Ih H;clear H
     obtain⟨wo,aj⟩:=Xb wr
     subst aj;by_cases ag:j<b
     ·have jd:(A:Int)<(m:Int):=by have:=AJ.o;have:=MM.o;omega
      obtain⟨f,hf⟩:∃f:Nat->Bool,(λ k=>a.contains ((8*j+k:Nat):Int))=f:=⟨_,rfl⟩
      have F:Hid (∀k,a.contains ((8*j+k:Nat):Int)=f k):=λ k=>by rw[<- hf]
      have FB:Hid (((jS a j).toNat:Int)=(bitsOf f:Int)):=by show _=_;rw[JV,hf]
      clear hf;go_wp2_with fail;go_loopg[9,10] 8 (λ t bv v wx=>wx=wo/\∃s:Nat,s+t=8/\v=Ab Ak ((t:Int) - 1)/\bv=Ab .u8 ((mO f s:Nat):Int))
      case atStart=>exact⟨rfl,0,rfl,rfl,rfl⟩
      case round =>
       obtain⟨C,s,hs,rfl,rfl⟩:=hrel;have i:=C.symm;subst i;clear C
       cases gk with
       | zero =>
        have S:s=8:=by omega
        subst S;rw[fo];have B:(iF a b)[j]? = some (jS a j):=Kw _ ag;have ae:=OT f
        obtain⟨u,hu⟩:∃u:Int,(bitsOf f:Int)=u:=⟨_,rfl⟩
        rw[hu]at FB ⊢
        have S8:=I2 (Ol B) (by rw[AE,Iv];have:=MM.o;omega:((iF a b).take j).length<=20000)
        clear B hu ae
        have ac:Hid (A+8=8*(j+1)):=by show _=_;have:=AJ.o;omega
        go_wp2_with(at_builtin;refine BA gP 5 24 1 (Ab .u8 0) rfl Tryz.info5 underlying24 rfl (.tmp 52) (.tmp 54) rfl d.heap.size _ (1::(iF a b).take j) (jS a j) _ rfl l.o.1 rfl (by rw[A2];have:=S8.o.2;omega) (by rw[A2];have:=S8.o.2;simp only[maxLen];omega) l.o.2.size _ (fQ _ _ FB.o) ?_;intro v4 w4 N D _ _);go_roundg (go - 1)
        case measure=>have:=GO.o;omega
        case rel=>exact⟨j+1,A+8,by go_num,by omega,ac.o,by rw[S8.o.1];exact N,l.o.2.trans D⟩
       | succ r =>
        have er:((r+1:Nat):Int) - 1=(r:Int):=by omega
        rw[er]
        have S:s<8:=by omega
        have ai:=fL f S
        obtain⟨h,hh⟩:=Xa (mO f s)
        have HH:=I2 hh (by omega:7 - s=r)
        rw[hh]at ai ⊢;have I:=dN (c:=c3) ((A:Int)+(r:Int)) wo (G3.o.1.below l.o.2) G3.o.2.1 (by omega) (f r) (by rw[<- F.o r];congr 1;have:=AJ.o;omega)
        obtain⟨fr,E⟩:=Xa (f r)
        have FR:=Ih E;rw[E]at I
        have am:A<=100000:=by omega
        clear hh er E;go_wp2_with fail;refine I.mono ?_;rintro e w5 ⟨rfl,aa⟩;have ab:=aa.symm;subst ab;clear aa I
        cases fr with
        | true =>
         go_wp2;go_roundg r
         case measure=>omega
         case rel=>exact⟨rfl,s+1,by omega,by go_num,by rw[mO,HH.o.1,HH.o.2,FR.o];go_num⟩
        | false =>
         go_wp2;go_roundg r
         case measure=>omega
         case rel=>exact⟨rfl,s+1,by omega,by go_num,by rw[mO,HH.o.1,HH.o.2,FR.o];go_num⟩
     ·obtain rfl:j=b:=by omega
      have jd:¬(A:Int)<(m:Int):=by have:=AJ.o;have:=MM.o;omega
      have et:(iF a j).take j=iF a j:=Av (by rw[Iv];omega);rw[et]at l
      obtain⟨K,hK⟩:=Xa (1::iF a j)
      rw[hK]at l;have KK:=Ih hK;clear et hK;obtain⟨a7,c7,rfl,_,_,_,_⟩:=l.o.1.form
      obtain⟨kn,Y⟩:=Xa K.length
      have af:=Ga (iW.at (l.o.1.low (Bw _)));rw[Y]at af ⊢;clear Y;go_wp2;go_ret;refine⟨?_,G3.o.2.2.trans (l.o.2.mono G3.o.2.2.size)⟩;rw[ON.o,KK.o]
      rfl
   ·have W:((m:Int) % 8 != 0)=true:=by simp;omega
    have ak:((m:Int) % 8==0)=false:=by simp;omega
    go_wp2;go_roundg (gk - 1)
    case measure=>omega
    case rel=>exact⟨rfl,m+1,by go_num,by omega,by omega⟩
theorem Ve(w:Ap)(b:Rd w ao a)(d:a.length=n)(f:n<=9000):
  At Am 75 #[Aa ao n c] w λ e w'=>e=Aj (tx (lS a))/\Iz w w':=by
 by_cases h:8<jR a
 rw[lS,AC h];exact Xx w b d f h
 rw[lS,Ay h];exact dY w b d f h
theorem U5{y:UInt64}(h:y≠x):mf (Q++[y]) x=mf Q x:=by
 unfold mf;by_cases a:x∈Q
 rw[AC (by simp[a]),AC a,D0,AC a]
 rw[Ay (by simp[a];exact λ e=>h e.symm),Ay a]
theorem XD(h:¬x∈Q):mf (Q++[x]) x=(Q.length:Int):=by
 unfold mf;rw[AC (by simp),D0,Ay h,List.idxOf_cons_self];simp
theorem XZ(h:x∈Q):mf Q x=(Q.idxOf x:Int):=AC h
theorem Kh:(0:Int)<=mf Q x↔x∈Q:=by
 unfold mf
 split
 ·rename_i h
  exact⟨λ _=>h,λ _=>by omega⟩
 ·rename_i h
  exact⟨λ q=>absurd q (by omega),λ q=>absurd q h⟩
theorem PO(w:Ap)(t:TypeId)(cs:Array Ar):gT (w.alloc (Ai cs t)).drew w.heap.size t cs:=(gT.new w t cs).below (Ao (w.alloc (Ai cs t)).heap.size _).drew (gT.new w t cs).lt
theorem PY(h:An B w0 w)(a:B<=w.heap.size){Q:Nat}(c:B<=Q)(cs:List Ar)(j:Nat):An B w0 (jG w Q cs j) :=
 h.trans ((De Q cs j).below a (λ k d e=>by have b:=e;omega))
theorem Q9(h:An B w0 w)(e:B<=w.heap.size){Q:Nat}(f:B<=Q)(a b c d:Ar):An B w0 ((((w.setCell ⟨Q,0,none⟩ a).setCell ⟨Q,1,none⟩ b).setCell ⟨Q,2,none⟩ c).setCell ⟨Q,3,none⟩ d):=PY h e f [a,b,c,d] 0
theorem Kt(h:An B w0 w)(g:B<=w.heap.size){Q:Nat}(i:B<=Q)(a b c d e f:Ar):An B w0 ((((((w.setCell ⟨Q,0,none⟩ a).setCell ⟨Q,1,none⟩ b).setCell ⟨Q,2,none⟩ c).setCell ⟨Q,3,none⟩ d).setCell ⟨Q,4,none⟩ e).setCell ⟨Q,5,none⟩ f):=PY h g i [a,b,c,d,e,f] 0
theorem ZQ{Q:Nat}{f:Ar}(h:gT w Q t #[z0,f,g,z3])(a b c d:Ar):gT ((((w.setCell ⟨Q,0,none⟩ a).setCell ⟨Q,1,none⟩ b).setCell ⟨Q,2,none⟩ c).setCell ⟨Q,3,none⟩ d) Q t #[a,b,c,d]:=by
 have:=h.lays [a,b,c,d] 0
 have e:lk #[z0,f,g,z3] [a,b,c,d] 0=#[a,b,c,d]:=by simp[lk]
 rw[e]at this;exact this
theorem O7{Q:Nat}{i z4 z5:Ar}(h:gT w Q t #[z0,g,i,z3,z4,z5])(a b c d e f:Ar):gT ((((((w.setCell ⟨Q,0,none⟩ a).setCell ⟨Q,1,none⟩ b).setCell ⟨Q,2,none⟩ c).setCell ⟨Q,3,none⟩ d).setCell ⟨Q,4,none⟩ e).setCell ⟨Q,5,none⟩ f) Q t #[a,b,c,d,e,f]:=by
 have:=h.lays [a,b,c,d,e,f] 0
 have e:lk #[z0,g,i,z3,z4,z5] [a,b,c,d,e,f] 0=#[a,b,c,d,e,f]:=by simp[lk]
 rw[e]at this;exact this
structure nE(ids:List UInt64)(i:Nat)(l:List UInt64):Prop where
 rise:Fx l
 mem:∀y,y∈l↔y∈ids.take i
 len:l.length<=i
theorem nE.zero(ids:List UInt64):nE ids 0 []:=⟨List.Pairwise.nil,by simp,AA _⟩
theorem nE.next{ids:List UInt64}{b:List UInt64}(h:nE ids i l)(c:ids[i]? = some x)(a:Mw l x b):nE ids (i+1) b:=by
 refine⟨a.1,λ y=>?_,by have:=a.2.2;have:=h.len;omega⟩;rw[a.2.1,h.mem,List.take_add_one,c];simp
theorem nE.done{ids:List UInt64}(h:nE ids ids.length l)(a:ids.Nodup):l=gY ids:=by
 have hp:l.Perm ids:=(List.perm_ext_iff_of_nodup h.rise.nodup a).2 (λ y=>by rw[h.mem,DJ]);rw[<- h.rise.ris];exact gD hp
structure QA(B:Nat)(w u:Ap)(d:Dk)(vf:Ar)(oa:Option Addr)(on oc:Nat)(vr vt:Ar)(st:St)(ba:Option Addr)(bvs:List RV)(ia:Option Addr)(ids:List UInt64):Prop where
 re:RE B u d vf oa on oc vr vt st
 bl:gQ im u ba bvs
 ids:gQ gR u ia ids
 bel:An B w u
theorem QA.next{w:World}{vf:Value}{on:Nat}{vr vt:Value}{ba:Option Addr}{bvs:List RV}{b:Option Addr}{ids:List UInt64}(h:QA B w u d vf oa on oc vr vt st ba bvs b ids)(a:Iz u u'):QA B w u' d vf oa on oc vr vt st ba bvs b ids :=
 ⟨h.re.next a,h.bl.below a,h.ids.below a,h.bel.trans (a.mono (Nat.le_of_lt h.re.box.lt))⟩
structure QO(B:Nat)(u:Ap)(ov:Ar)(st:St)(Q xs:List UInt64)(i:Nat)(vs:List RV):Prop where
 own:gM im 83 u B ov vs
 len:vs.length=i
 at_:∀(j:Nat) (v:RV) (x:UInt64),vs[j]? = some v->xs[j]? = some x->ni u B v (st.row Q x 0)
 shut:∀x∈xs.take i,∀p∈(st.com x).ps,p∈Q
theorem QO.below{u u':Ap}{xs:List UInt64}{vs:List RV}(h:QO B u b st Q xs i vs)(a:Iz u u'):QO B u' b st Q xs i vs :=
 ⟨h.own.below a,h.len,λ j v x c d=>(h.at_ j v x c d).below a,h.shut⟩
structure QR(uP u:Ap)(R:Nat)(id tree:UInt64)(date:Int)(fb:Bs)(Q:List UInt64)(ps:List UInt64)(k:Nat):Prop where
 bel:An uP.heap.size uP u
 low:uP.heap.size<=R
 row:∃pa pn pc,gT u R 83 #[Ab Al (id.toNat:Int),Ab Al (tree.toNat:Int),Ab Ak date,Aa pa pn pc,Ab Ak 0,tx fb]/\gM encI 3 u uP.heap.size (Aa pa pn pc) (kL Q (ps.take k))
 in_:∀p∈ps.take k,p∈Q
theorem QR.next{c:World}{id tree:UInt64}{date:Int}{fb:Bs}{ps:List UInt64}{k:Nat}(h:QR c u R id tree date fb Q ps k)(a:Iz u u'):QR c u' R id tree date fb Q ps k:=by
 obtain⟨pa,pn,pc,b,d⟩:=h.row;exact⟨h.bel.trans (a.mono h.bel.size),h.low,⟨pa,pn,pc,b.below a b.lt,d.below a⟩,h.in_⟩
end Go.Proofs.YtakgkgmopmcecaaGreat
