/-
  Several texts, laid together.
-/
import Derived.Test.YtlojblelpaegpaaGreatM32
set_option maxHeartbeats 6400000
set_option maxRecDepth 100000
open Go renaming Value->Ar,World->Ap,Calls->At,bodyPost_ret->As,results->AH
open Go.RowKit renaming Below->An
open Go.Value renaming oneCell'->Cn,string->Ae,slice->Aa,int->Ab,bool->Ad,tuple->Af,agg->Ag,pointer->Ah
open Go.RowKit.Below renaming refl->Ao
open UInt64 renaming toNat_lt->Gq
open Go.Act renaming eval->A8
open Nat renaming reduceAdd->BT,le_trans->AZ
open Go.Obj renaming cells->Ai
open Go.Ending renaming returned->Aj
open Go.IntKind renaming i64->Ak,u64->Al
open Go.Proofs.Tryz renaming prog->Am
open Go.Proofs.Tryz
namespace Go.Proofs.YtlojblelpaegpaaGreat
open Go.RowKit
variable{A D R fa oa qa z:Option Addr}{B C F G L N O P S b fc oc on qc qn s tc xc y zc:Nat}{E Z:Nat->Prop}{bl cl tl:List UInt64}{d:Dk}{m:Ar}{qs:List Int}{st:St}{w w0:Ap}
theorem Zcs:∀args w,(callFunc 130 args).run Am w=.ok (.enter 130 args) w:=enters_of func130 (by kernel_rfl) rfl
theorem Zcm:∀args w,(callFunc 49 args).run Am w=.ok (.enter 49 args) w:=enters_of func49 (by kernel_rfl) rfl
theorem ZhM(a0 a1 a2 a3 a4 a5 a6 a7 a8 a b n2 c d e f g h:Ar):setL #[a0,a1,a2,a3,a4,a5,a6,a7,a8] (#[a,b,n2,c,d,e,f,g,h]:Array Ar).toList 0=#[a,b,n2,c,d,e,f,g,h]:=by simp[setL]
theorem Zia(hZ:∀i,Z i->i<w.heap.size)(h:RMS Z w m st d)(ai:st.ok)(t:st.size<=1000000)(E:d.ok)(hw:d.writes<=1000000)(n:Bs)(hn:n.length<=140737488355328)(i:UInt64)(Q)(hQ:sref st d n i=Q):
  At Am 73 #[m,tx n,Ab Al (i.toNat:Int)] w λ e w'=>∃T r,e=Aj (Af #[T,Ab Ak r])/\Hid (r=Q.2.2/\RMS Z w' T Q.1 Q.2.1/\An w.heap.size w w'):=by
 obtain⟨fa,j,fc,oa,on,oc,k,c,l,p,f,tc,rfl,h1,O,h3,h4⟩:=h
 have ho:on<=1000000:=by rw[<- O.len];unfold St.size at t;omega
 have aj:c<=1000000:=by rw[<- h3.len];unfold St.size at t;omega
 have ak:f<=1000000:=by rw[<- h4.len];unfold St.size at t;omega
 have L:Hid (LG encF (Zy Z w) w fa j fc d.files/\LG encO (Zy Z w) w oa on oc st.objs/\LG encN (Zy Z w) w k c l st.refs/\LG encN (Zy Z w) w p f tc st.tags):=⟨h1.into ZaW,O.into ZaW,h3.into ZaW,h4.into ZaW⟩
 have HZ:Hid (∀i,Zy Z w i->i<w.heap.size+2):=Zil hZ
 have RB:Hid (∀W',An w.heap.size w W'->RMS (Zy Z w) W' (rm d (Aa fa j fc) (Aa oa on oc) (Aa k c l) (Aa p f tc)) st d):=λ W' b=>⟨fa,j,fc,oa,on,oc,k,c,l,p,f,tc,rfl,L.o.1.below b,L.o.2.1.below b,L.o.2.2.1.below b,L.o.2.2.2.below b⟩
 obtain⟨G,s⟩:∃G:ByteArray,G=⟨n.toArray⟩:=⟨_,rfl⟩
 have S:G.size=n.length:=by rw[s];show n.toArray.size=_;simp
 rw[show tx n=Ae G by rw[s]]
 obtain⟨W,hW⟩:=Xa ((w.alloc (nineC d (Aa fa j fc) (Aa oa on oc) (Aa k c l) (Aa p f tc))).alloc zeroC)
 have A:Hid (Two w W d (Aa fa j fc) (Aa oa on oc) (Aa k c l) (Aa p f tc)):=by rw[<- hW];exact Two.new w d _ _ _ _
 have TH:=hid (BoxA.there (show BoxA W (w.heap.size+1) 33 #[Aa none 0 0,Ab Ak 0,Ad false,Ad false,Ab Ak 0,Ab Ak 0,Aa none 0 0,Aa none 0 0,Aa none 0 0]from A.o.res) (o:=0) (n:=9) (by simp));obtain⟨x0,x1,x2,x3,x4,x5,x6,x7,x8⟩:=A.o.box.cells;have z:=Zat G (by omega) W;rw[show isName G.data.toList=isName n by rw[s]]at z
 cases a:isName n with
 | false =>
  have ez:Q=(st,d,2):=by rw[<- hQ];unfold sref;rw[AE a]
  subst ez;rw[a]at z;clear h1 O h3 h4 hZ t E hw S s hQ a;go_enter func73,ntmps73;go_wp2_with fail;refine z.mono ?_;rintro e w' ⟨rfl,rfl⟩;go_wp2_with(refine Zaj rfl 33 (.tmp 6) (.tmp 11) rfl (w.heap.size+1) 0 #[Aa fa j fc,Ab Ak (d.writes:Int),Ad d.armed,Ad d.dead,Ab Ak (d.after:Int),Ab Ak (d.keep:Int),Aa oa on oc,Aa k c l,Aa p f tc] rfl rfl TH.o (by kernel_rfl) (by simp[Cn]) ?_;intro w4 x;have hT:Zaa (λ i=>i=w.heap.size+1) w' w4:=(by rw[x];exact Zal _ _ _);have P:=(BoxA.lays (show BoxA w' (w.heap.size+1) 33 #[Aa none 0 0,Ab Ak 0,Ad false,Ad false,Ab Ak 0,Ab Ak 0,Aa none 0 0,Aa none 0 0,Aa none 0 0]from A.o.res) (#[Aa fa j fc,Ab Ak (d.writes:Int),Ad d.armed,Ad d.dead,Ab Ak (d.after:Int),Ab Ak (d.keep:Int),Aa oa on oc,Aa k c l,Aa p f tc]:Array Ar).toList 0);rw[<- x,ZhM]at P;obtain⟨z0,z1,z2,z3,z4,z5,z6,z7,z8⟩:=Nine.cells (show Nine w4 (w.heap.size+1) _ _ _ _ _ _ _ _ _ from P);have HT:=hid hT;clear hT P x);refine As (v:=Af #[(rm d (Aa fa j fc) (Aa oa on oc) (Aa k c l) (Aa p f tc)),Ab Ak 2]) ?_ rfl ⟨_,_,rfl,?_⟩
  ·simp[AH,Tryz.f73];go_simp
  ·exact⟨rfl,Zak A.o.bel (RB.o _ A.o.bel) HT.o⟩
 | true =>
  rw[a]at z;have nl:=ZbO a
  obtain⟨g,J⟩:=Xa (st.has 3 i)
  have R:=λ(u:Ap) (b:An W.heap.size W u)=>ZaK (d:=d) (vf:=Aa fa j fc) (oc:=oc) (vr:=Aa k c l) (vt:=Aa p f tc) (w:=u) (O.rd.below (A.o.bel.trans (b.mono A.o.bel.size))) O.len ho 3 i g J
  have y:=R W (Ao _ _)
  cases g with
  | false =>
   have ez:Q=(st,d,5):=by rw[<- hQ];unfold sref;rw[Aw (by rw[a];decide),AE J]
   subst ez;clear h1 O h3 h4 hZ t E hw S s hQ a R J;go_enter func73,ntmps73;go_wp2_with fail;refine z.mono ?_;rintro e w' ⟨rfl,rfl⟩;go_wp2_with fail;refine y.mono ?_;rintro e D ⟨rfl,B2⟩;have B:Hid (Two w D d (Aa fa j fc) (Aa oa on oc) (Aa k c l) (Aa p f tc)):=A.o.below B2;clear x0 x1 x2 x3 x4 x5 x6 x7 x8 y TH;obtain⟨x0,x1,x2,x3,x4,x5,x6,x7,x8⟩:=B.o.box.cells;have TH:=hid (BoxA.there (show BoxA D (w.heap.size+1) 33 #[Aa none 0 0,Ab Ak 0,Ad false,Ad false,Ab Ak 0,Ab Ak 0,Aa none 0 0,Aa none 0 0,Aa none 0 0]from B.o.res) (o:=0) (n:=9) (by simp));go_wp2_with(refine Zaj rfl 33 (.tmp 6) (.tmp 16) rfl (w.heap.size+1) 0 #[Aa fa j fc,Ab Ak (d.writes:Int),Ad d.armed,Ad d.dead,Ab Ak (d.after:Int),Ab Ak (d.keep:Int),Aa oa on oc,Aa k c l,Aa p f tc] rfl rfl TH.o (by kernel_rfl) (by simp[Cn]) ?_;intro w4 x;have hT:Zaa (λ i=>i=w.heap.size+1) D w4:=(by rw[x];exact Zal _ _ _);have P:=(BoxA.lays (show BoxA D (w.heap.size+1) 33 #[Aa none 0 0,Ab Ak 0,Ad false,Ad false,Ab Ak 0,Ab Ak 0,Aa none 0 0,Aa none 0 0,Aa none 0 0]from B.o.res) (#[Aa fa j fc,Ab Ak (d.writes:Int),Ad d.armed,Ad d.dead,Ab Ak (d.after:Int),Ab Ak (d.keep:Int),Aa oa on oc,Aa k c l,Aa p f tc]:Array Ar).toList 0);rw[<- x,ZhM]at P;obtain⟨z0,z1,z2,z3,z4,z5,z6,z7,z8⟩:=Nine.cells (show Nine w4 (w.heap.size+1) _ _ _ _ _ _ _ _ _ from P);have HT:=hid hT;clear hT P x);refine As (v:=Af #[(rm d (Aa fa j fc) (Aa oa on oc) (Aa k c l) (Aa p f tc)),Ab Ak 5]) ?_ rfl ⟨_,_,rfl,?_⟩
   ·simp[AH,Tryz.f73];go_simp
   ·exact⟨rfl,Zak B.o.bel (RB.o _ B.o.bel) HT.o⟩
  | true =>
   have ah:i≠0:=by
    intro e;rw[e,ZdB ai]at J;cases J
   have ez:sapp st d (4,labB i n)=Q:=by 
    rw[<- hQ];unfold sref;rw[Aw (by rw[a];decide),Aw (by rw[J];decide)]
   have I:st.fits (4,labB i n)=true:=by unfold St.fits;rw[AE (.inl rfl)];simp[ZbK,ZbN,Zax,a,J,ah]
   have af:Hid (∀u:Ap,An W.heap.size W u->At Am 130 #[(rm d (Aa fa j fc) (Aa oa on oc) (Aa k c l) (Aa p f tc)),Ab Ak 4,tx (labB i n)] u λ e w'=>∃v,e=Aj v/\Hid (∃T r,v=Af #[T,Ab Ak r]/\r=Q.2.2/\RMS (Zy Z w) w' T Q.1 Q.2.1/\An u.heap.size u w')):=by
    intro u b;have b0:=A.o.bel.trans (b.mono A.o.bel.size);have h:=ZdC (λ i q=>by have:=HZ.o i q;have:=A.o.size;have:=b.size;omega) (RB.o u b0) t E hw 4 (by omega) (by omega) (labB i n) (by rw[Zax];omega) I;rw[ez]at h;refine h.mono ?_;rintro e w' ⟨T,r,rfl,H⟩;exact⟨_,rfl,T,r,rfl,H.o.1,H.o.2.1,H.o.2.2⟩
   have ag:Hid (∀u:Ap,At Am 49 #[Ab Al (i.toNat:Int),Ab Ak 8] u λ e w'=>∃v,e=Aj v/\Hid (v=tx (b8 i)/\An u.heap.size u w')):=by
    intro u;refine(ZaD (i:UInt64).toNat 8 (Gq _) (by omega) u).mono ?_;rintro e w' ⟨rfl,hb⟩;exact⟨_,rfl,rfl,hb⟩
   obtain⟨s8,F⟩:∃s8:ByteArray,s8=⟨(b8 i).toArray⟩:=⟨_,rfl⟩
   rw[show tx (b8 i)=Ae s8 by rw[F]]at ag
   have l8:s8.size=8:=by rw[F];show(b8 i).toArray.size=8;simp[b8,Zar]
   have a1:¬(9223372036854775807<s8.size+G.size):=by omega
   have eb:tx (labB i n)=Ae (s8++G):=by
    rw[F,s];show Ae _=Ae _
    congr 1 <;> (apply ByteArray.ext;simp[labB])
   rw[eb]at af;clear h1 O h3 h4 hZ t E hw S hQ a nl eb ez I F l8 R J ah s;go_enter func73,ntmps73;go_wp2_with fail;refine z.mono ?_;rintro e w' ⟨rfl,rfl⟩;go_wp2_with fail;refine y.mono ?_;rintro e D ⟨rfl,B2⟩
   have B:Hid (Two w D d (Aa fa j fc) (Aa oa on oc) (Aa k c l) (Aa p f tc)/\An w'.heap.size w' D):=⟨A.o.below B2,B2⟩
   clear x0 x1 x2 x3 x4 x5 x6 x7 x8 y TH B2;obtain⟨x0,x1,x2,x3,x4,x5,x6,x7,x8⟩:=B.o.1.box.cells
   go_upto_region 5 with fail
   have W0:Hid (An D.heap.size D D.drew):=(Ao _ _).drew
   go_region_law
    (first
     | (refine ZcX rfl (.tmp 17) (.const (Ab Ak 4)) (.tmp 21) 130 #[33,3,9] rfl Zcs (rm d (Aa fa j fc) (Aa oa on oc) (Aa k c l) (Aa p f tc)) (Ab Ak 4) (Ae (s8++G)) rfl rfl rfl _ (af.o w5 B5.o) ?_;intro v6 w6 h6;obtain⟨m6,r6,rfl,e6,R6,B6⟩:=h6.o;obtain⟨K,N,M,U,X,V,Y,ab,aa,ac,ae,ad,rfl,q1,q2,q3,q4⟩:=R6;have P6:Hid (Two w w6 d (Aa fa j fc) (Aa oa on oc) (Aa k c l) (Aa p f tc)/\r6=Q.2.2/\RMS (Zy Z w) w6 (rm Q.2.1 (Aa K N M) (Aa U X V) (Aa Y ab aa) (Aa ac ae ad)) Q.1 Q.2.1):=⟨P5.o.below B6,e6,K,N,M,U,X,V,Y,ab,aa,ac,ae,ad,rfl,q1,q2,q3,q4⟩;obtain⟨z0,z1,z2,z3,z4,z5,z6,z7,z8⟩:=P6.o.1.res.cells;have C:=P6.o.1.res.thaw;have g0:=C 0;have g1:=C 1;have g2:=C 2;have g3:=C 3;have g4:=C 4;have g5:=C 5;have g6:=C 6;have g7:=C 7;have g8:=C 8;have l2:=P6.o.1.res.lt;clear C;clear e6 B6 q1 q2 q3 q4 h6)
     | (refine Zbd rfl (.tmp 18) (.const (Ab Ak 8)) 49 #[43,3] rfl Zcm (Ab Al (i.toNat:Int)) (Ab Ak 8) rfl rfl _ (ag.o _) ?_;intro v5 w5 h5;obtain⟨rfl,b5⟩:=h5.o;have B5:Hid (An w'.heap.size w' w5):=B.o.2.trans ((W0.o.trans (b5.mono W0.o.size)).mono B.o.2.size);have P5:Hid (Two w w5 d (Aa fa j fc) (Aa oa on oc) (Aa k c l) (Aa p f tc)):=B.o.1.below (W0.o.trans (b5.mono W0.o.size));obtain⟨y0,y1,y2,y3,y4,y5,y6,y7,y8⟩:=P5.o.box.cells;clear h5 b5))
   all_goals
    go_wp2;refine As (v:=Af #[(rm Q.2.1 (Aa K N M) (Aa U X V) (Aa Y ab aa) (Aa ac ae ad)),Ab Ak r6]) ?_ rfl ⟨_,_,rfl,?_⟩
    ·simp[AH,Tryz.f73];go_simp
    ·exact⟨P6.o.2.1,Zak P6.o.1.bel P6.o.2.2 (Zae _ _ _ _ _ _ _ _ _ _ _)⟩
theorem Zha{Z:Nat->Prop}{w:Ap}{m:Ar}{st:St}{d:Dk}(hZ:∀i,Z i->i<w.heap.size)(h:RMS Z w m st d)(_hst:st.ok)(hsz:st.size<=1000000)(hok:d.ok)(hw:d.writes<=1000000)(n:Bs)(hn:n.length<=140737488355328)(Q)(hQ:sdrop st d n=Q):
  At Am 77 #[m,tx n] w λ e w'=>∃m' r,e=Aj (Af #[m',Ab Ak r])/\Hid (r=Q.2.2/\RMS Z w' m' Q.1 Q.2.1/\An w.heap.size w w'):=by
 obtain⟨fa,fl,fc,oa,on,oc,ra,rn,rc,ta,tn,tc,rfl,h1,h2,h3,h4⟩:=h
 have ho:on<=1000000:=by rw[<- h2.len];unfold St.size at hsz;omega
 have hrl:rn<=1000000:=by rw[<- h3.len];unfold St.size at hsz;omega
 have htl:tn<=1000000:=by rw[<- h4.len];unfold St.size at hsz;omega
 have L:Hid (LG encF (Zy Z w) w fa fl fc d.files/\LG encO (Zy Z w) w oa on oc st.objs/\LG encN (Zy Z w) w ra rn rc st.refs/\LG encN (Zy Z w) w ta tn tc st.tags):=⟨h1.into ZaW,h2.into ZaW,h3.into ZaW,h4.into ZaW⟩
 have HZ:Hid (∀i,Zy Z w i->i<w.heap.size+2):=Zil hZ
 have RB:Hid (∀W',An w.heap.size w W'->RMS (Zy Z w) W' (rm d (Aa fa fl fc) (Aa oa on oc) (Aa ra rn rc) (Aa ta tn tc)) st d):=λ W' b=>⟨fa,fl,fc,oa,on,oc,ra,rn,rc,ta,tn,tc,rfl,L.o.1.below b,L.o.2.1.below b,L.o.2.2.1.below b,L.o.2.2.2.below b⟩
 obtain⟨nb,hnb⟩:∃nb:ByteArray,nb=⟨n.toArray⟩:=⟨_,rfl⟩
 have hns:nb.size=n.length:=by rw[hnb];show n.toArray.size=_;simp
 rw[show tx n=Ae nb by rw[hnb]]
 obtain⟨W,hW⟩:=Xa ((w.alloc (nineC d (Aa fa fl fc) (Aa oa on oc) (Aa ra rn rc) (Aa ta tn tc))).alloc zeroC)
 have P0:Hid (Two w W d (Aa fa fl fc) (Aa oa on oc) (Aa ra rn rc) (Aa ta tn tc)):=by rw[<- hW];exact Two.new w d _ _ _ _
 have TH:=hid (BoxA.there (show BoxA W (w.heap.size+1) 33 #[Aa none 0 0,Ab Ak 0,Ad false,Ad false,Ab Ak 0,Ab Ak 0,Aa none 0 0,Aa none 0 0,Aa none 0 0]from P0.o.res) (o:=0) (n:=9) (by simp));obtain⟨x0,x1,x2,x3,x4,x5,x6,x7,x8⟩:=P0.o.box.cells;have hnm:=Zat nb (by omega) W;rw[show isName nb.data.toList=isName n by rw[hnb]]at hnm
 cases hin:isName n with
 | false =>
  have ez:Q=(st,d,2):=by rw[<- hQ];unfold sdrop;rw[AE hin]
  subst ez;rw[hin]at hnm;clear h1 h2 h3 h4 hZ hsz hok hw hns hnb hQ hin;go_enter func77,ntmps77;go_wp2_with fail;refine hnm.mono ?_;rintro e w' ⟨rfl,rfl⟩;go_wp2_with(refine Zaj rfl 33 (.tmp 4) (.tmp 9) rfl (w.heap.size+1) 0 #[Aa fa fl fc,Ab Ak (d.writes:Int),Ad d.armed,Ad d.dead,Ab Ak (d.after:Int),Ab Ak (d.keep:Int),Aa oa on oc,Aa ra rn rc,Aa ta tn tc] rfl rfl TH.o (by kernel_rfl) (by simp[Cn]) ?_;intro w4 hw4;have hT:Zaa (λ i=>i=w.heap.size+1) w' w4:=(by rw[hw4];exact Zal _ _ _);have hN:=(BoxA.lays (show BoxA w' (w.heap.size+1) 33 #[Aa none 0 0,Ab Ak 0,Ad false,Ad false,Ab Ak 0,Ab Ak 0,Aa none 0 0,Aa none 0 0,Aa none 0 0]from P0.o.res) (#[Aa fa fl fc,Ab Ak (d.writes:Int),Ad d.armed,Ad d.dead,Ab Ak (d.after:Int),Ab Ak (d.keep:Int),Aa oa on oc,Aa ra rn rc,Aa ta tn tc]:Array Ar).toList 0);rw[<- hw4,ZhM]at hN;obtain⟨z0,z1,z2,z3,z4,z5,z6,z7,z8⟩:=Nine.cells (show Nine w4 (w.heap.size+1) _ _ _ _ _ _ _ _ _ from hN);have HT:=hid hT;clear hT hN hw4);refine As (v:=Af #[(rm d (Aa fa fl fc) (Aa oa on oc) (Aa ra rn rc) (Aa ta tn tc)),Ab Ak 2]) ?_ rfl ⟨_,_,rfl,?_⟩
  ·simp[AH,Tryz.f77];go_simp
  ·exact⟨rfl,Zak P0.o.bel (RB.o _ P0.o.bel) HT.o⟩
 | true =>
  rw[hin]at hnm;have nl:=ZbO hin
  obtain⟨f,hf⟩:=Xa ((nget st.refs n).isSome)
  have hfi:=λ(u:Ap) (b:An w.heap.size w u)=>Zca (c:=rc) st.refs n u (L.o.2.2.1.rd.below b) L.o.2.2.1.len hrl
  rw[hf,show tx n=Ae nb by rw[hnb]]at hfi
  cases f with
  | false =>
   have ez:Q=(st,d,5):=by rw[<- hQ];unfold sdrop;rw[Aw (by rw[hin];decide),AE hf]
   subst ez;clear h1 h2 h3 h4 hZ hsz hok hw hns hnb hQ hin hf;go_enter func77,ntmps77;go_wp2_with fail;refine hnm.mono ?_;rintro e w' ⟨rfl,rfl⟩;have hfi1:=hfi w' P0.o.bel;clear hfi;go_wp2_with fail;refine hfi1.mono ?_;rintro e w3 ⟨r3,rfl,FR,rfl⟩
   obtain rfl:r3 = -1:=by
    rcases FR.o with⟨_,q⟩ | ⟨q,_⟩
    ·exact q
    ·cases q
   clear FR;go_wp2_with(refine Zaj rfl 33 (.tmp 4) (.tmp 15) rfl (w.heap.size+1) 0 #[Aa fa fl fc,Ab Ak (d.writes:Int),Ad d.armed,Ad d.dead,Ab Ak (d.after:Int),Ab Ak (d.keep:Int),Aa oa on oc,Aa ra rn rc,Aa ta tn tc] rfl rfl TH.o (by kernel_rfl) (by simp[Cn]) ?_;intro w4 hw4;have hT:Zaa (λ i=>i=w.heap.size+1) w3 w4:=(by rw[hw4];exact Zal _ _ _);have hN:=(BoxA.lays (show BoxA w3 (w.heap.size+1) 33 #[Aa none 0 0,Ab Ak 0,Ad false,Ad false,Ab Ak 0,Ab Ak 0,Aa none 0 0,Aa none 0 0,Aa none 0 0]from P0.o.res) (#[Aa fa fl fc,Ab Ak (d.writes:Int),Ad d.armed,Ad d.dead,Ab Ak (d.after:Int),Ab Ak (d.keep:Int),Aa oa on oc,Aa ra rn rc,Aa ta tn tc]:Array Ar).toList 0);rw[<- hw4,ZhM]at hN;obtain⟨z0,z1,z2,z3,z4,z5,z6,z7,z8⟩:=Nine.cells (show Nine w4 (w.heap.size+1) _ _ _ _ _ _ _ _ _ from hN);have HT:=hid hT;clear hT hN hw4);refine As (v:=Af #[(rm d (Aa fa fl fc) (Aa oa on oc) (Aa ra rn rc) (Aa ta tn tc)),Ab Ak 5]) ?_ rfl ⟨_,_,rfl,?_⟩
   ·simp[AH,Tryz.f77];go_simp
   ·exact⟨rfl,Zak P0.o.bel (RB.o _ P0.o.bel) HT.o⟩
  | true =>
   have ez:sapp st d (4,labB 0 n)=Q:=by 
    rw[<- hQ];unfold sdrop;rw[Aw (by rw[hin];decide),Aw (by rw[hf];decide)]
   have hfit:st.fits (4,labB 0 n)=true:=by unfold St.fits;rw[AE (.inl rfl)];simp[ZbK,ZbN,Zax,hin,hf]
   have ADD:Hid (∀u:Ap,An W.heap.size W u->At Am 130 #[(rm d (Aa fa fl fc) (Aa oa on oc) (Aa ra rn rc) (Aa ta tn tc)),Ab Ak 4,tx (labB 0 n)] u λ e w'=>∃v,e=Aj v/\Hid (∃m' r,v=Af #[m',Ab Ak r]/\r=Q.2.2/\RMS (Zy Z w) w' m' Q.1 Q.2.1/\An u.heap.size u w')):=by
    intro u b;have b0:=P0.o.bel.trans (b.mono P0.o.bel.size);have h:=ZdC (λ i q=>by have:=HZ.o i q;have:=P0.o.size;have:=b.size;omega) (RB.o u b0) hsz hok hw 4 (by omega) (by omega) (labB 0 n) (by rw[Zax];omega) hfit;rw[ez]at h;refine h.mono ?_;rintro e w' ⟨m',r,rfl,H⟩;exact⟨_,rfl,m',r,rfl,H.o.1,H.o.2.1,H.o.2.2⟩
   have NUM:Hid (∀u:Ap,At Am 49 #[Ab Al 0,Ab Ak 8] u λ e w'=>∃v,e=Aj v/\Hid (v=tx (b8 0)/\An u.heap.size u w')):=by
    intro u;refine(ZaD (0:UInt64).toNat 8 (Gq _) (by omega) u).mono ?_;rintro e w' ⟨rfl,hb⟩;exact⟨_,rfl,rfl,hb⟩
   obtain⟨s8,hs8⟩:∃s8:ByteArray,s8=⟨(b8 0).toArray⟩:=⟨_,rfl⟩
   rw[show tx (b8 0)=Ae s8 by rw[hs8]]at NUM
   have l8:s8.size=8:=by rw[hs8];show(b8 0).toArray.size=8;simp[b8,Zar]
   have a1:¬(9223372036854775807<s8.size+nb.size):=by omega
   have eb:tx (labB 0 n)=Ae (s8++nb):=by
    rw[hs8,hnb];show Ae _=Ae _
    congr 1 <;> (apply ByteArray.ext;simp[labB])
   rw[eb]at ADD;clear h1 h2 h3 h4 hZ hsz hok hw hns hQ hin nl eb ez hfit hs8 l8 hf hnb;go_enter func77,ntmps77;go_wp2_with fail;refine hnm.mono ?_;rintro e w' ⟨rfl,rfl⟩
   have P2:Hid (Two w w' d (Aa fa fl fc) (Aa oa on oc) (Aa ra rn rc) (Aa ta tn tc)/\An w'.heap.size w' w'):=⟨P0.o,Ao _ _⟩
   clear TH;have hfi1:=hfi w' P2.o.1.bel;clear hfi;go_wp2_with fail;refine hfi1.mono ?_;rintro e w3 ⟨r3,rfl,FR,rfl⟩
   have h3p:¬r3<0:=by
    rcases FR.o with⟨q,_⟩ | ⟨_,k,q⟩
    ·cases q
    ·omega
   clear FR
   go_upto_region 5 with fail
   have W0:Hid (An w3.heap.size w3 w3.drew):=(Ao _ _).drew
   go_region_law
    (first
     | (refine ZcX rfl (.tmp 16) (.const (Ab Ak 4)) (.tmp 19) 130 #[33,3,9] rfl Zcs (rm d (Aa fa fl fc) (Aa oa on oc) (Aa ra rn rc) (Aa ta tn tc)) (Ab Ak 4) (Ae (s8++nb)) rfl rfl rfl _ (ADD.o w5 B5.o) ?_;intro v6 w6 h6;obtain⟨m6,r6,rfl,e6,R6,B6⟩:=h6.o;obtain⟨fa4,fl4,fc4,oa4,on4,oc4,ra4,rn4,rc4,ta4,tn4,tc4,rfl,q1,q2,q3,q4⟩:=R6;have P6:Hid (Two w w6 d (Aa fa fl fc) (Aa oa on oc) (Aa ra rn rc) (Aa ta tn tc)/\r6=Q.2.2/\RMS (Zy Z w) w6 (rm Q.2.1 (Aa fa4 fl4 fc4) (Aa oa4 on4 oc4) (Aa ra4 rn4 rc4) (Aa ta4 tn4 tc4)) Q.1 Q.2.1):=⟨P5.o.below B6,e6,fa4,fl4,fc4,oa4,on4,oc4,ra4,rn4,rc4,ta4,tn4,tc4,rfl,q1,q2,q3,q4⟩;obtain⟨z0,z1,z2,z3,z4,z5,z6,z7,z8⟩:=P6.o.1.res.cells;have gz:=P6.o.1.res.thaw;have g0:=gz 0;have g1:=gz 1;have g2:=gz 2;have g3:=gz 3;have g4:=gz 4;have g5:=gz 5;have g6:=gz 6;have g7:=gz 7;have g8:=gz 8;have l2:=P6.o.1.res.lt;clear gz;clear e6 B6 q1 q2 q3 q4 h6)
     | (refine Zbd rfl (.const (Ab Al 0)) (.const (Ab Ak 8)) 49 #[43,3] rfl Zcm (Ab Al 0) (Ab Ak 8) rfl rfl _ (NUM.o _) ?_;intro v5 w5 h5;obtain⟨rfl,b5⟩:=h5.o;have B5:Hid (An w3.heap.size w3 w5):=P2.o.2.trans ((W0.o.trans (b5.mono W0.o.size)).mono P2.o.2.size);have P5:Hid (Two w w5 d (Aa fa fl fc) (Aa oa on oc) (Aa ra rn rc) (Aa ta tn tc)):=P2.o.1.below (W0.o.trans (b5.mono W0.o.size));obtain⟨y0,y1,y2,y3,y4,y5,y6,y7,y8⟩:=P5.o.box.cells;clear h5 b5))
   all_goals
    go_wp2;refine As (v:=Af #[(rm Q.2.1 (Aa fa4 fl4 fc4) (Aa oa4 on4 oc4) (Aa ra4 rn4 rc4) (Aa ta4 tn4 tc4)),Ab Ak r6]) ?_ rfl ⟨_,_,rfl,?_⟩
    ·simp[AH,Tryz.f77];go_simp
    ·exact⟨P6.o.2.1,Zak P6.o.1.bel P6.o.2.2 (Zae _ _ _ _ _ _ _ _ _ _ _)⟩
theorem ZhY(hZ:∀i,Z i->i<w.heap.size)(h:RMS Z w m st d)(aq:st.ok)(C:st.size<=1000000)(K:d.ok)(hw:d.writes<=1000000)(n:Bs)(hn:n.length<=140737488355328)(i:UInt64)(Q)(Y:stag st d n i=Q):
  At Am 75 #[m,tx n,Ab Al (i.toNat:Int)] w λ e w'=>∃m' r,e=Aj (Af #[m',Ab Ak r])/\Hid (r=Q.2.2/\RMS Z w' m' Q.1 Q.2.1/\An w.heap.size w w'):=by
 obtain⟨fa,s,fc,oa,on,oc,t,l,x,y,p,tc,rfl,h1,X,h3,h4⟩:=h
 have ho:on<=1000000:=by rw[<- X.len];unfold St.size at C;omega
 have av:l<=1000000:=by rw[<- h3.len];unfold St.size at C;omega
 have ar:p<=1000000:=by rw[<- h4.len];unfold St.size at C;omega
 have L:Hid (LG encF (Zy Z w) w fa s fc d.files/\LG encO (Zy Z w) w oa on oc st.objs/\LG encN (Zy Z w) w t l x st.refs/\LG encN (Zy Z w) w y p tc st.tags):=⟨h1.into ZaW,X.into ZaW,h3.into ZaW,h4.into ZaW⟩
 have HZ:Hid (∀i,Zy Z w i->i<w.heap.size+2):=Zil hZ
 have RB:Hid (∀W',An w.heap.size w W'->RMS (Zy Z w) W' (rm d (Aa fa s fc) (Aa oa on oc) (Aa t l x) (Aa y p tc)) st d):=λ W' b=>⟨fa,s,fc,oa,on,oc,t,l,x,y,p,tc,rfl,L.o.1.below b,L.o.2.1.below b,L.o.2.2.1.below b,L.o.2.2.2.below b⟩
 obtain⟨O,A⟩:∃O:ByteArray,O=⟨n.toArray⟩:=⟨_,rfl⟩
 have R:O.size=n.length:=by rw[A];show n.toArray.size=_;simp
 rw[show tx n=Ae O by rw[A]]
 obtain⟨W,hW⟩:=Xa ((w.alloc (nineC d (Aa fa s fc) (Aa oa on oc) (Aa t l x) (Aa y p tc))).alloc zeroC)
 have E:Hid (Two w W d (Aa fa s fc) (Aa oa on oc) (Aa t l x) (Aa y p tc)):=by rw[<- hW];exact Two.new w d _ _ _ _
 have U:=hid (BoxA.there (show BoxA W (w.heap.size+1) 33 #[Aa none 0 0,Ab Ak 0,Ad false,Ad false,Ab Ak 0,Ab Ak 0,Aa none 0 0,Aa none 0 0,Aa none 0 0]from E.o.res) (o:=0) (n:=9) (by simp));obtain⟨x0,x1,x2,x3,x4,x5,x6,x7,x8⟩:=E.o.box.cells;have D:=Zat O (by omega) W;rw[show isName O.data.toList=isName n by rw[A]]at D
 cases a:isName n with
 | false =>
  have V:Q=(st,d,2):=by rw[<- Y];unfold stag;rw[AE a]
  subst V;rw[a]at D;clear h1 X h3 h4 hZ C K hw R A Y a;go_enter func75,ntmps75;go_wp2_with fail;refine D.mono ?_;rintro e w' ⟨rfl,rfl⟩;go_wp2_with(refine Zaj rfl 33 (.tmp 6) (.tmp 11) rfl (w.heap.size+1) 0 #[Aa fa s fc,Ab Ak (d.writes:Int),Ad d.armed,Ad d.dead,Ab Ak (d.after:Int),Ab Ak (d.keep:Int),Aa oa on oc,Aa t l x,Aa y p tc] rfl rfl U.o (by kernel_rfl) (by simp[Cn]) ?_;intro w4 j;have hT:Zaa (λ i=>i=w.heap.size+1) w' w4:=(by rw[j];exact Zal _ _ _);have G:=(BoxA.lays (show BoxA w' (w.heap.size+1) 33 #[Aa none 0 0,Ab Ak 0,Ad false,Ad false,Ab Ak 0,Ab Ak 0,Aa none 0 0,Aa none 0 0,Aa none 0 0]from E.o.res) (#[Aa fa s fc,Ab Ak (d.writes:Int),Ad d.armed,Ad d.dead,Ab Ak (d.after:Int),Ab Ak (d.keep:Int),Aa oa on oc,Aa t l x,Aa y p tc]:Array Ar).toList 0);rw[<- j,ZhM]at G;obtain⟨z0,z1,z2,z3,z4,z5,z6,z7,z8⟩:=Nine.cells (show Nine w4 (w.heap.size+1) _ _ _ _ _ _ _ _ _ from G);have HT:=hid hT;clear hT G j);refine As (v:=Af #[(rm d (Aa fa s fc) (Aa oa on oc) (Aa t l x) (Aa y p tc)),Ab Ak 2]) ?_ rfl ⟨_,_,rfl,?_⟩
  ·simp[AH,Tryz.f75];go_simp
  ·exact⟨rfl,Zak E.o.bel (RB.o _ E.o.bel) HT.o⟩
 | true =>
  rw[a]at D;have nl:=ZbO a
  obtain⟨g,N⟩:=Xa (st.has 3 i)
  have P:=λ(u:Ap) (b:An W.heap.size W u)=>ZaK (d:=d) (vf:=Aa fa s fc) (oc:=oc) (vr:=Aa t l x) (vt:=Aa y p tc) (w:=u) (X.rd.below (E.o.bel.trans (b.mono E.o.bel.size))) X.len ho 3 i g N
  have z:=P W (Ao _ _)
  cases g with
  | false =>
   have V:Q=(st,d,5):=by rw[<- Y];unfold stag;rw[Aw (by rw[a];decide),AE N]
   subst V;clear h1 X h3 h4 hZ C K hw R A Y a P N;go_enter func75,ntmps75;go_wp2_with fail;refine D.mono ?_;rintro e w' ⟨rfl,rfl⟩;go_wp2_with fail;refine z.mono ?_;rintro e F ⟨rfl,T⟩;have B:Hid (Two w F d (Aa fa s fc) (Aa oa on oc) (Aa t l x) (Aa y p tc)):=E.o.below T;clear x0 x1 x2 x3 x4 x5 x6 x7 x8 z U;obtain⟨x0,x1,x2,x3,x4,x5,x6,x7,x8⟩:=B.o.box.cells;have U:=hid (BoxA.there (show BoxA F (w.heap.size+1) 33 #[Aa none 0 0,Ab Ak 0,Ad false,Ad false,Ab Ak 0,Ab Ak 0,Aa none 0 0,Aa none 0 0,Aa none 0 0]from B.o.res) (o:=0) (n:=9) (by simp));go_wp2_with(refine Zaj rfl 33 (.tmp 6) (.tmp 16) rfl (w.heap.size+1) 0 #[Aa fa s fc,Ab Ak (d.writes:Int),Ad d.armed,Ad d.dead,Ab Ak (d.after:Int),Ab Ak (d.keep:Int),Aa oa on oc,Aa t l x,Aa y p tc] rfl rfl U.o (by kernel_rfl) (by simp[Cn]) ?_;intro w4 j;have hT:Zaa (λ i=>i=w.heap.size+1) F w4:=(by rw[j];exact Zal _ _ _);have G:=(BoxA.lays (show BoxA F (w.heap.size+1) 33 #[Aa none 0 0,Ab Ak 0,Ad false,Ad false,Ab Ak 0,Ab Ak 0,Aa none 0 0,Aa none 0 0,Aa none 0 0]from B.o.res) (#[Aa fa s fc,Ab Ak (d.writes:Int),Ad d.armed,Ad d.dead,Ab Ak (d.after:Int),Ab Ak (d.keep:Int),Aa oa on oc,Aa t l x,Aa y p tc]:Array Ar).toList 0);rw[<- j,ZhM]at G;obtain⟨z0,z1,z2,z3,z4,z5,z6,z7,z8⟩:=Nine.cells (show Nine w4 (w.heap.size+1) _ _ _ _ _ _ _ _ _ from G);have HT:=hid hT;clear hT G j);refine As (v:=Af #[(rm d (Aa fa s fc) (Aa oa on oc) (Aa t l x) (Aa y p tc)),Ab Ak 5]) ?_ rfl ⟨_,_,rfl,?_⟩
   ·simp[AH,Tryz.f75];go_simp
   ·exact⟨rfl,Zak B.o.bel (RB.o _ B.o.bel) HT.o⟩
  | true =>
   have ap:i≠0:=by
    intro e;rw[e,ZdB aq]at N;cases N
   obtain⟨f,hf⟩:=Xa ((nget st.tags n).isSome)
   have I:=λ(u:Ap) (b:An w.heap.size w u)=>Zca (c:=tc) st.tags n u (L.o.2.2.2.rd.below b) L.o.2.2.2.len ar
   rw[hf,show tx n=Ae O by rw[A]]at I
   cases f with
   | true =>
    have V:Q=(st,d,6):=by rw[<- Y];unfold stag;rw[Aw (by rw[a];decide),Aw (by rw[N];decide),AE hf]
    subst V;clear h1 X h3 h4 hZ C K hw R A Y a hf P N ap;go_enter func75,ntmps75;go_wp2_with fail;refine D.mono ?_;rintro e w' ⟨rfl,rfl⟩;go_wp2_with fail;refine z.mono ?_;rintro e F ⟨rfl,T⟩;have B:Hid (Two w F d (Aa fa s fc) (Aa oa on oc) (Aa t l x) (Aa y p tc)):=E.o.below T;clear x0 x1 x2 x3 x4 x5 x6 x7 x8 z U T;obtain⟨x0,x1,x2,x3,x4,x5,x6,x7,x8⟩:=B.o.box.cells;have U:=hid (BoxA.there (show BoxA F (w.heap.size+1) 33 #[Aa none 0 0,Ab Ak 0,Ad false,Ad false,Ab Ak 0,Ab Ak 0,Aa none 0 0,Aa none 0 0,Aa none 0 0]from B.o.res) (o:=0) (n:=9) (by simp));have J:=I F B.o.bel;clear I;go_wp2_with fail;refine J.mono ?_;rintro e w3 ⟨r3,rfl,FR,rfl⟩
    have au:(0:Int)<=r3:=by
     rcases FR.o with⟨q,_⟩ | ⟨_,k,q⟩
     ·cases q
     ·omega
    clear FR;go_wp2_with(refine Zaj rfl 33 (.tmp 6) (.tmp 22) rfl (w.heap.size+1) 0 #[Aa fa s fc,Ab Ak (d.writes:Int),Ad d.armed,Ad d.dead,Ab Ak (d.after:Int),Ab Ak (d.keep:Int),Aa oa on oc,Aa t l x,Aa y p tc] rfl rfl U.o (by kernel_rfl) (by simp[Cn]) ?_;intro w4 j;have hT:Zaa (λ i=>i=w.heap.size+1) w3 w4:=(by rw[j];exact Zal _ _ _);have G:=(BoxA.lays (show BoxA w3 (w.heap.size+1) 33 #[Aa none 0 0,Ab Ak 0,Ad false,Ad false,Ab Ak 0,Ab Ak 0,Aa none 0 0,Aa none 0 0,Aa none 0 0]from B.o.res) (#[Aa fa s fc,Ab Ak (d.writes:Int),Ad d.armed,Ad d.dead,Ab Ak (d.after:Int),Ab Ak (d.keep:Int),Aa oa on oc,Aa t l x,Aa y p tc]:Array Ar).toList 0);rw[<- j,ZhM]at G;obtain⟨z0,z1,z2,z3,z4,z5,z6,z7,z8⟩:=Nine.cells (show Nine w4 (w.heap.size+1) _ _ _ _ _ _ _ _ _ from G);have HT:=hid hT;clear hT G j);refine As (v:=Af #[(rm d (Aa fa s fc) (Aa oa on oc) (Aa t l x) (Aa y p tc)),Ab Ak 6]) ?_ rfl ⟨_,_,rfl,?_⟩
    ·simp[AH,Tryz.f75];go_simp
    ·exact⟨rfl,Zak B.o.bel (RB.o _ B.o.bel) HT.o⟩
   | false =>
    have V:sapp st d (5,labB i n)=Q:=by 
     rw[<- Y];unfold stag;rw[Aw (by rw[a];decide),Aw (by rw[N];decide),Aw (by rw[hf];decide)]
    have aa:st.fits (5,labB i n)=true:=by unfold St.fits;rw[AE (.inr rfl)];simp[ZbK,ZbN,Zax,a,N,hf]
    have an:Hid (∀u:Ap,An W.heap.size W u->At Am 130 #[(rm d (Aa fa s fc) (Aa oa on oc) (Aa t l x) (Aa y p tc)),Ab Ak 5,tx (labB i n)] u λ e w'=>∃v,e=Aj v/\Hid (∃m' r,v=Af #[m',Ab Ak r]/\r=Q.2.2/\RMS (Zy Z w) w' m' Q.1 Q.2.1/\An u.heap.size u w')):=by
     intro u b;have b0:=E.o.bel.trans (b.mono E.o.bel.size);have h:=ZdC (λ i q=>by have:=HZ.o i q;have:=E.o.size;have:=b.size;omega) (RB.o u b0) C K hw 5 (by omega) (by omega) (labB i n) (by rw[Zax];omega) aa;rw[V]at h;refine h.mono ?_;rintro e w' ⟨m',r,rfl,H⟩;exact⟨_,rfl,m',r,rfl,H.o.1,H.o.2.1,H.o.2.2⟩
    have ao:Hid (∀u:Ap,At Am 49 #[Ab Al (i.toNat:Int),Ab Ak 8] u λ e w'=>∃v,e=Aj v/\Hid (v=tx (b8 i)/\An u.heap.size u w')):=by
     intro u;refine(ZaD (i:UInt64).toNat 8 (Gq _) (by omega) u).mono ?_;rintro e w' ⟨rfl,hb⟩;exact⟨_,rfl,rfl,hb⟩
    obtain⟨s8,S⟩:∃s8:ByteArray,s8=⟨(b8 i).toArray⟩:=⟨_,rfl⟩
    rw[show tx (b8 i)=Ae s8 by rw[S]]at ao
    have l8:s8.size=8:=by rw[S];show(b8 i).toArray.size=8;simp[b8,Zar]
    have a1:¬(9223372036854775807<s8.size+O.size):=by omega
    have eb:tx (labB i n)=Ae (s8++O):=by
     rw[S,A];show Ae _=Ae _
     congr 1 <;> (apply ByteArray.ext;simp[labB])
    rw[eb]at an;clear h1 X h3 h4 hZ C K hw R Y a nl eb V aa S l8 P N ap hf A;go_enter func75,ntmps75;go_wp2_with fail;refine D.mono ?_;rintro e w' ⟨rfl,rfl⟩;go_wp2_with fail;refine z.mono ?_;rintro e F ⟨rfl,T⟩
    have B:Hid (Two w F d (Aa fa s fc) (Aa oa on oc) (Aa t l x) (Aa y p tc)/\An w'.heap.size w' F):=⟨E.o.below T,T⟩
    clear x0 x1 x2 x3 x4 x5 x6 x7 x8 z U T;obtain⟨x0,x1,x2,x3,x4,x5,x6,x7,x8⟩:=B.o.1.box.cells;have J:=I F B.o.1.bel;clear I;go_wp2_with fail;refine J.mono ?_;rintro e w3 ⟨r3,rfl,FR,rfl⟩
    obtain rfl:r3 = -1:=by
     rcases FR.o with⟨_,q⟩ | ⟨q,_⟩
     ·exact q
     ·cases q
    clear FR
    go_upto_region 7 with fail
    have W0:Hid (An w3.heap.size w3 w3.drew):=(Ao _ _).drew
    go_region_law
     (first
      | (refine ZcX rfl (.tmp 23) (.const (Ab Ak 5)) (.tmp 27) 130 #[33,3,9] rfl Zcs (rm d (Aa fa s fc) (Aa oa on oc) (Aa t l x) (Aa y p tc)) (Ab Ak 5) (Ae (s8++O)) rfl rfl rfl _ (an.o w5 B5.o) ?_;intro v6 w6 h6;obtain⟨m6,r6,rfl,e6,R6,B6⟩:=h6.o;obtain⟨ab,ad,ac,ae,ag,af,ah,aj,ai,ak,am,al,rfl,q1,q2,q3,q4⟩:=R6;have P6:Hid (Two w w6 d (Aa fa s fc) (Aa oa on oc) (Aa t l x) (Aa y p tc)/\r6=Q.2.2/\RMS (Zy Z w) w6 (rm Q.2.1 (Aa ab ad ac) (Aa ae ag af) (Aa ah aj ai) (Aa ak am al)) Q.1 Q.2.1):=⟨P5.o.below B6,e6,ab,ad,ac,ae,ag,af,ah,aj,ai,ak,am,al,rfl,q1,q2,q3,q4⟩;obtain⟨z0,z1,z2,z3,z4,z5,z6,z7,z8⟩:=P6.o.1.res.cells;have M:=P6.o.1.res.thaw;have g0:=M 0;have g1:=M 1;have g2:=M 2;have g3:=M 3;have g4:=M 4;have g5:=M 5;have g6:=M 6;have g7:=M 7;have g8:=M 8;have l2:=P6.o.1.res.lt;clear M;clear e6 B6 q1 q2 q3 q4 h6)
      | (refine Zbd rfl (.tmp 24) (.const (Ab Ak 8)) 49 #[43,3] rfl Zcm (Ab Al (i.toNat:Int)) (Ab Ak 8) rfl rfl _ (ao.o _) ?_;intro v5 w5 h5;obtain⟨rfl,b5⟩:=h5.o;have B5:Hid (An w'.heap.size w' w5):=B.o.2.trans ((W0.o.trans (b5.mono W0.o.size)).mono B.o.2.size);have P5:Hid (Two w w5 d (Aa fa s fc) (Aa oa on oc) (Aa t l x) (Aa y p tc)):=B.o.1.below (W0.o.trans (b5.mono W0.o.size));obtain⟨y0,y1,y2,y3,y4,y5,y6,y7,y8⟩:=P5.o.box.cells;clear h5 b5))
    all_goals
     go_wp2;refine As (v:=Af #[(rm Q.2.1 (Aa ab ad ac) (Aa ae ag af) (Aa ah aj ai) (Aa ak am al)),Ab Ak r6]) ?_ rfl ⟨_,_,rfl,?_⟩
     ·simp[AH,Tryz.f75];go_simp
     ·exact⟨P6.o.2.1,Zak P6.o.1.bel P6.o.2.2 (Zae _ _ _ _ _ _ _ _ _ _ _)⟩
theorem Znc{N:Option Addr}{U:Nat->Prop}
  (hI:WI B E w s b (Aa fa L fc) (Aa oa on oc) (Aa N P O) (Aa R S tc) (Aa A C xc) (Aa D G F) (Aa z y zc) U st d bl tl cl) (h0:An B w0 w) (ab:w0.heap.size=B) (hB:B<=w.heap.size) (hq:RdG encI w0 qa qs) (af:qs.length=qn) (ag:qn<=4000000000000000000) (ao:cl.length<=1000000) (ah:st.ok) (ae:d.ok) (hw:d.writes<=1000000) (ai:st.size<=1000000) (dv Y:Ar) (nm:ByteArray) (ap:nm.size<=140737488355328) (dt kp:Int) (x:UInt64) (hx:pickU cl (pickI qs 0)=x) (Q) (hQ:sref st d nm.data.toList x=Q) :
  At Am 26 #[Ag (wdV s b d (Aa fa L fc) (Aa oa on oc) (Aa N P O) (Aa R S tc) (Aa A C xc) (Aa D G F) (Aa z y zc)),actV 3 dv Y (Aa qa qn qc) nm dt kp] w λ e w'=>∃vf vo vr vt,e=Aj (Af #[Ag (wdV s b Q.2.1 vf vo vr vt (Aa A C xc) (Aa D G F) (Aa z y zc)),Ad true])/\Hid (∃U',WI B E w' s b vf vo vr vt (Aa A C xc) (Aa D G F) (Aa z y zc) U' Q.1 Q.2.1 bl tl cl/\An B w0 w'/\∀i,E i->w'.heap[i]? = w.heap[i]?):=by
 obtain⟨W,hW⟩:=Xa (((w.alloc (Ai (wdV s b d (Aa fa L fc) (Aa oa on oc) (Aa N P O) (Aa R S tc) (Aa A C xc) (Aa D G F) (Aa z y zc)) 36)).alloc (Ai (actC 3 dv Y (Aa qa qn qc) nm dt kp) 81)).alloc (Ai zeroW 36))
 have bW:An w.heap.size w W:=by rw[<- hW];exact bz3 _ _ _ _
 have H:Bx w.heap.size W (wdV s b d (Aa fa L fc) (Aa oa on oc) (Aa N P O) (Aa R S tc) (Aa A C xc) (Aa D G F) (Aa z y zc)) (actC 3 dv Y (Aa qa qn qc) nm dt kp):=by rw[<- hW];exact Bx.new _ _ _
 have MD:Hid (Md B w.heap.size E (λ i=>Fb w.heap.size i∨E i) w0 w W s b (Aa fa L fc) (Aa oa on oc) (Aa N P O) (Aa R S tc) (Aa A C xc) (Aa D G F) (Aa z y zc) U st d bl tl cl (wdV s b d (Aa fa L fc) (Aa oa on oc) (Aa N P O) (Aa R S tc) (Aa A C xc) (Aa D G F) (Aa z y zc)) (actC 3 dv Y (Aa qa qn qc) nm dt kp)):=Md.start hI h0 hB H bW
 have ad:nm.data.toList.length<=140737488355328:=by
  have e:=bsize nm;omega
 have J:Hid (st.ok/\d.ok/\d.writes<=1000000/\st.size<=1000000/\nm.data.toList.length<=140737488355328/\sref st d nm.data.toList x=Q):=⟨ah,ae,hw,ai,ad,hQ⟩
 obtain⟨Z,T⟩:=Xa (pickI qs 0)
 obtain⟨xx,V⟩:∃xx:Int,(x.toNat:Int)=xx:=⟨_,rfl⟩
 have PI:Hid (At Am 71 #[Aa qa qn qc,Ab Ak 0] W.drew λ e w'=>e=Aj (Ab Ak Z)/\w'=W.drew):=ZcO ((hq.below (by rw[ab];exact MD.o.bel)).below (Ao _ W).drew) af ag 0 Z T
 have ak:y=cl.length:=by
  obtain⟨a',c',e',_⟩:=MD.o.inv.oc.form;cases e'
  rfl
 have PU:Hid (At Am 11 #[Aa z y zc,Ab Ak Z] W.drew λ e w'=>e=Aj (Ab Al xx)/\w'=W.drew):=ZbF (MD.o.inv.oc.rdc.1.below (Ao _ W).drew) ak.symm (by omega) Z xx (by rw[<- V,<- hx,T]);have XX:=hid V;have y3:=H.act.cell (j:=3) rfl;have y0:=H.act.cell (j:=0) rfl;have y4:=H.act.cell (j:=4) rfl;have al:=H.box.cell (j:=13) rfl;have p1:=H.box.cell (j:=1) rfl;clear hI h0 hB ah ae hw ai H bW ap ad hQ ab hq af ag ao hx T V ak;go_enter func26,ntmps26
 go_upto_region 34 with fail
 clear hW;go_cut[15] (λ cv u=>∃v,v=u/\cv=Ab Al xx/\Hid (An W.heap.size W v))
 case first =>
  go_region_law
   (first
    | (refine Za5 rfl (.tmp 150) (.const (Ab Ak 0)) 71 #[23,3] rfl Zct (Aa qa qn qc) (Ab Ak 0) (Ab Ak Z) (by simp[A8]) (by simp[A8]) PI.o ?_)
    | (refine Za5 rfl (.tmp 148) (.tmp 151) 11 #[34,3] rfl Zbk (Aa z y zc) (Ab Ak Z) (Ab Al xx) (by simp[A8]) (by simp[A8]) PU.o ?_))
  all_goals
   go_wp2_with fail;go_meet;exact⟨_,rfl,rfl,(Ao _ W).drew⟩
 case rest =>
 obtain⟨u0,rfl,ac,aa⟩:=hcut;subst ac;have I:Hid (Md B w.heap.size E (λ i=>Fb w.heap.size i∨E i) w0 w u0 s b (Aa fa L fc) (Aa oa on oc) (Aa N P O) (Aa R S tc) (Aa A C xc) (Aa D G F) (Aa z y zc) U st d bl tl cl (wdV s b d (Aa fa L fc) (Aa oa on oc) (Aa N P O) (Aa R S tc) (Aa A C xc) (Aa D G F) (Aa z y zc)) (actC 3 dv Y (Aa qa qn qc) nm dt kp)):=MD.o.below aa.o;clear MD y0 y3 y4 p1 al PI PU aa;have y0:=I.o.bx.act.cell (j:=0) rfl;have y4:=I.o.bx.act.cell (j:=4) rfl;have p1:=I.o.bx.box.cell (j:=1) rfl;have M:=ZjB (U:=U) I.o.inv.duo J.o.1 nm.data.toList x J.o.2.1 J.o.2.2.1 (by have:=J.o.2.2.2.1;unfold St.size at this;omega) (by have:=J.o.2.2.2.1;unfold St.size at this;omega);rw[J.o.2.2.2.2.2]at M;rw[show tx nm.data.toList=Ae nm from rfl,XX.o]at M;go_wp2_with fail;refine M.mono ?_;rintro e u1 ⟨r8,rfl,H8⟩
 have HE:Hid (r8=Q.2.2/\Aft u0 u1 s b Q.1 Q.2.1 U (ZaA U u0 u1)):=⟨H8.o.1,Aft.of (Ao _ _) H8.o.2.1 H8.o.2.2⟩
 clear M H8 y0 y4 p1;obtain⟨c1,c2,K,c4,_⟩:=I.o.call (u2:=u1) HE.o.2;have hr:=Zia c2 c1 J.o.1 J.o.2.2.2.1 J.o.2.1 J.o.2.2.1 nm.data.toList J.o.2.2.2.2.1 x Q J.o.2.2.2.2.2;rw[show tx nm.data.toList=Ae nm from rfl,XX.o]at hr;have g2:=K.box.cell (j:=2) rfl;have g3:=K.box.cell (j:=3) rfl;have g4:=K.box.cell (j:=4) rfl;have g5:=K.box.cell (j:=5) rfl;have g6:=K.box.cell (j:=6) rfl;have g7:=K.box.cell (j:=7) rfl;have g8:=K.box.cell (j:=8) rfl;have g9:=K.box.cell (j:=9) rfl;have an:=K.box.cell (j:=10) rfl;have ga:=K.act.cell (j:=4) rfl;have gk:=K.act.cell (j:=0) rfl;clear c1 c2 c4;go_wp2_with fail;clear K;refine hr.mono ?_;rintro e u2 ⟨m',r9,rfl,H9⟩;obtain⟨q2,q3,q4⟩:=H9.o;obtain⟨a,f,c,g,k,h,l,p,m,q,t,r,rfl,l1,l2,l3,l4⟩:=q3
 have eR:r8=r9:=by rw[q2,HE.o.1]
 have M2:Hid (Md B w.heap.size E (λ i=>Fb w.heap.size i∨E i) w0 w u2 s b (Aa a f c) (Aa g k h) (Aa l p m) (Aa q t r) (Aa A C xc) (Aa D G F) (Aa z y zc) (ZaA U u0 u1) Q.1 Q.2.1 bl tl cl (wdV s b d (Aa fa L fc) (Aa oa on oc) (Aa N P O) (Aa R S tc) (Aa A C xc) (Aa D G F) (Aa z y zc)) (actC 3 dv Y (Aa qa qn qc) nm dt kp)):=(I.o.call HE.o.2).2.2.2.2 _ _ _ _ q4 ⟨a,f,c,g,k,h,l,p,m,q,t,r,rfl,l1,l2,l3,l4⟩;clear q2 q4 l1 l2 l3 l4 H9 hr g2 g3 g4 g5 g6 g7 g8 g9 an ga gk;subst eR
 obtain⟨X,hX⟩:=Xa (layL u2 w.heap.size [Aa a f c,Ab Ak (Q.2.1.writes:Int),Ad Q.2.1.armed,Ad Q.2.1.dead,Ab Ak (Q.2.1.after:Int),Ab Ak (Q.2.1.keep:Int),Aa g k h,Aa l p m,Aa q t r] 2)
 have M3:Hid (Md B w.heap.size E (λ i=>Fb w.heap.size i∨E i) w0 w X s b (Aa a f c) (Aa g k h) (Aa l p m) (Aa q t r) (Aa A C xc) (Aa D G F) (Aa z y zc) (ZaA U u0 u1) Q.1 Q.2.1 bl tl cl (wdV s b Q.2.1 (Aa a f c) (Aa g k h) (Aa l p m) (Aa q t r) (Aa A C xc) (Aa D G F) (Aa z y zc)) (actC 3 dv Y (Aa qa qn qc) nm dt kp)):=by
  have h1:=M2.o.bx.box.lays [Aa a f c,Ab Ak (Q.2.1.writes:Int),Ad Q.2.1.armed,Ad Q.2.1.dead,Ab Ak (Q.2.1.after:Int),Ab Ak (Q.2.1.keep:Int),Aa g k h,Aa l p m,Aa q t r] 2;rw[hX,set9]at h1;exact M2.o.lay (by rw[<- hX];exact Zal _ _ _) h1
 have TH:=hid (M2.o.bx.box.there (o:=2) (n:=9) (by simp[wdV]));have am:=hid hX;clear hX M2
 go_upto_region 54 with(refine Zaj rfl 33 (.tmp 171) (.tmp 169) rfl w.heap.size 2 #[Aa a f c,Ab Ak (Q.2.1.writes:Int),Ad Q.2.1.armed,Ad Q.2.1.dead,Ab Ak (Q.2.1.after:Int),Ab Ak (Q.2.1.keep:Int),Aa g k h,Aa l p m,Aa q t r] rfl rfl TH.o (by kernel_rfl) (by simp[Cn]) ?_;intro w9 aj;obtain rfl:X=w9:=(aj.trans am.o).symm;clear aj;have yk:=M3.o.bx.act.cell (j:=0) rfl)
 obtain⟨p0,p1,p2,p3,p4,p5,p6,p7,p8,p9,aw,ax,ay,al⟩:=M3.o.bx.box.c14;obtain⟨s0,s1,s2,s3,s4,s5,s6,s7,s8,s9,az,aA,aB,aC⟩:=M3.o.bx.res.c14;obtain⟨f0,f1,f2,f3,f4,f5,f6,f7,f8,f9,aq,ar,au,av⟩:=M3.o.bx.res.t14;go_wp2;refine As (v:=Af #[Ag (wdV s b Q.2.1 (Aa a f c) (Aa g k h) (Aa l p m) (Aa q t r) (Aa A C xc) (Aa D G F) (Aa z y zc)),Ad true]) ?_ rfl ⟨_,_,_,_,rfl,?_⟩
 ·simp[AH,Tryz.f26];go_simp
 ·have ht:=Zal (W:=X) (w.heap.size+2) [Ah (some ⟨b,0,none⟩),Ah (some ⟨s,0,none⟩),Aa a f c,Ab Ak (Q.2.1.writes:Int),Ad Q.2.1.armed,Ad Q.2.1.dead,Ab Ak (Q.2.1.after:Int),Ab Ak (Q.2.1.keep:Int),Aa g k h,Aa l p m,Aa q t r,Aa A C xc,Aa D G F,Aa z y zc] 0;simp only[layL,BT]at ht;exact⟨_,M3.o.done ht⟩
theorem ZoE{N:Option Addr}{U:Nat->Prop}
  (hI:WI B E w s b (Aa fa L fc) (Aa oa on oc) (Aa N P O) (Aa R S tc) (Aa A C xc) (Aa D G F) (Aa z y zc) U st d bl tl cl) (h0:An B w0 w) (ab:w0.heap.size=B) (hB:B<=w.heap.size) (hq:RdG encI w0 qa qs) (af:qs.length=qn) (ag:qn<=4000000000000000000) (ao:cl.length<=1000000) (ah:st.ok) (ae:d.ok) (hw:d.writes<=1000000) (ai:st.size<=1000000) (dv Y:Ar) (nm:ByteArray) (ap:nm.size<=140737488355328) (dt kp:Int) (x:UInt64) (hx:pickU cl (pickI qs 0)=x) (Q) (hQ:stag st d nm.data.toList x=Q) :
  At Am 26 #[Ag (wdV s b d (Aa fa L fc) (Aa oa on oc) (Aa N P O) (Aa R S tc) (Aa A C xc) (Aa D G F) (Aa z y zc)),actV 4 dv Y (Aa qa qn qc) nm dt kp] w λ e w'=>∃vf vo vr vt,e=Aj (Af #[Ag (wdV s b Q.2.1 vf vo vr vt (Aa A C xc) (Aa D G F) (Aa z y zc)),Ad true])/\Hid (∃U',WI B E w' s b vf vo vr vt (Aa A C xc) (Aa D G F) (Aa z y zc) U' Q.1 Q.2.1 bl tl cl/\An B w0 w'/\∀i,E i->w'.heap[i]? = w.heap[i]?):=by
 obtain⟨W,hW⟩:=Xa (((w.alloc (Ai (wdV s b d (Aa fa L fc) (Aa oa on oc) (Aa N P O) (Aa R S tc) (Aa A C xc) (Aa D G F) (Aa z y zc)) 36)).alloc (Ai (actC 4 dv Y (Aa qa qn qc) nm dt kp) 81)).alloc (Ai zeroW 36))
 have bW:An w.heap.size w W:=by rw[<- hW];exact bz3 _ _ _ _
 have H:Bx w.heap.size W (wdV s b d (Aa fa L fc) (Aa oa on oc) (Aa N P O) (Aa R S tc) (Aa A C xc) (Aa D G F) (Aa z y zc)) (actC 4 dv Y (Aa qa qn qc) nm dt kp):=by rw[<- hW];exact Bx.new _ _ _
 have MD:Hid (Md B w.heap.size E (λ i=>Fb w.heap.size i∨E i) w0 w W s b (Aa fa L fc) (Aa oa on oc) (Aa N P O) (Aa R S tc) (Aa A C xc) (Aa D G F) (Aa z y zc) U st d bl tl cl (wdV s b d (Aa fa L fc) (Aa oa on oc) (Aa N P O) (Aa R S tc) (Aa A C xc) (Aa D G F) (Aa z y zc)) (actC 4 dv Y (Aa qa qn qc) nm dt kp)):=Md.start hI h0 hB H bW
 have ad:nm.data.toList.length<=140737488355328:=by
  have e:=bsize nm;omega
 have I:Hid (st.ok/\d.ok/\d.writes<=1000000/\st.size<=1000000/\nm.data.toList.length<=140737488355328/\stag st d nm.data.toList x=Q):=⟨ah,ae,hw,ai,ad,hQ⟩
 obtain⟨Z,T⟩:=Xa (pickI qs 0)
 obtain⟨xx,V⟩:∃xx:Int,(x.toNat:Int)=xx:=⟨_,rfl⟩
 have PI:Hid (At Am 71 #[Aa qa qn qc,Ab Ak 0] W.drew λ e w'=>e=Aj (Ab Ak Z)/\w'=W.drew):=ZcO ((hq.below (by rw[ab];exact MD.o.bel)).below (Ao _ W).drew) af ag 0 Z T
 have ak:y=cl.length:=by
  obtain⟨a',c',e',_⟩:=MD.o.inv.oc.form;cases e'
  rfl
 have PU:Hid (At Am 11 #[Aa z y zc,Ab Ak Z] W.drew λ e w'=>e=Aj (Ab Al xx)/\w'=W.drew):=ZbF (MD.o.inv.oc.rdc.1.below (Ao _ W).drew) ak.symm (by omega) Z xx (by rw[<- V,<- hx,T]);have XX:=hid V;have y3:=H.act.cell (j:=3) rfl;have y0:=H.act.cell (j:=0) rfl;have y4:=H.act.cell (j:=4) rfl;have al:=H.box.cell (j:=13) rfl;have p1:=H.box.cell (j:=1) rfl;clear hI h0 hB ah ae hw ai H bW ap ad hQ ab hq af ag ao hx T V ak;go_enter func26,ntmps26
 go_upto_region 34 with fail
 clear hW;go_cut[15] (λ cv u=>∃v,v=u/\cv=Ab Al xx/\Hid (An W.heap.size W v))
 case first =>
  go_region_law
   (first
    | (refine Za5 rfl (.tmp 150) (.const (Ab Ak 0)) 71 #[23,3] rfl Zct (Aa qa qn qc) (Ab Ak 0) (Ab Ak Z) (by simp[A8]) (by simp[A8]) PI.o ?_)
    | (refine Za5 rfl (.tmp 148) (.tmp 151) 11 #[34,3] rfl Zbk (Aa z y zc) (Ab Ak Z) (Ab Al xx) (by simp[A8]) (by simp[A8]) PU.o ?_))
  all_goals
   go_wp2_with fail;go_meet;exact⟨_,rfl,rfl,(Ao _ W).drew⟩
 case rest =>
 obtain⟨u0,rfl,ac,aa⟩:=hcut;subst ac;have J:Hid (Md B w.heap.size E (λ i=>Fb w.heap.size i∨E i) w0 w u0 s b (Aa fa L fc) (Aa oa on oc) (Aa N P O) (Aa R S tc) (Aa A C xc) (Aa D G F) (Aa z y zc) U st d bl tl cl (wdV s b d (Aa fa L fc) (Aa oa on oc) (Aa N P O) (Aa R S tc) (Aa A C xc) (Aa D G F) (Aa z y zc)) (actC 4 dv Y (Aa qa qn qc) nm dt kp)):=MD.o.below aa.o;clear MD y0 y3 y4 p1 al PI PU aa;have y0:=J.o.bx.act.cell (j:=0) rfl;have y4:=J.o.bx.act.cell (j:=4) rfl;have p1:=J.o.bx.box.cell (j:=1) rfl;have M:=Zkw (U:=U) J.o.inv.duo I.o.1 nm.data.toList I.o.2.2.2.2.1 x I.o.2.1 I.o.2.2.1 (by have:=I.o.2.2.2.1;unfold St.size at this;omega) (by have:=I.o.2.2.2.1;unfold St.size at this;omega);rw[I.o.2.2.2.2.2]at M;rw[show tx nm.data.toList=Ae nm from rfl,XX.o]at M;go_wp2_with fail;refine M.mono ?_;rintro e u1 ⟨r8,rfl,H8⟩
 have HE:Hid (r8=Q.2.2/\Aft u0 u1 s b Q.1 Q.2.1 U (ZaA U u0 u1)):=⟨H8.o.1,Aft.of (Ao _ _) H8.o.2.1 H8.o.2.2⟩
 clear M H8 y0 y4 p1;obtain⟨c1,c2,K,c4,_⟩:=J.o.call (u2:=u1) HE.o.2;have hr:=ZhY c2 c1 I.o.1 I.o.2.2.2.1 I.o.2.1 I.o.2.2.1 nm.data.toList I.o.2.2.2.2.1 x Q I.o.2.2.2.2.2;rw[show tx nm.data.toList=Ae nm from rfl,XX.o]at hr;have g2:=K.box.cell (j:=2) rfl;have g3:=K.box.cell (j:=3) rfl;have g4:=K.box.cell (j:=4) rfl;have g5:=K.box.cell (j:=5) rfl;have g6:=K.box.cell (j:=6) rfl;have g7:=K.box.cell (j:=7) rfl;have g8:=K.box.cell (j:=8) rfl;have g9:=K.box.cell (j:=9) rfl;have an:=K.box.cell (j:=10) rfl;have ga:=K.act.cell (j:=4) rfl;have gk:=K.act.cell (j:=0) rfl;clear c1 c2 c4;go_wp2_with fail;clear K;refine hr.mono ?_;rintro e u2 ⟨m',r9,rfl,H9⟩;obtain⟨q2,q3,q4⟩:=H9.o;obtain⟨a,f,c,g,k,h,l,p,m,q,t,r,rfl,l1,l2,l3,l4⟩:=q3
 have eR:r8=r9:=by rw[q2,HE.o.1]
 have M2:Hid (Md B w.heap.size E (λ i=>Fb w.heap.size i∨E i) w0 w u2 s b (Aa a f c) (Aa g k h) (Aa l p m) (Aa q t r) (Aa A C xc) (Aa D G F) (Aa z y zc) (ZaA U u0 u1) Q.1 Q.2.1 bl tl cl (wdV s b d (Aa fa L fc) (Aa oa on oc) (Aa N P O) (Aa R S tc) (Aa A C xc) (Aa D G F) (Aa z y zc)) (actC 4 dv Y (Aa qa qn qc) nm dt kp)):=(J.o.call HE.o.2).2.2.2.2 _ _ _ _ q4 ⟨a,f,c,g,k,h,l,p,m,q,t,r,rfl,l1,l2,l3,l4⟩;clear q2 q4 l1 l2 l3 l4 H9 hr g2 g3 g4 g5 g6 g7 g8 g9 an ga gk;subst eR
 obtain⟨X,hX⟩:=Xa (layL u2 w.heap.size [Aa a f c,Ab Ak (Q.2.1.writes:Int),Ad Q.2.1.armed,Ad Q.2.1.dead,Ab Ak (Q.2.1.after:Int),Ab Ak (Q.2.1.keep:Int),Aa g k h,Aa l p m,Aa q t r] 2)
 have M3:Hid (Md B w.heap.size E (λ i=>Fb w.heap.size i∨E i) w0 w X s b (Aa a f c) (Aa g k h) (Aa l p m) (Aa q t r) (Aa A C xc) (Aa D G F) (Aa z y zc) (ZaA U u0 u1) Q.1 Q.2.1 bl tl cl (wdV s b Q.2.1 (Aa a f c) (Aa g k h) (Aa l p m) (Aa q t r) (Aa A C xc) (Aa D G F) (Aa z y zc)) (actC 4 dv Y (Aa qa qn qc) nm dt kp)):=by
  have h1:=M2.o.bx.box.lays [Aa a f c,Ab Ak (Q.2.1.writes:Int),Ad Q.2.1.armed,Ad Q.2.1.dead,Ab Ak (Q.2.1.after:Int),Ab Ak (Q.2.1.keep:Int),Aa g k h,Aa l p m,Aa q t r] 2;rw[hX,set9]at h1;exact M2.o.lay (by rw[<- hX];exact Zal _ _ _) h1
 have TH:=hid (M2.o.bx.box.there (o:=2) (n:=9) (by simp[wdV]));have am:=hid hX;clear hX M2
 go_upto_region 54 with(refine Zaj rfl 33 (.tmp 187) (.tmp 185) rfl w.heap.size 2 #[Aa a f c,Ab Ak (Q.2.1.writes:Int),Ad Q.2.1.armed,Ad Q.2.1.dead,Ab Ak (Q.2.1.after:Int),Ab Ak (Q.2.1.keep:Int),Aa g k h,Aa l p m,Aa q t r] rfl rfl TH.o (by kernel_rfl) (by simp[Cn]) ?_;intro w9 aj;obtain rfl:X=w9:=(aj.trans am.o).symm;clear aj;have yk:=M3.o.bx.act.cell (j:=0) rfl)
 obtain⟨p0,p1,p2,p3,p4,p5,p6,p7,p8,p9,aw,ax,ay,al⟩:=M3.o.bx.box.c14;obtain⟨s0,s1,s2,s3,s4,s5,s6,s7,s8,s9,az,aA,aB,aC⟩:=M3.o.bx.res.c14;obtain⟨f0,f1,f2,f3,f4,f5,f6,f7,f8,f9,aq,ar,au,av⟩:=M3.o.bx.res.t14;go_wp2;refine As (v:=Af #[Ag (wdV s b Q.2.1 (Aa a f c) (Aa g k h) (Aa l p m) (Aa q t r) (Aa A C xc) (Aa D G F) (Aa z y zc)),Ad true]) ?_ rfl ⟨_,_,_,_,rfl,?_⟩
 ·simp[AH,Tryz.f26];go_simp
 ·have ht:=Zal (W:=X) (w.heap.size+2) [Ah (some ⟨b,0,none⟩),Ah (some ⟨s,0,none⟩),Aa a f c,Ab Ak (Q.2.1.writes:Int),Ad Q.2.1.armed,Ad Q.2.1.dead,Ab Ak (Q.2.1.after:Int),Ab Ak (Q.2.1.keep:Int),Aa g k h,Aa l p m,Aa q t r,Aa A C xc,Aa D G F,Aa z y zc] 0;simp only[layL,BT]at ht;exact⟨_,M3.o.done ht⟩
theorem ZkI{L O u y C:Option Addr}{K M x A z D:Nat}{U:Nat->Prop}
  (hI:WI B E w s b (Aa fa K fc) (Aa oa on oc) (Aa L N M) (Aa O P tc) (Aa u x xc) (Aa y A z) (Aa C D zc) U st d bl tl cl) (h0:An B w0 w) (hB:B<=w.heap.size) (Z:st.ok) (Y:d.ok) (hw:d.writes<=1000000) (aa:st.size<=1000000) (dv R:Ar) (nm:ByteArray) (ae:nm.size<=140737488355328) (dt kp:Int) (S:Ar) (Q) (hQ:sdrop st d nm.data.toList=Q) :
  At Am 26 #[Ag (wdV s b d (Aa fa K fc) (Aa oa on oc) (Aa L N M) (Aa O P tc) (Aa u x xc) (Aa y A z) (Aa C D zc)),actV 5 dv R S nm dt kp] w λ e w'=>∃vf vo vr vt,e=Aj (Af #[Ag (wdV s b Q.2.1 vf vo vr vt (Aa u x xc) (Aa y A z) (Aa C D zc)),Ad true])/\Hid (∃U',WI B E w' s b vf vo vr vt (Aa u x xc) (Aa y A z) (Aa C D zc) U' Q.1 Q.2.1 bl tl cl/\An B w0 w'/\∀i,E i->w'.heap[i]? = w.heap[i]?):=by
 obtain⟨W,hW⟩:=Xa (((w.alloc (Ai (wdV s b d (Aa fa K fc) (Aa oa on oc) (Aa L N M) (Aa O P tc) (Aa u x xc) (Aa y A z) (Aa C D zc)) 36)).alloc (Ai (actC 5 dv R S nm dt kp) 81)).alloc (Ai zeroW 36))
 have bW:An w.heap.size w W:=by rw[<- hW];exact bz3 _ _ _ _
 have H:Bx w.heap.size W (wdV s b d (Aa fa K fc) (Aa oa on oc) (Aa L N M) (Aa O P tc) (Aa u x xc) (Aa y A z) (Aa C D zc)) (actC 5 dv R S nm dt kp):=by rw[<- hW];exact Bx.new _ _ _
 have MD:Hid (Md B w.heap.size E (λ i=>Fb w.heap.size i∨E i) w0 w W s b (Aa fa K fc) (Aa oa on oc) (Aa L N M) (Aa O P tc) (Aa u x xc) (Aa y A z) (Aa C D zc) U st d bl tl cl (wdV s b d (Aa fa K fc) (Aa oa on oc) (Aa L N M) (Aa O P tc) (Aa u x xc) (Aa y A z) (Aa C D zc)) (actC 5 dv R S nm dt kp)):=Md.start hI h0 hB H bW
 have V:nm.data.toList.length<=140737488355328:=by
  have e:=bsize nm;omega
 have F:Hid (st.ok/\d.ok/\d.writes<=1000000/\st.size<=1000000/\nm.data.toList.length<=140737488355328/\sdrop st d nm.data.toList=Q):=⟨Z,Y,hw,aa,V,hQ⟩
 have y0:=H.act.cell (j:=0) rfl;have y4:=H.act.cell (j:=4) rfl;have p1:=H.box.cell (j:=1) rfl;clear hI h0 hB Z Y hw aa H bW ae V hQ;go_enter func26,ntmps26
 go_upto_region 41 with fail
 clear hW;have J:=MD;have I:=ZhO (U:=U) J.o.inv.duo F.o.1 nm.data.toList F.o.2.2.2.2.1 F.o.2.1 F.o.2.2.1 (by have:=F.o.2.2.2.1;unfold St.size at this;omega) (by have:=F.o.2.2.2.1;unfold St.size at this;omega);rw[F.o.2.2.2.2.2]at I;rw[show tx nm.data.toList=Ae nm from rfl]at I;go_wp2_with fail;refine I.mono ?_;rintro e u1 ⟨r8,rfl,H8⟩
 have HE:Hid (r8=Q.2.2/\Aft W u1 s b Q.1 Q.2.1 U (ZaA U W u1)):=⟨H8.o.1,Aft.of (Ao _ _) H8.o.2.1 H8.o.2.2⟩
 clear I H8 y0 y4 p1;obtain⟨c1,c2,G,c4,_⟩:=J.o.call (u2:=u1) HE.o.2;have hr:=Zha c2 c1 F.o.1 F.o.2.2.2.1 F.o.2.1 F.o.2.2.1 nm.data.toList F.o.2.2.2.2.1 Q F.o.2.2.2.2.2;rw[show tx nm.data.toList=Ae nm from rfl]at hr;have g2:=G.box.cell (j:=2) rfl;have g3:=G.box.cell (j:=3) rfl;have g4:=G.box.cell (j:=4) rfl;have g5:=G.box.cell (j:=5) rfl;have g6:=G.box.cell (j:=6) rfl;have g7:=G.box.cell (j:=7) rfl;have g8:=G.box.cell (j:=8) rfl;have g9:=G.box.cell (j:=9) rfl;have ad:=G.box.cell (j:=10) rfl;have ga:=G.act.cell (j:=4) rfl;have gk:=G.act.cell (j:=0) rfl;clear c1 c2 c4;go_wp2_with fail;clear G;refine hr.mono ?_;rintro e u2 ⟨m',r9,rfl,H9⟩;obtain⟨q2,q3,q4⟩:=H9.o;obtain⟨a,f,c,g,k,h,l,p,m,q,t,r,rfl,l1,l2,l3,l4⟩:=q3
 have eR:r8=r9:=by rw[q2,HE.o.1]
 have M2:Hid (Md B w.heap.size E (λ i=>Fb w.heap.size i∨E i) w0 w u2 s b (Aa a f c) (Aa g k h) (Aa l p m) (Aa q t r) (Aa u x xc) (Aa y A z) (Aa C D zc) (ZaA U W u1) Q.1 Q.2.1 bl tl cl (wdV s b d (Aa fa K fc) (Aa oa on oc) (Aa L N M) (Aa O P tc) (Aa u x xc) (Aa y A z) (Aa C D zc)) (actC 5 dv R S nm dt kp)):=(J.o.call HE.o.2).2.2.2.2 _ _ _ _ q4 ⟨a,f,c,g,k,h,l,p,m,q,t,r,rfl,l1,l2,l3,l4⟩;clear q2 q4 l1 l2 l3 l4 H9 hr g2 g3 g4 g5 g6 g7 g8 g9 ad ga gk;subst eR
 obtain⟨X,hX⟩:=Xa (layL u2 w.heap.size [Aa a f c,Ab Ak (Q.2.1.writes:Int),Ad Q.2.1.armed,Ad Q.2.1.dead,Ab Ak (Q.2.1.after:Int),Ab Ak (Q.2.1.keep:Int),Aa g k h,Aa l p m,Aa q t r] 2)
 have T:Hid (Md B w.heap.size E (λ i=>Fb w.heap.size i∨E i) w0 w X s b (Aa a f c) (Aa g k h) (Aa l p m) (Aa q t r) (Aa u x xc) (Aa y A z) (Aa C D zc) (ZaA U W u1) Q.1 Q.2.1 bl tl cl (wdV s b Q.2.1 (Aa a f c) (Aa g k h) (Aa l p m) (Aa q t r) (Aa u x xc) (Aa y A z) (Aa C D zc)) (actC 5 dv R S nm dt kp)):=by
  have h1:=M2.o.bx.box.lays [Aa a f c,Ab Ak (Q.2.1.writes:Int),Ad Q.2.1.armed,Ad Q.2.1.dead,Ab Ak (Q.2.1.after:Int),Ab Ak (Q.2.1.keep:Int),Aa g k h,Aa l p m,Aa q t r] 2;rw[hX,set9]at h1;exact M2.o.lay (by rw[<- hX];exact Zal _ _ _) h1
 have TH:=hid (M2.o.bx.box.there (o:=2) (n:=9) (by simp[wdV]));have ac:=hid hX;clear hX M2
 go_upto_region 54 with(refine Zaj rfl 33 (.tmp 203) (.tmp 201) rfl w.heap.size 2 #[Aa a f c,Ab Ak (Q.2.1.writes:Int),Ad Q.2.1.armed,Ad Q.2.1.dead,Ab Ak (Q.2.1.after:Int),Ab Ak (Q.2.1.keep:Int),Aa g k h,Aa l p m,Aa q t r] rfl rfl TH.o (by kernel_rfl) (by simp[Cn]) ?_;intro w9 ab;obtain rfl:X=w9:=(ab.trans ac.o).symm;clear ab;have yk:=T.o.bx.act.cell (j:=0) rfl)
 obtain⟨p0,p1,p2,p3,p4,p5,p6,p7,p8,p9,aj,ak,al,am⟩:=T.o.bx.box.c14;obtain⟨s0,s1,s2,s3,s4,s5,s6,s7,s8,s9,an,ao,ap,aq⟩:=T.o.bx.res.c14;obtain⟨f0,f1,f2,f3,f4,f5,f6,f7,f8,f9,af,ag,ah,ai⟩:=T.o.bx.res.t14;go_wp2;refine As (v:=Af #[Ag (wdV s b Q.2.1 (Aa a f c) (Aa g k h) (Aa l p m) (Aa q t r) (Aa u x xc) (Aa y A z) (Aa C D zc)),Ad true]) ?_ rfl ⟨_,_,_,_,rfl,?_⟩
 ·simp[AH,Tryz.f26];go_simp
 ·have ht:=Zal (W:=X) (w.heap.size+2) [Ah (some ⟨b,0,none⟩),Ah (some ⟨s,0,none⟩),Aa a f c,Ab Ak (Q.2.1.writes:Int),Ad Q.2.1.armed,Ad Q.2.1.dead,Ab Ak (Q.2.1.after:Int),Ab Ak (Q.2.1.keep:Int),Aa g k h,Aa l p m,Aa q t r,Aa u x xc,Aa y A z,Aa C D zc] 0;simp only[layL,BT]at ht;exact⟨_,T.o.done ht⟩
def AV.ac(a:AV)(data:Bs)(ps:List Bs)(qs:List Int):Ac:=⟨a.k,data,ps,qs,a.nm.data.toList,a.dt⟩
def Zqc(B:Nat)(E:Nat->Prop)(w0 w:Ap)(s b:Nat)(v':Wd)(u:Ar)(w':Ap):Prop :=
 ∃fa' fl' fc' oa' on' oc' ra' rn' rc' ta' tn' tc' xa' xn' xc' ya' yn' yc' za' zn' zc' U',u=Af #[Ag (wdV s b v'.d (Aa fa' fl' fc') (Aa oa' on' oc') (Aa ra' rn' rc') (Aa ta' tn' tc') (Aa xa' xn' xc') (Aa ya' yn' yc') (Aa za' zn' zc')),Ad true]/\WI B E w' s b (Aa fa' fl' fc') (Aa oa' on' oc') (Aa ra' rn' rc') (Aa ta' tn' tc') (Aa xa' xn' xc') (Aa ya' yn' yc') (Aa za' zn' zc') U' v'.st v'.d v'.bl v'.tl v'.cl/\An B w0 w'/\∀i,E i->w'.heap[i]? = w.heap[i]?
theorem play6{ra ta xa ya za:Option Addr}{fl rn rc tn xn yn yc zn:Nat}{U:Nat->Prop}{v:Wd}{a:AV}{data:Bs}{ps:List Bs}
  (P:WI B E w s b (Aa fa fl fc) (Aa oa on oc) (Aa ra rn rc) (Aa ta tn tc) (Aa xa xn xc) (Aa ya yn yc) (Aa za zn zc) U v.st v.d v.bl v.tl v.cl) (M:An B w0 w) (H:w0.heap.size=B) (O:B<=w.heap.size) (hA:Zds w0 a data ps qs) (l:a.nm.size<=140737488355328) (hk:a.k<6) (c:v.fine N) (K:N<=1000000) :
  At Am 26 #[Ag (wdV s b v.d (Aa fa fl fc) (Aa oa on oc) (Aa ra rn rc) (Aa ta tn tc) (Aa xa xn xc) (Aa ya yn yc) (Aa za zn zc)),a.val] w λ e w'=>∃u,e=Aj u/\Hid (Zqc B E w0 w s b (wstep (a.ac data ps qs) v) u w'):=by
 have R:v.d.writes<=1000000:=AZ c.writes K;have m:v.st.size<=1000000:=AZ c.size K;have W:v.bl.length<=1000000:=AZ c.bl K;have X:v.tl.length<=1000000:=AZ c.tl K;have I:v.cl.length<=1000000:=AZ c.cl K;by_cases h3:a.k<3
 ·refine(ZoI P M H O hA h3 c.d R m W X I).mono ?_;rintro e w' ⟨u,rfl,h⟩;obtain⟨g,j,i,n,r,p,t,y,x,z,C,A,aa,ad,ab,ae,ag,af,ah,aj,ai,D,Y,d',T,Z,V,e1,f,F,G,_,_,_,hr⟩:=h.o
  have J:wstep (a.ac data ps qs) v=⟨Y,d',T,Z,V⟩:=by
   rcases hr with⟨q,rfl,rfl,rfl,rfl,rfl⟩ | ⟨q,Q,L,rfl,rfl,rfl,rfl,rfl⟩ | ⟨q,Q,L,rfl,rfl,rfl,rfl,rfl⟩ | ⟨q,Q,L,rfl,rfl,rfl,rfl,rfl⟩
   ·unfold wstep AV.ac;simp only;rw[Aw (by omega),Aw (by omega),Aw (by omega),Aw (by omega),Aw (by omega),Aw (by omega)]
   ·unfold wstep AV.ac;simp only;rw[AE q,L]
   ·unfold wstep AV.ac;simp only;rw[Aw (by omega),AE q,L]
   ·unfold wstep AV.ac;simp only;rw[Aw (by omega),Aw (by omega),AE q,L]
  rw[J];exact⟨_,rfl,g,j,i,n,r,p,t,y,x,z,C,A,aa,ad,ab,ae,ag,af,ah,aj,ai,D,e1,f,F,G⟩
 ·obtain⟨k,da,dn,dc,pa,pn,pc,qa,qn,qc,nm,dt,kp⟩:=a;obtain⟨a1,a2,a3,a4,a5,a6,a7,a8,a9,S⟩:=hA;simp only at a1 a2 a3 a4 a5 a6 a7 a8 a9 S hk h3 l
  have hc:k=3∨k=4∨k=5:=by omega
  rcases hc with rfl|rfl|rfl
  ·have J:wstep (AV.ac ⟨3,da,dn,dc,pa,pn,pc,qa,qn,qc,nm,dt,kp⟩ data ps qs) v=⟨(sref v.st v.d nm.data.toList (pickU v.cl (pickI qs 0))).1,(sref v.st v.d nm.data.toList (pickU v.cl (pickI qs 0))).2.1,v.bl,v.tl,v.cl⟩:=by
    unfold wstep AV.ac;simp
   rw[J];refine(Znc P M H O a8 a9 (by omega) I c.st c.d R m _ _ nm l dt kp _ rfl _ rfl).mono ?_;rintro e w' ⟨vf,vo,vr,vt,rfl,h⟩;obtain⟨D,f,F,G⟩:=h.o;obtain⟨g,j,i,n,r,p,t,y,x,z,C,A,_,_,_,_,_,_,_,_,_,rfl,rfl,rfl,rfl,_,_,_⟩:=f.form;exact⟨_,rfl,_,_,_,_,_,_,_,_,_,_,_,_,_,_,_,_,_,_,_,_,_,D,rfl,f,F,G⟩
  ·have J:wstep (AV.ac ⟨4,da,dn,dc,pa,pn,pc,qa,qn,qc,nm,dt,kp⟩ data ps qs) v=⟨(stag v.st v.d nm.data.toList (pickU v.cl (pickI qs 0))).1,(stag v.st v.d nm.data.toList (pickU v.cl (pickI qs 0))).2.1,v.bl,v.tl,v.cl⟩:=by
    unfold wstep AV.ac;simp
   rw[J];refine(ZoE P M H O a8 a9 (by omega) I c.st c.d R m _ _ nm l dt kp _ rfl _ rfl).mono ?_;rintro e w' ⟨vf,vo,vr,vt,rfl,h⟩;obtain⟨D,f,F,G⟩:=h.o;obtain⟨g,j,i,n,r,p,t,y,x,z,C,A,_,_,_,_,_,_,_,_,_,rfl,rfl,rfl,rfl,_,_,_⟩:=f.form;exact⟨_,rfl,_,_,_,_,_,_,_,_,_,_,_,_,_,_,_,_,_,_,_,_,_,D,rfl,f,F,G⟩
  ·have J:wstep (AV.ac ⟨5,da,dn,dc,pa,pn,pc,qa,qn,qc,nm,dt,kp⟩ data ps qs) v=⟨(sdrop v.st v.d nm.data.toList).1,(sdrop v.st v.d nm.data.toList).2.1,v.bl,v.tl,v.cl⟩:=by
    unfold wstep AV.ac;simp
   rw[J];refine(ZkI P M O c.st c.d R m _ _ nm l dt kp _ _ rfl).mono ?_;rintro e w' ⟨vf,vo,vr,vt,rfl,h⟩;obtain⟨D,f,F,G⟩:=h.o;obtain⟨g,j,i,n,r,p,t,y,x,z,C,A,_,_,_,_,_,_,_,_,_,rfl,rfl,rfl,rfl,_,_,_⟩:=f.form;exact⟨_,rfl,_,_,_,_,_,_,_,_,_,_,_,_,_,_,_,_,_,_,_,_,_,D,rfl,f,F,G⟩
end Go.Proofs.YtlojblelpaegpaaGreat
