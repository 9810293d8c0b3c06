/-
  Several texts, laid together.
-/
import Derived.Test.YtlojblelpaegpaaGreatM08
set_option maxHeartbeats 6400000
set_option maxRecDepth 100000
open Go renaming World->Ap,Calls->At,Value->Ar,bodyPost_ret->As,results_tmp2->AA,maxLen->AG
open Go.RowKit renaming Below->An
open Nat renaming lt_of_lt_of_le->AI,le_trans->AZ,zero_le->BG
open List renaming length_append->AD,take_of_length_le->Av,length_drop->By,length_take->AM
open Go.RowKit.Below renaming refl->Ao
open Go.Value renaming string->Ae,slice->Aa,int->Ab,tuple->Af,agg->Ag,pointer->Ah
open Go.Obj renaming cells->Ai
open Go.Ending renaming returned->Aj
open Go.IntKind renaming i64->Ak,u64->Al
open Go.Proofs.Tryz renaming prog->Am
open Go.Proofs.Tryz
namespace Go.Proofs.YtlojblelpaegpaaGreat
open Go.RowKit
variable{L c m n:Nat}{S:Nat->Prop}{W h w w1:Ap}{a:Option Addr}{body bs:Bs}{d':Dk}{l:List (Nm UInt64)}{v:Ar}
def Blk(a:Option Addr)(n:Nat):Nat->Prop:=λ i=>0<n/\∃p,a=some p/\p.block=i
theorem BAt.blk(h:BAt w (Aa a n c) bs):∀i,Blk a n i->i<w.heap.size:=by
 rintro i ⟨f,p,hp,rfl⟩;obtain⟨ao,c',e,k,l,j⟩:=h;cases e;obtain⟨g,off,d,b,_⟩:=j f;rw[hp]at d;cases d;exact b
def Zib(U:Nat->Prop)(w w':Ap)(a:Option Addr)(n:Nat):Nat->Prop:=λ i=>ZaA U w w' i∨Blk a n i
section
variable{w:World}{s b:Nat}{st:St}{d:Dk}{U:Nat->Prop}{a:Option Addr}{n c:Nat}{body:Bs}
theorem Zje{k l:Ap}{T:Nat->Prop}{j:St}(p:∀i,S i->i<w.heap.size)(f:∀i,S i->¬T i)(e:∀i,S i∨T i->U i)(m:∀i,U i->i<w.heap.size)(h:∀i,Blk a n i->¬U i)(g:∀i,Blk a n i->i<w.heap.size)
  (d:An w.heap.size w w1) (hd:Zav k b d' (ZaA T w1 k)) (o:Zaa T w1 k) (t:Zac l s b j (λ i=>S i∨Blk a n i)) (c:Zaa S k l):Duo l s b j d' (Zib U w l a n)/\Zaa U w l:=by
 have t2:Zaa U w k:=(Zaa.ofBelow d).trans o (λ i _ q=>e i (.inr q));refine⟨⟨_,_,t,hd.stays c ?_,?_,?_,?_⟩,t2.trans c (λ i _ q=>e i (.inl q))⟩
 ·intro i hi q
  rcases hi with r|r
  ·exact f i q r
  ·have:=p i q;have:=d.size;omega
 ·intro i hi q
  rcases hi with r|r
  ·rcases q with q|q
   ·exact f i r q
   ·have:=p i r;have:=d.size;omega
  ·rcases q with q|q
   ·exact h i r (e i (.inr q))
   ·have:=g i r;have:=d.size;omega
 ·intro i hi
  rcases hi with(r|r) | (r|r)
  ·exact .inl (.inl (e i (.inl r)))
  ·exact .inr r
  ·exact .inl (.inl (e i (.inr r)))
  ·exact .inl (.inr ⟨by have:=d.size;omega,AI r.2 c.size⟩)
 ·intro i hi;have sz:=AZ t2.size c.size
  rcases hi with(r|r) | r
  ·exact AI (m i r) sz
  ·exact r.2
  ·exact AI (g i r) sz
theorem ZoS(hD:Duo w s b st d U)(hv:BAt w (Aa a n c) body)(x:∀i,Blk a n i->¬U i)(hl:body.length=n)(hn:n<=8192)(k:Int)(ab:0<=k)(hk:k<=255)(Z:d.ok)(hw:d.writes<=1000000)
  (j:∀f S,(∀i,S i->U i)->Zac f s b st S->BAt f (Aa a n c) body->(∀i,S i∨Blk a n i->i<f.heap.size) ->
   At Am 170 #[Ah (some ⟨s,0,none⟩),Ag #[Ab Ak k,Aa a n c]] f λ e w'=>e=Aj (Af #[])/\Zac w' s b (st.take (k,body)) (λ i=>S i∨Blk a n i)/\Zaa S f w') :
  At Am 127 #[Ah (some ⟨s,0,none⟩),Ag #[Ab Ak k,Aa a n c]] w λ e w'=>∃r,e=Aj (Ab Ak r)/\Hid (r=(sapp st d (k,body)).2.2/\Duo w' s b (sapp st d (k,body)).1 (sapp st d (k,body)).2.1 (Zib U w w' a n)/\Zaa U w w'):=by
 obtain⟨S,T,hS,hT,X,hU,R⟩:=hD
 obtain⟨W,hW⟩:=Xa (w.alloc (Ai #[Ab Ak k,Aa a n c] 243))
 have v:An w.heap.size w W:=by rw[<- hW];exact bz1 _ _
 have bx:Box W w.heap.size 243 (Ab Ak k) (Aa a n c):=by rw[<- hW];exact Box.new _ _ _ _
 obtain⟨x0,x1⟩:=bx.cells;have A:=ZoL (k:=k) (hv.below v) hl
 have N:(fseal (k,body)).2=0:=by
  unfold fseal;rw[Aw (by show ¬(k<0∨255<k);omega),Aw (by show ¬8192<body.length;omega)]
 have g:(fseal (k,body)).1.length<=100000:=by
  unfold fseal;rw[Aw (by show ¬(k<0∨255<k);omega),Aw (by show ¬8192<body.length;omega)];show(sealB k body).length<=_;rw[Zhx];omega
 obtain⟨C,m⟩:=Xa ((fseal (k,body)).1)
 obtain⟨d',z⟩:=Xa ((dapp d fileN C).1)
 obtain⟨cd,y⟩:=Xa ((dapp d fileN C).2)
 have O:sapp st d (k,body)=(if cd=0 then st.take (k,body)else st,d',cd):=by
  unfold sapp;rw[m,z,y]
 rw[N,m]at A;rw[m]at g;rw[O];obtain⟨M,r,t,F,V⟩:=hS;have P:∀i,S i->i<w.heap.size:=V.lt;have Y:=hv.blk
 have H:Hid (Zac W s b st S/\Zav W b d T/\BAt W (Aa a n c) body/\An w.heap.size w W/\Box W w.heap.size 243 (Ab Ak k) (Aa a n c)):=⟨⟨M,r,t,F,V.below v⟩,hT.below v,hv.below v,v,bx⟩
 have G:Hid ((∀i,S i->i<w.heap.size)/\(∀i,S i->¬T i)/\(∀i,S i∨T i->U i)/\(∀i,U i->i<w.heap.size)/\(∀i,Blk a n i->¬U i)/\(∀i,Blk a n i->i<w.heap.size)):=⟨P,X,hU,R,x,Y⟩
 have K:Hid (∀f S,(∀i,S i->U i)->Zac f s b st S->BAt f (Aa a n c) body->(∀i,S i∨Blk a n i->i<f.heap.size)->At Am 170 #[Ah (some ⟨s,0,none⟩),Ag #[Ab Ak k,Aa a n c]] f λ e w'=>e=Aj (Af #[])/\Zac w' s b (st.take (k,body)) (λ i=>S i∨Blk a n i)/\Zaa S f w'):=j
 have C0:Hid (W.cell? ⟨s,0,none⟩=some (Ah (some ⟨b,0,none⟩))/\s<W.heap.size):=⟨(V.below v).cell.1,(V.below v).lt_s⟩
 have Q:Hid (d.ok/\d.writes<=1000000/\C.length<=100000/\(dapp d fileN C).1=d'/\(dapp d fileN C).2=cd):=⟨Z,hw,g,z,y⟩
 clear hv x hl hn ab hk Z hw j hT X hU R v bx N g m z y O V P Y;go_enter func127,ntmps127;go_wp2_with fail;refine A.mono ?_;rintro e w1 ⟨v1,rfl,u⟩
 obtain⟨a1,l,B,ac⟩:∃a1 l B,v1=Aa a1 B l:=by
  obtain⟨a1,l,e,_⟩:=OwnG.form u.o.1;exact⟨a1,l,_,e⟩
 subst ac;have p0:w1.cell? ⟨s,0,none⟩=some (Ah (some ⟨b,0,none⟩)):=(u.o.2.cell C0.o.2).trans C0.o.1;have B1:Hid (An w.heap.size w w1):=H.o.2.2.2.1.trans (u.o.2.mono H.o.2.2.2.1.size);have h:=Zlh ((H.o.2.1.below u.o.2).below (bz1 w1 (Ai #[Aa a1 B l] 61))) Q.o.1 (by have:=Q.o.2.1;omega) fileN (by decide) (ZbV (OwnB.at (OwnG.low u.o.1 (BG _))) 61) (by simp) (by have:=Q.o.2.2.1;simp;omega)
 have L:[C].flatten=C:=by simp
 rw[L,Q.o.2.2.2.1,Q.o.2.2.2.2]at h;clear A;go_wp2_with fail;refine h.mono ?_;rintro e f ⟨r2,rfl,aa,D2,I⟩;have er:r2=cd:=aa.o;subst er;clear aa h L p0;have J:=bz1 w1 (Ai #[Aa a1 B l] 61);have D:Hid (An w.heap.size w (w1.alloc (Ai #[Aa a1 B l] 61))):=B1.o.trans (J.mono B1.o.size);have S2:Hid (Zac f s b st S):=((H.o.1.below u.o.2).below J).stays I G.o.2.1;have V2:Hid (BAt f (Aa a n c) body):=((H.o.2.2.1.below u.o.2).below J).turned I (λ h0 p hp q=>G.o.2.2.2.2.1 _ ⟨h0,p,hp,rfl⟩ (G.o.2.2.1 _ (.inr q)))
 have DT:Hid (Zav f b d' (ZaA T (w1.alloc (Ai #[Aa a1 B l] 61)) f)/\Zaa T (w1.alloc (Ai #[Aa a1 B l] 61)) f):=⟨D2,I⟩
 have y0:f.cell? ⟨w.heap.size,0,none⟩=some (Ab Ak k)/\f.cell? ⟨w.heap.size,1,none⟩=some (Aa a n c):=((((H.o.2.2.2.2.below u.o.2).below J).turned I (λ q=>by have:=G.o.2.2.2.1 _ (G.o.2.2.1 _ (.inr q));omega))).cells;obtain⟨y0,y1⟩:=y0;clear D2 I J;by_cases hz:r2=0
 ·subst hz;have kc:=K.o f S (λ i hi=>G.o.2.2.1 i (.inl hi)) S2.o V2.o (λ i hi=>hi.elim (S2.o.lt i) (V2.o.blk i));go_wp2_with fail;refine kc.mono ?_;rintro e w3 ⟨rfl,S3,T3⟩;have E:Hid _:=Zje G.o.1 G.o.2.1 G.o.2.2.1 G.o.2.2.2.1 G.o.2.2.2.2.1 G.o.2.2.2.2.2 D.o DT.o.1 DT.o.2 S3 T3;clear S3 T3 kc;go_wp2;go_ret;exact⟨0,rfl,rfl,E.o.1,E.o.2⟩
 ·have m0:(r2 != 0)=true:=by simpa using hz
  go_wp2;go_ret;have S3:Zac f s b st (λ i=>S i∨Blk a n i):=S2.o.mono (λ i q=>.inl q) (λ i hi=>hi.elim (S2.o.lt i) (V2.o.blk i));have E:=Zje G.o.1 G.o.2.1 G.o.2.2.1 G.o.2.2.2.1 G.o.2.2.2.2.1 G.o.2.2.2.2.2 D.o DT.o.1 DT.o.2 S3 (Zaa.refl _ _);exact⟨_,rfl,rfl,E.1,E.2⟩
theorem ZoR{u:Ar}{xs ys:Bs}(a:BAt w u xs)(b:BAt w v ys)(g:Bool)(c:(xs==ys)=g):
  At Am 107 #[u,v] w λ e w'=>e=Aj (.bool g)/\w'=w:=by
 have d:=Za1 a;have f:=Za1 b;clear a b;subst c;go_enter func107,ntmps107;go_wp2;go_ret;exact⟨by simp,rfl⟩
theorem Duo.grown{w w':Ap}(e:Duo w s b st d U)(f:∀i,Blk a n i->i<w.heap.size)(c:An w.heap.size w w'):Duo w' s b st d (Zib U w w' a n) :=
 (e.below c).mono (λ i hi=>.inl (.inl hi)) (λ i hi=>by
  rcases hi with(r|r) | r
  ·exact AI (e.lt i r) c.size
  ·exact r.2
  ·exact AI (f i r) c.size)
theorem Duo.regrown{w w1 w':Ap}{c:St}{d':Dk}(d:An w.heap.size w w1)(h:Duo w' s b c d' (Zib U w1 w' a n))(f:w1.heap.size<=w'.heap.size)(e:∀i,U i∨Blk a n i->i<w.heap.size):Duo w' s b c d' (Zib U w w' a n) :=
 h.mono (λ i hi=>by
  rcases hi with(r|r) | r
  ·exact .inl (.inl r)
  ·exact .inl (.inr ⟨by have:=d.size;omega,r.2⟩)
  ·exact .inr r) (λ i hi=>by
  have:=d.size
  rcases hi with(r|r) | r
  ·have:=e i (.inl r);omega
  ·exact r.2
  ·have:=e i (.inr r);omega)
theorem put_k(Q:Duo w s b st d U)(hv:BAt w (Aa a n c) body)(y:∀i,Blk a n i->¬U i)(hl:body.length=n)(hn:n<=8192)(k:Nat)(ah:1<=k)(hk:k<4)(g:Int)(L:(k:Int)=g)(O:d.ok)(hw:d.writes<=1000000)(N:st.objs.length<=1000000):
  At Am 115 #[Ah (some ⟨s,0,none⟩),Ab Ak g,Aa a n c] w λ e w'=>∃i r,e=Aj (Af #[Ab Al i,Ab Ak r])/\Hid (i=((sput st d g body).2.1.toNat:Int)/\r=(sput st d g body).2.2/\Duo w' s b (sput st d g body).1.1 (sput st d g body).1.2 (Zib U w w' a n)/\Zaa U w w'):=by
 have ad:g=1∨g=2∨g=3:=by omega
 obtain⟨W,hW⟩:=Xa (w.alloc (Ai #[Aa a n c] 61))
 have J:An w.heap.size w W:=by rw[<- hW];exact bz1 _ _
 have E:=Q.lt;have G:=hv.blk;obtain⟨S,T,hS,hT,K,hU,_⟩:=Q;obtain⟨M,r,t,F,hX⟩:=hS
 have Q:Duo w s b st d U:=⟨S,T,⟨M,r,t,F,hX⟩,hT,K,hU,E⟩
 obtain⟨x,P⟩:=Xa (oid g body)
 have A:=ZoZ g W (by rw[<- hW];exact ZbV hv 61) (by simp) x (by simpa using P);obtain⟨v,D,h,u⟩:=(hX.below J).look hk x;rw[L]at D h u;obtain⟨c0,c1,c2,c3,c4,c5,c6⟩:=(hX.below J).cell
 have j:∀(z:UInt64) (e:Int),sput st d g body=((st,d),z,e)->Duo W s b (sput st d g body).1.1 (sput st d g body).1.2 (Zib U w W a n)/\Zaa U w W:=by
  intro z e q;rw[q];exact⟨Q.grown G J,Zaa.ofBelow J⟩
 have hV:BAt W (Aa a n c) body:=hv.below J
 have I:(x.toNat:Int)=0↔x=0:=by
  constructor
  ·intro q;exact UInt64.toNat_inj.1 (by simpa using q)
  ·rintro rfl;rfl
 cases H:oget st.objs g x with
 | some R =>
  have Y:st.has g x=true:=by unfold St.has;rw[H];rfl
  rw[Y]at D;have hO:=(h R H).1;clear h u
  cases hq:(R==body)with
  | true =>
   have eq:R=body:=by simpa using hq
   have e:sput st d g body=((st,d),x,0):=by unfold sput;rw[P,H];simp[eq]
   have bq:=ZoR hO hV true hq;have B:Hid _:=j x 0 e;rw[e]at B ⊢
   obtain⟨xi,l⟩:=Xa ((x.toNat:Int))
   rw[l]at A D;have HX:Hid ((x.toNat:Int)=xi):=l;clear hv y hl O hw N hT K hU hX Q P hO hV j H Y E G J hq eq e I l
   have C:k=1∨k=2∨k=3:=by omega
   rcases C with rfl|rfl|rfl
   all_goals
    subst L;go_enter func115,ntmps115;go_wp2_with fail;refine A.mono ?_;rintro e w1 ⟨rfl,f⟩;rw[f];clear f w1;go_wp2_with fail;refine bq.mono ?_;rintro e w1 ⟨rfl,f⟩;rw[f];clear f w1;go_wp2;refine As (AA rfl _ _ _) rfl ?_;exact⟨_,_,rfl,HX.o.symm,rfl,B.o⟩
  | false =>
   have eq:¬R=body:=by simpa using hq
   have e:sput st d g body=((st,d),0,13):=by unfold sput;rw[P,H];simp[eq]
   have bq:=ZoR hO hV false hq;have B:Hid _:=j 0 13 e;rw[e]at B ⊢
   obtain⟨xi,l⟩:=Xa ((x.toNat:Int))
   rw[l]at A D;clear hv y hl O hw N hT K hU hX Q P hO hV j H Y E G J hq eq e I l
   have C:k=1∨k=2∨k=3:=by omega
   rcases C with rfl|rfl|rfl
   all_goals
    subst L;go_enter func115,ntmps115;go_wp2_with fail;refine A.mono ?_;rintro e w1 ⟨rfl,f⟩;rw[f];clear f w1;go_wp2_with fail;refine bq.mono ?_;rintro e w1 ⟨rfl,f⟩;rw[f];clear f w1;go_wp2;refine As (AA rfl _ _ _) rfl ?_;exact⟨_,_,rfl,rfl,rfl,B.o⟩
 | none =>
  have Y:st.has g x=false:=by unfold St.has;rw[H];rfl
  rw[Y]at D;have af:=u H;subst af;clear h u;by_cases V:x=0
  ·have e:sput st d g body=((st,d),0,13):=by unfold sput;rw[P,H];simp[V]
   have B:Hid _:=j 0 13 e;rw[e]at B ⊢;rw[I.2 V]at A D;clear hv y hl O hw N hT K hU hX Q P hV j H Y E G J e I V
   have C:k=1∨k=2∨k=3:=by omega
   rcases C with rfl|rfl|rfl
   all_goals
    subst L;go_enter func115,ntmps115;go_wp2_with fail;refine A.mono ?_;rintro e w1 ⟨rfl,f⟩;rw[f];clear f w1;go_wp2;refine As (AA rfl _ _ _) rfl ?_;exact⟨_,_,rfl,rfl,rfl,B.o⟩
  ·have e:sput st d g body=(((sapp st d (g,body)).1,(sapp st d (g,body)).2.1),if(sapp st d (g,body)).2.2=0 then x else 0,(sapp st d (g,body)).2.2):=by unfold sput;rw[P,H];simp[V]
   have ac:=ZoS (Q.below J) hV y hl hn g (by omega) (by omega) O hw (λ w2 S ag aa ab ae =>
    ZoD aa (λ i q=>.inl q) ae g ad ab (λ p m c2 e V=>by cases e;exact .inr ⟨V,p,rfl,rfl⟩) (by rw[P];exact H) N)
   obtain⟨Z,hZ⟩:=Xa (sput st d g body)
   have EZ:Hid (Z=(((sapp st d (g,body)).1,(sapp st d (g,body)).2.1),if(sapp st d (g,body)).2.2=0 then x else 0,(sapp st d (g,body)).2.2)):=hZ.symm.trans e;rw[hZ]
   have n0:¬(x.toNat:Int)=0:=λ q=>V (I.1 q)
   have X:Hid (An w.heap.size w W/\∀i,U i∨Blk a n i->i<w.heap.size):=⟨J,λ i q=>q.elim (E i) (G i)⟩
   obtain⟨xi,l⟩:=Xa ((x.toNat:Int))
   rw[l]at A D n0
   have m1:(xi==0)=false:=by simpa using n0
   have HX:Hid ((x.toNat:Int)=xi):=l;clear hv y hl hn O hw N hT K hU hX Q P hV j H Y E G J e I V l n0 hZ
   have C:k=1∨k=2∨k=3:=by omega
   rcases C with rfl|rfl|rfl
   all_goals
    subst L;go_enter func115,ntmps115;go_wp2_with fail;refine A.mono ?_;rintro e w1 ⟨rfl,f⟩;rw[f];clear f w1;go_wp2_with fail;refine ac.mono ?_;rintro e w2 ⟨r2,rfl,R2⟩;have B:Hid _:=And.intro R2.o.1 (And.intro (Duo.regrown X.o.1 R2.o.2.1 R2.o.2.2.size X.o.2) ((Zaa.ofBelow (S:=U) X.o.1).trans R2.o.2.2 (λ _ _ q=>q)));clear R2;by_cases hz:r2=0
    ·subst hz;go_wp2;refine As (AA rfl _ _ _) rfl ?_;exact⟨_,_,rfl,by rw[EZ.o];exact⟨by rw[AE B.o.1.symm];exact HX.o.symm,B.o.1,B.o.2⟩⟩
    ·have m0:(r2 != 0)=true:=by simpa using hz
     go_wp2;refine As (AA rfl _ _ _) rfl ?_;exact⟨_,_,rfl,by rw[EZ.o];exact⟨by rw[Aw (λ q=>hz (B.o.1.trans q))];rfl,B.o.1,B.o.2⟩⟩
end
section
variable{w:World}{s b:Nat}{st:St}{d:Dk}{U:Nat->Prop}
theorem ZhQ{k:Nat}(F:Duo h s b st d U)(t:An h.heap.size h W)(x:OwnG encB 5 W h.heap.size v body)(J:body.length<=8192)(u:1<=k)(I:k<4)(j:Int)(w:(k:Int)=j)(z:d.ok)(K:d.writes<=1000000)(y:st.objs.length<=1000000):
  At Am 115 #[Ah (some ⟨s,0,none⟩),Ab Ak j,v] W λ e w'=>∃i r,e=Aj (Af #[Ab Al i,Ab Ak r])/\Hid (i=((sput st d j body).2.1.toNat:Int)/\r=(sput st d j body).2.2/\Duo w' s b (sput st d j body).1.1 (sput st d j body).1.2 (ZaA U h w')/\Zaa U h w'):=by
 have a:=F.lt
 have f:∀p n c,v=Aa (some p) n c->0<n->h.heap.size<=p.block:=by
  intro p n c e l
  exact(x.lt p.block (by
   obtain⟨ao,c',A,B,C,D,E⟩:=OwnG.form x;rw[A]at e;cases e;obtain⟨g,H⟩:=E l;cases H;rw[A]
   rfl)).1
 obtain⟨ao,c,rfl,B,C,D,E⟩:=OwnG.form x
 have G:BAt W (Aa ao body.length c) body:=⟨ao,c,rfl,B,C,D⟩
 have m:∀i,Blk ao body.length i->¬U i:=by
  rintro i ⟨l,p,rfl,rfl⟩ q;have:=f p _ c rfl l;have:=a _ q;omega
 refine(put_k (F.below t) G m rfl J k u I j w z K y).mono ?_;rintro e w' ⟨i,r,rfl,R⟩;refine⟨i,r,rfl,R.o.1,R.o.2.1,R.o.2.2.1.mono ?_ ?_,(Zaa.ofBelow (S:=U) t).trans R.o.2.2.2 (λ _ _ q=>q)⟩
 ·intro i hi;have sz:=R.o.2.2.2.size
  rcases hi with(q|q) | q
  ·exact .inl q
  ·exact .inr ⟨by have:=t.size;omega,q.2⟩
  ·obtain⟨l,p,rfl,rfl⟩:=q;exact .inr ⟨f p _ c rfl l,AI (G.blk _ ⟨l,p,rfl,rfl⟩) sz⟩
 ·intro i hi
  rcases hi with q|q
  ·exact AI (a i q) (AZ t.size R.o.2.2.2.size)
  ·exact q.2
theorem Duo.since{a:Ap}(c:Duo a s b st d U)(e:An a.heap.size a W):Duo W s b st d (ZaA U a W) :=
 (c.below e).mono (λ _ q=>.inl q) (λ i q=>q.elim (λ q=>AI (c.lt i q) e.size) (λ q=>q.2))
theorem Znl(R:Duo w s b st d U){a:List Bs}(hp:ZaF w v a)(T:a.length<=1000000)(f:∀x∈a,x.length<=140737488355328)(n:d.ok)(q:d.writes<=1000000)(m:st.objs.length<=1000000):
  At Am 61 #[Ah (some ⟨s,0,none⟩),v] w λ e w'=>∃i r,e=Aj (Af #[Ab Al i,Ab Ak r])/\Hid (i=((sblob st d a.flatten).2.1.toNat:Int)/\r=(sblob st d a.flatten).2.2/\Duo w' s b (sblob st d a.flatten).1.1 (sblob st d a.flatten).1.2 (ZaA U w w')/\Zaa U w w'):=by
 have P:Hid (ZaF w v a):=hp;obtain⟨ao,c,rfl,F,Q⟩:=hp
 obtain⟨N,D⟩:=Xa a.length
 rw[D]at T F P ⊢
 obtain⟨Z,G⟩:=Xa (sblob st d a.flatten)
 rw[G];have A:Hid (0<N->∃b off,ao=some ⟨b,off,none⟩/\b<w.heap.size):=F;have B:Hid (∀j x b off,a[j]? = some x->ao=some ⟨b,off,none⟩->∃u,w.cell? ⟨b,off+j,none⟩=some u/\BAt w u x):=Q
 have H:Hid (sblob st d a.flatten=Z/\a.length=N/\(∀x∈a,x.length<=140737488355328)/\Duo w s b st d U/\d.ok/\d.writes<=1000000/\st.objs.length<=1000000):=⟨G,D,f,R,n,q,m⟩
 clear F Q D f R n q m G;go_enter func61,ntmps61;go_wp2_with fail;go_loopg[6,11] N (λ k sv iv wr=>wr=w/\∃i s:Nat,iv=Ab Ak i/\i+k=N/\sv=Ab Ak (s:Int)/\s<=4096/\Hid (s+(a.take i).flatten.length=4096))
 case atStart=>exact⟨rfl,0,4096,rfl,by omega,rfl,by omega,rfl⟩
 case round =>
  obtain⟨q,i,s1,rfl,hi,rfl,hs,C⟩:=hrel;have K:=q.symm;subst K;clear q;by_cases J:i<N
  ·have id:(i:Int)<(N:Int):=by omega
   obtain⟨x,f⟩:=Zaf H.o.2.1 J;obtain⟨b1,o1,rfl,Y⟩:=A.o (by omega);obtain⟨u,hu,a2,c2,rfl,_,_,_⟩:=B.o i x b1 o1 f rfl;have y:=ZdK a (i+1);rw[Za8 f,AD]at y;have L:=H.o.2.2.1 x (List.mem_of_getElem? f)
   obtain⟨h,g⟩:=Xa x.length
   rw[g]at L hu y
   have E:Hid ((a.take i).flatten.length+h<=a.flatten.length/\(a.take (i+1)).flatten.length=(a.take i).flatten.length+h):=⟨y,by rw[Za8 f,AD,g]⟩
   clear y f g;by_cases S:s1<h
   ·have t:(s1:Int)<(h:Int):=by omega
    have z:Z=((st,d),0,4):=by
     rw[<- H.o.1];unfold sblob;rw[AE (by have:=E.o.1;have:=C.o;omega)]
    subst z;go_wp2;refine As (AA rfl _ _ _) rfl ?_;exact⟨_,_,rfl,rfl,rfl,H.o.2.2.2.1.since (Ao _ _),Zaa.refl _ _⟩
   ·have t:decide ((s1:Int)<(h:Int))=false:=by rw[Ax];omega
    go_wp2;go_roundg (gk - 1)
    case measure=>omega
    case rel=>exact⟨rfl,i+1,s1 - h,by go_num,by omega,by go_num,by omega,by have:=E.o.2;have:=C.o;show s1 - h+_=_;omega⟩
  ·obtain rfl:i=N:=by omega
   have I:s1+a.flatten.length=4096:=by
    have:=C.o;rw[Av (by rw[H.o.2.1];omega)]at this;exact this
   have z:Z=sput st d 1 a.flatten:=by
    rw[<- H.o.1];unfold sblob;rw[Aw (by omega)]
   have l:=Zce w P.o (by rw[H.o.2.1];exact T) (by omega)
   have W:Hid (a.flatten.length<=8192):=by show _<=_;omega
   have V:Hid (Z=sput st d 1 a.flatten):=z;clear I z;go_wp2_with fail;refine l.mono ?_;rintro e w1 ⟨v1,rfl,O,M⟩;have p:=ZhQ H.o.2.2.2.1 M O W.o (k:=1) (by omega) (by omega) 1 rfl H.o.2.2.2.2.1 H.o.2.2.2.2.2.1 H.o.2.2.2.2.2.2;rw[<- V.o]at p;clear l O M;go_wp2_with fail;refine p.mono ?_;rintro e w2 ⟨i2,r2,rfl,X⟩;go_wp2;refine As (AA rfl _ _ _) rfl ?_;exact⟨_,_,rfl,X.o⟩
theorem Zne{ao:Option Addr}{es:List En}(z:Duo w s b st d U)(F:RdG encE w ao es)(E:es.length=n)(hn:n<=4000000000000000000)(M:Fine es)(K:n<=c)(v:d.ok)(N:d.writes<=1000000)(u:st.objs.length<=1000000):
  At Am 66 #[Ah (some ⟨s,0,none⟩),Aa ao n c] w λ e w'=>∃i r,e=Aj (Af #[Ab Al i,Ab Ak r])/\Hid (i=((stree st d es).2.1.toNat:Int)/\r=(stree st d es).2.2/\Duo w' s b (stree st d es).1.1 (stree st d es).1.2 (ZaA U w w')/\Zaa U w w'):=by
 obtain⟨Z,B⟩:=Xa (stree st d es)
 rw[B]
 obtain⟨fe,a⟩:=Xa ((ftree es).2)
 obtain⟨fb,f⟩:=Xa ((ftree es).1)
 have h:=Zog w F E M K;rw[a,f]at h;by_cases I:fe=0
 ·subst I
  have m:ctree es=0:=by
   unfold ftree at a
   split at a
   ·assumption
   ·exact a
  have p:fb.length<=8192:=by
   rw[<- f];unfold ftree;rw[AE m];show(treeB es).length<=_;have aa:=(ZaS m).1
   have:∀l:List En,(∀e∈l,e.1.length<=102)->(treeB l).length<=111*l.length:=by
    intro l
    induction l with
    | nil=>intro _;simp[treeB]
    | cons x t ih =>
     intro V;have:=ih (λ e L=>V e (List.mem_cons_of_mem _ L));have e1:=V x List.mem_cons_self
     have e2:(treeB (x::t)).length=(entB x).length+(treeB t).length:=by simp[treeB]
     rw[e2,ZdH,List.length_cons];omega
   have h2:=this es (λ e L=>ZbA (List.all_eq_true.1 (ZaS m).2.1 e L));omega
  obtain⟨g,R⟩:=Xa (st.blobs es)
  obtain⟨S,T,J,O,C,P,A⟩:=z
  have z:Duo w s b st d U:=⟨S,T,J,O,C,P,A⟩
  have H:Hid (Zac w s b st S/\RdG encE w ao es/\es.length=n/\Duo w s b st d U/\d.ok/\d.writes<=1000000/\st.objs.length<=1000000/\fb.length<=8192/\st.blobs es=g/\stree st d es=Z/\(ftree es).2=0/\(ftree es).1=fb):=⟨J,F,E,z,v,N,u,p,R,B,a,f⟩
  clear F E M K v N u p R B a f J O C P A z m;go_enter func66,ntmps66;go_wp2_with fail;refine h.mono ?_;rintro e w1 ⟨W,rfl,j⟩;have Q:=ZgK (c:=c) (H.o.1.below j.o.2) (H.o.2.1.below j.o.2) H.o.2.2.1 hn g H.o.2.2.2.2.2.2.2.2.1;clear h;go_wp2_with fail;refine Q.mono ?_;rintro e X ⟨rfl,G⟩;have q:Hid (An w.heap.size w X):=j.o.2.trans (G.mono j.o.2.size);have Y:Hid (OwnG encB 5 X w.heap.size W fb):=j.o.1.below G;clear Q G j
  cases g with
  | false =>
   have y:Z=((st,d),0,5):=by
    rw[<- H.o.2.2.2.2.2.2.2.2.2.1];unfold stree;rw[Aw (by rw[H.o.2.2.2.2.2.2.2.2.2.2.1];simp),AE H.o.2.2.2.2.2.2.2.2.1]
   subst y;go_wp2;refine As (AA rfl _ _ _) rfl ?_;exact⟨_,_,rfl,rfl,rfl,H.o.2.2.2.1.since q.o,Zaa.ofBelow q.o⟩
  | true =>
   have y:Z=sput st d 2 fb:=by
    rw[<- H.o.2.2.2.2.2.2.2.2.2.1];unfold stree;rw[Aw (by rw[H.o.2.2.2.2.2.2.2.2.2.2.1];simp),Aw (by rw[H.o.2.2.2.2.2.2.2.2.1];simp),H.o.2.2.2.2.2.2.2.2.2.2.2]
   have D:=ZhQ H.o.2.2.2.1 q.o Y.o H.o.2.2.2.2.2.2.2.1 (k:=2) (by omega) (by omega) 2 rfl H.o.2.2.2.2.1 H.o.2.2.2.2.2.1 H.o.2.2.2.2.2.2.1;rw[<- y]at D;clear y;go_wp2_with fail;refine D.mono ?_;rintro e w3 ⟨i2,r2,rfl,R2⟩;go_wp2;refine As (AA rfl _ _ _) rfl ?_;exact⟨_,_,rfl,R2.o⟩
 ·have y:Z=((st,d),0,fe):=by
   rw[<- B];unfold stree;rw[AE (by rw[a];exact I),a]
  have m0:(fe != 0)=true:=by simpa using I
  have H:Hid (Duo w s b st d U):=z;subst y;clear F E M K v N u B a f z;go_enter func66,ntmps66;go_wp2_with fail;refine h.mono ?_;rintro e w1 ⟨W,rfl,j⟩;clear h;go_wp2;refine As (AA rfl _ _ _) rfl ?_;exact⟨_,_,rfl,rfl,rfl,H.o.since j.o.2,Zaa.ofBelow j.o.2⟩
theorem ZpW{pa:Option Addr}{pn pc:Nat}{cm:Cm}(D:Duo w s b st d U)(N:RdG encU w pa cm.ps)(M:cm.ps.length=pn)(hn:pn<=4000000000000000000)(A:pn<=pc)(nt:ByteArray)(x:nt=⟨cm.note.toArray⟩)(dt:Int)(v:cm.date=dt)(z:d.ok)(R:d.writes<=1000000)(y:st.objs.length<=1000000):
  At Am 70 #[Ah (some ⟨s,0,none⟩),Ag #[Ab Al (cm.tree.toNat:Int),Aa pa pn pc,Ab Ak dt,Ae nt]] w λ e w'=>∃i r,e=Aj (Af #[Ab Al i,Ab Ak r])/\Hid (i=((scom st d cm).2.1.toNat:Int)/\r=(scom st d cm).2.2/\Duo w' s b (scom st d cm).1.1 (scom st d cm).1.2 (ZaA U w w')/\Zaa U w w'):=by
 obtain⟨Z,G⟩:=Xa (scom st d cm)
 rw[G]
 obtain⟨fe,a⟩:=Xa ((fcom cm).2)
 obtain⟨fb,m⟩:=Xa ((fcom cm).1)
 have h:=λ(W:Ap) (j:An w.heap.size w W)=>ZpO (c:=cm) (N.below j) M A nt x dt v
 have f:=λ(W:Ap) (S:Nat->Prop) (E:Zac W s b st S) (j:An w.heap.size w W) (g:Bool) (K:st.above cm=g)=>ZiB (pc:=pc) (cm:=cm) E (N.below j) M hn dt nt g K
 obtain⟨O,B⟩:=Xa ((cm.tree.toNat:Int))
 rw[B]at h f ⊢
 obtain⟨W,hW⟩:=Xa (w.alloc (Ai #[Ab Al O,Aa pa pn pc,Ab Ak dt,Ae nt] 58))
 have j:An w.heap.size w W:=by rw[<- hW];exact bz1 _ _
 have bx:Box4 W w.heap.size 58 (Ab Al O) (Aa pa pn pc) (Ab Ak dt) (Ae nt):=by rw[<- hW];exact Box4.new _ _ _ _ _ _
 obtain⟨x0,x1,x2,x3⟩:=bx.cells;have l:=h W j;rw[a,m]at l;by_cases Q:fe=0
 ·subst Q
  have n:ccom cm=0:=by
   unfold fcom at a
   split at a
   ·assumption
   ·exact a
  have q:fb.length<=8192:=by
   rw[<- m];unfold fcom;rw[AE n];show(comB cm).length<=_;have h1:=(Zb6 n).2.1;have h2:=Zbj n;omega
  obtain⟨g,K⟩:=Xa (st.above cm)
  obtain⟨S,T,E,X,I,Y,F⟩:=D
  have D:Duo w s b st d U:=⟨S,T,E,X,I,Y,F⟩
  have J:=λ u (b2:An W.heap.size W u)=>f u S (E.below (j.trans (b2.mono j.size))) (j.trans (b2.mono j.size)) g K
  have HB:Hid (∀u,An W.heap.size W u->At Am 125 #[Ah (some ⟨s,0,none⟩),Ag #[Ab Al O,Aa pa pn pc,Ab Ak dt,Ae nt]] u λ e w'=>e=Aj (.bool g)/\An u.heap.size u w'):=J
  have H:Hid (An w.heap.size w W/\Box4 W w.heap.size 58 (Ab Al O) (Aa pa pn pc) (Ab Ak dt) (Ae nt)/\Duo w s b st d U/\d.ok/\d.writes<=1000000/\st.objs.length<=1000000/\fb.length<=8192/\st.above cm=g/\scom st d cm=Z/\(fcom cm).2=0/\(fcom cm).1=fb):=⟨j,bx,D,z,R,y,q,K,G,a,m⟩
  clear N M A x v z R y q K G a m E X I Y F D n J f h B j bx;go_enter func70,ntmps70;go_wp2_with fail;refine l.mono ?_;rintro e w1 ⟨v1,rfl,p⟩;have hb:=HB.o w1 p.o.2;obtain⟨y0,y1,y2,y3⟩:=(H.o.2.1.below p.o.2 H.o.2.1.lt).cells;clear l;go_wp2_with fail;refine hb.mono ?_;rintro e w2 ⟨rfl,P⟩;have t:Hid (An w.heap.size w w2):=H.o.1.trans ((p.o.2.trans (P.mono p.o.2.size)).mono H.o.1.size);have O2:Hid (OwnG encB 5 w2 w.heap.size v1 fb):=(p.o.1.low H.o.1.size).below P;clear hb P p y0 y1 y2 y3
  cases g with
  | false =>
   have C:Z=((st,d),0,5):=by
    rw[<- H.o.2.2.2.2.2.2.2.2.1];unfold scom;rw[Aw (by rw[H.o.2.2.2.2.2.2.2.2.2.1];simp),AE H.o.2.2.2.2.2.2.2.1]
   subst C;go_wp2;refine As (AA rfl _ _ _) rfl ?_;exact⟨_,_,rfl,rfl,rfl,H.o.2.2.1.since t.o,Zaa.ofBelow t.o⟩
  | true =>
   have C:Z=sput st d 3 fb:=by
    rw[<- H.o.2.2.2.2.2.2.2.2.1];unfold scom;rw[Aw (by rw[H.o.2.2.2.2.2.2.2.2.2.1];simp),Aw (by rw[H.o.2.2.2.2.2.2.2.1];simp),H.o.2.2.2.2.2.2.2.2.2.2]
   have L:=ZhQ H.o.2.2.1 t.o O2.o H.o.2.2.2.2.2.2.1 (k:=3) (by omega) (by omega) 3 rfl H.o.2.2.2.1 H.o.2.2.2.2.1 H.o.2.2.2.2.2.1;rw[<- C]at L;clear C;go_wp2_with fail;refine L.mono ?_;rintro e w3 ⟨i2,r2,rfl,R2⟩;go_wp2;refine As (AA rfl _ _ _) rfl ?_;exact⟨_,_,rfl,R2.o⟩
 ·have C:Z=((st,d),0,fe):=by
   rw[<- G];unfold scom;rw[AE (by rw[a];exact Q),a]
  have m0:(fe != 0)=true:=by simpa using Q
  have H:Hid (Duo w s b st d U/\An w.heap.size w W):=⟨D,j⟩
  subst C;clear N M A z R y G a m D f h B j bx x v;go_enter func70,ntmps70;go_wp2_with fail;refine l.mono ?_;rintro e w1 ⟨v1,rfl,p⟩;clear l;go_wp2;refine As (AA rfl _ _ _) rfl ?_;have V:=H.o.2.trans (p.o.2.mono H.o.2.size);exact⟨_,_,rfl,rfl,rfl,H.o.1.since V,Zaa.ofBelow V⟩
end
theorem ZcF(h:BAt w (Aa a L c) bs)(r:bs.length=L)(D:8<=L):
  At Am 212 #[Aa a L c] w λ e w'=>e=Aj (Af #[tx (labN bs),Ab Al ((labI bs).toNat:Int)])/\w'=w:=by
 obtain⟨j,s,l⟩:L<=c/\c<=9223372036854775807/\RdG encB w a bs:=by
  obtain⟨ao,c',e,j,s,l⟩:=h;cases e;exact⟨j,s,l⟩
 clear h;obtain⟨a1,S,s1,U,_,G⟩:=ZfC (ao:=a) (k:=8) j D;obtain⟨a2,C,s2,P,Q,I⟩:=ZfM (ao:=a) (k:=8) j D;have M:((8:Nat):Int)=8:=rfl;rw[M]at s1 s2;have t:=Za1 (w:=w) (v:=Aa a2 (L - 8) C) (bs:=bs.drop 8) ⟨a2,C,by rw[By,r],by rw[By,r];exact P,by omega,I w bs r l⟩;have F:(labI bs).toNat=val (bs.take 8):=Zbg (by rw[AM];omega)
 have H:Hid (RdG encB w a1 (bs.take 8)/\(bs.take 8).length=8):=⟨G w bs l,by rw[AM];omega⟩
 rw[F];unfold labN
 obtain⟨tl,q⟩:∃tl,tx (bs.drop 8)=Ae tl:=⟨_,rfl⟩
 rw[q]at t ⊢
 obtain⟨hd,p⟩:=Xa (bs.take 8)
 rw[p]at H ⊢;clear j s l G I F p q r;go_enter func212,ntmps212;go_wp2_with fail;go_loopg[4,10] 8 (λ m R O wr=>wr=w/\∃(i v:Nat),O=Ab Ak i/\i+m=8/\R=Ab Al (v:Int)/\Hid (val (hd.take i)=v))
 case atStart=>exact⟨rfl,0,0,rfl,by omega,rfl,rfl⟩
 case round =>
  obtain⟨z,i,v,rfl,hi,rfl,B⟩:=hrel;subst z;by_cases u:i<8
  ·have id:(i:Int)<8:=by omega
   obtain⟨b,off,rfl,N,E⟩:=H.o.1 (by rw[H.o.2];omega)
   have g:i<hd.length:=by rw[H.o.2];exact u
   obtain⟨y,A⟩:=Xa (hd[i])
   have T:wr.cell? ⟨b,off+i,none⟩=some (Ab .u8 (y.toNat:Int)):=by
    have:=E i y (by rw[List.getElem?_eq_getElem g,A]) 0 _ rfl;rw[show i*encB.size+0=i from(by show i*1+0=i;omega)]at this;exact this
   have d:=ZfB hd i g;have f:=Zg0 (hd.take i);rw[B.o]at d f;rw[A]at d
   have x:v<72057594037927936:=by
    have:(hd.take i).length<=7:=by rw[AM];omega
    have:=Nat.pow_le_pow_right (n:=256) (by decide) this
    have e:256 ^ 7=72057594037927936:=by decide
    omega
   have hor:=Zmb y x;have K:Hid (val (hd.take (i+1))=v*256+y.toNat):=d;clear d f g E A;go_wp2;go_roundg (gk - 1)
   case measure=>omega
   case rel=>exact⟨rfl,i+1,v*256+y.toNat,by go_num,by omega,by go_num,K.o⟩
  ·obtain rfl:i=8:=by omega
   have e:hd.take 8=hd:=Av (by rw[H.o.2];omega)
   have J:Hid (val hd=v):=by rw[<- e];exact B.o
   clear e;go_wp2;refine As (AA rfl _ _ _) rfl ?_;exact⟨by rw[J.o];rfl,rfl⟩
theorem ZlW{wr a:Ap}{nm:Bs}{v5:Ar}(l:Box W w.heap.size 243 (Ab Ak 0) (Aa none 0 0))(g:An (w.heap.size+1) W wr)(k:OwnG encB 5 a (w.heap.size+1) v5 (low (8 - 0) (n / 256 ^ 0)++nm))(f:An (w.heap.size+1) wr a):
  ∃a5 d h,v5=Aa a5 h d/\Hid (h=8+nm.length)/\Hid (OwnG encB 5 a (w.heap.size+1) v5 (low 8 n++nm)/\An (w.heap.size+1) W a)/\a.cell? ⟨w.heap.size,0,none⟩=some (Ab Ak 0)/\a.cell? ⟨w.heap.size,1,none⟩=some (Aa none 0 0)/\a.frozen? ⟨w.heap.size,0,none⟩=false/\a.frozen? ⟨w.heap.size,1,none⟩=false/\w.heap.size<a.heap.size:=by
 have b:OwnG encB 5 a (w.heap.size+1) v5 (low 8 n++nm):=by simpa using k
 have c:Box a w.heap.size 243 (Ab Ak 0) (Aa none 0 0):=((g.trans f).block _ (by omega)).trans l;obtain⟨a5,d,e,p,_⟩:=OwnG.form b;obtain⟨m,o⟩:=c.cells;obtain⟨i,j⟩:=c.thaw;exact⟨a5,d,_,e,(by show _=_;rw[AD,Zar]),⟨b,g.trans f⟩,m,o,i,j,c.lt⟩
theorem ZeD(k:Int)(nm:Bs)(t:nm.length<=1000000)(i:UInt64)(w:Ap):
  At Am 128 #[Ab Ak k,tx nm,Ab Al (i.toNat:Int)] w λ e w'=>∃a c,e=Aj (Ag #[Ab Ak k,Aa a (8+nm.length) c])/\Hid (BAt w' (Aa a (8+nm.length) c) (labB i nm)/\(∀j,Blk a (8+nm.length) j->w.heap.size<=j)/\An w.heap.size w w'):=by
 obtain⟨n,C⟩:=Xa i.toNat
 have L:labB i nm=low 8 n++nm:=by unfold labB b8;rw[C]
 rw[C,L]
 obtain⟨W,A⟩:=Xa (w.alloc (Ai #[Ab Ak 0,Aa none 0 0] 243))
 have K:An w.heap.size w W:=by rw[<- A];exact bz1 _ _
 have bx:Box W w.heap.size 243 (Ab Ak 0) (Aa none 0 0):=by rw[<- A];exact Box.new _ _ _ _
 have N:W.heap.size=w.heap.size+1:=by rw[<- A];simp
 obtain⟨s,f⟩:∃s:ByteArray,s=⟨nm.toArray⟩:=⟨_,rfl⟩
 rw[show tx nm=Ae s by rw[f]]
 have H:Hid (An w.heap.size w W/\Box W w.heap.size 243 (Ab Ak 0) (Aa none 0 0)/\s=⟨nm.toArray⟩/\nm.length<=1000000/\W.heap.size=w.heap.size+1):=⟨K,bx,f,t,N⟩
 clear K bx f t L C N;go_enter func128,ntmps128;go_wp2_with fail;go_loopg[7,8] 8 (λ m Q Y wr=>Y=Ab Ak (8*(m:Int) - 8)/\m<=8/\Hid (OwnG encB 5 wr (w.heap.size+1) Q (low (8 - m) (n / 256 ^ m))/\An (w.heap.size+1) W wr))
 case atStart=>exact⟨rfl,Nat.le_refl _,by simpa[low]using OwnG.nil encB 5 W (w.heap.size+1),Ao _ _⟩
 case round =>
  obtain⟨rfl,hm,d⟩:=hrel
  cases gk with
  | zero =>
   have r:(low (8 - 0) (n / 256 ^ 0)).length<=8:=by rw[Zar];omega
   go_wp2_with(at_builtin;refine appS rfl (.tmp 21) (.tmp 22) rfl (w.heap.size+1) _ _ nm rfl d.o.1 (by show Ae s=_;rw[H.o.2.2.1]) (by have:=H.o.2.2.2.1;omega) (by have:=d.o.2.size;have:=H.o.2.2.2.2;omega) ?_;intro v5 x u l E;obtain⟨a5,z,M,F,J,b,x0,x1,f0,f1,Z⟩:=ZlW H.o.2.1 d.o.2 u l;subst F;clear u l E r);refine As (v:=Ag #[Ab Ak k,Aa a5 M z]) ?_ rfl ⟨a5,z,by rw[J.o],?_⟩
   ·simp[results,Tryz.f128];go_simp
   ·have O:Zaa (λ j=>j=w.heap.size) x ((x.setCell ⟨w.heap.size,0,none⟩ (Ab Ak k)).setCell ⟨w.heap.size,1,none⟩ (Aa a5 M z)):=((Zaa.refl (λ j=>j=w.heap.size) x).setCell (p:=⟨w.heap.size,0,none⟩) (.inl rfl) _).setCell (p:=⟨w.heap.size,1,none⟩) (.inl rfl) _;have I:=b.o.1.stays O (λ g U q=>by have:=(b.o.1.lt g U).1;omega);have bel:An w.heap.size w x:=H.o.1.trans (b.o.2.mono (by omega));refine⟨?_,?_,bel.trans (O.below bel.size (λ j hj q=>by omega))⟩
    ·have:=OwnB.at (OwnG.low I (BG _));rw[<- J.o];exact this
    ·rintro j ⟨h0,p,rfl,rfl⟩;obtain⟨a6,c6,h,_,_,_,q4⟩:=OwnG.form I;simp only[Value.slice.injEq]at h;obtain⟨g,S⟩:=q4 (by rw[AD,Zar];omega);rw[S]at h;obtain⟨h,-,-⟩:=h;cases h;have:=(I.lt g rfl).1;show w.heap.size<=g;omega
  | succ gk =>
   obtain⟨y,G⟩:∃y:UInt8,UInt8.ofNat (n / 256 ^ gk)=y:=⟨_,rfl⟩
   have T:(n:Int) / 2 ^ (8*(gk+1) - 8) % 256=(y.toNat:Int):=by
    have R:((2:Int) ^ (8*gk))=((256 ^ gk:Nat):Int):=by
     rw[show(256:Nat) ^ gk=2 ^ (8*gk) by rw[Nat.pow_mul]];exact(Int.natCast_pow 2 (8*gk)).symm
    rw[<- G,UInt8.toNat_ofNat',show 8*(gk+1) - 8=8*gk by omega,R,<- Int.natCast_ediv];omega
   have f:low (8 - gk) (n / 256 ^ gk)=low (8 - (gk+1)) (n / 256 ^ (gk+1))++[y]:=by
    rw[show 8 - gk=(8 - (gk+1))+1 by omega,low,G,Nat.div_div_eq_div_mul,<- Nat.pow_succ]
   have P:Hid _:=f
   have r:(low (8 - (gk+1)) (n / 256 ^ (gk+1))).length<=8:=by
    rw[Zar];omega
   clear f G;go_wp2_with(at_builtin;refine Zag encB 5 61 1 (Ab .u8 0) rfl Tryz.info5 underlying61 rfl (.tmp 13) (.tmp 18) rfl (w.heap.size+1) _ _ y _ rfl d.o.1 rfl (by omega) (by simp only[AG];omega) (by have:=d.o.2.size;have:=H.o.2.2.2.2;omega) _ (by first | rfl | (rw[T];rfl)) ?_;intro v4 w4 D B V X);go_wp2;go_roundg gk
   case measure=>omega
   case rel=>exact⟨by go_num,by omega,by rw[P.o];exact D,d.o.2.trans B⟩
theorem ZjT(l:List (Nm UInt64))(n:Bs)(i:UInt64):gput (nview l) n (idv i)=nview (nwith l n i):=by
 funext m
 unfold gput nview;rw[ZdX];by_cases e:m=n
 ·rw[AE e,AE e.symm];rfl
 ·rw[Aw e,Aw (λ q=>e q.symm)]
theorem Zmf(l:List (Nm UInt64))(n:Bs)(v:Ar):gdel (gput (nview l) n v) n=nview (nout l n):=by
 funext m
 unfold gdel gput nview;rw[Zcf];by_cases e:m=n
 ·rw[AE e,AE e.symm];rfl
 ·rw[Aw e,Aw e,Aw (λ q=>e q.symm)]
theorem ZeZ(l:List (Nm UInt64))(n:Bs):(nview l n).isSome=(nget l n).isSome:=by
 unfold nview
 cases nget l n <;> rfl
theorem zeroU(w:Ap):(zeroValue 44).run Am w=.ok (Ab Al 0) w:=by
 obtain⟨i0,a,b,_,_⟩:=info_parts Tryz.info44;simp[zeroValue,typeInfo,a,b]
theorem Zmv{α:Type}[DecidableEq α]{K:KeyK α}{d:Array Oper}{rest:List Oper}{o:Oper}{a:Act}{Q:Exit->Act->Ap->Prop}(i:o.guard=none)(l x:Operand)(t k e:TypeId)(s:Am.underlying t=some (.map K.ty e))
  (j:o.op=.call { callee:=.builtin .delete,args:=#[l,x],argTypes:=#[t,k] }) (m c:Nat) (f:α->Option Ar) (q:a.eval l=.map (some m)) (h:MapG K w m f c) (n:α) (r:K.fit n) (u:a.eval x=K.val n) (hi:(f n).isSome=true)
  (p:∀w',MapG K w' m (gdel f n) (c - 1)->w.grownBy w' (some m)->wpList Am d Q rest (a.put o.dst (Af #[])) w'):wpList Am d Q (o::rest) a w:=by
 refine wpList_plain i λ z g=>?_
 obtain⟨w',b,v,y⟩:=h.del s n r hi k o.type;unfold Oper.wp;simp[execOp,j,resolve,invoke,builtin,q,u,b,Result.andThen];exact g _ _ (p w' v y)
section
variable{w w':World}{s b:Nat}{M:Nat->Nat}{r t:Nat}{F:Nat->UInt64->Option Value}{st:St}{S:Nat->Prop}
theorem Zan.refs'(h:Zan w s b M r t F st S)(m:MapG kS w' r (nview l) l.length)(c:Zaa (λ i=>i=r) w w'):Zan w' s b M r t F { st with refs:=l } S:=by
 obtain⟨es,cl,a⟩:=h.refs.block;refine⟨(c.block s h.lt_s (λ e=>h.map_ne.1 e.symm)).trans h.cells,?_,m,h.tags.turned c (λ q=>h.apart.2 q.symm),h.gone,?_,h.inj,h.apart,h.own,λ i hi=>AI (h.lt i hi) c.size⟩
 ·intro k d;obtain⟨n,f,g⟩:=h.objs k d;exact⟨n,f,g.turned c (λ q=>(h.apart.1 k d).1 q)⟩
 ·intro k d i bs o;obtain⟨v,f,g,j⟩:=h.there k d i bs o;exact⟨v,f,Zga g a c,j⟩
theorem Zan.tags'(h:Zan w s b M r t F st S)(m:MapG kS w' t (nview l) l.length)(c:Zaa (λ i=>i=t) w w'):Zan w' s b M r t F { st with tags:=l } S:=by
 obtain⟨es,cl,a⟩:=h.tags.block;refine⟨(c.block s h.lt_s (λ e=>h.map_ne.2.1 e.symm)).trans h.cells,?_,h.refs.turned c (λ q=>h.apart.2 q),m,h.gone,?_,h.inj,h.apart,h.own,λ i hi=>AI (h.lt i hi) c.size⟩
 ·intro k d;obtain⟨n,f,g⟩:=h.objs k d;exact⟨n,f,g.turned c (λ q=>(h.apart.1 k d).2 q)⟩
 ·intro k d i bs o;obtain⟨v,f,g,j⟩:=h.there k d i bs o;exact⟨v,f,Zga g a c,j⟩
theorem Zdk(h:MapG kS w m (nview l) l.length)(e:Zcq l)(f:l.length<=1000000)(n:Bs)(g:n.length<=1000000)(i:UInt64):
  ∃a,(Instr.mapUpdate 115 (.map (some m)) (Ae ⟨n.toArray⟩) (Ab Al (i.toNat:Int))).run Am w=.ok () a/\MapG kS a m (nview (nwith l n i)) (nwith l n i).length/\Zaa (λ x=>x=m) w a/\MapG kS a m (gput (nview l) n (idv i)) (nwith l n i).length:=by
 obtain⟨a,c,b,d⟩:=h.put underlying115 n (by show n.length<=AG;simp only[AG];omega) (by simp only[AG];omega) (idv i);rw[ZeZ,<- ZcR n i e]at b;exact⟨a,c,by rw[<- ZjT];exact b,ZbG d,b⟩
theorem Zfh(h:MapG kS w m (nview l) l.length)(n:Bs)(a:n.length<=140737488355328):
  (Instr.lookup 115 (.map (some m)) (Ae ⟨n.toArray⟩) true).run Am w=.ok (Af #[Ab Al (((nget l n).getD 0).toNat:Int),.bool (nget l n).isSome]) w:=by
 have:=h.look underlying115 (zeroU w) n (by show n.length<=AG;simp only[AG];omega);rw[ZeZ]at this
 have e:(nview l n).getD (Ab Al 0)=Ab Al (((nget l n).getD 0).toNat:Int):=by
  unfold nview
  cases nget l n <;> rfl
 rw[e]at this;exact this
theorem Zn1(h:Zac w s b st S)(A:Zcq st.tags)(z:st.tags.length<=1000000)(B:BAt w (Aa a L c) bs)(x:bs.length=L)(C:8<=L)(N:L<=100000):
  At Am 170 #[Ah (some ⟨s,0,none⟩),Ag #[Ab Ak 5,Aa a L c]] w λ e w'=>e=Aj (Af #[])/\Zac w' s b (st.take (5,bs)) S/\Zaa S w w':=by
 obtain⟨M,r,t,F,h⟩:=h
 obtain⟨W,y⟩:=Xa (w.alloc (Ai #[Ab Ak 5,Aa a L c] 243))
 have p:An w.heap.size w W:=by rw[<- y];exact bz1 _ _
 have bx:Box W w.heap.size 243 (Ab Ak 5) (Aa a L c):=by rw[<- y];exact Box.new _ _ _ _
 obtain⟨O,P⟩:=bx.cells;have q:=h.below p;obtain⟨D,E,G,H,I,J,K⟩:=q.cell;have l:=ZcF (B.below p) x C;obtain⟨u,m,k,f,_⟩:=Zdk q.tags A z (labN bs) (by unfold labN;rw[By];omega) (labI bs)
 have g:Zac u s b (st.take (5,bs)) S/\Zaa S w u:=by
  refine⟨⟨M,r,t,F,?_⟩,(Zaa.ofBelow (S:=S) p).trans f (λ j _ e=>by have e:j=t:=e;rw[e];exact h.own.2.2.1)⟩;have:=q.tags' k f;unfold St.take;rw[Aw (by show ¬(5:Int)=4;omega),AE rfl];exact this
 have v:Hid (Zac u s b (st.take (5,bs)) S/\Zaa S w u):=g
 obtain⟨nm,d⟩:∃nm:ByteArray,(⟨(labN bs).toArray⟩:ByteArray)=nm:=⟨_,rfl⟩
 obtain⟨i,hi⟩:∃i:Int,((labI bs).toNat:Int)=i:=⟨_,rfl⟩
 rw[d,hi]at m;rw[show tx (labN bs)=Ae nm by rw[<- d],hi]at l;clear h q B x A z p bx g k f d hi;go_enter func170,ntmps170;go_wp2_with fail;refine l.mono ?_;rintro e w1 ⟨rfl,n⟩;rw[n];clear n w1;go_wp2;go_end0;exact⟨rfl,v.o⟩
theorem ZnC(h:Zac w s b st S)(E:Zcq st.refs)(J:st.refs.length<=1000000)(N:BAt w (Aa a L c) bs)(I:bs.length=L)(U:8<=L)(hb:L<=100000)(H:labI bs=0->(nget st.refs (labN bs)).isSome=true):
  At Am 170 #[Ah (some ⟨s,0,none⟩),Ag #[Ab Ak 4,Aa a L c]] w λ e w'=>e=Aj (Af #[])/\Zac w' s b (st.take (4,bs)) S/\Zaa S w w':=by
 obtain⟨M,r,t,F,h⟩:=h
 obtain⟨W,O⟩:=Xa (w.alloc (Ai #[Ab Ak 4,Aa a L c] 243))
 have B:An w.heap.size w W:=by rw[<- O];exact bz1 _ _
 have bx:Box W w.heap.size 243 (Ab Ak 4) (Aa a L c):=by rw[<- O];exact Box.new _ _ _ _
 obtain⟨x0,x1⟩:=bx.cells;have v:=h.below B;obtain⟨X,Y,Z,c3,c4,T,c6⟩:=v.cell;have m:=ZcF (N.below B) I U
 have l:(labN bs).length<=1000000:=by unfold labN;rw[By];omega
 obtain⟨y,x,A,g,f⟩:=Zdk v.refs E J (labN bs) l (labI bs);have own:=h.own.2.1;have ts:Zaa S w y:=(Zaa.ofBelow (S:=S) B).trans g (λ j _ e=>by have e:j=r:=e;rw[e];exact own);have e5:y.cell? ⟨s,5,none⟩=some (.map (some r)):=(g.cell (p:=⟨s,5,none⟩) v.lt_s (λ e=>v.map_ne.1 e.symm)).trans T;by_cases u:labI bs=0
 ·have hi:((labI bs).toNat:Int)=0:=by rw[u];rfl
  have z:Hid (∀n,MapG kS n r (gdel (gput (nview st.refs) (labN bs) (idv (labI bs))) (labN bs)) ((nwith st.refs (labN bs) (labI bs)).length - 1)->y.grownBy n (some r)->Zac n s b (st.take (4,bs)) S/\Zaa S w n):=by
   intro n P V;have t3:=ZbG V;refine⟨⟨M,r,t,F,?_⟩,ts.trans t3 (λ j _ e=>by have e:j=r:=e;rw[e];exact own)⟩
   have len:(nwith st.refs (labN bs) (labI bs)).length - 1=(nout st.refs (labN bs)).length:=by
    rw[ZcR _ _ E,AE (H u)];have:=Zfr E (H u);omega
   rw[Zmf,len]at P;have:=v.refs' P (g.trans t3 (λ _ _ q=>q));unfold St.take;rw[AE rfl,AE u];exact this
  have G:Hid (MapG kS y r (gput (nview st.refs) (labN bs) (idv (labI bs))) (nwith st.refs (labN bs) (labI bs)).length/\(labN bs).length<=1000000):=⟨f,l⟩
  obtain⟨nm,d⟩:∃nm:ByteArray,(⟨(labN bs).toArray⟩:ByteArray)=nm:=⟨_,rfl⟩
  rw[d,hi]at x;rw[show tx (labN bs)=Ae nm by rw[<- d],hi]at m;have R:Hid ((⟨(labN bs).toArray⟩:ByteArray)=nm):=d;clear h v N I E J B bx A g f d hi own ts l H u;go_enter func170,ntmps170;go_wp2_with fail;refine m.mono ?_;rintro e w1 ⟨rfl,k⟩;rw[k];clear k w1;go_wp2_with(at_delete;(refine Zmv (K:=kS) rfl (.tmp 44) (.tmp 45) 115 9 _ underlying115 rfl r _ _ rfl G.o.1 (labN bs) (by show _<=AG;have:=G.o.2;simp only[AG];omega) (by show Ae nm=Ae _;rw[R.o]) (by simp[gput]) ?_;intro n f D;have Q:Hid (Zac n s b (st.take (4,bs)) S/\Zaa S w n):=z.o n f D;clear f D));go_wp2;go_end0;exact⟨rfl,Q.o⟩
 ·have C:Zac y s b (st.take (4,bs)) S/\Zaa S w y:=by
   refine⟨⟨M,r,t,F,?_⟩,ts⟩;have:=v.refs' A g;unfold St.take;rw[AE rfl,Aw u];exact this
  have z:Hid (Zac y s b (st.take (4,bs)) S/\Zaa S w y):=C
  obtain⟨nm,d⟩:∃nm:ByteArray,(⟨(labN bs).toArray⟩:ByteArray)=nm:=⟨_,rfl⟩
  obtain⟨i,hi⟩:∃i:Int,((labI bs).toNat:Int)=i:=⟨_,rfl⟩
  have m0:(i==0)=false:=by
   rw[<- hi]
   have:¬(labI bs).toNat=0:=λ q=>u (UInt64.toNat_inj.1 (by rw[q];rfl))
   simpa using this
  rw[d,hi]at x;rw[show tx (labN bs)=Ae nm by rw[<- d],hi]at m;clear h v N I E J B bx C A g f d hi own ts l H u;go_enter func170,ntmps170;go_wp2_with fail;refine m.mono ?_;rintro e w1 ⟨rfl,k⟩;rw[k];clear k w1;go_wp2;go_end0;exact⟨rfl,z.o⟩
end
theorem ZbO{n:Bs}(h:isName n=true):n.length<=16:=by
 unfold isName at h;simp at h;omega
section
variable{w:World}{s b:Nat}{st:St}{d:Dk}{U:Nat->Prop}
theorem ZiG(B:Duo h s b st d U)(u:An h.heap.size h W)(D:BAt W (Aa a L c) body)(v:body.length=L)(A:8<=L)(H:L<=8192)(g:∀j,Blk a L j->h.heap.size<=j)(k:Int)(G:k=4∨k=5)(x:d.ok)(K:d.writes<=1000000)
  (I:Zcq st.refs) (J:Zcq st.tags) (y:st.refs.length<=1000000) (z:st.tags.length<=1000000) (M:k=4->labI body=0->(nget st.refs (labN body)).isSome=true) :
  At Am 127 #[Ah (some ⟨s,0,none⟩),Ag #[Ab Ak k,Aa a L c]] W λ e w'=>∃r,e=Aj (Ab Ak r)/\Hid (r=(sapp st d (k,body)).2.2/\Duo w' s b (sapp st d (k,body)).1 (sapp st d (k,body)).2.1 (ZaA U h w')/\Zaa U h w'):=by
 have f:=B.lt
 have n:∀i,Blk a L i->¬U i:=λ i q r=>by
  have:=g i q;have:=f i r;omega
 refine(ZoS (B.below u) D n v H k (by omega) (by omega) x K ?_).mono ?_
 ·intro E S F C p w
  have m:∀w',Zac w' s b (st.take (k,body)) S->Zaa S E w'->Zac w' s b (st.take (k,body)) (λ i=>S i∨Blk a L i)/\Zaa S E w' :=
   λ w' t l=>⟨t.mono (λ _ q=>.inl q) (λ i q=>AI (w i q) l.size),l⟩
  rcases G with rfl|rfl
  ·refine(ZnC C I y p v A (by omega) (M rfl)).mono ?_;rintro e w' ⟨rfl,t,l⟩;exact⟨rfl,m w' t l⟩
  ·refine(Zn1 C J z p v A (by omega)).mono ?_;rintro e w' ⟨rfl,t,l⟩;exact⟨rfl,m w' t l⟩
 ·rintro e w' ⟨r,rfl,R⟩;refine⟨r,rfl,R.o.1,R.o.2.1.mono ?_ ?_,(Zaa.ofBelow (S:=U) u).trans R.o.2.2 (λ _ _ q=>q)⟩
  ·intro i hi
   rcases hi with(q|q) | q
   ·exact .inl q
   ·exact .inr ⟨by have:=u.size;omega,q.2⟩
   ·exact .inr ⟨g i q,AI (D.blk i q) R.o.2.2.size⟩
  ·intro i hi
   rcases hi with q|q
   ·exact AI (f i q) (AZ u.size R.o.2.2.size)
   ·exact q.2
def clab(st:St)(n:Bs)(i:UInt64):Int:=if isName n=false then 2 else if st.has 3 i=false then 5 else 0
theorem ZiR(h:Zac w s b st S)(n:Bs)(i:UInt64)(x:Int)(p:(i.toNat:Int)=x)(o:Int)(d:clab st n i=o):
  At Am 126 #[Ah (some ⟨s,0,none⟩),tx n,Ab Al x] w λ e w'=>e=Aj (Ab Ak o)/\w'=w:=by
 have f:=λ g m=>ZdE h (k:=3) (by omega) i g m
 rw[p]at f
 have c:=λ g m=>ZbP n g m w
 unfold clab at d
 cases j:isName n with
 | false =>
  rw[j]at d;have c:=c false j;rw[show err false=2 from rfl]at c;simp at d;subst d;clear h f;go_enter func126,ntmps126;go_wp2_with fail;refine c.mono ?_;rintro e w1 ⟨rfl,a⟩;rw[a];clear a w1;go_wp2;go_ret;exact⟨rfl,rfl⟩
 | true =>
  rw[j]at d;have c:=c true j;rw[show err true=0 from rfl]at c
  cases l:st.has 3 i with
  | false =>
   rw[l]at d;simp at d;subst d;have f:=f false l;clear h;go_enter func126,ntmps126;go_wp2_with fail;refine c.mono ?_;rintro e w1 ⟨rfl,a⟩;rw[a];clear a w1;go_wp2_with fail;refine f.mono ?_;rintro e w1 ⟨rfl,a⟩;rw[a];clear a w1;go_wp2;go_ret;exact⟨rfl,rfl⟩
  | true =>
   rw[l]at d;simp at d;subst d;have f:=f true l;clear h;go_enter func126,ntmps126;go_wp2_with fail;refine c.mono ?_;rintro e w1 ⟨rfl,a⟩;rw[a];clear a w1;go_wp2_with fail;refine f.mono ?_;rintro e w1 ⟨rfl,a⟩;rw[a];clear a w1;go_wp2;go_ret;exact⟨rfl,rfl⟩
theorem ZjB(u:Duo w s b st d U)(h:st.ok)(n:Bs)(i:UInt64)(m:d.ok)(N:d.writes<=1000000)(p:st.refs.length<=1000000)(t:st.tags.length<=1000000):
  At Am 72 #[Ah (some ⟨s,0,none⟩),tx n,Ab Al (i.toNat:Int)] w λ e w'=>∃r,e=Aj (Ab Ak r)/\Hid (r=(sref st d n i).2.2/\Duo w' s b (sref st d n i).1 (sref st d n i).2.1 (ZaA U w w')/\Zaa U w w'):=by
 obtain⟨Z,v⟩:=Xa (sref st d n i)
 rw[v];obtain⟨S,T,E,K,l,M,k⟩:=u
 have u:Duo w s b st d U:=⟨S,T,E,K,l,M,k⟩
 obtain⟨C,a⟩:=Xa (clab st n i)
 obtain⟨x,A⟩:=Xa ((i.toNat:Int))
 have O:=ZiR E n i x A C a;by_cases I:C=0
 ·subst I
  have g:isName n=true:=by
   unfold clab at a
   split at a
   ·cases a
   ·simpa using ‹¬isName n=false›
  have F:st.has 3 i=true:=by
   unfold clab at a;rw[g]at a;simp at a;exact a
  have D:Z=sapp st d (4,labB i n):=by
   rw[<- v];unfold sref;rw[Aw (by simp[g]),Aw (by simp[F])]
  have j:=ZbO g;have f:=ZeD 4 n (by omega) i w
  have z:labI (labB i n)=0->(nget st.refs (labN (labB i n))).isSome=true:=by
   rw[ZbK];intro q;rw[q,ZdB h]at F;cases F
  rw[A]at f ⊢
  have H:Hid (Duo w s b st d U/\st.ok/\d.ok/\d.writes<=1000000/\st.refs.length<=1000000/\st.tags.length<=1000000/\n.length<=16/\(labI (labB i n)=0->(nget st.refs (labN (labB i n))).isSome=true)/\Z=sapp st d (4,labB i n)):=⟨u,h,m,N,p,t,j,z,D⟩
  obtain⟨L,J⟩:=Xa (8+n.length)
  rw[J]at f;have G:Hid (8+n.length=L):=J;clear u h m N p t j z D E K l M k a A g F v J;go_enter func72,ntmps72;go_wp2_with fail;refine O.mono ?_;rintro e w1 ⟨rfl,c⟩;rw[c];clear c w1;go_wp2_with fail;refine f.mono ?_;rintro e X ⟨a2,R,rfl,B⟩;have y:=ZiG H.o.1 B.o.2.2 B.o.1 (by rw[Zax];exact G.o) (by have:=G.o;omega) (by have:=G.o;have:=H.o.2.2.2.2.2.2.1;omega) B.o.2.1 4 (.inl rfl) H.o.2.2.1 H.o.2.2.2.1 H.o.2.1.refs H.o.2.1.tags H.o.2.2.2.2.1 H.o.2.2.2.2.2.1 (λ _=>H.o.2.2.2.2.2.2.2.1);rw[<- H.o.2.2.2.2.2.2.2.2]at y;clear f B;go_wp2_with fail;refine y.mono ?_;rintro e Y ⟨W,rfl,P⟩;go_wp2;go_ret;exact⟨_,rfl,P.o⟩
 ·have D:Z=(st,d,C):=by
   rw[<- v];unfold sref;unfold clab at a
   split at a
   ·rename_i q
    rw[AE q,<- a]
   ·rename_i q
    rw[Aw q]
    split at a
    ·rename_i Q
     rw[AE Q,<- a]
    ·exact absurd a.symm I
  have V:(C != 0)=true:=by simpa using I
  have H:Hid (Duo w s b st d U):=u;rw[A];subst D;clear u h m N p t E K l M k a A v;go_enter func72,ntmps72;go_wp2_with fail;refine O.mono ?_;rintro e w1 ⟨rfl,c⟩;rw[c];clear c w1;go_wp2;go_ret;exact⟨_,rfl,rfl,H.o.since (Ao _ _),Zaa.refl _ _⟩
theorem Zkw(u:Duo w s b st d U)(m:st.ok)(n:Bs)(hn:n.length<=140737488355328)(i:UInt64)(k:d.ok)(Q:d.writes<=1000000)(l:st.refs.length<=1000000)(p:st.tags.length<=1000000):
  At Am 74 #[Ah (some ⟨s,0,none⟩),tx n,Ab Al (i.toNat:Int)] w λ e w'=>∃r,e=Aj (Ab Ak r)/\Hid (r=(stag st d n i).2.2/\Duo w' s b (stag st d n i).1 (stag st d n i).2.1 (ZaA U w w')/\Zaa U w w'):=by
 obtain⟨Z,z⟩:=Xa (stag st d n i)
 rw[z];obtain⟨S,T,J,K,h,N,g⟩:=u
 have u:Duo w s b st d U:=⟨S,T,J,K,h,N,g⟩
 obtain⟨I,a⟩:=Xa (clab st n i)
 obtain⟨x,B⟩:=Xa ((i.toNat:Int))
 have X:=ZiR J n i x B I a;by_cases V:I=0
 ·subst V
  have f:isName n=true:=by
   unfold clab at a
   split at a
   ·cases a
   ·simpa using ‹¬isName n=false›
  have P:st.has 3 i=true:=by
   unfold clab at a;rw[f]at a;simp at a;exact a
  obtain⟨M,r,t,F,O⟩:=J;have A:=Zfh O.tags n hn;obtain⟨c0,c1,c2,c3,c4,c5,c6⟩:=O.cell
  obtain⟨y,Y⟩:∃y:Int,(((nget st.tags n).getD 0).toNat:Int)=y:=⟨_,rfl⟩
  rw[Y]at A
  cases D:(nget st.tags n).isSome with
  | true =>
   rw[D]at A
   have C:Z=(st,d,6):=by
    rw[<- z];unfold stag;rw[Aw (by simp[f]),Aw (by simp[P]),AE D]
   have H:Hid (Duo w s b st d U):=u;rw[B];subst C;clear u m k Q l p K h N g a B z O f P Y D;go_enter func74,ntmps74;go_wp2_with fail;refine X.mono ?_;rintro e w1 ⟨rfl,c⟩;rw[c];clear c w1;go_wp2;go_ret;exact⟨_,rfl,rfl,H.o.since (Ao _ _),Zaa.refl _ _⟩
  | false =>
   rw[D]at A
   have C:Z=sapp st d (5,labB i n):=by
    rw[<- z];unfold stag;rw[Aw (by simp[f]),Aw (by simp[P]),Aw (by simp[D])]
   have v:=ZbO f;have j:=ZeD 5 n (by omega) i w;rw[B]at j ⊢
   have H:Hid (Duo w s b st d U/\st.ok/\d.ok/\d.writes<=1000000/\st.refs.length<=1000000/\st.tags.length<=1000000/\n.length<=16/\Z=sapp st d (5,labB i n)):=⟨u,m,k,Q,l,p,v,C⟩
   obtain⟨L,W⟩:=Xa (8+n.length)
   rw[W]at j;have R:Hid (8+n.length=L):=W;clear u m k Q l p v C K h N g a B f P z O Y D W;go_enter func74,ntmps74;go_wp2_with fail;refine X.mono ?_;rintro e w1 ⟨rfl,c⟩;rw[c];clear c w1;go_wp2_with fail;refine j.mono ?_;rintro e w2 ⟨a2,c2,rfl,G⟩;have E:=ZiG H.o.1 G.o.2.2 G.o.1 (by rw[Zax];exact R.o) (by have:=R.o;omega) (by have:=R.o;have:=H.o.2.2.2.2.2.2.1;omega) G.o.2.1 5 (.inr rfl) H.o.2.2.1 H.o.2.2.2.1 H.o.2.1.refs H.o.2.1.tags H.o.2.2.2.2.1 H.o.2.2.2.2.2.1 (λ q=>by omega);rw[<- H.o.2.2.2.2.2.2.2]at E;clear j G;go_wp2_with fail;refine E.mono ?_;rintro e w3 ⟨r3,rfl,R3⟩;go_wp2;go_ret;exact⟨_,rfl,R3.o⟩
 ·have C:Z=(st,d,I):=by
   rw[<- z];unfold stag;unfold clab at a
   split at a
   ·rename_i q
    rw[AE q,<- a]
   ·rename_i q
    rw[Aw q]
    split at a
    ·rename_i q2
     rw[AE q2,<- a]
    ·exact absurd a.symm V
  have m0:(I != 0)=true:=by simpa using V
  have H:Hid (Duo w s b st d U):=u;rw[B];subst C;clear u m k Q l p J K h N g a B z;go_enter func74,ntmps74;go_wp2_with fail;refine X.mono ?_;rintro e w1 ⟨rfl,c⟩;rw[c];clear c w1;go_wp2;go_ret;exact⟨_,rfl,rfl,H.o.since (Ao _ _),Zaa.refl _ _⟩
theorem ZhO(p:Duo w s b st d U)(k:st.ok)(n:Bs)(R:n.length<=140737488355328)(i:d.ok)(G:d.writes<=1000000)(j:st.refs.length<=1000000)(l:st.tags.length<=1000000):
  At Am 76 #[Ah (some ⟨s,0,none⟩),tx n] w λ e w'=>∃r,e=Aj (Ab Ak r)/\Hid (r=(sdrop st d n).2.2/\Duo w' s b (sdrop st d n).1 (sdrop st d n).2.1 (ZaA U w w')/\Zaa U w w'):=by
 obtain⟨Z,q⟩:=Xa (sdrop st d n)
 rw[q];obtain⟨S,T,N,C,g,D,f⟩:=p
 have p:Duo w s b st d U:=⟨S,T,N,C,g,D,f⟩
 have I:Hid (Duo w s b st d U):=p
 cases a:isName n with
 | false =>
  have z:=ZbP n false a w;rw[show err false=2 from rfl]at z
  have x:Z=(st,d,2):=by
   rw[<- q];unfold sdrop;rw[AE a]
  subst x;clear p k i G j l C g D f q a N;go_enter func76,ntmps76;go_wp2_with fail;refine z.mono ?_;rintro e w1 ⟨rfl,c⟩;rw[c];clear c w1;go_wp2;go_ret;exact⟨_,rfl,rfl,I.o.since (Ao _ _),Zaa.refl _ _⟩
 | true =>
  have z:=ZbP n true a w;rw[show err true=0 from rfl]at z;obtain⟨M,r,t,F,E⟩:=N;have u:=Zfh E.refs n R;obtain⟨V,W,Q,X,Y,c5,c6⟩:=E.cell
  obtain⟨y,O⟩:∃y:Int,(((nget st.refs n).getD 0).toNat:Int)=y:=⟨_,rfl⟩
  rw[O]at u
  cases v:(nget st.refs n).isSome with
  | false =>
   rw[v]at u
   have x:Z=(st,d,5):=by
    rw[<- q];unfold sdrop;rw[Aw (by simp[a]),AE v]
   subst x;clear p k i G j l C g D f q E a O v;go_enter func76,ntmps76;go_wp2_with fail;refine z.mono ?_;rintro e w1 ⟨rfl,c⟩;rw[c];clear c w1;go_wp2;go_ret;exact⟨_,rfl,rfl,I.o.since (Ao _ _),Zaa.refl _ _⟩
  | true =>
   rw[v]at u
   have x:Z=sapp st d (4,labB 0 n):=by
    rw[<- q];unfold sdrop;rw[Aw (by simp[a]),Aw (by simp[v])]
   have m:=ZbO a;have h:=ZeD 4 n (by omega) 0 w;rw[show((0:UInt64).toNat:Int)=0 from rfl]at h
   have H:Hid (Duo w s b st d U/\st.ok/\d.ok/\d.writes<=1000000/\st.refs.length<=1000000/\st.tags.length<=1000000/\n.length<=16/\Z=sapp st d (4,labB 0 n)/\(nget st.refs (labN (labB 0 n))).isSome=true):=⟨p,k,i,G,j,l,m,x,by rw[ZbN];exact v⟩
   obtain⟨L,K⟩:=Xa (8+n.length)
   rw[K]at h;have J:Hid (8+n.length=L):=K;clear p k i G j l m x C g D f a q E O v K I;go_enter func76,ntmps76;go_wp2_with fail;refine z.mono ?_;rintro e w1 ⟨rfl,c⟩;rw[c];clear c w1;go_wp2_with fail;refine h.mono ?_;rintro e w2 ⟨a2,Q,rfl,B⟩;have A:=ZiG H.o.1 B.o.2.2 B.o.1 (by rw[Zax];exact J.o) (by have:=J.o;omega) (by have:=J.o;have:=H.o.2.2.2.2.2.2.1;omega) B.o.2.1 4 (.inl rfl) H.o.2.2.1 H.o.2.2.2.1 H.o.2.1.refs H.o.2.1.tags H.o.2.2.2.2.1 H.o.2.2.2.2.2.1 (λ _ _=>H.o.2.2.2.2.2.2.2.2);rw[<- H.o.2.2.2.2.2.2.2.1]at A;clear h B;go_wp2_with fail;refine A.mono ?_;rintro e w3 ⟨r3,rfl,P⟩;go_wp2;go_ret;exact⟨_,rfl,P.o⟩
end
end Go.Proofs.YtlojblelpaegpaaGreat
