import Derived.Test.YtakgkgmopmcecaaGreatM06
set_option maxHeartbeats 6400000
set_option maxRecDepth 100000
open Go renaming World->Ap,Calls->At,maxLen->AH,bodyPost_ret->As,results->AI,results_tmp2->AD,Value->Ar
open Go.RowKit renaming Below->An
open Go.IntKind renaming u64->Al,wrap_u64->A5,i64->Ak
open Go.Value renaming slice->Aa,int->Ab,bool->Ad,string->Ae,tuple->Af,agg->Ag
open Go.Obj renaming cells->Ai
open Go.Ending renaming returned->Aj
open Go.Proofs.Tryz renaming prog->Am
open Go.Proofs.Tryz
namespace Go.Proofs.YtakgkgmopmcecaaGreat
open Go.RowKit
variable {W W' w:Ap}{Z:Nat->Prop}{c f fc h j oc rc tc:Nat}{d:Dk}{dt:Int}{es:List En}{fa k l oa:Option Addr}{m vf vo vr vt:Ar}{nt:ByteArray}{st:St}
theorem fd{B C:Option Addr}{A on u y:Nat}(hZ:∀i,Z i->i<w.heap.size)(h1:LG iz Z w fa A fc d.files)(O:LG iH Z w oa on oc st.objs)(P:LG ix Z w B u rc st.refs)(Q:LG ix Z w C y tc st.tags)(ad:st.size<=1000000)(k:Int)(aa:¬k=4)(ab:¬k=5)(body:Bs)(af:body.length<=1000000)(f:k<1∨3<k∨jC k body=0∨st.has k (jC k body)=true):
  At Am 94 #[rm d (Aa fa A fc) (Aa oa on oc) (Aa B u rc) (Aa C y tc),Ag #[Ab Ak k,tx body]] w λ e w'=>∃m',e=Aj (Af #[m',Ad (st.fits (k,body))])/\Hid (jh Z w' m' (if st.fits (k,body)then st.take (k,body)else st) d/\Iz w w'):=by
 have hq:st.objs.length<=1000000/\st.refs.length<=1000000/\st.tags.length<=1000000:=by unfold St.size at ad;omega
 have ho:on<=1000000:=by rw[<- O.len];exact hq.1
 have ag:u<=1000000:=by rw[<- P.len];exact hq.2.1
 have ah:y<=1000000:=by rw[<- Q.len];exact hq.2.2
 obtain⟨s,I⟩:∃s:ByteArray,s=⟨body.toArray⟩:=⟨_,rfl⟩
 have t:s.size=body.length:=by rw[I];show body.toArray.size=_;simp
 obtain⟨g,S⟩:=Xa (st.fits (k,body))
 obtain⟨K,j⟩:=Xa ((if st.fits (k,body)then st.take (k,body)else st))
 rw[j,S,show tx body=Ae s by rw[I]]
 obtain⟨W,hW⟩:=Xa (((w.alloc (iD d (Aa fa A fc) (Aa oa on oc) (Aa B u rc) (Aa C y tc))).alloc (Ai #[Ab Ak k,Ae s] 194)).alloc (Ai #[Aa none 0 0,Ab Ak 0,Ad false,Ad false,Ab Ak 0,Ab Ak 0,Aa none 0 0,Aa none 0 0,Aa none 0 0] 34))
 have T:Hid (kG w W d (Aa fa A fc) (Aa oa on oc) (Aa B u rc) (Aa C y tc) k s):=by rw[<- hW];exact kG.new w d _ _ _ _ _ _
 have G:∀i,i<w.heap.size->Zx Z w i->Z i:=λ i hi q=>q.elim (λ q=>q) (λ q=>by omega)
 have L:=I4 (h1.into G) (O.into G) (P.into G) (Q.into G)
 have RB:Hid (∀W',Iz w W'->jh (Zx Z w) W' (rm d (Aa fa A fc) (Aa oa on oc) (Aa B u rc) (Aa C y tc)) st d):=λ W' b=>⟨fa,A,fc,oa,on,oc,B,u,rc,C,y,tc,rfl,L.o.1.below b,L.o.2.1.below b,L.o.2.2.1.below b,L.o.2.2.2.below b⟩
 have HZ:Hid (∀i,Zx Z w i->i<w.heap.size+3):=λ i q=>q.elim (λ q=>by have:=hZ i q;omega) (λ q=>q.2)
 have N:=I4 I j S t
 have aj:(k==4)=false:=by simpa using aa
 have ak:(k==5)=false:=by simpa using ab
 have falls:g=false->K=st:=λ q=>by rw[<- N.o.2.1,N.o.2.2.1,q];rfl
 have n:g=true->K={ st with objs:=st.objs++[⟨k,jC k body,body⟩] }:=λ q=>by rw[<- N.o.2.1,N.o.2.2.1,q,AC rfl];unfold St.take;rw[Ay (by exact aa),Ay (by exact ab)]
 have R:(st.right (k,body)&&!(decide (jC k body=0))&&!(st.has k (jC k body)))=g:=by
  rw[<- N.o.2.2.1];unfold St.fits;rw[Ay (by show ¬(k=4∨k=5);omega)]
 obtain⟨x,J⟩:=Xa (jC k body)
 rw[J]at R n;obtain⟨W1,cc,ac,D,E,r,l,m⟩:=Hm W body;rw[show tx body=Ae s by rw[N.o.1],<- t]at ac;have hid:=KP k W1 (r.at l (m (by simp only[AH];omega))) x J;rw[<- t]at hid
 obtain⟨xi,p⟩:∃xi:Int,(x.toNat:Int)=xi:=⟨_,rfl⟩
 rw[p]at hid;have c:=Ih (T.o.below D);have XI:=Ih p
 have ai:¬9223372036854775807<s.size:=by omega
 rw[J]at f
 have eg:g=false:=by
  rw[<- R]
  rcases f with q|q|q|q
  ·rw[show st.right (k,body)=false by unfold St.right;rw[Ay (by show ¬k=1;omega),Ay (by show ¬k=2;omega),Ay (by show ¬k=3;omega)]];rfl
  ·rw[show st.right (k,body)=false by unfold St.right;rw[Ay (by show ¬k=1;omega),Ay (by show ¬k=2;omega),Ay (by show ¬k=3;omega)]];rfl
  ·simp[q]
  ·simp[q]
 have es:=(falls eg).symm;subst eg es
 have F:=λ q hq=>Ij (d:=d) (oc:=oc) (vf:=Aa fa A fc) (vr:=Aa B u rc) (vt:=Aa C y tc) (L.o.2.1.rd.below c.o.bel) L.o.2.1.len ho k x q hq
 rw[p]at F;have M:=Jy x;rw[p]at M;by_cases c1:k<1
 ·clear f F M;obtain⟨v0,v1⟩:=T.o.fr.cells;clear h1 O P Q I S j G t D E r l m p J R falls n hq;obtain⟨x0,x1,x2,x3,x4,x5,x6,x7,x8⟩:=c.o.box.cells;obtain⟨y0,y1⟩:=c.o.fr.cells;obtain⟨z0,z1,z2,z3,z4,z5,z6,z7,z8⟩:=c.o.res.cells;have a:=c.o.res.thaw;have g0:=a 0;have g1:=a 1;have g2:=a 2;have V:=a 3;have X:=a 4;have Y:=a 5;have g6:=a 6;have g7:=a 7;have g8:=a 8;have l2:=c.o.res.lt;clear a;go_enter func94,ntmps94;go_wp2_with fail;refine hid.mono ?_;rintro e w1 ⟨rfl,h⟩;rw[h];clear h w1 hid;go_wp2;refine As (v:=Af #[rm d (Aa fa A fc) (Aa oa on oc) (Aa B u rc) (Aa C y tc),Ad false]) ?_ rfl ⟨_,rfl,?_⟩
  ·simp[AI,Tryz.f94];go_simp
  ·exact EY c.o.bel (RB.o _ c.o.bel) (Bu _ _ _ _ _ _ _ _ _ _ _)
 by_cases c2:3<k
 ·clear f F M;obtain⟨v0,v1⟩:=T.o.fr.cells;clear h1 O P Q I S j G t D E r l m p J R falls n hq;obtain⟨x0,x1,x2,x3,x4,x5,x6,x7,x8⟩:=c.o.box.cells;obtain⟨y0,y1⟩:=c.o.fr.cells;obtain⟨z0,z1,z2,z3,z4,z5,z6,z7,z8⟩:=c.o.res.cells;have a:=c.o.res.thaw;have g0:=a 0;have g1:=a 1;have g2:=a 2;have V:=a 3;have X:=a 4;have Y:=a 5;have g6:=a 6;have g7:=a 7;have g8:=a 8;have l2:=c.o.res.lt;clear a;go_enter func94,ntmps94;go_wp2_with fail;refine hid.mono ?_;rintro e w1 ⟨rfl,h⟩;rw[h];clear h w1 hid;go_wp2;refine As (v:=Af #[rm d (Aa fa A fc) (Aa oa on oc) (Aa B u rc) (Aa C y tc),Ad false]) ?_ rfl ⟨_,rfl,?_⟩
  ·simp[AI,Tryz.f94];go_simp
  ·exact EY c.o.bel (RB.o _ c.o.bel) (Bu _ _ _ _ _ _ _ _ _ _ _)
 by_cases U:x=0
 ·have ae:=M.2 U;subst ae;clear f F M U;obtain⟨v0,v1⟩:=T.o.fr.cells;clear h1 O P Q I S j G t D E r l m p J R falls n hq;obtain⟨x0,x1,x2,x3,x4,x5,x6,x7,x8⟩:=c.o.box.cells;obtain⟨y0,y1⟩:=c.o.fr.cells;obtain⟨z0,z1,z2,z3,z4,z5,z6,z7,z8⟩:=c.o.res.cells;have a:=c.o.res.thaw;have g0:=a 0;have g1:=a 1;have g2:=a 2;have V:=a 3;have X:=a 4;have Y:=a 5;have g6:=a 6;have g7:=a 7;have g8:=a 8;have l2:=c.o.res.lt;clear a;go_enter func94,ntmps94;go_wp2_with fail;refine hid.mono ?_;rintro e w1 ⟨rfl,h⟩;rw[h];clear h w1 hid;go_wp2;refine As (v:=Af #[rm d (Aa fa A fc) (Aa oa on oc) (Aa B u rc) (Aa C y tc),Ad false]) ?_ rfl ⟨_,rfl,?_⟩
  ·simp[AI,Tryz.f94];go_simp
  ·exact EY c.o.bel (RB.o _ c.o.bel) (Bu _ _ _ _ _ _ _ _ _ _ _)
 have c4:st.has k x=true:=by
  rcases f with q|q|q|q
  ·exact absurd q c1
  ·exact absurd q c2
  ·exact absurd q U
  ·exact q
 have F:=F true c4
 have m1:(xi==0)=false:=by
  have:=λ z=>U (M.1 z)
  simpa using this
 clear f M U c4;obtain⟨v0,v1⟩:=T.o.fr.cells;clear h1 O P Q I S j G t D E r l m p J R falls n hq;obtain⟨x0,x1,x2,x3,x4,x5,x6,x7,x8⟩:=c.o.box.cells;obtain⟨y0,y1⟩:=c.o.fr.cells;obtain⟨z0,z1,z2,z3,z4,z5,z6,z7,z8⟩:=c.o.res.cells;have a:=c.o.res.thaw;have g0:=a 0;have g1:=a 1;have g2:=a 2;have V:=a 3;have X:=a 4;have Y:=a 5;have g6:=a 6;have g7:=a 7;have g8:=a 8;have l2:=c.o.res.lt;clear a;go_enter func94,ntmps94;go_wp2_with fail;refine hid.mono ?_;rintro e w1 ⟨rfl,h⟩;rw[h];clear h w1 hid;go_wp2_with fail;refine F.mono ?_;rintro e w2 ⟨rfl,B2⟩;have H:=Ih (c.o.below B2);clear B2 F;clear x0 x1 x2 x3 x4 x5 x6 x7 x8 y0 y1 z0 z1 z2 z3 z4 z5 z6 z7 z8 g0 g1 g2 V X Y g6 g7 g8 l2;obtain⟨x0,x1,x2,x3,x4,x5,x6,x7,x8⟩:=H.o.box.cells;obtain⟨y0,y1⟩:=H.o.fr.cells;obtain⟨z0,z1,z2,z3,z4,z5,z6,z7,z8⟩:=H.o.res.cells;have a:=H.o.res.thaw;have g0:=a 0;have g1:=a 1;have g2:=a 2;have V:=a 3;have X:=a 4;have Y:=a 5;have g6:=a 6;have g7:=a 7;have g8:=a 8;have l2:=H.o.res.lt;clear a;go_wp2;refine As (v:=Af #[rm d (Aa fa A fc) (Aa oa on oc) (Aa B u rc) (Aa C y tc),Ad false]) ?_ rfl ⟨_,rfl,?_⟩
 ·simp[AI,Tryz.f94];go_simp
 ·exact EY H.o.bel (RB.o _ H.o.bel) (Bu _ _ _ _ _ _ _ _ _ _ _)
theorem dH{on:Nat}(hZ:∀i,Z i->i<w.heap.size)(h1:LG iz Z w fa j fc d.files)(h2:LG iH Z w oa on oc st.objs)(h3:LG ix Z w k c rc st.refs)(h4:LG ix Z w l f tc st.tags)(ae:st.size<=1000000)(body:Bs)(R:body.length<=1000000)(E:¬jC 1 body=0)(F:st.has 1 (jC 1 body)=false):
  At Am 94 #[rm d (Aa fa j fc) (Aa oa on oc) (Aa k c rc) (Aa l f tc),Ag #[Ab Ak 1,tx body]] w λ e w'=>∃m',e=Aj (Af #[m',Ad (st.fits (1,body))])/\Hid (jh Z w' m' (if st.fits (1,body)then st.take (1,body)else st) d/\Iz w w'):=by
 have hq:st.objs.length<=1000000/\st.refs.length<=1000000/\st.tags.length<=1000000:=by unfold St.size at ae;omega
 have ho:on<=1000000:=by rw[<- h2.len];exact hq.1
 have ag:c<=1000000:=by rw[<- h3.len];exact hq.2.1
 have ah:f<=1000000:=by rw[<- h4.len];exact hq.2.2
 obtain⟨s,hs⟩:∃s:ByteArray,s=⟨body.toArray⟩:=⟨_,rfl⟩
 have p:s.size=body.length:=by rw[hs];show body.toArray.size=_;simp
 obtain⟨g,hg⟩:=Xa (st.fits (1,body))
 obtain⟨D,m⟩:=Xa ((if st.fits (1,body)then st.take (1,body)else st))
 rw[m,hg,show tx body=Ae s by rw[hs]]
 obtain⟨W,hW⟩:=Xa (((w.alloc (iD d (Aa fa j fc) (Aa oa on oc) (Aa k c rc) (Aa l f tc))).alloc (Ai #[Ab Ak 1,Ae s] 194)).alloc (Ai #[Aa none 0 0,Ab Ak 0,Ad false,Ad false,Ab Ak 0,Ab Ak 0,Aa none 0 0,Aa none 0 0,Aa none 0 0] 34))
 have P0:Hid (kG w W d (Aa fa j fc) (Aa oa on oc) (Aa k c rc) (Aa l f tc) 1 s):=by rw[<- hW];exact kG.new w d _ _ _ _ _ _
 have zx:∀i,i<w.heap.size->Zx Z w i->Z i:=λ i hi q=>q.elim (λ q=>q) (λ q=>by omega)
 have L:=I4 (h1.into zx) (h2.into zx) (h3.into zx) (h4.into zx)
 have RB:Hid (∀W',Iz w W'->jh (Zx Z w) W' (rm d (Aa fa j fc) (Aa oa on oc) (Aa k c rc) (Aa l f tc)) st d):=λ W' b=>⟨fa,j,fc,oa,on,oc,k,c,rc,l,f,tc,rfl,L.o.1.below b,L.o.2.1.below b,L.o.2.2.1.below b,L.o.2.2.2.below b⟩
 have HZ:Hid (∀i,Zx Z w i->i<w.heap.size+3):=λ i q=>q.elim (λ q=>by have:=hZ i q;omega) (λ q=>q.2)
 have I:=I4 hs m hg p
 have falls:g=false->D=st:=λ q=>by rw[<- I.o.2.1,I.o.2.2.1,q];rfl
 have A:g=true->D={ st with objs:=st.objs++[⟨1,jC 1 body,body⟩] }:=λ q=>by rw[<- I.o.2.1,I.o.2.2.1,q,AC rfl];unfold St.take;rw[Ay (by show ¬(1:Int)=4;omega),Ay (by show ¬(1:Int)=5;omega)]
 have hf:(st.right (1,body)&&!(decide (jC 1 body=0))&&!(st.has 1 (jC 1 body)))=g:=by
  rw[<- I.o.2.2.1];unfold St.fits;rw[Ay (by show ¬((1:Int)=4∨(1:Int)=5);omega)]
 obtain⟨x,hx⟩:=Xa (jC 1 body)
 rw[hx]at hf A;obtain⟨W1,cc,ad,J,ac,C,u,y⟩:=Hm W body;rw[show tx body=Ae s by rw[I.o.1],<- p]at ad;have hid:=KP 1 W1 (C.at u (y (by simp only[AH];omega))) x hx;rw[<- p]at hid
 obtain⟨xi,r⟩:∃xi:Int,(x.toNat:Int)=xi:=⟨_,rfl⟩
 rw[r]at hid;have n:=Ih (P0.o.below J);have XI:=Ih r
 have aj:¬9223372036854775807<s.size:=by omega
 rw[hx]at E F;have hh:=Ij (d:=d) (oc:=oc) (vf:=Aa fa j fc) (vr:=Aa k c rc) (vt:=Aa l f tc) (L.o.2.1.rd.below n.o.bel) L.o.2.1.len ho 1 x false F;rw[r]at hh;have u0:=Jy x;rw[r]at u0
 have m1:(xi==0)=false:=by
  have:=λ z=>E (u0.1 z)
  simpa using this
 have aa:st.right (1,body)=g:=by
  rw[<- hf,F];simp[E]
 have FL:=I3 falls A aa
 have HL:=Ih p;have HB:=Ih R;clear u0 E F hf aa falls A hq;by_cases h4:s.size<=4096
 ·have t4:¬(4096:Int)<(s.size:Int):=by omega
  have af:¬4096<s.size:=by omega
  have eg:g=true:=by rw[<- FL.o.2.2];unfold St.right;rw[AC rfl];simp;have:=HL.o;omega
  have es:=FL.o.2.1 eg;subst eg es;obtain⟨v0,v1⟩:=P0.o.fr.cells;clear h1 h2 h3 h4 hs hg m zx p J ac C u y r hx R;obtain⟨U,V,X,Y,x4,x5,x6,x7,x8⟩:=n.o.box.cells;obtain⟨G,H⟩:=n.o.fr.cells;obtain⟨z0,z1,z2,z3,z4,z5,z6,z7,z8⟩:=n.o.res.cells;have a:=n.o.res.thaw;have g0:=a 0;have g1:=a 1;have g2:=a 2;have K:=a 3;have M:=a 4;have N:=a 5;have O:=a 6;have P:=a 7;have Q:=a 8;have S:=n.o.res.lt;clear a;go_enter func94,ntmps94;go_wp2_with fail;refine hid.mono ?_;rintro e w1 ⟨rfl,B⟩;rw[B];clear B w1 hid;go_wp2_with fail;refine hh.mono ?_;rintro e w2 ⟨rfl,B2⟩;have h:=Ih (n.o.below B2);clear B2 hh;clear U V X Y x4 x5 x6 x7 x8 G H z0 z1 z2 z3 z4 z5 z6 z7 z8 g0 g1 g2 K M N O P Q S;obtain⟨U,V,X,Y,x4,x5,x6,x7,x8⟩:=h.o.box.cells;obtain⟨G,H⟩:=h.o.fr.cells;obtain⟨z0,z1,z2,z3,z4,z5,z6,z7,z8⟩:=h.o.res.cells;have a:=h.o.res.thaw;have g0:=a 0;have g1:=a 1;have g2:=a 2;have K:=a 3;have M:=a 4;have N:=a 5;have O:=a 6;have P:=a 7;have Q:=a 8;have S:=h.o.res.lt;clear a
  go_wp2_with(first
   | (at_builtin;refine IN iH 225 31 32 _ rfl Tryz.info225 underlying31 rfl (.tmp 159) (.tmp 161) rfl (w.heap.size+3) _ [] st.objs oa on oc rfl (gM.nil _ _ _ _) rfl (L.o.2.1.rd.below h.o.bel) L.o.2.1.len (by simp;omega) (by simp only[AH];simp;omega) h.o.size ?_;intro v8 w8 o8 b8 m8 t8;have P8:=I2 (JE h.o b8) (by simpa using o8:gM iH 225 w8 (w.heap.size+3) v8 st.objs);clear o8 b8 m8 t8;clear U V X Y x4 x5 x6 x7 x8 G H z0 z1 z2 z3 z4 z5 z6 z7 z8 g0 g1 g2 K M N O P Q S;obtain⟨G,H⟩:=P8.o.1.fr.cells)
   | (at_builtin;refine BA iH 225 31 32 _ rfl Tryz.info225 underlying31 rfl (.tmp 163) (.tmp 170) rfl (w.heap.size+3) _ st.objs ⟨1,x,body⟩ 225 rfl P8.o.2 rfl (by rw[L.o.2.1.len];omega) (by rw[L.o.2.1.len];simp only[AH];omega) P8.o.1.size _ (by rw[<- XI.o,I.o.1];rfl) ?_;intro v9 w9 o9 b9 m9 t9;obtain⟨a9,c9,e9,T⟩:=LG.ofOwn (Z:=Zx Z w) o9 HZ.o;obtain⟨n9,ab⟩:=Xa ((st.objs++[(⟨1,x,body⟩:Ob)]).length);rw[ab]at e9 T;subst e9;have t:=I2 (JE P8.o.1 b9) T;clear o9 b9 m9 t9 T ab;clear G H;obtain⟨U,V,X,Y,x4,x5,x6,x7,x8⟩:=t.o.1.box.cells;obtain⟨z0,z1,z2,z3,z4,z5,z6,z7,z8⟩:=t.o.1.res.cells;have a:=t.o.1.res.thaw;have g0:=a 0;have g1:=a 1;have g2:=a 2;have K:=a 3;have M:=a 4;have N:=a 5;have O:=a 6;have P:=a 7;have Q:=a 8;have S:=t.o.1.res.lt;have f6:=t.o.1.box.thaw 6;have l0:=t.o.1.box.lt;have ai:w.heap.size≠w.heap.size+2:=(by omega);clear a))
  go_wp2;refine As (v:=Af #[rm d (Aa fa j fc) (Aa a9 n9 c9) (Aa k c rc) (Aa l f tc),Ad true]) ?_ rfl ⟨_,rfl,?_⟩
  ·simp[AI,Tryz.f94];go_simp
  ·exact JG t.o.1.bel (⟨fa,j,fc,a9,n9,c9,k,c,rc,l,f,tc,rfl,L.o.1.below t.o.1.bel,t.o.2,L.o.2.2.1.below t.o.1.bel,L.o.2.2.2.below t.o.1.bel⟩) rfl (Bu _ _ _ _ _ _ _ _ _ _ _)
 ·have t4:(4096:Int)<(s.size:Int):=by omega
  have af:4096<s.size:=by omega
  have eg:g=false:=by rw[<- FL.o.2.2];unfold St.right;rw[AC rfl];simp;have:=HL.o;omega
  have es:=FL.o.1 eg;subst eg es;obtain⟨v0,v1⟩:=P0.o.fr.cells;clear h1 h2 h3 h4 hs hg m zx p J ac C u y r hx R;obtain⟨U,V,X,Y,x4,x5,x6,x7,x8⟩:=n.o.box.cells;obtain⟨G,H⟩:=n.o.fr.cells;obtain⟨z0,z1,z2,z3,z4,z5,z6,z7,z8⟩:=n.o.res.cells;have a:=n.o.res.thaw;have g0:=a 0;have g1:=a 1;have g2:=a 2;have K:=a 3;have M:=a 4;have N:=a 5;have O:=a 6;have P:=a 7;have Q:=a 8;have S:=n.o.res.lt;clear a;go_enter func94,ntmps94;go_wp2_with fail;refine hid.mono ?_;rintro e w1 ⟨rfl,B⟩;rw[B];clear B w1 hid;go_wp2_with fail;refine hh.mono ?_;rintro e w2 ⟨rfl,B2⟩;have h:=Ih (n.o.below B2);clear B2 hh;clear U V X Y x4 x5 x6 x7 x8 G H z0 z1 z2 z3 z4 z5 z6 z7 z8 g0 g1 g2 K M N O P Q S;obtain⟨U,V,X,Y,x4,x5,x6,x7,x8⟩:=h.o.box.cells;obtain⟨G,H⟩:=h.o.fr.cells;obtain⟨z0,z1,z2,z3,z4,z5,z6,z7,z8⟩:=h.o.res.cells;have a:=h.o.res.thaw;have g0:=a 0;have g1:=a 1;have g2:=a 2;have K:=a 3;have M:=a 4;have N:=a 5;have O:=a 6;have P:=a 7;have Q:=a 8;have S:=h.o.res.lt;clear a;go_wp2;refine As (v:=Af #[rm d (Aa fa j fc) (Aa oa on oc) (Aa k c rc) (Aa l f tc),Ad false]) ?_ rfl ⟨_,rfl,?_⟩
  ·simp[AI,Tryz.f94];go_simp
  ·exact EY h.o.bel (RB.o _ h.o.bel) (Bu _ _ _ _ _ _ _ _ _ _ _)
theorem X6{j:Option Addr}{on:Nat}(hZ:∀i,Z i->i<w.heap.size)(h1:LG iz Z w fa h fc d.files)(h2:LG iH Z w oa on oc st.objs)(h3:LG ix Z w j c rc st.refs)(h4:LG ix Z w k f tc st.tags)(am:st.size<=1000000)(body:Bs)(n:body.length<=1000000)(B:¬jC 2 body=0)(C:st.has 2 (jC 2 body)=false):
  At Am 94 #[rm d (Aa fa h fc) (Aa oa on oc) (Aa j c rc) (Aa k f tc),Ag #[Ab Ak 2,tx body]] w λ e w'=>∃m',e=Aj (Af #[m',Ad (st.fits (2,body))])/\Hid (jh Z w' m' (if st.fits (2,body)then st.take (2,body)else st) d/\Iz w w'):=by
 have hq:st.objs.length<=1000000/\st.refs.length<=1000000/\st.tags.length<=1000000:=by unfold St.size at am;omega
 have ho:on<=1000000:=by rw[<- h2.len];exact hq.1
 have ao:c<=1000000:=by rw[<- h3.len];exact hq.2.1
 have ap:f<=1000000:=by rw[<- h4.len];exact hq.2.2
 obtain⟨s,hs⟩:∃s:ByteArray,s=⟨body.toArray⟩:=⟨_,rfl⟩
 have p:s.size=body.length:=by rw[hs];show body.toArray.size=_;simp
 obtain⟨g,hg⟩:=Xa (st.fits (2,body))
 obtain⟨u,r⟩:=Xa ((if st.fits (2,body)then st.take (2,body)else st))
 rw[r,hg,show tx body=Ae s by rw[hs]]
 obtain⟨W,hW⟩:=Xa (((w.alloc (iD d (Aa fa h fc) (Aa oa on oc) (Aa j c rc) (Aa k f tc))).alloc (Ai #[Ab Ak 2,Ae s] 194)).alloc (Ai #[Aa none 0 0,Ab Ak 0,Ad false,Ad false,Ab Ak 0,Ab Ak 0,Aa none 0 0,Aa none 0 0,Aa none 0 0] 34))
 have P0:Hid (kG w W d (Aa fa h fc) (Aa oa on oc) (Aa j c rc) (Aa k f tc) 2 s):=by rw[<- hW];exact kG.new w d _ _ _ _ _ _
 have zx:∀i,i<w.heap.size->Zx Z w i->Z i:=λ i hi q=>q.elim (λ q=>q) (λ q=>by omega)
 have L:=I4 (h1.into zx) (h2.into zx) (h3.into zx) (h4.into zx)
 have RB:Hid (∀W',Iz w W'->jh (Zx Z w) W' (rm d (Aa fa h fc) (Aa oa on oc) (Aa j c rc) (Aa k f tc)) st d):=λ W' b=>⟨fa,h,fc,oa,on,oc,j,c,rc,k,f,tc,rfl,L.o.1.below b,L.o.2.1.below b,L.o.2.2.1.below b,L.o.2.2.2.below b⟩
 have HZ:Hid (∀i,Zx Z w i->i<w.heap.size+3):=λ i q=>q.elim (λ q=>by have:=hZ i q;omega) (λ q=>q.2)
 have F:=I4 hs r hg p
 have falls:g=false->u=st:=λ q=>by rw[<- F.o.2.1,F.o.2.2.1,q];rfl
 have m:g=true->u={ st with objs:=st.objs++[⟨2,jC 2 body,body⟩] }:=λ q=>by rw[<- F.o.2.1,F.o.2.2.1,q,AC rfl];unfold St.take;rw[Ay (by show ¬(2:Int)=4;omega),Ay (by show ¬(2:Int)=5;omega)]
 have hf:(st.right (2,body)&&!(decide (jC 2 body=0))&&!(st.has 2 (jC 2 body)))=g:=by
  rw[<- F.o.2.2.1];unfold St.fits;rw[Ay (by show ¬((2:Int)=4∨(2:Int)=5);omega)]
 obtain⟨x,hx⟩:=Xa (jC 2 body)
 rw[hx]at hf m;obtain⟨W1,cc,al,ae,an,Q,G,H⟩:=Hm W body;rw[show tx body=Ae s by rw[F.o.1],<- p]at al;have hid:=KP 2 W1 (Q.at G (H (by simp only[AH];omega))) x hx;rw[<- p]at hid
 obtain⟨xi,t⟩:∃xi:Int,(x.toNat:Int)=xi:=⟨_,rfl⟩
 rw[t]at hid;have P1:=Ih (P0.o.below ae);have XI:=Ih t
 have ar:¬9223372036854775807<s.size:=by omega
 rw[hx]at B C;have hh:=Ij (d:=d) (oc:=oc) (vf:=Aa fa h fc) (vr:=Aa j c rc) (vt:=Aa k f tc) (L.o.2.1.rd.below P1.o.bel) L.o.2.1.len ho 2 x false C;rw[t]at hh;have u0:=Jy x;rw[t]at u0
 have m1:(xi==0)=false:=by
  have:=λ z=>B (u0.1 z)
  simpa using this
 have af:st.right (2,body)=g:=by
  rw[<- hf,C];simp[B]
 have FL:=I3 falls m af
 have HL:=Ih p;have HB:=Ih n;clear u0 B C hf af falls m hq;obtain⟨v0,v1⟩:=P0.o.fr.cells;clear h1 h2 h3 h4 hs hg r zx p ae an Q G H t hx n;obtain⟨R,S,T,U,V,X,Y,x7,x8⟩:=P1.o.box.cells;obtain⟨D,E⟩:=P1.o.fr.cells;obtain⟨z0,z1,z2,z3,z4,z5,z6,z7,z8⟩:=P1.o.res.cells;have a:=P1.o.res.thaw;have g0:=a 0;have g1:=a 1;have g2:=a 2;have I:=a 3;have J:=a 4;have K:=a 5;have M:=a 6;have N:=a 7;have O:=a 8;have P:=P1.o.res.lt;clear a;go_enter func94,ntmps94;go_wp2_with fail;refine hid.mono ?_;rintro e w1 ⟨rfl,aj⟩;rw[aj];clear aj w1 hid
 have ab:=λ W'=>TF body HB.o W'
 rw[show tx body=Ae s by rw[F.o.1]]at ab;have ad:=Ih ab;clear ab;go_wp2_with fail;refine hh.mono ?_;rintro e w2 ⟨rfl,B2⟩;have P2:=Ih (P1.o.below B2);clear B2 hh;clear R S T U V X Y x7 x8 D E z0 z1 z2 z3 z4 z5 z6 z7 z8 g0 g1 g2 I J K M N O P;obtain⟨R,S,T,U,V,X,Y,x7,x8⟩:=P2.o.box.cells;obtain⟨D,E⟩:=P2.o.fr.cells;obtain⟨z0,z1,z2,z3,z4,z5,z6,z7,z8⟩:=P2.o.res.cells;have a:=P2.o.res.thaw;have g0:=a 0;have g1:=a 1;have g2:=a 2;have I:=a 3;have J:=a 4;have K:=a 5;have M:=a 6;have N:=a 7;have O:=a 8;have P:=P2.o.res.lt;clear a;go_wp2_with fail;refine(ad.o w2).mono ?_;rintro e w3 ⟨es,er,v3,rfl,R3⟩;have A:=Ih (P2.o.below R3.o.2.2);clear ad;clear R S T U V X Y x7 x8 D E z0 z1 z2 z3 z4 z5 z6 z7 z8 g0 g1 g2 I J K M N O P;obtain⟨R,S,T,U,V,X,Y,x7,x8⟩:=A.o.box.cells;obtain⟨D,E⟩:=A.o.fr.cells;obtain⟨z0,z1,z2,z3,z4,z5,z6,z7,z8⟩:=A.o.res.cells;have a:=A.o.res.thaw;have g0:=a 0;have g1:=a 1;have g2:=a 2;have I:=a 3;have J:=a 4;have K:=a 5;have M:=a 6;have N:=a 7;have O:=a 8;have P:=A.o.res.lt;clear a
 rcases R3.o.1.rd with⟨rfl,hr⟩ | ⟨rfl,rfl,hr⟩
 have ah:st.right (2,body)=st.blobs es:=by unfold St.right;rw[Ay (by show ¬(2:Int)=1;omega),AC rfl];simp only[hr]
 obtain⟨a3,c3,ai,_,_,r3,_⟩:=gM.form R3.o.2.1;have ak:=(It (JC hr).1).1
 obtain⟨en,aa⟩:=Xa es.length
 have n:=S6 (d:=d) (oc:=oc) (vf:=Aa fa h fc) (vr:=Aa j c rc) (vt:=Aa k f tc) (ec:=c3) (L.o.2.1.rd.below A.o.bel) L.o.2.1.len ho r3 aa (by omega) g (by rw[<- ah];exact FL.o.2.2);rw[aa]at ai;subst ai;clear ah r3 ak aa hr R3;go_wp2_with fail;refine n.mono ?_;rintro e w4 ⟨rfl,B4⟩;have y:=Ih (A.o.below B4);clear B4 n;clear R S T U V X Y x7 x8 D E z0 z1 z2 z3 z4 z5 z6 z7 z8 g0 g1 g2 I J K M N O P;obtain⟨R,S,T,U,V,X,Y,x7,x8⟩:=y.o.box.cells;obtain⟨D,E⟩:=y.o.fr.cells;obtain⟨z0,z1,z2,z3,z4,z5,z6,z7,z8⟩:=y.o.res.cells;have a:=y.o.res.thaw;have g0:=a 0;have g1:=a 1;have g2:=a 2;have I:=a 3;have J:=a 4;have K:=a 5;have M:=a 6;have N:=a 7;have O:=a 8;have P:=y.o.res.lt;clear a
 cases g with
 | false =>
  have es:=FL.o.1 rfl;subst es;go_wp2;refine As (v:=Af #[rm d (Aa fa h fc) (Aa oa on oc) (Aa j c rc) (Aa k f tc),Ad false]) ?_ rfl ⟨_,rfl,?_⟩;simp[AI,Tryz.f94];go_simp;exact EY y.o.bel (RB.o _ y.o.bel) (Bu _ _ _ _ _ _ _ _ _ _ _)
 | true =>
  have es:=FL.o.2.1 rfl;subst es
  go_wp2_with(first
   | (at_builtin;refine IN iH 225 31 32 _ rfl Tryz.info225 underlying31 rfl (.tmp 159) (.tmp 161) rfl (w.heap.size+3) _ [] st.objs oa on oc rfl (gM.nil _ _ _ _) rfl (L.o.2.1.rd.below y.o.bel) L.o.2.1.len (by simp;omega) (by simp only[AH];simp;omega) y.o.size ?_;intro v8 w8 o8 b8 m8 t8;have P8:=I2 (JE y.o b8) (by simpa using o8:gM iH 225 w8 (w.heap.size+3) v8 st.objs);clear o8 b8 m8 t8;clear R S T U V X Y x7 x8 D E z0 z1 z2 z3 z4 z5 z6 z7 z8 g0 g1 g2 I J K M N O P;obtain⟨D,E⟩:=P8.o.1.fr.cells)
   | (at_builtin;refine BA iH 225 31 32 _ rfl Tryz.info225 underlying31 rfl (.tmp 163) (.tmp 170) rfl (w.heap.size+3) _ st.objs ⟨2,x,body⟩ 225 rfl P8.o.2 rfl (by rw[L.o.2.1.len];omega) (by rw[L.o.2.1.len];simp only[AH];omega) P8.o.1.size _ (by rw[<- XI.o,F.o.1];rfl) ?_;intro v9 w9 o9 b9 m9 t9;obtain⟨a9,c9,e9,ac⟩:=LG.ofOwn (Z:=Zx Z w) o9 HZ.o;obtain⟨n9,ag⟩:=Xa ((st.objs++[(⟨2,x,body⟩:Ob)]).length);rw[ag]at e9 ac;subst e9;have l:=I2 (JE P8.o.1 b9) ac;clear o9 b9 m9 t9 ac ag;clear D E;obtain⟨R,S,T,U,V,X,Y,x7,x8⟩:=l.o.1.box.cells;obtain⟨z0,z1,z2,z3,z4,z5,z6,z7,z8⟩:=l.o.1.res.cells;have a:=l.o.1.res.thaw;have g0:=a 0;have g1:=a 1;have g2:=a 2;have I:=a 3;have J:=a 4;have K:=a 5;have M:=a 6;have N:=a 7;have O:=a 8;have P:=l.o.1.res.lt;have f6:=l.o.1.box.thaw 6;have l0:=l.o.1.box.lt;have aq:w.heap.size≠w.heap.size+2:=(by omega);clear a))
  go_wp2;refine As (v:=Af #[rm d (Aa fa h fc) (Aa a9 n9 c9) (Aa j c rc) (Aa k f tc),Ad true]) ?_ rfl ⟨_,rfl,?_⟩;simp[AI,Tryz.f94];go_simp;exact JG l.o.1.bel (⟨fa,h,fc,a9,n9,c9,j,c,rc,k,f,tc,rfl,L.o.1.below l.o.1.bel,l.o.2,L.o.2.2.1.below l.o.1.bel,L.o.2.2.2.below l.o.1.bel⟩) rfl (Bu _ _ _ _ _ _ _ _ _ _ _)
 have eg:g=false:=by rw[<- FL.o.2.2];unfold St.right;rw[Ay (by show ¬(2:Int)=1;omega),AC rfl];simp only[hr]
 have es:=FL.o.1 eg;subst eg es;clear hr R3;go_wp2;refine As (v:=Af #[rm d (Aa fa h fc) (Aa oa on oc) (Aa j c rc) (Aa k f tc),Ad false]) ?_ rfl ⟨_,rfl,?_⟩
 simp[AI,Tryz.f94];go_simp
 exact EY A.o.bel (RB.o _ A.o.bel) (Bu _ _ _ _ _ _ _ _ _ _ _)
theorem dj{on:Nat}(hZ:∀i,Z i->i<w.heap.size)(h1:LG iz Z w fa j fc d.files)(h2:LG iH Z w oa on oc st.objs)(h3:LG ix Z w k f rc st.refs)(h4:LG ix Z w l h tc st.tags)(ap:st.size<=1000000)(body:Bs)(ai:body.length<=1000000)(B:¬jC 3 body=0)(C:st.has 3 (jC 3 body)=false):
  At Am 94 #[rm d (Aa fa j fc) (Aa oa on oc) (Aa k f rc) (Aa l h tc),Ag #[Ab Ak 3,tx body]] w λ e w'=>∃m',e=Aj (Af #[m',Ad (st.fits (3,body))])/\Hid (jh Z w' m' (if st.fits (3,body)then st.take (3,body)else st) d/\Iz w w'):=by
 have hq:st.objs.length<=1000000/\st.refs.length<=1000000/\st.tags.length<=1000000:=by unfold St.size at ap;omega
 have ho:on<=1000000:=by rw[<- h2.len];exact hq.1
 have ar:f<=1000000:=by rw[<- h3.len];exact hq.2.1
 have au:h<=1000000:=by rw[<- h4.len];exact hq.2.2
 obtain⟨s,hs⟩:∃s:ByteArray,s=⟨body.toArray⟩:=⟨_,rfl⟩
 have r:s.size=body.length:=by rw[hs];show body.toArray.size=_;simp
 obtain⟨g,hg⟩:=Xa (st.fits (3,body))
 obtain⟨y,t⟩:=Xa ((if st.fits (3,body)then st.take (3,body)else st))
 rw[t,hg,show tx body=Ae s by rw[hs]]
 obtain⟨W,hW⟩:=Xa (((w.alloc (iD d (Aa fa j fc) (Aa oa on oc) (Aa k f rc) (Aa l h tc))).alloc (Ai #[Ab Ak 3,Ae s] 194)).alloc (Ai #[Aa none 0 0,Ab Ak 0,Ad false,Ad false,Ab Ak 0,Ab Ak 0,Aa none 0 0,Aa none 0 0,Aa none 0 0] 34))
 have P0:Hid (kG w W d (Aa fa j fc) (Aa oa on oc) (Aa k f rc) (Aa l h tc) 3 s):=by rw[<- hW];exact kG.new w d _ _ _ _ _ _
 have zx:∀i,i<w.heap.size->Zx Z w i->Z i:=λ i hi q=>q.elim (λ q=>q) (λ q=>by omega)
 have L:=I4 (h1.into zx) (h2.into zx) (h3.into zx) (h4.into zx)
 have RB:Hid (∀W',Iz w W'->jh (Zx Z w) W' (rm d (Aa fa j fc) (Aa oa on oc) (Aa k f rc) (Aa l h tc)) st d):=λ W' b=>⟨fa,j,fc,oa,on,oc,k,f,rc,l,h,tc,rfl,L.o.1.below b,L.o.2.1.below b,L.o.2.2.1.below b,L.o.2.2.2.below b⟩
 have HZ:Hid (∀i,Zx Z w i->i<w.heap.size+3):=λ i q=>q.elim (λ q=>by have:=hZ i q;omega) (λ q=>q.2)
 have G:=I4 hs t hg r
 have falls:g=false->y=st:=λ q=>by rw[<- G.o.2.1,G.o.2.2.1,q];rfl
 have p:g=true->y={ st with objs:=st.objs++[⟨3,jC 3 body,body⟩] }:=λ q=>by rw[<- G.o.2.1,G.o.2.2.1,q,AC rfl];unfold St.take;rw[Ay (by show ¬(3:Int)=4;omega),Ay (by show ¬(3:Int)=5;omega)]
 have hf:(st.right (3,body)&&!(decide (jC 3 body=0))&&!(st.has 3 (jC 3 body)))=g:=by
  rw[<- G.o.2.2.1];unfold St.fits;rw[Ay (by show ¬((3:Int)=4∨(3:Int)=5);omega)]
 obtain⟨x,hx⟩:=Xa (jC 3 body)
 rw[hx]at hf p;obtain⟨W1,cc,ao,ag,aq,S,I,J⟩:=Hm W body;rw[show tx body=Ae s by rw[G.o.1],<- r]at ao;have hid:=KP 3 W1 (S.at I (J (by simp only[AH];omega))) x hx;rw[<- r]at hid
 obtain⟨xi,u⟩:∃xi:Int,(x.toNat:Int)=xi:=⟨_,rfl⟩
 rw[u]at hid;have P1:=Ih (P0.o.below ag);have XI:=Ih u
 have aw:¬9223372036854775807<s.size:=by omega
 rw[hx]at B C;have hh:=Ij (d:=d) (oc:=oc) (vf:=Aa fa j fc) (vr:=Aa k f rc) (vt:=Aa l h tc) (L.o.2.1.rd.below P1.o.bel) L.o.2.1.len ho 3 x false C;rw[u]at hh;have u0:=Jy x;rw[u]at u0
 have m1:(xi==0)=false:=by
  have:=λ z=>B (u0.1 z)
  simpa using this
 have aj:st.right (3,body)=g:=by
  rw[<- hf,C];simp[B]
 have FL:=I3 falls p aj
 have HL:=Ih r;have HB:=Ih ai;clear u0 B C hf aj falls p hq;obtain⟨v0,v1⟩:=P0.o.fr.cells;clear h1 h2 h3 h4 hs hg t zx r ag aq S I J u hx ai;obtain⟨T,U,V,X,Y,x5,x6,x7,x8⟩:=P1.o.box.cells;obtain⟨E,F⟩:=P1.o.fr.cells;obtain⟨z0,z1,z2,z3,z4,z5,z6,z7,z8⟩:=P1.o.res.cells;have a:=P1.o.res.thaw;have g0:=a 0;have g1:=a 1;have g2:=a 2;have K:=a 3;have M:=a 4;have N:=a 5;have O:=a 6;have P:=a 7;have Q:=a 8;have R:=P1.o.res.lt;clear a;go_enter func94,ntmps94;go_wp2_with fail;refine hid.mono ?_;rintro e w1 ⟨rfl,am⟩;rw[am];clear am w1 hid
 have ac:=λ W'=>MF body (by have:=HB.o;omega) W'
 rw[show tx body=Ae s by rw[G.o.1]]at ac;have af:=Ih ac;clear ac;go_wp2_with fail;refine hh.mono ?_;rintro e w2 ⟨rfl,B2⟩;have P2:=Ih (P1.o.below B2);clear B2 hh;clear T U V X Y x5 x6 x7 x8 E F z0 z1 z2 z3 z4 z5 z6 z7 z8 g0 g1 g2 K M N O P Q R;obtain⟨T,U,V,X,Y,x5,x6,x7,x8⟩:=P2.o.box.cells;obtain⟨E,F⟩:=P2.o.fr.cells;obtain⟨z0,z1,z2,z3,z4,z5,z6,z7,z8⟩:=P2.o.res.cells;have a:=P2.o.res.thaw;have g0:=a 0;have g1:=a 1;have g2:=a 2;have K:=a 3;have M:=a 4;have N:=a 5;have O:=a 6;have P:=a 7;have Q:=a 8;have R:=P2.o.res.lt;clear a;go_wp2_with fail;refine(af.o w2).mono ?_;rintro e w3 ⟨cm,er,pa,pc,rfl,R3⟩;clear af
 obtain⟨pn,D⟩:=Xa cm.ps.length
 have m:=λ(W':Ap) (b3:Iz w3 W') (hl:pn<=4000000000000000000) (q:Bool) (hq:st.above cm=q)=>QU (d:=d) (oc:=oc) (vf:=Aa fa j fc) (vr:=Aa k f rc) (vt:=Aa l h tc) (pc:=pc) (L.o.2.1.rd.below ((P2.o.below R3.o.2.2.2.1).below b3).bel) L.o.2.1.len ho (R3.o.2.1.below b3) D hl cm.date ⟨cm.note.toArray⟩ q hq
 obtain⟨tr,ad⟩:∃tr:Int,(cm.tree.toNat:Int)=tr:=⟨_,rfl⟩
 obtain⟨dt,aa⟩:=Xa cm.date
 obtain⟨nt,ab⟩:∃nt:ByteArray,(⟨cm.note.toArray⟩:ByteArray)=nt:=⟨_,rfl⟩
 rw[ad,D,aa,show tx cm.note=Ae nt by rw[<- ab]];rw[ad,aa,ab]at m
 obtain⟨wA,an⟩:=Xa (w3.alloc (Ai #[Ab Al tr,Aa pa pn pc,Ab Ak dt,Ae nt] 129))
 have bA:Iz w3 wA:=by rw[<- an];exact gW _ _
 have ah:ib wA w3.heap.size 129 (Ab Al tr) (Aa pa pn pc) (Ab Ak dt) (Ae nt):=by rw[<- an];exact ib.new _ _ _ _ _ _
 obtain⟨c0,c1,c2,c3⟩:=ah.cells;have H:Hid (kG w wA d (Aa fa j fc) (Aa oa on oc) (Aa k f rc) (Aa l h tc) 3 s):=(P2.o.below R3.o.2.2.2.1).below bA;have m:=m wA bA;clear bA ah ad aa ab;clear T U V X Y x5 x6 x7 x8 E F z0 z1 z2 z3 z4 z5 z6 z7 z8 g0 g1 g2 K M N O P Q R;obtain⟨T,U,V,X,Y,x5,x6,x7,x8⟩:=H.o.box.cells;obtain⟨E,F⟩:=H.o.fr.cells;obtain⟨z0,z1,z2,z3,z4,z5,z6,z7,z8⟩:=H.o.res.cells;have a:=H.o.res.thaw;have g0:=a 0;have g1:=a 1;have g2:=a 2;have K:=a 3;have M:=a 4;have N:=a 5;have O:=a 6;have P:=a 7;have Q:=a 8;have R:=H.o.res.lt;clear a
 rcases R3.o.1.rd with⟨rfl,hr⟩ | ⟨rfl,rfl,hr⟩
 have al:st.right (3,body)=st.above cm:=by unfold St.right;rw[Ay (by show ¬(3:Int)=1;omega),Ay (by show ¬(3:Int)=2;omega),AC rfl];simp only[hr]
 have h8:=(GV (JD hr).1).1;have m:=m (by omega) g (by rw[<- al];exact FL.o.2.2);clear al h8 hr R3 D;go_wp2_with fail;refine m.mono ?_;rintro e w4 ⟨rfl,B4⟩;have A:=Ih (H.o.below B4);clear B4 m c0 c1 c2 c3;clear T U V X Y x5 x6 x7 x8 E F z0 z1 z2 z3 z4 z5 z6 z7 z8 g0 g1 g2 K M N O P Q R;obtain⟨T,U,V,X,Y,x5,x6,x7,x8⟩:=A.o.box.cells;obtain⟨E,F⟩:=A.o.fr.cells;obtain⟨z0,z1,z2,z3,z4,z5,z6,z7,z8⟩:=A.o.res.cells;have a:=A.o.res.thaw;have g0:=a 0;have g1:=a 1;have g2:=a 2;have K:=a 3;have M:=a 4;have N:=a 5;have O:=a 6;have P:=a 7;have Q:=a 8;have R:=A.o.res.lt;clear a
 cases g with
 | false =>
  have es:=FL.o.1 rfl;subst es;go_wp2;refine As (v:=Af #[rm d (Aa fa j fc) (Aa oa on oc) (Aa k f rc) (Aa l h tc),Ad false]) ?_ rfl ⟨_,rfl,?_⟩;simp[AI,Tryz.f94];go_simp;exact EY A.o.bel (RB.o _ A.o.bel) (Bu _ _ _ _ _ _ _ _ _ _ _)
 | true =>
  have es:=FL.o.2.1 rfl;subst es
  go_wp2_with(first
   | (at_builtin;refine IN iH 225 31 32 _ rfl Tryz.info225 underlying31 rfl (.tmp 159) (.tmp 161) rfl (w.heap.size+3) _ [] st.objs oa on oc rfl (gM.nil _ _ _ _) rfl (L.o.2.1.rd.below A.o.bel) L.o.2.1.len (by simp;omega) (by simp only[AH];simp;omega) A.o.size ?_;intro v8 w8 o8 b8 m8 t8;have P8:=I2 (JE A.o b8) (by simpa using o8:gM iH 225 w8 (w.heap.size+3) v8 st.objs);clear o8 b8 m8 t8;clear T U V X Y x5 x6 x7 x8 E F z0 z1 z2 z3 z4 z5 z6 z7 z8 g0 g1 g2 K M N O P Q R;obtain⟨E,F⟩:=P8.o.1.fr.cells)
   | (at_builtin;refine BA iH 225 31 32 _ rfl Tryz.info225 underlying31 rfl (.tmp 163) (.tmp 170) rfl (w.heap.size+3) _ st.objs ⟨3,x,body⟩ 225 rfl P8.o.2 rfl (by rw[L.o.2.1.len];omega) (by rw[L.o.2.1.len];simp only[AH];omega) P8.o.1.size _ (by rw[<- XI.o,G.o.1];rfl) ?_;intro v9 w9 o9 b9 m9 t9;obtain⟨a9,c9,e9,ae⟩:=LG.ofOwn (Z:=Zx Z w) o9 HZ.o;obtain⟨n9,ak⟩:=Xa ((st.objs++[(⟨3,x,body⟩:Ob)]).length);rw[ak]at e9 ae;subst e9;have n:=I2 (JE P8.o.1 b9) ae;clear o9 b9 m9 t9 ae ak;clear E F;obtain⟨T,U,V,X,Y,x5,x6,x7,x8⟩:=n.o.1.box.cells;obtain⟨z0,z1,z2,z3,z4,z5,z6,z7,z8⟩:=n.o.1.res.cells;have a:=n.o.1.res.thaw;have g0:=a 0;have g1:=a 1;have g2:=a 2;have K:=a 3;have M:=a 4;have N:=a 5;have O:=a 6;have P:=a 7;have Q:=a 8;have R:=n.o.1.res.lt;have f6:=n.o.1.box.thaw 6;have l0:=n.o.1.box.lt;have av:w.heap.size≠w.heap.size+2:=(by omega);clear a))
  go_wp2;refine As (v:=Af #[rm d (Aa fa j fc) (Aa a9 n9 c9) (Aa k f rc) (Aa l h tc),Ad true]) ?_ rfl ⟨_,rfl,?_⟩;simp[AI,Tryz.f94];go_simp;exact JG n.o.1.bel (⟨fa,j,fc,a9,n9,c9,k,f,rc,l,h,tc,rfl,L.o.1.below n.o.1.bel,n.o.2,L.o.2.2.1.below n.o.1.bel,L.o.2.2.2.below n.o.1.bel⟩) rfl (Bu _ _ _ _ _ _ _ _ _ _ _)
 have eg:g=false:=by rw[<- FL.o.2.2];unfold St.right;rw[Ay (by show ¬(3:Int)=1;omega),Ay (by show ¬(3:Int)=2;omega),AC rfl];simp only[hr]
 have es:=FL.o.1 eg;subst eg es;clear hr R3 D m;go_wp2;refine As (v:=Af #[rm d (Aa fa j fc) (Aa oa on oc) (Aa k f rc) (Aa l h tc),Ad false]) ?_ rfl ⟨_,rfl,?_⟩
 simp[AI,Tryz.f94];go_simp
 exact EY H.o.bel (RB.o _ H.o.bel) (Bu _ _ _ _ _ _ _ _ _ _ _)
theorem oK(n:Nat):low 1 n=[UInt8.ofNat n]:=by simp[low]
section
variable {w:World}{k:Int}{body:Bs}
theorem Wb(h:k<0∨255<k):At Am 170 #[Ag #[Ab Ak k,tx body]] w λ e w'=>e=Aj (Af #[tx [],Ab Ak 3])/\An w.heap.size w w':=by
 by_cases a:k<0
 ·have q:decide (k<0)=true:=by simpa using a
  go_enter func170,ntmps170;go_wp2;refine As (AD rfl _ _ _) rfl ?_;exact⟨rfl,gW _ _⟩
 ·have q:decide (k<0)=false:=by simpa using a
  have b:decide (255<k)=true:=by simp;omega
  go_enter func170,ntmps170;go_wp2;refine As (AD rfl _ _ _) rfl ?_;exact⟨rfl,gW _ _⟩
theorem Yr(b:¬k<0)(c:¬255<k)(h:8192<body.length):At Am 170 #[Ag #[Ab Ak k,tx body]] w λ e w'=>e=Aj (Af #[tx [],Ab Ak 4])/\Iz w w':=by
 have q:decide (k<0)=false:=by simpa using b
 have f:decide (255<k)=false:=by simpa using c
 obtain⟨s,a⟩:∃s:ByteArray,s=⟨body.toArray⟩:=⟨_,rfl⟩
 have e:tx body=Ae s:=by rw[a]
 have d:s.size=body.length:=by rw[a];rfl
 have g:(8192:Int)<(s.size:Int):=by omega
 rw[e];clear e a d;go_enter func170,ntmps170;go_wp2;refine As (AD rfl _ _ _) rfl ?_;exact⟨rfl,gW _ _⟩
theorem YH(Q:¬k<0)(R:¬255<k)(hn:¬8192<body.length):At Am 170 #[Ag #[Ab Ak k,tx body]] w λ e w'=>e=Aj (Af #[tx (lw k body),Ab Ak 0])/\Iz w w':=by
 have q:decide (k<0)=false:=by simpa using Q
 have q2:decide (255<k)=false:=by simpa using R
 obtain⟨s,F⟩:∃s:ByteArray,s=⟨body.toArray⟩:=⟨_,rfl⟩
 have e:tx body=Ae s:=by rw[F]
 obtain⟨n,hz⟩:=Xa s.size
 have l:body.length=n:=by rw[<- hz,F];rfl
 have q3:decide ((8192:Int)<(n:Int))=false:=by rw[Az];omega
 rw[e]
 obtain⟨W,U⟩:=Xa (w.alloc (Ai #[Ab Ak k,Ae s] 194))
 have L:Iz w W:=by rw[<- U];exact gW _ _
 have T:jo W w.heap.size 194 (Ab Ak k) (Ae s):=by rw[<- U];exact jo.new w _ _ _
 obtain⟨a,rfl⟩:∃a:Nat,k=(a:Int):=⟨k.toNat,by omega⟩
 obtain⟨x0,x1⟩:=T.cells
 have w1:Al.wrap (n:Int)=(n:Int):=by rw[A5];omega
 have Z:Al.wrap (a:Int)=(a:Int):=by rw[A5];omega
 obtain⟨j,h⟩:∃j:ByteArray,j=⟨(low 4 n).toArray⟩:=⟨_,rfl⟩
 obtain⟨s1,g⟩:∃s1:ByteArray,s1=⟨(low 1 a).toArray⟩:=⟨_,rfl⟩
 have z4:j.size=4:=by rw[h,mX];rfl
 have z1:s1.size=1:=by rw[g,oK];rfl
 have NE:Nonempty (SW (gN W)):=⟨⟨W,Below.refl _ _⟩⟩
 have c0:∀u:SW (gN W),u.w.cell? ⟨w.heap.size,0,none⟩=some (Ab Ak (a:Int)):=λ u=>(T.below u.ok).cells.1
 have c1:∀u:SW (gN W),u.w.cell? ⟨w.heap.size,1,none⟩=some (Ae s):=λ u=>(T.below u.ok).cells.2
 have Y:∀u:SW (gN W),At Am 26 #[Ab Al (n:Int),Ab Ak 4] u.w λ e w'=>e=Aj (Ae j)/\∃u':SW (gN W),w'=u'.w:=λ u=>by
  refine(Ig n 4 (by omega) (by omega) u.w).mono ?_;rintro e w' ⟨rfl,I⟩;exact⟨by rw[h],⟨w',u.ok.trans (I.mono u.ok.size)⟩,rfl⟩
 have X:∀u:SW (gN W),At Am 26 #[Ab Al (a:Int),Ab Ak 1] u.w λ e w'=>e=Aj (Ae s1)/\∃u':SW (gN W),w'=u'.w:=λ u=>by
  refine(Ig a 1 (by omega) (by omega) u.w).mono ?_;rintro e w' ⟨rfl,I⟩;exact⟨by rw[g],⟨w',u.ok.trans (I.mono u.ok.size)⟩,rfl⟩
 have p1:¬(9223372036854775807<j.size+s1.size):=by omega
 have p2:¬(9223372036854775807<(j++s1).size+s.size):=by rw[ByteArray.size_append];omega
 have c:j++s1++s=⟨(ki a body).toArray⟩:=by
  rw[h,g,F,mX,oK,ki,l];simp only[Int.toNat_natCast];show ByteArray.mk _=_
  congr 1
 have H:=I4 L l (by omega:n<=8192) c
 clear L T l F h g z4 z1 c Q R hn e;go_enter func170,ntmps170
 go_upto_region 5 with fail
 refine Bb (S:=gN W) (by kernel_rfl) (by kernel_rfl) (Below.refl _ W).drew ?_
 repeat(go_big_quiet_step (first | with_reducible exact Y _ | with_reducible exact X _))
 refine wpQuiet_nil ?_;intro _ J;obtain⟨u,A⟩:=J;subst A;have O:=Ih u.ok
 obtain⟨b,B⟩:∃Z,Z=u.w:=⟨_,rfl⟩
 rw[<- B]at O ⊢;clear B x0 x1 c0 c1 Y X NE u p1 p2
 obtain⟨hd,c⟩:∃hd:ByteArray,j++s1++s=hd:=⟨_,rfl⟩
 rw[c]at H ⊢;obtain⟨t,P,y,v,K,E⟩:=Hm b (ki a body)
 have z:(convert 9 24 (Ae hd)).run Am b=.ok (Aa (some ⟨b.heap.size,0,none⟩) (ki a body).length P) t:=by rw[H.o.2.2.2];exact y
 obtain⟨V,d⟩:=Xa ((ki a body).length)
 have ab:V<=8197:=by rw[<- d,SY];have:=H.o.2.1;have:=H.o.2.2.1;omega
 have x:iE t (Aa (some ⟨b.heap.size,0,none⟩) V P) (ki a body):=by
  have:=E.1.at E.2.1 (E.2.2 (by rw[d];simp only[AH];omega));rw[d]at this;exact this
 rw[d]at z
 obtain⟨r,f⟩:=Xa (ls (ki a body))
 have m:=Km t x;rw[f]at m
 have aa:r<4294967296:=by rw[<- f];exact IF _
 have w3:Al.wrap (r:Int)=(r:Int):=by rw[A5];omega
 have p:=Ig r 4 (by omega) (by omega) t
 obtain⟨D,i⟩:∃D:ByteArray,D=⟨(low 4 r).toArray⟩:=⟨_,rfl⟩
 rw[show tx (low 4 r)=Ae D by rw[i]]at p
 have p3:¬(9223372036854775807<hd.size+D.size):=by
  rw[i,H.o.2.2.2,mX];show ¬(9223372036854775807<(ki a body).toArray.size+4);simp only[List.size_toArray];omega
 have N:Hid (hd++D=⟨(lw a body).toArray⟩/\Iz b t):=by
  refine⟨?_,v⟩;rw[i,H.o.2.2.2,mX,lw,f];show ByteArray.mk _=_
  congr 1
 clear y v K E x d f i c;go_wp2_with fail;refine m.mono ?_;rintro e w5 ⟨rfl,C⟩;rw[C];clear C w5 m;go_wp2_with fail;refine p.mono ?_;rintro e w6 ⟨rfl,M⟩
 have G:Hid (Iz w w6):=by
  have b1:=H.o.1.trans (O.o.mono H.o.1.size);have b2:=b1.trans (N.o.2.mono b1.size);exact b2.trans (M.mono b2.size)
 clear M p;go_wp2;refine As (AD rfl _ _ _) rfl ?_;exact⟨by rw[N.o.1];rfl,G.o⟩
theorem Vj(k:Int)(body:Bs)(w:Ap):At Am 170 #[Ag #[Ab Ak k,tx body]] w λ e w'=>e=Aj (Af #[tx (jB (k,body)).1,Ab Ak (jB (k,body)).2])/\Iz w w':=by
 unfold jB;by_cases b:k<0∨255<k
 rw[AC b];exact Wb b
 rw[Ay b];by_cases a:8192<body.length
 rw[AC a];exact Yr (by omega) (by omega) a
 rw[Ay a];exact YH (by omega) (by omega) a
end
theorem Xr(p:∀i,Z i->i<w.heap.size)(h:jh Z w m st d)(b:st.size<=1000000)(k:Int)(body:Bs)(a:body.length<=1000000):
  At Am 94 #[m,Ag #[Ab Ak k,tx body]] w λ e w'=>∃m',e=Aj (Af #[m',Ad (st.fits (k,body))])/\Hid (jh Z w' m' (if st.fits (k,body)then st.take (k,body)else st) d/\Iz w w'):=by
 obtain⟨fa,u,fc,oa,on,oc,v,x,rc,y,z,tc,rfl,j,l,n,o⟩:=h;by_cases r:k=4
 subst r;exact Vi p j l n o b body a
 by_cases s:k=5
 subst s;exact dC p j l n o b body a
 by_cases c:k<1∨3<k∨jC k body=0∨st.has k (jC k body)=true
 exact fd p j l n o b k r s body a c
 have f:¬jC k body=0:=λ q=>c (.inr (.inr (.inl q)))
 have g:st.has k (jC k body)=false:=by
  cases e:st.has k (jC k body)with
  | false=>rfl
  | true=>exact absurd (.inr (.inr (.inr e))) c
 have t:k=1∨k=2∨k=3:=by omega
 rcases t with rfl|rfl|rfl
 exact dH p j l n o b body a f g
 exact X6 p j l n o b body a f g
 exact dj p j l n o b body a f g
theorem iR.put{B:Nat}{a0 a1 a2 a3 a4 a5 a6 a7 a8:Ar}(h:iR w B a0 a1 a2 a3 a4 a5 a6 a7 a8)(a b1 b2 b b4 c:Ar):iR ((((((w.setCell ⟨B,0,none⟩ a).setCell ⟨B,1,none⟩ b1).setCell ⟨B,2,none⟩ b2).setCell ⟨B,3,none⟩ b).setCell ⟨B,4,none⟩ b4).setCell ⟨B,5,none⟩ c) B a b1 b2 b b4 c a6 a7 a8:=by
 unfold iR at h ⊢;simp[World.setCell,Array.getElem?_modify,h]
theorem OP(w:Ap)(Q:Nat)(v0 a b v3 v4 v5:Ar):
  Aw (λ i=>i=Q) w ((((((w.setCell ⟨Q,0,none⟩ v0).setCell ⟨Q,1,none⟩ a).setCell ⟨Q,2,none⟩ b).setCell ⟨Q,3,none⟩ v3).setCell ⟨Q,4,none⟩ v4).setCell ⟨Q,5,none⟩ v5) :=
 ((((((Aw.refl (λ i=>i=Q) w).setCell (p:=⟨Q,0,none⟩) (.inl (show Q=Q from rfl)) v0).setCell (p:=⟨Q,1,none⟩) (.inl (show Q=Q from rfl)) a).setCell (p:=⟨Q,2,none⟩) (.inl (show Q=Q from rfl)) b).setCell (p:=⟨Q,3,none⟩) (.inl (show Q=Q from rfl)) v3).setCell (p:=⟨Q,4,none⟩) (.inl (show Q=Q from rfl)) v4).setCell (p:=⟨Q,5,none⟩) (.inl (show Q=Q from rfl)) v5
structure ku(w W:Ap)(d:Dk)(vf vo vr vt:Ar):Prop where
 bel:An w.heap.size w W
 box:GC W w.heap.size d vf vo vr vt
 res:iR W (w.heap.size+1) (Aa none 0 0) (Ab Ak 0) (Ad false) (Ad false) (Ab Ak 0) (Ab Ak 0) (Aa none 0 0) (Aa none 0 0) (Aa none 0 0)
abbrev kN:Obj:=Ai #[Aa none 0 0,Ab Ak 0,Ad false,Ad false,Ab Ak 0,Ab Ak 0,Aa none 0 0,Aa none 0 0,Aa none 0 0] 34
section
variable {w W W':World}{d:Dk}{vf vo vr vt:Value}
theorem ku.new(w:Ap)(d:Dk)(vf vo vr vt:Ar):ku w ((w.alloc (iD d vf vo vr vt)).alloc kN) d vf vo vr vt:=by
 have b:(w.alloc (iD d vf vo vr vt)).heap.size=w.heap.size+1:=by simp
 have a:=iR.new (w.alloc (iD d vf vo vr vt)) (Aa none 0 0) (Ab Ak 0) (Ad false) (Ad false) (Ab Ak 0) (Ab Ak 0) (Aa none 0 0) (Aa none 0 0) (Aa none 0 0);rw[b]at a;exact⟨lE _ _ _,(iR.new w _ _ _ _ _ _ _ _ _).below (gW _ _) (by rw[b];omega),a⟩
theorem ku.below(h:ku w W d vf vo vr vt)(a:Iz W W'):ku w W' d vf vo vr vt:=⟨h.bel.trans (a.mono h.bel.size),h.box.below a h.box.lt,h.res.below a h.res.lt⟩
theorem ku.size(h:ku w W d vf vo vr vt):w.heap.size+2<=W.heap.size:=by
 have:=h.res.lt;omega
theorem ku.six(h:ku w W d vf vo vr vt)(d':Dk)(a:Ar):ku w ((((((W.setCell ⟨w.heap.size,0,none⟩ a).setCell ⟨w.heap.size,1,none⟩ (Ab Ak (d'.writes:Int))).setCell ⟨w.heap.size,2,none⟩ (Ad d'.armed)).setCell ⟨w.heap.size,3,none⟩ (Ad d'.dead)).setCell ⟨w.heap.size,4,none⟩ (Ab Ak (d'.after:Int))).setCell ⟨w.heap.size,5,none⟩ (Ab Ak (d'.keep:Int))) d' a vo vr vt:=by
 have b:=OP W w.heap.size a (Ab Ak (d'.writes:Int)) (Ad d'.armed) (Ad d'.dead) (Ab Ak (d'.after:Int)) (Ab Ak (d'.keep:Int));exact⟨h.bel.trans (b.below h.bel.size (λ i hi q=>by have q:=q;omega)),h.box.put _ _ _ _ _ _,h.res.turned b (λ q=>by have q:=q;omega)⟩
end
def Zy(Z:Nat->Prop)(w:Ap):Nat->Prop:=λ i=>Z i∨(w.heap.size<=i/\i<w.heap.size+2)
theorem DD:∀i,i<w.heap.size->Zy Z w i->Z i:=λ i hi q=>q.elim (λ q=>q) (λ q=>by omega)
theorem Jh(a:∀i,Z i->i<w.heap.size):∀i,Zy Z w i->i<w.heap.size+2:=λ i q=>q.elim (λ q=>by have:=a i q;omega) (λ q=>q.2)
theorem EE(a:Iz w W)(h:jh (Zy Z w) W m st d)(b:Aw (λ i=>i=w.heap.size+1) W W'):jh Z W' m st d/\Iz w W' :=
 ⟨(h.turned b (λ i q=>.inr (by have q:=q;omega))).mono (λ _ q=>.inl q),a.trans (b.below a.size (λ i hi q=>by have q:=q;omega))⟩
theorem jh.rvs{a:Option Addr}{n:Nat}(h:LG iz Z w a n c d.files):lV Z w (rv a n c d) d:=⟨a,n,c,rfl,h.len,h.cap,h.rd,h.far⟩
theorem Lj(hZ:∀i,Z i->i<w.heap.size)(h:jh Z w m st d)(ah:st.size<=1000000)(ag:d.ok)(hw:d.writes<=1000000)(k:Int)(au:0<=k)(hk:k<=255)(body:Bs)(af:body.length<=8192)(D:st.fits (k,body)=true):
  At Am 111 #[m,Ab Ak k,tx body] w λ e w'=>∃m' r,e=Aj (Af #[m',Ab Ak r])/\Hid (r=(iB st d (k,body)).2.2/\jh Z w' m' (iB st d (k,body)).1 (iB st d (k,body)).2.1/\Iz w w'):=by
 obtain⟨fa,X,fc,oa,on,oc,l,n,rc,p,s,tc,rfl,h1,h2,h3,h4⟩:=h
 have f:=λ W'=>Vj k body W'
 have aa:(jB (k,body)).2=0:=by
  unfold jB;rw[Ay (by show ¬(k<0∨255<k);omega),Ay (by show ¬8192<body.length;omega)]
 have j:(jB (k,body)).1.length<=100000:=by
  unfold jB;rw[Ay (by show ¬(k<0∨255<k);omega),Ay (by show ¬8192<body.length;omega)];show(lw k body).length<=_;rw[RM];omega
 obtain⟨u,A⟩:=Xa ((jB (k,body)).1)
 obtain⟨d',S⟩:=Xa ((kf d jI u).1)
 obtain⟨C,R⟩:=Xa ((kf d jI u).2)
 obtain⟨Q,hQ⟩:=Xa (iB st d (k,body))
 have ab:Q=(if C=0 then st.take (k,body)else st,d',C):=by
  rw[<- hQ];unfold iB;rw[A,S,R]
 rw[hQ];rw[aa,A]at f;rw[A]at j
 obtain⟨V,y⟩:∃V:ByteArray,V=⟨body.toArray⟩:=⟨_,rfl⟩
 obtain⟨ss,T⟩:∃ss:ByteArray,ss=⟨u.toArray⟩:=⟨_,rfl⟩
 rw[show tx body=Ae V by rw[y],show tx u=Ae ss by rw[T]]at f;rw[show tx body=Ae V by rw[y]]
 obtain⟨W,hW⟩:=Xa ((w.alloc (iD d (Aa fa X fc) (Aa oa on oc) (Aa l n rc) (Aa p s tc))).alloc kN)
 have P0:Hid (ku w W d (Aa fa X fc) (Aa oa on oc) (Aa l n rc) (Aa p s tc)):=by rw[<- hW];exact ku.new w d _ _ _ _
 have L:=I4 (h1.into DD) (h2.into DD) (h3.into DD) (h4.into DD)
 have HZ:=Ih (Jh hZ)
 have G:Hid (d.ok/\d.writes<=1000000/\u.length<=100000/\(kf d jI u).1=d'/\(kf d jI u).2=C/\Q=(if C=0 then st.take (k,body)else st,d',C)/\st.size<=1000000/\st.fits (k,body)=true/\body.length<=8192/\V=⟨body.toArray⟩/\ss=⟨u.toArray⟩):=⟨ag,hw,j,S,R,ab,ah,D,af,y,T⟩
 obtain⟨E,F,H,I,J,K,M,N,O⟩:=P0.o.box.cells;have f:=f W;clear h1 h2 h3 h4 ag hw j S R ab ah D af hZ aa A hQ au hk y T;go_enter func111,ntmps111;go_wp2_with fail;refine f.mono ?_;rintro e w1 ⟨rfl,B1⟩;have P1:=Ih (P0.o.below B1);clear f B1 E F H I J K M N O;obtain⟨E,F,H,I,J,K,M,N,O⟩:=P1.o.box.cells;have P:=gq (λ i q=>by have:=HZ.o i q;have:=P1.o.size;omega) (jh.rvs (L.o.1.below P1.o.bel)) G.o.1 (by have:=G.o.2.1;omega) jI u (by decide) (by have:=G.o.2.2.1;omega);rw[G.o.2.2.2.1,G.o.2.2.2.2.1,show tx u=Ae ss by rw[G.o.2.2.2.2.2.2.2.2.2.2]]at P;go_wp2_with fail;refine P.mono ?_;rintro e Y ⟨v2,rfl,V2,B2⟩;obtain⟨a2,n2,g,rfl,q1,q2,q3,q4⟩:=V2
 have P2:=I2 (P1.o.below B2) (⟨q1,q2,q3,q4⟩:LG iz (Zy Z w) Y a2 n2 g d'.files)
 clear P B2 q1 q2 q3 q4;clear E F H I J K M N O
 obtain⟨wA,U⟩:=Xa (Y.alloc (Ai #[Aa a2 n2 g,Ab Ak (d'.writes:Int),Ad d'.armed,Ad d'.dead,Ab Ak (d'.after:Int),Ab Ak (d'.keep:Int)] 30))
 have bA:Iz Y wA:=by rw[<- U];exact gW _ _
 have sx:kt wA Y.heap.size (Aa a2 n2 g) (Ab Ak (d'.writes:Int)) (Ad d'.armed) (Ad d'.dead) (Ab Ak (d'.after:Int)) (Ab Ak (d'.keep:Int)):=by rw[<- U];exact kt.new _ _ _ _ _ _ _
 obtain⟨y0,y1,y2,y3,y4,y5⟩:=sx.cells
 have B:=I2 (P2.o.1.below bA) (P2.o.2.below bA)
 obtain⟨E,F,H,I,J,K,M,N,O⟩:=B.o.1.box.cells;have c:=B.o.1.box.thaw;have f0:=c 0;have f1:=c 1;have f2:=c 2;have f3:=c 3;have f4:=c 4;have f5:=c 5;have l0:=B.o.1.box.lt;clear bA sx c
 go_upto_region 4 with fail
 have t3:=OP wA w.heap.size (Aa a2 n2 g) (Ab Ak (d'.writes:Int)) (Ad d'.armed) (Ad d'.dead) (Ab Ak (d'.after:Int)) (Ab Ak (d'.keep:Int));have p3:=B.o.1.six d' (Aa a2 n2 g)
 obtain⟨w3,ai⟩:=Xa (((((((wA.setCell ⟨w.heap.size,0,none⟩ (Aa a2 n2 g)).setCell ⟨w.heap.size,1,none⟩ (Ab Ak (d'.writes:Int))).setCell ⟨w.heap.size,2,none⟩ (Ad d'.armed)).setCell ⟨w.heap.size,3,none⟩ (Ad d'.dead)).setCell ⟨w.heap.size,4,none⟩ (Ab Ak (d'.after:Int))).setCell ⟨w.heap.size,5,none⟩ (Ab Ak (d'.keep:Int))))
 rw[ai]at t3 p3 ⊢
 have t:∀i,i=w.heap.size->Zy Z w i:=λ i q=>.inr (by omega)
 have x:Hid (ku w w3 d' (Aa a2 n2 g) (Aa oa on oc) (Aa l n rc) (Aa p s tc)/\jh (Zy Z w) w3 (rm d' (Aa a2 n2 g) (Aa oa on oc) (Aa l n rc) (Aa p s tc)) st d') :=
  ⟨p3,a2,n2,g,oa,on,oc,l,n,rc,p,s,tc,rfl,B.o.2.turned t3 t,(L.o.2.1.below B.o.1.bel).turned t3 t,(L.o.2.2.1.below B.o.1.bel).turned t3 t,(L.o.2.2.2.below B.o.1.bel).turned t3 t⟩
 clear t3 p3 ai E F H I J K M N O y0 y1 y2 y3 y4 y5 f0 f1 f2 f3 f4 f5 l0 U t;obtain⟨E,F,H,I,J,K,M,N,O⟩:=x.o.1.box.cells;obtain⟨z0,z1,z2,z3,z4,z5,z6,z7,z8⟩:=x.o.1.res.cells;have b:=x.o.1.res.thaw;have g0:=b 0;have g1:=b 1;have g2:=b 2;have g3:=b 3;have g4:=b 4;have g5:=b 5;have g6:=b 6;have g7:=b 7;have g8:=b 8;have l2:=x.o.1.res.lt;clear b;by_cases hz:C=0
 subst hz;have z:=Xr (λ i q=>by have:=HZ.o i q;have:=x.o.1.size;omega) x.o.2 G.o.2.2.2.2.2.2.1 k body (by have:=G.o.2.2.2.2.2.2.2.2.1;omega);rw[G.o.2.2.2.2.2.2.2.1,show tx body=Ae V by rw[G.o.2.2.2.2.2.2.2.2.2.1]]at z;simp only[Ff]at z;go_wp2_with fail;refine z.mono ?_;rintro e w4 ⟨m4,rfl,R4⟩
 have a:=I2 R4.o.1 (x.o.1.below R4.o.2)
 clear z R4;obtain⟨ac,ae,ad,aj,al,ak,am,ao,an,ap,ar,aq,em,_⟩:=a.o.1;subst em;clear E F H I J K M N O z0 z1 z2 z3 z4 z5 z6 z7 z8 g0 g1 g2 g3 g4 g5 g6 g7 g8 l2;obtain⟨E,F,H,I,J,K,M,N,O⟩:=a.o.2.box.cells;have c:=a.o.2.box.thaw;have f0:=c 0;have f1:=c 1;have f2:=c 2;have f3:=c 3;have f4:=c 4;have f5:=c 5;have f6:=c 6;have f7:=c 7;have f8:=c 8;have l0:=a.o.2.box.lt;clear c;obtain⟨z0,z1,z2,z3,z4,z5,z6,z7,z8⟩:=a.o.2.res.cells;have b:=a.o.2.res.thaw;have g0:=b 0;have g1:=b 1;have g2:=b 2;have g3:=b 3;have g4:=b 4;have g5:=b 5;have g6:=b 6;have g7:=b 7;have g8:=b 8;have l2:=a.o.2.res.lt;clear b
 have av:w.heap.size≠w.heap.size+1:=by omega
 go_wp2;refine As (v:=Af #[rm d' (Aa ac ae ad) (Aa aj al ak) (Aa am ao an) (Aa ap ar aq),Ab Ak 0]) ?_ rfl ⟨_,_,rfl,?_⟩
 simp[AI,Tryz.f111];go_simp
 have t5:=Bu w4 w.heap.size (Aa ac ae ad) (Ab Ak (d'.writes:Int)) (Ad d'.armed) (Ad d'.dead) (Ab Ak (d'.after:Int)) (Ab Ak (d'.keep:Int)) (Aa aj al ak) (Aa am ao an) (Aa ap ar aq);have b5:=a.o.2.bel.trans (t5.below a.o.2.bel.size (λ i hi q=>by have q:=q;omega));rw[G.o.2.2.2.2.2.1];exact⟨rfl,EE b5 (a.o.1.turned t5 (λ i q=>.inr (by have q:=q;omega))) (Bu _ _ _ _ _ _ _ _ _ _ _)⟩
 have m0:(C != 0)=true:=by simpa using hz
 go_wp2;refine As (v:=Af #[rm d' (Aa a2 n2 g) (Aa oa on oc) (Aa l n rc) (Aa p s tc),Ab Ak C]) ?_ rfl ⟨_,_,rfl,?_⟩
 simp[AI,Tryz.f111];go_simp
 rw[G.o.2.2.2.2.2.1,Ay hz];exact⟨rfl,EE x.o.1.bel x.o.2 (Bu _ _ _ _ _ _ _ _ _ _ _)⟩
theorem Oc(hZ:∀i,Z i->i<w.heap.size)(h:jh Z w m st d)(ag:st.size<=1000000)(an:d.ok)(hw:d.writes<=1000000)(k:Int)(hk:k=1∨k=2∨k=3)(body:Bs)(am:body.length<=8192)(ao:st.right (k,body)=true):
  At Am 98 #[m,Ab Ak k,tx body] w λ e w'=>∃m' i r,e=Aj (Af #[m',Ab Al i,Ab Ak r])/\Hid (i=((iy st d k body).2.1.toNat:Int)/\r=(iy st d k body).2.2/\jh Z w' m' (iy st d k body).1.1 (iy st d k body).1.2/\An w.heap.size w w'):=by
 obtain⟨fa,g,fc,oa,on,oc,j,l,rc,n,p,tc,rfl,h1,h2,h3,h4⟩:=h
 have ho:on<=1000000:=by rw[<- h2.len];unfold St.size at ag;omega
 obtain⟨Q,hQ⟩:=Xa (iy st d k body)
 rw[hQ]
 obtain⟨P,O⟩:∃P:ByteArray,P=⟨body.toArray⟩:=⟨_,rfl⟩
 have af:P.size=body.length:=by rw[O];show body.toArray.size=_;simp
 rw[show tx body=Ae P by rw[O]]
 obtain⟨x,hx⟩:=Xa (jC k body)
 obtain⟨W,hW⟩:=Xa ((w.alloc (iD d (Aa fa g fc) (Aa oa on oc) (Aa j l rc) (Aa n p tc))).alloc kN)
 have P0:Hid (ku w W d (Aa fa g fc) (Aa oa on oc) (Aa j l rc) (Aa n p tc)):=by rw[<- hW];exact ku.new w d _ _ _ _
 obtain⟨W1,cc,ar,aj,au,ab,V,X⟩:=Hm W body;rw[show tx body=Ae P by rw[O],<- af]at ar;have hid:=KP k W1 (ab.at V (X (by simp only[AH];omega))) x hx;rw[<- af]at hid;have P1:=Ih (P0.o.below aj)
 have L:=I4 (h1.into DD) (h2.into DD) (h3.into DD) (h4.into DD)
 have HZ:=Ih (Jh hZ)
 have RB:Hid (∀W',An w.heap.size w W'->jh (Zy Z w) W' (rm d (Aa fa g fc) (Aa oa on oc) (Aa j l rc) (Aa n p tc)) st d):=λ W' b=>⟨fa,g,fc,oa,on,oc,j,l,rc,n,p,tc,rfl,L.o.1.below b,L.o.2.1.below b,L.o.2.2.1.below b,L.o.2.2.2.below b⟩
 have ae:=Ke (d:=d) (oc:=oc) (vf:=Aa fa g fc) (vr:=Aa j l rc) (vt:=Aa n p tc) (L.o.2.1.rd.below P1.o.bel) L.o.2.1.len ho k x
 obtain⟨xi,U⟩:∃xi:Int,(x.toNat:Int)=xi:=⟨_,rfl⟩
 rw[U]at hid ae;have u0:=Jy x;rw[U]at u0
 have G:Hid (d.ok/\d.writes<=1000000/\st.size<=1000000/\st.right (k,body)=true/\body.length<=8192/\P=⟨body.toArray⟩/\jC k body=x/\(x.toNat:Int)=xi/\iy st d k body=Q/\(k=1∨k=2∨k=3)):=⟨an,hw,ag,ao,am,O,hx,U,hQ,hk⟩
 have U0:=Ih u0;clear h1 h2 h3 h4 an hw ag ao am O hx U hQ hZ u0 ab V X au aj af hk;obtain⟨x0,x1,x2,x3,x4,x5,x6,x7,x8⟩:=P1.o.box.cells;obtain⟨z0,z1,z2,z3,z4,z5,z6,z7,z8⟩:=P1.o.res.cells;have a:=P1.o.res.thaw;have g0:=a 0;have g1:=a 1;have g2:=a 2;have Y:=a 3;have g4:=a 4;have g5:=a 5;have g6:=a 6;have g7:=a 7;have g8:=a 8;have l2:=P1.o.res.lt;clear a;go_enter func98,ntmps98;go_wp2_with fail;refine hid.mono ?_;rintro e w1 ⟨rfl,ap⟩;rw[ap];clear ap w1 hid;go_wp2_with fail;refine ae.mono ?_;rintro e w2 ⟨r2,rfl,R2,B2⟩;have s:=Ih (P1.o.below B2);clear ae B2;clear x0 x1 x2 x3 x4 x5 x6 x7 x8;clear z0 z1 z2 z3 z4 z5 z6 z7 z8 g0 g1 g2 Y g4 g5 g6 g7 g8 l2;obtain⟨x0,x1,x2,x3,x4,x5,x6,x7,x8⟩:=s.o.box.cells;obtain⟨z0,z1,z2,z3,z4,z5,z6,z7,z8⟩:=s.o.res.cells;have a:=s.o.res.thaw;have g0:=a 0;have g1:=a 1;have g2:=a 2;have Y:=a 3;have g4:=a 4;have g5:=a 5;have g6:=a 6;have g7:=a 7;have g8:=a 8;have l2:=s.o.res.lt;clear a
 rcases R2.o with⟨M,q2⟩ | ⟨i2,q2,bs,q3,M⟩
 ·subst q2;by_cases N:x=0
  ·have ah:=U0.o.2 N;subst ah
   have S:Q=((st,d),0,13):=by
    rw[<- G.o.2.2.2.2.2.2.2.2.1];unfold iy;rw[G.o.2.2.2.2.2.2.1,M];simp[N]
   clear M N R2;go_wp2;refine As (v:=Af #[rm d (Aa fa g fc) (Aa oa on oc) (Aa j l rc) (Aa n p tc),Ab Al 0,Ab Ak 13]) ?_ rfl ⟨_,_,_,rfl,?_⟩
   ·simp[AI,Tryz.f98];go_simp
   ·rw[S];exact⟨rfl,rfl,EE s.o.bel (RB.o _ s.o.bel) (Bu _ _ _ _ _ _ _ _ _ _ _)⟩
  ·have m1:(xi==0)=false:=by
    have:=λ z=>N (U0.o.1 z)
    simpa using this
   have hh:=Ij (d:=d) (oc:=oc) (vf:=Aa fa g fc) (vr:=Aa j l rc) (vt:=Aa n p tc) (L.o.2.1.rd.below s.o.bel) L.o.2.1.len ho k x false (by unfold St.has;rw[M];rfl);rw[G.o.2.2.2.2.2.2.2.1]at hh
   have aa:st.fits (k,body)=true:=by
    unfold St.fits;have hk:=G.o.2.2.2.2.2.2.2.2.2;rw[Ay (by show ¬(k=4∨k=5);omega),G.o.2.2.2.1,show jC (k,body).1 (k,body).2=x from G.o.2.2.2.2.2.2.1];unfold St.has;rw[show iq st.objs (k,body).1 x=none from M];simp[N]
   have S:Q=(((iB st d (k,body)).1,(iB st d (k,body)).2.1),if(iB st d (k,body)).2.2=0 then x else 0,(iB st d (k,body)).2.2):=by
    rw[<- G.o.2.2.2.2.2.2.2.2.1];unfold iy;rw[G.o.2.2.2.2.2.2.1,M];simp[N]
   have EZ:Hid _:=S;clear M N R2 S;go_wp2_with fail;refine hh.mono ?_;rintro e w3 ⟨rfl,B3⟩;have K:=Ih (s.o.below B3);clear hh B3;clear x0 x1 x2 x3 x4 x5 x6 x7 x8;clear z0 z1 z2 z3 z4 z5 z6 z7 z8 g0 g1 g2 Y g4 g5 g6 g7 g8 l2;obtain⟨x0,x1,x2,x3,x4,x5,x6,x7,x8⟩:=K.o.box.cells;obtain⟨z0,z1,z2,z3,z4,z5,z6,z7,z8⟩:=K.o.res.cells;have a:=K.o.res.thaw;have g0:=a 0;have g1:=a 1;have g2:=a 2;have Y:=a 3;have g4:=a 4;have g5:=a 5;have g6:=a 6;have g7:=a 7;have g8:=a 8;have l2:=K.o.res.lt;clear a;have ad:=Lj (λ i q=>by have:=HZ.o i q;have:=K.o.size;omega) (RB.o w3 K.o.bel) G.o.2.2.1 G.o.1 G.o.2.1 k (by have:=G.o.2.2.2.2.2.2.2.2.2;omega) (by have:=G.o.2.2.2.2.2.2.2.2.2;omega) body G.o.2.2.2.2.1 aa;rw[show tx body=Ae P by rw[G.o.2.2.2.2.2.1]]at ad;clear aa;go_wp2_with fail;refine ad.mono ?_;rintro e w4 ⟨m4,r4,rfl,R4⟩
   have c:=I3 R4.o.1 R4.o.2.1 (K.o.below R4.o.2.2)
   clear ad R4
   obtain⟨f,mn⟩:=Xa ((iB st d (k,body)).2.1)
   obtain⟨t,y,u,A,C,B,D,F,E,H,J,I,em,_⟩:=c.o.2.1;rw[mn]at em;subst em;have av:=Ih mn;clear mn;clear x0 x1 x2 x3 x4 x5 x6 x7 x8;clear z0 z1 z2 z3 z4 z5 z6 z7 z8 g0 g1 g2 Y g4 g5 g6 g7 g8 l2;obtain⟨x0,x1,x2,x3,x4,x5,x6,x7,x8⟩:=c.o.2.2.box.cells;have R:=c.o.2.2.box.thaw;have f0:=R 0;have f1:=R 1;have f2:=R 2;have f3:=R 3;have f4:=R 4;have f5:=R 5;have f6:=R 6;have f7:=R 7;have f8:=R 8;have l0:=c.o.2.2.box.lt;clear R
   have aA:w.heap.size≠w.heap.size+1:=by omega
   obtain⟨z0,z1,z2,z3,z4,z5,z6,z7,z8⟩:=c.o.2.2.res.cells;have a:=c.o.2.2.res.thaw;have g0:=a 0;have g1:=a 1;have g2:=a 2;have Y:=a 3;have g4:=a 4;have g5:=a 5;have g6:=a 6;have g7:=a 7;have g8:=a 8;have l2:=c.o.2.2.res.lt;clear a
   have al:∀W',Aw (λ i=>i=w.heap.size+1) ((((((((((w4.setCell ⟨w.heap.size,0,none⟩ (Aa t y u)).setCell ⟨w.heap.size,1,none⟩ (Ab Ak (f.writes:Int))).setCell ⟨w.heap.size,2,none⟩ (Ad f.armed)).setCell ⟨w.heap.size,3,none⟩ (Ad f.dead)).setCell ⟨w.heap.size,4,none⟩ (Ab Ak (f.after:Int))).setCell ⟨w.heap.size,5,none⟩ (Ab Ak (f.keep:Int))).setCell ⟨w.heap.size,6,none⟩ (Aa A C B)).setCell ⟨w.heap.size,7,none⟩ (Aa D F E)).setCell ⟨w.heap.size,8,none⟩ (Aa H J I))) W'->jh Z W' (rm f (Aa t y u) (Aa A C B) (Aa D F E) (Aa H J I)) (iB st d (k,body)).1 (iB st d (k,body)).2.1/\An w.heap.size w W':=by
    intro W' t6;have t5:=Bu w4 w.heap.size (Aa t y u) (Ab Ak (f.writes:Int)) (Ad f.armed) (Ad f.dead) (Ab Ak (f.after:Int)) (Ab Ak (f.keep:Int)) (Aa A C B) (Aa D F E) (Aa H J I);have b5:=c.o.2.2.bel.trans (t5.below c.o.2.2.bel.size (λ i hi q=>by have q:=q;omega));exact EE b5 (c.o.2.1.turned t5 (λ i q=>.inr (by have q:=q;omega))) t6
   have ai:=Ih al;clear al;by_cases hz:r4=0
   ·subst hz;go_wp2;refine As (v:=Af #[rm f (Aa t y u) (Aa A C B) (Aa D F E) (Aa H J I),Ab Al xi,Ab Ak 0]) ?_ rfl ⟨_,_,_,rfl,?_⟩
    ·simp[AI,Tryz.f98];go_simp
    ·rw[EZ.o];exact⟨by rw[AC c.o.1.symm];exact G.o.2.2.2.2.2.2.2.1.symm,c.o.1,ai.o _ (Bu _ _ _ _ _ _ _ _ _ _ _)⟩
   ·have m0:(r4 != 0)=true:=by simpa using hz
    go_wp2;refine As (v:=Af #[rm f (Aa t y u) (Aa A C B) (Aa D F E) (Aa H J I),Ab Al 0,Ab Ak r4]) ?_ rfl ⟨_,_,_,rfl,?_⟩
    ·simp[AI,Tryz.f98];go_simp
    ·rw[EZ.o];exact⟨by rw[Ay (λ q=>hz (c.o.1.trans q))];rfl,c.o.1,ai.o _ (Bu _ _ _ _ _ _ _ _ _ _ _)⟩
 ·subst q2;have RO:=L.o.2.1.rd.below s.o.bel;obtain⟨b1,o1,aq,ay⟩:=RO.some_of q3;subst aq;obtain⟨_,aw,ax,ac⟩:=RO.obs q3;simp only at ac
  have i0:(0:Int)<=(i2:Int):=by omega
  have i1:(i2:Int)<(on:Int):=by
   have:=(List.getElem?_eq_some_iff.1 q3).1;rw[L.o.2.1.len]at this;omega
  cases hq:(bs==body)with
  | true =>
   have eq:bs=body:=by simpa using hq
   have ak:(⟨bs.toArray⟩:ByteArray)=P:=by rw[eq,G.o.2.2.2.2.2.1]
   rw[show tx bs=Ae P by rw[<- ak]]at ac
   have S:Q=((st,d),x,0):=by
    rw[<- G.o.2.2.2.2.2.2.2.2.1];unfold iy;rw[G.o.2.2.2.2.2.2.1,M];simp[eq]
   clear M q3 R2 RO hq eq ak;go_wp2;refine As (v:=Af #[rm d (Aa fa g fc) (Aa (some ⟨b1,o1,none⟩) on oc) (Aa j l rc) (Aa n p tc),Ab Al xi,Ab Ak 0]) ?_ rfl ⟨_,_,_,rfl,?_⟩
   ·simp[AI,Tryz.f98];go_simp
   ·rw[S];exact⟨G.o.2.2.2.2.2.2.2.1.symm,rfl,EE s.o.bel (RB.o _ s.o.bel) (Bu _ _ _ _ _ _ _ _ _ _ _)⟩
  | false =>
   have eq:¬bs=body:=by simpa using hq
   obtain⟨b2,T⟩:∃b2:ByteArray,(⟨bs.toArray⟩:ByteArray)=b2:=⟨_,rfl⟩
   rw[show tx bs=Ae b2 by rw[<- T]]at ac
   have az:(b2.toList==P.toList)=false:=by
    rw[<- T,G.o.2.2.2.2.2.1,Lib.toList_data,Lib.toList_data];exact hq
   have S:Q=((st,d),0,13):=by
    rw[<- G.o.2.2.2.2.2.2.2.2.1];unfold iy;rw[G.o.2.2.2.2.2.2.1,M];simp[eq]
   by_cases N:x=0
   ·have ah:=U0.o.2 N;subst ah;clear M q3 R2 RO hq eq N T;go_wp2;refine As (v:=Af #[rm d (Aa fa g fc) (Aa (some ⟨b1,o1,none⟩) on oc) (Aa j l rc) (Aa n p tc),Ab Al 0,Ab Ak 13]) ?_ rfl ⟨_,_,_,rfl,?_⟩
    ·simp[AI,Tryz.f98];go_simp
    ·rw[S];exact⟨rfl,rfl,EE s.o.bel (RB.o _ s.o.bel) (Bu _ _ _ _ _ _ _ _ _ _ _)⟩
   ·have m1:(xi==0)=false:=by
     have:=λ z=>N (U0.o.1 z)
     simpa using this
    have hh:=Ij (d:=d) (oc:=oc) (vf:=Aa fa g fc) (vr:=Aa j l rc) (vt:=Aa n p tc) (L.o.2.1.rd.below s.o.bel) L.o.2.1.len ho k x true (by unfold St.has;rw[M];rfl);rw[G.o.2.2.2.2.2.2.2.1]at hh;clear M q3 R2 RO hq eq N T;go_wp2_with fail;refine hh.mono ?_;rintro e w3 ⟨rfl,B3⟩;have K:=Ih (s.o.below B3);clear hh B3;clear x0 x1 x2 x3 x4 x5 x6 x7 x8;clear z0 z1 z2 z3 z4 z5 z6 z7 z8 g0 g1 g2 Y g4 g5 g6 g7 g8 l2;obtain⟨x0,x1,x2,x3,x4,x5,x6,x7,x8⟩:=K.o.box.cells;obtain⟨z0,z1,z2,z3,z4,z5,z6,z7,z8⟩:=K.o.res.cells;have a:=K.o.res.thaw;have g0:=a 0;have g1:=a 1;have g2:=a 2;have Y:=a 3;have g4:=a 4;have g5:=a 5;have g6:=a 6;have g7:=a 7;have g8:=a 8;have l2:=K.o.res.lt;clear a;go_wp2;refine As (v:=Af #[rm d (Aa fa g fc) (Aa (some ⟨b1,o1,none⟩) on oc) (Aa j l rc) (Aa n p tc),Ab Al 0,Ab Ak 13]) ?_ rfl ⟨_,_,_,rfl,?_⟩
    ·simp[AI,Tryz.f98];go_simp
    ·rw[S];exact⟨rfl,rfl,EE K.o.bel (RB.o _ K.o.bel) (Bu _ _ _ _ _ _ _ _ _ _ _)⟩
theorem Nk(a:iM es=0):(gX es).length<=8192:=by
 have f:=(It a).1
 have:∀l:List En,(∀e∈l,e.1.length<=102)->(gX l).length<=111*l.length:=by
  intro l
  induction l with
  | nil=>intro _;simp[gX]
  | cons x t g =>
   intro c;have:=g (λ e b=>c e (List.mem_cons_of_mem _ b));have h:=c x List.mem_cons_self
   have d:(gX (x::t)).length=(lB x).length+(gX t).length:=by simp[gX]
   rw[d,Lz,List.length_cons];omega
 have i:=this es (λ e b=>Ks (List.all_eq_true.1 (It a).2.1 e b));omega
theorem NS(h:(iC es).2=0):iM es=0/\(iC es).1=gX es:=by
 unfold iC at h ⊢
 split at h
 ·rename_i q
  rw[AC q];exact⟨q,rfl⟩
 exact absurd h ‹_›
theorem Mj{c:Cm}(h:(je c).2=0):jm c=0/\(je c).1=kl c:=by
 unfold je at h ⊢
 split at h
 ·rename_i q
  rw[AC q];exact⟨q,rfl⟩
 exact absurd h ‹_›
theorem cY(J:∀i,Z i->i<w.heap.size)(h:jh Z w m st d)(k:st.size<=1000000)(n:d.ok)(K:d.writes<=1000000)(data:Bs)(aa:data.length<=140737488355328)(Q)(D:jk st d data=Q):
  At Am 47 #[m,tx data] w λ e w'=>∃m' i r,e=Aj (Af #[m',Ab Al i,Ab Ak r])/\Hid (i=(Q.2.1.toNat:Int)/\r=Q.2.2/\jh Z w' m' Q.1.1 Q.1.2/\Iz w w'):=by
 obtain⟨fa,l,fc,oa,on,oc,s,t,rc,u,x,tc,rfl,H,C,I,y⟩:=h
 have ho:on<=1000000:=by rw[<- C.len];unfold St.size at k;omega
 have L:=I4 (H.into DD) (C.into DD) (I.into DD) (y.into DD)
 have HZ:=Ih (Jh J)
 have RB:Hid (∀W',Iz w W'->jh (Zy Z w) W' (rm d (Aa fa l fc) (Aa oa on oc) (Aa s t rc) (Aa u x tc)) st d):=λ W' b=>⟨fa,l,fc,oa,on,oc,s,t,rc,u,x,tc,rfl,L.o.1.below b,L.o.2.1.below b,L.o.2.2.1.below b,L.o.2.2.2.below b⟩
 obtain⟨j,f⟩:∃j:ByteArray,j=⟨data.toArray⟩:=⟨_,rfl⟩
 have A:j.size=data.length:=by rw[f];show data.toArray.size=_;simp
 rw[show tx data=Ae j by rw[f]]
 obtain⟨W,hW⟩:=Xa ((w.alloc (iD d (Aa fa l fc) (Aa oa on oc) (Aa s t rc) (Aa u x tc))).alloc kN)
 have g:Hid (ku w W d (Aa fa l fc) (Aa oa on oc) (Aa s t rc) (Aa u x tc)):=by rw[<- hW];exact ku.new w d _ _ _ _
 obtain⟨x0,x1,x2,x3,x4,x5,x6,x7,x8⟩:=g.o.box.cells;obtain⟨z0,z1,z2,z3,z4,z5,z6,z7,z8⟩:=g.o.res.cells;have a:=g.o.res.thaw;have g0:=a 0;have g1:=a 1;have g2:=a 2;have Y:=a 3;have g4:=a 4;have g5:=a 5;have g6:=a 6;have g7:=a 7;have g8:=a 8;have l2:=g.o.res.lt;clear a;by_cases y:4096<data.length
 ·have t4:(4096:Int)<(j.size:Int):=by omega
  have T:4096<j.size:=by omega
  have B:Q=((st,d),0,4):=by rw[<- D];unfold jk;rw[AC y]
  subst B;clear H C I y J k n K A f D;go_enter func47,ntmps47;go_wp2;refine As (v:=Af #[rm d (Aa fa l fc) (Aa oa on oc) (Aa s t rc) (Aa u x tc),Ab Al 0,Ab Ak 4]) ?_ rfl ⟨_,_,_,rfl,?_⟩
  ·simp[AI,Tryz.f47];go_simp
  ·exact⟨rfl,rfl,EE g.o.bel (RB.o _ g.o.bel) (Bu _ _ _ _ _ _ _ _ _ _ _)⟩
 ·have t4:¬(4096:Int)<(j.size:Int):=by omega
  have T:¬4096<j.size:=by omega
  have B:iy st d 1 data=Q:=by rw[<- D];unfold jk;rw[Ay y]
  have p:=Oc (λ i q=>by have:=HZ.o i q;have:=g.o.size;omega) (RB.o W g.o.bel) k n K 1 (.inl rfl) data (by omega) (by unfold St.right;rw[AC rfl];simp;omega);rw[B,show tx data=Ae j by rw[f]]at p;clear H C I y J k n K A f D B;go_enter func47,ntmps47;go_wp2_with fail;refine p.mono ?_;rintro e w9 ⟨m9,i9,r9,rfl,z⟩
  have c:=I4 z.o.1 z.o.2.1 z.o.2.2.1 (g.o.below z.o.2.2.2)
  clear p z;obtain⟨E,G,F,M,O,N,P,S,R,U,X,V,em,_⟩:=c.o.2.2.1;subst em;clear x0 x1 x2 x3 x4 x5 x6 x7 x8;clear z0 z1 z2 z3 z4 z5 z6 z7 z8 g0 g1 g2 Y g4 g5 g6 g7 g8 l2;obtain⟨z0,z1,z2,z3,z4,z5,z6,z7,z8⟩:=c.o.2.2.2.res.cells;have a:=c.o.2.2.2.res.thaw;have g0:=a 0;have g1:=a 1;have g2:=a 2;have Y:=a 3;have g4:=a 4;have g5:=a 5;have g6:=a 6;have g7:=a 7;have g8:=a 8;have l2:=c.o.2.2.2.res.lt;clear a;go_wp2;refine As (v:=Af #[rm Q.1.2 (Aa E G F) (Aa M O N) (Aa P S R) (Aa U X V),Ab Al i9,Ab Ak r9]) ?_ rfl ⟨_,_,_,rfl,?_⟩
  ·simp[AI,Tryz.f47];go_simp
  ·exact⟨c.o.1,c.o.2.1,EE c.o.2.2.2.bel c.o.2.2.1 (Bu _ _ _ _ _ _ _ _ _ _ _)⟩
theorem Y4(hZ:∀i,Z i->i<w.heap.size)(h:jh Z w m st d)(K:st.size<=1000000)(aa:d.ok)(hw:d.writes<=1000000){ea:Option Addr}{en ec:Nat}(hr:gQ gZ w ea es)(J:es.length=en)(ah:en<=4000000000000000000)(Q)(hQ:ja st d es=Q):
  At Am 49 #[m,Aa ea en ec] w λ e w'=>∃m' i r,e=Aj (Af #[m',Ab Al i,Ab Ak r])/\Hid (i=(Q.2.1.toNat:Int)/\r=Q.2.2/\jh Z w' m' Q.1.1 Q.1.2/\Iz w w'):=by
 obtain⟨fa,n,fc,oa,on,oc,p,s,rc,t,u,tc,rfl,h1,h2,h3,h4⟩:=h
 have ho:on<=1000000:=by rw[<- h2.len];unfold St.size at K;omega
 have L:=I4 (h1.into DD) (h2.into DD) (h3.into DD) (h4.into DD)
 have HZ:=Ih (Jh hZ)
 have RB:Hid (∀W',Iz w W'->jh (Zy Z w) W' (rm d (Aa fa n fc) (Aa oa on oc) (Aa p s rc) (Aa t u tc)) st d):=λ W' b=>⟨fa,n,fc,oa,on,oc,p,s,rc,t,u,tc,rfl,L.o.1.below b,L.o.2.1.below b,L.o.2.2.1.below b,L.o.2.2.2.below b⟩
 obtain⟨W,hW⟩:=Xa ((w.alloc (iD d (Aa fa n fc) (Aa oa on oc) (Aa p s rc) (Aa t u tc))).alloc kN)
 have x:Hid (ku w W d (Aa fa n fc) (Aa oa on oc) (Aa p s rc) (Aa t u tc)):=by rw[<- hW];exact ku.new w d _ _ _ _
 have z:=RS (c:=ec) W (hr.below x.o.bel) J
 obtain⟨fe,j⟩:=Xa ((iC es).2)
 obtain⟨fb,l⟩:=Xa ((iC es).1)
 obtain⟨bb,I⟩:∃bb:ByteArray,bb=⟨fb.toArray⟩:=⟨_,rfl⟩
 rw[j,l,show tx fb=Ae bb by rw[I]]at z;by_cases h0:fe=0
 subst h0;have y:=NS j
 have T:fb.length<=8192:=by rw[<- l,y.2];exact Nk y.1
 have ad:jE fb=some es:=by rw[<- l,y.2];exact Lb y.1
 obtain⟨g,hg⟩:=Xa (st.blobs es)
 have G:Hid (gQ gZ w ea es/\es.length=en/\fb.length<=8192/\jE fb=some es/\st.blobs es=g/\st.size<=1000000/\d.ok/\d.writes<=1000000/\ja st d es=Q/\(iC es).2=0/\(iC es).1=fb/\bb=⟨fb.toArray⟩):=⟨hr,J,T,ad,hg,K,aa,hw,hQ,j,l,I⟩
 clear h1 h2 h3 h4 hZ K aa hw hQ hr J T ad hg y j l I;obtain⟨U,V,X,Y,x4,x5,x6,x7,x8⟩:=x.o.box.cells;obtain⟨z0,N,O,z3,z4,z5,P,R,S⟩:=x.o.res.cells;have a:=x.o.res.thaw;have g0:=a 0;have g1:=a 1;have g2:=a 2;have B:=a 3;have C:=a 4;have D:=a 5;have E:=a 6;have F:=a 7;have H:=a 8;have M:=x.o.res.lt;clear a;go_enter func49,ntmps49;go_wp2_with fail;refine z.mono ?_;rintro e w1 ⟨rfl,B1⟩;have k:=Ih (x.o.below B1);clear z B1;clear U V X Y x4 x5 x6 x7 x8;clear z0 N O z3 z4 z5 P R S g0 g1 g2 B C D E F H M;obtain⟨U,V,X,Y,x4,x5,x6,x7,x8⟩:=k.o.box.cells;obtain⟨z0,N,O,z3,z4,z5,P,R,S⟩:=k.o.res.cells;have a:=k.o.res.thaw;have g0:=a 0;have g1:=a 1;have g2:=a 2;have B:=a 3;have C:=a 4;have D:=a 5;have E:=a 6;have F:=a 7;have H:=a 8;have M:=k.o.res.lt;clear a;have ac:=S6 (d:=d) (oc:=oc) (vf:=Aa fa n fc) (vr:=Aa p s rc) (vt:=Aa t u tc) (ec:=ec) (L.o.2.1.rd.below k.o.bel) L.o.2.1.len ho (G.o.1.below k.o.bel) G.o.2.1 ah g G.o.2.2.2.2.1;go_wp2_with fail;refine ac.mono ?_;rintro e w2 ⟨rfl,B2⟩;have A:=Ih (k.o.below B2);clear ac B2;clear U V X Y x4 x5 x6 x7 x8;clear z0 N O z3 z4 z5 P R S g0 g1 g2 B C D E F H M;obtain⟨U,V,X,Y,x4,x5,x6,x7,x8⟩:=A.o.box.cells;obtain⟨z0,N,O,z3,z4,z5,P,R,S⟩:=A.o.res.cells;have a:=A.o.res.thaw;have g0:=a 0;have g1:=a 1;have g2:=a 2;have B:=a 3;have C:=a 4;have D:=a 5;have E:=a 6;have F:=a 7;have H:=a 8;have M:=A.o.res.lt;clear a
 cases g with
 | false =>
  have ez:Q=((st,d),0,5):=by
   rw[<- G.o.2.2.2.2.2.2.2.2.1];unfold ja;rw[Ay (by rw[G.o.2.2.2.2.2.2.2.2.2.1];simp),AC G.o.2.2.2.2.1]
  subst ez;go_wp2;refine As (v:=Af #[rm d (Aa fa n fc) (Aa oa on oc) (Aa p s rc) (Aa t u tc),Ab Al 0,Ab Ak 5]) ?_ rfl ⟨_,_,_,rfl,?_⟩;simp[AI,Tryz.f49];go_simp;exact⟨rfl,rfl,EE A.o.bel (RB.o _ A.o.bel) (Bu _ _ _ _ _ _ _ _ _ _ _)⟩
 | true =>
  have ez:iy st d 2 fb=Q:=by
   rw[<- G.o.2.2.2.2.2.2.2.2.1];unfold ja;rw[Ay (by rw[G.o.2.2.2.2.2.2.2.2.2.1];simp),Ay (by rw[G.o.2.2.2.2.1];simp),G.o.2.2.2.2.2.2.2.2.2.2.1]
  have ab:=Oc (λ i q=>by have:=HZ.o i q;have:=A.o.size;omega) (RB.o w2 A.o.bel) G.o.2.2.2.2.2.1 G.o.2.2.2.2.2.2.1 G.o.2.2.2.2.2.2.2.1 2 (.inr (.inl rfl)) fb G.o.2.2.1 (by unfold St.right;rw[Ay (by show ¬(2:Int)=1;omega),AC rfl];simp only[G.o.2.2.2.1];exact G.o.2.2.2.2.1);rw[ez,show tx fb=Ae bb by rw[G.o.2.2.2.2.2.2.2.2.2.2.2]]at ab;clear ez;go_wp2_with fail;refine ab.mono ?_;rintro e w9 ⟨m9,i9,r9,rfl,R9⟩;have f:=I4 R9.o.1 R9.o.2.1 R9.o.2.2.1 (A.o.below R9.o.2.2.2);clear ab R9;obtain⟨ae,ag,af,ai,ak,aj,al,an,am,ao,aq,ap,em,_⟩:=f.o.2.2.1;subst em;clear U V X Y x4 x5 x6 x7 x8;clear z0 N O z3 z4 z5 P R S g0 g1 g2 B C D E F H M;obtain⟨z0,N,O,z3,z4,z5,P,R,S⟩:=f.o.2.2.2.res.cells;have a:=f.o.2.2.2.res.thaw;have g0:=a 0;have g1:=a 1;have g2:=a 2;have B:=a 3;have C:=a 4;have D:=a 5;have E:=a 6;have F:=a 7;have H:=a 8;have M:=f.o.2.2.2.res.lt;clear a;go_wp2;refine As (v:=Af #[rm Q.1.2 (Aa ae ag af) (Aa ai ak aj) (Aa al an am) (Aa ao aq ap),Ab Al i9,Ab Ak r9]) ?_ rfl ⟨_,_,_,rfl,?_⟩;simp[AI,Tryz.f49];go_simp;exact⟨f.o.1,f.o.2.1,EE f.o.2.2.2.bel f.o.2.2.1 (Bu _ _ _ _ _ _ _ _ _ _ _)⟩
 have ez:Q=((st,d),0,fe):=by rw[<- hQ];unfold ja;rw[AC (by rw[j];exact h0),j]
 have m0:(fe != 0)=true:=by simpa using h0
 subst ez;clear h1 h2 h3 h4 hZ K aa hw hQ hr J j l I;obtain⟨U,V,X,Y,x4,x5,x6,x7,x8⟩:=x.o.box.cells;obtain⟨z0,N,O,z3,z4,z5,P,R,S⟩:=x.o.res.cells;have a:=x.o.res.thaw;have g0:=a 0;have g1:=a 1;have g2:=a 2;have B:=a 3;have C:=a 4;have D:=a 5;have E:=a 6;have F:=a 7;have H:=a 8;have M:=x.o.res.lt;clear a;go_enter func49,ntmps49;go_wp2_with fail;refine z.mono ?_;rintro e w1 ⟨rfl,B1⟩;have k:=Ih (x.o.below B1);clear z B1;clear U V X Y x4 x5 x6 x7 x8;clear z0 N O z3 z4 z5 P R S g0 g1 g2 B C D E F H M;obtain⟨U,V,X,Y,x4,x5,x6,x7,x8⟩:=k.o.box.cells;obtain⟨z0,N,O,z3,z4,z5,P,R,S⟩:=k.o.res.cells;have a:=k.o.res.thaw;have g0:=a 0;have g1:=a 1;have g2:=a 2;have B:=a 3;have C:=a 4;have D:=a 5;have E:=a 6;have F:=a 7;have H:=a 8;have M:=k.o.res.lt;clear a;go_wp2;refine As (v:=Af #[rm d (Aa fa n fc) (Aa oa on oc) (Aa p s rc) (Aa t u tc),Ab Al 0,Ab Ak fe]) ?_ rfl ⟨_,_,_,rfl,?_⟩
 simp[AI,Tryz.f49];go_simp
 exact⟨rfl,rfl,EE k.o.bel (RB.o _ k.o.bel) (Bu _ _ _ _ _ _ _ _ _ _ _)⟩
structure lX(w W:Ap)(d:Dk)(vf vo vr vt:Ar)(tr:Int)(pv:Ar)(dt:Int)(nt:ByteArray):Prop where
 bel:An w.heap.size w W
 box:GC W w.heap.size d vf vo vr vt
 com:ib W (w.heap.size+1) 129 (Ab Al tr) pv (Ab Ak dt) (Ae nt)
 res:iR W (w.heap.size+2) (Aa none 0 0) (Ab Ak 0) (Ad false) (Ad false) (Ab Ak 0) (Ab Ak 0) (Aa none 0 0) (Aa none 0 0) (Aa none 0 0)
theorem lX.new(w:Ap)(d:Dk)(vf vo vr vt:Ar)(b:Int)(a:Ar)(dt:Int)(nt:ByteArray):
  lX w (((w.alloc (iD d vf vo vr vt)).alloc (Ai #[Ab Al b,a,Ab Ak dt,Ae nt] 129)).alloc kN) d vf vo vr vt b a dt nt:=by
 have f:(w.alloc (iD d vf vo vr vt)).heap.size=w.heap.size+1:=by simp
 have c:((w.alloc (iD d vf vo vr vt)).alloc (Ai #[Ab Al b,a,Ab Ak dt,Ae nt] 129)).heap.size=w.heap.size+2:=by simp
 have b2:=ib.new (w.alloc (iD d vf vo vr vt)) 129 (Ab Al b) a (Ab Ak dt) (Ae nt);rw[f]at b2;have e:=iR.new ((w.alloc (iD d vf vo vr vt)).alloc (Ai #[Ab Al b,a,Ab Ak dt,Ae nt] 129)) (Aa none 0 0) (Ab Ak 0) (Ad false) (Ad false) (Ab Ak 0) (Ab Ak 0) (Aa none 0 0) (Aa none 0 0) (Aa none 0 0);rw[c]at e;exact⟨nC _ _ _ _,((iR.new w _ _ _ _ _ _ _ _ _).below (gW _ _) (by rw[f];omega)).below (gW _ _) (by rw[c];omega),b2.below (gW _ _) (by rw[c];omega),e⟩
theorem lX.below{c:Int}{b:Ar}(h:lX w W d vf vo vr vt c b dt nt)(a:Iz W W'):lX w W' d vf vo vr vt c b dt nt :=
 ⟨h.bel.trans (a.mono h.bel.size),h.box.below a h.box.lt,h.com.below a h.com.lt,h.res.below a h.res.lt⟩
theorem lX.size{b:Int}{a:Ar}(h:lX w W d vf vo vr vt b a dt nt):w.heap.size+3<=W.heap.size:=by
 have:=h.res.lt;omega
theorem ZH(hZ:∀i,Z i->i<w.heap.size)(h:jh Z w m st d)(M:st.size<=1000000)(ac:d.ok)(hw:d.writes<=1000000){pa:Option Addr}{pn pc:Nat}{cm:Cm}(hr:gQ gR w pa cm.ps)(K:cm.ps.length=pn)(ak:pn<=4000000000000000000)(nt:ByteArray)(ab:nt=⟨cm.note.toArray⟩)(dt:Int)(aa:cm.date=dt)(Q)(hQ:jV st d cm=Q):
  At Am 53 #[m,Ag #[Ab Al (cm.tree.toNat:Int),Aa pa pn pc,Ab Ak dt,Ae nt]] w λ e w'=>∃m' i r,e=Aj (Af #[m',Ab Al i,Ab Ak r])/\Hid (i=(Q.2.1.toNat:Int)/\r=Q.2.2/\jh Z w' m' Q.1.1 Q.1.2/\Iz w w'):=by
 obtain⟨fa,s,fc,oa,on,oc,x,y,rc,z,A,tc,rfl,h1,h2,h3,h4⟩:=h
 have ho:on<=1000000:=by rw[<- h2.len];unfold St.size at M;omega
 have L:=I4 (h1.into (λ i hi q=>q.elim (λ q=>q) (λ q=>by omega)):LG iz (Zx Z w) w fa s fc d.files) (h2.into (λ i hi q=>q.elim (λ q=>q) (λ q=>by omega)):LG iH (Zx Z w) w oa on oc st.objs) (h3.into (λ i hi q=>q.elim (λ q=>q) (λ q=>by omega)):LG ix (Zx Z w) w x y rc st.refs) (h4.into (λ i hi q=>q.elim (λ q=>q) (λ q=>by omega)):LG ix (Zx Z w) w z A tc st.tags)
 have HZ:Hid (∀i,Zx Z w i->i<w.heap.size+3):=λ i q=>q.elim (λ q=>by have:=hZ i q;omega) (λ q=>q.2)
 have RB:Hid (∀W',Iz w W'->jh (Zx Z w) W' (rm d (Aa fa s fc) (Aa oa on oc) (Aa x y rc) (Aa z A tc)) st d):=λ W' b=>⟨fa,s,fc,oa,on,oc,x,y,rc,z,A,tc,rfl,L.o.1.below b,L.o.2.1.below b,L.o.2.2.1.below b,L.o.2.2.2.below b⟩
 have j:=λ(W:Ap) (b:Iz w W)=>Qz (c:=cm) (pc:=pc) (hr.below b) K nt ab dt aa
 have n:=λ(W:Ap) (b:Iz w W) (q:Bool) (hq:st.above cm=q)=>QU (d:=d) (oc:=oc) (vf:=Aa fa s fc) (vr:=Aa x y rc) (vt:=Aa z A tc) (pc:=pc) (h2.rd.below b) h2.len ho (hr.below b) K ak dt nt q hq
 obtain⟨P,ae⟩:∃P:Int,(cm.tree.toNat:Int)=P:=⟨_,rfl⟩
 rw[ae]at j n ⊢
 obtain⟨fe,k⟩:=Xa ((je cm).2)
 obtain⟨fb,u⟩:=Xa ((je cm).1)
 obtain⟨bb,J⟩:∃bb:ByteArray,bb=⟨fb.toArray⟩:=⟨_,rfl⟩
 rw[k,u,show tx fb=Ae bb by rw[J]]at j
 obtain⟨W,hW⟩:=Xa (((w.alloc (iD d (Aa fa s fc) (Aa oa on oc) (Aa x y rc) (Aa z A tc))).alloc (Ai #[Ab Al P,Aa pa pn pc,Ab Ak dt,Ae nt] 129)).alloc kN)
 have p:Hid (lX w W d (Aa fa s fc) (Aa oa on oc) (Aa x y rc) (Aa z A tc) P (Aa pa pn pc) dt nt):=by rw[<- hW];exact lX.new w d _ _ _ _ _ _ _ _
 have N:=j W p.o.bel;by_cases h0:fe=0
 subst h0;have t:=Mj k
 have X:fb.length<=8192:=by
  rw[<- u,t.2];have h1:=(JA t.1).2.1;have h2:=GV t.1;omega
 have ag:jF fb=some cm:=by rw[<- u,t.2];exact KO t.1
 obtain⟨g,hg⟩:=Xa (st.above cm)
 have af:Hid (∀W',Iz w W'->At Am 104 #[rm d (Aa fa s fc) (Aa oa on oc) (Aa x y rc) (Aa z A tc),Ag #[Ab Al P,Aa pa pn pc,Ab Ak dt,Ae nt]] W' λ e w'=>e=Aj (Ad g)/\Iz W' w'):=λ W' b=>n W' b g hg
 have G:Hid (fb.length<=8192/\jF fb=some cm/\st.above cm=g/\st.size<=1000000/\d.ok/\d.writes<=1000000/\jV st d cm=Q/\(je cm).2=0/\(je cm).1=fb/\bb=⟨fb.toArray⟩):=⟨X,ag,hg,M,ac,hw,hQ,k,u,J⟩
 clear h1 h2 h3 h4 hZ M ac hw hQ hr K X ag hg t k u J n j ab aa ae;obtain⟨Y,x1,x2,x3,x4,x5,x6,x7,x8⟩:=p.o.box.cells;obtain⟨c0,c1,c2,c3⟩:=p.o.com.cells;obtain⟨z0,R,S,z3,z4,z5,T,U,V⟩:=p.o.res.cells;have a:=p.o.res.thaw;have g0:=a 0;have g1:=a 1;have g2:=a 2;have C:=a 3;have D:=a 4;have E:=a 5;have F:=a 6;have H:=a 7;have I:=a 8;have O:=p.o.res.lt;clear a;go_enter func53,ntmps53;go_wp2_with fail;refine N.mono ?_;rintro e w1 ⟨rfl,B1⟩;have l:=Ih (p.o.below B1);clear N B1;clear Y x1 x2 x3 x4 x5 x6 x7 x8;clear z0 R S z3 z4 z5 T U V g0 g1 g2 C D E F H I O;clear c0 c1 c2 c3;obtain⟨Y,x1,x2,x3,x4,x5,x6,x7,x8⟩:=l.o.box.cells;obtain⟨c0,c1,c2,c3⟩:=l.o.com.cells;obtain⟨z0,R,S,z3,z4,z5,T,U,V⟩:=l.o.res.cells;have a:=l.o.res.thaw;have g0:=a 0;have g1:=a 1;have g2:=a 2;have C:=a 3;have D:=a 4;have E:=a 5;have F:=a 6;have H:=a 7;have I:=a 8;have O:=l.o.res.lt;clear a;go_wp2_with fail;refine(af.o w1 l.o.bel).mono ?_;rintro e w2 ⟨rfl,B2⟩;have B:=Ih (l.o.below B2);clear af B2;clear Y x1 x2 x3 x4 x5 x6 x7 x8;clear z0 R S z3 z4 z5 T U V g0 g1 g2 C D E F H I O;clear c0 c1 c2 c3;obtain⟨Y,x1,x2,x3,x4,x5,x6,x7,x8⟩:=B.o.box.cells;obtain⟨z0,R,S,z3,z4,z5,T,U,V⟩:=B.o.res.cells;have a:=B.o.res.thaw;have g0:=a 0;have g1:=a 1;have g2:=a 2;have C:=a 3;have D:=a 4;have E:=a 5;have F:=a 6;have H:=a 7;have I:=a 8;have O:=B.o.res.lt;clear a
 cases g with
 | false =>
  have ez:Q=((st,d),0,5):=by
   rw[<- G.o.2.2.2.2.2.2.1];unfold jV;rw[Ay (by rw[G.o.2.2.2.2.2.2.2.1];simp),AC G.o.2.2.1]
  subst ez;go_wp2;refine As (v:=Af #[rm d (Aa fa s fc) (Aa oa on oc) (Aa x y rc) (Aa z A tc),Ab Al 0,Ab Ak 5]) ?_ rfl ⟨_,_,_,rfl,?_⟩;simp[AI,Tryz.f53];go_simp;exact⟨rfl,rfl,EY B.o.bel (RB.o _ B.o.bel) (Bu _ _ _ _ _ _ _ _ _ _ _)⟩
 | true =>
  have ez:iy st d 3 fb=Q:=by
   rw[<- G.o.2.2.2.2.2.2.1];unfold jV;rw[Ay (by rw[G.o.2.2.2.2.2.2.2.1];simp),Ay (by rw[G.o.2.2.1];simp),G.o.2.2.2.2.2.2.2.2.1]
  have ad:=Oc (λ i q=>by have:=HZ.o i q;have:=B.o.size;omega) (RB.o w2 B.o.bel) G.o.2.2.2.1 G.o.2.2.2.2.1 G.o.2.2.2.2.2.1 3 (.inr (.inr rfl)) fb G.o.1 (by unfold St.right;rw[Ay (by show ¬(3:Int)=1;omega),Ay (by show ¬(3:Int)=2;omega),AC rfl];simp only[G.o.2.1];exact G.o.2.2.1);rw[ez,show tx fb=Ae bb by rw[G.o.2.2.2.2.2.2.2.2.2]]at ad;clear ez;go_wp2_with fail;refine ad.mono ?_;rintro e w9 ⟨m9,i9,r9,rfl,R9⟩;have f:=I4 R9.o.1 R9.o.2.1 R9.o.2.2.1 (B.o.below R9.o.2.2.2);clear ad R9;obtain⟨ah,aj,ai,al,an,am,ao,aq,ap,ar,av,au,em,_⟩:=f.o.2.2.1;subst em;clear Y x1 x2 x3 x4 x5 x6 x7 x8;clear z0 R S z3 z4 z5 T U V g0 g1 g2 C D E F H I O;obtain⟨z0,R,S,z3,z4,z5,T,U,V⟩:=f.o.2.2.2.res.cells;have a:=f.o.2.2.2.res.thaw;have g0:=a 0;have g1:=a 1;have g2:=a 2;have C:=a 3;have D:=a 4;have E:=a 5;have F:=a 6;have H:=a 7;have I:=a 8;have O:=f.o.2.2.2.res.lt;clear a;go_wp2;refine As (v:=Af #[rm Q.1.2 (Aa ah aj ai) (Aa al an am) (Aa ao aq ap) (Aa ar av au),Ab Al i9,Ab Ak r9]) ?_ rfl ⟨_,_,_,rfl,?_⟩;simp[AI,Tryz.f53];go_simp;exact⟨f.o.1,f.o.2.1,EY f.o.2.2.2.bel f.o.2.2.1 (Bu _ _ _ _ _ _ _ _ _ _ _)⟩
 have ez:Q=((st,d),0,fe):=by rw[<- hQ];unfold jV;rw[AC (by rw[k];exact h0),k]
 have m0:(fe != 0)=true:=by simpa using h0
 subst ez;clear h1 h2 h3 h4 hZ M ac hw hQ hr K k u J n j ab aa ae;obtain⟨Y,x1,x2,x3,x4,x5,x6,x7,x8⟩:=p.o.box.cells;obtain⟨c0,c1,c2,c3⟩:=p.o.com.cells;obtain⟨z0,R,S,z3,z4,z5,T,U,V⟩:=p.o.res.cells;have a:=p.o.res.thaw;have g0:=a 0;have g1:=a 1;have g2:=a 2;have C:=a 3;have D:=a 4;have E:=a 5;have F:=a 6;have H:=a 7;have I:=a 8;have O:=p.o.res.lt;clear a;go_enter func53,ntmps53;go_wp2_with fail;refine N.mono ?_;rintro e w1 ⟨rfl,B1⟩;have l:=Ih (p.o.below B1);clear N B1;clear Y x1 x2 x3 x4 x5 x6 x7 x8;clear z0 R S z3 z4 z5 T U V g0 g1 g2 C D E F H I O;clear c0 c1 c2 c3;obtain⟨Y,x1,x2,x3,x4,x5,x6,x7,x8⟩:=l.o.box.cells;obtain⟨z0,R,S,z3,z4,z5,T,U,V⟩:=l.o.res.cells;have a:=l.o.res.thaw;have g0:=a 0;have g1:=a 1;have g2:=a 2;have C:=a 3;have D:=a 4;have E:=a 5;have F:=a 6;have H:=a 7;have I:=a 8;have O:=l.o.res.lt;clear a;go_wp2;refine As (v:=Af #[rm d (Aa fa s fc) (Aa oa on oc) (Aa x y rc) (Aa z A tc),Ab Al 0,Ab Ak fe]) ?_ rfl ⟨_,_,_,rfl,?_⟩
 simp[AI,Tryz.f53];go_simp
 exact⟨rfl,rfl,EY l.o.bel (RB.o _ l.o.bel) (Bu _ _ _ _ _ _ _ _ _ _ _)⟩
end Go.Proofs.YtakgkgmopmcecaaGreat
