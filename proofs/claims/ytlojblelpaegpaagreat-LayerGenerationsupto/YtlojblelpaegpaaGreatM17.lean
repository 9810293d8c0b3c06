/-
  Several texts, laid together.
-/
import Derived.Test.YtlojblelpaegpaaGreatM14
import Derived.Test.YtlojblelpaegpaaGreatM16
set_option maxHeartbeats 6400000
set_option maxRecDepth 100000
open Go renaming World->Ap,Value->Ar,Calls->At,bodyPost_ret->As,results->AH,maxLen->AG
open Go.RowKit renaming Below->An
open Bool renaming true_and->Ci
open Go.Value renaming slice->Aa,int->Ab,bool->Ad,string->Ae,tuple->Af,agg->Ag
open Go.Obj renaming cells->Ai
open Go.Ending renaming returned->Aj
open Go.IntKind renaming i64->Ak,u64->Al
open Go.Proofs.Tryz renaming prog->Am
open Go.Proofs.Tryz
namespace Go.Proofs.YtlojblelpaegpaaGreat
open Go.RowKit
variable{W W' w:Ap}{Z:Nat->Prop}{c f fc h j oc on tc y:Nat}{d:Dk}{fa oa:Option Addr}{k:Int}{m vf vo vr vt:Ar}{s:ByteArray}{st:St}
def RMS(Z:Nat->Prop)(w:Ap)(m:Ar)(st:St)(d:Dk):Prop :=
 ∃fa fl fc oa on oc ra rn rc ta tn tc,m=rm d (Aa fa fl fc) (Aa oa on oc) (Aa ra rn rc) (Aa ta tn tc)/\LG encF Z w fa fl fc d.files/\LG encO Z w oa on oc st.objs/\LG encN Z w ra rn rc st.refs/\LG encN Z w ta tn tc st.tags
section
variable{Z Z' T:Nat->Prop}{w w':World}{m:Value}{st:St}{d:Dk}
theorem RMS.below(h:RMS Z w m st d)(a:An w.heap.size w w'):RMS Z w' m st d:=by
 obtain⟨fa,b,fc,oa,on,oc,j,l,k,n,o,tc,e,c,f,g,i⟩:=h;exact⟨fa,b,fc,oa,on,oc,j,l,k,n,o,tc,e,c.below a,f.below a,g.below a,i.below a⟩
theorem RMS.mono(h:RMS Z w m st d)(a:∀i,Z' i->Z i):RMS Z' w m st d:=by
 obtain⟨fa,b,fc,oa,on,oc,k,n,l,o,p,tc,e,c,f,g,j⟩:=h;exact⟨fa,b,fc,oa,on,oc,k,n,l,o,p,tc,e,c.mono a,f.mono a,g.mono a,j.mono a⟩
theorem RMS.turned(h:RMS Z w m st d)(b:Zaa T w w')(a:∀i,T i->Z i):RMS Z w' m st d:=by
 obtain⟨fa,c,fc,oa,on,oc,l,o,n,p,q,tc,e,f,g,j,k⟩:=h;exact⟨fa,c,fc,oa,on,oc,l,o,n,p,q,tc,e,f.turned b a,g.turned b a,j.turned b a,k.turned b a⟩
theorem RMS.into(h:RMS Z w m st d)(a:∀i,i<w.heap.size->Z' i->Z i):RMS Z' w m st d:=by
 obtain⟨fa,b,fc,oa,on,oc,k,n,l,o,p,tc,e,c,f,g,j⟩:=h;exact⟨fa,b,fc,oa,on,oc,k,n,l,o,p,tc,e,c.into a,f.into a,g.into a,j.into a⟩
end
theorem Zae(w:Ap)(Q:Nat)(v0 a b v3 v4 v5 c d e:Ar):
  Zaa (λ i=>i=Q) w (((((((((w.setCell ⟨Q,0,none⟩ v0).setCell ⟨Q,1,none⟩ a).setCell ⟨Q,2,none⟩ b).setCell ⟨Q,3,none⟩ v3).setCell ⟨Q,4,none⟩ v4).setCell ⟨Q,5,none⟩ v5).setCell ⟨Q,6,none⟩ c).setCell ⟨Q,7,none⟩ d).setCell ⟨Q,8,none⟩ e) :=
 (((((((((Zaa.refl (λ i=>i=Q) w).setCell (p:=⟨Q,0,none⟩) (.inl (show Q=Q from rfl)) v0).setCell (p:=⟨Q,1,none⟩) (.inl (show Q=Q from rfl)) a).setCell (p:=⟨Q,2,none⟩) (.inl (show Q=Q from rfl)) b).setCell (p:=⟨Q,3,none⟩) (.inl (show Q=Q from rfl)) v3).setCell (p:=⟨Q,4,none⟩) (.inl (show Q=Q from rfl)) v4).setCell (p:=⟨Q,5,none⟩) (.inl (show Q=Q from rfl)) v5).setCell (p:=⟨Q,6,none⟩) (.inl (show Q=Q from rfl)) c).setCell (p:=⟨Q,7,none⟩) (.inl (show Q=Q from rfl)) d).setCell (p:=⟨Q,8,none⟩) (.inl (show Q=Q from rfl)) e
structure Tri(w W:Ap)(d:Dk)(vf vo vr vt:Ar)(k:Int)(s:ByteArray):Prop where
 bel:An w.heap.size w W
 box:Zco W w.heap.size d vf vo vr vt
 fr:Box W (w.heap.size+1) 224 (Ab Ak k) (Ae s)
 res:Nine W (w.heap.size+2) (Aa none 0 0) (Ab Ak 0) (Ad false) (Ad false) (Ab Ak 0) (Ab Ak 0) (Aa none 0 0) (Aa none 0 0) (Aa none 0 0)
section
variable{w W W':World}{d:Dk}{vf vo vr vt:Value}{k:Int}{s:ByteArray}
theorem Tri.below(h:Tri w W d vf vo vr vt k s)(a:An W.heap.size W W'):Tri w W' d vf vo vr vt k s :=
 ⟨h.bel.trans (a.mono h.bel.size),h.box.below a h.box.lt,h.fr.below a,h.res.below a h.res.lt⟩
theorem Tri.new(w:Ap)(d:Dk)(vf vo vr vt:Ar)(k:Int)(s:ByteArray):
  Tri w (((w.alloc (nineC d vf vo vr vt)).alloc (Ai #[Ab Ak k,Ae s] 224)).alloc (Ai #[Aa none 0 0,Ab Ak 0,Ad false,Ad false,Ab Ak 0,Ab Ak 0,Aa none 0 0,Aa none 0 0,Aa none 0 0] 33)) d vf vo vr vt k s:=by
 have b:(w.alloc (nineC d vf vo vr vt)).heap.size=w.heap.size+1:=by simp
 have c:((w.alloc (nineC d vf vo vr vt)).alloc (Ai #[Ab Ak k,Ae s] 224)).heap.size=w.heap.size+2:=by simp
 have b2:=Box.new (w.alloc (nineC d vf vo vr vt)) 224 (Ab Ak k) (Ae s);rw[b]at b2;have a:=Nine.new ((w.alloc (nineC d vf vo vr vt)).alloc (Ai #[Ab Ak k,Ae s] 224)) (Aa none 0 0) (Ab Ak 0) (Ad false) (Ad false) (Ab Ak 0) (Ab Ak 0) (Aa none 0 0) (Aa none 0 0) (Aa none 0 0);rw[c]at a;exact⟨bz3 _ _ _ _,((Nine.new w _ _ _ _ _ _ _ _ _).below (bz1 _ _) (by rw[b];omega)).below (bz1 _ _) (by rw[c];omega),b2.below (bz1 _ _),a⟩
theorem Tri.size(h:Tri w W d vf vo vr vt k s):w.heap.size+3<=W.heap.size:=by
 have:=h.res.lt;omega
end
theorem ZhA(h:Tri w W d vf vo vr vt k s)(x y:Ar)(t:TypeId):Hid (Tri w (W.alloc (Ai #[x,y] t)).drew d vf vo vr vt k s/\Box (W.alloc (Ai #[x,y] t)).drew W.heap.size t x y) :=
 ⟨h.below (bz1 W _).drew,Box.new W t x y⟩
theorem Ze4(h:Tri w W d vf vo vr vt k s)(a:An (w.heap.size+3) W W'):Tri w W' d vf vo vr vt k s :=
 ⟨h.bel.trans (a.mono (by omega)),h.box.below a (by omega),(a.block _ (by omega)).trans h.fr,h.res.below a (by omega)⟩
def Zx(Z:Nat->Prop)(w:Ap):Nat->Prop:=λ i=>Z i∨(w.heap.size<=i/\i<w.heap.size+3)
theorem Zai(a:An w.heap.size w W)(h:RMS (Zx Z w) W m st d)(b:Zaa (λ i=>i=w.heap.size+2) W W'):RMS Z W' m st d/\An w.heap.size w W' :=
 ⟨(h.turned b (λ i q=>.inr (by have q:i=w.heap.size+2:=q;omega))).mono (λ _ q=>.inl q),a.trans (b.below a.size (λ i hi q=>by have q:i=w.heap.size+2:=q;omega))⟩
theorem Za0{a:Ap}{u:Ar}(b:An w.heap.size w W)(h:RMS (Zx Z w) W m st d)(c:a=W.setCell ⟨w.heap.size,j,none⟩ u)(e:Zaa (λ i=>i=w.heap.size+2) a W'):RMS Z W' m st d/\An w.heap.size w W':=by
 have t1:Zaa (λ i=>i=w.heap.size) W a:=by rw[c];exact Zad _ _
 exact Zai (b.trans (t1.below b.size (λ i hi q=>by have q:i=w.heap.size:=q;omega))) (h.turned t1 (λ i q=>.inr (by have q:i=w.heap.size:=q;omega))) e
theorem Tryz.info187:(Am.info? 187).map (λ i=>(i.zero,i.size,i.bytes))=some (some (Ag #[Ab Ak 0,Ab Al 0,Ae ⟨#[]⟩]),3,32):=by kernel_rfl
theorem ZlD{A k:Option Addr}{n:Nat}(hZ:∀i,Z i->i<w.heap.size)(h1:LG encF Z w fa j fc d.files)(h2:LG encO Z w oa on oc st.objs)(h3:LG encN Z w A y n st.refs)(h4:LG encN Z w k h tc st.tags)(aj:st.size<=1000000)(body:Bs)(ao:body.length<=1000000):
  At Am 113 #[rm d (Aa fa j fc) (Aa oa on oc) (Aa A y n) (Aa k h tc),Ag #[Ab Ak 4,tx body]] w λ e w'=>∃m',e=Aj (Af #[m',Ad (st.fits (4,body))])/\Hid (RMS Z w' m' (if st.fits (4,body)then st.take (4,body)else st) d/\An w.heap.size w w'):=by
 have hq:st.objs.length<=1000000/\st.refs.length<=1000000/\st.tags.length<=1000000:=by unfold St.size at aj;omega
 have ho:on<=1000000:=by rw[<- h2.len];exact hq.1
 have ac:y<=1000000:=by rw[<- h3.len];exact hq.2.1
 have ap:h<=1000000:=by rw[<- h4.len];exact hq.2.2
 obtain⟨s,hs⟩:∃s:ByteArray,s=⟨body.toArray⟩:=⟨_,rfl⟩
 have T:s.size=body.length:=by rw[hs];show body.toArray.size=_;simp
 obtain⟨g,hg⟩:=Xa (st.fits (4,body))
 obtain⟨C,t⟩:=Xa ((if st.fits (4,body)then st.take (4,body)else st))
 rw[t,hg,show tx body=Ae s by rw[hs]]
 obtain⟨W,hW⟩:=Xa (((w.alloc (nineC d (Aa fa j fc) (Aa oa on oc) (Aa A y n) (Aa k h tc))).alloc (Ai #[Ab Ak 4,Ae s] 224)).alloc (Ai #[Aa none 0 0,Ab Ak 0,Ad false,Ad false,Ab Ak 0,Ab Ak 0,Aa none 0 0,Aa none 0 0,Aa none 0 0] 33))
 have Q:Hid (Tri w W d (Aa fa j fc) (Aa oa on oc) (Aa A y n) (Aa k h tc) 4 s):=by rw[<- hW];exact Tri.new w d _ _ _ _ _ _
 have zx:∀i,i<w.heap.size->Zx Z w i->Z i:=λ i hi q=>q.elim (λ q=>q) (λ q=>by omega)
 have L:Hid (LG encF (Zx Z w) w fa j fc d.files/\LG encO (Zx Z w) w oa on oc st.objs/\LG encN (Zx Z w) w A y n st.refs/\LG encN (Zx Z w) w k h tc st.tags):=⟨h1.into zx,h2.into zx,h3.into zx,h4.into zx⟩
 have RB:Hid (∀W',An w.heap.size w W'->RMS (Zx Z w) W' (rm d (Aa fa j fc) (Aa oa on oc) (Aa A y n) (Aa k h tc)) st d):=λ W' b=>⟨fa,j,fc,oa,on,oc,A,y,n,k,h,tc,rfl,L.o.1.below b,L.o.2.1.below b,L.o.2.2.1.below b,L.o.2.2.2.below b⟩
 have HZ:Hid (∀i,Zx Z w i->i<w.heap.size+3):=λ i q=>q.elim (λ q=>by have:=hZ i q;omega) (λ q=>q.2)
 have HS:Hid (s=⟨body.toArray⟩/\(if st.fits (4,body)then st.take (4,body)else st)=C/\st.fits (4,body)=g/\s.size=body.length):=⟨hs,t,hg,T⟩
 have aq:¬9223372036854775807<s.size:=by omega
 have falls:g=false->C=st:=λ q=>by rw[<- HS.o.2.1,HS.o.2.2.1,q];rfl
 have D:g=true->C=st.take (4,body):=λ q=>by rw[<- HS.o.2.1,HS.o.2.2.1,q];rfl
 obtain⟨x0,x1,x2,x3,x4,x5,x6,x7,x8⟩:=Q.o.box.cells;obtain⟨y0,y1⟩:=Q.o.fr.cells;obtain⟨z0,z1,z2,z3,z4,z5,z6,z7,z8⟩:=Q.o.res.cells;have a:=Q.o.res.thaw;have g0:=a 0;have g1:=a 1;have g2:=a 2;have V:=a 3;have X:=a 4;have Y:=a 5;have g6:=a 6;have g7:=a 7;have g8:=a 8;have l2:=Q.o.res.lt;clear a;have E:=HS.o.2.2.1;unfold St.fits at E;rw[AE (by simp)]at E;simp only at E;by_cases h8:body.length<8
 ·have t8:(s.size:Int)<8:=by omega
  have al:s.size<8:=by omega
  have r:g=false:=by rw[<- E,show decide (8<=body.length)=false by simp;omega];rfl
  have es:=falls r;subst r es;clear h1 h2 h3 h4 hq E hs hg t zx falls D T;go_enter func113,ntmps113;go_wp2;refine As (v:=Af #[rm d (Aa fa j fc) (Aa oa on oc) (Aa A y n) (Aa k h tc),Ad false]) ?_ rfl ⟨_,rfl,?_⟩
  ·simp[AH,Tryz.f113];go_simp
  ·exact Zai Q.o.bel (RB.o _ Q.o.bel) (Zae _ _ _ _ _ _ _ _ _ _ _)
 have t8:¬(s.size:Int)<8:=by omega
 have al:¬s.size<8:=by omega
 have ar:8<=s.size:=by omega
 rw[show decide (8<=body.length)=true by simp;omega,Ci]at E
 obtain⟨nm,F⟩:=Xa (labN body)
 obtain⟨i,hi⟩:=Xa (labI body)
 rw[F,hi]at E
 obtain⟨H,ai⟩:∃H:ByteArray,s.extract 8 s.size=H:=⟨_,rfl⟩
 obtain⟨sh,ah⟩:∃sh:ByteArray,s.extract 0 8=sh:=⟨_,rfl⟩
 have J:H=⟨nm.toArray⟩:=by rw[<- ai,ZfH,HS.o.1,<- F];rfl
 have R:sh=⟨(body.take 8).toArray⟩:=by rw[<- ah,Zb5,HS.o.1]
 have O:val sh.data.toList=i.toNat:=by rw[R,<- hi];exact(Zbg (l:=body.take 8) (by rw[List.length_take];omega)).symm
 have M:sh.size<=8:=by rw[R];show(body.take 8).toArray.size<=8;simp;omega
 have an:H.size<=1000000:=by rw[J,<- F];show(labN body).toArray.size<=_;unfold labN;simp;omega
 have aa:H.data.toList=nm:=by rw[J]
 have m:=λ W'=>Zat H (by omega) W'
 rw[aa]at m
 have N:=λ W'=>ZaG sh M W'
 rw[O]at N
 obtain⟨xi,U⟩:∃xi:Int,(i.toNat:Int)=xi:=⟨_,rfl⟩
 rw[U]at N
 have I:Hid (H=⟨nm.toArray⟩/\labN body=nm/\labI body=i/\(i.toNat:Int)=xi):=⟨J,F,hi,U⟩
 cases e1:isName nm with
 | false =>
  replace m:=m W
  rw[e1]at m
  have r:g=false:=by rw[<- E,e1];rfl
  have es:=falls r;subst r es;clear h1 h2 h3 h4 hq E hs hg t zx falls D N T J R O M aa F hi U;go_enter func113,ntmps113;go_wp2_with fail;refine m.mono ?_;rintro e w1 ⟨rfl,x⟩;rw[x];clear x w1;go_wp2;refine As (v:=Af #[rm d (Aa fa j fc) (Aa oa on oc) (Aa A y n) (Aa k h tc),Ad false]) ?_ rfl ⟨_,rfl,?_⟩
  ·simp[AH,Tryz.f113];go_simp
  ·exact Zai Q.o.bel (RB.o _ Q.o.bel) (Zae _ _ _ _ _ _ _ _ _ _ _)
 | true =>
  replace m:=m W
  rw[e1]at m;rw[e1,Ci]at E;clear h1 h2 h3 h4 hs hg t zx T J R O M aa F hi U;go_enter func113,ntmps113;go_wp2_with fail;refine m.mono ?_;rintro e w1 ⟨rfl,x⟩;rw[x];clear x w1
  go_upto_region 4 with fail
  have ag:Hid (∀W',At Am 55 #[Ae sh] W' λ e w'=>e=Aj (Ab Al xi)/\w'=W'):=N;clear N;go_cut[6] (λ cv u=>cv=.pointer (some ⟨W.heap.size,0,none⟩)/\Hid (Tri w u d (Aa fa j fc) (Aa oa on oc) (Aa A y n) (Aa k h tc) 4 s/\Box u W.heap.size 295 (Ae H) (Ab Al xi)))
  case first =>
   go_region_held3 (λ u=>u.cell? ⟨w.heap.size+1,0,none⟩=some (Ab Ak 4)/\u.cell? ⟨w.heap.size+1,1,none⟩=some (Ae s)) (go_keep)
    (first|(go_at_call 55;refine(ag.o _).mono ?_;rintro e w1 ⟨rfl,x⟩;rw[x];clear x w1))
   all_goals
    go_wp2_with fail;go_meet;exact⟨rfl,ZhA Q.o _ _ _⟩
  case rest =>
   obtain⟨rfl,P⟩:=hcut;clear x0 x1 x2 x3 x4 x5 x6 x7 x8 y0 y1 z0 z1 z2 z3 z4 z5 z6 z7 z8 g0 g1 g2 V X Y g6 g7 g8 l2;obtain⟨x0,x1,x2,x3,x4,x5,x6,x7,x8⟩:=P.o.1.box.cells;obtain⟨y0,y1⟩:=P.o.1.fr.cells;obtain⟨z0,z1,z2,z3,z4,z5,z6,z7,z8⟩:=P.o.1.res.cells;have a:=P.o.1.res.thaw;have g0:=a 0;have g1:=a 1;have g2:=a 2;have V:=a 3;have X:=a 4;have Y:=a 5;have g6:=a 6;have g7:=a 7;have g8:=a 8;have l2:=P.o.1.res.lt;clear a;obtain⟨n0,n1⟩:=P.o.2.cells
   obtain⟨q,S⟩:=Xa (st.has 3 i)
   have hh:=ZaK (d:=d) (oc:=oc) (vf:=Aa fa j fc) (vr:=Aa A y n) (vt:=Aa k h tc) (L.o.2.1.rd.below P.o.1.bel) L.o.2.1.len ho 3 i q S;rw[I.o.2.2.2]at hh;rw[S]at E;have HF:Hid _:=E
   have FL:Hid ((g=false->C=st)/\(g=true->C=st.take (4,body))):=⟨falls,D⟩
   have HQ:Hid (st.has 3 i=q):=S;clear E falls D S hq;go_wp2_with fail;refine hh.mono ?_;rintro e w6 ⟨rfl,B6⟩
   have p:Hid (Tri w w6 d (Aa fa j fc) (Aa oa on oc) (Aa A y n) (Aa k h tc) 4 s/\Box w6 W.heap.size 295 (Ae H) (Ab Al xi)):=⟨P.o.1.below B6,P.o.2.below B6⟩
   clear hh B6 P n0 n1;clear x0 x1 x2 x3 x4 x5 x6 x7 x8 y0 y1 z0 z1 z2 z3 z4 z5 z6 z7 z8 g0 g1 g2 V X Y g6 g7 g8 l2;obtain⟨x0,x1,x2,x3,x4,x5,x6,x7,x8⟩:=p.o.1.box.cells;obtain⟨y0,y1⟩:=p.o.1.fr.cells;obtain⟨z0,z1,z2,z3,z4,z5,z6,z7,z8⟩:=p.o.1.res.cells;have a:=p.o.1.res.thaw;have g0:=a 0;have g1:=a 1;have g2:=a 2;have V:=a 3;have X:=a 4;have Y:=a 5;have g6:=a 6;have g7:=a 7;have g8:=a 8;have l2:=p.o.1.res.lt;clear a;obtain⟨n0,n1⟩:=p.o.2.cells;by_cases G:i=0
   ·have am:xi=0:=by rw[<- I.o.2.2.2];exact(ZbJ i).2 G
    subst am;have ab:=Zca (c:=n) st.refs nm w6 (L.o.2.2.1.rd.below p.o.1.bel) L.o.2.2.1.len ac;rw[show tx nm=Ae H by rw[I.o.1]]at ab;go_wp2_with fail;refine ab.mono ?_;rintro e w7 ⟨r7,rfl,R7,af⟩;rw[af];clear af w7 ab
    rcases R7.o with⟨q1,q2⟩ | ⟨q1,i7,q2⟩
    ·subst q2
     have r:g=false:=by rw[<- HF.o,Aw (by omega),AE G];exact q1
     have es:=FL.o.1 r;subst r es;clear q1 G;go_wp2;refine As (v:=Af #[rm d (Aa fa j fc) (Aa oa on oc) (Aa A y n) (Aa k h tc),Ad false]) ?_ rfl ⟨_,rfl,?_⟩
     ·simp[AH,Tryz.f113];go_simp
     ·exact Zai p.o.1.bel (RB.o _ p.o.1.bel) (Zae _ _ _ _ _ _ _ _ _ _ _)
    ·subst q2
     have p7:¬(i7:Int)<0:=by omega
     have p8:(0:Int)<=(i7:Int):=by omega
     have r:g=true:=by rw[<- HF.o,Aw (by omega),AE G];exact q1
     have es:C={ st with refs:=nout st.refs nm }:=by rw[FL.o.2 r];unfold St.take;rw[AE rfl];rw[show labI (4,body).2=i from I.o.2.2.1,AE G,show labN (4,body).2=nm from I.o.2.1]
     subst r es;have ae:=Zdg (c:=n) st.refs nm w6 (L.o.2.2.1.rd.below p.o.1.bel) L.o.2.2.1.len ac;rw[show tx nm=Ae H by rw[I.o.1]]at ae;clear q1 G;go_wp2_with fail;refine ae.mono ?_;rintro e w8 ⟨v8,rfl,R8⟩;obtain⟨a8,c8,e8,B⟩:=LG.ofOwn (Z:=Zx Z w) R8.o.1 (λ i q=>by have:=HZ.o i q;have:=p.o.1.size;omega)
     obtain⟨n8,K⟩:=Xa ((nout st.refs nm).length)
     rw[K]at e8 B;subst e8
     have f:Hid (Tri w w8 d (Aa fa j fc) (Aa oa on oc) (Aa A y n) (Aa k h tc) 4 s/\LG encN (Zx Z w) w8 a8 n8 c8 (nout st.refs nm)):=⟨p.o.1.below R8.o.2,B⟩
     have f7:=f.o.1.box.thaw 7;have l0:=f.o.1.box.lt
     have ak:w.heap.size≠w.heap.size+2:=by omega
     clear ae B K R8 n0 n1;clear x0 x1 x2 x3 x4 x5 x6 x7 x8 y0 y1 z0 z1 z2 z3 z4 z5 z6 z7 z8 g0 g1 g2 V X Y g6 g7 g8 l2;obtain⟨x0,x1,x2,x3,x4,x5,x6,x7,x8⟩:=f.o.1.box.cells;obtain⟨y0,y1⟩:=f.o.1.fr.cells;obtain⟨z0,z1,z2,z3,z4,z5,z6,z7,z8⟩:=f.o.1.res.cells;have a:=f.o.1.res.thaw;have g0:=a 0;have g1:=a 1;have g2:=a 2;have V:=a 3;have X:=a 4;have Y:=a 5;have g6:=a 6;have g7:=a 7;have g8:=a 8;have l2:=f.o.1.res.lt;clear a;go_wp2;refine As (v:=Af #[rm d (Aa fa j fc) (Aa oa on oc) (Aa a8 n8 c8) (Aa k h tc),Ad true]) ?_ rfl ⟨_,rfl,?_⟩
     ·simp[AH,Tryz.f113];go_simp
     ·exact Za0 f.o.1.bel (⟨fa,j,fc,oa,on,oc,a8,n8,c8,k,h,tc,rfl,L.o.1.below f.o.1.bel,L.o.2.1.below f.o.1.bel,f.o.2,L.o.2.2.2.below f.o.1.bel⟩) rfl (Zae _ _ _ _ _ _ _ _ _ _ _)
   ·have m1:(xi==0)=false:=by
     rw[<- I.o.2.2.2]
     have:=λ z=>G ((ZbJ i).1 z)
     simpa using this
    cases q with
    | false =>
     have r:g=false:=by rw[<- HF.o,Aw (by omega),Aw G]
     have es:=FL.o.1 r;subst r es;clear G;go_wp2;refine As (v:=Af #[rm d (Aa fa j fc) (Aa oa on oc) (Aa A y n) (Aa k h tc),Ad false]) ?_ rfl ⟨_,rfl,?_⟩
     ·simp[AH,Tryz.f113];go_simp
     ·exact Zai p.o.1.bel (RB.o _ p.o.1.bel) (Zae _ _ _ _ _ _ _ _ _ _ _)
    | true =>
     have r:g=true:=by rw[<- HF.o,Aw (by omega),Aw G]
     have es:C={ st with refs:=nwith st.refs nm i }:=by rw[FL.o.2 r];unfold St.take;rw[AE rfl];rw[show labI (4,body).2=i from I.o.2.2.1,Aw G,show labN (4,body).2=nm from I.o.2.1]
     subst r es;clear G;have ad:=ZgI (c:=n) st.refs nm i w6 (L.o.2.2.1.rd.below p.o.1.bel) L.o.2.2.1.len ac;rw[show tx nm=Ae H by rw[I.o.1],I.o.2.2.2]at ad;go_wp2_with fail;refine ad.mono ?_;rintro e w8 ⟨v8,rfl,R8⟩;obtain⟨a8,c8,e8,B⟩:=LG.ofOwn (Z:=Zx Z w) R8.o.1 (λ i q=>by have:=HZ.o i q;have:=p.o.1.size;omega)
     obtain⟨n8,K⟩:=Xa ((nwith st.refs nm i).length)
     rw[K]at e8 B;subst e8
     have f:Hid (Tri w w8 d (Aa fa j fc) (Aa oa on oc) (Aa A y n) (Aa k h tc) 4 s/\LG encN (Zx Z w) w8 a8 n8 c8 (nwith st.refs nm i)):=⟨p.o.1.below R8.o.2,B⟩
     have f7:=f.o.1.box.thaw 7;have l0:=f.o.1.box.lt
     have ak:w.heap.size≠w.heap.size+2:=by omega
     clear ad B K R8 n0 n1;clear x0 x1 x2 x3 x4 x5 x6 x7 x8 y0 y1 z0 z1 z2 z3 z4 z5 z6 z7 z8 g0 g1 g2 V X Y g6 g7 g8 l2;obtain⟨x0,x1,x2,x3,x4,x5,x6,x7,x8⟩:=f.o.1.box.cells;obtain⟨y0,y1⟩:=f.o.1.fr.cells;obtain⟨z0,z1,z2,z3,z4,z5,z6,z7,z8⟩:=f.o.1.res.cells;have a:=f.o.1.res.thaw;have g0:=a 0;have g1:=a 1;have g2:=a 2;have V:=a 3;have X:=a 4;have Y:=a 5;have g6:=a 6;have g7:=a 7;have g8:=a 8;have l2:=f.o.1.res.lt;clear a;go_wp2;refine As (v:=Af #[rm d (Aa fa j fc) (Aa oa on oc) (Aa a8 n8 c8) (Aa k h tc),Ad true]) ?_ rfl ⟨_,rfl,?_⟩
     ·simp[AH,Tryz.f113];go_simp
     ·exact Za0 f.o.1.bel (⟨fa,j,fc,oa,on,oc,a8,n8,c8,k,h,tc,rfl,L.o.1.below f.o.1.bel,L.o.2.1.below f.o.1.bel,f.o.2,L.o.2.2.2.below f.o.1.bel⟩) rfl (Zae _ _ _ _ _ _ _ _ _ _ _)
theorem Zm7{n t:Option Addr}{p r:Nat}(hZ:∀i,Z i->i<w.heap.size)(h1:LG encF Z w fa j fc d.files)(h2:LG encO Z w oa on oc st.objs)(h3:LG encN Z w n h p st.refs)(h4:LG encN Z w t r tc st.tags)(ag:st.size<=1000000)(body:Bs)(aj:body.length<=1000000):
  At Am 113 #[rm d (Aa fa j fc) (Aa oa on oc) (Aa n h p) (Aa t r tc),Ag #[Ab Ak 5,tx body]] w λ e w'=>∃m',e=Aj (Af #[m',Ad (st.fits (5,body))])/\Hid (RMS Z w' m' (if st.fits (5,body)then st.take (5,body)else st) d/\An w.heap.size w w'):=by
 have hq:st.objs.length<=1000000/\st.refs.length<=1000000/\st.tags.length<=1000000:=by unfold St.size at ag;omega
 have ho:on<=1000000:=by rw[<- h2.len];exact hq.1
 have ak:h<=1000000:=by rw[<- h3.len];exact hq.2.1
 have ab:r<=1000000:=by rw[<- h4.len];exact hq.2.2
 obtain⟨s,hs⟩:∃s:ByteArray,s=⟨body.toArray⟩:=⟨_,rfl⟩
 have O:s.size=body.length:=by rw[hs];show body.toArray.size=_;simp
 obtain⟨g,hg⟩:=Xa (st.fits (5,body))
 obtain⟨C,k⟩:=Xa ((if st.fits (5,body)then st.take (5,body)else st))
 rw[k,hg,show tx body=Ae s by rw[hs]]
 obtain⟨W,hW⟩:=Xa (((w.alloc (nineC d (Aa fa j fc) (Aa oa on oc) (Aa n h p) (Aa t r tc))).alloc (Ai #[Ab Ak 5,Ae s] 224)).alloc (Ai #[Aa none 0 0,Ab Ak 0,Ad false,Ad false,Ab Ak 0,Ab Ak 0,Aa none 0 0,Aa none 0 0,Aa none 0 0] 33))
 have K:Hid (Tri w W d (Aa fa j fc) (Aa oa on oc) (Aa n h p) (Aa t r tc) 5 s):=by rw[<- hW];exact Tri.new w d _ _ _ _ _ _
 have X:∀i,i<w.heap.size->Zx Z w i->Z i:=λ i hi q=>q.elim (λ q=>q) (λ q=>by omega)
 have L:Hid (LG encF (Zx Z w) w fa j fc d.files/\LG encO (Zx Z w) w oa on oc st.objs/\LG encN (Zx Z w) w n h p st.refs/\LG encN (Zx Z w) w t r tc st.tags):=⟨h1.into X,h2.into X,h3.into X,h4.into X⟩
 have RB:Hid (∀W',An w.heap.size w W'->RMS (Zx Z w) W' (rm d (Aa fa j fc) (Aa oa on oc) (Aa n h p) (Aa t r tc)) st d):=λ W' b=>⟨fa,j,fc,oa,on,oc,n,h,p,t,r,tc,rfl,L.o.1.below b,L.o.2.1.below b,L.o.2.2.1.below b,L.o.2.2.2.below b⟩
 have HZ:Hid (∀i,Zx Z w i->i<w.heap.size+3):=λ i q=>q.elim (λ q=>by have:=hZ i q;omega) (λ q=>q.2)
 have Q:Hid (s=⟨body.toArray⟩/\(if st.fits (5,body)then st.take (5,body)else st)=C/\st.fits (5,body)=g/\s.size=body.length):=⟨hs,k,hg,O⟩
 have am:¬9223372036854775807<s.size:=by omega
 have falls:g=false->C=st:=λ q=>by rw[<- Q.o.2.1,Q.o.2.2.1,q];rfl
 have z:g=true->C=st.take (5,body):=λ q=>by rw[<- Q.o.2.1,Q.o.2.2.1,q];rfl
 obtain⟨x0,x1,x2,x3,x4,x5,x6,x7,x8⟩:=K.o.box.cells;obtain⟨y0,y1⟩:=K.o.fr.cells;obtain⟨z0,z1,z2,z3,z4,z5,z6,z7,z8⟩:=K.o.res.cells;have a:=K.o.res.thaw;have g0:=a 0;have g1:=a 1;have g2:=a 2;have g3:=a 3;have g4:=a 4;have g5:=a 5;have g6:=a 6;have g7:=a 7;have g8:=a 8;have l2:=K.o.res.lt;clear a;have A:=Q.o.2.2.1;unfold St.fits at A;rw[AE (by simp)]at A;simp only at A;by_cases h8:body.length<8
 ·have t8:(s.size:Int)<8:=by omega
  have ah:s.size<8:=by omega
  have y:g=false:=by rw[<- A,show decide (8<=body.length)=false by simp;omega];rfl
  have es:=falls y;subst y es;clear h1 h2 h3 h4 hq A hs hg k X falls z O;go_enter func113,ntmps113;go_wp2;refine As (v:=Af #[rm d (Aa fa j fc) (Aa oa on oc) (Aa n h p) (Aa t r tc),Ad false]) ?_ rfl ⟨_,rfl,?_⟩
  ·simp[AH,Tryz.f113];go_simp
  ·exact Zai K.o.bel (RB.o _ K.o.bel) (Zae _ _ _ _ _ _ _ _ _ _ _)
 have t8:¬(s.size:Int)<8:=by omega
 have ah:¬s.size<8:=by omega
 have an:8<=s.size:=by omega
 rw[show decide (8<=body.length)=true by simp;omega,Ci]at A
 obtain⟨nm,B⟩:=Xa (labN body)
 obtain⟨i,hi⟩:=Xa (labI body)
 rw[B,hi]at A
 obtain⟨I,af⟩:∃I:ByteArray,s.extract 8 s.size=I:=⟨_,rfl⟩
 obtain⟨V,ae⟩:∃V:ByteArray,s.extract 0 8=V:=⟨_,rfl⟩
 have E:I=⟨nm.toArray⟩:=by rw[<- af,ZfH,Q.o.1,<- B];rfl
 have M:V=⟨(body.take 8).toArray⟩:=by rw[<- ae,Zb5,Q.o.1]
 have H:val V.data.toList=i.toNat:=by rw[M,<- hi];exact(Zbg (l:=body.take 8) (by rw[List.length_take];omega)).symm
 have F:V.size<=8:=by rw[M];show(body.take 8).toArray.size<=8;simp;omega
 have ai:I.size<=1000000:=by rw[E,<- B];show(labN body).toArray.size<=_;unfold labN;simp;omega
 have R:I.data.toList=nm:=by rw[E]
 have f:=λ W'=>Zat I (by omega) W'
 rw[R]at f
 have G:=λ W'=>ZaG V F W'
 rw[H]at G
 obtain⟨xi,P⟩:∃xi:Int,(i.toNat:Int)=xi:=⟨_,rfl⟩
 rw[P]at G
 have Y:Hid (I=⟨nm.toArray⟩/\labN body=nm/\labI body=i/\(i.toNat:Int)=xi):=⟨E,B,hi,P⟩
 cases e1:isName nm with
 | false =>
  replace f:=f W
  rw[e1]at f
  have y:g=false:=by rw[<- A,e1];rfl
  have es:=falls y;subst y es;clear h1 h2 h3 h4 hq A hs hg k X falls z G O E M H F R B hi P;go_enter func113,ntmps113;go_wp2_with fail;refine f.mono ?_;rintro e w1 ⟨rfl,m⟩;rw[m];clear m w1;go_wp2;refine As (v:=Af #[rm d (Aa fa j fc) (Aa oa on oc) (Aa n h p) (Aa t r tc),Ad false]) ?_ rfl ⟨_,rfl,?_⟩
  ·simp[AH,Tryz.f113];go_simp
  ·exact Zai K.o.bel (RB.o _ K.o.bel) (Zae _ _ _ _ _ _ _ _ _ _ _)
 | true =>
  replace f:=f W
  rw[e1]at f;rw[e1,Ci]at A;clear h1 h2 h3 h4 hs hg k X O E M H F R B hi P;go_enter func113,ntmps113;go_wp2_with fail;refine f.mono ?_;rintro e w1 ⟨rfl,m⟩;rw[m];clear m w1
  go_upto_region 4 with fail
  have ad:Hid (∀W',At Am 55 #[Ae V] W' λ e w'=>e=Aj (Ab Al xi)/\w'=W'):=G;clear G;go_cut[6] (λ cv u=>cv=.pointer (some ⟨W.heap.size,0,none⟩)/\Hid (Tri w u d (Aa fa j fc) (Aa oa on oc) (Aa n h p) (Aa t r tc) 5 s/\Box u W.heap.size 295 (Ae I) (Ab Al xi)))
  case first =>
   go_region_held3 (λ u=>u.cell? ⟨w.heap.size+1,0,none⟩=some (Ab Ak 5)/\u.cell? ⟨w.heap.size+1,1,none⟩=some (Ae s)) (go_keep)
    (first|(go_at_call 55;refine(ad.o _).mono ?_;rintro e w1 ⟨rfl,m⟩;rw[m];clear m w1))
   all_goals
    go_wp2_with fail;go_meet;exact⟨rfl,ZhA K.o _ _ _⟩
  case rest =>
   obtain⟨rfl,J⟩:=hcut;clear x0 x1 x2 x3 x4 x5 x6 x7 x8 y0 y1 z0 z1 z2 z3 z4 z5 z6 z7 z8 g0 g1 g2 g3 g4 g5 g6 g7 g8 l2;obtain⟨x0,x1,x2,x3,x4,x5,x6,x7,x8⟩:=J.o.1.box.cells;obtain⟨y0,y1⟩:=J.o.1.fr.cells;obtain⟨z0,z1,z2,z3,z4,z5,z6,z7,z8⟩:=J.o.1.res.cells;have a:=J.o.1.res.thaw;have g0:=a 0;have g1:=a 1;have g2:=a 2;have g3:=a 3;have g4:=a 4;have g5:=a 5;have g6:=a 6;have g7:=a 7;have g8:=a 8;have l2:=J.o.1.res.lt;clear a;obtain⟨n0,n1⟩:=J.o.2.cells
   obtain⟨q,N⟩:=Xa (st.has 3 i)
   have hh:=ZaK (d:=d) (oc:=oc) (vf:=Aa fa j fc) (vr:=Aa n h p) (vt:=Aa t r tc) (L.o.2.1.rd.below J.o.1.bel) L.o.2.1.len ho 3 i q N;rw[Y.o.2.2.2]at hh;rw[N]at A;have HF:Hid _:=A
   have FL:Hid ((g=false->C=st)/\(g=true->C=st.take (5,body))):=⟨falls,z⟩
   have HQ:Hid (st.has 3 i=q):=N;clear A falls z N hq;go_wp2_with fail;refine hh.mono ?_;rintro e w6 ⟨rfl,B6⟩
   have x:Hid (Tri w w6 d (Aa fa j fc) (Aa oa on oc) (Aa n h p) (Aa t r tc) 5 s/\Box w6 W.heap.size 295 (Ae I) (Ab Al xi)):=⟨J.o.1.below B6,J.o.2.below B6⟩
   clear hh B6 J n0 n1;clear x0 x1 x2 x3 x4 x5 x6 x7 x8 y0 y1 z0 z1 z2 z3 z4 z5 z6 z7 z8 g0 g1 g2 g3 g4 g5 g6 g7 g8 l2;obtain⟨x0,x1,x2,x3,x4,x5,x6,x7,x8⟩:=x.o.1.box.cells;obtain⟨y0,y1⟩:=x.o.1.fr.cells;obtain⟨z0,z1,z2,z3,z4,z5,z6,z7,z8⟩:=x.o.1.res.cells;have a:=x.o.1.res.thaw;have g0:=a 0;have g1:=a 1;have g2:=a 2;have g3:=a 3;have g4:=a 4;have g5:=a 5;have g6:=a 6;have g7:=a 7;have g8:=a 8;have l2:=x.o.1.res.lt;clear a;obtain⟨n0,n1⟩:=x.o.2.cells
   cases q with
   | false =>
    have y:g=false:=by rw[<- HF.o];simp
    have es:=FL.o.1 y;subst y es;go_wp2;refine As (v:=Af #[rm d (Aa fa j fc) (Aa oa on oc) (Aa n h p) (Aa t r tc),Ad false]) ?_ rfl ⟨_,rfl,?_⟩
    ·simp[AH,Tryz.f113];go_simp
    ·exact Zai x.o.1.bel (RB.o _ x.o.1.bel) (Zae _ _ _ _ _ _ _ _ _ _ _)
   | true =>
    have S:=Zca (c:=tc) st.tags nm w6 (L.o.2.2.2.rd.below x.o.1.bel) L.o.2.2.2.len ab;rw[show tx nm=Ae I by rw[Y.o.1]]at S;go_wp2_with fail;refine S.mono ?_;rintro e w7 ⟨r7,rfl,R7,ac⟩;rw[ac];clear ac w7 S
    rcases R7.o with⟨q1,q2⟩ | ⟨q1,i7,q2⟩
    ·subst q2
     have y:g=true:=by rw[<- HF.o];simp[q1]
     have es:C={ st with tags:=nwith st.tags nm i }:=by rw[FL.o.2 y];unfold St.take;rw[Aw (by show ¬(5:Int)=4;omega),AE rfl];rw[show labI (5,body).2=i from Y.o.2.2.1,show labN (5,body).2=nm from Y.o.2.1]
     subst y es;clear q1;have T:=ZgI (c:=tc) st.tags nm i w6 (L.o.2.2.2.rd.below x.o.1.bel) L.o.2.2.2.len ab;rw[show tx nm=Ae I by rw[Y.o.1],Y.o.2.2.2]at T;go_wp2_with fail;refine T.mono ?_;rintro e w8 ⟨v8,rfl,R8⟩;obtain⟨a8,c8,e8,U⟩:=LG.ofOwn (Z:=Zx Z w) R8.o.1 (λ i q=>by have:=HZ.o i q;have:=x.o.1.size;omega)
     obtain⟨n8,aa⟩:=Xa ((nwith st.tags nm i).length)
     rw[aa]at e8 U;subst e8
     have D:Hid (Tri w w8 d (Aa fa j fc) (Aa oa on oc) (Aa n h p) (Aa t r tc) 5 s/\LG encN (Zx Z w) w8 a8 n8 c8 (nwith st.tags nm i)):=⟨x.o.1.below R8.o.2,U⟩
     have f7:=D.o.1.box.thaw 8;have l0:=D.o.1.box.lt
     have al:w.heap.size≠w.heap.size+2:=by omega
     clear T U aa R8 n0 n1;clear x0 x1 x2 x3 x4 x5 x6 x7 x8 y0 y1 z0 z1 z2 z3 z4 z5 z6 z7 z8 g0 g1 g2 g3 g4 g5 g6 g7 g8 l2;obtain⟨x0,x1,x2,x3,x4,x5,x6,x7,x8⟩:=D.o.1.box.cells;obtain⟨y0,y1⟩:=D.o.1.fr.cells;obtain⟨z0,z1,z2,z3,z4,z5,z6,z7,z8⟩:=D.o.1.res.cells;have a:=D.o.1.res.thaw;have g0:=a 0;have g1:=a 1;have g2:=a 2;have g3:=a 3;have g4:=a 4;have g5:=a 5;have g6:=a 6;have g7:=a 7;have g8:=a 8;have l2:=D.o.1.res.lt;clear a;go_wp2;refine As (v:=Af #[rm d (Aa fa j fc) (Aa oa on oc) (Aa n h p) (Aa a8 n8 c8),Ad true]) ?_ rfl ⟨_,rfl,?_⟩
     ·simp[AH,Tryz.f113];go_simp
     ·exact Za0 D.o.1.bel (⟨fa,j,fc,oa,on,oc,n,h,p,a8,n8,c8,rfl,L.o.1.below D.o.1.bel,L.o.2.1.below D.o.1.bel,L.o.2.2.1.below D.o.1.bel,D.o.2⟩) rfl (Zae _ _ _ _ _ _ _ _ _ _ _)
    ·subst q2
     have p7:(0:Int)<=(i7:Int):=by omega
     have y:g=false:=by rw[<- HF.o];simp[q1]
     have es:=FL.o.1 y;subst y es;clear q1;go_wp2;refine As (v:=Af #[rm d (Aa fa j fc) (Aa oa on oc) (Aa n h p) (Aa t r tc),Ad false]) ?_ rfl ⟨_,rfl,?_⟩
     ·simp[AH,Tryz.f113];go_simp
     ·exact Zai x.o.1.bel (RB.o _ x.o.1.bel) (Zae _ _ _ _ _ _ _ _ _ _ _)
theorem Zlb{B D:Option Addr}{A u C:Nat}(hZ:∀i,Z i->i<w.heap.size)(h1:LG encF Z w fa A fc d.files)(P:LG encO Z w oa on oc st.objs)(Q:LG encN Z w B u C st.refs)(R:LG encN Z w D y tc st.tags)(ad:st.size<=1000000)(k:Int)(aa:¬k=4)(ab:¬k=5)(body:Bs)(af:body.length<=1000000)(f:k<1∨3<k∨oid k body=0∨st.has k (oid k body)=true):
  At Am 113 #[rm d (Aa fa A fc) (Aa oa on oc) (Aa B u C) (Aa D y tc),Ag #[Ab Ak k,tx body]] w λ e w'=>∃m',e=Aj (Af #[m',Ad (st.fits (k,body))])/\Hid (RMS Z w' m' (if st.fits (k,body)then st.take (k,body)else st) d/\An w.heap.size w w'):=by
 have hq:st.objs.length<=1000000/\st.refs.length<=1000000/\st.tags.length<=1000000:=by unfold St.size at ad;omega
 have ho:on<=1000000:=by rw[<- P.len];exact hq.1
 have ag:u<=1000000:=by rw[<- Q.len];exact hq.2.1
 have ah:y<=1000000:=by rw[<- R.len];exact hq.2.2
 obtain⟨s,J⟩:∃s:ByteArray,s=⟨body.toArray⟩:=⟨_,rfl⟩
 have t:s.size=body.length:=by rw[J];show body.toArray.size=_;simp
 obtain⟨g,T⟩:=Xa (st.fits (k,body))
 obtain⟨M,j⟩:=Xa ((if st.fits (k,body)then st.take (k,body)else st))
 rw[j,T,show tx body=Ae s by rw[J]]
 obtain⟨W,hW⟩:=Xa (((w.alloc (nineC d (Aa fa A fc) (Aa oa on oc) (Aa B u C) (Aa D y tc))).alloc (Ai #[Ab Ak k,Ae s] 224)).alloc (Ai #[Aa none 0 0,Ab Ak 0,Ad false,Ad false,Ab Ak 0,Ab Ak 0,Aa none 0 0,Aa none 0 0,Aa none 0 0] 33))
 have U:Hid (Tri w W d (Aa fa A fc) (Aa oa on oc) (Aa B u C) (Aa D y tc) k s):=by rw[<- hW];exact Tri.new w d _ _ _ _ _ _
 have H:∀i,i<w.heap.size->Zx Z w i->Z i:=λ i hi q=>q.elim (λ q=>q) (λ q=>by omega)
 have L:Hid (LG encF (Zx Z w) w fa A fc d.files/\LG encO (Zx Z w) w oa on oc st.objs/\LG encN (Zx Z w) w B u C st.refs/\LG encN (Zx Z w) w D y tc st.tags):=⟨h1.into H,P.into H,Q.into H,R.into H⟩
 have RB:Hid (∀W',An w.heap.size w W'->RMS (Zx Z w) W' (rm d (Aa fa A fc) (Aa oa on oc) (Aa B u C) (Aa D y tc)) st d):=λ W' b=>⟨fa,A,fc,oa,on,oc,B,u,C,D,y,tc,rfl,L.o.1.below b,L.o.2.1.below b,L.o.2.2.1.below b,L.o.2.2.2.below b⟩
 have HZ:Hid (∀i,Zx Z w i->i<w.heap.size+3):=λ i q=>q.elim (λ q=>by have:=hZ i q;omega) (λ q=>q.2)
 have O:Hid (s=⟨body.toArray⟩/\(if st.fits (k,body)then st.take (k,body)else st)=M/\st.fits (k,body)=g/\s.size=body.length):=⟨J,j,T,t⟩
 have aj:(k==4)=false:=by simpa using aa
 have ak:(k==5)=false:=by simpa using ab
 have falls:g=false->M=st:=λ q=>by rw[<- O.o.2.1,O.o.2.2.1,q];rfl
 have n:g=true->M={ st with objs:=st.objs++[⟨k,oid k body,body⟩] }:=λ q=>by rw[<- O.o.2.1,O.o.2.2.1,q,AE rfl];unfold St.take;rw[Aw (by exact aa),Aw (by exact ab)]
 have S:(st.right (k,body)&&!(decide (oid k body=0))&&!(st.has k (oid k body)))=g:=by
  rw[<- O.o.2.2.1];unfold St.fits;rw[Aw (by show ¬(k=4∨k=5);omega)]
 obtain⟨x,K⟩:=Xa (oid k body)
 rw[K]at S n;obtain⟨W1,cc,ac,E,F,r,l,m⟩:=ZaU W body;rw[show tx body=Ae s by rw[O.o.1],<- t]at ac;have hid:=ZdV k W1 (r.at l (m (by simp only[AG];omega))) x K;rw[<- t]at hid
 obtain⟨xi,p⟩:∃xi:Int,(x.toNat:Int)=xi:=⟨_,rfl⟩
 rw[p]at hid;have c:Hid (Tri w W1 d (Aa fa A fc) (Aa oa on oc) (Aa B u C) (Aa D y tc) k s):=U.o.below E;have XI:Hid ((x.toNat:Int)=xi):=p
 have ai:¬9223372036854775807<s.size:=by omega
 rw[K]at f
 have eg:g=false:=by
  rw[<- S]
  rcases f with q|q|q|q
  ·rw[show st.right (k,body)=false by unfold St.right;rw[Aw (by show ¬k=1;omega),Aw (by show ¬k=2;omega),Aw (by show ¬k=3;omega)]];rfl
  ·rw[show st.right (k,body)=false by unfold St.right;rw[Aw (by show ¬k=1;omega),Aw (by show ¬k=2;omega),Aw (by show ¬k=3;omega)]];rfl
  ·simp[q]
  ·simp[q]
 have es:=(falls eg).symm;subst eg es
 have G:=λ q hq=>ZaK (d:=d) (oc:=oc) (vf:=Aa fa A fc) (vr:=Aa B u C) (vt:=Aa D y tc) (L.o.2.1.rd.below c.o.bel) L.o.2.1.len ho k x q hq
 rw[p]at G;have N:=ZbJ x;rw[p]at N;by_cases c1:k<1
 ·clear f G N;obtain⟨v0,v1⟩:=U.o.fr.cells;clear h1 P Q R J T j H t E F r l m p K S falls n hq;obtain⟨x0,x1,x2,x3,x4,x5,x6,x7,x8⟩:=c.o.box.cells;obtain⟨y0,y1⟩:=c.o.fr.cells;obtain⟨z0,z1,z2,z3,z4,z5,z6,z7,z8⟩:=c.o.res.cells;have a:=c.o.res.thaw;have g0:=a 0;have g1:=a 1;have g2:=a 2;have X:=a 3;have Y:=a 4;have g5:=a 5;have g6:=a 6;have g7:=a 7;have g8:=a 8;have l2:=c.o.res.lt;clear a;go_enter func113,ntmps113;go_wp2_with fail;refine hid.mono ?_;rintro e w1 ⟨rfl,h⟩;rw[h];clear h w1 hid;go_wp2;refine As (v:=Af #[rm d (Aa fa A fc) (Aa oa on oc) (Aa B u C) (Aa D y tc),Ad false]) ?_ rfl ⟨_,rfl,?_⟩
  ·simp[AH,Tryz.f113];go_simp
  ·exact Zai c.o.bel (RB.o _ c.o.bel) (Zae _ _ _ _ _ _ _ _ _ _ _)
 by_cases c2:3<k
 ·clear f G N;obtain⟨v0,v1⟩:=U.o.fr.cells;clear h1 P Q R J T j H t E F r l m p K S falls n hq;obtain⟨x0,x1,x2,x3,x4,x5,x6,x7,x8⟩:=c.o.box.cells;obtain⟨y0,y1⟩:=c.o.fr.cells;obtain⟨z0,z1,z2,z3,z4,z5,z6,z7,z8⟩:=c.o.res.cells;have a:=c.o.res.thaw;have g0:=a 0;have g1:=a 1;have g2:=a 2;have X:=a 3;have Y:=a 4;have g5:=a 5;have g6:=a 6;have g7:=a 7;have g8:=a 8;have l2:=c.o.res.lt;clear a;go_enter func113,ntmps113;go_wp2_with fail;refine hid.mono ?_;rintro e w1 ⟨rfl,h⟩;rw[h];clear h w1 hid;go_wp2;refine As (v:=Af #[rm d (Aa fa A fc) (Aa oa on oc) (Aa B u C) (Aa D y tc),Ad false]) ?_ rfl ⟨_,rfl,?_⟩
  ·simp[AH,Tryz.f113];go_simp
  ·exact Zai c.o.bel (RB.o _ c.o.bel) (Zae _ _ _ _ _ _ _ _ _ _ _)
 by_cases V:x=0
 ·have ae:xi=0:=N.2 V;subst ae;clear f G N V;obtain⟨v0,v1⟩:=U.o.fr.cells;clear h1 P Q R J T j H t E F r l m p K S falls n hq;obtain⟨x0,x1,x2,x3,x4,x5,x6,x7,x8⟩:=c.o.box.cells;obtain⟨y0,y1⟩:=c.o.fr.cells;obtain⟨z0,z1,z2,z3,z4,z5,z6,z7,z8⟩:=c.o.res.cells;have a:=c.o.res.thaw;have g0:=a 0;have g1:=a 1;have g2:=a 2;have X:=a 3;have Y:=a 4;have g5:=a 5;have g6:=a 6;have g7:=a 7;have g8:=a 8;have l2:=c.o.res.lt;clear a;go_enter func113,ntmps113;go_wp2_with fail;refine hid.mono ?_;rintro e w1 ⟨rfl,h⟩;rw[h];clear h w1 hid;go_wp2;refine As (v:=Af #[rm d (Aa fa A fc) (Aa oa on oc) (Aa B u C) (Aa D y tc),Ad false]) ?_ rfl ⟨_,rfl,?_⟩
  ·simp[AH,Tryz.f113];go_simp
  ·exact Zai c.o.bel (RB.o _ c.o.bel) (Zae _ _ _ _ _ _ _ _ _ _ _)
 have c4:st.has k x=true:=by
  rcases f with q|q|q|q
  ·exact absurd q c1
  ·exact absurd q c2
  ·exact absurd q V
  ·exact q
 have G:=G true c4
 have m1:(xi==0)=false:=by
  have:=λ z=>V (N.1 z)
  simpa using this
 clear f N V c4;obtain⟨v0,v1⟩:=U.o.fr.cells;clear h1 P Q R J T j H t E F r l m p K S falls n hq;obtain⟨x0,x1,x2,x3,x4,x5,x6,x7,x8⟩:=c.o.box.cells;obtain⟨y0,y1⟩:=c.o.fr.cells;obtain⟨z0,z1,z2,z3,z4,z5,z6,z7,z8⟩:=c.o.res.cells;have a:=c.o.res.thaw;have g0:=a 0;have g1:=a 1;have g2:=a 2;have X:=a 3;have Y:=a 4;have g5:=a 5;have g6:=a 6;have g7:=a 7;have g8:=a 8;have l2:=c.o.res.lt;clear a;go_enter func113,ntmps113;go_wp2_with fail;refine hid.mono ?_;rintro e w1 ⟨rfl,h⟩;rw[h];clear h w1 hid;go_wp2_with fail;refine G.mono ?_;rintro e w2 ⟨rfl,B2⟩;have I:Hid (Tri w w2 d (Aa fa A fc) (Aa oa on oc) (Aa B u C) (Aa D y tc) k s):=c.o.below B2;clear B2 G;clear x0 x1 x2 x3 x4 x5 x6 x7 x8 y0 y1 z0 z1 z2 z3 z4 z5 z6 z7 z8 g0 g1 g2 X Y g5 g6 g7 g8 l2;obtain⟨x0,x1,x2,x3,x4,x5,x6,x7,x8⟩:=I.o.box.cells;obtain⟨y0,y1⟩:=I.o.fr.cells;obtain⟨z0,z1,z2,z3,z4,z5,z6,z7,z8⟩:=I.o.res.cells;have a:=I.o.res.thaw;have g0:=a 0;have g1:=a 1;have g2:=a 2;have X:=a 3;have Y:=a 4;have g5:=a 5;have g6:=a 6;have g7:=a 7;have g8:=a 8;have l2:=I.o.res.lt;clear a;go_wp2;refine As (v:=Af #[rm d (Aa fa A fc) (Aa oa on oc) (Aa B u C) (Aa D y tc),Ad false]) ?_ rfl ⟨_,rfl,?_⟩
 ·simp[AH,Tryz.f113];go_simp
 ·exact Zai I.o.bel (RB.o _ I.o.bel) (Zae _ _ _ _ _ _ _ _ _ _ _)
theorem Zkk{k m:Option Addr}{l:Nat}(hZ:∀i,Z i->i<w.heap.size)(h1:LG encF Z w fa j fc d.files)(h2:LG encO Z w oa on oc st.objs)(h3:LG encN Z w k c l st.refs)(h4:LG encN Z w m f tc st.tags)(ae:st.size<=1000000)(body:Bs)(S:body.length<=1000000)(F:¬oid 1 body=0)(G:st.has 1 (oid 1 body)=false):
  At Am 113 #[rm d (Aa fa j fc) (Aa oa on oc) (Aa k c l) (Aa m f tc),Ag #[Ab Ak 1,tx body]] w λ e w'=>∃m',e=Aj (Af #[m',Ad (st.fits (1,body))])/\Hid (RMS Z w' m' (if st.fits (1,body)then st.take (1,body)else st) d/\An w.heap.size w w'):=by
 have hq:st.objs.length<=1000000/\st.refs.length<=1000000/\st.tags.length<=1000000:=by unfold St.size at ae;omega
 have ho:on<=1000000:=by rw[<- h2.len];exact hq.1
 have ag:c<=1000000:=by rw[<- h3.len];exact hq.2.1
 have ah:f<=1000000:=by rw[<- h4.len];exact hq.2.2
 obtain⟨s,hs⟩:∃s:ByteArray,s=⟨body.toArray⟩:=⟨_,rfl⟩
 have r:s.size=body.length:=by rw[hs];show body.toArray.size=_;simp
 obtain⟨g,hg⟩:=Xa (st.fits (1,body))
 obtain⟨E,n⟩:=Xa ((if st.fits (1,body)then st.take (1,body)else st))
 rw[n,hg,show tx body=Ae s by rw[hs]]
 obtain⟨W,hW⟩:=Xa (((w.alloc (nineC d (Aa fa j fc) (Aa oa on oc) (Aa k c l) (Aa m f tc))).alloc (Ai #[Ab Ak 1,Ae s] 224)).alloc (Ai #[Aa none 0 0,Ab Ak 0,Ad false,Ad false,Ab Ak 0,Ab Ak 0,Aa none 0 0,Aa none 0 0,Aa none 0 0] 33))
 have P0:Hid (Tri w W d (Aa fa j fc) (Aa oa on oc) (Aa k c l) (Aa m f tc) 1 s):=by rw[<- hW];exact Tri.new w d _ _ _ _ _ _
 have zx:∀i,i<w.heap.size->Zx Z w i->Z i:=λ i hi q=>q.elim (λ q=>q) (λ q=>by omega)
 have L:Hid (LG encF (Zx Z w) w fa j fc d.files/\LG encO (Zx Z w) w oa on oc st.objs/\LG encN (Zx Z w) w k c l st.refs/\LG encN (Zx Z w) w m f tc st.tags):=⟨h1.into zx,h2.into zx,h3.into zx,h4.into zx⟩
 have RB:Hid (∀W',An w.heap.size w W'->RMS (Zx Z w) W' (rm d (Aa fa j fc) (Aa oa on oc) (Aa k c l) (Aa m f tc)) st d):=λ W' b=>⟨fa,j,fc,oa,on,oc,k,c,l,m,f,tc,rfl,L.o.1.below b,L.o.2.1.below b,L.o.2.2.1.below b,L.o.2.2.2.below b⟩
 have HZ:Hid (∀i,Zx Z w i->i<w.heap.size+3):=λ i q=>q.elim (λ q=>by have:=hZ i q;omega) (λ q=>q.2)
 have J:Hid (s=⟨body.toArray⟩/\(if st.fits (1,body)then st.take (1,body)else st)=E/\st.fits (1,body)=g/\s.size=body.length):=⟨hs,n,hg,r⟩
 have falls:g=false->E=st:=λ q=>by rw[<- J.o.2.1,J.o.2.2.1,q];rfl
 have B:g=true->E={ st with objs:=st.objs++[⟨1,oid 1 body,body⟩] }:=λ q=>by rw[<- J.o.2.1,J.o.2.2.1,q,AE rfl];unfold St.take;rw[Aw (by show ¬(1:Int)=4;omega),Aw (by show ¬(1:Int)=5;omega)]
 have hf:(st.right (1,body)&&!(decide (oid 1 body=0))&&!(st.has 1 (oid 1 body)))=g:=by
  rw[<- J.o.2.2.1];unfold St.fits;rw[Aw (by show ¬((1:Int)=4∨(1:Int)=5);omega)]
 obtain⟨x,hx⟩:=Xa (oid 1 body)
 rw[hx]at hf B;obtain⟨W1,cc,ad,K,ac,D,y,A⟩:=ZaU W body;rw[show tx body=Ae s by rw[J.o.1],<- r]at ad;have hid:=ZdV 1 W1 (D.at y (A (by simp only[AG];omega))) x hx;rw[<- r]at hid
 obtain⟨xi,t⟩:∃xi:Int,(x.toNat:Int)=xi:=⟨_,rfl⟩
 rw[t]at hid;have p:Hid (Tri w W1 d (Aa fa j fc) (Aa oa on oc) (Aa k c l) (Aa m f tc) 1 s):=P0.o.below K;have XI:Hid ((x.toNat:Int)=xi):=t
 have aj:¬9223372036854775807<s.size:=by omega
 rw[hx]at F G;have hh:=ZaK (d:=d) (oc:=oc) (vf:=Aa fa j fc) (vr:=Aa k c l) (vt:=Aa m f tc) (L.o.2.1.rd.below p.o.bel) L.o.2.1.len ho 1 x false G;rw[t]at hh;have u0:=ZbJ x;rw[t]at u0
 have m1:(xi==0)=false:=by
  have:=λ z=>F (u0.1 z)
  simpa using this
 have aa:st.right (1,body)=g:=by
  rw[<- hf,G];simp[F]
 have FL:Hid ((g=false->E=st)/\(g=true->E={ st with objs:=st.objs++[⟨1,x,body⟩] })/\st.right (1,body)=g):=⟨falls,B,aa⟩
 have HL:Hid (s.size=body.length):=r;have HB:Hid (body.length<=1000000):=S;clear u0 F G hf aa falls B hq;by_cases h4:s.size<=4096
 ·have t4:¬(4096:Int)<(s.size:Int):=by omega
  have af:¬4096<s.size:=by omega
  have eg:g=true:=by rw[<- FL.o.2.2];unfold St.right;rw[AE rfl];simp;have:=HL.o;omega
  have es:=FL.o.2.1 eg;subst eg es;obtain⟨v0,v1⟩:=P0.o.fr.cells;clear h1 h2 h3 h4 hs hg n zx r K ac D y A t hx S;obtain⟨V,X,Y,x3,x4,x5,x6,x7,x8⟩:=p.o.box.cells;obtain⟨H,I⟩:=p.o.fr.cells;obtain⟨z0,z1,z2,z3,z4,z5,z6,z7,z8⟩:=p.o.res.cells;have a:=p.o.res.thaw;have g0:=a 0;have g1:=a 1;have g2:=a 2;have M:=a 3;have N:=a 4;have O:=a 5;have P:=a 6;have Q:=a 7;have R:=a 8;have T:=p.o.res.lt;clear a;go_enter func113,ntmps113;go_wp2_with fail;refine hid.mono ?_;rintro e w1 ⟨rfl,C⟩;rw[C];clear C w1 hid;go_wp2_with fail;refine hh.mono ?_;rintro e w2 ⟨rfl,B2⟩;have h:Hid (Tri w w2 d (Aa fa j fc) (Aa oa on oc) (Aa k c l) (Aa m f tc) 1 s):=p.o.below B2;clear B2 hh;clear V X Y x3 x4 x5 x6 x7 x8 H I z0 z1 z2 z3 z4 z5 z6 z7 z8 g0 g1 g2 M N O P Q R T;obtain⟨V,X,Y,x3,x4,x5,x6,x7,x8⟩:=h.o.box.cells;obtain⟨H,I⟩:=h.o.fr.cells;obtain⟨z0,z1,z2,z3,z4,z5,z6,z7,z8⟩:=h.o.res.cells;have a:=h.o.res.thaw;have g0:=a 0;have g1:=a 1;have g2:=a 2;have M:=a 3;have N:=a 4;have O:=a 5;have P:=a 6;have Q:=a 7;have R:=a 8;have T:=h.o.res.lt;clear a
  go_wp2_with(first
   | (at_builtin;refine Za7 encO 187 30 32 _ rfl Tryz.info187 underlying30 rfl (.tmp 159) (.tmp 161) rfl (w.heap.size+3) _ [] st.objs oa on oc rfl (OwnG.nil _ _ _ _) rfl (L.o.2.1.rd.below h.o.bel) L.o.2.1.len (by simp;omega) (by simp only[AG];simp;omega) h.o.size ?_;intro v8 w8 o8 b8 m8 t8;have P8:Hid (Tri w w8 d (Aa fa j fc) (Aa oa on oc) (Aa k c l) (Aa m f tc) 1 s/\OwnG encO 187 w8 (w.heap.size+3) v8 st.objs):=⟨Ze4 h.o b8,by simpa using o8⟩;clear o8 b8 m8 t8;clear V X Y x3 x4 x5 x6 x7 x8 H I z0 z1 z2 z3 z4 z5 z6 z7 z8 g0 g1 g2 M N O P Q R T;obtain⟨H,I⟩:=P8.o.1.fr.cells)
   | (at_builtin;refine Zag encO 187 30 32 _ rfl Tryz.info187 underlying30 rfl (.tmp 163) (.tmp 170) rfl (w.heap.size+3) _ st.objs ⟨1,x,body⟩ 187 rfl P8.o.2 rfl (by rw[L.o.2.1.len];omega) (by rw[L.o.2.1.len];simp only[AG];omega) P8.o.1.size _ (by rw[<- XI.o,J.o.1];rfl) ?_;intro v9 w9 o9 b9 m9 t9;obtain⟨a9,c9,e9,U⟩:=LG.ofOwn (Z:=Zx Z w) o9 HZ.o;obtain⟨n9,ab⟩:=Xa ((st.objs++[(⟨1,x,body⟩:Ob)]).length);rw[ab]at e9 U;subst e9;have u:Hid (Tri w w9 d (Aa fa j fc) (Aa oa on oc) (Aa k c l) (Aa m f tc) 1 s/\LG encO (Zx Z w) w9 a9 n9 c9 (st.objs++[⟨1,x,body⟩])):=⟨Ze4 P8.o.1 b9,U⟩;clear o9 b9 m9 t9 U ab;clear H I;obtain⟨V,X,Y,x3,x4,x5,x6,x7,x8⟩:=u.o.1.box.cells;obtain⟨z0,z1,z2,z3,z4,z5,z6,z7,z8⟩:=u.o.1.res.cells;have a:=u.o.1.res.thaw;have g0:=a 0;have g1:=a 1;have g2:=a 2;have M:=a 3;have N:=a 4;have O:=a 5;have P:=a 6;have Q:=a 7;have R:=a 8;have T:=u.o.1.res.lt;have f6:=u.o.1.box.thaw 6;have l0:=u.o.1.box.lt;have ai:w.heap.size≠w.heap.size+2:=(by omega);clear a))
  go_wp2;refine As (v:=Af #[rm d (Aa fa j fc) (Aa a9 n9 c9) (Aa k c l) (Aa m f tc),Ad true]) ?_ rfl ⟨_,rfl,?_⟩
  ·simp[AH,Tryz.f113];go_simp
  ·exact Za0 u.o.1.bel (⟨fa,j,fc,a9,n9,c9,k,c,l,m,f,tc,rfl,L.o.1.below u.o.1.bel,u.o.2,L.o.2.2.1.below u.o.1.bel,L.o.2.2.2.below u.o.1.bel⟩) rfl (Zae _ _ _ _ _ _ _ _ _ _ _)
 ·have t4:(4096:Int)<(s.size:Int):=by omega
  have af:4096<s.size:=by omega
  have eg:g=false:=by rw[<- FL.o.2.2];unfold St.right;rw[AE rfl];simp;have:=HL.o;omega
  have es:=FL.o.1 eg;subst eg es;obtain⟨v0,v1⟩:=P0.o.fr.cells;clear h1 h2 h3 h4 hs hg n zx r K ac D y A t hx S;obtain⟨V,X,Y,x3,x4,x5,x6,x7,x8⟩:=p.o.box.cells;obtain⟨H,I⟩:=p.o.fr.cells;obtain⟨z0,z1,z2,z3,z4,z5,z6,z7,z8⟩:=p.o.res.cells;have a:=p.o.res.thaw;have g0:=a 0;have g1:=a 1;have g2:=a 2;have M:=a 3;have N:=a 4;have O:=a 5;have P:=a 6;have Q:=a 7;have R:=a 8;have T:=p.o.res.lt;clear a;go_enter func113,ntmps113;go_wp2_with fail;refine hid.mono ?_;rintro e w1 ⟨rfl,C⟩;rw[C];clear C w1 hid;go_wp2_with fail;refine hh.mono ?_;rintro e w2 ⟨rfl,B2⟩;have h:Hid (Tri w w2 d (Aa fa j fc) (Aa oa on oc) (Aa k c l) (Aa m f tc) 1 s):=p.o.below B2;clear B2 hh;clear V X Y x3 x4 x5 x6 x7 x8 H I z0 z1 z2 z3 z4 z5 z6 z7 z8 g0 g1 g2 M N O P Q R T;obtain⟨V,X,Y,x3,x4,x5,x6,x7,x8⟩:=h.o.box.cells;obtain⟨H,I⟩:=h.o.fr.cells;obtain⟨z0,z1,z2,z3,z4,z5,z6,z7,z8⟩:=h.o.res.cells;have a:=h.o.res.thaw;have g0:=a 0;have g1:=a 1;have g2:=a 2;have M:=a 3;have N:=a 4;have O:=a 5;have P:=a 6;have Q:=a 7;have R:=a 8;have T:=h.o.res.lt;clear a;go_wp2;refine As (v:=Af #[rm d (Aa fa j fc) (Aa oa on oc) (Aa k c l) (Aa m f tc),Ad false]) ?_ rfl ⟨_,rfl,?_⟩
  ·simp[AH,Tryz.f113];go_simp
  ·exact Zai h.o.bel (RB.o _ h.o.bel) (Zae _ _ _ _ _ _ _ _ _ _ _)
theorem Zj0{j l:Option Addr}{k:Nat}(hZ:∀i,Z i->i<w.heap.size)(h1:LG encF Z w fa h fc d.files)(h2:LG encO Z w oa on oc st.objs)(h3:LG encN Z w j c k st.refs)(h4:LG encN Z w l f tc st.tags)(am:st.size<=1000000)(body:Bs)(p:body.length<=1000000)(C:¬oid 2 body=0)(D:st.has 2 (oid 2 body)=false):
  At Am 113 #[rm d (Aa fa h fc) (Aa oa on oc) (Aa j c k) (Aa l f tc),Ag #[Ab Ak 2,tx body]] w λ e w'=>∃m',e=Aj (Af #[m',Ad (st.fits (2,body))])/\Hid (RMS Z w' m' (if st.fits (2,body)then st.take (2,body)else st) d/\An w.heap.size w w'):=by
 have hq:st.objs.length<=1000000/\st.refs.length<=1000000/\st.tags.length<=1000000:=by unfold St.size at am;omega
 have ho:on<=1000000:=by rw[<- h2.len];exact hq.1
 have ao:c<=1000000:=by rw[<- h3.len];exact hq.2.1
 have ap:f<=1000000:=by rw[<- h4.len];exact hq.2.2
 obtain⟨s,hs⟩:∃s:ByteArray,s=⟨body.toArray⟩:=⟨_,rfl⟩
 have r:s.size=body.length:=by rw[hs];show body.toArray.size=_;simp
 obtain⟨g,hg⟩:=Xa (st.fits (2,body))
 obtain⟨y,t⟩:=Xa ((if st.fits (2,body)then st.take (2,body)else st))
 rw[t,hg,show tx body=Ae s by rw[hs]]
 obtain⟨W,hW⟩:=Xa (((w.alloc (nineC d (Aa fa h fc) (Aa oa on oc) (Aa j c k) (Aa l f tc))).alloc (Ai #[Ab Ak 2,Ae s] 224)).alloc (Ai #[Aa none 0 0,Ab Ak 0,Ad false,Ad false,Ab Ak 0,Ab Ak 0,Aa none 0 0,Aa none 0 0,Aa none 0 0] 33))
 have P0:Hid (Tri w W d (Aa fa h fc) (Aa oa on oc) (Aa j c k) (Aa l f tc) 2 s):=by rw[<- hW];exact Tri.new w d _ _ _ _ _ _
 have zx:∀i,i<w.heap.size->Zx Z w i->Z i:=λ i hi q=>q.elim (λ q=>q) (λ q=>by omega)
 have L:Hid (LG encF (Zx Z w) w fa h fc d.files/\LG encO (Zx Z w) w oa on oc st.objs/\LG encN (Zx Z w) w j c k st.refs/\LG encN (Zx Z w) w l f tc st.tags):=⟨h1.into zx,h2.into zx,h3.into zx,h4.into zx⟩
 have RB:Hid (∀W',An w.heap.size w W'->RMS (Zx Z w) W' (rm d (Aa fa h fc) (Aa oa on oc) (Aa j c k) (Aa l f tc)) st d):=λ W' b=>⟨fa,h,fc,oa,on,oc,j,c,k,l,f,tc,rfl,L.o.1.below b,L.o.2.1.below b,L.o.2.2.1.below b,L.o.2.2.2.below b⟩
 have HZ:Hid (∀i,Zx Z w i->i<w.heap.size+3):=λ i q=>q.elim (λ q=>by have:=hZ i q;omega) (λ q=>q.2)
 have G:Hid (s=⟨body.toArray⟩/\(if st.fits (2,body)then st.take (2,body)else st)=y/\st.fits (2,body)=g/\s.size=body.length):=⟨hs,t,hg,r⟩
 have falls:g=false->y=st:=λ q=>by rw[<- G.o.2.1,G.o.2.2.1,q];rfl
 have n:g=true->y={ st with objs:=st.objs++[⟨2,oid 2 body,body⟩] }:=λ q=>by rw[<- G.o.2.1,G.o.2.2.1,q,AE rfl];unfold St.take;rw[Aw (by show ¬(2:Int)=4;omega),Aw (by show ¬(2:Int)=5;omega)]
 have hf:(st.right (2,body)&&!(decide (oid 2 body=0))&&!(st.has 2 (oid 2 body)))=g:=by
  rw[<- G.o.2.2.1];unfold St.fits;rw[Aw (by show ¬((2:Int)=4∨(2:Int)=5);omega)]
 obtain⟨x,hx⟩:=Xa (oid 2 body)
 rw[hx]at hf n;obtain⟨W1,cc,al,ae,an,R,H,I⟩:=ZaU W body;rw[show tx body=Ae s by rw[G.o.1],<- r]at al;have hid:=ZdV 2 W1 (R.at H (I (by simp only[AG];omega))) x hx;rw[<- r]at hid
 obtain⟨xi,u⟩:∃xi:Int,(x.toNat:Int)=xi:=⟨_,rfl⟩
 rw[u]at hid;have P1:Hid (Tri w W1 d (Aa fa h fc) (Aa oa on oc) (Aa j c k) (Aa l f tc) 2 s):=P0.o.below ae;have XI:Hid ((x.toNat:Int)=xi):=u
 have ar:¬9223372036854775807<s.size:=by omega
 rw[hx]at C D;have hh:=ZaK (d:=d) (oc:=oc) (vf:=Aa fa h fc) (vr:=Aa j c k) (vt:=Aa l f tc) (L.o.2.1.rd.below P1.o.bel) L.o.2.1.len ho 2 x false D;rw[u]at hh;have u0:=ZbJ x;rw[u]at u0
 have m1:(xi==0)=false:=by
  have:=λ z=>C (u0.1 z)
  simpa using this
 have af:st.right (2,body)=g:=by
  rw[<- hf,D];simp[C]
 have FL:Hid ((g=false->y=st)/\(g=true->y={ st with objs:=st.objs++[⟨2,x,body⟩] })/\st.right (2,body)=g):=⟨falls,n,af⟩
 have HL:Hid (s.size=body.length):=r;have HB:Hid (body.length<=1000000):=p;clear u0 C D hf af falls n hq;obtain⟨v0,v1⟩:=P0.o.fr.cells;clear h1 h2 h3 h4 hs hg t zx r ae an R H I u hx p;obtain⟨S,T,U,V,X,Y,x6,x7,x8⟩:=P1.o.box.cells;obtain⟨E,F⟩:=P1.o.fr.cells;obtain⟨z0,z1,z2,z3,z4,z5,z6,z7,z8⟩:=P1.o.res.cells;have a:=P1.o.res.thaw;have g0:=a 0;have g1:=a 1;have g2:=a 2;have J:=a 3;have K:=a 4;have M:=a 5;have N:=a 6;have O:=a 7;have P:=a 8;have Q:=P1.o.res.lt;clear a;go_enter func113,ntmps113;go_wp2_with fail;refine hid.mono ?_;rintro e w1 ⟨rfl,aj⟩;rw[aj];clear aj w1 hid
 have ab:=λ W'=>ZcB body HB.o W'
 rw[show tx body=Ae s by rw[G.o.1]]at ab;have ad:Hid (∀W',At Am 159 #[Ae s] W' λ e w'=>∃es er v,e=Aj (Af #[v,Ab Ak er])/\Hid (RT body es er/\OwnG encE 233 w' W'.heap.size v es/\An W'.heap.size W' w')):=ab;clear ab;go_wp2_with fail;refine hh.mono ?_;rintro e w2 ⟨rfl,B2⟩;have P2:Hid (Tri w w2 d (Aa fa h fc) (Aa oa on oc) (Aa j c k) (Aa l f tc) 2 s):=P1.o.below B2;clear B2 hh;clear S T U V X Y x6 x7 x8 E F z0 z1 z2 z3 z4 z5 z6 z7 z8 g0 g1 g2 J K M N O P Q;obtain⟨S,T,U,V,X,Y,x6,x7,x8⟩:=P2.o.box.cells;obtain⟨E,F⟩:=P2.o.fr.cells;obtain⟨z0,z1,z2,z3,z4,z5,z6,z7,z8⟩:=P2.o.res.cells;have a:=P2.o.res.thaw;have g0:=a 0;have g1:=a 1;have g2:=a 2;have J:=a 3;have K:=a 4;have M:=a 5;have N:=a 6;have O:=a 7;have P:=a 8;have Q:=P2.o.res.lt;clear a;go_wp2_with fail;refine(ad.o w2).mono ?_;rintro e w3 ⟨es,er,v3,rfl,R3⟩;have B:Hid (Tri w w3 d (Aa fa h fc) (Aa oa on oc) (Aa j c k) (Aa l f tc) 2 s):=P2.o.below R3.o.2.2;clear ad;clear S T U V X Y x6 x7 x8 E F z0 z1 z2 z3 z4 z5 z6 z7 z8 g0 g1 g2 J K M N O P Q;obtain⟨S,T,U,V,X,Y,x6,x7,x8⟩:=B.o.box.cells;obtain⟨E,F⟩:=B.o.fr.cells;obtain⟨z0,z1,z2,z3,z4,z5,z6,z7,z8⟩:=B.o.res.cells;have a:=B.o.res.thaw;have g0:=a 0;have g1:=a 1;have g2:=a 2;have J:=a 3;have K:=a 4;have M:=a 5;have N:=a 6;have O:=a 7;have P:=a 8;have Q:=B.o.res.lt;clear a
 rcases R3.o.1.rd with⟨rfl,hr⟩ | ⟨rfl,rfl,hr⟩
 ·have ah:st.right (2,body)=st.blobs es:=by unfold St.right;rw[Aw (by show ¬(2:Int)=1;omega),AE rfl];simp only[hr]
  obtain⟨a3,c3,ai,_,_,r3,_⟩:=OwnG.form R3.o.2.1;have ak:=(ZaS (ZaX hr).1).1
  obtain⟨en,aa⟩:=Xa es.length
  have p:=Ze5 (d:=d) (oc:=oc) (vf:=Aa fa h fc) (vr:=Aa j c k) (vt:=Aa l f tc) (ec:=c3) (L.o.2.1.rd.below B.o.bel) L.o.2.1.len ho r3 aa (by omega) g (by rw[<- ah];exact FL.o.2.2);rw[aa]at ai;subst ai;clear ah r3 ak aa hr R3;go_wp2_with fail;refine p.mono ?_;rintro e w4 ⟨rfl,B4⟩;have A:Hid (Tri w w4 d (Aa fa h fc) (Aa oa on oc) (Aa j c k) (Aa l f tc) 2 s):=B.o.below B4;clear B4 p;clear S T U V X Y x6 x7 x8 E F z0 z1 z2 z3 z4 z5 z6 z7 z8 g0 g1 g2 J K M N O P Q;obtain⟨S,T,U,V,X,Y,x6,x7,x8⟩:=A.o.box.cells;obtain⟨E,F⟩:=A.o.fr.cells;obtain⟨z0,z1,z2,z3,z4,z5,z6,z7,z8⟩:=A.o.res.cells;have a:=A.o.res.thaw;have g0:=a 0;have g1:=a 1;have g2:=a 2;have J:=a 3;have K:=a 4;have M:=a 5;have N:=a 6;have O:=a 7;have P:=a 8;have Q:=A.o.res.lt;clear a
  cases g with
  | false =>
   have es:=FL.o.1 rfl;subst es;go_wp2;refine As (v:=Af #[rm d (Aa fa h fc) (Aa oa on oc) (Aa j c k) (Aa l f tc),Ad false]) ?_ rfl ⟨_,rfl,?_⟩
   ·simp[AH,Tryz.f113];go_simp
   ·exact Zai A.o.bel (RB.o _ A.o.bel) (Zae _ _ _ _ _ _ _ _ _ _ _)
  | true =>
   have es:=FL.o.2.1 rfl;subst es
   go_wp2_with(first
    | (at_builtin;refine Za7 encO 187 30 32 _ rfl Tryz.info187 underlying30 rfl (.tmp 159) (.tmp 161) rfl (w.heap.size+3) _ [] st.objs oa on oc rfl (OwnG.nil _ _ _ _) rfl (L.o.2.1.rd.below A.o.bel) L.o.2.1.len (by simp;omega) (by simp only[AG];simp;omega) A.o.size ?_;intro v8 w8 o8 b8 m8 t8;have P8:Hid (Tri w w8 d (Aa fa h fc) (Aa oa on oc) (Aa j c k) (Aa l f tc) 2 s/\OwnG encO 187 w8 (w.heap.size+3) v8 st.objs):=⟨Ze4 A.o b8,by simpa using o8⟩;clear o8 b8 m8 t8;clear S T U V X Y x6 x7 x8 E F z0 z1 z2 z3 z4 z5 z6 z7 z8 g0 g1 g2 J K M N O P Q;obtain⟨E,F⟩:=P8.o.1.fr.cells)
    | (at_builtin;refine Zag encO 187 30 32 _ rfl Tryz.info187 underlying30 rfl (.tmp 163) (.tmp 170) rfl (w.heap.size+3) _ st.objs ⟨2,x,body⟩ 187 rfl P8.o.2 rfl (by rw[L.o.2.1.len];omega) (by rw[L.o.2.1.len];simp only[AG];omega) P8.o.1.size _ (by rw[<- XI.o,G.o.1];rfl) ?_;intro v9 w9 o9 b9 m9 t9;obtain⟨a9,c9,e9,ac⟩:=LG.ofOwn (Z:=Zx Z w) o9 HZ.o;obtain⟨n9,ag⟩:=Xa ((st.objs++[(⟨2,x,body⟩:Ob)]).length);rw[ag]at e9 ac;subst e9;have m:Hid (Tri w w9 d (Aa fa h fc) (Aa oa on oc) (Aa j c k) (Aa l f tc) 2 s/\LG encO (Zx Z w) w9 a9 n9 c9 (st.objs++[⟨2,x,body⟩])):=⟨Ze4 P8.o.1 b9,ac⟩;clear o9 b9 m9 t9 ac ag;clear E F;obtain⟨S,T,U,V,X,Y,x6,x7,x8⟩:=m.o.1.box.cells;obtain⟨z0,z1,z2,z3,z4,z5,z6,z7,z8⟩:=m.o.1.res.cells;have a:=m.o.1.res.thaw;have g0:=a 0;have g1:=a 1;have g2:=a 2;have J:=a 3;have K:=a 4;have M:=a 5;have N:=a 6;have O:=a 7;have P:=a 8;have Q:=m.o.1.res.lt;have f6:=m.o.1.box.thaw 6;have l0:=m.o.1.box.lt;have aq:w.heap.size≠w.heap.size+2:=(by omega);clear a))
   go_wp2;refine As (v:=Af #[rm d (Aa fa h fc) (Aa a9 n9 c9) (Aa j c k) (Aa l f tc),Ad true]) ?_ rfl ⟨_,rfl,?_⟩
   ·simp[AH,Tryz.f113];go_simp
   ·exact Za0 m.o.1.bel (⟨fa,h,fc,a9,n9,c9,j,c,k,l,f,tc,rfl,L.o.1.below m.o.1.bel,m.o.2,L.o.2.2.1.below m.o.1.bel,L.o.2.2.2.below m.o.1.bel⟩) rfl (Zae _ _ _ _ _ _ _ _ _ _ _)
 ·have eg:g=false:=by rw[<- FL.o.2.2];unfold St.right;rw[Aw (by show ¬(2:Int)=1;omega),AE rfl];simp only[hr]
  have es:=FL.o.1 eg;subst eg es;clear hr R3;go_wp2;refine As (v:=Af #[rm d (Aa fa h fc) (Aa oa on oc) (Aa j c k) (Aa l f tc),Ad false]) ?_ rfl ⟨_,rfl,?_⟩
  ·simp[AH,Tryz.f113];go_simp
  ·exact Zai B.o.bel (RB.o _ B.o.bel) (Zae _ _ _ _ _ _ _ _ _ _ _)
end Go.Proofs.YtlojblelpaegpaaGreat
