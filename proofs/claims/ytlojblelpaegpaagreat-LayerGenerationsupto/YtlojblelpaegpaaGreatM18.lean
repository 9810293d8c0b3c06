/-
  Several texts, laid together.
-/
import Derived.Test.YtlojblelpaegpaaGreatM17
set_option maxHeartbeats 6400000
set_option maxRecDepth 100000
open Go renaming World->Ap,Calls->At,maxLen->AG,bodyPost_ret->As,results->AH,results_tmp2->AA,Value->Ar
open Go.RowKit renaming Below->An
open Go.IntKind renaming u64->Al,wrap_u64->Bh,i64->Ak
open Go.Value renaming slice->Aa,int->Ab,bool->Ad,string->Ae,tuple->Af,agg->Ag
open Go.Obj renaming cells->Ai
open Go.Ending renaming returned->Aj
open Go.Proofs.Tryz renaming prog->Am
open Go.Proofs.Tryz
namespace Go.Proofs.YtlojblelpaegpaaGreat
open Go.RowKit
variable{W W' w:Ap}{Z:Nat->Prop}{d:Dk}{dt:Int}{es:List En}{m vf vo vr vt:Ar}{nt:ByteArray}{st:St}
theorem ZkN{fa oa k m:Option Addr}{j fc on oc f l h tc:Nat}(hZ:∀i,Z i->i<w.heap.size)(h1:LG encF Z w fa j fc d.files)(h2:LG encO Z w oa on oc st.objs)(h3:LG encN Z w k f l st.refs)(h4:LG encN Z w m h tc st.tags)(ap:st.size<=1000000)(body:Bs)(ai:body.length<=1000000)(C:¬oid 3 body=0)(D:st.has 3 (oid 3 body)=false):
  At Am 113 #[rm d (Aa fa j fc) (Aa oa on oc) (Aa k f l) (Aa m h tc),Ag #[Ab Ak 3,tx body]] w λ e w'=>∃m',e=Aj (Af #[m',Ad (st.fits (3,body))])/\Hid (RMS Z w' m' (if st.fits (3,body)then st.take (3,body)else st) d/\An w.heap.size w w'):=by
 have hq:st.objs.length<=1000000/\st.refs.length<=1000000/\st.tags.length<=1000000:=by unfold St.size at ap;omega
 have ho:on<=1000000:=by rw[<- h2.len];exact hq.1
 have ar:f<=1000000:=by rw[<- h3.len];exact hq.2.1
 have au:h<=1000000:=by rw[<- h4.len];exact hq.2.2
 obtain⟨s,hs⟩:∃s:ByteArray,s=⟨body.toArray⟩:=⟨_,rfl⟩
 have t:s.size=body.length:=by rw[hs];show body.toArray.size=_;simp
 obtain⟨g,hg⟩:=Xa (st.fits (3,body))
 obtain⟨A,u⟩:=Xa ((if st.fits (3,body)then st.take (3,body)else st))
 rw[u,hg,show tx body=Ae s by rw[hs]]
 obtain⟨W,hW⟩:=Xa (((w.alloc (nineC d (Aa fa j fc) (Aa oa on oc) (Aa k f l) (Aa m h tc))).alloc (Ai #[Ab Ak 3,Ae s] 224)).alloc (Ai #[Aa none 0 0,Ab Ak 0,Ad false,Ad false,Ab Ak 0,Ab Ak 0,Aa none 0 0,Aa none 0 0,Aa none 0 0] 33))
 have P0:Hid (Tri w W d (Aa fa j fc) (Aa oa on oc) (Aa k f l) (Aa m h tc) 3 s):=by rw[<- hW];exact Tri.new w d _ _ _ _ _ _
 have zx:∀i,i<w.heap.size->Zx Z w i->Z i:=λ i hi q=>q.elim (λ q=>q) (λ q=>by omega)
 have L:Hid (LG encF (Zx Z w) w fa j fc d.files/\LG encO (Zx Z w) w oa on oc st.objs/\LG encN (Zx Z w) w k f l st.refs/\LG encN (Zx Z w) w m h tc st.tags):=⟨h1.into zx,h2.into zx,h3.into zx,h4.into zx⟩
 have RB:Hid (∀W',An w.heap.size w W'->RMS (Zx Z w) W' (rm d (Aa fa j fc) (Aa oa on oc) (Aa k f l) (Aa m h tc)) st d):=λ W' b=>⟨fa,j,fc,oa,on,oc,k,f,l,m,h,tc,rfl,L.o.1.below b,L.o.2.1.below b,L.o.2.2.1.below b,L.o.2.2.2.below b⟩
 have HZ:Hid (∀i,Zx Z w i->i<w.heap.size+3):=λ i q=>q.elim (λ q=>by have:=hZ i q;omega) (λ q=>q.2)
 have H:Hid (s=⟨body.toArray⟩/\(if st.fits (3,body)then st.take (3,body)else st)=A/\st.fits (3,body)=g/\s.size=body.length):=⟨hs,u,hg,t⟩
 have falls:g=false->A=st:=λ q=>by rw[<- H.o.2.1,H.o.2.2.1,q];rfl
 have r:g=true->A={ st with objs:=st.objs++[⟨3,oid 3 body,body⟩] }:=λ q=>by rw[<- H.o.2.1,H.o.2.2.1,q,AE rfl];unfold St.take;rw[Aw (by show ¬(3:Int)=4;omega),Aw (by show ¬(3:Int)=5;omega)]
 have hf:(st.right (3,body)&&!(decide (oid 3 body=0))&&!(st.has 3 (oid 3 body)))=g:=by
  rw[<- H.o.2.2.1];unfold St.fits;rw[Aw (by show ¬((3:Int)=4∨(3:Int)=5);omega)]
 obtain⟨x,hx⟩:=Xa (oid 3 body)
 rw[hx]at hf r;obtain⟨W1,cc,ao,ag,aq,T,J,K⟩:=ZaU W body;rw[show tx body=Ae s by rw[H.o.1],<- t]at ao;have hid:=ZdV 3 W1 (T.at J (K (by simp only[AG];omega))) x hx;rw[<- t]at hid
 obtain⟨xi,y⟩:∃xi:Int,(x.toNat:Int)=xi:=⟨_,rfl⟩
 rw[y]at hid;have P1:Hid (Tri w W1 d (Aa fa j fc) (Aa oa on oc) (Aa k f l) (Aa m h tc) 3 s):=P0.o.below ag;have XI:Hid ((x.toNat:Int)=xi):=y
 have aw:¬9223372036854775807<s.size:=by omega
 rw[hx]at C D;have hh:=ZaK (d:=d) (oc:=oc) (vf:=Aa fa j fc) (vr:=Aa k f l) (vt:=Aa m h tc) (L.o.2.1.rd.below P1.o.bel) L.o.2.1.len ho 3 x false D;rw[y]at hh;have u0:=ZbJ x;rw[y]at u0
 have m1:(xi==0)=false:=by
  have:=λ z=>C (u0.1 z)
  simpa using this
 have aj:st.right (3,body)=g:=by
  rw[<- hf,D];simp[C]
 have FL:Hid ((g=false->A=st)/\(g=true->A={ st with objs:=st.objs++[⟨3,x,body⟩] })/\st.right (3,body)=g):=⟨falls,r,aj⟩
 have HL:Hid (s.size=body.length):=t;have HB:Hid (body.length<=1000000):=ai;clear u0 C D hf aj falls r hq;obtain⟨v0,v1⟩:=P0.o.fr.cells;clear h1 h2 h3 h4 hs hg u zx t ag aq T J K y hx ai;obtain⟨U,V,X,Y,x4,x5,x6,x7,x8⟩:=P1.o.box.cells;obtain⟨F,G⟩:=P1.o.fr.cells;obtain⟨z0,z1,z2,z3,z4,z5,z6,z7,z8⟩:=P1.o.res.cells;have a:=P1.o.res.thaw;have g0:=a 0;have g1:=a 1;have g2:=a 2;have M:=a 3;have N:=a 4;have O:=a 5;have P:=a 6;have Q:=a 7;have R:=a 8;have S:=P1.o.res.lt;clear a;go_enter func113,ntmps113;go_wp2_with fail;refine hid.mono ?_;rintro e w1 ⟨rfl,am⟩;rw[am];clear am w1 hid
 have ac:=λ W'=>Zb1 body (by have:=HB.o;omega) W'
 rw[show tx body=Ae s by rw[H.o.1]]at ac;have af:Hid (∀W',At Am 93 #[Ae s] W' λ e w'=>∃(c:Cm) (er:Int) (pa:Option Addr) (pc:Nat),e=Aj (Af #[Ag #[Ab Al (c.tree.toNat:Int),Aa pa c.ps.length pc,Ab Ak c.date,tx c.note],Ab Ak er])/\Hid (RC body c er/\RdG encU w' pa c.ps/\c.ps.length<=pc/\An W'.heap.size W' w'/\ZaM W' pa c.ps.length)):=ac;clear ac;go_wp2_with fail;refine hh.mono ?_;rintro e w2 ⟨rfl,B2⟩;have P2:Hid (Tri w w2 d (Aa fa j fc) (Aa oa on oc) (Aa k f l) (Aa m h tc) 3 s):=P1.o.below B2;clear B2 hh;clear U V X Y x4 x5 x6 x7 x8 F G z0 z1 z2 z3 z4 z5 z6 z7 z8 g0 g1 g2 M N O P Q R S;obtain⟨U,V,X,Y,x4,x5,x6,x7,x8⟩:=P2.o.box.cells;obtain⟨F,G⟩:=P2.o.fr.cells;obtain⟨z0,z1,z2,z3,z4,z5,z6,z7,z8⟩:=P2.o.res.cells;have a:=P2.o.res.thaw;have g0:=a 0;have g1:=a 1;have g2:=a 2;have M:=a 3;have N:=a 4;have O:=a 5;have P:=a 6;have Q:=a 7;have R:=a 8;have S:=P2.o.res.lt;clear a;go_wp2_with fail;refine(af.o w2).mono ?_;rintro e w3 ⟨cm,er,pa,pc,rfl,R3⟩;clear af
 obtain⟨pn,E⟩:=Xa cm.ps.length
 have n:=λ(W':Ap) (b3:An w3.heap.size w3 W') (hl:pn<=4000000000000000000) (q:Bool) (hq:st.above cm=q)=>ZeT (d:=d) (oc:=oc) (vf:=Aa fa j fc) (vr:=Aa k f l) (vt:=Aa m h tc) (pc:=pc) (L.o.2.1.rd.below ((P2.o.below R3.o.2.2.2.1).below b3).bel) L.o.2.1.len ho (R3.o.2.1.below b3) E hl cm.date ⟨cm.note.toArray⟩ q hq
 obtain⟨tr,ad⟩:∃tr:Int,(cm.tree.toNat:Int)=tr:=⟨_,rfl⟩
 obtain⟨dt,aa⟩:=Xa cm.date
 obtain⟨nt,ab⟩:∃nt:ByteArray,(⟨cm.note.toArray⟩:ByteArray)=nt:=⟨_,rfl⟩
 rw[ad,E,aa,show tx cm.note=Ae nt by rw[<- ab]];rw[ad,aa,ab]at n
 obtain⟨wA,an⟩:=Xa (w3.alloc (Ai #[Ab Al tr,Aa pa pn pc,Ab Ak dt,Ae nt] 101))
 have bA:An w3.heap.size w3 wA:=by rw[<- an];exact bz1 _ _
 have ah:Box4 wA w3.heap.size 101 (Ab Al tr) (Aa pa pn pc) (Ab Ak dt) (Ae nt):=by rw[<- an];exact Box4.new _ _ _ _ _ _
 obtain⟨c0,c1,c2,c3⟩:=ah.cells;have I:Hid (Tri w wA d (Aa fa j fc) (Aa oa on oc) (Aa k f l) (Aa m h tc) 3 s):=(P2.o.below R3.o.2.2.2.1).below bA;have n:=n wA bA;clear bA ah ad aa ab;clear U V X Y x4 x5 x6 x7 x8 F G z0 z1 z2 z3 z4 z5 z6 z7 z8 g0 g1 g2 M N O P Q R S;obtain⟨U,V,X,Y,x4,x5,x6,x7,x8⟩:=I.o.box.cells;obtain⟨F,G⟩:=I.o.fr.cells;obtain⟨z0,z1,z2,z3,z4,z5,z6,z7,z8⟩:=I.o.res.cells;have a:=I.o.res.thaw;have g0:=a 0;have g1:=a 1;have g2:=a 2;have M:=a 3;have N:=a 4;have O:=a 5;have P:=a 6;have Q:=a 7;have R:=a 8;have S:=I.o.res.lt;clear a
 rcases R3.o.1.rd with⟨rfl,hr⟩ | ⟨rfl,rfl,hr⟩
 ·have al:st.right (3,body)=st.above cm:=by unfold St.right;rw[Aw (by show ¬(3:Int)=1;omega),Aw (by show ¬(3:Int)=2;omega),AE rfl];simp only[hr]
  have h8:=(Zbj (Zb9 hr).1).1;have n:=n (by omega) g (by rw[<- al];exact FL.o.2.2);clear al h8 hr R3 E;go_wp2_with fail;refine n.mono ?_;rintro e w4 ⟨rfl,B4⟩;have B:Hid (Tri w w4 d (Aa fa j fc) (Aa oa on oc) (Aa k f l) (Aa m h tc) 3 s):=I.o.below B4;clear B4 n c0 c1 c2 c3;clear U V X Y x4 x5 x6 x7 x8 F G z0 z1 z2 z3 z4 z5 z6 z7 z8 g0 g1 g2 M N O P Q R S;obtain⟨U,V,X,Y,x4,x5,x6,x7,x8⟩:=B.o.box.cells;obtain⟨F,G⟩:=B.o.fr.cells;obtain⟨z0,z1,z2,z3,z4,z5,z6,z7,z8⟩:=B.o.res.cells;have a:=B.o.res.thaw;have g0:=a 0;have g1:=a 1;have g2:=a 2;have M:=a 3;have N:=a 4;have O:=a 5;have P:=a 6;have Q:=a 7;have R:=a 8;have S:=B.o.res.lt;clear a
  cases g with
  | false =>
   have es:=FL.o.1 rfl;subst es;go_wp2;refine As (v:=Af #[rm d (Aa fa j fc) (Aa oa on oc) (Aa k f l) (Aa m h tc),Ad false]) ?_ rfl ⟨_,rfl,?_⟩
   ·simp[AH,Tryz.f113];go_simp
   ·exact Zai B.o.bel (RB.o _ B.o.bel) (Zae _ _ _ _ _ _ _ _ _ _ _)
  | true =>
   have es:=FL.o.2.1 rfl;subst es
   go_wp2_with(first
    | (at_builtin;refine Za7 encO 187 30 32 _ rfl Tryz.info187 underlying30 rfl (.tmp 159) (.tmp 161) rfl (w.heap.size+3) _ [] st.objs oa on oc rfl (OwnG.nil _ _ _ _) rfl (L.o.2.1.rd.below B.o.bel) L.o.2.1.len (by simp;omega) (by simp only[AG];simp;omega) B.o.size ?_;intro v8 w8 o8 b8 m8 t8;have P8:Hid (Tri w w8 d (Aa fa j fc) (Aa oa on oc) (Aa k f l) (Aa m h tc) 3 s/\OwnG encO 187 w8 (w.heap.size+3) v8 st.objs):=⟨Ze4 B.o b8,by simpa using o8⟩;clear o8 b8 m8 t8;clear U V X Y x4 x5 x6 x7 x8 F G z0 z1 z2 z3 z4 z5 z6 z7 z8 g0 g1 g2 M N O P Q R S;obtain⟨F,G⟩:=P8.o.1.fr.cells)
    | (at_builtin;refine Zag encO 187 30 32 _ rfl Tryz.info187 underlying30 rfl (.tmp 163) (.tmp 170) rfl (w.heap.size+3) _ st.objs ⟨3,x,body⟩ 187 rfl P8.o.2 rfl (by rw[L.o.2.1.len];omega) (by rw[L.o.2.1.len];simp only[AG];omega) P8.o.1.size _ (by rw[<- XI.o,H.o.1];rfl) ?_;intro v9 w9 o9 b9 m9 t9;obtain⟨a9,c9,e9,ae⟩:=LG.ofOwn (Z:=Zx Z w) o9 HZ.o;obtain⟨n9,ak⟩:=Xa ((st.objs++[(⟨3,x,body⟩:Ob)]).length);rw[ak]at e9 ae;subst e9;have p:Hid (Tri w w9 d (Aa fa j fc) (Aa oa on oc) (Aa k f l) (Aa m h tc) 3 s/\LG encO (Zx Z w) w9 a9 n9 c9 (st.objs++[⟨3,x,body⟩])):=⟨Ze4 P8.o.1 b9,ae⟩;clear o9 b9 m9 t9 ae ak;clear F G;obtain⟨U,V,X,Y,x4,x5,x6,x7,x8⟩:=p.o.1.box.cells;obtain⟨z0,z1,z2,z3,z4,z5,z6,z7,z8⟩:=p.o.1.res.cells;have a:=p.o.1.res.thaw;have g0:=a 0;have g1:=a 1;have g2:=a 2;have M:=a 3;have N:=a 4;have O:=a 5;have P:=a 6;have Q:=a 7;have R:=a 8;have S:=p.o.1.res.lt;have f6:=p.o.1.box.thaw 6;have l0:=p.o.1.box.lt;have av:w.heap.size≠w.heap.size+2:=(by omega);clear a))
   go_wp2;refine As (v:=Af #[rm d (Aa fa j fc) (Aa a9 n9 c9) (Aa k f l) (Aa m h tc),Ad true]) ?_ rfl ⟨_,rfl,?_⟩
   ·simp[AH,Tryz.f113];go_simp
   ·exact Za0 p.o.1.bel (⟨fa,j,fc,a9,n9,c9,k,f,l,m,h,tc,rfl,L.o.1.below p.o.1.bel,p.o.2,L.o.2.2.1.below p.o.1.bel,L.o.2.2.2.below p.o.1.bel⟩) rfl (Zae _ _ _ _ _ _ _ _ _ _ _)
 ·have eg:g=false:=by rw[<- FL.o.2.2];unfold St.right;rw[Aw (by show ¬(3:Int)=1;omega),Aw (by show ¬(3:Int)=2;omega),AE rfl];simp only[hr]
  have es:=FL.o.1 eg;subst eg es;clear hr R3 E n;go_wp2;refine As (v:=Af #[rm d (Aa fa j fc) (Aa oa on oc) (Aa k f l) (Aa m h tc),Ad false]) ?_ rfl ⟨_,rfl,?_⟩
  ·simp[AH,Tryz.f113];go_simp
  ·exact Zai I.o.bel (RB.o _ I.o.bel) (Zae _ _ _ _ _ _ _ _ _ _ _)
theorem low1(n:Nat):low 1 n=[UInt8.ofNat n]:=by simp[low]
section
variable{w:World}{k:Int}{body:Bs}
theorem ZjV(h:k<0∨255<k):At Am 190 #[Ag #[Ab Ak k,tx body]] w λ e w'=>e=Aj (Af #[tx [],Ab Ak 3])/\An w.heap.size w w':=by
 by_cases a:k<0
 ·have q:decide (k<0)=true:=by simpa using a
  go_enter func190,ntmps190;go_wp2;refine As (AA rfl _ _ _) rfl ?_;exact⟨rfl,bz1 _ _⟩
 ·have q:decide (k<0)=false:=by simpa using a
  have b:decide (255<k)=true:=by simp;omega
  go_enter func190,ntmps190;go_wp2;refine As (AA rfl _ _ _) rfl ?_;exact⟨rfl,bz1 _ _⟩
theorem ZkD(b:¬k<0)(c:¬255<k)(h:8192<body.length):At Am 190 #[Ag #[Ab Ak k,tx body]] w λ e w'=>e=Aj (Af #[tx [],Ab Ak 4])/\An w.heap.size w w':=by
 have q:decide (k<0)=false:=by simpa using b
 have f:decide (255<k)=false:=by simpa using c
 obtain⟨s,a⟩:∃s:ByteArray,s=⟨body.toArray⟩:=⟨_,rfl⟩
 have e:tx body=Ae s:=by rw[a]
 have d:s.size=body.length:=by rw[a];rfl
 have g:(8192:Int)<(s.size:Int):=by omega
 rw[e];clear e a d;go_enter func190,ntmps190;go_wp2;refine As (AA rfl _ _ _) rfl ?_;exact⟨rfl,bz1 _ _⟩
theorem ZkC(Q:¬k<0)(R:¬255<k)(hn:¬8192<body.length):At Am 190 #[Ag #[Ab Ak k,tx body]] w λ e w'=>e=Aj (Af #[tx (sealB k body),Ab Ak 0])/\An w.heap.size w w':=by
 have q:decide (k<0)=false:=by simpa using Q
 have q2:decide (255<k)=false:=by simpa using R
 obtain⟨s,F⟩:∃s:ByteArray,s=⟨body.toArray⟩:=⟨_,rfl⟩
 have e:tx body=Ae s:=by rw[F]
 obtain⟨n,hz⟩:=Xa s.size
 have l:body.length=n:=by rw[<- hz,F];rfl
 have q3:decide ((8192:Int)<(n:Int))=false:=by rw[Ax];omega
 rw[e]
 obtain⟨W,U⟩:=Xa (w.alloc (Ai #[Ab Ak k,Ae s] 224))
 have L:An w.heap.size w W:=by rw[<- U];exact bz1 _ _
 have T:Box W w.heap.size 224 (Ab Ak k) (Ae s):=by rw[<- U];exact Box.new w _ _ _
 obtain⟨a,rfl⟩:∃a:Nat,k=(a:Int):=⟨k.toNat,by omega⟩
 obtain⟨x0,x1⟩:=T.cells
 have w1:Al.wrap (n:Int)=(n:Int):=by rw[Bh];omega
 have Z:Al.wrap (a:Int)=(a:Int):=by rw[Bh];omega
 obtain⟨j,h⟩:∃j:ByteArray,j=⟨(low 4 n).toArray⟩:=⟨_,rfl⟩
 obtain⟨s1,g⟩:∃s1:ByteArray,s1=⟨(low 1 a).toArray⟩:=⟨_,rfl⟩
 have z4:j.size=4:=by rw[h,low4];rfl
 have z1:s1.size=1:=by rw[g,low1];rfl
 have NE:Nonempty (SW (Grew W)):=⟨⟨W,Below.refl _ _⟩⟩
 have c0:∀u:SW (Grew W),u.w.cell? ⟨w.heap.size,0,none⟩=some (Ab Ak (a:Int)):=λ u=>(T.below u.ok).cells.1
 have c1:∀u:SW (Grew W),u.w.cell? ⟨w.heap.size,1,none⟩=some (Ae s):=λ u=>(T.below u.ok).cells.2
 have Y:∀u:SW (Grew W),At Am 49 #[Ab Al (n:Int),Ab Ak 4] u.w λ e w'=>e=Aj (Ae j)/\∃u':SW (Grew W),w'=u'.w:=λ u=>by
  refine(ZaD n 4 (by omega) (by omega) u.w).mono ?_;rintro e w' ⟨rfl,I⟩;exact⟨by rw[h],⟨w',u.ok.trans (I.mono u.ok.size)⟩,rfl⟩
 have X:∀u:SW (Grew W),At Am 49 #[Ab Al (a:Int),Ab Ak 1] u.w λ e w'=>e=Aj (Ae s1)/\∃u':SW (Grew W),w'=u'.w:=λ u=>by
  refine(ZaD a 1 (by omega) (by omega) u.w).mono ?_;rintro e w' ⟨rfl,I⟩;exact⟨by rw[g],⟨w',u.ok.trans (I.mono u.ok.size)⟩,rfl⟩
 have p1:¬(9223372036854775807<j.size+s1.size):=by omega
 have p2:¬(9223372036854775807<(j++s1).size+s.size):=by rw[ByteArray.size_append];omega
 have c:j++s1++s=⟨(headB a body).toArray⟩:=by
  rw[h,g,F,low4,low1,headB,l];simp only[Int.toNat_natCast];show ByteArray.mk _=_
  congr 1
 have H:Hid (An w.heap.size w W/\body.length=n/\n<=8192/\j++s1++s=⟨(headB a body).toArray⟩):=⟨L,l,by omega,c⟩
 clear L T l F h g z4 z1 c Q R hn e;go_enter func190,ntmps190
 go_upto_region 5 with fail
 refine Zab (S:=Grew W) (by kernel_rfl) (by kernel_rfl) (Below.refl _ W).drew ?_
 repeat(go_big_quiet_step (first | with_reducible exact Y _ | with_reducible exact X _))
 refine wpQuiet_nil ?_;intro _ J;obtain⟨u,A⟩:=J;subst A;have O:Hid (An W.heap.size W u.w):=u.ok
 obtain⟨b,B⟩:∃Z,Z=u.w:=⟨_,rfl⟩
 rw[<- B]at O ⊢;clear B x0 x1 c0 c1 Y X NE u p1 p2
 obtain⟨hd,c⟩:∃hd:ByteArray,j++s1++s=hd:=⟨_,rfl⟩
 rw[c]at H ⊢;obtain⟨t,P,y,v,K,E⟩:=ZaU b (headB a body)
 have z:(convert 9 61 (Ae hd)).run Am b=.ok (Aa (some ⟨b.heap.size,0,none⟩) (headB a body).length P) t:=by rw[H.o.2.2.2];exact y
 obtain⟨V,d⟩:=Xa ((headB a body).length)
 have ab:V<=8197:=by rw[<- d,ZhC];have:=H.o.2.1;have:=H.o.2.2.1;omega
 have x:BAt t (Aa (some ⟨b.heap.size,0,none⟩) V P) (headB a body):=by
  have:=E.1.at E.2.1 (E.2.2 (by rw[d];simp only[AG];omega));rw[d]at this;exact this
 rw[d]at z
 obtain⟨r,f⟩:=Xa (crc (headB a body))
 have m:=Zdf t x;rw[f]at m
 have aa:r<4294967296:=by rw[<- f];exact Zjq _
 have w3:Al.wrap (r:Int)=(r:Int):=by rw[Bh];omega
 have p:=ZaD r 4 (by omega) (by omega) t
 obtain⟨D,i⟩:∃D:ByteArray,D=⟨(low 4 r).toArray⟩:=⟨_,rfl⟩
 rw[show tx (low 4 r)=Ae D by rw[i]]at p
 have p3:¬(9223372036854775807<hd.size+D.size):=by
  rw[i,H.o.2.2.2,low4];show ¬(9223372036854775807<(headB a body).toArray.size+4);simp only[List.size_toArray];omega
 have N:Hid (hd++D=⟨(sealB a body).toArray⟩/\An b.heap.size b t):=by
  refine⟨?_,v⟩;rw[i,H.o.2.2.2,low4,sealB,f];show ByteArray.mk _=_
  congr 1
 clear y v K E x d f i c;go_wp2_with fail;refine m.mono ?_;rintro e w5 ⟨rfl,C⟩;rw[C];clear C w5 m;go_wp2_with fail;refine p.mono ?_;rintro e w6 ⟨rfl,M⟩
 have G:Hid (An w.heap.size w w6):=by
  have b1:=H.o.1.trans (O.o.mono H.o.1.size);have b2:=b1.trans (N.o.2.mono b1.size);exact b2.trans (M.mono b2.size)
 clear M p;go_wp2;refine As (AA rfl _ _ _) rfl ?_;exact⟨by rw[N.o.1];rfl,G.o⟩
theorem ZkH(k:Int)(body:Bs)(w:Ap):At Am 190 #[Ag #[Ab Ak k,tx body]] w λ e w'=>e=Aj (Af #[tx (fseal (k,body)).1,Ab Ak (fseal (k,body)).2])/\An w.heap.size w w':=by
 unfold fseal;by_cases b:k<0∨255<k
 ·rw[AE b];exact ZjV b
 ·rw[Aw b];by_cases a:8192<body.length
  ·rw[AE a];exact ZkD (by omega) (by omega) a
  ·rw[Aw a];exact ZkC (by omega) (by omega) a
end
theorem Zli(p:∀i,Z i->i<w.heap.size)(h:RMS Z w m st d)(b:st.size<=1000000)(k:Int)(body:Bs)(a:body.length<=1000000):
  At Am 113 #[m,Ag #[Ab Ak k,tx body]] w λ e w'=>∃t,e=Aj (Af #[t,Ad (st.fits (k,body))])/\Hid (RMS Z w' t (if st.fits (k,body)then st.take (k,body)else st) d/\An w.heap.size w w'):=by
 obtain⟨fa,v,fc,oa,on,oc,x,z,y,A,B,tc,rfl,j,l,n,o⟩:=h;by_cases r:k=4
 ·subst r;exact ZlD p j l n o b body a
 by_cases s:k=5
 ·subst s;exact Zm7 p j l n o b body a
 by_cases c:k<1∨3<k∨oid k body=0∨st.has k (oid k body)=true
 ·exact Zlb p j l n o b k r s body a c
 have f:¬oid k body=0:=λ q=>c (.inr (.inr (.inl q)))
 have g:st.has k (oid k body)=false:=by
  cases e:st.has k (oid k body)with
  | false=>rfl
  | true=>exact absurd (.inr (.inr (.inr e))) c
 have u:k=1∨k=2∨k=3:=by omega
 rcases u with rfl|rfl|rfl
 ·exact Zkk p j l n o b body a f g
 ·exact Zj0 p j l n o b body a f g
 ·exact ZkN p j l n o b body a f g
theorem Nine.put{B:Nat}{a0 a1 a2 a3 a4 a5 a6 a7 a8:Ar}(h:Nine w B a0 a1 a2 a3 a4 a5 a6 a7 a8)(a b1 b2 b b4 c:Ar):Nine ((((((w.setCell ⟨B,0,none⟩ a).setCell ⟨B,1,none⟩ b1).setCell ⟨B,2,none⟩ b2).setCell ⟨B,3,none⟩ b).setCell ⟨B,4,none⟩ b4).setCell ⟨B,5,none⟩ c) B a b1 b2 b b4 c a6 a7 a8:=by
 unfold Nine at h ⊢;simp[World.setCell,Array.getElem?_modify,h]
theorem ZkO(w:Ap)(Q:Nat)(v0 a b v3 v4 v5:Ar):
  Zaa (λ i=>i=Q) w ((((((w.setCell ⟨Q,0,none⟩ v0).setCell ⟨Q,1,none⟩ a).setCell ⟨Q,2,none⟩ b).setCell ⟨Q,3,none⟩ v3).setCell ⟨Q,4,none⟩ v4).setCell ⟨Q,5,none⟩ v5) :=
 ((((((Zaa.refl (λ i=>i=Q) w).setCell (p:=⟨Q,0,none⟩) (.inl (show Q=Q from rfl)) v0).setCell (p:=⟨Q,1,none⟩) (.inl (show Q=Q from rfl)) a).setCell (p:=⟨Q,2,none⟩) (.inl (show Q=Q from rfl)) b).setCell (p:=⟨Q,3,none⟩) (.inl (show Q=Q from rfl)) v3).setCell (p:=⟨Q,4,none⟩) (.inl (show Q=Q from rfl)) v4).setCell (p:=⟨Q,5,none⟩) (.inl (show Q=Q from rfl)) v5
structure Two(w W:Ap)(d:Dk)(vf vo vr vt:Ar):Prop where
 bel:An w.heap.size w W
 box:Zco W w.heap.size d vf vo vr vt
 res:Nine W (w.heap.size+1) (Aa none 0 0) (Ab Ak 0) (Ad false) (Ad false) (Ab Ak 0) (Ab Ak 0) (Aa none 0 0) (Aa none 0 0) (Aa none 0 0)
abbrev zeroC:Obj:=Ai #[Aa none 0 0,Ab Ak 0,Ad false,Ad false,Ab Ak 0,Ab Ak 0,Aa none 0 0,Aa none 0 0,Aa none 0 0] 33
section
variable{w W W':World}{d:Dk}{vf vo vr vt:Value}
theorem Two.new(w:Ap)(d:Dk)(vf vo vr vt:Ar):Two w ((w.alloc (nineC d vf vo vr vt)).alloc zeroC) d vf vo vr vt:=by
 have b:(w.alloc (nineC d vf vo vr vt)).heap.size=w.heap.size+1:=by simp
 have a:=Nine.new (w.alloc (nineC d vf vo vr vt)) (Aa none 0 0) (Ab Ak 0) (Ad false) (Ad false) (Ab Ak 0) (Ab Ak 0) (Aa none 0 0) (Aa none 0 0) (Aa none 0 0);rw[b]at a;exact⟨bz2 _ _ _,(Nine.new w _ _ _ _ _ _ _ _ _).below (bz1 _ _) (by rw[b];omega),a⟩
theorem Two.below(h:Two w W d vf vo vr vt)(a:An W.heap.size W W'):Two w W' d vf vo vr vt:=⟨h.bel.trans (a.mono h.bel.size),h.box.below a h.box.lt,h.res.below a h.res.lt⟩
theorem Two.size(h:Two w W d vf vo vr vt):w.heap.size+2<=W.heap.size:=by
 have:=h.res.lt;omega
theorem Two.six(h:Two w W d vf vo vr vt)(d':Dk)(a:Ar):Two w ((((((W.setCell ⟨w.heap.size,0,none⟩ a).setCell ⟨w.heap.size,1,none⟩ (Ab Ak (d'.writes:Int))).setCell ⟨w.heap.size,2,none⟩ (Ad d'.armed)).setCell ⟨w.heap.size,3,none⟩ (Ad d'.dead)).setCell ⟨w.heap.size,4,none⟩ (Ab Ak (d'.after:Int))).setCell ⟨w.heap.size,5,none⟩ (Ab Ak (d'.keep:Int))) d' a vo vr vt:=by
 have b:=ZkO W w.heap.size a (Ab Ak (d'.writes:Int)) (Ad d'.armed) (Ad d'.dead) (Ab Ak (d'.after:Int)) (Ab Ak (d'.keep:Int));exact⟨h.bel.trans (b.below h.bel.size (λ i hi q=>by have q:i=w.heap.size:=q;omega)),h.box.put _ _ _ _ _ _,h.res.turned b (λ q=>by have q:w.heap.size+1=w.heap.size:=q;omega)⟩
end
def Zy(Z:Nat->Prop)(w:Ap):Nat->Prop:=λ i=>Z i∨(w.heap.size<=i/\i<w.heap.size+2)
theorem ZaW:∀i,i<w.heap.size->Zy Z w i->Z i:=λ i hi q=>q.elim (λ q=>q) (λ q=>by omega)
theorem Zil(a:∀i,Z i->i<w.heap.size):∀i,Zy Z w i->i<w.heap.size+2:=λ i q=>q.elim (λ q=>by have:=a i q;omega) (λ q=>q.2)
theorem Zak(a:An w.heap.size w W)(h:RMS (Zy Z w) W m st d)(b:Zaa (λ i=>i=w.heap.size+1) W W'):RMS Z W' m st d/\An w.heap.size w W' :=
 ⟨(h.turned b (λ i q=>.inr (by have q:i=w.heap.size+1:=q;omega))).mono (λ _ q=>.inl q),a.trans (b.below a.size (λ i hi q=>by have q:i=w.heap.size+1:=q;omega))⟩
theorem RMS.rvs{a:Option Addr}{n c:Nat}(h:LG encF Z w a n c d.files):RVS Z w (rv a n c d) d:=⟨a,n,c,rfl,h.len,h.cap,h.rd,h.far⟩
theorem ZdC(hZ:∀i,Z i->i<w.heap.size)(h:RMS Z w m st d)(ah:st.size<=1000000)(ag:d.ok)(hw:d.writes<=1000000)(k:Int)(au:0<=k)(hk:k<=255)(body:Bs)(af:body.length<=8192)(E:st.fits (k,body)=true):
  At Am 130 #[m,Ab Ak k,tx body] w λ e w'=>∃m' r,e=Aj (Af #[m',Ab Ak r])/\Hid (r=(sapp st d (k,body)).2.2/\RMS Z w' m' (sapp st d (k,body)).1 (sapp st d (k,body)).2.1/\An w.heap.size w w'):=by
 obtain⟨fa,Y,fc,oa,on,oc,l,p,n,s,t,tc,rfl,h1,h2,h3,h4⟩:=h
 have f:=λ W'=>ZkH k body W'
 have aa:(fseal (k,body)).2=0:=by
  unfold fseal;rw[Aw (by show ¬(k<0∨255<k);omega),Aw (by show ¬8192<body.length;omega)]
 have j:(fseal (k,body)).1.length<=100000:=by
  unfold fseal;rw[Aw (by show ¬(k<0∨255<k);omega),Aw (by show ¬8192<body.length;omega)];show(sealB k body).length<=_;rw[Zhx];omega
 obtain⟨x,B⟩:=Xa ((fseal (k,body)).1)
 obtain⟨d',T⟩:=Xa ((dapp d fileN x).1)
 obtain⟨D,S⟩:=Xa ((dapp d fileN x).2)
 obtain⟨Q,hQ⟩:=Xa (sapp st d (k,body))
 have ab:Q=(if D=0 then st.take (k,body)else st,d',D):=by
  rw[<- hQ];unfold sapp;rw[B,T,S]
 rw[hQ];rw[aa,B]at f;rw[B]at j
 obtain⟨X,z⟩:∃X:ByteArray,X=⟨body.toArray⟩:=⟨_,rfl⟩
 obtain⟨ss,U⟩:∃ss:ByteArray,ss=⟨x.toArray⟩:=⟨_,rfl⟩
 rw[show tx body=Ae X by rw[z],show tx x=Ae ss by rw[U]]at f;rw[show tx body=Ae X by rw[z]]
 obtain⟨W,hW⟩:=Xa ((w.alloc (nineC d (Aa fa Y fc) (Aa oa on oc) (Aa l p n) (Aa s t tc))).alloc zeroC)
 have P0:Hid (Two w W d (Aa fa Y fc) (Aa oa on oc) (Aa l p n) (Aa s t tc)):=by rw[<- hW];exact Two.new w d _ _ _ _
 have L:Hid (LG encF (Zy Z w) w fa Y fc d.files/\LG encO (Zy Z w) w oa on oc st.objs/\LG encN (Zy Z w) w l p n st.refs/\LG encN (Zy Z w) w s t tc st.tags):=⟨h1.into ZaW,h2.into ZaW,h3.into ZaW,h4.into ZaW⟩
 have HZ:Hid (∀i,Zy Z w i->i<w.heap.size+2):=Zil hZ
 have G:Hid (d.ok/\d.writes<=1000000/\x.length<=100000/\(dapp d fileN x).1=d'/\(dapp d fileN x).2=D/\Q=(if D=0 then st.take (k,body)else st,d',D)/\st.size<=1000000/\st.fits (k,body)=true/\body.length<=8192/\X=⟨body.toArray⟩/\ss=⟨x.toArray⟩):=⟨ag,hw,j,T,S,ab,ah,E,af,z,U⟩
 obtain⟨F,H,I,J,K,M,N,O,P⟩:=P0.o.box.cells;have f:=f W;clear h1 h2 h3 h4 ag hw j T S ab ah E af hZ aa B hQ au hk z U;go_enter func130,ntmps130;go_wp2_with fail;refine f.mono ?_;rintro e w1 ⟨rfl,B1⟩;have P1:Hid (Two w w1 d (Aa fa Y fc) (Aa oa on oc) (Aa l p n) (Aa s t tc)):=P0.o.below B1;clear f B1 F H I J K M N O P;obtain⟨F,H,I,J,K,M,N,O,P⟩:=P1.o.box.cells;have R:=Zns (λ i q=>by have:=HZ.o i q;have:=P1.o.size;omega) (RMS.rvs (L.o.1.below P1.o.bel)) G.o.1 (by have:=G.o.2.1;omega) fileN x (by decide) (by have:=G.o.2.2.1;omega);rw[G.o.2.2.2.1,G.o.2.2.2.2.1,show tx x=Ae ss by rw[G.o.2.2.2.2.2.2.2.2.2.2]]at R;go_wp2_with fail;refine R.mono ?_;rintro e w2 ⟨v2,rfl,V2,B2⟩;obtain⟨a2,n2,g,rfl,q1,q2,q3,q4⟩:=V2
 have P2:Hid (Two w w2 d (Aa fa Y fc) (Aa oa on oc) (Aa l p n) (Aa s t tc)/\LG encF (Zy Z w) w2 a2 n2 g d'.files):=⟨P1.o.below B2,⟨q1,q2,q3,q4⟩⟩
 clear R B2 q1 q2 q3 q4;clear F H I J K M N O P
 obtain⟨wA,V⟩:=Xa (w2.alloc (Ai #[Aa a2 n2 g,Ab Ak (d'.writes:Int),Ad d'.armed,Ad d'.dead,Ab Ak (d'.after:Int),Ab Ak (d'.keep:Int)] 29))
 have bA:An w2.heap.size w2 wA:=by rw[<- V];exact bz1 _ _
 have sx:Six wA w2.heap.size (Aa a2 n2 g) (Ab Ak (d'.writes:Int)) (Ad d'.armed) (Ad d'.dead) (Ab Ak (d'.after:Int)) (Ab Ak (d'.keep:Int)):=by rw[<- V];exact Six.new _ _ _ _ _ _ _
 obtain⟨y0,y1,y2,y3,y4,y5⟩:=sx.cells
 have C:Hid (Two w wA d (Aa fa Y fc) (Aa oa on oc) (Aa l p n) (Aa s t tc)/\LG encF (Zy Z w) wA a2 n2 g d'.files):=⟨P2.o.1.below bA,P2.o.2.below bA⟩
 obtain⟨F,H,I,J,K,M,N,O,P⟩:=C.o.1.box.cells;have c:=C.o.1.box.thaw;have f0:=c 0;have f1:=c 1;have f2:=c 2;have f3:=c 3;have f4:=c 4;have f5:=c 5;have l0:=C.o.1.box.lt;clear bA sx c
 go_upto_region 4 with fail
 have t3:=ZkO wA w.heap.size (Aa a2 n2 g) (Ab Ak (d'.writes:Int)) (Ad d'.armed) (Ad d'.dead) (Ab Ak (d'.after:Int)) (Ab Ak (d'.keep:Int));have p3:=C.o.1.six d' (Aa a2 n2 g)
 obtain⟨w3,ai⟩:=Xa (((((((wA.setCell ⟨w.heap.size,0,none⟩ (Aa a2 n2 g)).setCell ⟨w.heap.size,1,none⟩ (Ab Ak (d'.writes:Int))).setCell ⟨w.heap.size,2,none⟩ (Ad d'.armed)).setCell ⟨w.heap.size,3,none⟩ (Ad d'.dead)).setCell ⟨w.heap.size,4,none⟩ (Ab Ak (d'.after:Int))).setCell ⟨w.heap.size,5,none⟩ (Ab Ak (d'.keep:Int))))
 rw[ai]at t3 p3 ⊢
 have u:∀i,i=w.heap.size->Zy Z w i:=λ i q=>.inr (by omega)
 have y:Hid (Two w w3 d' (Aa a2 n2 g) (Aa oa on oc) (Aa l p n) (Aa s t tc)/\RMS (Zy Z w) w3 (rm d' (Aa a2 n2 g) (Aa oa on oc) (Aa l p n) (Aa s t tc)) st d') :=
  ⟨p3,a2,n2,g,oa,on,oc,l,p,n,s,t,tc,rfl,C.o.2.turned t3 u,(L.o.2.1.below C.o.1.bel).turned t3 u,(L.o.2.2.1.below C.o.1.bel).turned t3 u,(L.o.2.2.2.below C.o.1.bel).turned t3 u⟩
 clear t3 p3 ai F H I J K M N O P y0 y1 y2 y3 y4 y5 f0 f1 f2 f3 f4 f5 l0 V u;obtain⟨F,H,I,J,K,M,N,O,P⟩:=y.o.1.box.cells;obtain⟨z0,z1,z2,z3,z4,z5,z6,z7,z8⟩:=y.o.1.res.cells;have b:=y.o.1.res.thaw;have g0:=b 0;have g1:=b 1;have g2:=b 2;have g3:=b 3;have g4:=b 4;have g5:=b 5;have g6:=b 6;have g7:=b 7;have g8:=b 8;have l2:=y.o.1.res.lt;clear b;by_cases hz:D=0
 ·subst hz;have A:=Zli (λ i q=>by have:=HZ.o i q;have:=y.o.1.size;omega) y.o.2 G.o.2.2.2.2.2.2.1 k body (by have:=G.o.2.2.2.2.2.2.2.2.1;omega);rw[G.o.2.2.2.2.2.2.2.1,show tx body=Ae X by rw[G.o.2.2.2.2.2.2.2.2.2.1]]at A;simp only[Fa]at A;go_wp2_with fail;refine A.mono ?_;rintro e w4 ⟨m4,rfl,R4⟩
  have a:Hid (RMS (Zy Z w) w4 m4 (st.take (k,body)) d'/\Two w w4 d' (Aa a2 n2 g) (Aa oa on oc) (Aa l p n) (Aa s t tc)):=⟨R4.o.1,y.o.1.below R4.o.2⟩
  clear A R4;obtain⟨ac,ae,ad,aj,al,ak,am,ao,an,ap,ar,aq,em,_⟩:=a.o.1;subst em;clear F H I J K M N O P z0 z1 z2 z3 z4 z5 z6 z7 z8 g0 g1 g2 g3 g4 g5 g6 g7 g8 l2;obtain⟨F,H,I,J,K,M,N,O,P⟩:=a.o.2.box.cells;have c:=a.o.2.box.thaw;have f0:=c 0;have f1:=c 1;have f2:=c 2;have f3:=c 3;have f4:=c 4;have f5:=c 5;have f6:=c 6;have f7:=c 7;have f8:=c 8;have l0:=a.o.2.box.lt;clear c;obtain⟨z0,z1,z2,z3,z4,z5,z6,z7,z8⟩:=a.o.2.res.cells;have b:=a.o.2.res.thaw;have g0:=b 0;have g1:=b 1;have g2:=b 2;have g3:=b 3;have g4:=b 4;have g5:=b 5;have g6:=b 6;have g7:=b 7;have g8:=b 8;have l2:=a.o.2.res.lt;clear b
  have av:w.heap.size≠w.heap.size+1:=by omega
  go_wp2;refine As (v:=Af #[rm d' (Aa ac ae ad) (Aa aj al ak) (Aa am ao an) (Aa ap ar aq),Ab Ak 0]) ?_ rfl ⟨_,_,rfl,?_⟩
  ·simp[AH,Tryz.f130];go_simp
  ·have t5:=Zae w4 w.heap.size (Aa ac ae ad) (Ab Ak (d'.writes:Int)) (Ad d'.armed) (Ad d'.dead) (Ab Ak (d'.after:Int)) (Ab Ak (d'.keep:Int)) (Aa aj al ak) (Aa am ao an) (Aa ap ar aq);have b5:=a.o.2.bel.trans (t5.below a.o.2.bel.size (λ i hi q=>by have q:i=w.heap.size:=q;omega));rw[G.o.2.2.2.2.2.1];exact⟨rfl,Zak b5 (a.o.1.turned t5 (λ i q=>.inr (by have q:i=w.heap.size:=q;omega))) (Zae _ _ _ _ _ _ _ _ _ _ _)⟩
 ·have m0:(D != 0)=true:=by simpa using hz
  go_wp2;refine As (v:=Af #[rm d' (Aa a2 n2 g) (Aa oa on oc) (Aa l p n) (Aa s t tc),Ab Ak D]) ?_ rfl ⟨_,_,rfl,?_⟩
  ·simp[AH,Tryz.f130];go_simp
  ·rw[G.o.2.2.2.2.2.1,Aw hz];exact⟨rfl,Zak y.o.1.bel y.o.2 (Zae _ _ _ _ _ _ _ _ _ _ _)⟩
theorem Zeb(hZ:∀i,Z i->i<w.heap.size)(h:RMS Z w m st d)(ah:st.size<=1000000)(ao:d.ok)(hw:d.writes<=1000000)(k:Int)(hk:k=1∨k=2∨k=3)(body:Bs)(an:body.length<=8192)(ap:st.right (k,body)=true):
  At Am 117 #[m,Ab Ak k,tx body] w λ e w'=>∃m' i r,e=Aj (Af #[m',Ab Al i,Ab Ak r])/\Hid (i=((sput st d k body).2.1.toNat:Int)/\r=(sput st d k body).2.2/\RMS Z w' m' (sput st d k body).1.1 (sput st d k body).1.2/\An w.heap.size w w'):=by
 obtain⟨fa,g,fc,oa,on,oc,j,n,l,p,s,tc,rfl,h1,h2,h3,h4⟩:=h
 have ho:on<=1000000:=by rw[<- h2.len];unfold St.size at ah;omega
 obtain⟨Q,hQ⟩:=Xa (sput st d k body)
 rw[hQ]
 obtain⟨R,P⟩:∃R:ByteArray,R=⟨body.toArray⟩:=⟨_,rfl⟩
 have af:R.size=body.length:=by rw[P];show body.toArray.size=_;simp
 rw[show tx body=Ae R by rw[P]]
 obtain⟨x,hx⟩:=Xa (oid k body)
 obtain⟨W,hW⟩:=Xa ((w.alloc (nineC d (Aa fa g fc) (Aa oa on oc) (Aa j n l) (Aa p s tc))).alloc zeroC)
 have P0:Hid (Two w W d (Aa fa g fc) (Aa oa on oc) (Aa j n l) (Aa p s tc)):=by rw[<- hW];exact Two.new w d _ _ _ _
 obtain⟨W1,cc,au,ak,av,ab,X,Y⟩:=ZaU W body;rw[show tx body=Ae R by rw[P],<- af]at au;have hid:=ZdV k W1 (ab.at X (Y (by simp only[AG];omega))) x hx;rw[<- af]at hid;have P1:Hid (Two w W1 d (Aa fa g fc) (Aa oa on oc) (Aa j n l) (Aa p s tc)):=P0.o.below ak
 have L:Hid (LG encF (Zy Z w) w fa g fc d.files/\LG encO (Zy Z w) w oa on oc st.objs/\LG encN (Zy Z w) w j n l st.refs/\LG encN (Zy Z w) w p s tc st.tags):=⟨h1.into ZaW,h2.into ZaW,h3.into ZaW,h4.into ZaW⟩
 have HZ:Hid (∀i,Zy Z w i->i<w.heap.size+2):=Zil hZ
 have RB:Hid (∀W',An w.heap.size w W'->RMS (Zy Z w) W' (rm d (Aa fa g fc) (Aa oa on oc) (Aa j n l) (Aa p s tc)) st d):=λ W' b=>⟨fa,g,fc,oa,on,oc,j,n,l,p,s,tc,rfl,L.o.1.below b,L.o.2.1.below b,L.o.2.2.1.below b,L.o.2.2.2.below b⟩
 have ae:=Zgr (d:=d) (oc:=oc) (vf:=Aa fa g fc) (vr:=Aa j n l) (vt:=Aa p s tc) (L.o.2.1.rd.below P1.o.bel) L.o.2.1.len ho k x
 obtain⟨xi,V⟩:∃xi:Int,(x.toNat:Int)=xi:=⟨_,rfl⟩
 rw[V]at hid ae;have u0:=ZbJ x;rw[V]at u0
 have G:Hid (d.ok/\d.writes<=1000000/\st.size<=1000000/\st.right (k,body)=true/\body.length<=8192/\R=⟨body.toArray⟩/\oid k body=x/\(x.toNat:Int)=xi/\sput st d k body=Q/\(k=1∨k=2∨k=3)):=⟨ao,hw,ah,ap,an,P,hx,V,hQ,hk⟩
 have U0:Hid (xi=0↔x=0):=u0;clear h1 h2 h3 h4 ao hw ah ap an P hx V hQ hZ u0 ab X Y av ak af hk;obtain⟨x0,x1,x2,x3,x4,x5,x6,x7,x8⟩:=P1.o.box.cells;obtain⟨z0,z1,z2,z3,z4,z5,z6,z7,z8⟩:=P1.o.res.cells;have a:=P1.o.res.thaw;have g0:=a 0;have g1:=a 1;have g2:=a 2;have g3:=a 3;have g4:=a 4;have g5:=a 5;have g6:=a 6;have g7:=a 7;have g8:=a 8;have l2:=P1.o.res.lt;clear a;go_enter func117,ntmps117;go_wp2_with fail;refine hid.mono ?_;rintro e w1 ⟨rfl,aq⟩;rw[aq];clear aq w1 hid;go_wp2_with fail;refine ae.mono ?_;rintro e w2 ⟨r2,rfl,R2,B2⟩;have t:Hid (Two w w2 d (Aa fa g fc) (Aa oa on oc) (Aa j n l) (Aa p s tc)):=P1.o.below B2;clear ae B2;clear x0 x1 x2 x3 x4 x5 x6 x7 x8;clear z0 z1 z2 z3 z4 z5 z6 z7 z8 g0 g1 g2 g3 g4 g5 g6 g7 g8 l2;obtain⟨x0,x1,x2,x3,x4,x5,x6,x7,x8⟩:=t.o.box.cells;obtain⟨z0,z1,z2,z3,z4,z5,z6,z7,z8⟩:=t.o.res.cells;have a:=t.o.res.thaw;have g0:=a 0;have g1:=a 1;have g2:=a 2;have g3:=a 3;have g4:=a 4;have g5:=a 5;have g6:=a 6;have g7:=a 7;have g8:=a 8;have l2:=t.o.res.lt;clear a
 rcases R2.o with⟨N,q2⟩ | ⟨i2,q2,bs,q3,N⟩
 ·subst q2;by_cases O:x=0
  ·have ai:=U0.o.2 O;subst ai
   have T:Q=((st,d),0,13):=by
    rw[<- G.o.2.2.2.2.2.2.2.2.1];unfold sput;rw[G.o.2.2.2.2.2.2.1,N];simp[O]
   clear N O R2;go_wp2;refine As (v:=Af #[rm d (Aa fa g fc) (Aa oa on oc) (Aa j n l) (Aa p s tc),Ab Al 0,Ab Ak 13]) ?_ rfl ⟨_,_,_,rfl,?_⟩
   ·simp[AH,Tryz.f117];go_simp
   ·rw[T];exact⟨rfl,rfl,Zak t.o.bel (RB.o _ t.o.bel) (Zae _ _ _ _ _ _ _ _ _ _ _)⟩
  ·have m1:(xi==0)=false:=by
    have:=λ z=>O (U0.o.1 z)
    simpa using this
   have hh:=ZaK (d:=d) (oc:=oc) (vf:=Aa fa g fc) (vr:=Aa j n l) (vt:=Aa p s tc) (L.o.2.1.rd.below t.o.bel) L.o.2.1.len ho k x false (by unfold St.has;rw[N];rfl);rw[G.o.2.2.2.2.2.2.2.1]at hh
   have aa:st.fits (k,body)=true:=by
    unfold St.fits;have hk:=G.o.2.2.2.2.2.2.2.2.2;rw[Aw (by show ¬(k=4∨k=5);omega),G.o.2.2.2.1,show oid (k,body).1 (k,body).2=x from G.o.2.2.2.2.2.2.1];unfold St.has;rw[show oget st.objs (k,body).1 x=none from N];simp[O]
   have T:Q=(((sapp st d (k,body)).1,(sapp st d (k,body)).2.1),if(sapp st d (k,body)).2.2=0 then x else 0,(sapp st d (k,body)).2.2):=by
    rw[<- G.o.2.2.2.2.2.2.2.2.1];unfold sput;rw[G.o.2.2.2.2.2.2.1,N];simp[O]
   have EZ:Hid _:=T;clear N O R2 T;go_wp2_with fail;refine hh.mono ?_;rintro e w3 ⟨rfl,B3⟩;have M:Hid (Two w w3 d (Aa fa g fc) (Aa oa on oc) (Aa j n l) (Aa p s tc)):=t.o.below B3;clear hh B3;clear x0 x1 x2 x3 x4 x5 x6 x7 x8;clear z0 z1 z2 z3 z4 z5 z6 z7 z8 g0 g1 g2 g3 g4 g5 g6 g7 g8 l2;obtain⟨x0,x1,x2,x3,x4,x5,x6,x7,x8⟩:=M.o.box.cells;obtain⟨z0,z1,z2,z3,z4,z5,z6,z7,z8⟩:=M.o.res.cells;have a:=M.o.res.thaw;have g0:=a 0;have g1:=a 1;have g2:=a 2;have g3:=a 3;have g4:=a 4;have g5:=a 5;have g6:=a 6;have g7:=a 7;have g8:=a 8;have l2:=M.o.res.lt;clear a;have ad:=ZdC (λ i q=>by have:=HZ.o i q;have:=M.o.size;omega) (RB.o w3 M.o.bel) G.o.2.2.1 G.o.1 G.o.2.1 k (by have:=G.o.2.2.2.2.2.2.2.2.2;omega) (by have:=G.o.2.2.2.2.2.2.2.2.2;omega) body G.o.2.2.2.2.1 aa;rw[show tx body=Ae R by rw[G.o.2.2.2.2.2.1]]at ad;clear aa;go_wp2_with fail;refine ad.mono ?_;rintro e w4 ⟨m4,r4,rfl,R4⟩
   have c:Hid (r4=(sapp st d (k,body)).2.2/\RMS (Zy Z w) w4 m4 (sapp st d (k,body)).1 (sapp st d (k,body)).2.1/\Two w w4 d (Aa fa g fc) (Aa oa on oc) (Aa j n l) (Aa p s tc)):=⟨R4.o.1,R4.o.2.1,M.o.below R4.o.2.2⟩
   clear ad R4
   obtain⟨f,ag⟩:=Xa ((sapp st d (k,body)).2.1)
   obtain⟨u,A,y,B,D,C,E,H,F,I,K,J,em,_⟩:=c.o.2.1;rw[ag]at em;subst em;have aw:Hid ((sapp st d (k,body)).2.1=f):=ag;clear ag;clear x0 x1 x2 x3 x4 x5 x6 x7 x8;clear z0 z1 z2 z3 z4 z5 z6 z7 z8 g0 g1 g2 g3 g4 g5 g6 g7 g8 l2;obtain⟨x0,x1,x2,x3,x4,x5,x6,x7,x8⟩:=c.o.2.2.box.cells;have S:=c.o.2.2.box.thaw;have f0:=S 0;have f1:=S 1;have f2:=S 2;have f3:=S 3;have f4:=S 4;have f5:=S 5;have f6:=S 6;have f7:=S 7;have f8:=S 8;have l0:=c.o.2.2.box.lt;clear S
   have aB:w.heap.size≠w.heap.size+1:=by omega
   obtain⟨z0,z1,z2,z3,z4,z5,z6,z7,z8⟩:=c.o.2.2.res.cells;have a:=c.o.2.2.res.thaw;have g0:=a 0;have g1:=a 1;have g2:=a 2;have g3:=a 3;have g4:=a 4;have g5:=a 5;have g6:=a 6;have g7:=a 7;have g8:=a 8;have l2:=c.o.2.2.res.lt;clear a
   have am:∀W',Zaa (λ i=>i=w.heap.size+1) ((((((((((w4.setCell ⟨w.heap.size,0,none⟩ (Aa u A y)).setCell ⟨w.heap.size,1,none⟩ (Ab Ak (f.writes:Int))).setCell ⟨w.heap.size,2,none⟩ (Ad f.armed)).setCell ⟨w.heap.size,3,none⟩ (Ad f.dead)).setCell ⟨w.heap.size,4,none⟩ (Ab Ak (f.after:Int))).setCell ⟨w.heap.size,5,none⟩ (Ab Ak (f.keep:Int))).setCell ⟨w.heap.size,6,none⟩ (Aa B D C)).setCell ⟨w.heap.size,7,none⟩ (Aa E H F)).setCell ⟨w.heap.size,8,none⟩ (Aa I K J))) W'->RMS Z W' (rm f (Aa u A y) (Aa B D C) (Aa E H F) (Aa I K J)) (sapp st d (k,body)).1 (sapp st d (k,body)).2.1/\An w.heap.size w W':=by
    intro W' t6;have t5:=Zae w4 w.heap.size (Aa u A y) (Ab Ak (f.writes:Int)) (Ad f.armed) (Ad f.dead) (Ab Ak (f.after:Int)) (Ab Ak (f.keep:Int)) (Aa B D C) (Aa E H F) (Aa I K J);have b5:=c.o.2.2.bel.trans (t5.below c.o.2.2.bel.size (λ i hi q=>by have q:i=w.heap.size:=q;omega));exact Zak b5 (c.o.2.1.turned t5 (λ i q=>.inr (by have q:i=w.heap.size:=q;omega))) t6
   have aj:Hid (∀W',Zaa (λ i=>i=w.heap.size+1) ((((((((((w4.setCell ⟨w.heap.size,0,none⟩ (Aa u A y)).setCell ⟨w.heap.size,1,none⟩ (Ab Ak (f.writes:Int))).setCell ⟨w.heap.size,2,none⟩ (Ad f.armed)).setCell ⟨w.heap.size,3,none⟩ (Ad f.dead)).setCell ⟨w.heap.size,4,none⟩ (Ab Ak (f.after:Int))).setCell ⟨w.heap.size,5,none⟩ (Ab Ak (f.keep:Int))).setCell ⟨w.heap.size,6,none⟩ (Aa B D C)).setCell ⟨w.heap.size,7,none⟩ (Aa E H F)).setCell ⟨w.heap.size,8,none⟩ (Aa I K J))) W'->RMS Z W' (rm f (Aa u A y) (Aa B D C) (Aa E H F) (Aa I K J)) (sapp st d (k,body)).1 (sapp st d (k,body)).2.1/\An w.heap.size w W'):=am;clear am;by_cases hz:r4=0
   ·subst hz;go_wp2;refine As (v:=Af #[rm f (Aa u A y) (Aa B D C) (Aa E H F) (Aa I K J),Ab Al xi,Ab Ak 0]) ?_ rfl ⟨_,_,_,rfl,?_⟩
    ·simp[AH,Tryz.f117];go_simp
    ·rw[EZ.o];exact⟨by rw[AE c.o.1.symm];exact G.o.2.2.2.2.2.2.2.1.symm,c.o.1,aj.o _ (Zae _ _ _ _ _ _ _ _ _ _ _)⟩
   ·have m0:(r4 != 0)=true:=by simpa using hz
    go_wp2;refine As (v:=Af #[rm f (Aa u A y) (Aa B D C) (Aa E H F) (Aa I K J),Ab Al 0,Ab Ak r4]) ?_ rfl ⟨_,_,_,rfl,?_⟩
    ·simp[AH,Tryz.f117];go_simp
    ·rw[EZ.o];exact⟨by rw[Aw (λ q=>hz (c.o.1.trans q))];rfl,c.o.1,aj.o _ (Zae _ _ _ _ _ _ _ _ _ _ _)⟩
 ·subst q2;have RO:=L.o.2.1.rd.below t.o.bel;obtain⟨b1,o1,ar,az⟩:=RO.some_of q3;subst ar;obtain⟨_,ax,ay,ac⟩:=RO.obs q3;simp only at ac
  have i0:(0:Int)<=(i2:Int):=by omega
  have i1:(i2:Int)<(on:Int):=by
   have:=(List.getElem?_eq_some_iff.1 q3).1;rw[L.o.2.1.len]at this;omega
  cases hq:(bs==body)with
  | true =>
   have eq:bs=body:=by simpa using hq
   have al:(⟨bs.toArray⟩:ByteArray)=R:=by rw[eq,G.o.2.2.2.2.2.1]
   rw[show tx bs=Ae R by rw[<- al]]at ac
   have T:Q=((st,d),x,0):=by
    rw[<- G.o.2.2.2.2.2.2.2.2.1];unfold sput;rw[G.o.2.2.2.2.2.2.1,N];simp[eq]
   clear N q3 R2 RO hq eq al;go_wp2;refine As (v:=Af #[rm d (Aa fa g fc) (Aa (some ⟨b1,o1,none⟩) on oc) (Aa j n l) (Aa p s tc),Ab Al xi,Ab Ak 0]) ?_ rfl ⟨_,_,_,rfl,?_⟩
   ·simp[AH,Tryz.f117];go_simp
   ·rw[T];exact⟨G.o.2.2.2.2.2.2.2.1.symm,rfl,Zak t.o.bel (RB.o _ t.o.bel) (Zae _ _ _ _ _ _ _ _ _ _ _)⟩
  | false =>
   have eq:¬bs=body:=by simpa using hq
   obtain⟨b2,U⟩:∃b2:ByteArray,(⟨bs.toArray⟩:ByteArray)=b2:=⟨_,rfl⟩
   rw[show tx bs=Ae b2 by rw[<- U]]at ac
   have aA:(b2.toList==R.toList)=false:=by
    rw[<- U,G.o.2.2.2.2.2.1,Lib.toList_data,Lib.toList_data];exact hq
   have T:Q=((st,d),0,13):=by
    rw[<- G.o.2.2.2.2.2.2.2.2.1];unfold sput;rw[G.o.2.2.2.2.2.2.1,N];simp[eq]
   by_cases O:x=0
   ·have ai:=U0.o.2 O;subst ai;clear N q3 R2 RO hq eq O U;go_wp2;refine As (v:=Af #[rm d (Aa fa g fc) (Aa (some ⟨b1,o1,none⟩) on oc) (Aa j n l) (Aa p s tc),Ab Al 0,Ab Ak 13]) ?_ rfl ⟨_,_,_,rfl,?_⟩
    ·simp[AH,Tryz.f117];go_simp
    ·rw[T];exact⟨rfl,rfl,Zak t.o.bel (RB.o _ t.o.bel) (Zae _ _ _ _ _ _ _ _ _ _ _)⟩
   ·have m1:(xi==0)=false:=by
     have:=λ z=>O (U0.o.1 z)
     simpa using this
    have hh:=ZaK (d:=d) (oc:=oc) (vf:=Aa fa g fc) (vr:=Aa j n l) (vt:=Aa p s tc) (L.o.2.1.rd.below t.o.bel) L.o.2.1.len ho k x true (by unfold St.has;rw[N];rfl);rw[G.o.2.2.2.2.2.2.2.1]at hh;clear N q3 R2 RO hq eq O U;go_wp2_with fail;refine hh.mono ?_;rintro e w3 ⟨rfl,B3⟩;have M:Hid (Two w w3 d (Aa fa g fc) (Aa (some ⟨b1,o1,none⟩) on oc) (Aa j n l) (Aa p s tc)):=t.o.below B3;clear hh B3;clear x0 x1 x2 x3 x4 x5 x6 x7 x8;clear z0 z1 z2 z3 z4 z5 z6 z7 z8 g0 g1 g2 g3 g4 g5 g6 g7 g8 l2;obtain⟨x0,x1,x2,x3,x4,x5,x6,x7,x8⟩:=M.o.box.cells;obtain⟨z0,z1,z2,z3,z4,z5,z6,z7,z8⟩:=M.o.res.cells;have a:=M.o.res.thaw;have g0:=a 0;have g1:=a 1;have g2:=a 2;have g3:=a 3;have g4:=a 4;have g5:=a 5;have g6:=a 6;have g7:=a 7;have g8:=a 8;have l2:=M.o.res.lt;clear a;go_wp2;refine As (v:=Af #[rm d (Aa fa g fc) (Aa (some ⟨b1,o1,none⟩) on oc) (Aa j n l) (Aa p s tc),Ab Al 0,Ab Ak 13]) ?_ rfl ⟨_,_,_,rfl,?_⟩
    ·simp[AH,Tryz.f117];go_simp
    ·rw[T];exact⟨rfl,rfl,Zak M.o.bel (RB.o _ M.o.bel) (Zae _ _ _ _ _ _ _ _ _ _ _)⟩
theorem Zdd(a:ctree es=0):(treeB es).length<=8192:=by
 have f:=(ZaS a).1
 have:∀l:List En,(∀e∈l,e.1.length<=102)->(treeB l).length<=111*l.length:=by
  intro l
  induction l with
  | nil=>intro _;simp[treeB]
  | cons x t g =>
   intro c;have:=g (λ e b=>c e (List.mem_cons_of_mem _ b));have h:=c x List.mem_cons_self
   have d:(treeB (x::t)).length=(entB x).length+(treeB t).length:=by simp[treeB]
   rw[d,ZdH,List.length_cons];omega
 have i:=this es (λ e b=>ZbA (List.all_eq_true.1 (ZaS a).2.1 e b));omega
theorem Zda(h:(ftree es).2=0):ctree es=0/\(ftree es).1=treeB es:=by
 unfold ftree at h ⊢
 split at h
 ·rename_i q
  rw[AE q];exact⟨q,rfl⟩
 ·exact absurd h ‹_›
theorem ZcK{c:Cm}(h:(fcom c).2=0):ccom c=0/\(fcom c).1=comB c:=by
 unfold fcom at h ⊢
 split at h
 ·rename_i q
  rw[AE q];exact⟨q,rfl⟩
 ·exact absurd h ‹_›
theorem Zg5(K:∀i,Z i->i<w.heap.size)(h:RMS Z w m st d)(k:st.size<=1000000)(n:d.ok)(M:d.writes<=1000000)(data:Bs)(aa:data.length<=140737488355328)(Q)(E:sblob st d data=Q):
  At Am 62 #[m,tx data] w λ e w'=>∃m' i r,e=Aj (Af #[m',Ab Al i,Ab Ak r])/\Hid (i=(Q.2.1.toNat:Int)/\r=Q.2.2/\RMS Z w' m' Q.1.1 Q.1.2/\An w.heap.size w w'):=by
 obtain⟨fa,l,fc,oa,on,oc,s,u,t,x,y,tc,rfl,I,D,J,z⟩:=h
 have ho:on<=1000000:=by rw[<- D.len];unfold St.size at k;omega
 have L:Hid (LG encF (Zy Z w) w fa l fc d.files/\LG encO (Zy Z w) w oa on oc st.objs/\LG encN (Zy Z w) w s u t st.refs/\LG encN (Zy Z w) w x y tc st.tags):=⟨I.into ZaW,D.into ZaW,J.into ZaW,z.into ZaW⟩
 have HZ:Hid (∀i,Zy Z w i->i<w.heap.size+2):=Zil K
 have RB:Hid (∀W',An w.heap.size w W'->RMS (Zy Z w) W' (rm d (Aa fa l fc) (Aa oa on oc) (Aa s u t) (Aa x y tc)) st d):=λ W' b=>⟨fa,l,fc,oa,on,oc,s,u,t,x,y,tc,rfl,L.o.1.below b,L.o.2.1.below b,L.o.2.2.1.below b,L.o.2.2.2.below b⟩
 obtain⟨j,f⟩:∃j:ByteArray,j=⟨data.toArray⟩:=⟨_,rfl⟩
 have B:j.size=data.length:=by rw[f];show data.toArray.size=_;simp
 rw[show tx data=Ae j by rw[f]]
 obtain⟨W,hW⟩:=Xa ((w.alloc (nineC d (Aa fa l fc) (Aa oa on oc) (Aa s u t) (Aa x y tc))).alloc zeroC)
 have g:Hid (Two w W d (Aa fa l fc) (Aa oa on oc) (Aa s u t) (Aa x y tc)):=by rw[<- hW];exact Two.new w d _ _ _ _
 obtain⟨x0,x1,x2,x3,x4,x5,x6,x7,x8⟩:=g.o.box.cells;obtain⟨z0,z1,z2,z3,z4,z5,z6,z7,z8⟩:=g.o.res.cells;have a:=g.o.res.thaw;have g0:=a 0;have g1:=a 1;have g2:=a 2;have g3:=a 3;have g4:=a 4;have g5:=a 5;have g6:=a 6;have g7:=a 7;have g8:=a 8;have l2:=g.o.res.lt;clear a;by_cases z:4096<data.length
 ·have t4:(4096:Int)<(j.size:Int):=by omega
  have U:4096<j.size:=by omega
  have C:Q=((st,d),0,4):=by rw[<- E];unfold sblob;rw[AE z]
  subst C;clear I D J z K k n M B f E;go_enter func62,ntmps62;go_wp2;refine As (v:=Af #[rm d (Aa fa l fc) (Aa oa on oc) (Aa s u t) (Aa x y tc),Ab Al 0,Ab Ak 4]) ?_ rfl ⟨_,_,_,rfl,?_⟩
  ·simp[AH,Tryz.f62];go_simp
  ·exact⟨rfl,rfl,Zak g.o.bel (RB.o _ g.o.bel) (Zae _ _ _ _ _ _ _ _ _ _ _)⟩
 ·have t4:¬(4096:Int)<(j.size:Int):=by omega
  have U:¬4096<j.size:=by omega
  have C:sput st d 1 data=Q:=by rw[<- E];unfold sblob;rw[Aw z]
  have p:=Zeb (λ i q=>by have:=HZ.o i q;have:=g.o.size;omega) (RB.o W g.o.bel) k n M 1 (.inl rfl) data (by omega) (by unfold St.right;rw[AE rfl];simp;omega);rw[C,show tx data=Ae j by rw[f]]at p;clear I D J z K k n M B f E C;go_enter func62,ntmps62;go_wp2_with fail;refine p.mono ?_;rintro e w9 ⟨m9,i9,r9,rfl,A⟩
  have c:Hid (i9=(Q.2.1.toNat:Int)/\r9=Q.2.2/\RMS (Zy Z w) w9 m9 Q.1.1 Q.1.2/\Two w w9 d (Aa fa l fc) (Aa oa on oc) (Aa s u t) (Aa x y tc)):=⟨A.o.1,A.o.2.1,A.o.2.2.1,g.o.below A.o.2.2.2⟩
  clear p A;obtain⟨F,H,G,N,P,O,R,T,S,V,Y,X,em,_⟩:=c.o.2.2.1;subst em;clear x0 x1 x2 x3 x4 x5 x6 x7 x8;clear z0 z1 z2 z3 z4 z5 z6 z7 z8 g0 g1 g2 g3 g4 g5 g6 g7 g8 l2;obtain⟨z0,z1,z2,z3,z4,z5,z6,z7,z8⟩:=c.o.2.2.2.res.cells;have a:=c.o.2.2.2.res.thaw;have g0:=a 0;have g1:=a 1;have g2:=a 2;have g3:=a 3;have g4:=a 4;have g5:=a 5;have g6:=a 6;have g7:=a 7;have g8:=a 8;have l2:=c.o.2.2.2.res.lt;clear a;go_wp2;refine As (v:=Af #[rm Q.1.2 (Aa F H G) (Aa N P O) (Aa R T S) (Aa V Y X),Ab Al i9,Ab Ak r9]) ?_ rfl ⟨_,_,_,rfl,?_⟩
  ·simp[AH,Tryz.f62];go_simp
  ·exact⟨c.o.1,c.o.2.1,Zak c.o.2.2.2.bel c.o.2.2.1 (Zae _ _ _ _ _ _ _ _ _ _ _)⟩
theorem ZgT(hZ:∀i,Z i->i<w.heap.size)(h:RMS Z w m st d)(M:st.size<=1000000)(aa:d.ok)(hw:d.writes<=1000000){ea:Option Addr}{en ec:Nat}(hr:RdG encE w ea es)(K:es.length=en)(ah:en<=4000000000000000000)(Q)(hQ:stree st d es=Q):
  At Am 64 #[m,Aa ea en ec] w λ e w'=>∃m' i r,e=Aj (Af #[m',Ab Al i,Ab Ak r])/\Hid (i=(Q.2.1.toNat:Int)/\r=Q.2.2/\RMS Z w' m' Q.1.1 Q.1.2/\An w.heap.size w w'):=by
 obtain⟨fa,n,fc,oa,on,oc,p,t,s,u,x,tc,rfl,h1,h2,h3,h4⟩:=h
 have ho:on<=1000000:=by rw[<- h2.len];unfold St.size at M;omega
 have L:Hid (LG encF (Zy Z w) w fa n fc d.files/\LG encO (Zy Z w) w oa on oc st.objs/\LG encN (Zy Z w) w p t s st.refs/\LG encN (Zy Z w) w u x tc st.tags):=⟨h1.into ZaW,h2.into ZaW,h3.into ZaW,h4.into ZaW⟩
 have HZ:Hid (∀i,Zy Z w i->i<w.heap.size+2):=Zil hZ
 have RB:Hid (∀W',An w.heap.size w W'->RMS (Zy Z w) W' (rm d (Aa fa n fc) (Aa oa on oc) (Aa p t s) (Aa u x tc)) st d):=λ W' b=>⟨fa,n,fc,oa,on,oc,p,t,s,u,x,tc,rfl,L.o.1.below b,L.o.2.1.below b,L.o.2.2.1.below b,L.o.2.2.2.below b⟩
 obtain⟨W,hW⟩:=Xa ((w.alloc (nineC d (Aa fa n fc) (Aa oa on oc) (Aa p t s) (Aa u x tc))).alloc zeroC)
 have y:Hid (Two w W d (Aa fa n fc) (Aa oa on oc) (Aa p t s) (Aa u x tc)):=by rw[<- hW];exact Two.new w d _ _ _ _
 have A:=Zgx (c:=ec) W (hr.below y.o.bel) K
 obtain⟨fe,j⟩:=Xa ((ftree es).2)
 obtain⟨fb,l⟩:=Xa ((ftree es).1)
 obtain⟨bb,J⟩:∃bb:ByteArray,bb=⟨fb.toArray⟩:=⟨_,rfl⟩
 rw[j,l,show tx fb=Ae bb by rw[J]]at A;by_cases h0:fe=0
 ·subst h0;have z:=Zda j
  have U:fb.length<=8192:=by rw[<- l,z.2];exact Zdd z.1
  have ad:rdtree fb=some es:=by rw[<- l,z.2];exact ZcA z.1
  obtain⟨g,hg⟩:=Xa (st.blobs es)
  have G:Hid (RdG encE w ea es/\es.length=en/\fb.length<=8192/\rdtree fb=some es/\st.blobs es=g/\st.size<=1000000/\d.ok/\d.writes<=1000000/\stree st d es=Q/\(ftree es).2=0/\(ftree es).1=fb/\bb=⟨fb.toArray⟩):=⟨hr,K,U,ad,hg,M,aa,hw,hQ,j,l,J⟩
  clear h1 h2 h3 h4 hZ M aa hw hQ hr K U ad hg z j l J;obtain⟨V,X,Y,x3,x4,x5,x6,x7,x8⟩:=y.o.box.cells;obtain⟨z0,O,P,z3,z4,z5,R,S,T⟩:=y.o.res.cells;have a:=y.o.res.thaw;have g0:=a 0;have g1:=a 1;have g2:=a 2;have C:=a 3;have D:=a 4;have E:=a 5;have F:=a 6;have H:=a 7;have I:=a 8;have N:=y.o.res.lt;clear a;go_enter func64,ntmps64;go_wp2_with fail;refine A.mono ?_;rintro e w1 ⟨rfl,B1⟩;have k:Hid (Two w w1 d (Aa fa n fc) (Aa oa on oc) (Aa p t s) (Aa u x tc)):=y.o.below B1;clear A B1;clear V X Y x3 x4 x5 x6 x7 x8;clear z0 O P z3 z4 z5 R S T g0 g1 g2 C D E F H I N;obtain⟨V,X,Y,x3,x4,x5,x6,x7,x8⟩:=k.o.box.cells;obtain⟨z0,O,P,z3,z4,z5,R,S,T⟩:=k.o.res.cells;have a:=k.o.res.thaw;have g0:=a 0;have g1:=a 1;have g2:=a 2;have C:=a 3;have D:=a 4;have E:=a 5;have F:=a 6;have H:=a 7;have I:=a 8;have N:=k.o.res.lt;clear a;have ac:=Ze5 (d:=d) (oc:=oc) (vf:=Aa fa n fc) (vr:=Aa p t s) (vt:=Aa u x tc) (ec:=ec) (L.o.2.1.rd.below k.o.bel) L.o.2.1.len ho (G.o.1.below k.o.bel) G.o.2.1 ah g G.o.2.2.2.2.1;go_wp2_with fail;refine ac.mono ?_;rintro e w2 ⟨rfl,B2⟩;have B:Hid (Two w w2 d (Aa fa n fc) (Aa oa on oc) (Aa p t s) (Aa u x tc)):=k.o.below B2;clear ac B2;clear V X Y x3 x4 x5 x6 x7 x8;clear z0 O P z3 z4 z5 R S T g0 g1 g2 C D E F H I N;obtain⟨V,X,Y,x3,x4,x5,x6,x7,x8⟩:=B.o.box.cells;obtain⟨z0,O,P,z3,z4,z5,R,S,T⟩:=B.o.res.cells;have a:=B.o.res.thaw;have g0:=a 0;have g1:=a 1;have g2:=a 2;have C:=a 3;have D:=a 4;have E:=a 5;have F:=a 6;have H:=a 7;have I:=a 8;have N:=B.o.res.lt;clear a
  cases g with
  | false =>
   have ez:Q=((st,d),0,5):=by
    rw[<- G.o.2.2.2.2.2.2.2.2.1];unfold stree;rw[Aw (by rw[G.o.2.2.2.2.2.2.2.2.2.1];simp),AE G.o.2.2.2.2.1]
   subst ez;go_wp2;refine As (v:=Af #[rm d (Aa fa n fc) (Aa oa on oc) (Aa p t s) (Aa u x tc),Ab Al 0,Ab Ak 5]) ?_ rfl ⟨_,_,_,rfl,?_⟩
   ·simp[AH,Tryz.f64];go_simp
   ·exact⟨rfl,rfl,Zak B.o.bel (RB.o _ B.o.bel) (Zae _ _ _ _ _ _ _ _ _ _ _)⟩
  | true =>
   have ez:sput st d 2 fb=Q:=by
    rw[<- G.o.2.2.2.2.2.2.2.2.1];unfold stree;rw[Aw (by rw[G.o.2.2.2.2.2.2.2.2.2.1];simp),Aw (by rw[G.o.2.2.2.2.1];simp),G.o.2.2.2.2.2.2.2.2.2.2.1]
   have ab:=Zeb (λ i q=>by have:=HZ.o i q;have:=B.o.size;omega) (RB.o w2 B.o.bel) G.o.2.2.2.2.2.1 G.o.2.2.2.2.2.2.1 G.o.2.2.2.2.2.2.2.1 2 (.inr (.inl rfl)) fb G.o.2.2.1 (by unfold St.right;rw[Aw (by show ¬(2:Int)=1;omega),AE rfl];simp only[G.o.2.2.2.1];exact G.o.2.2.2.2.1);rw[ez,show tx fb=Ae bb by rw[G.o.2.2.2.2.2.2.2.2.2.2.2]]at ab;clear ez;go_wp2_with fail;refine ab.mono ?_;rintro e w9 ⟨m9,i9,r9,rfl,R9⟩
   have f:Hid (i9=(Q.2.1.toNat:Int)/\r9=Q.2.2/\RMS (Zy Z w) w9 m9 Q.1.1 Q.1.2/\Two w w9 d (Aa fa n fc) (Aa oa on oc) (Aa p t s) (Aa u x tc)):=⟨R9.o.1,R9.o.2.1,R9.o.2.2.1,B.o.below R9.o.2.2.2⟩
   clear ab R9;obtain⟨ae,ag,af,ai,ak,aj,al,an,am,ao,aq,ap,em,_⟩:=f.o.2.2.1;subst em;clear V X Y x3 x4 x5 x6 x7 x8;clear z0 O P z3 z4 z5 R S T g0 g1 g2 C D E F H I N;obtain⟨z0,O,P,z3,z4,z5,R,S,T⟩:=f.o.2.2.2.res.cells;have a:=f.o.2.2.2.res.thaw;have g0:=a 0;have g1:=a 1;have g2:=a 2;have C:=a 3;have D:=a 4;have E:=a 5;have F:=a 6;have H:=a 7;have I:=a 8;have N:=f.o.2.2.2.res.lt;clear a;go_wp2;refine As (v:=Af #[rm Q.1.2 (Aa ae ag af) (Aa ai ak aj) (Aa al an am) (Aa ao aq ap),Ab Al i9,Ab Ak r9]) ?_ rfl ⟨_,_,_,rfl,?_⟩
   ·simp[AH,Tryz.f64];go_simp
   ·exact⟨f.o.1,f.o.2.1,Zak f.o.2.2.2.bel f.o.2.2.1 (Zae _ _ _ _ _ _ _ _ _ _ _)⟩
 ·have ez:Q=((st,d),0,fe):=by rw[<- hQ];unfold stree;rw[AE (by rw[j];exact h0),j]
  have m0:(fe != 0)=true:=by simpa using h0
  subst ez;clear h1 h2 h3 h4 hZ M aa hw hQ hr K j l J;obtain⟨V,X,Y,x3,x4,x5,x6,x7,x8⟩:=y.o.box.cells;obtain⟨z0,O,P,z3,z4,z5,R,S,T⟩:=y.o.res.cells;have a:=y.o.res.thaw;have g0:=a 0;have g1:=a 1;have g2:=a 2;have C:=a 3;have D:=a 4;have E:=a 5;have F:=a 6;have H:=a 7;have I:=a 8;have N:=y.o.res.lt;clear a;go_enter func64,ntmps64;go_wp2_with fail;refine A.mono ?_;rintro e w1 ⟨rfl,B1⟩;have k:Hid (Two w w1 d (Aa fa n fc) (Aa oa on oc) (Aa p t s) (Aa u x tc)):=y.o.below B1;clear A B1;clear V X Y x3 x4 x5 x6 x7 x8;clear z0 O P z3 z4 z5 R S T g0 g1 g2 C D E F H I N;obtain⟨V,X,Y,x3,x4,x5,x6,x7,x8⟩:=k.o.box.cells;obtain⟨z0,O,P,z3,z4,z5,R,S,T⟩:=k.o.res.cells;have a:=k.o.res.thaw;have g0:=a 0;have g1:=a 1;have g2:=a 2;have C:=a 3;have D:=a 4;have E:=a 5;have F:=a 6;have H:=a 7;have I:=a 8;have N:=k.o.res.lt;clear a;go_wp2;refine As (v:=Af #[rm d (Aa fa n fc) (Aa oa on oc) (Aa p t s) (Aa u x tc),Ab Al 0,Ab Ak fe]) ?_ rfl ⟨_,_,_,rfl,?_⟩
  ·simp[AH,Tryz.f64];go_simp
  ·exact⟨rfl,rfl,Zak k.o.bel (RB.o _ k.o.bel) (Zae _ _ _ _ _ _ _ _ _ _ _)⟩
structure Tri2(w W:Ap)(d:Dk)(vf vo vr vt:Ar)(tr:Int)(pv:Ar)(dt:Int)(nt:ByteArray):Prop where
 bel:An w.heap.size w W
 box:Zco W w.heap.size d vf vo vr vt
 com:Box4 W (w.heap.size+1) 101 (Ab Al tr) pv (Ab Ak dt) (Ae nt)
 res:Nine W (w.heap.size+2) (Aa none 0 0) (Ab Ak 0) (Ad false) (Ad false) (Ab Ak 0) (Ab Ak 0) (Aa none 0 0) (Aa none 0 0) (Aa none 0 0)
theorem Tri2.new(w:Ap)(d:Dk)(vf vo vr vt:Ar)(b:Int)(a:Ar)(dt:Int)(nt:ByteArray):
  Tri2 w (((w.alloc (nineC d vf vo vr vt)).alloc (Ai #[Ab Al b,a,Ab Ak dt,Ae nt] 101)).alloc zeroC) d vf vo vr vt b a dt nt:=by
 have f:(w.alloc (nineC d vf vo vr vt)).heap.size=w.heap.size+1:=by simp
 have c:((w.alloc (nineC d vf vo vr vt)).alloc (Ai #[Ab Al b,a,Ab Ak dt,Ae nt] 101)).heap.size=w.heap.size+2:=by simp
 have b2:=Box4.new (w.alloc (nineC d vf vo vr vt)) 101 (Ab Al b) a (Ab Ak dt) (Ae nt);rw[f]at b2;have e:=Nine.new ((w.alloc (nineC d vf vo vr vt)).alloc (Ai #[Ab Al b,a,Ab Ak dt,Ae nt] 101)) (Aa none 0 0) (Ab Ak 0) (Ad false) (Ad false) (Ab Ak 0) (Ab Ak 0) (Aa none 0 0) (Aa none 0 0) (Aa none 0 0);rw[c]at e;exact⟨bz3 _ _ _ _,((Nine.new w _ _ _ _ _ _ _ _ _).below (bz1 _ _) (by rw[f];omega)).below (bz1 _ _) (by rw[c];omega),b2.below (bz1 _ _) (by rw[c];omega),e⟩
theorem Tri2.below{c:Int}{b:Ar}(h:Tri2 w W d vf vo vr vt c b dt nt)(a:An W.heap.size W W'):Tri2 w W' d vf vo vr vt c b dt nt :=
 ⟨h.bel.trans (a.mono h.bel.size),h.box.below a h.box.lt,h.com.below a h.com.lt,h.res.below a h.res.lt⟩
theorem Tri2.size{b:Int}{a:Ar}(h:Tri2 w W d vf vo vr vt b a dt nt):w.heap.size+3<=W.heap.size:=by
 have:=h.res.lt;omega
theorem ZiA(hZ:∀i,Z i->i<w.heap.size)(h:RMS Z w m st d)(N:st.size<=1000000)(ac:d.ok)(hw:d.writes<=1000000){pa:Option Addr}{pn pc:Nat}{cm:Cm}(hr:RdG encU w pa cm.ps)(M:cm.ps.length=pn)(ak:pn<=4000000000000000000)(nt:ByteArray)(ab:nt=⟨cm.note.toArray⟩)(dt:Int)(aa:cm.date=dt)(Q)(hQ:scom st d cm=Q):
  At Am 68 #[m,Ag #[Ab Al (cm.tree.toNat:Int),Aa pa pn pc,Ab Ak dt,Ae nt]] w λ e w'=>∃m' i r,e=Aj (Af #[m',Ab Al i,Ab Ak r])/\Hid (i=(Q.2.1.toNat:Int)/\r=Q.2.2/\RMS Z w' m' Q.1.1 Q.1.2/\An w.heap.size w w'):=by
 obtain⟨fa,s,fc,oa,on,oc,x,z,y,A,B,tc,rfl,h1,h2,h3,h4⟩:=h
 have ho:on<=1000000:=by rw[<- h2.len];unfold St.size at N;omega
 have L:Hid (LG encF (Zx Z w) w fa s fc d.files/\LG encO (Zx Z w) w oa on oc st.objs/\LG encN (Zx Z w) w x z y st.refs/\LG encN (Zx Z w) w A B tc st.tags):=⟨h1.into (λ i hi q=>q.elim (λ q=>q) (λ q=>by omega)),h2.into (λ i hi q=>q.elim (λ q=>q) (λ q=>by omega)),h3.into (λ i hi q=>q.elim (λ q=>q) (λ q=>by omega)),h4.into (λ i hi q=>q.elim (λ q=>q) (λ q=>by omega))⟩
 have HZ:Hid (∀i,Zx Z w i->i<w.heap.size+3):=λ i q=>q.elim (λ q=>by have:=hZ i q;omega) (λ q=>q.2)
 have RB:Hid (∀W',An w.heap.size w W'->RMS (Zx Z w) W' (rm d (Aa fa s fc) (Aa oa on oc) (Aa x z y) (Aa A B tc)) st d):=λ W' b=>⟨fa,s,fc,oa,on,oc,x,z,y,A,B,tc,rfl,L.o.1.below b,L.o.2.1.below b,L.o.2.2.1.below b,L.o.2.2.2.below b⟩
 have j:=λ(W:Ap) (b:An w.heap.size w W)=>Zfn (c:=cm) (pc:=pc) (hr.below b) M nt ab dt aa
 have n:=λ(W:Ap) (b:An w.heap.size w W) (q:Bool) (hq:st.above cm=q)=>ZeT (d:=d) (oc:=oc) (vf:=Aa fa s fc) (vr:=Aa x z y) (vt:=Aa A B tc) (pc:=pc) (h2.rd.below b) h2.len ho (hr.below b) M ak dt nt q hq
 obtain⟨R,ae⟩:∃R:Int,(cm.tree.toNat:Int)=R:=⟨_,rfl⟩
 rw[ae]at j n ⊢
 obtain⟨fe,k⟩:=Xa ((fcom cm).2)
 obtain⟨fb,u⟩:=Xa ((fcom cm).1)
 obtain⟨bb,K⟩:∃bb:ByteArray,bb=⟨fb.toArray⟩:=⟨_,rfl⟩
 rw[k,u,show tx fb=Ae bb by rw[K]]at j
 obtain⟨W,hW⟩:=Xa (((w.alloc (nineC d (Aa fa s fc) (Aa oa on oc) (Aa x z y) (Aa A B tc))).alloc (Ai #[Ab Al R,Aa pa pn pc,Ab Ak dt,Ae nt] 101)).alloc zeroC)
 have p:Hid (Tri2 w W d (Aa fa s fc) (Aa oa on oc) (Aa x z y) (Aa A B tc) R (Aa pa pn pc) dt nt):=by rw[<- hW];exact Tri2.new w d _ _ _ _ _ _ _ _
 have O:=j W p.o.bel;by_cases h0:fe=0
 ·subst h0;have t:=ZcK k
  have Y:fb.length<=8192:=by
   rw[<- u,t.2];have h1:=(Zb6 t.1).2.1;have h2:=Zbj t.1;omega
  have ag:rdcom fb=some cm:=by rw[<- u,t.2];exact ZcL t.1
  obtain⟨g,hg⟩:=Xa (st.above cm)
  have af:Hid (∀W',An w.heap.size w W'->At Am 123 #[rm d (Aa fa s fc) (Aa oa on oc) (Aa x z y) (Aa A B tc),Ag #[Ab Al R,Aa pa pn pc,Ab Ak dt,Ae nt]] W' λ e w'=>e=Aj (Ad g)/\An W'.heap.size W' w'):=λ W' b=>n W' b g hg
  have G:Hid (fb.length<=8192/\rdcom fb=some cm/\st.above cm=g/\st.size<=1000000/\d.ok/\d.writes<=1000000/\scom st d cm=Q/\(fcom cm).2=0/\(fcom cm).1=fb/\bb=⟨fb.toArray⟩):=⟨Y,ag,hg,N,ac,hw,hQ,k,u,K⟩
  clear h1 h2 h3 h4 hZ N ac hw hQ hr M Y ag hg t k u K n j ab aa ae;obtain⟨x0,x1,x2,x3,x4,x5,x6,x7,x8⟩:=p.o.box.cells;obtain⟨c0,c1,c2,c3⟩:=p.o.com.cells;obtain⟨z0,S,T,z3,z4,z5,U,V,X⟩:=p.o.res.cells;have a:=p.o.res.thaw;have g0:=a 0;have g1:=a 1;have g2:=a 2;have D:=a 3;have E:=a 4;have F:=a 5;have H:=a 6;have I:=a 7;have J:=a 8;have P:=p.o.res.lt;clear a;go_enter func68,ntmps68;go_wp2_with fail;refine O.mono ?_;rintro e w1 ⟨rfl,B1⟩;have l:Hid (Tri2 w w1 d (Aa fa s fc) (Aa oa on oc) (Aa x z y) (Aa A B tc) R (Aa pa pn pc) dt nt):=p.o.below B1;clear O B1;clear x0 x1 x2 x3 x4 x5 x6 x7 x8;clear z0 S T z3 z4 z5 U V X g0 g1 g2 D E F H I J P;clear c0 c1 c2 c3;obtain⟨x0,x1,x2,x3,x4,x5,x6,x7,x8⟩:=l.o.box.cells;obtain⟨c0,c1,c2,c3⟩:=l.o.com.cells;obtain⟨z0,S,T,z3,z4,z5,U,V,X⟩:=l.o.res.cells;have a:=l.o.res.thaw;have g0:=a 0;have g1:=a 1;have g2:=a 2;have D:=a 3;have E:=a 4;have F:=a 5;have H:=a 6;have I:=a 7;have J:=a 8;have P:=l.o.res.lt;clear a;go_wp2_with fail;refine(af.o w1 l.o.bel).mono ?_;rintro e w2 ⟨rfl,B2⟩;have C:Hid (Tri2 w w2 d (Aa fa s fc) (Aa oa on oc) (Aa x z y) (Aa A B tc) R (Aa pa pn pc) dt nt):=l.o.below B2;clear af B2;clear x0 x1 x2 x3 x4 x5 x6 x7 x8;clear z0 S T z3 z4 z5 U V X g0 g1 g2 D E F H I J P;clear c0 c1 c2 c3;obtain⟨x0,x1,x2,x3,x4,x5,x6,x7,x8⟩:=C.o.box.cells;obtain⟨z0,S,T,z3,z4,z5,U,V,X⟩:=C.o.res.cells;have a:=C.o.res.thaw;have g0:=a 0;have g1:=a 1;have g2:=a 2;have D:=a 3;have E:=a 4;have F:=a 5;have H:=a 6;have I:=a 7;have J:=a 8;have P:=C.o.res.lt;clear a
  cases g with
  | false =>
   have ez:Q=((st,d),0,5):=by
    rw[<- G.o.2.2.2.2.2.2.1];unfold scom;rw[Aw (by rw[G.o.2.2.2.2.2.2.2.1];simp),AE G.o.2.2.1]
   subst ez;go_wp2;refine As (v:=Af #[rm d (Aa fa s fc) (Aa oa on oc) (Aa x z y) (Aa A B tc),Ab Al 0,Ab Ak 5]) ?_ rfl ⟨_,_,_,rfl,?_⟩
   ·simp[AH,Tryz.f68];go_simp
   ·exact⟨rfl,rfl,Zai C.o.bel (RB.o _ C.o.bel) (Zae _ _ _ _ _ _ _ _ _ _ _)⟩
  | true =>
   have ez:sput st d 3 fb=Q:=by
    rw[<- G.o.2.2.2.2.2.2.1];unfold scom;rw[Aw (by rw[G.o.2.2.2.2.2.2.2.1];simp),Aw (by rw[G.o.2.2.1];simp),G.o.2.2.2.2.2.2.2.2.1]
   have ad:=Zeb (λ i q=>by have:=HZ.o i q;have:=C.o.size;omega) (RB.o w2 C.o.bel) G.o.2.2.2.1 G.o.2.2.2.2.1 G.o.2.2.2.2.2.1 3 (.inr (.inr rfl)) fb G.o.1 (by unfold St.right;rw[Aw (by show ¬(3:Int)=1;omega),Aw (by show ¬(3:Int)=2;omega),AE rfl];simp only[G.o.2.1];exact G.o.2.2.1);rw[ez,show tx fb=Ae bb by rw[G.o.2.2.2.2.2.2.2.2.2]]at ad;clear ez;go_wp2_with fail;refine ad.mono ?_;rintro e w9 ⟨m9,i9,r9,rfl,R9⟩
   have f:Hid (i9=(Q.2.1.toNat:Int)/\r9=Q.2.2/\RMS (Zx Z w) w9 m9 Q.1.1 Q.1.2/\Tri2 w w9 d (Aa fa s fc) (Aa oa on oc) (Aa x z y) (Aa A B tc) R (Aa pa pn pc) dt nt):=⟨R9.o.1,R9.o.2.1,R9.o.2.2.1,C.o.below R9.o.2.2.2⟩
   clear ad R9;obtain⟨ah,aj,ai,al,an,am,ao,aq,ap,ar,av,au,em,_⟩:=f.o.2.2.1;subst em;clear x0 x1 x2 x3 x4 x5 x6 x7 x8;clear z0 S T z3 z4 z5 U V X g0 g1 g2 D E F H I J P;obtain⟨z0,S,T,z3,z4,z5,U,V,X⟩:=f.o.2.2.2.res.cells;have a:=f.o.2.2.2.res.thaw;have g0:=a 0;have g1:=a 1;have g2:=a 2;have D:=a 3;have E:=a 4;have F:=a 5;have H:=a 6;have I:=a 7;have J:=a 8;have P:=f.o.2.2.2.res.lt;clear a;go_wp2;refine As (v:=Af #[rm Q.1.2 (Aa ah aj ai) (Aa al an am) (Aa ao aq ap) (Aa ar av au),Ab Al i9,Ab Ak r9]) ?_ rfl ⟨_,_,_,rfl,?_⟩
   ·simp[AH,Tryz.f68];go_simp
   ·exact⟨f.o.1,f.o.2.1,Zai f.o.2.2.2.bel f.o.2.2.1 (Zae _ _ _ _ _ _ _ _ _ _ _)⟩
 ·have ez:Q=((st,d),0,fe):=by rw[<- hQ];unfold scom;rw[AE (by rw[k];exact h0),k]
  have m0:(fe != 0)=true:=by simpa using h0
  subst ez;clear h1 h2 h3 h4 hZ N ac hw hQ hr M k u K n j ab aa ae;obtain⟨x0,x1,x2,x3,x4,x5,x6,x7,x8⟩:=p.o.box.cells;obtain⟨c0,c1,c2,c3⟩:=p.o.com.cells;obtain⟨z0,S,T,z3,z4,z5,U,V,X⟩:=p.o.res.cells;have a:=p.o.res.thaw;have g0:=a 0;have g1:=a 1;have g2:=a 2;have D:=a 3;have E:=a 4;have F:=a 5;have H:=a 6;have I:=a 7;have J:=a 8;have P:=p.o.res.lt;clear a;go_enter func68,ntmps68;go_wp2_with fail;refine O.mono ?_;rintro e w1 ⟨rfl,B1⟩;have l:Hid (Tri2 w w1 d (Aa fa s fc) (Aa oa on oc) (Aa x z y) (Aa A B tc) R (Aa pa pn pc) dt nt):=p.o.below B1;clear O B1;clear x0 x1 x2 x3 x4 x5 x6 x7 x8;clear z0 S T z3 z4 z5 U V X g0 g1 g2 D E F H I J P;clear c0 c1 c2 c3;obtain⟨x0,x1,x2,x3,x4,x5,x6,x7,x8⟩:=l.o.box.cells;obtain⟨z0,S,T,z3,z4,z5,U,V,X⟩:=l.o.res.cells;have a:=l.o.res.thaw;have g0:=a 0;have g1:=a 1;have g2:=a 2;have D:=a 3;have E:=a 4;have F:=a 5;have H:=a 6;have I:=a 7;have J:=a 8;have P:=l.o.res.lt;clear a;go_wp2;refine As (v:=Af #[rm d (Aa fa s fc) (Aa oa on oc) (Aa x z y) (Aa A B tc),Ab Al 0,Ab Ak fe]) ?_ rfl ⟨_,_,_,rfl,?_⟩
  ·simp[AH,Tryz.f68];go_simp
  ·exact⟨rfl,rfl,Zai l.o.bel (RB.o _ l.o.bel) (Zae _ _ _ _ _ _ _ _ _ _ _)⟩
end Go.Proofs.YtlojblelpaegpaaGreat
