/-
  Several texts, laid together.
-/
import Derived.Test.YtlojblelpaegpaaGreatM04
import Derived.Lib.AppendStr
import Derived.Shelf.Slices.Clone
import Derived.Shelf.Slices.CompactS
import Derived.Shelf.Small.Wraps
import Derived.Shelf.Sort.Plain
import Derived.Shelf.Strings.Prefix
import Derived.Shelf.Slices.In.SortNone
set_option maxHeartbeats 6400000
set_option maxRecDepth 100000
open Go renaming World->Ap,Value->Ar,MapEntry->GZ,Calls->At,bodyPost_ret->As,results->AH
open Go.Value renaming ownBlock->BY,slice->Aa,int->Ab,bool->Ad,string->Ae,tuple->Af
open Array renaming getElem?_eq_some_iff->AX
open Nat renaming lt_of_lt_of_le->AI,mod_eq_of_lt->Ey,le_trans->AZ
open Go.IntKind renaming u64->Bl,wrap_u64->Bh,i64->Ak
open BitVec renaming ofInt->CY,ofInt_natCast->Gw,toNat_ofNat->EQ
open List renaming take_of_length_le->Av,length_append->AD,append_assoc->A9
open UInt8 renaming ofNat->AW,toNat_ofNat'->Bk
open Go.Lib renaming strCells->Gp,indexByte->Cw
open Go.Shelf renaming Ren->ED
open Go.Proofs.Lays renaming n103->Hs,n190->GE,n99->Hw,n194->Hu
open Go.Ending renaming returned->Aj
open Go.Proofs.Tryz renaming prog->Am
open Go.Proofs.Tryz
namespace Go.Proofs.YtlojblelpaegpaaGreat
open Go.RowKit
variable{F:Fs}{S S' T:Nat->Prop}{X X':Bs->Prop}{a:Option Addr}{base c cl g i m n:Nat}{bs l:Bs}{es:Array GZ}{f:Bs->Option Ar}{s:ByteArray}{v:Ar}{w w':Ap}
structure Zcz(w:Ap)(m:Nat)(S:Nat->Prop)(F:Fs)(f:Bs->Option Ar)(X:Bs->Prop):Prop where
 map:Zb2 w m f F.length
 no:∀x,fget F x=none->f x=none
 yes:∀x bs,fget F x=some bs->∃v,f x=some v/\(X x∨OwnB w v bs)
 apart:∀x y u v g,x≠y->f x=some u->f y=some v->u.ownBlock=some g->v.ownBlock≠some g
 own:∀x v g,f x=some v->v.ownBlock=some g->S g
structure ZaH(w:Ap)(b m:Nat)(f:Bs->Option Ar)(a k:Int)(d:Dk)(S:Nat->Prop)(X:Bs->Prop):Prop where
 cells:w.heap[b]? = some (.cells #[.map (some m),Ab Ak (d.writes:Int),Ad d.dead,Ad d.armed,Ab Ak a,Ab Ak k] 213 (0,0))
 cut:d.armed=true->a=(d.after:Int)/\k=(d.keep:Int)
 files:Zcz w m S d.files f X
 mine:S b/\S m
 lt:∀i,S i->i<w.heap.size
abbrev Zaq(w:Ap)(b m:Nat)(f:Bs->Option Ar)(a k:Int)(d:Dk)(S:Nat->Prop):Prop:=ZaH w b m f a k d S (λ _=>False)
def Zav(w:Ap)(b:Nat)(d:Dk)(S:Nat->Prop):Prop:=∃m f a k,Zaq w b m f a k d S
theorem OwnB.block(h:OwnB w v bs)(b:v.ownBlock=some g):∃a,w.heap[g]? = some (.cells a 5 (0,0)):=by
 rcases h.2 with⟨rfl,_⟩ | ⟨c,cap,a,rfl,_,d,_⟩
 ·simp[BY]at b
 ·have:c=g:=by simpa[BY]using b
  subst this;exact⟨a,d⟩
theorem OwnB.turned(h:OwnB w v bs)(b:Zaa S w w')(a:∀g,v.ownBlock=some g->¬S g):OwnB w' v bs:=Za3 h b a
theorem Zcz.turned(h:Zcz w m S F f X)(b:Zaa T w w')(i:¬T m)(d:∀x v g,f x=some v->¬X x->v.ownBlock=some g->¬T g):Zcz w' m S F f X where
 map:=h.map.turned b i
 no:=h.no
 yes:=λ x bs k=>by
  obtain⟨v,c,j⟩:=h.yes x bs k;refine⟨v,c,?_⟩
  rcases j with q|q
  ·exact .inl q
  ·by_cases a:X x
   ·exact .inl a
   ·exact .inr (q.turned b (λ g e=>d x v g c a e))
 apart:=h.apart
 own:=h.own
theorem Zcz.mono(h:Zcz w m S F f X)(c:∀i,S i->S' i)(d:∀x,X x->X' x):Zcz w m S' F f X' where
 map:=h.map
 no:=h.no
 yes:=λ x bs k=>by
  obtain⟨v,j,e⟩:=h.yes x bs k;exact⟨v,j,e.imp (d x) id⟩
 apart:=h.apart
 own:=λ x v g a b=>c g (h.own x v g a b)
theorem ZaH.mono{b:Nat}{a k:Int}{d:Dk}(h:ZaH w b m f a k d S X)(c:∀i,S i->S' i)(e:∀x,X x->X' x)(g:∀i,S' i->i<w.heap.size):ZaH w b m f a k d S' X' :=
 ⟨h.cells,h.cut,h.files.mono c e,⟨c _ h.mine.1,c _ h.mine.2⟩,g⟩
section
variable{S:Nat->Prop}{X:Bs->Prop}{w w':World}{b m:Nat}{f:Bs->Option Value}{a k:Int}{d:Dk}
theorem ZaH.lt_b(h:ZaH w b m f a k d S X):b<w.heap.size:=(AX.1 h.cells).1
theorem ZaH.m_ne(h:ZaH w b m f a k d S X):m≠b:=by
 obtain⟨es,c,g⟩:=h.files.map.block;intro e;rw[e,h.cells]at g;cases g
theorem ZaH.file(h:ZaH w b m f a k d S X)(x:Bs):(fget d.files x=none/\f x=none)∨∃bs v,fget d.files x=some bs/\f x=some v/\(X x∨OwnB w v bs):=by
 cases e:fget d.files x with
 | none=>exact .inl ⟨rfl,h.files.no x e⟩
 | some bs =>
  obtain⟨v,c,g⟩:=h.files.yes x bs e;exact .inr ⟨bs,v,rfl,c,g⟩
theorem ZaH.some_iff(h:ZaH w b m f a k d S X)(x:Bs):(f x).isSome=(fget d.files x).isSome:=by
 rcases h.file x with⟨c,e⟩ | ⟨bs,v,c,e,_⟩ <;> rw[c,e] <;> rfl
theorem Zaq.row_ne(h:Zaq w b m f a k d S){x:Bs}(j:f x=some v)(p:v.ownBlock=some g):g≠b/\g≠m:=by
 rcases h.file x with⟨_,l⟩ | ⟨bs,u,_,l,n⟩
 ·rw[l]at j;cases j
 ·rw[l]at j;cases j;have n:OwnB w v bs:=n.elim False.elim id;obtain⟨o,i⟩:=n.block p;refine⟨λ e=>?_,λ e=>?_⟩
  ·rw[e,h.cells]at i;cases i
  ·obtain⟨es,c,q⟩:=h.files.map.block;rw[e,q]at i;cases i
theorem ZaH.cell(h:ZaH w b m f a k d S X):
  w.cell? ⟨b,0,none⟩=some (.map (some m))/\w.cell? ⟨b,1,none⟩=some (Ab Ak (d.writes:Int))/\w.cell? ⟨b,2,none⟩=some (Ad d.dead)/\w.cell? ⟨b,3,none⟩=some (Ad d.armed) /\
  w.cell? ⟨b,4,none⟩=some (Ab Ak a)/\w.cell? ⟨b,5,none⟩=some (Ab Ak k)/\∀i,w.frozen? ⟨b,i,none⟩=false:=by
 simp[World.cell?,World.frozen?,h.cells]
theorem Zaq.wrote(h:Zaq w b m f a k d S)(j:Zaa (λ i=>i=b) w w'){d':Dk}{c e:Int}(p:d'.files=d.files)
  (o:w'.heap[b]? = some (.cells #[.map (some m),Ab Ak (d'.writes:Int),Ad d'.dead,Ad d'.armed,Ab Ak c,Ab Ak e] 213 (0,0))) (hcut:d'.armed=true->c=(d'.after:Int)/\e=(d'.keep:Int)):Zaq w' b m f c e d' S :=
 ⟨o,hcut,by rw[p];exact h.files.turned j h.m_ne (λ x v g l _ n=>(h.row_ne l n).1),h.mine,λ i hi=>AI (h.lt i hi) j.size⟩
theorem ZaH.stays(h:ZaH w b m f a k d S X)(e:Zaa T w w')(c:∀i,S i->¬T i):ZaH w' b m f a k d S X :=
 ⟨(e.block b h.lt_b (c b h.mine.1)).trans h.cells,h.cut,h.files.turned e (c m h.mine.2) (λ x v g j _ l=>c g (h.files.own x v g j l)),h.mine,λ i hi=>AI (h.lt i hi) e.size⟩
theorem ZaH.below(h:ZaH w b m f a k d S X)(c:Below w.heap.size w w'):ZaH w' b m f a k d S X:=h.stays (T:=λ _=>False) (Zaa.ofBelow c) (λ _ _ q=>q)
theorem Zav.stays(h:Zav w b d S)(e:Zaa T w w')(c:∀i,S i->¬T i):Zav w' b d S:=by
 obtain⟨m,f,a,k,h⟩:=h;exact⟨m,f,a,k,ZaH.stays h e c⟩
theorem Zav.below(h:Zav w b d S)(a:Below w.heap.size w w'):Zav w' b d S:=h.stays (T:=λ _=>False) (Zaa.ofBelow a) (λ _ _ q=>q)
theorem Zav.lt(h:Zav w b d S):∀i,S i->i<w.heap.size:=by
 obtain⟨m,f,a,k,h⟩:=h;exact ZaH.lt h
end
def ZaA(S:Nat->Prop)(w w':Ap):Nat->Prop:=λ i=>S i∨(w.heap.size<=i/\i<w'.heap.size)
abbrev idv(i:UInt64):Ar:=Ab Bl (i.toNat:Int)
def nview(l:List (Nm UInt64)):Bs->Option Ar:=λ n=>(nget l n).map idv
def ZdW(S:Nat->Prop)(v:Ar):Prop:=∀p n c,v=Aa (some p) n c->0<n->S p.block
structure Zan(w:Ap)(s b:Nat)(M:Nat->Nat)(r t:Nat)(F:Nat->UInt64->Option Ar)(st:St)(S:Nat->Prop):Prop where
 cells:w.heap[s]? = some (.cells #[.pointer (some ⟨b,0,none⟩),.map (some (M 0)),.map (some (M 1)),.map (some (M 2)),.map (some (M 3)),.map (some r),.map (some t)] 117 (0,0))
 objs:∀k,k<4->∃n,n<=st.objs.length/\MapG kU w (M k) (F k) n
 refs:MapG kS w r (nview st.refs) st.refs.length
 tags:MapG kS w t (nview st.tags) st.tags.length
 gone:∀k:Nat,k<4->∀i,oget st.objs (k:Int) i=none->F k i=none
 there:∀k:Nat,k<4->∀i bs,oget st.objs (k:Int) i=some bs->∃v,F k i=some v/\BAt w v bs/\ZdW S v
 inj:∀j k,j<4->k<4->M j=M k->j=k
 apart:(∀k,k<4->M k≠r/\M k≠t)/\r≠t
 own:S s/\S r/\S t/\∀k,k<4->S (M k)
 lt:∀i,S i->i<w.heap.size
def Zac(w:Ap)(s b:Nat)(st:St)(S:Nat->Prop):Prop:=∃M r t F,Zan w s b M r t F st S
theorem Zoy(h:w.heap[m]? = some (.map es c))(o:Nat):w.cell? ⟨m,o,none⟩=none:=by
 simp[World.cell?,h]
theorem BAt.no_map(h:BAt w (Aa a n c) bs)(l:w.heap[m]? = some (.map es cl)):0<n->∀p,a=some p->p.block≠m:=by
 intro d p hp e;obtain⟨ao,c',f,q,r,i⟩:=h;cases f;obtain⟨g,off,b,k,j⟩:=i d;rw[hp]at b;cases b;obtain⟨x,o⟩:=Zaf (xs:=bs) rfl d;have:=j 0 x o 0 (Ab .u8 (x.toNat:Int)) rfl;have e:g=m:=e;rw[e,Zoy l]at this;cases this
section
variable{w w':World}{s b:Nat}{M:Nat->Nat}{r t:Nat}{F:Nat->UInt64->Option Value}{st:St}{S:Nat->Prop}
theorem Zan.lt_s(h:Zan w s b M r t F st S):s<w.heap.size:=(AX.1 h.cells).1
theorem Zan.map_ne(h:Zan w s b M r t F st S):r≠s/\t≠s/\∀k,k<4->M k≠s:=by
 refine⟨λ e=>?_,λ e=>?_,λ k d e=>?_⟩
 ·obtain⟨es,c,a⟩:=h.refs.block;rw[e,h.cells]at a;cases a
 ·obtain⟨es,c,a⟩:=h.tags.block;rw[e,h.cells]at a;cases a
 ·obtain⟨n,_,f⟩:=h.objs k d;obtain⟨es,c,a⟩:=f.block;rw[e,h.cells]at a;cases a
theorem Zan.cell(h:Zan w s b M r t F st S):
  w.cell? ⟨s,0,none⟩=some (.pointer (some ⟨b,0,none⟩))/\w.cell? ⟨s,1,none⟩=some (.map (some (M 0)))/\w.cell? ⟨s,2,none⟩=some (.map (some (M 1)))/\w.cell? ⟨s,3,none⟩=some (.map (some (M 2))) /\
  w.cell? ⟨s,4,none⟩=some (.map (some (M 3)))/\w.cell? ⟨s,5,none⟩=some (.map (some r))/\w.cell? ⟨s,6,none⟩=some (.map (some t)):=by
 simp[World.cell?,h.cells]
theorem Zan.mono(h:Zan w s b M r t F st S)(a:∀i,S i->S' i)(m:∀i,S' i->i<w.heap.size):Zan w s b M r t F st S' where
 cells:=h.cells
 objs:=h.objs
 refs:=h.refs
 tags:=h.tags
 gone:=h.gone
 there:=λ k d i bs o=>by
  obtain⟨v,g,j,l⟩:=h.there k d i bs o;exact⟨v,g,j,λ p n c e f=>a _ (l p n c e f)⟩
 inj:=h.inj
 apart:=h.apart
 own:=⟨a _ h.own.1,a _ h.own.2.1,a _ h.own.2.2.1,λ k d=>a _ (h.own.2.2.2 k d)⟩
 lt:=m
theorem Zlo(h:BAt w v bs)(j:ZdW S v)(g:Zaa T w w')(f:∀i,S i->¬T i):BAt w' v bs:=by
 obtain⟨ao,c,rfl,b,d,e⟩:=h;exact⟨ao,c,rfl,b,d,e.turned g (λ a p hp=>f _ (j p _ c (by rw[hp]) a))⟩
theorem Zan.stays(h:Zan w s b M r t F st S)(a:Zaa T w w')(c:∀i,S i->¬T i):Zan w' s b M r t F st S where
 cells:=(a.block s h.lt_s (c s h.own.1)).trans h.cells
 objs:=λ k d=>by
  obtain⟨n,e,f⟩:=h.objs k d;exact⟨n,e,f.turned a (c _ (h.own.2.2.2 k d))⟩
 refs:=h.refs.turned a (c _ h.own.2.1)
 tags:=h.tags.turned a (c _ h.own.2.2.1)
 gone:=h.gone
 there:=λ k d i bs j=>by
  obtain⟨v,e,f,g⟩:=h.there k d i bs j;exact⟨v,e,Zlo f g a c,g⟩
 inj:=h.inj
 apart:=h.apart
 own:=h.own
 lt:=λ i hi=>AI (h.lt i hi) a.size
theorem Zan.below(h:Zan w s b M r t F st S)(a:Below w.heap.size w w'):Zan w' s b M r t F st S:=h.stays (T:=λ _=>False) (Zaa.ofBelow a) (λ _ _ q=>q)
theorem Zga(h:BAt w v bs)(f:w.heap[m]? = some (.map es cl))(j:Zaa (λ i=>i=m) w w'):BAt w' v bs:=by
 obtain⟨ao,c,rfl,a,b,d⟩:=h;have g:=BAt.no_map ⟨ao,c,rfl,a,b,d⟩ f;exact⟨ao,c,rfl,a,b,d.turned j (λ e p hp q=>g e p hp q)⟩
theorem Zan.add(h:Zan w s b M r t F st S){k:Nat}(l:k<4){i:UInt64}(hi:oget st.objs (k:Int) i=none)(D:BAt w v bs)(E:ZdW S v)(B:MapG kU w' (M k) (gput (F k) i v) n)(C:n<=st.objs.length+1)(g:Zaa (λ x=>x=M k) w w'):
  Zan w' s b M r t (λ j=>if j=k then gput (F k) i v else F j) { st with objs:=st.objs++[⟨(k:Int),i,bs⟩] } S:=by
 obtain⟨H,_,p⟩:=h.objs k l;obtain⟨es,cl,c⟩:=p.block;refine⟨?_,?_,?_,?_,?_,?_,h.inj,h.apart,h.own,λ i hi=>AI (h.lt i hi) g.size⟩
 ·exact(g.block s h.lt_s (λ e=>h.map_ne.2.2 k l e.symm)).trans h.cells
 ·intro j d;by_cases e:j=k
  ·subst e;exact⟨n,by simpa using C,by simpa using B⟩
  ·obtain⟨G,m,o⟩:=h.objs j d;refine⟨G,by simp;omega,?_⟩;simp only[Aw e];exact o.turned g (λ q=>e (h.inj j k d l q))
 ·exact h.refs.turned g (λ q=>(h.apart.1 k l).1 q.symm)
 ·exact h.tags.turned g (λ q=>(h.apart.1 k l).2 q.symm)
 ·intro j d x a;have a:oget (st.objs++[⟨(k:Int),i,bs⟩]) (j:Int) x=none:=a;rw[Za4]at a
  cases e:oget st.objs (j:Int) x with
  | some y=>rw[e]at a;cases a
  | none =>
   rw[e]at a;by_cases q:j=k
   ·subst q
    have f:x≠i:=λ q=>by
     subst q;simp at a
    simp only[Fa,gput,Aw f];exact h.gone j d x e
   ·simp only[Aw q];exact h.gone j d x e
 ·intro j d x y a;have a:oget (st.objs++[⟨(k:Int),i,bs⟩]) (j:Int) x=some y:=a;rw[Za4]at a
  cases e:oget st.objs (j:Int) x with
  | some z =>
   rw[e]at a;cases a;obtain⟨u,m,o,A⟩:=h.there j d x y e;refine⟨u,?_,Zga o c g,A⟩;by_cases q:j=k
   ·subst q
    have f:x≠i:=λ q=>by
     subst q;rw[hi]at e;cases e
    simp only[Fa,gput,Aw f];exact m
   ·simp only[Aw q];exact m
  | none =>
   rw[e]at a;by_cases q:(k:Int)=(j:Int)/\i=x
   ·simp only[q,and_self,Fa]at a;cases a;obtain⟨I,rfl⟩:=q
    obtain rfl:k=j:=by omega
    exact⟨v,by simp[gput],Zga D c g,E⟩
   ·simp only[q,Eg]at a;cases a
theorem Zac.stays(h:Zac w s b st S)(c:Zaa T w w')(a:∀i,S i->¬T i):Zac w' s b st S:=by
 obtain⟨M,r,t,F,h⟩:=h;exact⟨M,r,t,F,h.stays c a⟩
theorem Zac.below(h:Zac w s b st S)(a:Below w.heap.size w w'):Zac w' s b st S:=h.stays (T:=λ _=>False) (Zaa.ofBelow a) (λ _ _ q=>q)
theorem Zac.mono(h:Zac w s b st S)(a:∀i,S i->S' i)(c:∀i,S' i->i<w.heap.size):Zac w s b st S':=by
 obtain⟨M,r,t,F,h⟩:=h;exact⟨M,r,t,F,h.mono a c⟩
theorem Zac.lt(h:Zac w s b st S):∀i,S i->i<w.heap.size:=by
 obtain⟨M,r,t,F,h⟩:=h;exact h.lt
end
def Duo(w:Ap)(s b:Nat)(st:St)(d:Dk)(U:Nat->Prop):Prop:=∃S T,Zac w s b st S/\Zav w b d T/\(∀i,S i->¬T i)/\(∀i,S i∨T i->U i)/\∀i,U i->i<w.heap.size
section
variable{w w':World}{s b:Nat}{st:St}{d:Dk}{U:Nat->Prop}
theorem Duo.stays(h:Duo w s b st d U)(c:Zaa T w w')(e:∀i,U i->¬T i):Duo w' s b st d U:=by
 obtain⟨S,D,f,g,j,a,k⟩:=h;exact⟨S,D,f.stays c (λ i hi=>e i (a i (.inl hi))),g.stays c (λ i hi=>e i (a i (.inr hi))),j,a,λ i hi=>AI (k i hi) c.size⟩
theorem Duo.below(h:Duo w s b st d U)(a:Below w.heap.size w w'):Duo w' s b st d U:=h.stays (T:=λ _=>False) (Zaa.ofBelow a) (λ _ _ q=>q)
theorem Duo.mono{a:Nat->Prop}(h:Duo w s b st d U)(j:∀i,U i->a i)(k:∀i,a i->i<w.heap.size):Duo w s b st d a:=by
 obtain⟨S,D,c,e,f,g,l⟩:=h;exact⟨S,D,c,e,f,λ i hi=>j i (g i hi),k⟩
theorem Duo.lt(h:Duo w s b st d U):∀i,U i->i<w.heap.size:=by
 obtain⟨S,D,_,_,_,_,a⟩:=h;exact a
end
theorem Zp7(a b:Nat)(e:a<18446744073709551616)(f:b<18446744073709551616):bits BinOp.or Bl (a:Int) (b:Int)=((a ||| b:Nat):Int):=by
 have g:a ||| b<2 ^ 64:=Nat.or_lt_two_pow e f
 have c:(CY 64 (a:Int)).toNat=a:=by
  rw[Gw,EQ];exact Ey (by omega)
 have d:(CY 64 (b:Int)).toNat=b:=by
  rw[Gw,EQ];exact Ey (by omega)
 show Bl.wrap ((CY 64 (a:Int) ||| CY 64 (b:Int)).toNat:Int)=_;rw[BitVec.toNat_or,c,d,Bh];omega
theorem Zmb{v:Nat}(y:UInt8)(c:v<72057594037927936):bits BinOp.or Bl ((v:Int)*256) (Bl.wrap (y.toNat:Int))=((v*256+y.toNat:Nat):Int):=by
 have d:=y.toNat_lt
 have a:(v:Int)*256=((2 ^ 8*v:Nat):Int):=by omega
 have b:Bl.wrap (y.toNat:Int)=((y.toNat:Nat):Int):=by rw[Bh];omega
 rw[a,b,Zp7 _ _ (by omega) (by omega),<- Nat.two_pow_add_eq_or_of_lt (by omega) _];omega
theorem Zdl{L:Nat}(h:BAt w (Aa a L c) bs)(s:bs.length=L)(D:L<=8):
  At Am 164 #[Aa a L c] w λ e w'=>e=Aj (Ab Bl (val bs:Int))/\w'=w:=by
 have H:Hid (RdG encB w a bs/\bs.length=L):=by
  obtain⟨ao,c',e,_,_,x⟩:=h;cases e;exact⟨x,s⟩
 clear h s;go_enter func164,ntmps164;go_wp2_with fail;go_loopg[3,8] L (λ m B A wr=>wr=w/\∃(i v:Nat),A=Ab Ak i/\i+m=L/\B=Ab Bl (v:Int)/\Hid (val (bs.take i)=v))
 case atStart=>exact⟨rfl,0,0,rfl,by omega,rfl,rfl⟩
 case round =>
  obtain⟨l,i,v,rfl,hi,rfl,q⟩:=hrel;subst l;by_cases j:i<L
  ·have id:(i:Int)<(L:Int):=by omega
   obtain⟨b,off,rfl,z,r⟩:=H.o.1 (by rw[H.o.2];omega)
   have g:i<bs.length:=by rw[H.o.2];exact j
   obtain⟨y,p⟩:=Xa (bs[i])
   have C:wr.cell? ⟨b,off+i,none⟩=some (Ab .u8 (y.toNat:Int)):=by
    have:=r i y (by rw[List.getElem?_eq_getElem g,p]) 0 _ rfl;rw[show i*encB.size+0=i from(by show i*1+0=i;omega)]at this;exact this
   have d:=ZfB bs i g;have f:=Zg0 (bs.take i);rw[q.o]at d f;rw[p]at d
   have k:v<72057594037927936:=by
    have:(bs.take i).length<=7:=by rw[List.length_take];omega
    have:=Nat.pow_le_pow_right (n:=256) (by decide) this
    have e:256 ^ 7=72057594037927936:=by decide
    omega
   have hor:=Zmb y k;have u:Hid (val (bs.take (i+1))=v*256+y.toNat):=d;clear d f g r p;go_wp2;go_roundg (gk - 1)
   case measure=>omega
   case rel=>exact⟨rfl,i+1,v*256+y.toNat,by go_num,by omega,by go_num,u.o⟩
  ·obtain rfl:i=L:=by omega
   have e:bs.take i=bs:=Av (by rw[H.o.2];omega)
   have t:Hid (val bs=v):=by rw[<- e];exact q.o
   clear e;go_wp2;go_ret;exact⟨by rw[t.o];rfl,rfl⟩
theorem Zch(n:Nat)(l:OwnG encB 5 w base v bs)(i:base<=w.heap.size)(j:bs.length<=100000000000000):
  At Am 187 #[v,Ab Bl (n:Int)] w λ e w'=>∃v',e=Aj v'/\Hid (OwnG encB 5 w' base v' (bs++low 8 n)/\Below base w w'/\Zaa (λ k=>v.ownBlock=some k) w w'):=by
 have H:Hid (OwnG encB 5 w base v bs/\base<=w.heap.size/\bs.length<=100000000000000):=⟨l,i,j⟩
 clear l i j;go_enter func187,ntmps187;go_wp2_with fail;go_loopg[0,5] 8 (λ m h u wr=>u=Ab Ak (8*(m:Int) - 8)/\m<=8/\Hid (OwnG encB 5 wr base h (bs++low (8 - m) (n / 256 ^ m))/\Below base w wr/\Zaa (λ k=>v.ownBlock=some k) w wr/\ZaP w v h))
 case atStart=>exact⟨rfl,Nat.le_refl _,by simpa[low]using H.o.1,Below.refl _ _,Zaa.refl _ _,ZaP.refl _ _⟩
 case round =>
  obtain⟨rfl,x,a⟩:=hrel
  cases gk with
  | zero =>
   go_wp2;go_ret;exact⟨_,rfl,by simpa using a.o.1,a.o.2.1,a.o.2.2.1⟩
  | succ gk =>
   obtain⟨y,g⟩:∃y:UInt8,AW (n / 256 ^ gk)=y:=⟨_,rfl⟩
   have s:(n:Int) / 2 ^ (8*(gk+1) - 8) % 256=(y.toNat:Int):=by
    have r:((2:Int) ^ (8*gk))=((256 ^ gk:Nat):Int):=by
     rw[show(256:Nat) ^ gk=2 ^ (8*gk) by rw[Nat.pow_mul]];exact(Int.natCast_pow 2 (8*gk)).symm
    rw[<- g,Bk,show 8*(gk+1) - 8=8*gk by omega,r,<- Int.natCast_ediv];omega
   have p:low (8 - gk) (n / 256 ^ gk)=low (8 - (gk+1)) (n / 256 ^ (gk+1))++[y]:=by
    rw[show 8 - gk=(8 - (gk+1))+1 by omega,low,g,Nat.div_div_eq_div_mul,<- Nat.pow_succ]
   have q:Hid _:=p
   have t:(bs++low (8 - (gk+1)) (n / 256 ^ (gk+1))).length<=100000000000008:=by
    rw[AD,Zar];have:=H.o.2.2;omega
   clear p g;go_wp2_with(at_builtin;refine Zag encB 5 61 1 (Ab .u8 0) rfl Tryz.info5 underlying61 rfl (.tmp 10) (.tmp 15) rfl base _ _ y _ rfl a.o.1 rfl (by omega) (by simp only[maxLen];omega) (AZ H.o.2.1 a.o.2.1.size) _ (by first | rfl | (rw[s];rfl)) ?_;intro v4 z d b c f);go_wp2;go_roundg gk
   case measure=>omega
   case rel=>exact⟨by go_num,by omega,by rw[q.o,<- A9];exact d,a.o.2.1.trans b,a.o.2.2.1.chain a.o.2.2.2 f,a.o.2.2.2.chain a.o.2.1.size c⟩
theorem ZgQ:∀xs:Bs,Gp ⟨xs.toArray⟩=encB.all xs
 | []=>rfl
 | x::t=>by
  have a:=ZgQ t;show Gp ⟨(x::t).toArray⟩=encB.cells x++encB.all t;rw[<- a];simp[Gp,encB]
theorem appS{f:Array Oper}{rest:List Oper}{o:Oper}{a:Act}{Q:Exit->Act->Ap->Prop}(i:o.guard=none)(s x:Operand)
  (l:o.op=.call { callee:=.builtin .append,args:=#[s,x],argTypes:=#[61,9] }) (base:Nat) (v:Ar) (g xs:Bs) (y:a.eval s=v) (b:OwnG encB 5 w base v g)
  (z:a.eval x=tx xs) (d:g.length+xs.length<=140737488355328) (r:base<=w.heap.size)
  (h:∀v' w',OwnG encB 5 w' base v' (g++xs)->Below base w w'->Zaa (λ k=>v.ownBlock=some k) w w'->wpList Am f Q rest (a.put o.dst v') w') :
  wpList Am f Q (o::rest) a w:=by
 obtain⟨i0,j,m,n,p⟩:=info_parts Tryz.info5
 have c:(⟨xs.toArray⟩:ByteArray).size=xs.length:=by show xs.toArray.size=_;simp
 refine Lib.wpList_append_own_string w i s x 61 9 l base 5 i0 underlying61 underlying9 j m n p v g.length (encB.all g) y b ⟨xs.toArray⟩ z (by rw[c];simp only[maxLen];omega) (by rw[c];exact d) r ?_;intro v' w' q u _;have t:Zaa (λ k=>v.ownBlock=some k) w w':=(Zaa.refl _ _).grown u (λ k _ e=>e);refine h v' w' ?_ (OwnG.turn b r t) t;unfold OwnG;rw[AD,encB.all_append];rw[c,ZgQ]at q;exact q
theorem Zd9(s:Bs)(x:s.length<=255)(u:OwnG encB 5 w base v bs)(p:base<=w.heap.size)(r:bs.length<=100000000000000):
  At Am 186 #[v,tx s] w λ e w'=>∃v',e=Aj v'/\Hid (OwnG encB 5 w' base v' (bs++AW s.length::s)/\Below base w w'/\Zaa (λ k=>v.ownBlock=some k) w w'):=by
 have H:Hid (OwnG encB 5 w base v bs/\base<=w.heap.size/\bs.length<=100000000000000/\s.length<=255):=⟨u,p,r,x⟩
 obtain⟨y,m⟩:∃y:UInt8,AW s.length=y:=⟨_,rfl⟩
 have q:(s.length:Int) % 256=(y.toNat:Int):=by
  rw[<- m,Bk];omega
 rw[m]
 obtain⟨t,i⟩:∃t:ByteArray,t=⟨s.toArray⟩:=⟨_,rfl⟩
 have h:t.size=s.length:=by rw[i];show s.toArray.size=_;simp
 rw[<- h]at q;have z:Hid (t=⟨s.toArray⟩):=i;rw[show tx s=Ae t by rw[i]];clear u p r m i x h;go_enter func186,ntmps186
 go_wp2_with(first
  | (at_builtin;refine Zag encB 5 61 1 (Ab .u8 0) rfl Tryz.info5 underlying61 rfl (.tmp 5) (.tmp 9) rfl base _ bs y _ rfl H.o.1 rfl (by have:=H.o.2.2.1;omega) (by have:=H.o.2.2.1;simp only[maxLen];omega) H.o.2.1 _ (by first | rfl | (rw[q];rfl)) ?_;intro v4 n d b c g;have a:Hid (OwnG encB 5 n base v4 (bs++[y])/\Below base w n/\Zaa (λ k=>v.ownBlock=some k) w n/\ZaP w v v4):=⟨d,b,g,c⟩;clear d b c g)
  | (at_builtin;refine appS rfl (.tmp 10) (.tmp 11) rfl base _ (bs++[y]) s rfl a.o.1 (by show Ae t=_;rw[z.o]) (by have:=H.o.2.2.1;have:=H.o.2.2.2;rw[AD];simp;omega) (AZ H.o.2.1 a.o.2.1.size) ?_;intro v5 A f j l))
 go_wp2;go_ret;exact⟨_,rfl,by rw[A9]at f;exact f,a.o.2.1.trans j,a.o.2.2.1.chain a.o.2.2.2 l⟩
theorem bsize(s:ByteArray):s.size=s.data.toList.length:=Lib.size_eq s
theorem Zpz(c:Int)(w:Ap):
  At Am 191 #[Ab .u8 c] w λ e w'=>e=Aj (Ad (okI c))/\w'=w:=by
 go_enter func191,ntmps191;go_wp2
 all_goals go_ret
 all_goals refine⟨A4 (λ b=>Aj (Ad b)) ?_,rfl⟩
 all_goals(rw[Bool.eq_iff_iff];simp[okI];try omega)
theorem ZeO(s:ByteArray)(c:Int)(w:Ap):
  At Am 246 #[Ae s,Ab .u8 c] w λ e w'=>e=Aj (Ab Ak (Cw s.data.toList c.toNat.toUInt8))/\w'=w:=by
 go_enter func246,ntmps246;go_wp2;rw[run_callFunc_extern func254 (by kernel_rfl) (by kernel_rfl) (by kernel_rfl) (e:=Extern.BytealgIndexByte.indexByte) (by kernel_rfl),Lib.run_indexByteString];simp only[Result.andThen];rw[Oper.upon_value];go_wp2;go_ret;exact⟨rfl,rfl⟩
theorem Zkn(h:([47]==s.toList)=true):Cw s.data.toList 47=0:=by
 have e:[47]=s.toList:=by simpa using h
 rw[<- ByteArray.toList_eq,<- e]
 rfl
theorem Ziz(s:ByteArray)(w:Ap):
  At Am 234 #[Ae s,Ae ⟨#[47]⟩] w λ e w'=>e=Aj (Ab Ak (Cw s.data.toList 47))/\w'=w:=by
 go_enter func234,ntmps234;go_wp2_with fail
 ·have h:([47]==s.toList)=true:=by assumption
  go_ret;exact⟨by rw[Zkn h];rfl,rfl⟩
 ·refine(ZeO s 47 _).mono ?_;rintro e w' ⟨rfl,rfl⟩;go_wp2;go_ret;exact⟨rfl,rfl⟩
theorem Zb5(s:ByteArray)(o:Nat):s.extract 0 o=⟨(s.data.toList.take o).toArray⟩:=by
 have:=ByteArray.extract_mk s.data.toList 0 o;simpa using this
theorem ZfH(s:ByteArray)(o:Nat):s.extract o s.size=⟨(s.data.toList.drop o).toArray⟩:=by
 have:=ByteArray.extract_mk s.data.toList o s.size;rw[Av (by rw[List.length_drop,bsize];omega)]at this;simpa using this
theorem ZoV:∀l:Bs,(cutB l).2.1.length<=l.length
 | []=>by simp[cutB]
 | b::t=>by
  have:=ZoV t;by_cases h:b=47
  ·simp[cutB,h]
  ·simp only[cutB,h,Eg,List.length_cons];omega
theorem Zof(s:ByteArray)(g:s.size<=9223372036854775807)(w:Ap):
  At Am 228 #[Ae s,Ae ⟨#[47]⟩] w λ e w'=>e=Aj (Af #[Ae ⟨(cutB s.data.toList).1.toArray⟩,Ae ⟨(cutB s.data.toList).2.1.toArray⟩,Ad (cutB s.data.toList).2.2])/\∃m,w'=w.drewN m:=by
 have a:=Lib.indexByte_ge s.data.toList 47
 obtain⟨o,b⟩:=Xa (Cw s.data.toList 47)
 have d:=Ziz s;rw[b]at d a;by_cases c:o = -1
 ·have q:=ZiH _ (b.trans c);rw[q];subst c;go_enter func228,ntmps228;go_wp2_with fail;refine(d _).mono ?_;rintro e w' ⟨rfl,rfl⟩;go_wp2;refine As (v:=Af #[Ae s,Ae ⟨#[]⟩,Ad false]) ?_ rfl ⟨rfl,0,rfl⟩;simp[AH,Tryz.f228]
 ·obtain⟨k,rfl⟩:∃k:Nat,o=k:=⟨o.toNat,by omega⟩
  obtain⟨f,q⟩:=ZiU _ k b;rw[q,<- Zb5,<- ZfH];rw[<- bsize]at f;have Q:Hid (cutB s.data.toList=_):=q;clear a c q b;go_enter func228,ntmps228;go_wp2_with fail;refine(d _).mono ?_;rintro e w' ⟨rfl,rfl⟩;go_wp2_with fail;go_quiet (fail);go_wp2;refine As (v:=Af #[Ae (s.extract 0 k),Ae (s.extract (k+1) s.size),Ad true]) ?_ rfl ⟨rfl,_,rfl⟩;simp[AH,Tryz.f228]
theorem Zk4(s:ByteArray)(i:s.size<=9223372036854775807)(w:Ap):
  At Am 218 #[Ae s,Ae ⟨#[47]⟩] w λ e w'=>e=Aj (Af #[Ae ⟨(cutB s.data.toList).1.toArray⟩,Ae ⟨(cutB s.data.toList).2.1.toArray⟩,Ad (cutB s.data.toList).2.2])/\∃m,w'=w.drewN m:=by
 obtain⟨a,d⟩:=Xa ((cutB s.data.toList).1)
 obtain⟨b,g⟩:=Xa ((cutB s.data.toList).2.1)
 obtain⟨f,h⟩:=Xa ((cutB s.data.toList).2.2)
 have c:=Zof s i w;rw[d,g,h]at c ⊢;go_enter func218,ntmps218;go_wp2_with fail;refine c.mono ?_;rintro e w' ⟨rfl,m,rfl⟩;go_wp2;refine As (v:=Af #[Ae ⟨a.toArray⟩,Ae ⟨b.toArray⟩,Ad f]) ?_ rfl ⟨rfl,m,rfl⟩;simp[AH,Tryz.f218]
theorem Zjt(h:i<s.data.toList.length)(a:okI ((s.data.toList[i]).toNat:Int)=false):isName s.data.toList=false:=by
 have:s.data.toList.all okB=false:=by
  rw[List.all_eq_false];exact⟨_,List.getElem_mem h,by simpa[okB]using a⟩
 simp[isName,this]
theorem Zhm(h:i<l.length)(a:(l.take i).all okB=true)(b:okI ((l[i]).toNat:Int)=true):Hid ((l.take (i+1)).all okB=true):=by
 show _=_;rw[List.take_succ_eq_append_getElem h,List.all_append,a];simpa[okB]using b
theorem ZkZ(b:1<=l.length)(c:l.length<=16)(a:(l.take l.length).all okB=true):isName l=true:=by
 rw[List.take_length]at a;simp[isName,a,b,c]
theorem Zow(s:ByteArray)(w:Ap):
  At Am 132 #[Ae s] w λ e w'=>e=Aj (Ab Ak (err (isName s.data.toList)))/\w'=w:=by
 have b:=bsize s;by_cases g:1<=s.size
 ·by_cases h:s.size<=16
  ·have E:Hid (s.size=s.data.toList.length):=b;clear b;go_enter func132,ntmps132;go_wp2_with fail;go_loopg[14] s.size (λ k v wr=>∃i:Nat,v=Ab Ak i/\i+k=s.size/\wr=w/\Hid ((s.data.toList.take i).all okB=true))
   case atStart=>exact⟨0,rfl,by omega,rfl,by simp[Hid]⟩
   case round =>
    obtain⟨i,rfl,hi,rfl,c⟩:=hrel;by_cases a:i<s.size
    ·go_wp2_with fail;refine(Zpz _ _).mono ?_;rintro e w' ⟨rfl,rfl⟩
     obtain⟨f,d⟩:=Xa (okI (s[i].toNat:Int))
     have F:Hid (okI (s[i].toNat:Int)=f):=d;rw[d];clear d;cases f
     ·go_wp2;go_ret;exact⟨by rw[Zjt (E.o ▸ a) F.o];rfl,rfl⟩
     ·go_wp2;go_roundg (gk - 1)
      case measure=>omega
      case rel=>exact⟨i+1,by go_num,by omega,rfl,Zhm (E.o ▸ a) c.o F.o⟩
    ·obtain rfl:i=s.size:=by omega
     go_wp2;go_ret;exact⟨by rw[ZkZ (by rw[<- E.o];exact g) (by rw[<- E.o];exact h) (by rw[E.o]at c;exact c.o)];rfl,rfl⟩
  ·have:isName s.data.toList=false:=by simp[isName];omega
   rw[this];clear this b;go_enter func132,ntmps132;go_wp2;go_ret;exact⟨rfl,rfl⟩
 ·have:isName s.data.toList=false:=by simp[isName];omega
  rw[this];clear this b;go_enter func132,ntmps132;go_wp2;go_ret;exact⟨rfl,rfl⟩
theorem ZbP(l:Bs)(g:Bool)(a:isName l=g)(w:Ap):
  At Am 132 #[Ae ⟨l.toArray⟩] w λ e w'=>e=Aj (Ab Ak (err g))/\w'=w:=by
 subst a;exact Zow ⟨l.toArray⟩ w
theorem Zkt(s:ByteArray)(z:s.size<=9223372036854775807)(w:Ap):
  At Am 199 #[Ae s] w λ e w'=>e=Aj (Ab Ak (err (isPath s.data.toList)))/\∃m,w'=w.drewN m:=by
 go_enter func199,ntmps199;go_wp2_with fail;go_loopg[0,7] 6 (λ k p c wr=>∃(i:Nat) (u:ByteArray) (m:Nat),p=Ae u/\c=Ab Ak i/\i+k=6/\u.size<=9223372036854775807/\wr=w.drewN m/\Hid (chk k u.data.toList=isPath s.data.toList))
 case atStart=>exact⟨0,s,0,rfl,rfl,by omega,z,rfl,rfl⟩
 case round =>
  obtain⟨i,u,m,rfl,rfl,hi,A,rfl,j⟩:=hrel;by_cases y:i<6
  ·obtain⟨k,rfl⟩:∃k,gk=k+1:=⟨gk - 1,by omega⟩
   obtain⟨a,q⟩:=Xa ((cutB u.data.toList).1)
   obtain⟨b,h⟩:=Xa ((cutB u.data.toList).2.1)
   obtain⟨f,t⟩:=Xa ((cutB u.data.toList).2.2)
   have d:=j.o;rw[chk,q,h,t]at d;have l:Hid _:=d
   have r:b.length<=9223372036854775807:=by rw[<- h];have:=ZoV u.data.toList;rw[<- bsize]at this;omega
   have x:=Zk4 u A;rw[q,h,t]at x;clear q h t d j;go_wp2_with fail;refine(x _).mono ?_;rintro e w' ⟨rfl,B,rfl⟩;go_wp2_with fail
   obtain⟨g,v⟩:=Xa (isName a)
   have n:Hid (isName a=g):=v;refine(ZbP a g v _).mono ?_;rintro e w' ⟨rfl,rfl⟩;clear v;cases g
   ·rw[show err false=2 from rfl];go_wp2;go_ret;exact⟨by rw[<- l.o,n.o];rfl,_,rfl⟩
   ·rw[show err true=0 from rfl];cases f
    ·go_wp2;go_ret;exact⟨by rw[<- l.o,n.o];rfl,_,rfl⟩
    ·go_wp2;go_roundg k
     case measure=>omega
     case rel=>exact⟨i+1,⟨b.toArray⟩,_,rfl,by go_num,by omega,by rw[bsize];exact r,rfl,by have:=l.o;rw[n.o]at this;exact this⟩
  ·obtain rfl:i=6:=by omega
   obtain rfl:gk=0:=by omega
   go_wp2;go_ret;exact⟨by rw[<- j.o];rfl,m,rfl⟩
theorem ZbZ(s:ByteArray)(b:s.size<=9223372036854775807)(g:Bool)(a:isPath s.data.toList=g)(w:Ap):
  At Am 199 #[Ae s] w λ e w'=>e=Aj (Ab Ak (err g))/\∃m,w'=w.drewN m:=by
 subst a;exact Zkt s b w
def Zdt:ED:=⟨λ | 103=>230 | 210=>235 | 206=>236 | n=>n,λ | 9=>9 | 4=>4 | 24=>341 | 3=>3 | n=>n,λ | n=>n⟩
theorem layCutPrefix:Hs Am Zdt:={
 mixed:=by kernel_rfl
 f103:=Tryz.func230.trans (A4 some (by kernel_rfl))
 f206:=Tryz.func236.trans (A4 some (by kernel_rfl))
 f210:=Tryz.func235.trans (A4 some (by kernel_rfl))
 t3:=underlying3
 a3:=Tryz.isAgg3
 z3:=Tryz.sizeOf3
 v3:=Tryz.zeroValue3
 t4:=underlying4
 a4:=Tryz.isAgg4
 z4:=Tryz.sizeOf4
 v4:=Tryz.zeroValue4
 t9:=underlying9
 a9:=Tryz.isAgg9
 z9:=Tryz.sizeOf9
 v9:=Tryz.zeroValue9
 t24:=underlying341
 a24:=Tryz.isAgg341
 z24:=Tryz.sizeOf341
 v24:=Tryz.zeroValue341 }
def Ziy:ED:=⟨λ | 190=>223 | 125=>86 | 258=>232 | 128=>144 | 129=>145 | 302=>237 | 303=>238 | 304=>239 | 305=>240 | 306=>241 | 307=>242 | 308=>243 | 309=>244 | 310=>245 | 333=>250 | 329=>194 | 330=>195 | 334=>251 | 335=>252 | 336=>253 | 344=>256 | n=>n,λ | 31=>79 | 9=>9 | 3=>3 | 46=>72 | 0=>0 | 51=>123 | 53=>43 | 4=>4 | 183=>253 | 182=>252 | 131=>171 | 5=>5 | 218=>313 | 222=>316 | 228=>331 | 229=>332 | n=>n,λ | n=>n⟩
theorem laySort:GE Am Ziy:={
 mixed:=by kernel_rfl
 f125:=Tryz.func86.trans (A4 some (by kernel_rfl))
 f128:=Tryz.func144.trans (A4 some (by kernel_rfl))
 f129:=Tryz.func145.trans (A4 some (by kernel_rfl))
 f190:=Tryz.func223.trans (A4 some (by kernel_rfl))
 f258:=Tryz.func232.trans (A4 some (by kernel_rfl))
 f302:=Tryz.func237.trans (A4 some (by kernel_rfl))
 f303:=Tryz.func238.trans (A4 some (by kernel_rfl))
 f304:=Tryz.func239.trans (A4 some (by kernel_rfl))
 f305:=Tryz.func240.trans (A4 some (by kernel_rfl))
 f306:=Tryz.func241.trans (A4 some (by kernel_rfl))
 f307:=Tryz.func242.trans (A4 some (by kernel_rfl))
 f308:=Tryz.func243.trans (A4 some (by kernel_rfl))
 f309:=Tryz.func244.trans (A4 some (by kernel_rfl))
 f310:=Tryz.func245.trans (A4 some (by kernel_rfl))
 f329:=Tryz.func194.trans (A4 some (by kernel_rfl))
 f330:=Tryz.func195.trans (A4 some (by kernel_rfl))
 f333:=Tryz.func250.trans (A4 some (by kernel_rfl))
 f334:=Tryz.func251.trans (A4 some (by kernel_rfl))
 f335:=Tryz.func252.trans (A4 some (by kernel_rfl))
 f336:=Tryz.func253.trans (A4 some (by kernel_rfl))
 f344:=Tryz.func256.trans (A4 some (by kernel_rfl))
 t0:=underlying0
 a0:=Tryz.isAgg0
 z0:=Tryz.sizeOf0
 v0:=Tryz.zeroValue0
 t3:=underlying3
 a3:=Tryz.isAgg3
 z3:=Tryz.sizeOf3
 v3:=Tryz.zeroValue3
 t4:=underlying4
 a4:=Tryz.isAgg4
 z4:=Tryz.sizeOf4
 v4:=Tryz.zeroValue4
 t5:=underlying5
 a5:=Tryz.isAgg5
 z5:=Tryz.sizeOf5
 v5:=Tryz.zeroValue5
 t9:=underlying9
 a9:=Tryz.isAgg9
 z9:=Tryz.sizeOf9
 v9:=Tryz.zeroValue9
 t31:=underlying79
 a31:=Tryz.isAgg79
 z31:=Tryz.sizeOf79
 v31:=Tryz.zeroValue79
 t46:=underlying72
 a46:=Tryz.isAgg72
 z46:=Tryz.sizeOf72
 v46:=Tryz.zeroValue72
 t51:=underlying123
 a51:=Tryz.isAgg123
 z51:=Tryz.sizeOf123
 v51:=Tryz.zeroValue123
 t53:=underlying43
 a53:=Tryz.isAgg43
 z53:=Tryz.sizeOf43
 v53:=Tryz.zeroValue43
 t131:=underlying171
 a131:=Tryz.isAgg171
 z131:=Tryz.sizeOf171
 v131:=Tryz.zeroValue171
 t182:=underlying252
 a182:=Tryz.isAgg252
 z182:=Tryz.sizeOf252
 v182:=Tryz.zeroValue252
 t183:=underlying253
 a183:=Tryz.isAgg253
 z183:=Tryz.sizeOf253
 v183:=Tryz.zeroValue253
 t218:=underlying313
 a218:=Tryz.isAgg313
 z218:=Tryz.sizeOf313
 v218:=Tryz.zeroValue313
 t222:=underlying316
 a222:=Tryz.isAgg316
 z222:=Tryz.sizeOf316
 v222:=Tryz.zeroValue316
 t228:=underlying331
 a228:=Tryz.isAgg331
 z228:=Tryz.sizeOf331
 v228:=Tryz.zeroValue331
 t229:=underlying332
 a229:=Tryz.isAgg332
 z229:=Tryz.sizeOf332
 v229:=Tryz.zeroValue332 }
def Zdu:ED:=⟨λ | 99=>231 | 206=>236 | n=>n,λ | 9=>9 | 4=>4 | 3=>3 | n=>n,λ | n=>n⟩
theorem layHasPrefix:Hw Am Zdu:={
 mixed:=by kernel_rfl
 f99:=Tryz.func231.trans (A4 some (by kernel_rfl))
 f206:=Tryz.func236.trans (A4 some (by kernel_rfl))
 t3:=underlying3
 a3:=Tryz.isAgg3
 z3:=Tryz.sizeOf3
 v3:=Tryz.zeroValue3
 t4:=underlying4
 a4:=Tryz.isAgg4
 z4:=Tryz.sizeOf4
 v4:=Tryz.zeroValue4
 t9:=underlying9
 a9:=Tryz.isAgg9
 z9:=Tryz.sizeOf9
 v9:=Tryz.zeroValue9 }
def ZgC:ED:=⟨λ | 16=>222 | n=>n,λ | 24=>79 | 9=>9 | 4=>4 | n=>n,λ | n=>n⟩
theorem layClone:Go.Proofs.Lays2.n16 Am ZgC:={
 mixed:=by kernel_rfl
 f16:=Tryz.func222.trans (A4 some (by kernel_rfl))
 t4:=underlying4
 a4:=Tryz.isAgg4
 z4:=Tryz.sizeOf4
 v4:=Tryz.zeroValue4
 t9:=underlying9
 a9:=Tryz.isAgg9
 z9:=Tryz.sizeOf9
 v9:=Tryz.zeroValue9
 t24:=underlying79
 a24:=Tryz.isAgg79
 z24:=Tryz.sizeOf79
 v24:=Tryz.zeroValue79
 i9:=by kernel_rfl }
def ZeK:ED:=⟨λ | 194=>224 | n=>n,λ | 31=>79 | 9=>9 | 3=>3 | 4=>4 | 0=>0 | n=>n,λ | n=>n⟩
theorem layCompact:Hu Am ZeK:={
 mixed:=by kernel_rfl
 f194:=Tryz.func224.trans (A4 some (by kernel_rfl))
 t0:=underlying0
 a0:=Tryz.isAgg0
 z0:=Tryz.sizeOf0
 v0:=Tryz.zeroValue0
 t3:=underlying3
 a3:=Tryz.isAgg3
 z3:=Tryz.sizeOf3
 v3:=Tryz.zeroValue3
 t4:=underlying4
 a4:=Tryz.isAgg4
 z4:=Tryz.sizeOf4
 v4:=Tryz.zeroValue4
 t9:=underlying9
 a9:=Tryz.isAgg9
 z9:=Tryz.sizeOf9
 v9:=Tryz.zeroValue9
 t31:=underlying79
 a31:=Tryz.isAgg79
 z31:=Tryz.sizeOf79
 v31:=Tryz.zeroValue79 }
end Go.Proofs.YtlojblelpaegpaaGreat
