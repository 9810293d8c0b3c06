/-
  Several texts, laid together.
-/
import Derived.Test.YtlojblelpaegpaaGreatM09
set_option maxHeartbeats 6400000
set_option maxRecDepth 100000
open UInt64 renaming ofNat->AU,toNat_ofNat'->C1
open List renaming length_drop->By,length_append->AD,eq_nil_of_length_eq_zero->AT
open Go renaming World->Ap,Calls->At,bodyPost_ret->As,results_tmp2->AA,results->AH,Value->Ar
open Go.RowKit renaming Below->An
open Nat renaming le_refl->Az,le_succ->FC,le_trans->AZ
open Go.Value renaming int->Ab,slice->Aa,bool->Ad,string->Ae,tuple->Af,agg->Ag,pointer->Ah
open Go.IntKind renaming i64->Ak,u64->Al
open Go.Obj renaming cells->Ai
open Go.Ending renaming returned->Aj
open Go.Proofs.Tryz renaming prog->Am
open Go.Proofs.Tryz
namespace Go.Proofs.YtlojblelpaegpaaGreat
open Go.RowKit
variable{C n:Nat}{a:Option Addr}{b bs:Bs}{c dt e:Int}{es:List En}{lv:Ar}{nt:ByteArray}{r:Rs}{w wr:Ap}{xs:List UInt64}
theorem Zjf(e:r.2=false)(a:r.1≠[]):
  ((rnum (rtxt r).2).2.2=false/\one r.1=some (((rtxt r).1,AU (rnum (rtxt r).2).1),(rnum (rtxt r).2).2.1))∨((rnum (rtxt r).2).2=([],true)/\one r.1=none):=by
 obtain⟨l,s⟩:=r;simp only at e a;subst e
 cases l with
 | nil=>exact absurd rfl a
 | cons x t =>
  have i:=x.toNat_lt
  have f:rcnt (x::t,false)=(x.toNat,(t,false)):=by
   have:=Zf1 x.toNat (by omega) t false;simpa using this
  have g:rtxt (x::t,false)=rtake x.toNat (t,false):=by
   unfold rtxt;rw[f]
  rw[g];by_cases c:t.length<x.toNat
  ·right
   have b:rtake x.toNat (t,false)=([],([],true)):=by unfold rtake;rw[AE c]
   rw[b];refine⟨by unfold rnum rtake;simp,?_⟩;simp only[one];rw[AE (by omega)]
  ·have b:rtake x.toNat (t,false)=(t.take x.toNat,(t.drop x.toNat,false)):=by unfold rtake;rw[Aw c]
   rw[b];by_cases d:t.length<x.toNat+8
   ·right
    refine⟨?_,?_⟩
    ·unfold rnum rtake;simp only;rw[AE (by rw[By];omega)]
    ·simp only[one];rw[AE d]
   ·left
    have h:rtake 8 (t.drop x.toNat,false)=((t.drop x.toNat).take 8,((t.drop x.toNat).drop 8,false)):=by
     unfold rtake;simp only;rw[Aw (by rw[By];omega)]
    unfold rnum;simp only;rw[h];refine⟨rfl,?_⟩;simp only[one];rw[Aw d,List.drop_drop]
theorem ZlM(c:r.2=false)(a:r.1≠[]):(rnum (rtxt r).2).2.1.length<r.1.length:=by
 rcases Zjf c a with⟨_,h⟩ | ⟨h,_⟩
 ·have:=(ZdJ h).1;have l:=A4 List.length this;rw[AD,ZdH]at l;omega
 ·rw[h]
  cases b:r.1 with
  | nil=>exact absurd b a
  | cons x t=>simp
def Zht(bs:Bs)(es:List En)(r:Rs):Prop:=es.length<=65/\Sm es/\((r.2=false/\bs=treeB es++r.1)∨(r=([],true)/\RT bs [] 9))
theorem Zht.start(bs:Bs):Zht bs [] (bs,false):=⟨by simp,λ e h=>by simp at h,.inl ⟨rfl,by simp[treeB]⟩⟩
theorem Zht.step(h:Zht bs es r)(a:r.1≠[])(g:es.length<=64):
  Zht bs (es++[((rtxt r).1,AU (rnum (rtxt r).2).1)]) (rnum (rtxt r).2).2/\(rnum (rtxt r).2).2.1.length<r.1.length:=by
 obtain⟨_,e,b⟩:=h
 rcases b with⟨b,f⟩ | ⟨b,_⟩
 ·refine⟨⟨by simp;omega,e.snoc (ZnW r),?_⟩,ZlM b a⟩
  rcases Zjf b a with⟨c,d⟩ | ⟨c,d⟩
  ·left
   refine⟨c,?_⟩;rw[Zc3,List.append_assoc,<- (ZdJ d).1];exact f
  ·right
   exact⟨c,Zlj e f a d⟩
 ·rw[b]at a;exact absurd rfl a
theorem Zhe{c:Nat}(w:Ap)(hb:BAt w (Aa a n c) bs)(hl:bs.length=n):
  At Am 146 #[Aa a n c] w λ e w'=>∃es er v,e=Aj (Af #[v,Ab Ak er])/\Hid (RT bs es er/\OwnG encE 152 w' w.heap.size v es/\An w.heap.size w w'):=by
 have H:Hid (Rdr (w.alloc (Ai #[Aa a n c,Ad false] 199)) w.heap.size (bs,false)/\An w.heap.size w (w.alloc (Ai #[Aa a n c,Ad false] 199))/\(w.alloc (Ai #[Aa a n c,Ad false] 199)).heap.size=w.heap.size+1/\bs.length=n) :=
  ⟨Rdr.new hb hl,bz1 _ _,by simp,hl⟩
 clear hb hl;go_enter func146,ntmps146;go_wp2_with fail;go_loopg[5] n (λ m lv wr=>∃(es:List En) (r:Rs) (la:Option Addr) (lc L:Nat),lv=Aa la L lc/\L<=65/\m=r.1.length/\Hid (L=es.length/\Zht bs es r/\Rdr wr w.heap.size r/\OwnG encE 152 wr (w.heap.size+1) lv es/\An w.heap.size w wr/\w.heap.size+1<=wr.heap.size))
 case atStart=>exact⟨[],(bs,false),none,0,0,rfl,by omega,H.o.2.2.2.symm,rfl,Zht.start bs,H.o.1,OwnG.nil _ _ _ _,H.o.2.1,by rw[H.o.2.2.1];exact Az _⟩
 case round =>
  obtain⟨es,r,la,lc,L,rfl,hL,K,b⟩:=hrel;obtain⟨ra,rc,z,_⟩:=b.o.2.2.1.at_;rw[<- K]at z;obtain⟨x0,x1⟩:=z.cells;clear z;by_cases h0:gk=0
  ·subst h0;have D:r.1=[]:=AT K.symm;have hh:=b.o.2.1;obtain⟨_,d,hq⟩:=hh;clear K
   cases F:r.2 with
   | true =>
    rw[F]at x1
    have l:RT bs [] 9:=by
     rcases hq with⟨q1,_⟩ | ⟨_,q2⟩
     ·rw[F]at q1;cases q1
     ·exact q2
    have s:Hid (RT bs [] 9):=l;clear hq l F D d;go_wp2;refine As (AA rfl _ _ _) rfl ?_;exact⟨[],9,_,rfl,s.o,OwnG.nil _ _ _ _,b.o.2.2.2.2.1⟩
   | false =>
    rw[F]at x1
    have Q:bs=treeB es:=by
     rcases hq with⟨_,q2⟩ | ⟨q1,_⟩
     ·rw[D,List.append_nil]at q2;exact q2
     ·rw[q1]at F;cases F
    obtain⟨aa,O,P,I,_,x,_⟩:=OwnG.form b.o.2.2.2.1;rw[<- b.o.1]at P I;cases P;have j:=ZcC wr x b.o.1.symm (λ e he=>by have:=d e he;omega) I
    obtain⟨Y,h⟩:=Xa (ctree es)
    rw[h]at j
    have s:Hid (bs=treeB es/\Sm es/\ctree es=Y):=⟨Q,d,h⟩
    clear hq Q d h I x F D;by_cases u:Y=0
    ·subst u;go_wp2_with fail;refine j.mono ?_;rintro e w2 ⟨rfl,f⟩;go_wp2;refine As (AA rfl _ _ _) rfl ?_;exact⟨es,0,_,rfl,.inl ⟨rfl,s.o.2.2,s.o.1.symm⟩,(b.o.2.2.2.1.below f).low (FC _),b.o.2.2.2.2.1.trans (f.mono b.o.2.2.2.2.1.size)⟩
    ·have m0:(Y==0)=false:=by simpa using u
     have m1:(Y != 0)=true:=by simpa using u
     go_wp2_with fail;refine j.mono ?_;rintro e w2 ⟨rfl,f⟩;go_wp2;refine As (AA rfl _ _ _) rfl ?_;exact⟨[],9,_,rfl,Zo9 s.o.2.1 s.o.1.symm (by rw[s.o.2.2];exact u),OwnG.nil _ _ _ _,b.o.2.2.2.2.1.trans (f.mono b.o.2.2.2.2.1.size)⟩
  ·have d0:(0:Int)<(gk:Int):=by omega
   have A:r.1≠[]:=by intro q;rw[q]at K;simp at K;exact h0 K
   by_cases ab:L<=64
   ·have d1:(L:Int)<=64:=by omega
    have p:=b.o.2.1.step A (by rw[<- b.o.1];exact ab)
    obtain⟨t,ht⟩:∃t:ByteArray,t=⟨(rtxt r).1.toArray⟩:=⟨_,rfl⟩
    have G:=Zk0 b.o.2.2.1 t (rtxt r).2 (by rw[ht])
    obtain⟨V,S⟩:=Xa ((rtxt r).2)
    rw[S]at G p
    obtain⟨v,Z⟩:=Xa ((rnum V).1)
    obtain⟨J,E⟩:=Xa ((rnum V).2)
    have T:rnum V=(v,J):=by rw[<- Z,<- E]
    have U:(AU v).toNat=v:=by
     have:=ZdU V;rw[Z]at this;rw[C1];omega
    rw[Z,E]at p
    have N:Hid (Zht bs (es++[((rtxt r).1,AU v)]) J/\J.1.length<r.1.length/\rnum V=(v,J)/\t=⟨(rtxt r).1.toArray⟩/\(AU v).toNat=v):=⟨p.1,p.2,T,ht,U⟩
    clear p S Z E T U ht;go_wp2_with fail;refine G.mono ?_;rintro e w2 ⟨rfl,J2⟩;have R:=ZfU J2.o.1 v J N.o.2.2.1;clear G x0 x1;go_wp2_with fail;refine R.mono ?_;rintro e M ⟨rfl,J3⟩;have X:Zaa (λ i=>i=w.heap.size) wr M:=J2.o.2.trans J3.o.2 (λ _ _ q=>q);have B3:An w.heap.size w M:=b.o.2.2.2.2.1.trans (X.below b.o.2.2.2.2.1.size (λ k hk q=>by have q':k=w.heap.size:=q;omega));have x:=b.o.2.2.2.1.stays X (λ g hg q=>by have:=(b.o.2.2.2.1.lt g hg).1;have q':g=w.heap.size:=q;omega);have s3:w.heap.size+1<=M.heap.size:=AZ b.o.2.2.2.2.2 X.size
    have W:Hid (OwnG encE 152 M (w.heap.size+1) (Aa la L lc) es/\An w.heap.size w M/\w.heap.size+1<=M.heap.size):=⟨x,B3,s3⟩
    clear X B3 x s3 R;go_wp2_with(at_builtin;refine Zag encE 152 145 24 _ rfl Tryz.info152 underlying145 rfl (.tmp 19) (.tmp 23) rfl (w.heap.size+1) _ es ((rtxt r).1,AU v) _ rfl W.o.1 rfl (by rw[<- b.o.1];omega) (by rw[<- b.o.1];simp only[maxLen];omega) W.o.2.2 _ (by show _=#[tx (rtxt r).1,Ab Al ((AU v).toNat:Int)];rw[N.o.2.2.2.2,N.o.2.2.2.1]) ?_;intro v4 w4 B y ac ad);obtain⟨a4,c4,rfl,_,_,_,_⟩:=OwnG.form B
    have l4:(es++[((rtxt r).1,AU v)]).length=L+1:=by rw[AD,<- b.o.1];rfl
    rw[l4]at B ⊢;go_wp2;go_roundg J.1.length
    case measure=>have:=N.o.2.1;omega
    case rel =>
     exact⟨_,J,a4,c4,L+1,rfl,by omega,rfl,l4.symm,N.o.1,J3.o.1.over y,B,W.o.2.1.trans (y.mono (FC _)),AZ W.o.2.2 y.size⟩
   ·have d1:decide ((L:Int)<=64)=false:=by rw[Ax];omega
    have hh:=b.o.2.1;obtain⟨_,d,hq⟩:=hh
    have C:r.2=false/\bs=treeB es++r.1:=by
     rcases hq with q|⟨q,_⟩
     ·exact q
     ·rw[q]at A;exact absurd rfl A
    rw[C.1]at x1;have l:RT bs [] 9:=Zlt d (by rw[<- b.o.1];omega) C.2;obtain⟨aa,O,P,I,_,x,_⟩:=OwnG.form b.o.2.2.2.1;rw[<- b.o.1]at P I;cases P;have j:=ZcC wr x b.o.1.symm (λ e he=>by have:=d e he;omega) I
    have h:ctree es=4:=by unfold ctree;rw[AE (by rw[<- b.o.1];omega)]
    rw[h]at j;have s:Hid (RT bs [] 9):=l;clear hq C d h I x l;go_wp2_with fail;refine j.mono ?_;rintro e w2 ⟨rfl,f⟩;go_wp2;refine As (AA rfl _ _ _) rfl ?_;exact⟨[],9,_,rfl,s.o,OwnG.nil _ _ _ _,b.o.2.2.2.2.1.trans (f.mono b.o.2.2.2.2.1.size)⟩
theorem Zlq{pa:Option Addr}{pn pc:Nat}(I:RdG encU w pa xs)(G:xs.length=pn)(hn:pn*8<=140737488355328)(nt:ByteArray)(dt d:Int):
  At Am 69 #[Ag #[Ab Al d,Aa pa pn pc,Ab Ak dt,Ae nt]] w λ e w'=>∃qa qc,e=Aj (Ag #[Ab Al d,Aa qa pn qc,Ab Ak dt,Ae nt])/\Hid (RdG encU w' qa xs/\pn<=qc/\An w.heap.size w w'):=by
 have H:Hid (RdG encU w pa xs/\xs.length=pn):=⟨I,G⟩
 clear I G;go_enter func69,ntmps69;go_wp2_with fail;go_loopg[4] pn (λ m W wr=>∃(i:Nat) (qa:Option Addr) (qc:Nat),W=Ab Ak i/\i+m=pn/\Hid (Box4 wr w.heap.size 58 (Ab Al d) (Aa pa pn pc) (Ab Ak dt) (Ae nt)/\Box4 wr (w.heap.size+1) 101 (Ab Al 0) (Aa none 0 0) (Ab Ak 0) (Ae ⟨#[]⟩)/\Box4 wr (w.heap.size+1+1) 101 (Ab Al d) (Aa qa i qc) (Ab Ak dt) (Ae nt)/\OwnG encU 43 wr (w.heap.size+3) (Aa qa i qc) (xs.take i)/\An w.heap.size w wr))
 case atStart =>
  have y:=Ziq w (Ab Al d) (Aa pa pn pc) (Ab Ak dt) (Ae nt) (Ab Al 0) (Aa none 0 0) (Ab Ak 0) (Ae ⟨#[]⟩) (Ab Al d) (Aa none 0 0) (Ab Ak dt) (Ae nt) 58 101 101;exact⟨0,none,0,rfl,by omega,y.1,y.2.1,y.2.2,OwnG.nil _ _ _ _,bz3 _ _ _ _⟩
 case round =>
  obtain⟨i,qa,qc,rfl,hi,a⟩:=hrel;obtain⟨x0,x1,x2,x3⟩:=a.o.1.cells;by_cases A:i<pn
  ·have id:(i:Int)<(pn:Int):=by omega
   have V:(0:Int)<=(i:Int):=by omega
   obtain⟨x,u⟩:=Zaf H.o.2 A;obtain⟨b,off,rfl,R⟩:=H.o.1.some_of u;obtain⟨O,c0⟩:=(H.o.1.below a.o.2.2.2.2).nums u;obtain⟨X,Y,Z,y3⟩:=a.o.2.2.1.cells;obtain⟨K,L,f2,M⟩:=a.o.2.2.1.thaw;have T:w.heap.size+1+1<wr.heap.size:=a.o.2.2.1.lt
   have h:(xs.take i).length=i:=by rw[List.length_take,H.o.2];omega
   have c:xs.take (i+1)=xs.take i++[x]:=by rw[List.take_add_one,u];rfl
   have t:Hid (xs.take (i+1)=xs.take i++[x]/\(xs.take i).length=i/\(xs.take i++[x]).length=i+1):=⟨c,h,by rw[AD,h];rfl⟩
   clear u c h;go_wp2_with fail;go_region_law(refine Za2 encU 43 51 8 _ rfl Tryz.info43 underlying51 rfl (.tmp 20) (.tmp 26) rfl (w.heap.size+3) _ (xs.take i) x rfl (a.o.2.2.2.1.below ((Below.refl _ wr).drew.trans (bz1 wr.drew _))) wr.heap.size rfl (Zau encU wr.drew x 43) (by rw[t.o.2.1];omega) (by rw[t.o.2.1];simp only[maxLen];omega) (by simp;omega) ?_;intro v4 p j s B C;obtain⟨a4,n,F,_,_,_,_⟩:=OwnG.form j;rw[t.o.2.2]at F;subst F;have f:Hid (OwnG encU 43 p (w.heap.size+3) (Aa a4 (i+1) n) (xs.take i++[x])/\An (w.heap.size+3) wr p):=⟨j,((bz1 wr _).drew.mono (by omega)).trans s⟩;have z4:=(a.o.2.2.1.below f.o.2 (by omega)).cells;have N:=(a.o.2.2.1.below f.o.2 (by omega)).thaw;obtain⟨z0,z1,z2,z3⟩:=z4;obtain⟨g0,g1,g2,g3⟩:=N;clear j s B C)
   all_goals
    have J:Hid ((∀S:Ap,S=p.setCell ⟨w.heap.size+1+1,1,none⟩ (Aa a4 (i+1) n)->Box4 S w.heap.size 58 (Ab Al d) (Aa (some ⟨b,off,none⟩) pn pc) (Ab Ak dt) (Ae nt)/\Box4 S (w.heap.size+1) 101 (Ab Al 0) (Aa none 0 0) (Ab Ak 0) (Ae ⟨#[]⟩)/\Box4 S (w.heap.size+1+1) 101 (Ab Al d) (Aa a4 (i+1) n) (Ab Ak dt) (Ae nt)/\OwnG encU 43 S (w.heap.size+3) (Aa a4 (i+1) n) (xs.take (i+1))/\An w.heap.size w S)):=by
     rintro S rfl;have l:Zaa (λ k=>k=w.heap.size+1+1) p (p.setCell ⟨w.heap.size+1+1,1,none⟩ (Aa a4 (i+1) n)):=Zad 1 _;have U:=f.o.2.size;refine⟨(a.o.1.below f.o.2 (by omega)).turned l (by omega),(a.o.2.1.below f.o.2 (by omega)).turned l (by omega),(a.o.2.2.1.below f.o.2 (by omega)).put1 _,?_,?_⟩
     ·rw[t.o.1];exact f.o.1.stays l (λ g z q=>by have:=(f.o.1.lt g z).1;have D:g=w.heap.size+1+1:=q;omega)
     ·have b1:An w.heap.size w p:=a.o.2.2.2.2.trans (f.o.2.mono (by omega));exact b1.trans (l.below b1.size (λ k Q q=>by have D:k=w.heap.size+1+1:=q;omega))
    go_wp2;go_roundg (gk - 1)
    case measure=>omega
    case rel=>exact⟨i+1,a4,n,by go_num,by omega,J.o _ rfl⟩
  ·obtain rfl:i=pn:=by omega
   obtain⟨X,Y,Z,y3⟩:=a.o.2.2.1.cells;obtain⟨z0,z1,z2,z3⟩:=a.o.2.1.cells;obtain⟨K,L,f2,M⟩:=a.o.2.1.thaw;have c:xs.take i=xs:=List.take_of_length_le (by rw[H.o.2];omega)
   have E:Hid (OwnG encU 43 wr (w.heap.size+3) (Aa qa i qc) xs):=by
    have:=a.o.2.2.2.1;rw[c]at this;exact this
   clear c;go_wp2;refine As (v:=Ag #[Ab Al d,Aa qa i qc,Ab Ak dt,Ae nt]) ?_ rfl ?_
   ·simp[AH,Tryz.f69];go_simp
   ·have l:=ZaC wr (w.heap.size+1) (Ab Al d) (Aa qa i qc) (Ab Ak dt) (Ae nt);have o:=E.o.stays l (λ g z q=>by have:=(E.o.lt g z).1;have D:g=w.heap.size+1:=q;omega);obtain⟨r,P⟩:=o.rdc;exact⟨qa,qc,rfl,r,P,a.o.2.2.2.2.trans (l.below a.o.2.2.2.2.size (λ k Q q=>by have D:k=w.heap.size+1:=q;omega))⟩
theorem ZiL{v:Nat}(h:v<18446744073709551616):Ak.wrap (v:Int)=sgn v:=by
 rw[IntKind.wrap_i64];unfold sgn
 split <;> omega
structure RP(w:Ap)(C:Nat)(tr:Int)(wr:Ap)(lv:Ar)(dt:Int)(nt:ByteArray)(xs:List UInt64)(r:Rs):Prop where
 res:Box4 wr w.heap.size 58 (Ab Al 0) (Aa none 0 0) (Ab Ak 0) (Ae ⟨#[]⟩)
 com:Box4 wr C 58 (Ab Al tr) lv (Ab Ak dt) (Ae nt)
 rdr:Rdr wr (w.heap.size+1) r
 row:OwnG encU 44 wr (C+1) lv xs
 bel:An w.heap.size w wr
 lo:w.heap.size+1<C
theorem RP.turn{w':Ap}{b:Rs}(h:RP w C c wr lv dt nt xs r)(e:Rdr w' (w.heap.size+1) b)(a:Zaa (λ i=>i=w.heap.size+1) wr w'):RP w C c w' lv dt nt xs b where
 res:=h.res.turned a (by omega)
 com:=h.com.turned a (by have:=h.lo;omega)
 rdr:=e
 row:=h.row.stays a (λ g d q=>by have:=(h.row.lt g d).1;have:=h.lo;have f:g=w.heap.size+1:=q;omega)
 bel:=h.bel.trans (a.below h.bel.size (λ k j q=>by have f:k=w.heap.size+1:=q;omega))
 lo:=h.lo
theorem RP.drew{a:Int}(h:RP w C a wr lv dt nt xs r):RP w C a wr.drew lv dt nt xs r where
 res:=h.res
 com:=h.com
 rdr:=h.rdr.below (Below.refl _ wr).drew
 row:=h.row.below (Below.refl _ wr).drew
 bel:=h.bel.drew
 lo:=h.lo
theorem RP.add{b:Ap}{i:Int}{a:Ar}{ys:List UInt64}(h:RP w C i wr lv dt nt xs r)(c:An (C+1) wr b)(f:OwnG encU 44 b (C+1) a ys):RP w C i (b.setCell ⟨C,1,none⟩ a) a dt nt ys r:=by
 have e:Zaa (λ k=>k=C) b (b.setCell ⟨C,1,none⟩ a):=Zad 1 _;have m:C<b.heap.size:=Nat.lt_of_lt_of_le h.com.lt c.size;have lo:=h.lo;have d:An C b (b.setCell ⟨C,1,none⟩ a):=e.below (by omega) (λ k n q=>by have l:k=C:=q;omega)
 exact {
  res:=(h.res.below c (by omega)).turned e (by omega)
  com:=(h.com.below c (by omega)).put1 _
  rdr:=(h.rdr.over (c.mono (by omega))).over (d.mono (by omega))
  row:=f.stays e (λ g j q=>by have:=(f.lt g j).1;have l:g=C:=q;omega)
  bel:=(h.bel.trans (c.mono (by omega))).trans (d.mono (by omega))
  lo:=lo }
theorem RP.date(h:RP w C c wr lv dt nt xs r)(d:Int):RP w C c (wr.setCell ⟨C,2,none⟩ (Ab Ak d)) lv d nt xs r:=by
 have b:Zaa (λ k=>k=C) wr (wr.setCell ⟨C,2,none⟩ (Ab Ak d)):=Zad 2 _;have i:=h.com.lt;have lo:=h.lo;have a:An C wr (wr.setCell ⟨C,2,none⟩ (Ab Ak d)):=b.below (by omega) (λ k j q=>by have f:k=C:=q;omega)
 exact {
  res:=h.res.turned b (by omega)
  com:=h.com.put2 _
  rdr:=h.rdr.over (a.mono (by omega))
  row:=h.row.stays b (λ g e q=>by have:=(h.row.lt g e).1;have f:g=C:=q;omega)
  bel:=h.bel.trans (a.mono (by omega))
  lo:=lo }
theorem RP.note(h:RP w C c wr lv dt nt xs r)(d:ByteArray):RP w C c (wr.setCell ⟨C,3,none⟩ (Ae d)) lv dt d xs r:=by
 have b:Zaa (λ k=>k=C) wr (wr.setCell ⟨C,3,none⟩ (Ae d)):=Zad 3 _;have i:=h.com.lt;have lo:=h.lo;have a:An C wr (wr.setCell ⟨C,3,none⟩ (Ae d)):=b.below (by omega) (λ k j q=>by have f:k=C:=q;omega)
 exact {
  res:=h.res.turned b (by omega)
  com:=h.com.put3 _
  rdr:=h.rdr.over (a.mono (by omega))
  row:=h.row.stays b (λ g e q=>by have:=(h.row.lt g e).1;have f:g=C:=q;omega)
  bel:=h.bel.trans (a.mono (by omega))
  lo:=lo }
theorem Ziv{c0:Nat}(w:Ap)(hb:BAt w (Aa a n c0) bs)(hl:bs.length=n):
  At Am 45 #[Aa a n c0] w λ e w'=>∃(c:Cm) (er:Int) (pa:Option Addr) (pc:Nat),e=Aj (Af #[Ag #[Ab Al (c.tree.toNat:Int),Aa pa c.ps.length pc,Ab Ak c.date,tx c.note],Ab Ak er])/\Hid (RC bs c er/\RdG encU w' pa c.ps/\c.ps.length<=pc/\An w.heap.size w w'/\ZaM w pa c.ps.length):=by
 obtain⟨V,K⟩:=Xa (rnum (bs,false))
 obtain⟨J,L⟩:=Xa (rcnt V.2)
 obtain⟨l,M⟩:=Xa (rnums J.1 J.2)
 obtain⟨W,N⟩:=Xa (rnum l.2)
 obtain⟨x,X⟩:=Xa (rtxt W.2)
 have hp:pcom bs=(⟨AU V.1,l.1,sgn W.1,x.1⟩,x.2):=by
  unfold pcom;rw[K,L,M,N,X]
 have v1:V.1<18446744073709551616:=by rw[<- K];exact ZdU _
 have v2:J.1<=255:=by rw[<- L];exact ZiE _
 have v4:W.1<18446744073709551616:=by rw[<- N];exact ZdU _
 have v3:l.1.length=J.1:=by rw[<- M];exact Zcv _ _
 have E:Hid (pcom bs=(⟨AU V.1,l.1,sgn W.1,x.1⟩,x.2)/\rnum (bs,false)=V/\rcnt V.2=J/\rnums J.1 J.2=l/\rnum l.2=W/\rtxt W.2=x/\l.1.length=J.1):=⟨hp,K,L,M,N,X,v3⟩
 clear hp K L M N X v3;obtain⟨p,r1⟩:=V;obtain⟨cn,f⟩:=J;obtain⟨dn,r4⟩:=W;simp only at E v1 v2 v4
 have sA:(w.alloc (Ai #[Ab Al 0,Aa none 0 0,Ab Ak 0,Ae ⟨#[]⟩] 58)).heap.size=w.heap.size+1:=by simp
 have ah:BAt (w.alloc (Ai #[Ab Al 0,Aa none 0 0,Ab Ak 0,Ae ⟨#[]⟩] 58)) (Aa a n c0) bs:=hb.below (bz1 _ _);have ae:=Rdr.new ah hl;rw[sA]at ae;have B:=ZfU ae p r1 E.o.2.1
 have HW:Hid (Box4 ((w.alloc (Ai #[Ab Al 0,Aa none 0 0,Ab Ak 0,Ae ⟨#[]⟩] 58)).alloc (Ai #[Aa a n c0,Ad false] 199)) w.heap.size 58 (Ab Al 0) (Aa none 0 0) (Ab Ak 0) (Ae ⟨#[]⟩)/\An w.heap.size w ((w.alloc (Ai #[Ab Al 0,Aa none 0 0,Ab Ak 0,Ae ⟨#[]⟩] 58)).alloc (Ai #[Aa a n c0,Ad false] 199))/\((w.alloc (Ai #[Ab Al 0,Aa none 0 0,Ab Ak 0,Ae ⟨#[]⟩] 58)).alloc (Ai #[Aa a n c0,Ad false] 199)).heap.size=w.heap.size+2) :=
  ⟨(Box4.new _ _ _ _ _ _).below (bz1 _ _) (by rw[sA];omega),bz2 _ _ _,by simp⟩
 clear hb hl sA ah ae;go_enter func45,ntmps45;go_wp2_with fail;refine B.mono ?_;rintro e w1 ⟨rfl,J1⟩;clear B
 have S1:Hid (w.heap.size+2<=w1.heap.size):=by have:=J1.o.2.size;rw[HW.o.2.2]at this;exact this
 have P1:Hid (RP w w1.heap.size (p:Int) (w1.alloc (Ai #[Ab Al (p:Int),Aa none 0 0,Ab Ak 0,Ae ⟨#[]⟩] 58)) (Aa none 0 0) 0 ⟨#[]⟩ [] r1):={
  res:=(HW.o.1.turned J1.o.2 (by omega)).below (bz1 w1 _) (by have:=S1.o;omega)
  com:=Box4.new _ _ _ _ _ _
  rdr:=J1.o.1.below (bz1 w1 _)
  row:=OwnG.nil _ _ _ _
  bel:=(HW.o.2.1.trans (J1.o.2.below HW.o.2.1.size (λ k hk q=>by have q':k=w.heap.size+1:=q;omega))).trans ((bz1 w1 _).mono (by have:=S1.o;omega))
  lo:=by have:=S1.o;omega }
 have aj:=Zmq P1.o.rdr cn f E.o.2.2.1;clear J1;go_wp2_with fail;refine aj.mono ?_;rintro e w2 ⟨rfl,J2⟩;have P2:Hid (RP w w1.heap.size (p:Int) w2 (Aa none 0 0) 0 ⟨#[]⟩ [] f):=P1.o.turn J2.o.1 J2.o.2;clear aj J2 P1
 obtain⟨C,hC⟩:=Xa w1.heap.size
 rw[hC]at P2 ⊢;clear hC S1;go_wp2_with fail;go_loopg[11] cn (λ m iv wr=>∃(i:Nat) (D:Option Addr) (lc:Nat),iv=Ab Ak i/\i+m=cn/\Hid (RP w C (p:Int) wr (Aa D i lc) 0 ⟨#[]⟩ (rnums i f).1 (rnums i f).2))
 case atStart=>exact⟨0,none,0,rfl,by omega,P2.o⟩
 case round =>
  obtain⟨i,D,lc,rfl,hi,U⟩:=hrel;by_cases az:i<cn
  ·have id:(i:Int)<(cn:Int):=by omega
   obtain⟨x0,x1,x2,x3⟩:=U.o.com.cells
   obtain⟨v,r',hv⟩:∃v r',rnum (rnums i f).2=(v,r'):=⟨_,_,rfl⟩
   have ap:(AU v).toNat=v:=by
    have:=ZdU (rnums i f).2;rw[hv]at this;rw[C1];simp only at this;omega
   have an:rnums (i+1) f=((rnums i f).1++[AU v],r'):=by
    show((rnums i f).1++[AU (rnum (rnums i f).2).1],(rnum (rnums i f).2).2)=_;rw[hv]
   have ab:(rnums i f).1.length=i:=Zcv _ _;have HN:Hid (At Am 101 #[Ah (some ⟨w.heap.size+1,0,none⟩)] wr.drew λ e w'=>e=Aj (Ab Al (v:Int))/\Hid (Rdr w' (w.heap.size+1) r'/\Zaa (λ i=>i=w.heap.size+1) wr.drew w')):=ZfU U.o.drew.rdr v r' hv
   have HX:Hid (rnums (i+1) f=((rnums i f).1++[AU v],r')/\(AU v).toNat=v/\(rnums i f).1.length=i/\((rnums i f).1++[AU v]).length=i+1):=⟨an,ap,ab,by rw[AD,ab];rfl⟩
   have lo:w.heap.size+1<C:=U.o.lo;clear an ap ab hv;go_wp2_with fail;have aw:Hid (An w.heap.size w wr):=U.o.bel
   go_region_law
    (first
     | (refine Za2 encU 44 34 8 _ rfl Tryz.info44 underlying34 rfl (.tmp 14) (.tmp 16) rfl (C+1) _ (rnums i f).1 (AU v) rfl (s.o.row.below (bz1 G _)) G.heap.size rfl aq.o (by rw[HX.o.2.2.1];omega) (by rw[HX.o.2.2.1];simp only[maxLen];omega) (by have:=s.o.com.lt;simp;omega) ?_;intro v4 w4 ac ag ar au;obtain⟨a4,c4,e4,_,_,_,_⟩:=OwnG.form ac;rw[HX.o.2.2.2]at e4;subst e4;have I:Hid (OwnG encU 44 w4 (C+1) (Aa a4 (i+1) c4) ((rnums i f).1++[AU v])/\An (C+1) G w4):=⟨ac,((bz1 G _).mono (by have:=s.o.com.lt;omega)).trans ag⟩;have ay:Hid (An w.heap.size w w4):=s.o.bel.trans (I.o.2.mono (by omega));have z4:=(s.o.com.below I.o.2 (by omega)).cells;have g4:=(s.o.com.below I.o.2 (by omega)).thaw;obtain⟨z0,z1,z2,z3⟩:=z4;obtain⟨g0,g1,g2,g3⟩:=g4;clear ac ag ar au)
     | (go_simp;(with_reducible refine HN.o.mono ?_);rintro e G ⟨rfl,J3⟩;have s:Hid (RP w C (p:Int) G (Aa D i lc) 0 ⟨#[]⟩ (rnums i f).1 r'):=U.o.drew.turn J3.o.1 J3.o.2;have k3:=s.o.com.cells.2.1;have aC:=(s.o.com.below (bz1 G (Ai #[Ab Al (v:Int)] 44)) s.o.com.lt).cells.2.1;have ax:Hid (An w.heap.size w G):=s.o.bel;have aq:Hid (∀j u,(encU.cells (AU v))[j]? = some u->(G.alloc (Ai #[Ab Al (v:Int)] 44)).cell? ((⟨G.heap.size,0,none⟩:Addr).add j)=some u):=(by have:=Zau encU G (AU v) 44;rw[show(encU.cells (AU v)).toArray=#[Ab Al (v:Int)]from(by show #[Ab Al ((AU v).toNat:Int)]=_;rw[HX.o.2.1])]at this;exact this)))
   all_goals
    have P4:Hid (RP w C (p:Int) (w4.setCell ⟨C,1,none⟩ (Aa a4 (i+1) c4)) (Aa a4 (i+1) c4) 0 ⟨#[]⟩ (rnums (i+1) f).1 (rnums (i+1) f).2):=by
     rw[HX.o.1];exact s.o.add I.o.2 I.o.1
    go_wp2;go_roundg (gk - 1)
    case measure=>omega
    case rel=>exact⟨i+1,a4,c4,by go_num,by omega,P4.o⟩
  ·obtain rfl:i=cn:=by omega
   have s:Hid (RP w C (p:Int) wr (Aa D i lc) 0 ⟨#[]⟩ l.1 l.2):=by
    have:=U.o;rw[E.o.2.2.2.1]at this;exact this
   have B:=ZfU s.o.rdr dn r4 E.o.2.2.2.2.1
   obtain⟨dt,aa⟩:=Xa (sgn dn)
   have aB:Ak.wrap (dn:Int)=dt:=by rw[<- aa];exact ZiL v4
   have HD:Hid (sgn dn=dt):=aa;clear U aa;go_wp2_with fail;refine B.mono ?_;rintro e w4 ⟨rfl,I⟩;have P4:Hid (RP w C (p:Int) w4 (Aa D i lc) 0 ⟨#[]⟩ l.1 r4):=s.o.turn I.o.1 I.o.2;obtain⟨x0,x1,x2,x3⟩:=P4.o.com.cells;obtain⟨f0,f1,f2,f3⟩:=P4.o.com.thaw;have P5:Hid (RP w C (p:Int) (w4.setCell ⟨C,2,none⟩ (Ab Ak dt)) (Aa D i lc) dt ⟨#[]⟩ l.1 r4):=P4.o.date dt
   obtain⟨t,F⟩:∃t:ByteArray,t=⟨x.1.toArray⟩:=⟨_,rfl⟩
   obtain⟨r5,z⟩:=Xa x.2
   have ao:=Zk0 P5.o.rdr t r5 (by rw[E.o.2.2.2.2.2.1,F,<- z])
   have HT:Hid (t=⟨x.1.toArray⟩/\x.2=r5):=⟨F,z⟩
   clear B I s F z;go_wp2_with fail;refine ao.mono ?_;rintro e w6 ⟨rfl,J6⟩;have P6:Hid (RP w C (p:Int) w6 (Aa D i lc) dt ⟨#[]⟩ l.1 r5):=P5.o.turn J6.o.1 J6.o.2;clear x0 x1 x2 x3 f0 f1 f2 f3;obtain⟨x0,x1,x2,x3⟩:=P6.o.com.cells;obtain⟨f0,f1,f2,f3⟩:=P6.o.com.thaw
   obtain⟨P,av⟩:=Xa (w6.setCell ⟨C,3,none⟩ (Ae t))
   have d:Hid (RP w C (p:Int) P (Aa D i lc) dt t l.1 r5):=by
    rw[<- av];exact P6.o.note t
   obtain⟨ra,rc,ai,_⟩:=d.o.rdr.at_;obtain⟨y0,y1⟩:=ai.cells;obtain⟨z0,z1,z2,z3⟩:=d.o.com.cells;obtain⟨q0,q1,q2,q3⟩:=d.o.res.cells;obtain⟨g0,g1,g2,g3⟩:=d.o.res.thaw
   obtain⟨rl,af⟩:=Xa r5.1.length
   rw[af]at y0;have HL:Hid (r5.1.length=rl):=af;clear ao J6 P5 ai af
   have T:∀S:Ap,S=(((P.setCell ⟨w.heap.size,0,none⟩ (Ab Al 0)).setCell ⟨w.heap.size,1,none⟩ (Aa none 0 0)).setCell ⟨w.heap.size,2,none⟩ (Ab Ak 0)).setCell ⟨w.heap.size,3,none⟩ (Ae ⟨#[]⟩)->An w.heap.size w S:=by
    rintro S rfl;have F:=ZaC P w.heap.size (Ab Al 0) (Aa none 0 0) (Ab Ak 0) (Ae ⟨#[]⟩);exact d.o.bel.trans (F.below d.o.bel.size (λ k hk q=>by have q':k=w.heap.size:=q;omega))
   have HZ:Hid (∀S:Ap,S=(((P.setCell ⟨w.heap.size,0,none⟩ (Ab Al 0)).setCell ⟨w.heap.size,1,none⟩ (Aa none 0 0)).setCell ⟨w.heap.size,2,none⟩ (Ab Ak 0)).setCell ⟨w.heap.size,3,none⟩ (Ae ⟨#[]⟩)->An w.heap.size w S):=T;clear T
   cases R:r5.2 with
   | true =>
    rw[R]at y1;have h:RC bs zcm 9:=ZmV (.inl (by rw[E.o.1];simp only;rw[HT.o.2];intro q;rw[q]at R;cases R));have HC:Hid (RC bs zcm 9):=h;clear h R;go_wp2;refine As (v:=Af #[Ag #[Ab Al 0,Aa none 0 0,Ab Ak 0,Ae ⟨#[]⟩],Ab Ak 9]) ?_ rfl ?_
    ·simp[AH,Tryz.f45];go_simp
    ·exact⟨zcm,9,none,0,rfl,HC.o,RdG.nil _ _ _,Az _,HZ.o _ rfl,ZaM.none _ _⟩
   | false =>
    rw[R]at y1;by_cases aA:0<rl
    ·have d1:(0:Int)<(rl:Int):=by omega
     have h:RC bs zcm 9:=ZmV (.inl (by rw[E.o.1];simp only;rw[HT.o.2];intro q;have:=HL.o;rw[q]at this;simp at this;omega));have HC:Hid (RC bs zcm 9):=h;clear h R;go_wp2;refine As (v:=Af #[Ag #[Ab Al 0,Aa none 0 0,Ab Ak 0,Ae ⟨#[]⟩],Ab Ak 9]) ?_ rfl ?_
     ·simp[AH,Tryz.f45];go_simp
     ·exact⟨zcm,9,none,0,rfl,HC.o,RdG.nil _ _ _,Az _,HZ.o _ rfl,ZaM.none _ _⟩
    ·have al:rl=0:=by omega
     subst al
     have z:x.2=([],false):=by
      rw[HT.o.2];exact Prod.ext (AT HL.o) R
     have ad:l.1.length=i:=E.o.2.2.2.2.2.2;obtain⟨am,h⟩:=d.o.row.rdc
     obtain⟨cc,y⟩:∃cc:Cm,(⟨AU p,l.1,dt,x.1⟩:Cm)=cc:=⟨_,rfl⟩
     have e1:cc.ps=l.1:=by rw[<- y]
     have e2:cc.date=dt:=by rw[<- y]
     have e3:cc.note=x.1:=by rw[<- y]
     have e4:(cc.tree.toNat:Int)=(p:Int):=by rw[<- y];simp only;rw[C1];omega
     have ak:pcom bs=(cc,([],false)):=by rw[E.o.1,<- y,z,HD.o]
     have Z:=Zfu (c:=cc) (w:=P) (by rw[e1];exact am) (by rw[e1];exact ad) h t (by rw[e3];exact HT.o.1) dt e2 (p:Int)
     obtain⟨ce,Y⟩:=Xa (ccom cc)
     rw[Y]at Z
     have r:Hid (cc.ps=l.1/\cc.date=dt/\cc.note=x.1/\(cc.tree.toNat:Int)=(p:Int)/\pcom bs=(cc,([],false))/\ccom cc=ce/\l.1.length=i/\i<=lc):=⟨e1,e2,e3,e4,ak,Y,ad,h⟩
     clear e1 e2 e3 e4 ak Y ad am h z y R;by_cases O:ce=0
     ·subst O;go_wp2_with fail;refine Z.mono ?_;rintro e w8 ⟨rfl,A⟩;have H:Hid (An P.heap.size P w8):=A;clear A z0 z1 z2 z3 q0 q1 q2 q3 g0 g1 g2 g3 y0 y1;obtain⟨z0,z1,z2,z3⟩:=(d.o.com.below H.o d.o.com.lt).cells;obtain⟨q0,q1,q2,q3⟩:=(d.o.res.below H.o d.o.res.lt).cells;obtain⟨g0,g1,g2,g3⟩:=(d.o.res.below H.o d.o.res.lt).thaw;go_wp2;refine As (v:=Af #[Ag #[Ab Al (p:Int),Aa D i lc,Ab Ak dt,Ae t],Ab Ak 0]) ?_ rfl ?_
      ·simp[AH,Tryz.f45];go_simp
      ·have F:=ZaC w8 w.heap.size (Ab Al (p:Int)) (Aa D i lc) (Ab Ak dt) (Ae t);have bel:An w.heap.size w w8:=d.o.bel.trans (H.o.mono d.o.bel.size);have Q:=(d.o.row.below H.o).stays F (λ g hg q=>by have:=(d.o.row.lt g hg).1;have:=d.o.lo;have q':g=w.heap.size:=q;omega);have hg:=ZpC (b:=bs) (by rw[r.o.2.2.2.2.1]) (by rw[r.o.2.2.2.2.1];exact r.o.2.2.2.2.2.1);rw[r.o.2.2.2.2.1]at hg;refine⟨cc,0,D,lc,?_,hg,?_,?_,bel.trans (F.below bel.size (λ k hk q=>by have q':k=w.heap.size:=q;omega)),by rw[r.o.1,r.o.2.2.2.2.2.2.1];exact Q.newRow (by have:=d.o.lo;omega)⟩
       ·rw[r.o.1,r.o.2.1,r.o.2.2.1,r.o.2.2.2.1,r.o.2.2.2.2.2.2.1,HT.o.1]
       ·rw[r.o.1];exact Q.rdc.1
       ·rw[r.o.1,r.o.2.2.2.2.2.2.1];exact r.o.2.2.2.2.2.2.2
     ·have m0:(ce==0)=false:=by simpa using O
      have m1:(ce != 0)=true:=by simpa using O
      go_wp2_with fail;refine Z.mono ?_;rintro e w8 ⟨rfl,A⟩;have H:Hid (An P.heap.size P w8):=A;clear A z0 z1 z2 z3 q0 q1 q2 q3 g0 g1 g2 g3 y0 y1;obtain⟨q0,q1,q2,q3⟩:=(d.o.res.below H.o d.o.res.lt).cells;obtain⟨g0,g1,g2,g3⟩:=(d.o.res.below H.o d.o.res.lt).thaw;go_wp2;refine As (v:=Af #[Ag #[Ab Al 0,Aa none 0 0,Ab Ak 0,Ae ⟨#[]⟩],Ab Ak 9]) ?_ rfl ?_
      ·simp[AH,Tryz.f45];go_simp
      ·have F:=ZaC w8 w.heap.size (Ab Al 0) (Aa none 0 0) (Ab Ak 0) (Ae ⟨#[]⟩);have bel:An w.heap.size w w8:=d.o.bel.trans (H.o.mono d.o.bel.size);have hg:RC bs zcm 9:=ZmV (.inr (by rw[r.o.2.2.2.2.1];simp only;rw[r.o.2.2.2.2.2.1];exact O));exact⟨zcm,9,none,0,rfl,hg,RdG.nil _ _ _,Az _,bel.trans (F.below bel.size (λ k hk q=>by have q':k=w.heap.size:=q;omega)),ZaM.none _ _⟩
def St.files(st:St)(i:UInt64):List En:=((oget st.objs 2 i).bind rdtree).getD []
def St.com(st:St)(i:UInt64):Cm:=((oget st.objs 3 i).bind rdcom).getD zcm
theorem RT.files(h:RT b es e):(rdtree b).getD []=es:=by
 rcases h.rd with⟨_,q⟩ | ⟨_,rfl,q⟩ <;> rw[q] <;> rfl
theorem RC.com{c:Cm}(h:RC b c e):(rdcom b).getD zcm=c:=by
 rcases h.rd with⟨_,q⟩ | ⟨_,rfl,q⟩ <;> rw[q] <;> rfl
section
variable{w:World}{s b:Nat}{st:St}{S:Nat->Prop}
theorem Zhj(h:Zac w s b st S)(i:UInt64)(g:Bool)(j:st.has 2 i=g):
  At Am 89 #[Ah (some ⟨s,0,none⟩),Ab Al (i.toNat:Int)] w λ e w'=>∃v,e=Aj (Af #[v,Ad g])/\Hid (OwnG encE 152 w' w.heap.size v (st.files i)/\An w.heap.size w w'):=by
 obtain⟨M,r,t,F,h⟩:=h;obtain⟨v,l,a,c⟩:=h.look (k:=2) (by omega) i;rw[show((2:Nat):Int)=2 from rfl]at l a c;rw[j]at l;obtain⟨y,z,A,B,C,D,E⟩:=h.cell
 obtain⟨x,q⟩:∃x:Int,(i.toNat:Int)=x:=⟨_,rfl⟩
 rw[q]at l ⊢;unfold St.files;unfold St.has at j
 cases e:oget st.objs 2 i with
 | none =>
  rw[e]at j;subst j;have m:=c e;subst m;clear h a c q e;go_enter func89,ntmps89;go_wp2;refine As (AA rfl _ _ _) rfl ?_;exact⟨_,rfl,OwnG.nil _ _ _ _,Below.refl _ _⟩
 | some bs =>
  rw[e]at j;subst j;obtain⟨a1,G,m,_,_,_⟩:=(a bs e).1;have d:=(a bs e).1;rw[m]at d l;have f:=Zhe w d rfl;clear d
  obtain⟨n,u⟩:=Xa bs.length
  rw[u]at f l;clear h a c q e m u;go_enter func89,ntmps89;go_wp2_with fail;refine f.mono ?_;rintro e w1 ⟨es,H,I,rfl,p⟩;clear f;go_wp2;refine As (AA rfl _ _ _) rfl ?_;refine⟨_,rfl,?_,p.o.2.2⟩;rw[Option.bind_some,p.o.1.files];exact p.o.2.1
end
section
variable{w:World}{s b:Nat}{st:St}{S:Nat->Prop}
theorem ZhS(h:Zac w s b st S)(i:UInt64)(g:Bool)(G:st.has 3 i=g):
  At Am 18 #[Ah (some ⟨s,0,none⟩),Ab Al (i.toNat:Int)] w λ e w'=>∃(pa:Option Addr) (pc:Nat),e=Aj (Af #[Ag #[Ab Al ((st.com i).tree.toNat:Int),Aa pa (st.com i).ps.length pc,Ab Ak (st.com i).date,tx (st.com i).note],Ad g])/\Hid (RdG encU w' pa (st.com i).ps/\(st.com i).ps.length<=pc/\An w.heap.size w w'/\ZaM w pa (st.com i).ps.length):=by
 obtain⟨M,r,t,F,h⟩:=h
 obtain⟨W,T⟩:=Xa (w.alloc (Ai #[Ab Al 0,Aa none 0 0,Ab Ak 0,Ae ⟨#[]⟩] 58))
 have E:An w.heap.size w W:=by rw[<- T];exact bz1 _ _
 have bx:Box4 W w.heap.size 58 (Ab Al 0) (Aa none 0 0) (Ab Ak 0) (Ae ⟨#[]⟩):=by rw[<- T];exact Box4.new _ _ _ _ _ _
 obtain⟨v,I,d,l⟩:=(h.below E).look (k:=3) (by omega) i;rw[show((3:Nat):Int)=3 from rfl]at I d l;rw[G]at I;obtain⟨c0,c1,R,c3,c4,c5,c6⟩:=(h.below E).cell
 obtain⟨x,P⟩:∃x:Int,(i.toNat:Int)=x:=⟨_,rfl⟩
 rw[P]at I ⊢
 obtain⟨cm,a⟩:=Xa (st.com i)
 rw[a];unfold St.com at a;unfold St.has at G
 cases e:oget st.objs 3 i with
 | none =>
  rw[e]at G a;subst G;have a:cm=zcm:=a.symm;subst a;have L:=l e;subst L;obtain⟨x0,x1,x2,x3⟩:=bx.cells;obtain⟨Z,f1,f2,f3⟩:=bx.thaw;have lt:=bx.lt;have c:Hid (An w.heap.size w W):=E;clear h d l P e bx E;go_enter func18,ntmps18;go_wp2;refine As (v:=Af #[Ag #[Ab Al 0,Aa none 0 0,Ab Ak 0,Ae ⟨#[]⟩],Ad false]) ?_ rfl ⟨none,0,rfl,RdG.nil _ _ _,Az _,?_,ZaM.none _ _⟩
  ·simp[AH,Tryz.f18];go_simp
  ·exact c.o.trans ((ZaC W w.heap.size _ _ _ _).below c.o.size (λ k hk q=>by have X:k=w.heap.size:=q;omega))
 | some bs =>
  rw[e]at G a;subst G;obtain⟨a1,c7,L,_,_,_⟩:=(d bs e).1;have m:=(d bs e).1;rw[L]at m I;have A:=Ziv W m rfl
  obtain⟨n,U⟩:=Xa bs.length
  rw[U]at A I
  have c:Hid (An w.heap.size w W/\Box4 W w.heap.size 58 (Ab Al 0) (Aa none 0 0) (Ab Ak 0) (Ae ⟨#[]⟩)):=⟨E,bx⟩
  rw[Option.bind_some]at a;have Y:Hid ((rdcom bs).getD zcm=cm):=a;clear h d l P e L U m E bx a;go_enter func18,ntmps18;go_wp2_with fail;refine A.mono ?_;rintro e w1 ⟨R,er,pa,pc,rfl,f⟩
  have ec:cm=R:=by rw[<- Y.o];exact f.o.1.com
  subst ec
  obtain⟨C,B⟩:∃C:Int,(cm.tree.toNat:Int)=C:=⟨_,rfl⟩
  obtain⟨pn,z⟩:=Xa cm.ps.length
  obtain⟨dt,u⟩:=Xa cm.date
  obtain⟨nt,y⟩:∃nt:ByteArray,(⟨cm.note.toArray⟩:ByteArray)=nt:=⟨_,rfl⟩
  rw[B,z,u,show tx cm.note=Ae nt by rw[<- y]]
  have D:Hid ((cm.tree.toNat:Int)=C/\cm.ps.length=pn/\cm.date=dt/\(⟨cm.note.toArray⟩:ByteArray)=nt):=⟨B,z,u,y⟩
  obtain⟨wA,K⟩:=Xa (w1.alloc (Ai #[Ab Al C,Aa pa pn pc,Ab Ak dt,Ae nt] 58))
  have N:An w1.heap.size w1 wA:=by rw[<- K];exact bz1 _ _
  have H:Box4 wA w1.heap.size 58 (Ab Al C) (Aa pa pn pc) (Ab Ak dt) (Ae nt):=by rw[<- K];exact Box4.new _ _ _ _ _ _
  have j:=(c.o.2.below f.o.2.2.2.1 c.o.2.lt).below N (c.o.2.below f.o.2.2.2.1 c.o.2.lt).lt;obtain⟨y0,y1,y2,y3⟩:=H.cells;obtain⟨x0,x1,x2,x3⟩:=j.cells;obtain⟨Z,f1,f2,f3⟩:=j.thaw;have lt:=j.lt;have Q:Hid (An w1.heap.size w1 wA):=N;clear A B z u y N H j;go_wp2;refine As (v:=Af #[Ag #[Ab Al C,Aa pa pn pc,Ab Ak dt,Ae nt],Ad true]) ?_ rfl ?_
  ·simp[AH,Tryz.f18];go_simp
  ·have V:=ZaC wA w.heap.size (Ab Al C) (Aa pa pn pc) (Ab Ak dt) (Ae nt);have bel:An w.heap.size w wA:=(c.o.1.trans (f.o.2.2.2.1.mono c.o.1.size)).trans (Q.o.mono (AZ c.o.1.size f.o.2.2.2.1.size))
   have J:=(f.o.2.1.below Q.o).turned V (λ O p hp q=>by
    have h1:=f.o.2.2.2.2 O p hp;have h2:=c.o.2.lt;have X:p.block=w.heap.size:=q
    omega)
   refine⟨pa,pc,?_,J,f.o.2.2.1,bel.trans (V.below bel.size (λ k hk q=>by have X:k=w.heap.size:=q;omega)),by rw[D.o.2.1];exact λ O p hp=>AZ c.o.1.size (f.o.2.2.2.2 (by rw[D.o.2.1];exact O) p hp)⟩;rw[D.o.1,D.o.2.1,D.o.2.2.1,<- D.o.2.2.2]
   rfl
end
end Go.Proofs.YtlojblelpaegpaaGreat
