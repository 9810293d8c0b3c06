/-
  Several texts, laid together.
-/
import Derived.Test.YtlojblelpaegpaaGreatM11
import Derived.Test.YtlojblelpaegpaaGreatM10
set_option maxHeartbeats 6400000
set_option maxRecDepth 100000
open List renaming getElem?_eq_some_iff->AC,pairwise_iff_getElem->Dq,getElem?_eq_getElem->Aq,length_append->AD,take_of_length_le->Av,lt_irrefl->D5,length_drop->By,drop_drop->C5,getElem?_take->FT,range->BF
open Go renaming World->Ap,Calls->At,bodyPost_ret->As,results_tmp2->AA,wpQuiet_nil->AN,results->AH
open Go.RowKit renaming Below->An
open Go.RowKit.Below renaming refl->Ao
open Go.IntKind renaming u64->Al,wrap_u64->Bh,i64->Ak,wrap_i64->Au
open UInt8 renaming ofNat->AW
open ByteArray renaming ext->DG,getElem_eq_getElem_data->CF,size_extract->BR
open Nat renaming lt_or_ge->Cp,le_refl->Az
open Go.Op renaming bytesLess->BI
open UInt64 renaming ofNat->AU,toNat_inj->Bz
open Go.Value renaming int->Ab,string->Ae,slice->Aa,tuple->Af,agg->Ag
open Go.Ending renaming returned->Aj
open Go.Proofs.Tryz renaming prog->Am
open Go.Proofs.Tryz
namespace Go.Proofs.YtlojblelpaegpaaGreat
open Go.RowKit
variable{es:List En}{i k:Nat}
def Bad(es:List En)(i k:Nat):Prop:=∃a b,es[i]? = some a/\es[k]? = some b/\((i<k/\¬a.1<b.1)∨(i≠k/\under a.1 b.1=true))
theorem ZlR(h:Tr es){a b:En}(c:i<k)(d:es[i]? = some a)(e:es[k]? = some b):Ahead a b:=by
 obtain⟨hi,rfl⟩:=AC.1 d;obtain⟨f,rfl⟩:=AC.1 e;exact Dq.1 h i k hi f c
theorem ZpV(h:Bad es i k):¬Tr es:=by
 intro g;obtain⟨a,b,e,f,q⟩:=h
 rcases q with⟨d,c⟩ | ⟨d,c⟩
 ·exact c (ZlR g d e f).1
 ·rcases Nat.lt_or_gt_of_ne d with q|q
  ·exact ZoC c (ZlR g q e f).1
  ·have:=(ZlR g q f e).2;rw[c]at this;cases this
theorem Zph(h:∀i k,¬Bad es i k):Tr es:=by
 refine Dq.2 (λ i k hi b a=>⟨?_,?_⟩)
 ·by_cases q:es[i].1<es[k].1
  ·exact q
  ·exact absurd ⟨es[i],es[k],Aq hi,Aq b,.inl ⟨a,q⟩⟩ (h i k)
 ·cases q:under es[k].1 es[i].1 with
  | false=>rfl
  | true=>exact absurd ⟨es[k],es[i],Aq b,Aq hi,.inr ⟨by omega,q⟩⟩ (h k i)
theorem ZfT(a b:ByteArray):(a++b).data.toList=a.data.toList++b.data.toList:=by
 rw[ByteArray.data_append];simp
theorem Zba(a b:ByteArray):(a++b).size=a.size+b.size:=by
 rw[bsize,ZfT,AD,bsize,bsize]
theorem Zc2(n k:Nat)(c:n<18446744073709551616)(b:k<=8)(z:ByteArray)(d:z=⟨(low k n).toArray⟩)(w:Ap)(u:SW (Grew w)):
  At Am 49 #[Ab Al (n:Int),Ab Ak (k:Int)] u.w λ e w'=>e=Aj (Ae z)/\∃u':SW (Grew w),w'=u'.w:=by
 subst d;refine(ZaD n k c b u.w).mono ?_;rintro e w' ⟨rfl,a⟩;exact⟨rfl,⟨w',u.ok.trans (a.mono u.ok.size)⟩,rfl⟩
theorem Zgx{ao:Option Addr}{c n:Nat}(w:Ap)(hr:RdG encE w ao es)(hl:es.length=n):
  At Am 118 #[Aa ao n c] w λ e w'=>e=Aj (Af #[tx (ftree es).1,Ab Ak (ftree es).2])/\An w.heap.size w w':=by
 by_cases ac:64<n
 ·have q:(64:Int)<(n:Int):=by omega
  have e:ctree es=4:=by unfold ctree;rw[AE (by omega)]
  have e2:ftree es=([],4):=by unfold ftree;rw[e];rfl
  rw[e2];clear hr hl e e2;go_enter func118,ntmps118;go_wp2;refine As (AA rfl _ _ _) rfl ?_;exact⟨rfl,Ao _ _⟩
 have q:decide ((64:Int)<(n:Int))=false:=by rw[Ax];omega
 have H:Hid (RdG encE w ao es/\es.length=n):=⟨hr,hl⟩
 clear hr hl;go_enter func118,ntmps118;go_wp2_with fail;go_loopg[4,5] n (λ m sv iv wr=>∃(i:Nat) (s:ByteArray),iv=Ab Ak i/\i+m=n/\sv=Ae s/\Hid (s=⟨(treeB (es.take i)).toArray⟩/\((es.take i).all λ e=>isPath e.1)=true/\An w.heap.size w wr))
 case atStart=>exact⟨0,_,rfl,by omega,rfl,rfl,rfl,Ao _ _⟩
 case round =>
  obtain⟨i,s,rfl,hi,rfl,F⟩:=hrel;by_cases W:i<n
  ·have id:(i:Int)<(n:Int):=by omega
   have ap:(0:Int)<=(i:Int):=by omega
   obtain⟨e,he⟩:=Zaf H.o.2 W;obtain⟨b,off,rfl,an⟩:=H.o.1.some_of he;obtain⟨ar,c0,c1⟩:=(H.o.1.below F.o.2.2).ents he;obtain⟨d,z⟩:=e
   obtain⟨t,ht⟩:∃t:ByteArray,t=⟨d.toArray⟩:=⟨_,rfl⟩
   have ai:t.size=d.length:=by rw[ht];show d.toArray.size=_;simp
   simp only at c0 c1;rw[show tx d=Ae t by rw[ht]]at c0
   have HE:Hid (es[i]? = some (d,z)/\t=⟨d.toArray⟩/\t.size=d.length):=⟨he,ht,ai⟩
   have X:∀f,isPath d=f->At Am 183 #[Ae t] wr λ e w'=>e=Aj (.bool f)/\An wr.heap.size wr w':=λ f hf=>by rw[ht];exact Zl6 d f hf wr
   clear he ht ai
   cases hp:isPath d with
   | false =>
    have M:=X false hp
    have v:ftree es=([],2):=by
     have:ctree es=2:=by
      unfold ctree;rw[Aw (by rw[H.o.2];exact ac),AE (Zg4 HE.o.1 hp)]
     unfold ftree;rw[this]
     rfl
    clear X;go_wp2_with fail;refine M.mono ?_;rintro e J ⟨rfl,G⟩;go_wp2;refine As (AA rfl _ _ _) rfl ?_;exact⟨by rw[v];rfl,F.o.2.2.trans (G.mono F.o.2.2.size)⟩
   | true =>
    have M:=X true hp;clear X;go_wp2_with fail;refine M.mono ?_;rintro e J ⟨rfl,G⟩;clear M c0 c1;have B2:=F.o.2.2.trans (G.mono F.o.2.2.size);have af:=ZbA hp
    have ad:s.size<=264*64:=by
     rw[F.o.1];show(treeB (es.take i)).toArray.size<=_;have U:=Zek (es:=es.take i) (λ x hx=>by have:=ZbA (List.all_eq_true.1 F.o.2.1 x hx);omega)
     have V:(es.take i).length<=64:=by rw[List.length_take,H.o.2];omega
     simp only[List.size_toArray];omega
    obtain⟨z1,Y⟩:∃z1:ByteArray,z1=⟨(low 1 t.size).toArray⟩:=⟨_,rfl⟩
    obtain⟨z8,Z⟩:∃z8:ByteArray,z8=⟨(low 8 z.toNat).toArray⟩:=⟨_,rfl⟩
    have l1:z1.size=1:=by rw[Y];show(low 1 t.size).toArray.size=1;simp[Zar]
    have l8:z8.size=8:=by rw[Z];show(low 8 z.toNat).toArray.size=8;simp[Zar]
    have aq:t.size<=102:=by rw[HE.o.2.2];exact af
    have NE:Nonempty (SW (Grew J)):=⟨⟨J,Ao _ _⟩⟩
    have T:∀u:SW (Grew J),An w.heap.size w u.w:=λ u=>B2.trans (u.ok.mono B2.size)
    have k0:∀u:SW (Grew J),u.w.cell? ⟨b,off+i*2,none⟩=some (Ae t):=λ u=>by
     have:=((H.o.1.below (T u)).ents HE.o.1).2.1;rw[HE.o.2.1];exact this
    have k1:∀u:SW (Grew J),u.w.cell? ⟨b,off+i*2+1,none⟩=some (Ab Al (z.toNat:Int)):=λ u=>((H.o.1.below (T u)).ents HE.o.1).2.2
    have n1:∀u:SW (Grew J),At Am 49 #[Ab Al (t.size:Int),Ab Ak 1] u.w λ e w'=>e=Aj (Ae z1)/\∃u':SW (Grew J),w'=u'.w:=Zc2 t.size 1 (by omega) (by omega) z1 Y J
    have n8:∀u:SW (Grew J),At Am 49 #[Ab Al (z.toNat:Int),Ab Ak 8] u.w λ e w'=>e=Aj (Ae z8)/\∃u':SW (Grew J),w'=u'.w:=Zc2 z.toNat 8 z.toNat_lt (by omega) z8 Z J
    have av:Al.wrap (t.size:Int)=(t.size:Int):=by rw[Bh];omega
    have a1:¬(9223372036854775807<s.size+z1.size):=by omega
    have a2:¬(9223372036854775807<(s++z1).size+t.size):=by rw[Zba];omega
    have a3:¬(9223372036854775807<(s++z1++t).size+z8.size):=by rw[Zba,Zba];omega
    have HN:Hid (s++z1++t++z8=⟨(treeB (es.take (i+1))).toArray⟩):=by
     show _=_;rw[Zff HE.o.1,F.o.1,Y,Z,HE.o.2.1]
     have e1:low 1 (⟨d.toArray⟩:ByteArray).size=[AW d.length]:=by
      have:(⟨d.toArray⟩:ByteArray).size=d.length:=by show d.toArray.size=_;simp
      rw[this];rfl
     rw[e1];apply DG;simp[b8]
    have ab:Hid (An w.heap.size w J/\isPath d=true):=⟨B2,hp⟩
    clear T af ad l1 l8 aq Y Z B2 G;go_wp2_with fail;refine Zab (S:=Grew J) (by kernel_rfl) (by kernel_rfl) (Ao _ J).drew ?_
    repeat(go_big_quiet_step (first | with_reducible exact n1 _ | with_reducible exact n8 _))
    refine AN ?_;intro _ A;obtain⟨u,p⟩:=A;subst p;have N4:Hid (An w.heap.size w u.w):=ab.o.1.trans (u.ok.mono ab.o.1.size)
    obtain⟨w4,r⟩:=Xb u.w
    rw[<- r]at N4 ⊢;clear r k0 k1 n1 n8 NE u;go_wp2;go_roundg (gk - 1)
    case measure=>omega
    case rel=>exact⟨i+1,_,by go_num,by omega,rfl,HN.o,Zgv HE.o.1 F.o.2.1 ab.o.2,N4.o⟩
  ·obtain rfl:i=n:=by omega
   have ag:es.take i=es:=Av (by rw[H.o.2];omega)
   have HA:Hid (s=⟨(treeB es).toArray⟩/\((es.all λ e=>isPath e.1)=true)/\An w.heap.size w wr):=by
    have:=F.o;rw[ag]at this;exact this
   obtain⟨w1,aj⟩:=Xb wr
   rw[<- aj]at HA ⊢;clear ag aj F wr W hi;go_wp2_with fail;go_loopg[6,7] i (λ m iv _ wr=>∃k:Nat,iv=Ab Ak k/\k+m=i/\Hid ((∀j l,j<k->¬Bad es j l)/\An w.heap.size w wr))
   case atStart=>exact⟨0,rfl,by omega,λ j l h=>absurd h (by omega),HA.o.2.2⟩
   case round =>
    obtain⟨k,rfl,hi,F⟩:=hrel;by_cases W:k<i
    ·have id:(k:Int)<(i:Int):=by omega
     have ap:(0:Int)<=(k:Int):=by omega
     obtain⟨J,ak⟩:=Xb wr
     rw[<- ak]at F ⊢;clear ak wr;go_wp2_with fail;go_loopg[7] i (λ m iv wr=>∃l:Nat,iv=Ab Ak l/\l+m=i/\Hid ((∀j,j<l->¬Bad es k j)/\An w.heap.size w wr))
     case atStart=>exact⟨0,rfl,by omega,λ j h=>absurd h (by omega),F.o.2⟩
     case round =>
      obtain⟨l,rfl,hl,HQ⟩:=hrel;by_cases am:l<i
      ·have ld:(l:Int)<(i:Int):=by omega
       have au:(0:Int)<=(l:Int):=by omega
       obtain⟨x,hx⟩:=Zaf H.o.2 W;obtain⟨y,hy⟩:=Zaf H.o.2 am;obtain⟨b,off,rfl,an⟩:=H.o.1.some_of hx;obtain⟨B,xb⟩:=x;obtain⟨C,yb⟩:=y
       have NE:Nonempty (SW (Grew wr)):=⟨⟨wr,Ao _ _⟩⟩
       have T:∀u:SW (Grew wr),An w.heap.size w u.w:=λ u=>HQ.o.2.trans (u.ok.mono HQ.o.2.size)
       have k0:∀u:SW (Grew wr),u.w.cell? ⟨b,off+k*2,none⟩=some (tx B):=λ u=>((H.o.1.below (T u)).ents hx).2.1
       have k1:∀u:SW (Grew wr),u.w.cell? ⟨b,off+l*2,none⟩=some (tx C):=λ u=>((H.o.1.below (T u)).ents hy).2.1
       obtain⟨f,hf⟩:=Xa (under B C)
       have D:∀u:SW (Grew wr),At Am 184 #[tx B,tx C] u.w λ e w'=>e=Aj (.bool f)/\∃u':SW (Grew wr),w'=u'.w:=λ u=>by
        refine(Ze7 ⟨B.toArray⟩ ⟨C.toArray⟩ u.w).mono ?_;rintro e w' ⟨rfl,rfl⟩;exact⟨by rw[<- hf],u,rfl⟩
       have I:Hid (es[k]? = some (B,xb)/\es[l]? = some (C,yb)/\under B C=f):=⟨hx,hy,hf⟩
       have fine:∀u:SW (Grew wr),¬Bad es k l->Hid ((∀j,j<l+1->¬Bad es k j)/\An w.heap.size w u.w):=λ u R=>by
        refine⟨λ j hj=>?_,T u⟩
        rcases Cp j l with q|q
        ·exact HQ.o.1 j q
        ·obtain rfl:j=l:=by omega
         exact R
       have Q:Bad es k l->ftree es=([],12):=λ R=>by
        have:ctree es=12:=by
         unfold ctree;rw[Aw (by rw[H.o.2];exact ac),Aw (by rw[HA.o.2.1];decide),Aw (ZpV R)]
        unfold ftree;rw[this]
        rfl
       have L:Hid ((∀u:SW (Grew wr),¬Bad es k l->Hid ((∀j,j<l+1->¬Bad es k j)/\An w.heap.size w u.w))/\(Bad es k l->ftree es=([],12))/\∀u:SW (Grew wr),An w.heap.size w u.w):=⟨fine,Q,T⟩
       clear hx hy hf fine Q T
       rcases Nat.lt_trichotomy k l with P|P|P
       ·have d1:decide ((k:Int)<(l:Int))=true:=by rw[CR];omega
        have d2:((k:Int) != (l:Int))=true:=by rw[FY];omega
        have d3:(k:Int)<(l:Int):=by omega
        by_cases E:B<C
        ·have q1:BI B C=true:=by rw[ZaY,CR];exact E
         have q2:BI C B=false:=by rw[ZaY,Ax];exact List.lt_asymm E
         have q3:(C==B)=false:=by rw[A7];rintro rfl;exact D5 _ E
         have q4:(B==C)=false:=by rw[A7];rintro rfl;exact D5 _ E
         go_wp2_with fail;refine Zab (S:=Grew wr) (by kernel_rfl) (by kernel_rfl) (Ao _ wr).drew ?_
         repeat(go_big_quiet_step (with_reducible exact D _))
         refine AN ?_;intro _ A;obtain⟨u,p⟩:=A;subst p;have K:=L.o.1 u;have O:Hid (An w.heap.size w u.w):=L.o.2.2 u;have g:Hid (¬Bad es k l->Hid ((∀j,j<l+1->¬Bad es k j)/\An w.heap.size w u.w)):=K
         obtain⟨w4,r⟩:=Xb u.w
         rw[<- r]at g O ⊢;clear K r k0 k1 D NE u
         cases f with
         | true =>
          have v:=L.o.2.1 (⟨_,_,I.o.1,I.o.2.1,.inr ⟨by omega,I.o.2.2⟩⟩);clear g;go_wp2;refine As (AA rfl _ _ _) rfl ?_;exact⟨by rw[v];rfl,O.o⟩
         | false =>
          have N:=g.o (by
            rintro⟨a,b',U,V,h3⟩;rw[I.o.1]at U;rw[I.o.2.1]at V;cases U;cases V
            rcases h3 with⟨g1,g2⟩ | ⟨g1,g2⟩
            ·first | exact g2 E | omega
            ·first | omega | (rw[I.o.2.2]at g2;cases g2))
          clear g;go_wp2;go_roundg (gk - 1)
          case measure=>omega
          case rel=>exact⟨l+1,by go_num,by omega,N⟩
        ·by_cases hq:B=C
         ·have v:=L.o.2.1 ⟨_,_,I.o.1,I.o.2.1,.inl ⟨P,E⟩⟩
          have q1:BI B C=false:=by rw[ZaY,Ax];exact E
          have q2:BI C B=false:=by rw[ZaY,Ax,<- hq];exact D5 _
          have q3:(C==B)=true:=by rw[Ep];exact hq.symm
          have q4:(B==C)=true:=by rw[Ep];exact hq
          clear hq;go_wp2_with fail;refine Zab (S:=Grew wr) (by kernel_rfl) (by kernel_rfl) (Ao _ wr).drew ?_
          repeat(go_big_quiet_step (with_reducible exact D _))
          refine AN ?_;intro _ A;obtain⟨u,p⟩:=A;subst p;have K:=L.o.1 u;have O:Hid (An w.heap.size w u.w):=L.o.2.2 u;have g:Hid (¬Bad es k l->Hid ((∀j,j<l+1->¬Bad es k j)/\An w.heap.size w u.w)):=K
          obtain⟨w4,r⟩:=Xb u.w
          rw[<- r]at g O ⊢;clear K r k0 k1 D NE u;clear g;go_wp2;refine As (AA rfl _ _ _) rfl ?_;exact⟨by rw[v];rfl,O.o⟩
         ·have v:=L.o.2.1 ⟨_,_,I.o.1,I.o.2.1,.inl ⟨P,E⟩⟩
          have aa:C<B:=by
           by_cases k':C<B
           ·exact k'
           ·exact absurd (List.le_antisymm k' E) hq
          have q1:BI B C=false:=by rw[ZaY,Ax];exact E
          have q2:BI C B=true:=by rw[ZaY,CR];exact aa
          have q3:(C==B)=false:=by rw[A7];exact λ e=>hq e.symm
          have q4:(B==C)=false:=by rw[A7];exact hq
          clear hq aa;go_wp2_with fail;refine Zab (S:=Grew wr) (by kernel_rfl) (by kernel_rfl) (Ao _ wr).drew ?_
          repeat(go_big_quiet_step (with_reducible exact D _))
          refine AN ?_;intro _ A;obtain⟨u,p⟩:=A;subst p;have K:=L.o.1 u;have O:Hid (An w.heap.size w u.w):=L.o.2.2 u;have g:Hid (¬Bad es k l->Hid ((∀j,j<l+1->¬Bad es k j)/\An w.heap.size w u.w)):=K
          obtain⟨w4,r⟩:=Xb u.w
          rw[<- r]at g O ⊢;clear K r k0 k1 D NE u;clear g;go_wp2;refine As (AA rfl _ _ _) rfl ?_;exact⟨by rw[v];rfl,O.o⟩
       ·subst P
        have ae:¬Bad es k k:=by
         rintro⟨a,b',U,V,h3⟩
         rcases h3 with⟨g1,g2⟩ | ⟨g1,g2⟩
         ·omega
         ·exact g1 rfl
        have al:Hid (¬Bad es k k):=ae;clear ae;go_wp2_with fail;refine Zab (S:=Grew wr) (by kernel_rfl) (by kernel_rfl) (Ao _ wr).drew ?_
        repeat(go_big_quiet_step (with_reducible exact D _))
        refine AN ?_;intro _ A;obtain⟨u,p⟩:=A;subst p;have K:=L.o.1 u;have O:Hid (An w.heap.size w u.w):=L.o.2.2 u;have g:Hid (¬Bad es k k->Hid ((∀j,j<k+1->¬Bad es k j)/\An w.heap.size w u.w)):=K
        obtain⟨w4,r⟩:=Xb u.w
        rw[<- r]at g O ⊢;clear K r k0 k1 D NE u;have N:=g.o (al.o);clear g;go_wp2;go_roundg (gk - 1)
        case measure=>omega
        case rel=>exact⟨k+1,by go_num,by omega,N⟩
       ·have d1:decide ((k:Int)<(l:Int))=false:=by rw[Ax];omega
        have d4:decide (k<l)=false:=by rw[Ax];omega
        have d5:((k:Int)==(l:Int))=false:=by rw[A7];omega
        have d6:(k==l)=false:=by rw[A7];omega
        have d7:(k != l)=true:=by rw[FY];omega
        have d2:((k:Int) != (l:Int))=true:=by rw[FY];omega
        go_wp2_with fail;refine Zab (S:=Grew wr) (by kernel_rfl) (by kernel_rfl) (Ao _ wr).drew ?_
        repeat(go_big_quiet_step (with_reducible exact D _))
        refine AN ?_;intro _ A;obtain⟨u,p⟩:=A;subst p;have K:=L.o.1 u;have O:Hid (An w.heap.size w u.w):=L.o.2.2 u;have g:Hid (¬Bad es k l->Hid ((∀j,j<l+1->¬Bad es k j)/\An w.heap.size w u.w)):=K
        obtain⟨w4,r⟩:=Xb u.w
        rw[<- r]at g O ⊢;clear K r k0 k1 D NE u
        cases f with
        | true =>
         have v:=L.o.2.1 (⟨_,_,I.o.1,I.o.2.1,.inr ⟨by omega,I.o.2.2⟩⟩);clear g;go_wp2;refine As (AA rfl _ _ _) rfl ?_;exact⟨by rw[v];rfl,O.o⟩
        | false =>
         have N:=g.o (by
           rintro⟨a,b',U,V,h3⟩;rw[I.o.1]at U;rw[I.o.2.1]at V;cases U;cases V
           rcases h3 with⟨g1,g2⟩ | ⟨g1,g2⟩
           ·omega
           ·first | omega | (rw[I.o.2.2]at g2;cases g2))
         clear g;go_wp2;go_roundg (gk - 1)
         case measure=>omega
         case rel=>exact⟨l+1,by go_num,by omega,N⟩
      ·obtain rfl:l=i:=by omega
       have HZ:Hid (∀j l,j<k+1->¬Bad es j l):=λ j l hj R=>by
        rcases Cp j k with q|q
        ·exact F.o.1 j l q R
        ·obtain rfl:j=k:=by omega
         have G:=R;obtain⟨_,_,_,V,_⟩:=G;exact HQ.o.1 l (by have:=(AC.1 V).1;rw[H.o.2]at this;exact this) R
       go_wp2;go_roundg (l - (k+1))
       case measure=>omega
       case rel=>exact⟨k+1,by go_num,by omega,HZ.o,HQ.o.2⟩
    ·obtain rfl:k=i:=by omega
     have ah:Tr es:=Zph (λ j l R=>by
      have G:=R;obtain⟨_,_,U,_,_⟩:=G
      exact F.o.1 j l (by have:=(AC.1 U).1;rw[H.o.2]at this;exact this) R)
     have v:ftree es=(treeB es,0):=by
      unfold ftree;rw[AE (ZiI (by rw[H.o.2];omega) HA.o.2.1 ah)]
     clear ah;go_wp2;refine As (AA rfl _ _ _) rfl ?_;exact⟨by rw[v,HA.o.1];rfl,F.o.2⟩
theorem Zcx(t:ByteArray)(a:t.size<=8)(v:Nat)(b:val t.data.toList=v)(w:Ap):
  At Am 55 #[Ae t] w λ e w'=>e=Aj (Ab Al (v:Int))/\w'=w:=by
 rw[<- b];exact ZaG t a w
theorem ZcB(bs:Bs)(hn:bs.length<=1000000)(w:Ap):
  At Am 159 #[tx bs] w λ e w'=>∃es er v,e=Aj (Af #[v,Ab Ak er])/\Hid (RT bs es er/\OwnG encE 233 w' w.heap.size v es/\An w.heap.size w w'):=by
 obtain⟨s,I⟩:∃s:ByteArray,s=⟨bs.toArray⟩:=⟨_,rfl⟩
 obtain⟨N,hN⟩:=Xa s.size
 have K:bs.length=N:=by rw[<- hN,I];show _=bs.toArray.size;simp
 rw[show tx bs=Ae s by rw[I]]
 have H:Hid (s=⟨bs.toArray⟩/\bs.length=N):=⟨I,K⟩
 have am:N<=1000000:=by omega
 clear I K hn;go_enter func159,ntmps159;go_wp2_with fail;go_loopg[4,5] N (λ m lv av wr=>∃(at_ L:Nat) (es:List En) (la:Option Addr) (lc:Nat),av=Ab Ak at_/\at_+m=N/\lv=Aa la L lc/\L<=65/\Hid (L=es.length/\Sm es/\bs=treeB es++bs.drop at_/\OwnG encE 233 wr w.heap.size lv es/\An w.heap.size w wr))
 case atStart=>exact⟨0,0,[],none,0,rfl,by omega,rfl,by omega,rfl,λ e h=>by simp at h,by simp[treeB],OwnG.nil _ _ _ _,Ao _ _⟩
 case round =>
  obtain⟨p,L,es,la,lc,rfl,hm,rfl,hL,a⟩:=hrel;by_cases aa:p<N
  ·have id:(p:Int)<(N:Int):=by omega
   have ao:(0:Int)<=(p:Int):=by omega
   have an:p<s.size:=by omega
   obtain⟨y,hy⟩:=Xa (s[p])
   have af:=y.toNat_lt
   have wy:Ak.wrap (y.toNat:Int)=(y.toNat:Int):=by rw[Au];omega
   have f:bs.drop p=y::bs.drop (p+1):=by
    have ac:p<bs.length:=by rw[H.o.2];exact aa
    rw[List.drop_eq_getElem_cons ac]
    congr 1
    rw[<- hy];have I:=H.o.1;subst I;simp[CF]
   obtain⟨z,x⟩:=Xa y.toNat
   obtain⟨g,r⟩:=Xa (p+1)
   obtain⟨i,t⟩:=Xa (g+z)
   obtain⟨d,G⟩:=Xa (p+z+9)
   rw[x]at wy af
   have i1:(p:Int)+1=(g:Int):=by omega
   have i2:(g:Int)+(z:Int)=(i:Int):=by omega
   have i3:(p:Int)+(z:Int)+9=(d:Int):=by omega
   by_cases ah:N<d
   ·have d1:(N:Int)<(d:Int):=by omega
    have b:RT bs [] 9:=Zlj a.o.2.1 a.o.2.2.1 (by rw[f];simp) (by
     rw[f];simp only[one]
     rw[AE (by rw[By,H.o.2,x];omega)])
    have A:Hid (RT bs [] 9):=b;clear b f r t G;go_wp2;refine As (AA rfl _ _ _) rfl ?_;exact⟨[],9,_,rfl,A.o,OwnG.nil _ _ _ _,a.o.2.2.2.2⟩
   ·have d1:decide ((N:Int)<(d:Int))=false:=by rw[Ax];omega
    by_cases Z:64<L
    ·have d2:(64:Int)<(L:Int):=by omega
     have b:RT bs [] 9:=Zlt a.o.2.1 (by rw[<- a.o.1];exact Z) a.o.2.2.1;have A:Hid (RT bs [] 9):=b;clear b f r t G;go_wp2;refine As (AA rfl _ _ _) rfl ?_;exact⟨[],9,_,rfl,A.o,OwnG.nil _ _ _ _,a.o.2.2.2.2⟩
    ·have d2:decide ((64:Int)<(L:Int))=false:=by rw[Ax];omega
     have e1:(0:Int)<=(g:Int):=by omega
     have e2:(g:Int)<=(i:Int):=by omega
     have e3:(i:Int)<=(d:Int):=by omega
     have e4:(d:Int)<=(N:Int):=by omega
     have e5:(i:Int)<=(N:Int):=by omega
     have e6:(0:Int)<=(i:Int):=by omega
     have g1:Ak.wrap (g:Int)=(g:Int):=by rw[Au];omega
     have g2:Ak.wrap (i:Int)=(i:Int):=by rw[Au];omega
     have g3:Ak.wrap (d:Int)=(d:Int):=by rw[Au];omega
     have g4:Ak.wrap ((p:Int)+(z:Int))=(p:Int)+(z:Int):=by rw[Au];omega
     obtain⟨t1,ad⟩:=Xa (s.extract g i)
     obtain⟨t2,R⟩:=Xa (s.extract i d)
     obtain⟨v,W⟩:=Xa (val t2.data.toList)
     have D:t2.size<=8:=by rw[<- R,BR];omega
     have E:=λ u=>Zcx t2 D v W u
     have S:t2.data.toList.length=t2.size:=rfl
     have T:(AU v).toNat=v:=by rw[<- W];exact Zbg (by omega)
     have C:one (bs.drop p)=some ((t1.data.toList,AU v),bs.drop d):=by
      rw[f];simp only[one];rw[Aw (by rw[By,H.o.2,x];omega),x,<- W,<- ad,<- R,H.o.1,ZaT,ZaT,C5,C5];rw[show p+1=g from r,show i - g=z by omega,show d - i=8 by omega,show g+z=i from t,show g+(z+8)=d by omega]
     obtain⟨P,Q⟩:=ZdJ C
     have B:bs=treeB (es++[(t1.data.toList,AU v)])++bs.drop d:=by
      rw[Zc3,List.append_assoc,<- P];exact a.o.2.2.1
     have HV:Hid (∀u,At Am 55 #[Ae t2] u λ e w'=>e=Aj (Ab Al (v:Int))/\w'=u):=E
     have Y:Hid (bs=treeB (es++[(t1.data.toList,AU v)])++bs.drop d/\Sm (es++[(t1.data.toList,AU v)])/\(AU v).toNat=v):=⟨B,a.o.2.1.snoc Q,T⟩
     have ai:p<d/\d<=N:=by omega
     clear E B P Q C T W f D S r t G;go_wp2_with fail
     have HC:Hid (∀j u,(encE.cells (t1.data.toList,AU v))[j]? = some u->(wr.drew.alloc (.cells #[Ae t1,Ab Al (v:Int)] 233)).cell? ((⟨wr.heap.size,0,none⟩:Addr).add j)=some u):=by
      have:=Zau encE wr.drew (t1.data.toList,AU v) 233
      have e:(encE.cells (t1.data.toList,AU v)).toArray=#[Ae t1,Ab Al (v:Int)]:=by
       show #[tx t1.data.toList,Ab Al ((AU v).toNat:Int)]=_;rw[Y.o.2.2]
      rw[e]at this;exact this
     have aj:Hid (An w.heap.size w wr):=a.o.2.2.2.2;have ak:Hid (An w.heap.size w wr.drew):=a.o.2.2.2.2.drew
     go_region_held3 (λ u=>Hid (An w.heap.size w u))
      (first | with_reducible assumption | (refine keepA ?_;with_reducible assumption) | (refine keepD ?_;with_reducible assumption) | (refine keepD (keepA ?_);with_reducible assumption))
      (first
       | (refine Za2 encE 233 148 24 _ rfl Tryz.info233 underlying148 rfl (.tmp 29) (.tmp 50) rfl w.heap.size _ es (t1.data.toList,AU v) rfl (a.o.2.2.2.1.below ((Ao _ wr).drew.trans (bz1 wr.drew _))) wr.heap.size rfl HC.o (by rw[<- a.o.1];omega) (by rw[<- a.o.1];simp only[maxLen];omega) (by have:=a.o.2.2.2.2.size;simp;omega) ?_;intro v4 w4 n J ab ae;have X:Hid (An w.heap.size w w4):=a.o.2.2.2.2.trans ((((bz1 wr _).drew).mono a.o.2.2.2.2.size).trans J))
       | (go_at_call 55;(with_reducible refine(HV.o _).mono ?_);rintro e w3 ⟨rfl,U⟩;rw[U];clear U w3))
     all_goals
      obtain⟨a4,c4,rfl,_,_,_,_⟩:=OwnG.form n
      have l4:(es++[(t1.data.toList,AU v)]).length=L+1:=by rw[AD,<- a.o.1];rfl
      rw[l4]at n ⊢
      have HO:Hid (OwnG encE 233 w4 w.heap.size (Aa a4 (L+1) c4) (es++[(t1.data.toList,AU v)])/\(es++[(t1.data.toList,AU v)]).length=L+1):=⟨n,l4⟩
      clear J ab ae n l4;go_wp2;go_roundg (N - d)
      case measure=>omega
      case rel=>exact⟨d,L+1,_,a4,c4,by go_num,by omega,rfl,by omega,HO.o.2.symm,Y.o.2.1,Y.o.1,HO.o.1,X.o⟩
  ·obtain rfl:p=N:=by omega
   have M:bs=treeB es:=by
    have:=a.o.2.2.1;rw[List.drop_of_length_le (by rw[H.o.2];omega),List.append_nil]at this;exact this
   obtain⟨al,ag,e',o1,_,o3,_⟩:=OwnG.form a.o.2.2.2.1;rw[<- a.o.1]at e' o1;cases e';have b:=Zgx (c:=lc) wr o3 a.o.1.symm
   obtain⟨fe,F⟩:=Xa ((ftree es).2)
   obtain⟨fb,O⟩:∃fb:ByteArray,fb=⟨(ftree es).1.toArray⟩:=⟨_,rfl⟩
   rw[show tx (ftree es).1=Ae fb by rw[O],F]at b
   have A:Hid (bs=treeB es/\(ftree es).2=fe):=⟨M,F⟩
   clear o1 o3 M F O;by_cases l:fe=0
   ·subst l;go_wp2_with fail;refine b.mono ?_;rintro e w2 ⟨rfl,k⟩;go_wp2;refine As (AA rfl _ _ _) rfl ?_
    have hg:RT bs es 0:=by
     have:=Zn8 A.o.2;have V:=this.back;unfold ftree at V
     split at V
     ·rename_i q
      exact .inl ⟨rfl,q,A.o.1.symm⟩
     ·rename_i q
      simp only[Prod.mk.injEq]at V;exact absurd V.2 q
    exact⟨es,0,_,rfl,hg,a.o.2.2.2.1.below k,a.o.2.2.2.2.trans (k.mono a.o.2.2.2.2.size)⟩
   ·have m0:(fe==0)=false:=by simpa using l
    have m1:(fe != 0)=true:=by simpa using l
    go_wp2_with fail;refine b.mono ?_;rintro e w2 ⟨rfl,k⟩;go_wp2;refine As (AA rfl _ _ _) rfl ?_
    have hg:RT bs [] 9:=Zo9 a.o.2.1 A.o.1.symm (λ q=>l (by
     have:=A.o.2;unfold ftree at this;rw[AE q]at this
     exact this.symm))
    exact⟨[],9,_,rfl,hg,OwnG.nil _ _ _ _,a.o.2.2.2.2.trans (k.mono a.o.2.2.2.2.size)⟩
theorem ZgY{xs:List UInt64}{x:UInt64}(h:∀k,k<i->∀y,xs[k]? = some y->y≠x):(xs.take i).any (λ y=>x==y)=false:=by
 rw[List.any_eq_false];intro y b;obtain⟨k,a⟩:=List.getElem?_of_mem b;rw[FT]at a
 split at a
 ·rename_i q
  have:=h k q y a;simp only[Ep]
  exact λ e=>this e.symm
 ·cases a
section
variable{w:World}{c:Cm}{pa:Option Addr}{pn pc:Nat}
theorem Zko(d:c.ps.length=pn)(nt:ByteArray)(a:nt=⟨c.note.toArray⟩)(dt f:Int)(h:8<pn∨64<nt.size):
  At Am 122 #[Ag #[Ab Al f,Aa pa pn pc,Ab Ak dt,Ae nt]] w λ e w'=>e=Aj (Af #[tx (fcom c).1,Ab Ak (fcom c).2])/\An w.heap.size w w':=by
 have b:nt.size=c.note.length:=by rw[a];show c.note.toArray.size=_;simp
 have e:fcom c=([],4):=by
  have:ccom c=4:=by unfold ccom;rw[AE (by omega)]
  unfold fcom;rw[this];rfl
 rw[e];by_cases g:8<pn
 ·have q:(8:Int)<(pn:Int):=by omega
  clear d a b e h;go_enter func122,ntmps122;go_wp2;refine As (AA rfl _ _ _) rfl ?_;exact⟨rfl,bz1 _ _⟩
 ·have q:decide ((8:Int)<(pn:Int))=false:=by rw[Ax];omega
  have i:(64:Int)<(nt.size:Int):=by omega
  clear d a b e h;go_enter func122,ntmps122;go_wp2;refine As (AA rfl _ _ _) rfl ?_;exact⟨rfl,bz1 _ _⟩
theorem ZoF(hr:RdG encU w pa c.ps)(hl:c.ps.length=pn)(nt:ByteArray)(E:nt=⟨c.note.toArray⟩)(dt:Int)(P:c.date=dt)(h8:pn<=8)(ae:nt.size<=64):
  At Am 122 #[Ag #[Ab Al (c.tree.toNat:Int),Aa pa pn pc,Ab Ak dt,Ae nt]] w λ e w'=>e=Aj (Af #[tx (fcom c).1,Ab Ak (fcom c).2])/\An w.heap.size w w':=by
 have ac:nt.size=c.note.length:=by rw[E];show c.note.toArray.size=_;simp
 have q:decide ((8:Int)<(pn:Int))=false:=by rw[Ax];omega
 have q2:decide ((64:Int)<(nt.size:Int))=false:=by rw[Ax];omega
 have h4:¬(8<c.ps.length∨64<c.note.length):=by omega
 obtain⟨W,hW⟩:=Xa (w.alloc (.cells #[Ab Al (c.tree.toNat:Int),Aa pa pn pc,Ab Ak dt,Ae nt] 101))
 have bW:An w.heap.size w W:=by rw[<- hW];exact bz1 _ _
 have sW:W.heap.size=w.heap.size+1:=by rw[<- hW];simp
 have bx:Box4 W w.heap.size 101 (Ab Al (c.tree.toNat:Int)) (Aa pa pn pc) (Ab Ak dt) (Ae nt):=by rw[<- hW];exact Box4.new _ _ _ _ _ _
 obtain⟨x0,x1,x2,x3⟩:=bx.cells
 have ah:Al.wrap (pn:Int)=(pn:Int):=by rw[Bh];omega
 have ag:Al.wrap (nt.size:Int)=(nt.size:Int):=by rw[Bh];omega
 have H:Hid (RdG encU W pa c.ps/\c.ps.length=pn/\An w.heap.size w W/\W.heap.size=w.heap.size+1/\Box4 W w.heap.size 101 (Ab Al (c.tree.toNat:Int)) (Aa pa pn pc) (Ab Ak dt) (Ae nt)/\¬(8<c.ps.length∨64<c.note.length)/\c.date=dt/\nt=⟨c.note.toArray⟩):=⟨hr.below bW,hl,bW,sW,bx,h4,P,E⟩
 obtain⟨L,A⟩:∃L:ByteArray,L=⟨(low 8 c.tree.toNat).toArray⟩:=⟨_,rfl⟩
 obtain⟨K,z⟩:∃K:ByteArray,K=⟨(low 1 pn).toArray⟩:=⟨_,rfl⟩
 have Y:L.size=8:=by rw[A];show(low 8 c.tree.toNat).toArray.size=8;simp[Zar]
 have l1:K.size=1:=by rw[z];show(low 1 pn).toArray.size=1;simp[Zar]
 have NE:Nonempty (SW (Grew W)):=⟨⟨W,Ao _ _⟩⟩
 have C:∀u:SW (Grew W),Box4 u.w w.heap.size 101 (Ab Al (c.tree.toNat:Int)) (Aa pa pn pc) (Ab Ak dt) (Ae nt):=λ u=>bx.below u.ok (by rw[sW];omega)
 have k0:∀u:SW (Grew W),u.w.cell? ⟨w.heap.size,0,none⟩=some (Ab Al (c.tree.toNat:Int)):=λ u=>(C u).cells.1
 have k1:∀u:SW (Grew W),u.w.cell? ⟨w.heap.size,1,none⟩=some (Aa pa pn pc):=λ u=>(C u).cells.2.1
 have n8:∀u:SW (Grew W),At Am 49 #[Ab Al (c.tree.toNat:Int),Ab Ak 8] u.w λ e w'=>e=Aj (Ae L)/\∃u':SW (Grew W),w'=u'.w:=Zc2 c.tree.toNat 8 c.tree.toNat_lt (by omega) L A W
 have Z:∀u:SW (Grew W),At Am 49 #[Ab Al (pn:Int),Ab Ak 1] u.w λ e w'=>e=Aj (Ae K)/\∃u':SW (Grew W),w'=u'.w:=Zc2 pn 1 (by omega) (by omega) K z W
 have a1:¬(9223372036854775807<L.size+K.size):=by omega
 have HZ:Hid (L++K=⟨(low 8 c.tree.toNat++low 1 pn).toArray⟩):=by
  show _=_;rw[A,z];apply DG;simp
 clear hr hl E P ac h4 bW sW bx C A z Y l1;go_enter func122,ntmps122;go_wp2_with fail;refine Zab (S:=Grew W) (by kernel_rfl) (by kernel_rfl) (Ao _ W).drew ?_
 repeat(go_big_quiet_step (first | with_reducible exact Z _ | with_reducible exact n8 _))
 refine AN ?_;intro _ I;obtain⟨u,p⟩:=I;subst p;have N1:Hid (An W.heap.size W u.w):=u.ok
 obtain⟨w1,T⟩:=Xb u.w
 rw[<- T]at N1 ⊢;clear T k0 k1 Z n8 NE u x0 x1 x2 x3;go_wp2_with fail;go_loopg[4,5,6] pn (λ m sv iv _ wr=>∃(i:Nat) (s:ByteArray),iv=Ab Ak i/\i+m=pn/\sv=Ae s/\Hid (s=⟨(low 8 c.tree.toNat++low 1 pn++psB (c.ps.take i)).toArray⟩/\(c.ps.take i).Nodup/\An W.heap.size W wr))
 case atStart=>exact⟨0,_,rfl,by omega,rfl,by rw[HZ.o];simp[psB],by simp,N1.o⟩
 case round =>
  obtain⟨i,s,rfl,hi,rfl,g⟩:=hrel
  have F:w.heap.size<W.heap.size:=by have:=H.o.2.2.2.1;omega
  obtain⟨x0,x1,x2,x3⟩:=(H.o.2.2.2.2.1.below g.o.2.2 F).cells;by_cases aa:i<pn
  ·have id:(i:Int)<(pn:Int):=by omega
   have ai:(0:Int)<=(i:Int):=by omega
   obtain⟨x,hx⟩:=Zaf H.o.2.1 aa;obtain⟨b,off,rfl,af⟩:=H.o.1.some_of hx;have M:Hid (c.ps[i]? = some x):=hx
   obtain⟨w2,U⟩:=Xb wr
   rw[<- U]at g x0 x1 x2 x3 ⊢;clear U wr hx;go_wp2_with fail;go_loopg[6] i (λ m iv wr=>∃k:Nat,iv=Ab Ak k/\k+m=i/\Hid ((∀j,j<k->∀y,c.ps[j]? = some y->y≠x)/\An W.heap.size W wr))
   case atStart=>exact⟨0,rfl,by omega,λ j h=>absurd h (by omega),g.o.2.2⟩
   case round =>
    obtain⟨k,rfl,hk,n⟩:=hrel;clear x0 x1 x2 x3;obtain⟨x0,x1,x2,x3⟩:=(H.o.2.2.2.2.1.below n.o.2 F).cells;by_cases ab:k<i
    ·have kd:(k:Int)<(i:Int):=by omega
     have aj:(0:Int)<=(k:Int):=by omega
     have ak:(k:Int)<(pn:Int):=by omega
     obtain⟨y,X⟩:=Zaf H.o.2.1 (show k<pn by omega);obtain⟨_,c0⟩:=(H.o.1.below n.o.2).nums M.o;obtain⟨_,c1⟩:=(H.o.1.below n.o.2).nums X;by_cases t:y=x
     ·subst t
      have l:fcom c=([],6):=by
       have:ccom c=6:=by
        unfold ccom;rw[Aw H.o.2.2.2.2.2.1,AE (Zgu M.o (List.any_eq_true.2 ⟨y,List.mem_of_getElem? (show(c.ps.take i)[k]? = some y by rw[FT,AE ab];exact X),by simp⟩))]
       unfold fcom;rw[this];rfl
      clear X;go_wp2_with fail;go_quiet (fail);go_wp2;refine As (AA rfl _ _ _) rfl ?_;exact⟨by first | rfl | (rw[l];rfl),(H.o.2.2.1.trans (n.o.2.mono H.o.2.2.1.size)).trans ((bdrewN _ _).mono (by have:=H.o.2.2.1.size;have:=n.o.2.size;omega))⟩
     ·have m0:((y.toNat:Int)==(x.toNat:Int))=false:=by
       rw[A7];intro q;exact t (Bz.1 (by omega))
      have m1:(y.toNat==x.toNat)=false:=by
       rw[A7];intro q;exact t (Bz.1 q)
      have HN:Hid (∀j,j<k+1->∀y,c.ps[j]? = some y->y≠x):=by
       intro j hj y' J
       rcases Cp j k with q|q
       ·exact n.o.1 j q y' J
       ·obtain rfl:j=k:=by omega
        rw[X]at J;cases J;exact t
      clear X;go_wp2_with fail;go_quiet (fail);go_wp2;go_roundg (gk - 1)
      case measure=>omega
      case rel=>exact⟨k+1,by go_num,by omega,HN.o,n.o.2.trans ((bdrewN _ _).mono n.o.2.size)⟩
    ·obtain rfl:k=i:=by omega
     obtain⟨_,c0⟩:=(H.o.1.below n.o.2).nums M.o;have f:=ZeX M.o g.o.2.1 (ZgY n.o.1)
     obtain⟨d,a⟩:∃d:ByteArray,d=⟨(low 8 x.toNat).toArray⟩:=⟨_,rfl⟩
     have R:At Am 49 #[Ab Al (x.toNat:Int),Ab Ak 8] wr λ e w'=>e=Aj (Ae d)/\An wr.heap.size wr w':=by
      rw[a];exact ZaD x.toNat 8 x.toNat_lt (by omega) wr
     have Y:d.size=8:=by rw[a];show(low 8 x.toNat).toArray.size=8;simp[Zar]
     have G:s.size<=1000:=by
      rw[g.o.1];show(low 8 c.tree.toNat++low 1 pn++psB (c.ps.take k)).toArray.size<=_;simp[Zar,Zc9];omega
     have a1:¬(9223372036854775807<s.size+d.size):=by omega
     have HS:Hid (s++d=⟨(low 8 c.tree.toNat++low 1 pn++psB (c.ps.take (k+1))).toArray⟩/\(c.ps.take (k+1)).Nodup):=by
      refine⟨?_,f⟩;rw[g.o.1,a,List.take_add_one,M.o];show _=(⟨(low 8 c.tree.toNat++low 1 pn++psB (c.ps.take k++[x])).toArray⟩:ByteArray);rw[Zdv];apply DG;simp[b8]
     clear f a Y G;go_wp2_with fail;refine R.mono ?_;rintro e w4 ⟨rfl,N⟩;have B4:Hid (An W.heap.size W w4):=n.o.2.trans (N.mono n.o.2.size);clear N R;go_wp2;go_roundg (pn - (k+1))
     case measure=>omega
     case rel=>exact⟨k+1,_,by go_num,by omega,rfl,HS.o.1,HS.o.2,B4.o⟩
  ·obtain rfl:i=pn:=by omega
   have r:c.ps.take i=c.ps:=Av (by rw[H.o.2.1];omega)
   have f:c.ps.Nodup:=by have:=g.o.2.1;rw[r]at this;exact this
   by_cases hd:dt<0∨1099511627776<dt
   ·have l:fcom c=([],3):=by
     have:ccom c=3:=by
      unfold ccom;rw[Aw H.o.2.2.2.2.2.1,Aw (by simpa using f),AE (by rw[H.o.2.2.2.2.2.2.1];exact hd)]
     unfold fcom;rw[this];rfl
    clear f r;by_cases O:dt<0
    ·have d1:decide (dt<0)=true:=by simpa using O
     go_wp2;refine As (AA rfl _ _ _) rfl ?_;exact⟨by first | rfl | (rw[l];rfl),H.o.2.2.1.trans (g.o.2.2.mono H.o.2.2.1.size)⟩
    ·have d1:decide (dt<0)=false:=by simpa using O
     have d2:decide (1099511627776<dt)=true:=by rw[CR];omega
     go_wp2;refine As (AA rfl _ _ _) rfl ?_;exact⟨by first | rfl | (rw[l];rfl),H.o.2.2.1.trans (g.o.2.2.mono H.o.2.2.1.size)⟩
   ·have d1:decide (dt<0)=false:=by rw[Ax];omega
    have d2:decide (1099511627776<dt)=false:=by rw[Ax];omega
    have l:fcom c=(comB c,0):=by
     have:ccom c=0:=by
      unfold ccom;rw[Aw H.o.2.2.2.2.2.1,Aw (by simpa using f),Aw (by rw[H.o.2.2.2.2.2.2.1];exact hd)]
     unfold fcom;rw[AE this]
    have ad:Al.wrap dt=(dt.toNat:Int):=by rw[Bh];omega
    obtain⟨dn,D⟩:=Xa dt.toNat
    rw[D]at ad
    have Q:low 8 dn=b8 (dw c.date):=by rw[<- D,H.o.2.2.2.2.2.2.1];exact Zo2 (by omega)
    obtain⟨d,a⟩:∃d:ByteArray,d=⟨(low 8 dn).toArray⟩:=⟨_,rfl⟩
    obtain⟨B,v⟩:∃B:ByteArray,B=⟨(low 1 nt.size).toArray⟩:=⟨_,rfl⟩
    have Y:d.size=8:=by rw[a];show(low 8 dn).toArray.size=8;simp[Zar]
    have l1:B.size=1:=by rw[v];show(low 1 nt.size).toArray.size=1;simp[Zar]
    have G:s.size<=1000:=by
     rw[g.o.1];show(low 8 c.tree.toNat++low 1 i++psB (c.ps.take i)).toArray.size<=_;simp[Zar,Zc9];omega
    have NE:Nonempty (SW (Grew wr)):=⟨⟨wr,Ao _ _⟩⟩
    have C:∀u:SW (Grew wr),Box4 u.w w.heap.size 101 (Ab Al (c.tree.toNat:Int)) (Aa pa i pc) (Ab Ak dt) (Ae nt):=λ u=>(H.o.2.2.2.2.1.below g.o.2.2 F).below u.ok (by have:=g.o.2.2.size;omega)
    have k2:∀u:SW (Grew wr),u.w.cell? ⟨w.heap.size,2,none⟩=some (Ab Ak dt):=λ u=>(C u).cells.2.2.1
    have k3:∀u:SW (Grew wr),u.w.cell? ⟨w.heap.size,3,none⟩=some (Ae nt):=λ u=>(C u).cells.2.2.2
    have n8:∀u:SW (Grew wr),At Am 49 #[Ab Al (dn:Int),Ab Ak 8] u.w λ e w'=>e=Aj (Ae d)/\∃u':SW (Grew wr),w'=u'.w:=Zc2 dn 8 (by omega) (by omega) d a wr
    have Z:∀u:SW (Grew wr),At Am 49 #[Ab Al (nt.size:Int),Ab Ak 1] u.w λ e w'=>e=Aj (Ae B)/\∃u':SW (Grew wr),w'=u'.w:=Zc2 nt.size 1 (by omega) (by omega) B v wr
    have a1:¬(9223372036854775807<s.size+d.size):=by omega
    have a2:¬(9223372036854775807<(s++d).size+B.size):=by rw[Zba];omega
    have a3:¬(9223372036854775807<(s++d++B).size+nt.size):=by rw[Zba,Zba];omega
    have HE:Hid (Ae (s++d++B++nt)=tx (comB c)/\An w.heap.size w wr):=by
     refine⟨?_,H.o.2.2.1.trans (g.o.2.2.mono H.o.2.2.1.size)⟩;show Ae _=Ae _
     congr 1
     have e1:low 1 (⟨c.note.toArray⟩:ByteArray).size=[AW c.note.length]:=by
      have:(⟨c.note.toArray⟩:ByteArray).size=c.note.length:=by show c.note.toArray.size=_;simp
      rw[this];rfl
     have e2:low 1 i=[AW c.ps.length]:=by rw[H.o.2.1];rfl
     rw[g.o.1,r,a,v,H.o.2.2.2.2.2.2.2,e1,e2,Q];unfold comB;apply DG;simp[b8]
    clear f r C Q D a v Y l1 G hd;go_wp2_with fail;refine Zab (S:=Grew wr) (by kernel_rfl) (by kernel_rfl) (Ao _ wr).drew ?_
    repeat(go_big_quiet_step (first | with_reducible exact Z _ | with_reducible exact n8 _))
    refine AN ?_;intro _ I;obtain⟨u,p⟩:=I;subst p;have N4:Hid (An w.heap.size w u.w):=HE.o.2.trans (u.ok.mono HE.o.2.size)
    obtain⟨w4,V⟩:=Xb u.w
    rw[<- V]at N4 ⊢;clear V k2 k3 Z n8 NE u;go_wp2;refine As (AA rfl _ _ _) rfl ?_;exact⟨by rw[l,<- HE.o.1];rfl,N4.o⟩
theorem Zfn(f:RdG encU w pa c.ps)(d:c.ps.length=pn)(nt:ByteArray)(a:nt=⟨c.note.toArray⟩)(dt:Int)(b:c.date=dt):
  At Am 122 #[Ag #[Ab Al (c.tree.toNat:Int),Aa pa pn pc,Ab Ak dt,Ae nt]] w λ e w'=>e=Aj (Af #[tx (fcom c).1,Ab Ak (fcom c).2])/\An w.heap.size w w':=by
 by_cases h:8<pn∨64<nt.size
 ·exact Zko d nt a dt _ h
 ·exact ZoF f d nt a dt b (by omega) (by omega)
end
theorem Zoe:∀args w,(callFunc 55 args).run Am w=.ok (.enter 55 args) w:=enters_of func55 (by kernel_rfl) rfl
section
variable{w:World}{bs:Bs}{s:ByteArray}{N:Nat}
theorem Zpm(a:s.size=N)(h:N<9):At Am 93 #[Ae s] w λ e w'=>e=Aj (Af #[Ag #[Ab Al 0,Aa none 0 0,Ab Ak 0,Ae ⟨#[]⟩],Ab Ak 9])/\An w.heap.size w w':=by
 have q:decide ((N:Int)<9)=true:=by rw[CR];omega
 go_enter func93,ntmps93;go_wp2;refine As (v:=Af #[Ag #[Ab Al 0,Aa none 0 0,Ab Ak 0,Ae ⟨#[]⟩],Ab Ak 9]) ?_ rfl ⟨rfl,?_⟩
 ·simp[AH,Tryz.f93];go_simp
 ·exact bz1 _ _
theorem Zpv(f:s.size=N)(h:¬N<9)(d:8<s.size)(a:Nat)(j:s[8].toNat=a)(g:8<a∨N<18+8*a):At Am 93 #[Ae s] w λ e w'=>e=Aj (Af #[Ag #[Ab Al 0,Aa none 0 0,Ab Ak 0,Ae ⟨#[]⟩],Ab Ak 9])/\An w.heap.size w w':=by
 have q:decide ((N:Int)<9)=false:=by rw[Ax];omega
 have k:(8:Int)<(N:Int):=by omega
 have b:a<=255:=by have:=s[8].toNat_lt;omega
 have m:Ak.wrap (a:Int)=(a:Int):=by rw[Au];omega
 by_cases i:8<a
 ·have c:(8:Int)<(a:Int):=by omega
  go_enter func93,ntmps93;go_wp2;refine As (v:=Af #[Ag #[Ab Al 0,Aa none 0 0,Ab Ak 0,Ae ⟨#[]⟩],Ab Ak 9]) ?_ rfl ⟨rfl,?_⟩
  ·simp[AH,Tryz.f93];go_simp
  ·exact bz1 _ _
 ·have c:decide ((8:Int)<(a:Int))=false:=by rw[Ax];omega
  have l:decide ((N:Int)<18+8*(a:Int))=true:=by rw[CR];omega
  go_enter func93,ntmps93;go_wp2;refine As (v:=Af #[Ag #[Ab Al 0,Aa none 0 0,Ab Ak 0,Ae ⟨#[]⟩],Ab Ak 9]) ?_ rfl ⟨rfl,?_⟩
  ·simp[AH,Tryz.f93];go_simp
  ·exact bz1 _ _
theorem Zqh(U:s=⟨bs.toArray⟩)(hN:s.size=N)(aF:N<=9223372036854775807)(h:¬N<9)(h8:8<s.size)(d:Nat)(hy:s[8].toNat=d)(hc:d<=8)(hl:18+8*d<=N):
  At Am 93 #[Ae s] w λ e w'=>∃(c:Cm) (er:Int) (pa:Option Addr) (pc:Nat),e=Aj (Af #[Ag #[Ab Al (c.tree.toNat:Int),Aa pa c.ps.length pc,Ab Ak c.date,tx c.note],Ab Ak er])/\Hid (RC bs c er/\RdG encU w' pa c.ps/\c.ps.length<=pc/\An w.heap.size w w'/\ZaM w pa c.ps.length):=by
 have q:decide ((N:Int)<9)=false:=by rw[Ax];omega
 have i8:(8:Int)<(N:Int):=by omega
 have wy:Ak.wrap (d:Int)=(d:Int):=by rw[Au];omega
 have q2:decide ((8:Int)<(d:Int))=false:=by rw[Ax];omega
 obtain⟨p9,ah⟩:=Xa (9+8*d)
 obtain⟨p,ag⟩:=Xa (17+8*d)
 obtain⟨r,H⟩:=Xa (18+8*d)
 have j0:Ak.wrap (8*(d:Int))=8*(d:Int):=by rw[Au];omega
 have j9:9+8*(d:Int)=(p9:Int):=by omega
 have aH:17+8*(d:Int)=(p:Int):=by omega
 have aI:18+8*(d:Int)=(r:Int):=by omega
 have k9:Ak.wrap (p9:Int)=(p9:Int):=by rw[Au];omega
 have aJ:Ak.wrap (p:Int)=(p:Int):=by rw[Au];omega
 have aK:Ak.wrap (r:Int)=(r:Int):=by rw[Au];omega
 have q3:decide ((N:Int)<(r:Int))=false:=by rw[Ax];omega
 have e1:(0:Int)<=(p9:Int):=by omega
 have e2:(p9:Int)<=(p:Int):=by omega
 have e3:(p:Int)<=(N:Int):=by omega
 have e4:(0:Int)<=(r:Int):=by omega
 have e5:(r:Int)<=(N:Int):=by omega
 have e6:(8:Int)<=(N:Int):=by omega
 obtain⟨t1,ak⟩:=Xa (s.extract 0 8)
 obtain⟨t2,al⟩:=Xa (s.extract p9 p)
 obtain⟨t3,ay⟩:=Xa (s.extract r N)
 obtain⟨K,V⟩:=Xa (val t1.data.toList)
 obtain⟨v2,F⟩:=Xa (val t2.data.toList)
 have an:t1.size<=8:=by rw[<- ak,BR];omega
 have ao:t2.size<=8:=by rw[<- al,BR];omega
 have aB:t1.data.toList.length=t1.size:=rfl;have aC:t2.data.toList.length=t2.size:=rfl
 have d1:t1.data.toList=bs.take 8:=by rw[<- ak,U,ZaT];simp
 have d2:t2.data.toList=(bs.drop (9+8*d)).take 8:=by rw[<- al,U,ZaT,<- ah,show p - (9+8*d)=8 by omega]
 have ad:bs.length=N:=by rw[<- hN,U];show _=bs.toArray.size;simp
 have d3:t3=⟨(bs.drop (18+8*d)).toArray⟩:=by
  have:t3.data.toList=bs.drop (18+8*d):=by rw[<- ay,U,ZaT,<- H,Av (by rw[By];omega)]
  rw[<- this]
 have J:v2<18446744073709551616:=by rw[<- F];exact Zp0 (by omega)
 have aA:=ZiL J
 obtain⟨dt,M⟩:=Xa (sgn v2)
 rw[M]at aA
 have aq:Hid (∀u,At Am 55 #[Ae t1] u λ e w'=>e=Aj (Ab Al (K:Int))/\w'=u):=λ u=>Zcx t1 an K V u
 have ar:Hid (∀u,At Am 55 #[Ae t2] u λ e w'=>e=Aj (Ab Al (v2:Int))/\w'=u):=λ u=>Zcx t2 ao v2 F u
 have z:Hid (s=⟨bs.toArray⟩/\bs.length=N/\(rcom bs d).date=dt/\t3=⟨(rcom bs d).note.toArray⟩/\((rcom bs d).tree.toNat:Int)=(K:Int)/\bs[8]? = some (AW d)):=by
  refine⟨U,ad,?_,d3,?_,?_⟩
  ·show sgn (val ((bs.drop (9+8*d)).take 8))=dt;rw[<- d2,F,M]
  ·show((AU (val (bs.take 8))).toNat:Int)=_;rw[<- d1,Zbg (by omega),V]
  ·have aw:8<bs.length:=by omega
   rw[Aq aw]
   have:s[8]=bs[8]:=by subst U;simp[CF]
   rw[<- this,<- hy];simp
 have av:Hid (An w.heap.size w (w.alloc (.cells #[Ab Al 0,Aa none 0 0,Ab Ak 0,Ae ⟨#[]⟩] 101))):=bz1 _ _;clear U ad d1 d2 d3 aB aC an ao V F M J ah ag H hl;go_enter func93,ntmps93
 go_upto_region 4 with fail
 go_cut[5] (λ cv u=>cv=.pointer (some ⟨w.heap.size+1,0,none⟩)/\Hid (Box4 u w.heap.size 101 (Ab Al 0) (Aa none 0 0) (Ab Ak 0) (Ae ⟨#[]⟩)/\Box4 u (w.heap.size+1) 101 (Ab Al (K:Int)) (Aa none 0 0) (Ab Ak dt) (Ae t3)/\An w.heap.size w u))
 case first =>
  have aE:Hid (An w.heap.size w (w.alloc (.cells #[Ab Al 0,Aa none 0 0,Ab Ak 0,Ae ⟨#[]⟩] 101)).drew):=av.o.drew
  go_region_held3 (λ u=>Hid (An w.heap.size w u))
   (first | with_reducible assumption | (refine keepA ?_;with_reducible assumption) | (refine keepD ?_;with_reducible assumption) | (refine keepD (keepA ?_);with_reducible assumption))
   (first
    | (go_at_call 55;(with_reducible refine(aq.o _).mono ?_);rintro e w3 ⟨rfl,A⟩;rw[A];clear A w3)
    | (go_at_call 55;(with_reducible refine(ar.o _).mono ?_);rintro e w3 ⟨rfl,A⟩;rw[A];clear A w3))
  all_goals
   go_wp2_with fail;go_meet;exact⟨rfl,Znb w _ _ _ _ _ _ _ _ 101 101⟩
 case rest =>
  obtain⟨rfl,HX⟩:=hcut;go_wp2_with fail;go_loopg[6] d (λ m iv wr=>∃(i:Nat) (X:Option Addr) (lc:Nat),iv=Ab Ak i/\i+m=d/\Hid (Box4 wr w.heap.size 101 (Ab Al 0) (Aa none 0 0) (Ab Ak 0) (Ae ⟨#[]⟩)/\Box4 wr (w.heap.size+1) 101 (Ab Al (K:Int)) (Aa X i lc) (Ab Ak dt) (Ae t3)/\OwnG encU 43 wr (w.heap.size+2) (Aa X i lc) ((BF i).map (rpar bs))/\An w.heap.size w wr))
  case atStart=>exact⟨0,none,0,rfl,by omega,HX.o.1,HX.o.2.1,OwnG.nil _ _ _ _,HX.o.2.2⟩
  case round =>
   obtain⟨i,X,lc,rfl,hi,a⟩:=hrel;obtain⟨x0,x1,x2,x3⟩:=a.o.2.1.cells;by_cases aG:i<d
   ·have id:(i:Int)<(d:Int):=by omega
    obtain⟨a9,ab⟩:=Xa (9+8*i)
    obtain⟨n,aa⟩:=Xa (17+8*i)
    have l0:Ak.wrap (8*(i:Int))=8*(i:Int):=by rw[Au];omega
    have l9:9+8*(i:Int)=(a9:Int):=by omega
    have aL:17+8*(i:Int)=(n:Int):=by omega
    have m9:Ak.wrap (a9:Int)=(a9:Int):=by rw[Au];omega
    have aM:Ak.wrap (n:Int)=(n:Int):=by rw[Au];omega
    have o1:(0:Int)<=(a9:Int):=by omega
    have o2:(a9:Int)<=(n:Int):=by omega
    have o3:(n:Int)<=(N:Int):=by omega
    obtain⟨t4,am⟩:=Xa (s.extract a9 n)
    obtain⟨v4,W⟩:=Xa (val t4.data.toList)
    have ap:t4.size<=8:=by rw[<- am,BR];omega
    have aD:t4.data.toList.length=t4.size:=rfl
    have d4:t4.data.toList=(bs.drop (9+8*i)).take 8:=by rw[<- am,z.o.1,ZaT,<- ab,show n - (9+8*i)=8 by omega]
    have au:Hid (At Am 55 #[Ae t4] wr.drew λ e w'=>e=Aj (Ab Al (v4:Int))/\w'=wr.drew):=Zcx t4 ap v4 W wr.drew
    have hx:(rpar bs i).toNat=v4:=by
     unfold rpar;rw[<- d4,Zbg (by omega),W]
    have aj:(BF (i+1)).map (rpar bs)=(BF i).map (rpar bs)++[rpar bs i]:=by rw[List.range_succ,List.map_append];rfl
    have af:((BF i).map (rpar bs)).length=i:=by simp
    have HS:Hid ((BF (i+1)).map (rpar bs)=(BF i).map (rpar bs)++[rpar bs i]/\((BF i).map (rpar bs)).length=i/\((BF i).map (rpar bs)++[rpar bs i]).length=i+1/\(rpar bs i).toNat=v4):=⟨aj,af,by simp,hx⟩
    have HC:Hid (∀j u,(encU.cells (rpar bs i))[j]? = some u->(wr.drew.alloc (.cells #[Ab Al (v4:Int)] 43)).cell? ((⟨wr.heap.size,0,none⟩:Addr).add j)=some u):=by
     have:=Zau encU wr.drew (rpar bs i) 43;rw[show(encU.cells (rpar bs i)).toArray=#[Ab Al (v4:Int)]from(by show #[Ab Al ((rpar bs i).toNat:Int)]=_;rw[hx])]at this;exact this
    have hO:w.heap.size+1<wr.heap.size:=a.o.2.1.lt;have aN:=(a.o.2.1.below (bz1 wr (.cells #[Ab Al (v4:Int)] 43)) hO).cells.2.1;clear aj af hx d4 ap aD W ab aa;go_wp2_with fail
    go_region_law
     (first
      | (refine ZoN rfl (.tmp 65) 55 #[9] rfl Zoe (Ae t4) (Ab Al (v4:Int)) (by simp[Act.eval,Act.put]) au.o ?_)
      | (refine Za2 encU 43 51 8 _ rfl Tryz.info43 underlying51 rfl (.tmp 57) (.tmp 67) rfl (w.heap.size+2) (Aa X i lc) ((BF i).map (rpar bs)) (rpar bs i) (by simp[Act.eval]) (a.o.2.2.1.below ((Ao _ wr).drew.trans (bz1 wr.drew _))) wr.heap.size (by simp[Act.eval]) HC.o (by rw[HS.o.2.1];omega) (by rw[HS.o.2.1];simp only[maxLen];omega) (by simp;omega) ?_;intro v5 w5 R ac ax az;obtain⟨a5,Y,e5,_,_,_,_⟩:=OwnG.form R;rw[HS.o.2.2.1]at e5;subst e5;have L:Hid (OwnG encU 43 w5 (w.heap.size+2) (Aa a5 (i+1) Y) ((BF i).map (rpar bs)++[rpar bs i])/\An (w.heap.size+2) wr w5):=⟨R,((bz1 wr _).drew.mono (by omega)).trans ac⟩;have z5:=(a.o.2.1.below L.o.2 (by omega)).cells;have g5:=(a.o.2.1.below L.o.2 (by omega)).thaw;obtain⟨z0,z1,z2,z3⟩:=z5;obtain⟨g0,g1,g2,g3⟩:=g5;clear R ac ax az)
      | fail)
    all_goals
     have HO:Hid (∀S:Ap,S=w5.setCell ⟨w.heap.size+1,1,none⟩ (Aa a5 (i+1) Y)->Box4 S w.heap.size 101 (Ab Al 0) (Aa none 0 0) (Ab Ak 0) (Ae ⟨#[]⟩)/\Box4 S (w.heap.size+1) 101 (Ab Al (K:Int)) (Aa a5 (i+1) Y) (Ab Ak dt) (Ae t3)/\OwnG encU 43 S (w.heap.size+2) (Aa a5 (i+1) Y) ((BF (i+1)).map (rpar bs))/\An w.heap.size w S):=by
      rintro S rfl;have C:Zaa (λ k=>k=w.heap.size+1) w5 (w5.setCell ⟨w.heap.size+1,1,none⟩ (Aa a5 (i+1) Y)):=Zad 1 _;refine⟨(a.o.1.below L.o.2 (by omega)).turned C (by omega),(a.o.2.1.below L.o.2 (by omega)).put1 _,?_,?_⟩
      ·rw[HS.o.1];exact L.o.1.stays C (λ g E q=>by have:=(L.o.1.lt g E).1;have q':g=w.heap.size+1:=q;omega)
      ·have b1:An w.heap.size w w5:=a.o.2.2.2.trans (L.o.2.mono (by omega));exact b1.trans (C.below b1.size (λ k hk q=>by have q':k=w.heap.size+1:=q;omega))
     go_wp2;go_roundg (gk - 1)
     case measure=>omega
     case rel=>exact⟨i+1,a5,Y,by go_num,by omega,HO.o _ rfl⟩
   ·obtain rfl:i=d:=by omega
    obtain⟨Z,f1,f2,f3⟩:=a.o.1.thaw;obtain⟨q0,q1,x,y⟩:=a.o.1.cells;obtain⟨ai,ae⟩:=a.o.2.2.1.rdc
    have T:(rcom bs i).ps.length=i:=by simp[rcom]
    have l:=Zfn (c:=rcom bs i) (pc:=lc) ai T t3 z.o.2.2.2.1 dt z.o.2.2.1;rw[z.o.2.2.2.2.1]at l
    obtain⟨fe,P⟩:=Xa ((fcom (rcom bs i)).2)
    obtain⟨fb,O⟩:∃fb:ByteArray,fb=⟨(fcom (rcom bs i)).1.toArray⟩:=⟨_,rfl⟩
    rw[show tx (fcom (rcom bs i)).1=Ae fb by rw[O],P]at l
    have G:Hid ((fcom (rcom bs i)).2=fe/\fb=⟨(fcom (rcom bs i)).1.toArray⟩/\(rcom bs i).ps.length=i/\i<=lc):=⟨P,O,T,ae⟩
    clear P O T ae ai;by_cases D:fe=0
    ·subst D;by_cases Q:fb=s
     ·subst Q;go_wp2_with fail;refine l.mono ?_;rintro e B ⟨rfl,f⟩;have t:Hid (An wr.heap.size wr B):=f;clear f x0 x1 x2 x3 q0 q1 x y Z f1 f2 f3 l;obtain⟨x0,x1,x2,x3⟩:=(a.o.2.1.below t.o a.o.2.1.lt).cells;obtain⟨q0,q1,x,y⟩:=(a.o.1.below t.o a.o.1.lt).cells;obtain⟨Z,f1,f2,f3⟩:=(a.o.1.below t.o a.o.1.lt).thaw;go_wp2;refine As (v:=Af #[Ag #[Ab Al (K:Int),Aa X i lc,Ab Ak dt,Ae t3],Ab Ak 0]) ?_ rfl ?_
      ·simp[AH,Tryz.f93];go_simp
      ·have C:=ZaC B w.heap.size (Ab Al (K:Int)) (Aa X i lc) (Ab Ak dt) (Ae t3);have bel:An w.heap.size w B:=a.o.2.2.2.trans (t.o.mono a.o.2.2.2.size);have I:=(a.o.2.2.1.below t.o).stays C (λ g E q=>by have:=(a.o.2.2.1.lt g E).1;have q':g=w.heap.size:=q;omega)
       have E:RC bs (rcom bs i) 0:=Zqe (by
        have e1:(fcom (rcom bs i)).1=bs:=by
         have:=G.o.2.1;rw[z.o.1]at this;have h2:=A4 (λ b:ByteArray=>b.data.toList) this;simpa using h2.symm
        exact Prod.ext e1 G.o.1)
       refine⟨rcom bs i,0,X,lc,?_,E,I.rdc.1,by rw[G.o.2.2.1];exact G.o.2.2.2,bel.trans (C.below bel.size (λ k hk q=>by have q':k=w.heap.size:=q;omega)),by rw[G.o.2.2.1];exact I.newRow (by omega)⟩;rw[z.o.2.2.2.2.1,G.o.2.2.1,z.o.2.2.1,z.o.2.2.2.1]
     ·have m2:(fb.toList==s.toList)=false:=by
       rw[A7];intro e;apply Q;rw[ByteArray.toList_eq,ByteArray.toList_eq]at e;have:=A4 List.toArray e;apply DG;simpa using this
      have m3:(fb.toList != s.toList)=true:=by rw[bne,m2];rfl
      go_wp2_with fail;refine l.mono ?_;rintro e B ⟨rfl,f⟩;have t:Hid (An wr.heap.size wr B):=f;clear f x0 x1 x2 x3 q0 q1 x y Z f1 f2 f3 l;obtain⟨q0,q1,x,y⟩:=(a.o.1.below t.o a.o.1.lt).cells;obtain⟨Z,f1,f2,f3⟩:=(a.o.1.below t.o a.o.1.lt).thaw;go_wp2;refine As (v:=Af #[Ag #[Ab Al 0,Aa none 0 0,Ab Ak 0,Ae ⟨#[]⟩],Ab Ak 9]) ?_ rfl ?_
      ·simp[AH,Tryz.f93];go_simp
      ·have C:=ZaC B w.heap.size (Ab Al 0) (Aa none 0 0) (Ab Ak 0) (Ae ⟨#[]⟩);have bel:An w.heap.size w B:=a.o.2.2.2.trans (t.o.mono a.o.2.2.2.size);have E:RC bs zcm 9:=Zfc z.o.2.2.2.2.2 hc (λ e=>Q (by rw[G.o.2.1,e,z.o.1]));exact⟨zcm,9,none,0,rfl,E,RdG.nil _ _ _,Az _,bel.trans (C.below bel.size (λ k hk q=>by have q':k=w.heap.size:=q;omega)),ZaM.none _ _⟩
    ·have m0:(fe==0)=false:=by simpa using D
     have m1:(fe != 0)=true:=by simpa using D
     go_wp2_with fail;refine l.mono ?_;rintro e B ⟨rfl,f⟩;have t:Hid (An wr.heap.size wr B):=f;clear f x0 x1 x2 x3 q0 q1 x y Z f1 f2 f3 l;obtain⟨q0,q1,x,y⟩:=(a.o.1.below t.o a.o.1.lt).cells;obtain⟨Z,f1,f2,f3⟩:=(a.o.1.below t.o a.o.1.lt).thaw;go_wp2;refine As (v:=Af #[Ag #[Ab Al 0,Aa none 0 0,Ab Ak 0,Ae ⟨#[]⟩],Ab Ak 9]) ?_ rfl ?_
     ·simp[AH,Tryz.f93];go_simp
     ·have C:=ZaC B w.heap.size (Ab Al 0) (Aa none 0 0) (Ab Ak 0) (Ae ⟨#[]⟩);have bel:An w.heap.size w B:=a.o.2.2.2.trans (t.o.mono a.o.2.2.2.size);have E:RC bs zcm 9:=Zfc z.o.2.2.2.2.2 hc (λ e=>D (by rw[<- G.o.1,e]));exact⟨zcm,9,none,0,rfl,E,RdG.nil _ _ _,Az _,bel.trans (C.below bel.size (λ k hk q=>by have q':k=w.heap.size:=q;omega)),ZaM.none _ _⟩
theorem Zb1(bs:Bs)(m:bs.length<=9223372036854775807)(w:Ap):
  At Am 93 #[tx bs] w λ e w'=>∃(c:Cm) (k:Int) (pa:Option Addr) (pc:Nat),e=Aj (Af #[Ag #[Ab Al (c.tree.toNat:Int),Aa pa c.ps.length pc,Ab Ak c.date,tx c.note],Ab Ak k])/\Hid (RC bs c k/\RdG encU w' pa c.ps/\c.ps.length<=pc/\An w.heap.size w w'/\ZaM w pa c.ps.length):=by
 have j:(⟨bs.toArray⟩:ByteArray).size=bs.length:=by show bs.toArray.size=_;simp
 by_cases h:bs.length<9
 ·refine(Zpm j h).mono ?_;rintro e w' ⟨rfl,b⟩;exact⟨zcm,9,none,0,rfl,Zdn (.inl h),RdG.nil _ _ _,Az _,b,ZaM.none _ _⟩
 ·have l:8<(⟨bs.toArray⟩:ByteArray).size:=by omega
  obtain⟨a,g⟩:=Xa ((⟨bs.toArray⟩:ByteArray)[8].toNat)
  have i:a<=255:=by have:=(⟨bs.toArray⟩:ByteArray)[8].toNat_lt;omega
  by_cases b:8<a∨bs.length<18+8*a
  ·refine(Zpv j h l a g b).mono ?_;rintro e w' ⟨rfl,f⟩;refine⟨zcm,9,none,0,rfl,Zdn (.inr ⟨a,?_,i,b⟩),RdG.nil _ _ _,Az _,f,ZaM.none _ _⟩
   have d:8<bs.length:=by omega
   rw[Aq d,<- g];simp[CF]
  ·exact Zqh rfl j m h l a g (by omega) (by omega)
end
section
variable{w:World}{a:Option Addr}{n c:Nat}{bs:Bs}
end
end Go.Proofs.YtlojblelpaegpaaGreat
