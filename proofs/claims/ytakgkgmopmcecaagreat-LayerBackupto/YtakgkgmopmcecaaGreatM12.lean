import Derived.Test.YtakgkgmopmcecaaGreatM11
import Derived.Sort.Walk7
import Derived.Sort.Walk13a
import Derived.Sort.AssemblyPlain
import Derived.Shelf.SlIter.Collect
import Derived.RangeFuncBound
set_option maxHeartbeats 6400000
set_option maxRecDepth 100000
open Go renaming World->Ap,Calls->At,wpQuiet_nil->AS,below_drewN->AY,calls_of_every_depth->Fe,bodyPost_end->CN,results_none->BN,bodyPost_ret->As
open Go.IntKind renaming i64->Ak,wrap_i64->Au,u64->Al,wrap_u64->A5
open Go.RowKit.Below renaming refl->Ao
open Bool renaming true_and->Ci,and_eq_true->Bn
open Nat renaming le_refl->AA,one_shiftLeft->Hb,eq_zero_or_pos->Cc,le_of_lt->CJ
open UInt64 renaming ofNat->AL,lt_iff_toNat_lt->BO,toNat_inj->BG,le_iff_toNat_le->BP
open Go.Proofs renaming bpRest->C5
open Go.Sort renaming Below->C9,sort->Gr
open Go.Exit renaming inBlock->FN
open Go.Value renaming bool->Ad,ownBlock->BQ,slice->Aa,int->Ab,tuple->Af
open List renaming pairwise_mergeSort->Fa,mergeSort_perm->DG,eq_nil_of_length_eq_zero->AQ,getElem?_eq_none->AM,getElem?_append_left->BS,getElem?_append_right->BZ,getElem?_set_self->Cp,getElem?_set_ne->CH,getElem?_eq_some_iff->AG,getElem?_eq_getElem->Aq
open Go.Ending renaming returned->Aj
open Go.Proofs.Tryz renaming prog->Am
open Go.Proofs.Tryz
namespace Go.Proofs.YtakgkgmopmcecaaGreat
open Go.RowKit Go.Sort
theorem VB{w:Ap}{g n c a b p:Nat}{d:Array UInt64}(h:SR w g d)(hd:d.size=n)(ah:a<p)(al:p<b)(hb:b<=n)(hn:n<=1000000000000)(r:Nat×Array UInt64)(hr:partitionEqual ltU d a b p=r):
  At Am 130 #[Aa (some ⟨g,0,none⟩) n c,Ab Ak (a:Int),Ab Ak (b:Int),Ab Ak (p:Int)] w λ e w'=>e=Aj (Ab Ak (r.1:Int))/\Hid (SR w' g r.2/\Aw (λ k=>k=g) w w'):=by
 obtain⟨Q,V⟩:=Xa (b - 1)
 have b1:(b:Int) - 1=(Q:Int):=by omega
 have bw:Ak.wrap (Q:Int)=(Q:Int):=by rw[Au];omega
 have K:=I3 h hd (Aw.refl _ _:Aw (λ k=>k=g) w w)
 have HP:Hid (partEqLoop ltU a (a+1) Q (swp d a p)=r):=by
  show _=r;rw[<- hr,<- V]
  rfl
 have BB:Q+1=b:=by omega
 clear h hd hr V;go_enter func130,ntmps130
 obtain⟨x,A⟩:∃x,d[a]! = x:=⟨_,rfl⟩
 obtain⟨y,B⟩:∃y,d[p]! = y:=⟨_,rfl⟩
 have O:=K.o.2.1
 have c0:w.cell? ⟨g,a,none⟩=some (uv x):=by rw[<- A];exact K.o.1.cell (by omega)
 have c1:w.cell? ⟨g,p,none⟩=some (uv y):=by rw[<- B];exact K.o.1.cell (by omega)
 have F:=K.o.1.thaw a;have f1:=K.o.1.thaw p
 have z0:(0:Int)<=(a:Int):=by omega
 have z1:(0:Int)<=(p:Int):=by omega
 have z2:(a:Int)<(n:Int):=by omega
 have z3:(p:Int)<(n:Int):=by omega
 have nt:¬a=p:=by omega
 have ab:¬p=a:=λ e=>nt e.symm
 have C:=I2 A B
 clear A B O;go_wp2_with fail;go_region
 have W1:Hid (SR (((w.setCell ⟨g,a,none⟩ (Ab Al (y.toNat:Int))).setCell ⟨g,p,none⟩ (Ab Al (x.toNat:Int))).drew) g (swp d a p)/\(swp d a p).size=n/\Aw (λ k=>k=g) w (((w.setCell ⟨g,a,none⟩ (Ab Al (y.toNat:Int))).setCell ⟨g,p,none⟩ (Ab Al (x.toNat:Int))).drew)) :=
  ⟨K.o.1.drewSwap C.o.1 C.o.2,by rw[ET];exact K.o.2.1,io K.o.2.2 _ _ _ _⟩
 obtain⟨w1,aa⟩:=Xb (((w.setCell ⟨g,a,none⟩ (Ab Al (y.toNat:Int))).setCell ⟨g,p,none⟩ (Ab Al (x.toNat:Int))).drew)
 obtain⟨d1,W⟩:=Xb (swp d a p)
 rw[<- aa]at W1 ⊢;rw[<- W]at W1 HP;clear aa W C c0 c1 F f1 z0 z1 z2 z3 nt ab K;go_wp2_with fail;go_loopg[9,10] (b) (λ k v9 ag wr=>∃i j:Nat,v9=Ab Ak i/\ag=Ab Ak j/\j+1<=i+k/\a+1<=i/\i<=b/\a<=j/\j<b/\Hid (∃e:Array UInt64,partEqLoop ltU a i j e=r/\SR wr g e/\e.size=n/\Aw (λ k=>k=g) w wr))
 case atStart=>exact⟨a+1,Q,by go_num,rfl,by omega,by omega,by omega,by omega,by omega,d1,HP.o,W1.o⟩
 case round =>
  obtain⟨i0,m,rfl,rfl,ai,u1,u2,u3,u4,HE⟩:=hrel;obtain⟨E,e1,e2,e3,e4⟩:=HE.o;have V0:=I3 e2 e3 e4;have VP:=Ih e1;obtain⟨go,X⟩:=Xb gk;have GO:=I2 (by omega:m+1<=i0+go) X;clear HE e1 e2 e3 e4 X;obtain⟨I,hI⟩:=Xa (scanUp (λ x=>!ltU E[a]! x) E m i0)
  have HI:=Ih hI;clear hI;go_wp2_with fail;go_loopg[9] (m+1) (λ k v wr=>∃i:Nat,v=Ab Ak i/\m+1<=i+k/\a+1<=i/\i<=b/\Hid (scanUp (λ x=>!ltU E[a]! x) E m i=I/\SR wr g E/\Aw (λ k=>k=g) w wr))
  case atStart=>exact⟨i0,by first | rfl | go_num,by omega,by omega,by omega,HI.o,V0.o.1,V0.o.2.2⟩
  case round =>
   obtain⟨i,rfl,ak,ac,ad,l⟩:=hrel;go_upto_region 3 with fail;go_cut[43]from 29 to 45 (λ tv u=>∃v f,v=u/\tv=Ad f/\Hid ((decide (i<=m)&&(λ x=>!ltU E[a]! x) E[i]!)=f/\SR v g E/\Aw (λ k=>k=g) w v))
   case first =>
    by_cases D:i<=m
    ·obtain⟨x,A⟩:∃x,E[i]! = x:=⟨_,rfl⟩
     obtain⟨y,B⟩:∃y,E[a]! = y:=⟨_,rfl⟩
     obtain⟨F,N⟩:=Xa (ltU y x);have hs:=V0.o.2.1
     have q0:∀u:SW (gN wr),u.w.cell? ⟨g,i,none⟩=some (uv x):=λ u=>by rw[<- A];exact(l.o.2.1.below u.ok).cell (by omega)
     have q1:∀u:SW (gN wr),u.w.cell? ⟨g,a,none⟩=some (uv y):=λ u=>by rw[<- B];exact(l.o.2.1.below u.ok).cell (by omega)
     have U:=λ u=>FV (wr:=wr) y x F N u
     have NE:Nonempty (SW (gN wr)):=⟨⟨wr,Ao _ wr⟩⟩
     have P:(i:Int)<=(m:Int):=by omega
     have j2:decide ((i:Int)<=(m:Int))=true:=by simpa using P
     have j3:decide (i<=m)=true:=by simpa using D
     have j4:(i:Int)<(n:Int):=by omega
     have j5:(a:Int)<(n:Int):=by omega
     have j6:(0:Int)<=(i:Int):=by omega
     have j7:(0:Int)<=(a:Int):=by omega
     have H:Hid ((decide (i<=m)&&(λ x=>!ltU E[a]! x) E[i]!)=(!F)):=by
      show _=_;simp only[A,B,N,j3,Ci]
     clear A B N hs
     cases F with
     | true =>
      refine Bb (S:=gN wr) (by kernel_rfl) (by kernel_rfl) (Ao _ wr).drew ?_
      repeat(go_big_quiet_step (with_reducible exact U _))
      refine AS ?_;intro _ z;obtain⟨u,s⟩:=z;subst s;go_wp2_with fail;go_meet;exact⟨_,_,rfl,rfl,H.o,l.o.2.1.below u.ok,l.o.2.2.trans (Aw.ofBelow u.ok) (λ _ _ q=>q)⟩
     | false =>
      refine Bb (S:=gN wr) (by kernel_rfl) (by kernel_rfl) (Ao _ wr).drew ?_
      repeat(go_big_quiet_step (with_reducible exact U _))
      refine AS ?_;intro _ z;obtain⟨u,s⟩:=z;subst s;go_wp2_with fail;go_meet;exact⟨_,_,rfl,rfl,H.o,l.o.2.1.below u.ok,l.o.2.2.trans (Aw.ofBelow u.ok) (λ _ _ q=>q)⟩
    have P:¬(i:Int)<=(m:Int):=by omega
    have j2:decide ((i:Int)<=(m:Int))=false:=by simpa using P
    have H:Hid ((decide (i<=m)&&(λ x=>!ltU E[a]! x) E[i]!)=false):=by
     show _=_;simp[D]
    go_quiet (fail);go_wp2_with fail;go_meet;have hq:=AY (Ao wr.heap.size wr) nq;exact⟨_,false,rfl,rfl,H.o,l.o.2.1.below hq,l.o.2.2.trans (Aw.ofBelow (S:=λ _=>False) hq) (λ _ _ q=>q.elim)⟩
   case rest =>
    obtain⟨v,f,rfl,rfl,t⟩:=hcut
    cases f with
    | true =>
     have ae:i<=m:=by
      have:=t.o.1;simp only[Bn,A9]at this;exact this.1
     have HN:Hid (scanUp (λ x=>!ltU E[a]! x) E m (i+1)=I):=by
      have:=l.o.1;rw[Mb (p:=(λ x=>!ltU E[a]! x)) t.o.1]at this;exact this
     clear l;go_wp2;go_roundg (gk - 1)
     case measure=>omega
     case rel=>exact⟨i+1,by go_num,by omega,by omega,by omega,HN.o,t.o.2.1,t.o.2.2⟩
    | false =>
     have FI:Hid (scanUp (λ x=>!ltU E[a]! x) E m i0=i):=by
      have:=l.o.1;rw[KD (p:=(λ x=>!ltU E[a]! x)) t.o.1]at this;exact HI.o.trans this.symm
     have Wu:=I3 t.o.2.1 V0.o.2.1 t.o.2.2;clear l t HI;obtain⟨J,hJ⟩:=Xa (scanDown (λ x=>ltU E[a]! x) E i m)
     have HJ:=Ih hJ;clear hJ;go_wp2_with fail;go_loopg[10] (m) (λ k v wr=>∃j:Nat,v=Ab Ak j/\j<=k/\a<=j/\j<b/\Hid (scanDown (λ x=>ltU E[a]! x) E i j=J/\SR wr g E/\Aw (λ k=>k=g) w wr))
     case atStart=>exact⟨m,by first | rfl | go_num,by omega,by omega,by omega,HJ.o,Wu.o.1,Wu.o.2.2⟩
     case round =>
      obtain⟨j,rfl,aj,ac,ad,l⟩:=hrel;go_upto_region 5 with fail;go_cut[59]from 46 to 61 (λ tv u=>∃v f,v=u/\tv=Ad f/\Hid ((decide (i<=j)&&(λ x=>ltU E[a]! x) E[j]!)=f/\SR v g E/\Aw (λ k=>k=g) w v))
      case first =>
       by_cases D:i<=j
       ·obtain⟨x,A⟩:∃x,E[j]! = x:=⟨_,rfl⟩
        obtain⟨y,B⟩:∃y,E[a]! = y:=⟨_,rfl⟩
        obtain⟨F,N⟩:=Xa (ltU y x);have hs:=Wu.o.2.1
        have q0:∀u:SW (gN wr),u.w.cell? ⟨g,j,none⟩=some (uv x):=λ u=>by rw[<- A];exact(l.o.2.1.below u.ok).cell (by omega)
        have q1:∀u:SW (gN wr),u.w.cell? ⟨g,a,none⟩=some (uv y):=λ u=>by rw[<- B];exact(l.o.2.1.below u.ok).cell (by omega)
        have U:=λ u=>FV (wr:=wr) y x F N u
        have NE:Nonempty (SW (gN wr)):=⟨⟨wr,Ao _ wr⟩⟩
        have P:(i:Int)<=(j:Int):=by omega
        have j2:decide ((i:Int)<=(j:Int))=true:=by simpa using P
        have j3:decide (i<=j)=true:=by simpa using D
        have j4:(j:Int)<(n:Int):=by omega
        have j5:(a:Int)<(n:Int):=by omega
        have j6:(0:Int)<=(j:Int):=by omega
        have j7:(0:Int)<=(a:Int):=by omega
        have H:Hid ((decide (i<=j)&&(λ x=>ltU E[a]! x) E[j]!)=(F)):=by
         show _=_;simp only[A,B,N,j3,Ci]
        clear A B N hs
        cases F with
        | true =>
         refine Bb (S:=gN wr) (by kernel_rfl) (by kernel_rfl) (Ao _ wr).drew ?_
         repeat(go_big_quiet_step (with_reducible exact U _))
         refine AS ?_;intro _ z;obtain⟨u,s⟩:=z;subst s;go_wp2_with fail;go_meet;exact⟨_,_,rfl,rfl,H.o,l.o.2.1.below u.ok,l.o.2.2.trans (Aw.ofBelow u.ok) (λ _ _ q=>q)⟩
        | false =>
         refine Bb (S:=gN wr) (by kernel_rfl) (by kernel_rfl) (Ao _ wr).drew ?_
         repeat(go_big_quiet_step (with_reducible exact U _))
         refine AS ?_;intro _ z;obtain⟨u,s⟩:=z;subst s;go_wp2_with fail;go_meet;exact⟨_,_,rfl,rfl,H.o,l.o.2.1.below u.ok,l.o.2.2.trans (Aw.ofBelow u.ok) (λ _ _ q=>q)⟩
       have P:¬(i:Int)<=(j:Int):=by omega
       have j2:decide ((i:Int)<=(j:Int))=false:=by simpa using P
       have H:Hid ((decide (i<=j)&&(λ x=>ltU E[a]! x) E[j]!)=false):=by
        show _=_;simp[D]
       go_quiet (fail);go_wp2_with fail;go_meet;have hq:=AY (Ao wr.heap.size wr) nq;exact⟨_,false,rfl,rfl,H.o,l.o.2.1.below hq,l.o.2.2.trans (Aw.ofBelow (S:=λ _=>False) hq) (λ _ _ q=>q.elim)⟩
      case rest =>
       obtain⟨v,f,rfl,rfl,t⟩:=hcut
       cases f with
       | true =>
        have ae:i<=j:=by
         have:=t.o.1;simp only[Bn,A9]at this;exact this.1
        have HN:Hid (scanDown (λ x=>ltU E[a]! x) E i (j - 1)=J):=by
         have:=l.o.1;rw[LZ (p:=(λ x=>ltU E[a]! x)) (by omega) t.o.1]at this;exact this
        clear l;obtain⟨ii,Y⟩:=Xa (j - 1)
        have d1:(j:Int) - 1=(ii:Int):=by omega
        have d2:Ak.wrap (ii:Int)=(ii:Int):=by rw[Au];omega
        rw[Y]at HN
        have G:Hid (ii+1=j):=by show _=j;omega
        clear Y;go_wp2;go_roundg (gk - 1)
        case measure=>have:=G.o;omega
        case rel=>exact⟨ii,rfl,by have:=G.o;omega,by have:=G.o;omega,by have:=G.o;omega,HN.o,t.o.2.1,t.o.2.2⟩
       | false =>
        have FJ:Hid (scanDown (λ x=>ltU E[a]! x) E i m=j):=by
         have:=l.o.1;rw[L6 (p:=(λ x=>ltU E[a]! x)) t.o.1]at this;exact HJ.o.trans this.symm
        have Wd:=I3 t.o.2.1 Wu.o.2.1 t.o.2.2;clear l t HJ;have L:=Kz (p:=λ x=>!ltU E[a]! x) (q:=λ x=>ltU E[a]! x) (λ _=>by simp) (by omega) FI.o FJ.o;by_cases hc:j<i
        have ci:(j:Int)<(i:Int):=by omega
        have M:Hid (r=(i,E)):=by
         show r=_;rw[<- VP.o];exact WZ FI.o FJ.o hc
        go_wp2;go_ret;rw[M.o];exact⟨rfl,Wd.o.1,Wd.o.2.2⟩
        have ci:¬(j:Int)<(i:Int):=by omega
        obtain⟨R,Z⟩:=Xa (j - 1)
        have d1:(j:Int) - 1=(R:Int):=by omega
        have d2:Ak.wrap (R:Int)=(R:Int):=by rw[Au];omega
        have M:Hid (partEqLoop ltU a (i+1) R (swp E i j)=r):=by
         show _=r;rw[<- VP.o,<- Z];exact(Yu (by omega) FI.o FJ.o hc).symm
        have JJ:Hid (R+1=j):=by show _=j;omega
        have T:=I2 L.1 L.2.1;have af:=L.2.2;clear Z L
        obtain⟨x,A⟩:∃x,E[i]! = x:=⟨_,rfl⟩
        obtain⟨y,B⟩:∃y,E[j]! = y:=⟨_,rfl⟩
        have O:=Wd.o.2.1
        have c0:v.cell? ⟨g,i,none⟩=some (uv x):=by rw[<- A];exact Wd.o.1.cell (by omega)
        have c1:v.cell? ⟨g,j,none⟩=some (uv y):=by rw[<- B];exact Wd.o.1.cell (by omega)
        have F:=Wd.o.1.thaw i;have f1:=Wd.o.1.thaw j
        have z0:(0:Int)<=(i:Int):=by omega
        have z1:(0:Int)<=(j:Int):=by omega
        have z2:(i:Int)<(n:Int):=by omega
        have z3:(j:Int)<(n:Int):=by omega
        have nt:=af
        have ab:¬j=i:=λ e=>nt e.symm
        have C:=I2 A B
        clear A B O;go_wp2_with fail;go_region;go_wp2;go_roundg (go - 1)
        case measure=>have:=GO.o;have:=T.o;omega
        case rel=>exact⟨i+1,R,by go_num,rfl,by have:=GO.o;have:=T.o;have:=JJ.o;omega,by omega,by omega,by have:=JJ.o;omega,by have:=JJ.o;omega,swp E i j,M.o,Wd.o.1.drewSwap C.o.1 C.o.2,by rw[ET];exact Wd.o.2.1,io Wd.o.2.2 _ _ _ _⟩
theorem nZ{p:Prop}(h:p):Hid p:=h
theorem oO{d:Array UInt64}{b i:Nat}(h:(decide (i<b)&&!ltU d[i]! d[i - 1]!)=true):scanSorted ltU d b i=scanSorted ltU d b (i+1):=by
 rw[scanSorted,AC h]
theorem VA{d:Array UInt64}{b i:Nat}(h:(decide (i<b)&&!ltU d[i]! d[i - 1]!)=false):scanSorted ltU d b i=i:=by
 rw[scanSorted,Ay (by rw[h];decide)]
theorem gF{d:Array UInt64}{t:Nat}(f:Bool)(a:ltU d[t+1]! d[t]! = f):shiftDown ltU (t+1) d=if f=true then shiftDown ltU t (swp d (t+1) t)else d:=by
 rw[shiftDown,a]
 cases f <;> rfl
theorem dS{d:Array UInt64}{b j:Nat}(h:j<b)(f:Bool)(a:ltU d[j]! d[j - 1]! = f):shiftUp ltU b j d=if f=true then shiftUp ltU b (j+1) (swp d j (j - 1))else d:=by
 rw[shiftUp,AC h,a]
 cases f <;> rfl
theorem T6{d:Array UInt64}{b j:Nat}(h:¬j<b):shiftUp ltU b j d=d:=by
 rw[shiftUp,Ay h]
theorem XM{a b s i:Nat}{d:Array UInt64}{R:Array UInt64×Bool}(h:partialIns ltU a b (s+1) i d=R):∀c,scanSorted ltU d b i=c->(c=b->R=(d,true))/\(¬c=b->(b - a<50->R=(d,false))/\(¬b - a<50->∀e f,(if c - a≥2 then shiftDown ltU (c - 1) (swp d c (c - 1))else swp d c (c - 1))=e->(if b - c≥2 then shiftUp ltU b (c+1) e else e)=f->partialIns ltU a b s c f=R)):=by
 intro c hi;rw[<- h,partialIns];simp only[hi];refine⟨λ q=>by rw[AC q],λ q=>⟨λ g=>by rw[Ay q,AC g],λ g e f j k=>?_⟩⟩;rw[Ay q,Ay g,j,k]
theorem YJ{w:Ap}{g n c a b:Nat}{d:Array UInt64}(h:SR w g d)(hd:d.size=n)(av:a<b)(hb:b<=n)(hn:n<=1000000000000)(R:Array UInt64×Bool)(hr:partialInsertionSort ltU d a b=R):
  At Am 128 #[Aa (some ⟨g,0,none⟩) n c,Ab Ak (a:Int),Ab Ak (b:Int)] w λ e w'=>e=Aj (Ad R.2)/\Hid (SR w' g R.1/\Aw (λ k=>k=g) w w'):=by
 obtain⟨l,hl⟩:=Xa (b - a)
 have b1:(b:Int) - (a:Int)=(l:Int):=by omega
 have bw:Ak.wrap (l:Int)=(l:Int):=by rw[Au];omega
 have W0:=I4 h hd (Aw.refl _ _:Aw (λ k=>k=g) w w) hr
 have HL:=Ih hl;clear h hd hr hl;go_enter func128,ntmps128;go_wp2_with fail;go_loopg[8,7] 5 (λ k v8 v7 wr=>∃t i:Nat,v8=Ab Ak t/\v7=Ab Ak i/\t+k=5/\a+1<=i/\i<=b/\Hid (∃e:Array UInt64,partialIns ltU a b k i e=R/\SR wr g e/\Aw (λ k=>k=g) w wr/\e.size=n))
 case atStart=>exact⟨0,a+1,rfl,by go_num,rfl,by omega,by omega,d,W0.o.2.2.2,W0.o.1,W0.o.2.2.1,W0.o.2.1⟩
 case round =>
  obtain⟨t0,i0,rfl,rfl,aq,u1,u2,HE⟩:=hrel;obtain⟨E,W,V0⟩:∃E,partialIns ltU a b gk i0 E=R/\Hid (SR wr g E/\Aw (λ k=>k=g) w wr/\E.size=n):=HE.o;clear HE W0;by_cases aC:t0<5
  ·obtain⟨s,Z⟩:∃s,s+1=gk:=⟨gk - 1,by omega⟩
   rw[<- Z]at W;have HS:=nZ (XM W);rw[HL.o]at HS
   have v5:(t0:Int)<5:=by omega
   have GO:=I2 Z (by omega:t0+(s+1)=5)
   clear W Z aq
   obtain⟨I,hI⟩:=Xa (scanSorted ltU E b i0)
   have HI:=Ih hI;clear hI;go_wp2_with fail;go_loopg[7] b (λ k v wr=>∃i:Nat,v=Ab Ak i/\b<=i+k/\a+1<=i/\i<=b/\Hid (scanSorted ltU E b i=I/\SR wr g E/\Aw (λ k=>k=g) w wr/\E.size=n))
   case atStart=>exact⟨i0,rfl,by omega,by omega,by omega,HI.o,V0.o⟩
   case round =>
    obtain⟨i,rfl,hk,aw,ax,m⟩:=hrel
    obtain⟨r,X⟩:=Xa (i - 1)
    have s1:(i:Int) - 1=(r:Int):=by omega
    have s2:Ak.wrap (r:Int)=(r:Int):=by rw[Au];omega
    have au:r+1=i:=by omega
    go_upto_region 5 with fail
    go_cut[32]from 17 to 34 (λ tv u=>∃v f,v=u/\tv=Ad f/\Hid ((decide (i<b)&&!ltU E[i]! E[r]!)=f/\SR v g E/\Aw (λ k=>k=g) w v))
    case first =>
     by_cases aj:i<b
     ·obtain⟨x,J⟩:∃x,E[i]! = x:=⟨_,rfl⟩
      obtain⟨y,K⟩:∃y,E[r]! = y:=⟨_,rfl⟩
      obtain⟨H,U⟩:=Xa (ltU x y)
      have Z:=m.o.2.2.2
      have q0:∀u:SW (gN wr),u.w.cell? ⟨g,i,none⟩=some (uv x):=λ u=>by rw[<- J];exact(m.o.2.1.below u.ok).cell (by omega)
      have q1:∀u:SW (gN wr),u.w.cell? ⟨g,r,none⟩=some (uv y):=λ u=>by rw[<- K];exact(m.o.2.1.below u.ok).cell (by omega)
      have V:=λ u=>FV (wr:=wr) x y H U u
      have NE:Nonempty (SW (gN wr)):=⟨⟨wr,Ao _ wr⟩⟩
      have j4:(i:Int)<(n:Int):=by omega
      have j5:(r:Int)<(n:Int):=by omega
      have j6:(0:Int)<=(i:Int):=by omega
      have j7:(0:Int)<=(r:Int):=by omega
      have j1:(i:Int)<(b:Int):=by omega
      have j2:decide ((i:Int)<(b:Int))=true:=by simpa using j1
      have j3:decide (i<b)=true:=by simpa using aj
      have KE:Hid ((decide (i<b)&&!ltU E[i]! E[r]!)=(!H)):=by
       show _=_;simp only[J,K,U,j3,Ci]
      clear J K U Z
      cases H with
      | true =>
       refine Bb (S:=gN wr) (by kernel_rfl) (by kernel_rfl) (Ao _ wr).drew ?_
       repeat(go_big_quiet_step (with_reducible exact V _))
       refine AS ?_;intro _ z;obtain⟨u,p⟩:=z;subst p;go_wp2_with fail;go_meet;exact⟨_,_,rfl,rfl,KE.o,m.o.2.1.below u.ok,m.o.2.2.1.trans (Aw.ofBelow u.ok) (λ _ _ q=>q)⟩
      | false =>
       refine Bb (S:=gN wr) (by kernel_rfl) (by kernel_rfl) (Ao _ wr).drew ?_
       repeat(go_big_quiet_step (with_reducible exact V _))
       refine AS ?_;intro _ z;obtain⟨u,p⟩:=z;subst p;go_wp2_with fail;go_meet;exact⟨_,_,rfl,rfl,KE.o,m.o.2.1.below u.ok,m.o.2.2.1.trans (Aw.ofBelow u.ok) (λ _ _ q=>q)⟩
     ·have j1:¬(i:Int)<(b:Int):=by omega
      have j2:decide ((i:Int)<(b:Int))=false:=by simpa using j1
      have KE:Hid ((decide (i<b)&&!ltU E[i]! E[r]!)=false):=by
       show _=_;simp[aj]
      go_quiet (fail);go_wp2_with fail;go_meet;have hq:=AY (Ao wr.heap.size wr) nq;exact⟨_,false,rfl,rfl,KE.o,m.o.2.1.below hq,m.o.2.2.1.trans (Aw.ofBelow (S:=λ _=>False) hq) (λ _ _ q=>q.elim)⟩
    case rest =>
     obtain⟨v,f,rfl,rfl,HC⟩:=hcut
     cases f with
     | true =>
      have aB:i<b:=by
       have:=HC.o.1;simp only[Bn,A9]at this;exact this.1
      have HN:Hid (scanSorted ltU E b (i+1)=I):=by
       have:=m.o.1;rw[oO (by rw[X];exact HC.o.1)]at this;exact this
      have HZ:=Ih m.o.2.2.2;clear m;go_wp2;go_roundg (gk - 1)
      case measure=>omega
      case rel=>exact⟨i+1,by go_num,by omega,by omega,by omega,HN.o,HC.o.2.1,HC.o.2.2,HZ.o⟩
     | false =>
      have FI:Hid (scanSorted ltU E b i0=i):=by
       have:=m.o.1;rw[VA (by rw[X];exact HC.o.1)]at this;exact HI.o.trans this.symm
      have Wd:=I3 HC.o.2.1 m.o.2.2.2 HC.o.2.2
      clear m HC HI hk;have Y:=HS.o i FI.o;clear HS FI;by_cases aa:i=b
      ·have Q:=Ih (Y.1 aa)
       have W:(i:Int)=(b:Int):=by omega
       clear Y;go_wp2;go_ret;rw[Q.o];exact⟨rfl,Wd.o.1,Wd.o.2.2⟩
      ·have W:¬(i:Int)=(b:Int):=by omega
       have M:=Y.2 aa;clear Y;by_cases ah:l<50
       ·have Q:=Ih (M.1 ah)
        have e2:(l:Int)<50:=by omega
        clear M;go_wp2;go_ret;rw[Q.o];exact⟨rfl,Wd.o.1,Wd.o.2.2⟩
       ·have e2:¬(l:Int)<50:=by omega
        have N:=M.2 ah;rw[X]at N
        obtain⟨O,ac⟩:=Xa (swp E i r)
        rw[ac]at N
        obtain⟨A,ad⟩:=Xa ((if i - a≥2 then shiftDown ltU r O else O))
        obtain⟨C,ae⟩:=Xa ((if b - i≥2 then shiftUp ltU b (i+1) A else A))
        have PR:=Ih (N A C ad ae)
        have Q1:=I3 ac ad ae
        obtain⟨m1,ak⟩:=Xa (i - a)
        obtain⟨m2,al⟩:=Xa (b - i)
        have t1:(i:Int) - (a:Int)=(m1:Int):=by omega
        have t2:(b:Int) - (i:Int)=(m2:Int):=by omega
        have t3:Ak.wrap (m1:Int)=(m1:Int):=by rw[Au];omega
        have t4:Ak.wrap (m2:Int)=(m2:Int):=by rw[Au];omega
        rw[ak,al]at Q1;clear M N ac ad ae X ak al
        obtain⟨x,J⟩:∃x,E[i]! = x:=⟨_,rfl⟩
        obtain⟨y,K⟩:∃y,E[r]! = y:=⟨_,rfl⟩
        have ap:=Wd.o.2.1
        have c0:v.cell? ⟨g,i,none⟩=some (uv x):=by rw[<- J];exact Wd.o.1.cell (by omega)
        have c1:v.cell? ⟨g,r,none⟩=some (uv y):=by rw[<- K];exact Wd.o.1.cell (by omega)
        have H:=Wd.o.1.thaw i;have f1:=Wd.o.1.thaw r
        have z0:(0:Int)<=(i:Int):=by omega
        have z1:(0:Int)<=(r:Int):=by omega
        have z2:(i:Int)<(n:Int):=by omega
        have z3:(r:Int)<(n:Int):=by omega
        have nt:¬i=r:=by omega
        have af:¬r=i:=λ e=>nt e.symm
        have ab:=I2 J K
        clear J K ap;go_wp2_with fail;go_region
        have W1:Hid (SR (((v.setCell ⟨g,i,none⟩ (Ab Al (y.toNat:Int))).setCell ⟨g,r,none⟩ (Ab Al (x.toNat:Int))).drew) g O/\O.size=n/\Aw (λ k=>k=g) w (((v.setCell ⟨g,i,none⟩ (Ab Al (y.toNat:Int))).setCell ⟨g,r,none⟩ (Ab Al (x.toNat:Int))).drew)):=by
         rw[<- Q1.o.1];exact⟨Wd.o.1.drewSwap ab.o.1 ab.o.2,by rw[ET];exact Wd.o.2.1,io Wd.o.2.2 _ _ _ _⟩
        obtain⟨w1,an⟩:=Xb (((v.setCell ⟨g,i,none⟩ (Ab Al (y.toNat:Int))).setCell ⟨g,r,none⟩ (Ab Al (x.toNat:Int))).drew)
        rw[<- an]at W1 ⊢;clear an ab c0 c1 H f1 z0 z1 z2 z3 nt af Wd W e2
        obtain⟨bm,ai⟩:=Xa (decide ((2:Int)<=(m1:Int)))
        have ag:=Ih ai
        go_upto_if 61 with fail
        clear ai
        go_cut[9]from 13 to 132 (λ jv u=>∃v,v=u/\Hid (SR v g A/\A.size=n/\Aw (λ k=>k=g) w v))
        case first =>
         have D:=Ih Q1.o.2.1;clear PR Q1 t2 t4
         cases bm with
         | true =>
          have hm:2<=m1:=by have:=Dy ag.o;omega
          have B:Hid (shiftDown ltU r O=A):=by
           have:=D.o;rw[AC hm]at this;exact this
          clear D;go_wp2_with fail;go_loopg[9] r (λ k v wr=>v=Ab Ak (k:Int)/\k<=r/\Hid (∃e:Array UInt64,shiftDown ltU k e=A/\SR wr g e/\Aw (λ k=>k=g) w wr/\e.size=n))
          case atStart=>exact⟨rfl,AA _,O,B.o,W1.o.1,W1.o.2.2,W1.o.2.1⟩
          case round =>
           obtain⟨rfl,aA,HE⟩:=hrel;obtain⟨G,m⟩:∃G,Hid (shiftDown ltU gk G=A/\SR wr g G/\Aw (λ k=>k=g) w wr/\G.size=n):=HE.o;clear HE B W1;by_cases hz:1<=gk
           ·obtain⟨t,ht⟩:∃t,t+1=gk:=⟨gk - 1,by omega⟩
            have j1:(1:Int)<=(gk:Int):=by omega
            have j2:(gk:Int) - 1=(t:Int):=by omega
            have j3:Ak.wrap (t:Int)=(t:Int):=by rw[Au];omega
            obtain⟨x,J⟩:∃x,G[gk]! = x:=⟨_,rfl⟩
            obtain⟨y,K⟩:∃y,G[t]! = y:=⟨_,rfl⟩
            obtain⟨H,U⟩:=Xa (ltU x y)
            have Z:=m.o.2.2.2
            have q0:∀u:SW (gN wr),u.w.cell? ⟨g,gk,none⟩=some (uv x):=λ u=>by rw[<- J];exact(m.o.2.1.below u.ok).cell (by omega)
            have q1:∀u:SW (gN wr),u.w.cell? ⟨g,t,none⟩=some (uv y):=λ u=>by rw[<- K];exact(m.o.2.1.below u.ok).cell (by omega)
            have V:=λ u=>FV (wr:=wr) x y H U u
            have NE:Nonempty (SW (gN wr)):=⟨⟨wr,Ao _ wr⟩⟩
            have j4:(gk:Int)<(n:Int):=by omega
            have j5:(t:Int)<(n:Int):=by omega
            have j6:(0:Int)<=(gk:Int):=by omega
            have j7:(0:Int)<=(t:Int):=by omega
            have F:Hid ((if H=true then shiftDown ltU t (swp G gk t)else G)=A/\G[gk]! = x/\G[t]! = y/\t+1=gk):=by
             refine⟨?_,J,K,ht⟩;rw[<- m.o.1,<- ht];exact(gF H (by rw[ht,J,K];exact U)).symm
            clear J K U Z ht
            cases H with
            | true =>
             go_upto_region 16 with fail
             refine Bb (S:=gN wr) (by kernel_rfl) (by kernel_rfl) (Ao _ wr).drew ?_
             repeat(go_big_quiet_step (with_reducible exact V _))
             refine AS ?_;intro _ z;obtain⟨u,p⟩:=z;subst p
             obtain⟨w4,L⟩:=Xb u.w
             have Wd:Hid (SR w4 g G/\G.size=n/\Aw (λ k=>k=g) w w4):=by
              rw[L];exact⟨m.o.2.1.below u.ok,m.o.2.2.2,m.o.2.2.1.trans (Aw.ofBelow u.ok) (λ _ _ q=>q)⟩
             rw[<- L];clear V q0 q1 NE L u m
             have c0:w4.cell? ⟨g,gk,none⟩=some (uv x):=by rw[<- F.o.2.1];exact Wd.o.1.cell (by have:=Wd.o.2.1;omega)
             have c1:w4.cell? ⟨g,t,none⟩=some (uv y):=by rw[<- F.o.2.2.1];exact Wd.o.1.cell (by have:=Wd.o.2.1;omega)
             have H:=Wd.o.1.thaw gk;have f1:=Wd.o.1.thaw t
             have nt:¬gk=t:=by have:=F.o.2.2.2;omega
             have af:¬t=gk:=λ e=>nt e.symm
             go_wp2_with fail;go_region;go_wp2;go_roundg t
             case measure=>have:=F.o.2.2.2;omega
             case rel=>exact⟨by go_num,by have:=F.o.2.2.2;omega,swp G gk t,by have:=F.o.1;simpa using this,Wd.o.1.drewSwap F.o.2.1 F.o.2.2.1,io Wd.o.2.2 _ _ _ _,by rw[ET];exact Wd.o.2.1⟩
            | false =>
             go_upto_region 16 with fail
             refine Bb (S:=gN wr) (by kernel_rfl) (by kernel_rfl) (Ao _ wr).drew ?_
             repeat(go_big_quiet_step (with_reducible exact V _))
             refine AS ?_;intro _ z;obtain⟨u,p⟩:=z;subst p;go_wp2_with fail;go_meet
             have P:G=A:=by have:=F.o.1;simpa using this
             exact⟨_,rfl,by rw[<- P];exact m.o.2.1.below u.ok,by rw[<- P];exact m.o.2.2.2,m.o.2.2.1.trans (Aw.ofBelow u.ok) (λ _ _ q=>q)⟩
           ·have j1:¬(1:Int)<=(gk:Int):=by omega
            have P:Hid (G=A):=by
             have e0:gk=0:=by omega
             have:=m.o.1;rw[e0]at this;exact this
            go_wp2_with fail;go_meet;exact⟨_,rfl,by rw[<- P.o];exact m.o.2.1,by rw[<- P.o];exact m.o.2.2.2,m.o.2.2.1⟩
         | false =>
          have hm:¬2<=m1:=by have:=of_decide_eq_false ag.o;omega
          have B:Hid (O=A):=by
           have:=D.o;rw[Ay hm]at this;exact this
          clear D;go_wp2_with fail;go_meet;exact⟨_,rfl,by rw[<- B.o];exact W1.o⟩
        case rest =>
         obtain⟨v,rfl,W2⟩:=hcut;clear W1;have D:=Ih Q1.o.2.2;clear Q1 t1 t3;by_cases hm:2<=m2
         ·have ao:(2:Int)<=(m2:Int):=by omega
          have B:Hid (shiftUp ltU b (i+1) A=C):=by
           have:=D.o;rw[AC hm]at this;exact this
          clear D;go_wp2_with fail;go_loopg[10] b (λ k v wr=>∃j:Nat,v=Ab Ak (j:Int)/\b<=j+k/\j<=b/\i+1<=j/\Hid (∃e:Array UInt64,shiftUp ltU b j e=C/\SR wr g e/\Aw (λ k=>k=g) w wr/\e.size=n))
          case atStart=>exact⟨i+1,by go_num,by omega,by omega,AA _,A,B.o,W2.o.1,W2.o.2.2,W2.o.2.1⟩
          case round =>
           obtain⟨j,rfl,az,ay,ar,HE⟩:=hrel;obtain⟨G,m⟩:∃G,Hid (shiftUp ltU b j G=C/\SR wr g G/\Aw (λ k=>k=g) w wr/\G.size=n):=HE.o;clear HE B W2;by_cases hz:j<b
           ·obtain⟨t,ht⟩:=Xa (j - 1)
            have am:t+1=j:=by omega
            have j1:(j:Int)<(b:Int):=by omega
            have j2:(j:Int) - 1=(t:Int):=by omega
            have j3:Ak.wrap (t:Int)=(t:Int):=by rw[Au];omega
            obtain⟨x,J⟩:∃x,G[j]! = x:=⟨_,rfl⟩
            obtain⟨y,K⟩:∃y,G[t]! = y:=⟨_,rfl⟩
            obtain⟨H,U⟩:=Xa (ltU x y)
            have Z:=m.o.2.2.2
            have q0:∀u:SW (gN wr),u.w.cell? ⟨g,j,none⟩=some (uv x):=λ u=>by rw[<- J];exact(m.o.2.1.below u.ok).cell (by omega)
            have q1:∀u:SW (gN wr),u.w.cell? ⟨g,t,none⟩=some (uv y):=λ u=>by rw[<- K];exact(m.o.2.1.below u.ok).cell (by omega)
            have V:=λ u=>FV (wr:=wr) x y H U u
            have NE:Nonempty (SW (gN wr)):=⟨⟨wr,Ao _ wr⟩⟩
            have j4:(j:Int)<(n:Int):=by omega
            have j5:(t:Int)<(n:Int):=by omega
            have j6:(0:Int)<=(j:Int):=by omega
            have j7:(0:Int)<=(t:Int):=by omega
            have F:Hid ((if H=true then shiftUp ltU b (j+1) (swp G j t)else G)=C/\G[j]! = x/\G[t]! = y/\t+1=j):=by
             refine⟨?_,J,K,am⟩;rw[<- m.o.1,<- ht];exact(dS hz H (by rw[ht,J,K];exact U)).symm
            clear J K U Z ht am
            cases H with
            | true =>
             go_upto_region 22 with fail
             refine Bb (S:=gN wr) (by kernel_rfl) (by kernel_rfl) (Ao _ wr).drew ?_
             repeat(go_big_quiet_step (with_reducible exact V _))
             refine AS ?_;intro _ z;obtain⟨u,p⟩:=z;subst p
             obtain⟨w4,L⟩:=Xb u.w
             have Wd:Hid (SR w4 g G/\G.size=n/\Aw (λ k=>k=g) w w4):=by
              rw[L];exact⟨m.o.2.1.below u.ok,m.o.2.2.2,m.o.2.2.1.trans (Aw.ofBelow u.ok) (λ _ _ q=>q)⟩
             rw[<- L];clear V q0 q1 NE L u m
             have c0:w4.cell? ⟨g,j,none⟩=some (uv x):=by rw[<- F.o.2.1];exact Wd.o.1.cell (by have:=Wd.o.2.1;omega)
             have c1:w4.cell? ⟨g,t,none⟩=some (uv y):=by rw[<- F.o.2.2.1];exact Wd.o.1.cell (by have:=Wd.o.2.1;omega)
             have H:=Wd.o.1.thaw j;have f1:=Wd.o.1.thaw t
             have nt:¬j=t:=by have:=F.o.2.2.2;omega
             have af:¬t=j:=λ e=>nt e.symm
             go_wp2_with fail;go_region;go_wp2;go_roundg (gk - 1)
             case measure=>omega
             case rel=>exact⟨j+1,by go_num,by omega,by omega,by omega,swp G j t,by have:=F.o.1;simpa using this,Wd.o.1.drewSwap F.o.2.1 F.o.2.2.1,io Wd.o.2.2 _ _ _ _,by rw[ET];exact Wd.o.2.1⟩
            | false =>
             go_upto_region 22 with fail
             refine Bb (S:=gN wr) (by kernel_rfl) (by kernel_rfl) (Ao _ wr).drew ?_
             repeat(go_big_quiet_step (with_reducible exact V _))
             refine AS ?_;intro _ z;obtain⟨u,p⟩:=z;subst p
             have P:G=C:=by have:=F.o.1;simpa using this
             have T:=I3 (by rw[<- P];exact m.o.2.1.below u.ok:SR u.w g C) (by rw[<- P];exact m.o.2.2.2:C.size=n) (m.o.2.2.1.trans (Aw.ofBelow u.ok) (λ _ _ q=>q):Aw (λ k=>k=g) w u.w)
             clear P;go_wp2;go_roundg s
             case measure=>have:=GO.o;omega
             case rel=>exact⟨t0+1,i,by go_num,rfl,by have:=GO.o;omega,by omega,by omega,C,PR.o,T.o.1,T.o.2.2,T.o.2.1⟩
           ·have j1:¬(j:Int)<(b:Int):=by omega
            have P:Hid (G=C):=by
             have:=m.o.1;rw[T6 hz]at this;exact this
            have T:=I3 (by rw[<- P.o];exact m.o.2.1:SR wr g C) (by rw[<- P.o];exact m.o.2.2.2:C.size=n) m.o.2.2.1
            go_wp2;go_roundg s
            case measure=>have:=GO.o;omega
            case rel=>exact⟨t0+1,i,by go_num,rfl,by have:=GO.o;omega,by omega,by omega,C,PR.o,T.o.1,T.o.2.2,T.o.2.1⟩
         ·have ao:¬(2:Int)<=(m2:Int):=by omega
          have B:Hid (A=C):=by
           have:=D.o;rw[Ay hm]at this;exact this
          clear D
          have T:=I3 ((by rw[<- B.o];exact W2.o.1):SR v g C) ((by rw[<- B.o];exact W2.o.2.1):C.size=n) W2.o.2.2
          go_wp2;go_roundg s
          case measure=>have:=GO.o;omega
          case rel=>exact⟨t0+1,i,by go_num,rfl,by have:=GO.o;omega,by omega,by omega,C,PR.o,T.o.1,T.o.2.2,T.o.2.1⟩
  ·have v5:¬(t0:Int)<5:=by omega
   have Q:Hid (R=(E,false)):=by
    have e0:gk=0:=by omega
    rw[e0]at W;exact W.symm
   clear W;go_wp2;go_ret;rw[Q.o];exact⟨rfl,V0.o.1,V0.o.2.1⟩
end Go.Proofs.YtakgkgmopmcecaaGreat
namespace Go.Proofs.YtakgkgmopmcecaaGreat
open Go.RowKit Go.Sort Go.Shelf
def jW(w:Ap)(b:Nat)(r:UInt64):Prop:=w.heap[b]? = some (.cells #[Ab Al (r.toNat:Int)] 297 (0,0))
section
variable {w w':World}{b:Nat}{r:UInt64}
theorem jW.lt(h:jW w b r):b<w.heap.size:=(Array.getElem?_eq_some_iff.1 h).1
theorem jW.cell(h:jW w b r):w.cell? ⟨b,0,none⟩=some (Ab Al (r.toNat:Int)):=by
 unfold jW at h;simp[World.cell?,h]
theorem jW.thaw(h:jW w b r):w.frozen? ⟨b,0,none⟩=false:=by
 unfold jW at h;simp[World.frozen?,h]
theorem jW.below(h:jW w b r)(a:Iz w w'):jW w' b r:=(a.block b h.lt).trans h
theorem jW.set(h:jW w b r)(s:UInt64):jW (w.setCell ⟨b,0,none⟩ (Ab Al (s.toNat:Int))) b s:=by
 unfold jW at h ⊢;simp[World.setCell,Array.getElem?_modify,h]
theorem jW.turned{S:Nat->Prop}(h:jW w b r)(c:Aw S w w')(a:¬S b):jW w' b r:=(c.block b h.lt a).trans h
theorem jW.new(w:Ap)(r:UInt64):jW (w.alloc (.cells #[Ab Al (r.toNat:Int)] 297)) w.heap.size r:=by
 show(w.heap.push _)[w.heap.size]? = _;simp
end
theorem ZI{w:Ap}{xb:Nat}{r:UInt64}(h:jW w xb r):At Am 181 #[.pointer (some ⟨xb,0,none⟩)] w λ e w'=>e=Aj (Ab Al ((xorNext r).toNat:Int))/\Hid (jW w' xb (xorNext r)/\Aw (λ k=>k=xb) w w'):=by
 have b:=Fe λ D=>AnyS.xorshift_NextInS { mh with } D xb 0 r.toNat r.toNat_lt w h.cell h.thaw
 refine Calls.mono b ?_;rintro e w' ⟨rfl,rfl⟩;rw[<- xorNext_toNat];have a:=jq (w.setCell ⟨xb,0,none⟩ (Ab Al ((xorNext r).toNat:Int))) 3;exact⟨rfl,(h.set (xorNext r)).below a,((Aw.refl (λ k=>k=xb) w).setCell (p:=⟨xb,0,none⟩) (.inl rfl) _).trans (Aw.ofBelow (S:=λ _=>False) a) (λ _ _ q=>q.elim)⟩
theorem Xv(n:Nat)(a:n<4611686018427387904)(w:Ap):At Am 180 #[Ab Ak (n:Int)] w λ e w'=>e=Aj (Ab Al ((1 <<< bitsLen n:Nat):Int))/\w'=w :=
 Fe λ D=>AnyS.nextPowerOfTwoInS { mh with } D n a w
theorem Sg (n:Nat) (hn:n<4611686018427387904) (w:World):Calls Tryz.prog 82 #[.int .u64 (n:Int)] w λ e w'=>e=.returned (.int .i64 ((bitsLen n:Nat):Int))/\w'=w :=
 calls_of_every_depth λ D=>by
  have h:=AnyS.bits_LenInS { mh with } D (n:Int) w (by omega) (by omega)
  rwa [Int.toNat_natCast,bitLen_eq _ (by omega)] at h
theorem WH{w:Ap}{g n c a b:Nat}{d:Array UInt64}(h:SR w g d)(hd:d.size=n)(al:a+8<=b)(hb:b<=n)(hn:n<=1000000000000):
  At Am 125 #[Aa (some ⟨g,0,none⟩) n c,Ab Ak (a:Int),Ab Ak (b:Int)] w λ e w'=>e=Aj (Af #[])/\Hid (SR w' g (breakPatterns d a b)/\Aw (λ k=>k=g) w w'):=by
 obtain⟨L,hL⟩:∃L,a+L=b:=⟨b - a,by omega⟩
 obtain⟨D,T⟩:=Xa (breakPatterns d a b)
 rw[T];rw[<- hL,breakPatterns_eq d a L (by omega)]at T
 obtain⟨M,hM⟩:∃M:Nat,1 <<< bitsLen L=M:=⟨_,rfl⟩
 have aj:1<=M:=by rw[<- hM,Hb];exact Nat.two_pow_pos _
 have ak:M<=2*L:=by rw[<- hM,Hb];exact two_pow_bitsLen_le (by omega)
 have hP:=λ w=>Xv L (by omega) w
 rw[hM]at T hP
 obtain⟨q,hq⟩:=Xa (L / 4)
 obtain⟨q2,ag⟩:=Xa (q*2)
 obtain⟨S,ac⟩:=Xa (a+q2)
 obtain⟨base,Q⟩:=Xa (S - 1)
 obtain⟨A,Y⟩:=Xa (S+1)
 have X:a+L / 4*2 - 1=base:=by omega
 rw[X]at T
 have m0:(b:Int) - (a:Int)=(L:Int):=by omega
 have m1:(L:Int).tdiv 4=(q:Int):=by rw[<- hq];rfl
 have m2:(q:Int)*2=(q2:Int):=by omega
 have m3:(a:Int)+(q2:Int)=(S:Int):=by omega
 have m4:(S:Int) - 1=(base:Int):=by omega
 have m5:(S:Int)+1=(A:Int):=by omega
 have w0:Ak.wrap (L:Int)=(L:Int):=by rw[Au];omega
 have wu:Al.wrap (L:Int)=(L:Int):=by rw[A5];omega
 have w1:Ak.wrap (q:Int)=(q:Int):=by rw[Au];omega
 have w2:Ak.wrap (q2:Int)=(q2:Int):=by rw[Au];omega
 have w3:Ak.wrap (S:Int)=(S:Int):=by rw[Au];omega
 have w4:Ak.wrap (base:Int)=(base:Int):=by rw[Au];omega
 have j:Ak.wrap (A:Int)=(A:Int):=by rw[Au];omega
 have g8:(8:Int)<=(L:Int):=by omega
 obtain⟨xb,ah⟩:=Xa w.heap.size
 obtain⟨W,hW⟩:=Xb (w.alloc (.cells #[Ab Al (L:Int)] 297))
 have V:(AL L).toNat=L:=by simp;omega
 have NW:SR W g d/\jW W xb (AL L)/\Iz w W:=by
  have hB:Iz w W:=by rw[hW];exact(Ao _ w).alloc (AA _) _
  refine⟨h.below hB,?_,hB⟩;have:=jW.new w (AL L);rw[V]at this;rw[hW,<- ah];exact this
 have J:Hid (¬xb=g):=by have:=h.lt;show ¬_;omega
 have N0:=I5 T NW.1 NW.2.1 (Aw.refl _ _:Aw (λ k=>k=g∨k=xb) W W) hd
 have U:Hid (∀w9:Ap,Aw (λ k=>k=g∨k=xb) W w9->Aw (λ k=>k=g) w w9):=λ w9 t=>(Aw.ofBelow NW.2.2).trans t (λ k hk q=>q.elim id (λ e=>by omega))
 have SH:base+3=A+1/\a<=base/\A<b/\base+2=A:=by omega
 clear h hd T NW V X hq ag ac Q Y hM;go_enter func125,ntmps125
 go_upto_region 3 with fail
 rw[<- hW];clear hW;go_wp2_with fail;refine(hP _).mono ?_;rintro e w3 ⟨rfl,Z⟩;rw[Z];clear hP Z;go_wp2_with fail;go_loopg[9] 3 (λ k v9 wr=>∃(f t:Nat) (r:UInt64) (G:Array UInt64),v9=Ab Ak (f:Int)/\t+k=3/\base+t=f/\Hid (C5 a L M base (3 - t) t (r,G)=D/\SR wr g G/\jW wr xb r/\Aw (λ k=>k=g∨k=xb) W wr/\G.size=n))
 case atStart=>exact⟨base,0,AL L,d,rfl,rfl,rfl,N0.o⟩
 case round =>
  obtain⟨f,t,r,G,rfl,an,p,l⟩:=hrel;clear N0;have IX:=Ih p;by_cases am:t<3
  ·have z1:(f:Int)<=(A:Int):=by omega
   obtain⟨O,N⟩:∃O:Nat,O=(xorNext r).toNat &&& (M - 1):=⟨_,rfl⟩
   have lO:O<=M - 1:=by rw[N];exact Nat.and_le_right
   obtain⟨M1,ab⟩:=Xa (M - 1)
   have y1:(M:Int) - 1=(M1:Int):=by omega
   have y2:Al.wrap (M1:Int)=(M1:Int):=by rw[A5];omega
   have y3:bits .and Al ((xorNext r).toNat:Int) (M1:Int)=(O:Int):=by
    rw[bits_and_u64_nat _ _ (xorNext r).toNat_lt (by omega),N,ab]
   have y4:Ak.wrap (O:Int)=(O:Int):=by rw[Au];omega
   have K:=ZI l.o.2.2.1
   have z2:(f:Int)<(n:Int):=by omega
   have z3:(0:Int)<=(f:Int):=by omega
   by_cases I:L<=O
   ·have ad:=I
    obtain⟨E,C⟩:=Xa (O - L)
    have ae:E<L:=by omega
    obtain⟨ao,B⟩:=Xa (a+E)
    have F:C5 a L M base (3 - (t+1)) (t+1) (xorNext r,swp G f ao)=D:=by
     rw[<- l.o.1,bp_step a L M base t r G E (by omega) (by rw[<- N,AC I,C]),p,B]
    have g1:(a:Int)+(E:Int)=(ao:Int):=by omega
    have g2:Ak.wrap (ao:Int)=(ao:Int):=by rw[Au];omega
    have g3:(ao:Int)<(n:Int):=by omega
    have g4:(0:Int)<=(ao:Int):=by omega
    have g5:(L:Int)<=(O:Int):=by omega
    have g6:(O:Int) - (L:Int)=(E:Int):=by omega
    have g7:Ak.wrap (E:Int)=(E:Int):=by rw[Au];omega
    have u:=Ih F;clear F;by_cases H:f=ao
    ·subst H;have P:=Ih u.o;clear u B C N p;go_wp2_with fail;refine K.mono ?_;rintro e j ⟨rfl,s⟩
     have i:=I4 (l.o.2.1.turned s.o.2 (λ e=>J.o e.symm):SR j g G) s.o.1 (l.o.2.2.2.1.trans s.o.2 (λ _ _ q=>.inr q):Aw (λ k=>k=g∨k=xb) W j) l.o.2.2.2.2
     clear l s K
     obtain⟨x,z⟩:∃x,G[f]! = x:=⟨_,rfl⟩
     have c0:j.cell? ⟨g,f,none⟩=some (uv x):=by rw[<- z];exact i.o.1.cell (by have:=i.o.2.2.2;omega)
     have f0:=i.o.1.thaw f
     have m:=I2 z z
     clear z;go_wp2_with fail;go_region;go_wp2;go_roundg (gk - 1)
     case measure=>omega
     case rel=>exact⟨f+1,t+1,xorNext r,swp G f f,by go_num,by omega,by have:=IX.o;omega,P.o,i.o.1.drewSwap m.o.1 m.o.2,i.o.2.1.turned (io (Aw.refl (λ k=>k=g) j) _ _ _ _) (λ e=>J.o e),i.o.2.2.1.trans (io (Aw.refl (λ k=>k=g) j) _ _ _ _) (λ _ _ q=>.inl q),by rw[ET];exact i.o.2.2.2⟩
    ·have P:=Ih u.o;clear u B C N p;go_wp2_with fail;refine K.mono ?_;rintro e j ⟨rfl,s⟩
     have i:=I4 (l.o.2.1.turned s.o.2 (λ e=>J.o e.symm):SR j g G) s.o.1 (l.o.2.2.2.1.trans s.o.2 (λ _ _ q=>.inr q):Aw (λ k=>k=g∨k=xb) W j) l.o.2.2.2.2
     clear l s K
     obtain⟨x,z⟩:∃x,G[f]! = x:=⟨_,rfl⟩
     obtain⟨y,R⟩:∃y,G[ao]! = y:=⟨_,rfl⟩
     have c0:j.cell? ⟨g,f,none⟩=some (uv x):=by rw[<- z];exact i.o.1.cell (by have:=i.o.2.2.2;omega)
     have c1:j.cell? ⟨g,ao,none⟩=some (uv y):=by rw[<- R];exact i.o.1.cell (by have:=i.o.2.2.2;omega)
     have f0:=i.o.1.thaw f;have f1:=i.o.1.thaw ao
     have m:=I2 z R
     have nt:=H
     have ai:¬ao=f:=λ e=>nt e.symm
     clear z R;go_wp2_with fail;go_region;go_wp2;go_roundg (gk - 1)
     case measure=>omega
     case rel=>exact⟨f+1,t+1,xorNext r,swp G f ao,by go_num,by omega,by have:=IX.o;omega,P.o,i.o.1.drewSwap m.o.1 m.o.2,i.o.2.1.turned (io (Aw.refl (λ k=>k=g) j) _ _ _ _) (λ e=>J.o e),i.o.2.2.1.trans (io (Aw.refl (λ k=>k=g) j) _ _ _ _) (λ _ _ q=>.inl q),by rw[ET];exact i.o.2.2.2⟩
   ·have ad:=I
    obtain⟨E,C⟩:=Xa O
    have ae:E<L:=by omega
    obtain⟨ao,B⟩:=Xa (a+E)
    have F:C5 a L M base (3 - (t+1)) (t+1) (xorNext r,swp G f ao)=D:=by
     rw[<- l.o.1,bp_step a L M base t r G E (by omega) (by rw[<- N,Ay I,C]),p,B]
    have g1:(a:Int)+(E:Int)=(ao:Int):=by omega
    have g2:Ak.wrap (ao:Int)=(ao:Int):=by rw[Au];omega
    have g3:(ao:Int)<(n:Int):=by omega
    have g4:(0:Int)<=(ao:Int):=by omega
    have g5:¬(L:Int)<=(O:Int):=by omega
    have g6:=C;have u:=Ih F;clear F;subst g6;by_cases H:f=ao
    ·subst H;have P:=Ih u.o;clear u B N p;go_wp2_with fail;refine K.mono ?_;rintro e j ⟨rfl,s⟩
     have i:=I4 (l.o.2.1.turned s.o.2 (λ e=>J.o e.symm):SR j g G) s.o.1 (l.o.2.2.2.1.trans s.o.2 (λ _ _ q=>.inr q):Aw (λ k=>k=g∨k=xb) W j) l.o.2.2.2.2
     clear l s K
     obtain⟨x,z⟩:∃x,G[f]! = x:=⟨_,rfl⟩
     have c0:j.cell? ⟨g,f,none⟩=some (uv x):=by rw[<- z];exact i.o.1.cell (by have:=i.o.2.2.2;omega)
     have f0:=i.o.1.thaw f
     have m:=I2 z z
     clear z;go_wp2_with fail;go_region;go_wp2;go_roundg (gk - 1)
     case measure=>omega
     case rel=>exact⟨f+1,t+1,xorNext r,swp G f f,by go_num,by omega,by have:=IX.o;omega,P.o,i.o.1.drewSwap m.o.1 m.o.2,i.o.2.1.turned (io (Aw.refl (λ k=>k=g) j) _ _ _ _) (λ e=>J.o e),i.o.2.2.1.trans (io (Aw.refl (λ k=>k=g) j) _ _ _ _) (λ _ _ q=>.inl q),by rw[ET];exact i.o.2.2.2⟩
    ·have P:=Ih u.o;clear u B N p;go_wp2_with fail;refine K.mono ?_;rintro e j ⟨rfl,s⟩
     have i:=I4 (l.o.2.1.turned s.o.2 (λ e=>J.o e.symm):SR j g G) s.o.1 (l.o.2.2.2.1.trans s.o.2 (λ _ _ q=>.inr q):Aw (λ k=>k=g∨k=xb) W j) l.o.2.2.2.2
     clear l s K
     obtain⟨x,z⟩:∃x,G[f]! = x:=⟨_,rfl⟩
     obtain⟨y,R⟩:∃y,G[ao]! = y:=⟨_,rfl⟩
     have c0:j.cell? ⟨g,f,none⟩=some (uv x):=by rw[<- z];exact i.o.1.cell (by have:=i.o.2.2.2;omega)
     have c1:j.cell? ⟨g,ao,none⟩=some (uv y):=by rw[<- R];exact i.o.1.cell (by have:=i.o.2.2.2;omega)
     have f0:=i.o.1.thaw f;have f1:=i.o.1.thaw ao
     have m:=I2 z R
     have nt:=H
     have ai:¬ao=f:=λ e=>nt e.symm
     clear z R;go_wp2_with fail;go_region;go_wp2;go_roundg (gk - 1)
     case measure=>omega
     case rel=>exact⟨f+1,t+1,xorNext r,swp G f ao,by go_num,by omega,by have:=IX.o;omega,P.o,i.o.1.drewSwap m.o.1 m.o.2,i.o.2.1.turned (io (Aw.refl (λ k=>k=g) j) _ _ _ _) (λ e=>J.o e),i.o.2.2.1.trans (io (Aw.refl (λ k=>k=g) j) _ _ _ _) (λ _ _ q=>.inl q),by rw[ET];exact i.o.2.2.2⟩
  ·have z1:¬(f:Int)<=(A:Int):=by omega
   have aa:Hid (SR wr g D/\Aw (λ k=>k=g) w wr):=by
    have e3:t=3:=by omega
    have hq:=l.o.1;rw[e3]at hq;have af:=hq;rw[<- af];exact⟨l.o.2.1,U.o _ l.o.2.2.2.1⟩
   clear l;go_wp2;refine CN (v:=Af #[]) (BN rfl _ _ _) rfl ?_;exact⟨rfl,aa⟩
end Go.Proofs.YtakgkgmopmcecaaGreat
namespace Go.Proofs.YtakgkgmopmcecaaGreat
open Go.Sort hiding Below
theorem mT:SWO ltU where
 irrefl x:=by simp[ltU]
 trans x y z h1 h2:=by simp only[ltU,A9,BO]at *;omega
 ntrans x y z h1 h2:=by simp only[ltU,Az,BO]at *;omega
theorem ML{d:Array UInt64}{a b s n:Nat}(c:n<=a)(e:n<=b):n<=(order2 ltU d a b s).1/\n<=(order2 ltU d a b s).2.1:=by
 unfold order2
 split
 exact⟨e,c⟩
 exact⟨c,e⟩
theorem Ku{d:Array UInt64}{a b e0 s n:Nat}(e:n<=a)(f:n<=b)(g:n<=e0):n<=(median ltU d a b e0 s).1:=by
 have c:=ML (d:=d) (s:=s) e f;have h:=ML (d:=d) (s:=(order2 ltU d a b s).2.2) c.2 g;exact(ML (d:=d) (s:=(order2 ltU d (order2 ltU d a b s).2.1 e0 (order2 ltU d a b s).2.2).2.2) c.1 h.1).2
theorem fV{d:Array UInt64}{a b:Nat}(h:12<b - a):a<(choosePivot ltU d a b).1/\(choosePivot ltU d a b).1+1<b:=by
 obtain⟨l,i⟩:=Xa (b - a)
 obtain⟨q,hq⟩:=Xa (l / 4)
 unfold choosePivot;simp only[i,hq]
 have g:l≥8:=by omega
 simp only[g,Ff]
 have m:b - 1<=b:=by omega
 split
 have c:∀s,a+1<=(medianAdjacent ltU d (a+q*1) s).1/\(medianAdjacent ltU d (a+q*1) s).1<b - 1:=λ s=>⟨Ku (by omega) (by omega) (by omega),(Jg (by omega) (by omega) (by omega)).1⟩
 have e:∀s,a+1<=(medianAdjacent ltU d (a+q*2) s).1/\(medianAdjacent ltU d (a+q*2) s).1<b - 1:=λ s=>⟨Ku (by omega) (by omega) (by omega),(Jg (by omega) (by omega) (by omega)).1⟩
 have f:∀s,a+1<=(medianAdjacent ltU d (a+q*3) s).1/\(medianAdjacent ltU d (a+q*3) s).1<b - 1:=λ s=>⟨Ku (by omega) (by omega) (by omega),(Jg (by omega) (by omega) (by omega)).1⟩
 have j:=Ku (d:=d) (s:=(medianAdjacent ltU d (a+q*3) (medianAdjacent ltU d (a+q*2) (medianAdjacent ltU d (a+q*1) 0).2).2).2) (c 0).1 (e (medianAdjacent ltU d (a+q*1) 0).2).1 (f (medianAdjacent ltU d (a+q*2) (medianAdjacent ltU d (a+q*1) 0).2).2).1;have k:=(Jg (d:=d) (s:=(medianAdjacent ltU d (a+q*3) (medianAdjacent ltU d (a+q*2) (medianAdjacent ltU d (a+q*1) 0).2).2).2) (c 0).2 (e (medianAdjacent ltU d (a+q*1) 0).2).2 (f (medianAdjacent ltU d (a+q*2) (medianAdjacent ltU d (a+q*1) 0).2).2).2).1;exact⟨by omega,by omega⟩
 have j:=Ku (d:=d) (a:=a+q*1) (b:=a+q*2) (e0:=a+q*3) (s:=0) (n:=a+1) (by omega) (by omega) (by omega);have k:=(Jg (d:=d) (a:=a+q*1) (b:=a+q*2) (e0:=a+q*3) (s:=0) (n:=b - 1) (by omega) (by omega) (by omega)).1;exact⟨by omega,by omega⟩
structure pQ(E:Array UInt64)(a b lim:Nat)(wb wp:Bool)(d1:Array UInt64)(l1 cp:Nat)(ch:Hint)(d2:Array UInt64)(pv:Nat)(ht:Hint)(p1:Array UInt64)(p2:Bool):Prop where
 wbt:wb=true->E=d1/\lim=l1
 wbf:wb=false->breakPatterns E a b=d1/\lim - 1=l1
 piv:choosePivot ltU d1 a b=(cp,ch)
 dec:ch=.decreasing->reverseRange d1 a b=d2/\(b - 1) - (cp - a)=pv/\ht=.increasing
 inc:ch≠.decreasing->d1=d2/\cp=pv/\ht=ch
 yes:(wb&&wp&&decide (ht=.increasing))=true->partialInsertionSort ltU d2 a b=(p1,p2)
 no:(wb&&wp&&decide (ht=.increasing))=false->d2=p1/\p2=false
 s1:d1.size=E.size
 s2:d2.size=E.size
 s3:p1.size=E.size
 cpr:a<cp/\cp+1<b
 pvr:a<pv/\pv<b
 llim:l1<=lim
 done:p2=true->pdq ltU E a b lim wb wp=p1
 eql:p2=false->(decide (a>0)&&!ltU p1[a - 1]! p1[pv]!)=true->∀mid d4,partitionEqual ltU p1 a b pv=(mid,d4)->a<mid/\mid<=b/\d4.size=E.size/\C9 ltU mid b d4/\pdq ltU E a b lim wb wp=pdq ltU d4 mid b l1 wb wp
 prt:p2=false->(decide (a>0)&&!ltU p1[a - 1]! p1[pv]!)=false->∀mid ap d4,partition ltU p1 a b pv=(mid,ap,d4)->a<=mid/\mid<b/\d4.size=E.size/\C9 ltU a mid d4/\C9 ltU (mid+1) b d4 /\
  (mid - a<b - mid->(pdq ltU d4 a mid l1 true true).size=E.size/\C9 ltU (mid+1) b (pdq ltU d4 a mid l1 true true)/\pdq ltU E a b lim wb wp=pdq ltU (pdq ltU d4 a mid l1 true true) (mid+1) b l1 (decide (mid - a≥(b - a) / 8)) ap) /\
  (¬mid - a<b - mid->(pdq ltU d4 (mid+1) b l1 true true).size=E.size/\C9 ltU a mid (pdq ltU d4 (mid+1) b l1 true true)/\pdq ltU E a b lim wb wp=pdq ltU (pdq ltU d4 (mid+1) b l1 true true) a mid l1 (decide (b - mid≥(b - a) / 8)) ap)
theorem pS(E:Array UInt64)(a b d:Nat)(wb wp:Bool)(i:¬b - a<=12)(r:¬d=0)(v:b<=E.size)(F:C9 ltU a b E):∃C I B A D L H J K,pQ E a b d wb wp C I B A D L H J K:=by
 obtain⟨s1,O,G,s2,P,f,s3,x⟩:=rd_facts (limit:=d) (wb:=wb) (wp:=wp) mT partialInsertionSort_holds reverseRange_holds (show a<b by omega) v F
 have n:a<(rd ltU E a b d wb wp).c.1/\(rd ltU E a b d wb wp).c.1+1<b:=by
  rw[rd_c];exact fV (by omega)
 refine⟨(rd ltU E a b d wb wp).d1,(rd ltU E a b d wb wp).lim,(rd ltU E a b d wb wp).c.1,(rd ltU E a b d wb wp).c.2,(rd ltU E a b d wb wp).d2,(rd ltU E a b d wb wp).pivot,(rd ltU E a b d wb wp).hint,(rd ltU E a b d wb wp).pi.1,(rd ltU E a b d wb wp).pi.2,?_⟩
 have o:a<(rd ltU E a b d wb wp).pivot/\(rd ltU E a b d wb wp).pivot<b:=by
  refine⟨?_,f.2⟩;by_cases y:(rd ltU E a b d wb wp).c.2=.decreasing;rw[(rd_dec y).2.1];omega;rw[(rd_not y).2.1];exact n.1
 exact {
  wbt:=λ e=>by subst e;exact⟨rfl,rfl⟩
  wbf:=λ e=>by subst e;exact⟨rfl,rfl⟩
  piv:=rfl
  dec:=λ e=>⟨(rd_dec e).1.symm,(rd_dec e).2.1.symm,(rd_dec e).2.2⟩
  inc:=λ e=>⟨(rd_not e).1.symm,(rd_not e).2.1.symm,(rd_not e).2.2⟩
  yes:=λ e=>(rd_pi_yes e).symm
  no:=λ e=>by rw[rd_pi_no e];exact⟨rfl,rfl⟩
  s1:=s1,s2:=s2,s3:=s3,cpr:=n,pvr:=o,llim:=rd_lim_le
  done:=λ e=>pdq_done i r e
  eql:=λ e g j t h=>by
   have u:=g;simp only[Bn,A9,Bool.not_eq_true']at u;obtain⟨l,m,k,s,_⟩:=round_eq mT (partitionEqual_holds ltU) u.1 f.1 f.2 (by rw[s3];exact v) x u.2 h;exact⟨l,m,k.trans s3,s,by rw[pdq_eq i r e g (by rw[h];exact⟨l,m⟩),h]⟩
  prt:=λ e g j Q t h=>by
   obtain⟨l,m,k,s,z,M,N⟩:=round_part mT (partition_holds ltU) f.1 f.2 (by rw[s3];exact v) x h;refine⟨l,m,k.trans s3,s,z,λ q=>?_,λ q=>?_⟩;obtain⟨p,w⟩:=pdq_sorts ltU mT t a j (rd ltU E a b d wb wp).lim true true (by omega) (by rw[k,s3];omega) s;exact⟨by rw[p.1,k,s3],(M _ p w).1,by rw[pdq_left i r e g (by rw[h];exact⟨l,m⟩) (by rw[h];exact q),h]⟩;obtain⟨p,w⟩:=pdq_sorts ltU mT t (j+1) b (rd ltU E a b d wb wp).lim true true (by omega) (by rw[k,s3];omega) z
   exact⟨by rw[p.1,k,s3],(N _ p w).1,by rw[pdq_right i r e g (by rw[h];exact⟨l,m⟩) (by rw[h];exact q),h]⟩ }
end Go.Proofs.YtakgkgmopmcecaaGreat
namespace Go.Proofs.YtakgkgmopmcecaaGreat
open Go.RowKit
open Go.Sort hiding Below
theorem gh:∀(N:Nat) (w:Ap) (g n c a b R:Nat) (d:Array UInt64),b - a<N->SR w g d->d.size=n->a<=b->b<=n->n<=1000000000000->R<=1000->C9 ltU a b d->∀D,pdq ltU d a b R true true=D ->
  At Am 81 #[Aa (some ⟨g,0,none⟩) n c,Ab Ak (a:Int),Ab Ak (b:Int),Ab Ak (R:Int)] w λ e w'=>e=Aj (Af #[])/\Hid (SR w' g D/\Aw (λ k=>k=g) w w'):=by
 intro N
 induction N with
 | zero=>intro _ _ _ _ _ _ _ _ h;exact absurd h (Nat.not_lt_zero _)
 | succ N ih =>
  intro w g n c a b R d hN aq aA aC hb hn ay ad D hD
  have H0:=I5 aA ad aq (Aw.refl _ _:Aw (λ k=>k=g) w w) hD
  clear aq aA ad hD;go_enter func81,ntmps81;go_wp2_with fail;go_loopg[1,2,3,8,9] (b - a) (λ k s1 s2 s3 s8 s9 wr=>∃(j l X:Nat) (wb wp:Bool),s1=Ab Ak (j:Int)/\s2=Ab Ak (l:Int)/\s3=Ab Ak (X:Int)/\s8=Ad wb/\s9=Ad wp/\j<=l/\l<=n/\l - j<=k/\k<=b - a/\X<=1000/\Hid (∃E:Array UInt64,E.size=n/\C9 ltU j l E/\SR wr g E/\Aw (λ k=>k=g) w wr/\pdq ltU E j l X wb wp=D))
  case atStart=>exact⟨a,b,R,true,true,rfl,rfl,rfl,rfl,rfl,aC,hb,AA _,AA _,ay,d,H0.o⟩
  case round =>
   obtain⟨j,l,X,wb,wp,rfl,rfl,rfl,rfl,rfl,av,aw,hk,aS,aT,HX⟩:=hrel;obtain⟨E,J,K,e3,e4,e5⟩:=HX.o;clear H0
   obtain⟨ll,aU⟩:=Xa (l - j)
   have n1:(l:Int) - (j:Int)=(ll:Int):=by omega
   have a1:Ak.wrap (ll:Int)=(ll:Int):=by rw[Au];omega
   by_cases aQ:ll<=12
   ·have aO:(ll:Int)<=12:=by omega
    have p:=Zr (c:=c) (a:=j) (b:=l) e3 J av aw (by omega);rw[<- pdq_small (limit:=X) (wb:=wb) (wp:=wp) (show l - j<=12 by omega),e5]at p;have H1:=Ih e4;clear J K e3 e4 e5 HX;go_wp2_with fail;refine p.mono ?_;rintro e w1 ⟨rfl,s⟩;clear p;go_wp2
    (try simp only[FN,Exit.then])
    refine As (v:=Af #[]) (BN rfl _ _ _) rfl ?_;exact⟨rfl,s.o.1,H1.o.trans s.o.2 (λ _ _ q=>q)⟩
   ·have aO:¬(ll:Int)<=12:=by omega
    by_cases ak:X=0
    ·have p:=fE (c:=c) (a:=j) (b:=l) e3 J (by omega) aw hn;rw[<- pdq_heap (limit:=X) (wb:=wb) (wp:=wp) (show ¬l - j<=12 by omega) ak,e5]at p;have H1:=Ih e4;clear J K e3 e4 e5 HX;subst ak;go_wp2_with fail;refine p.mono ?_;rintro e w1 ⟨rfl,s⟩;clear p;go_wp2
     (try simp only[FN,Exit.then])
     refine As (v:=Af #[]) (BN rfl _ _ _) rfl ?_;exact⟨rfl,s.o.1,H1.o.trans s.o.2 (λ _ _ q=>q)⟩
    ·have a4:¬(X:Int)=0:=by omega
     obtain⟨d1,O,cp,ch,d2,P,ht,L,p2,H⟩:=pS E j l X wb wp (by omega) ak (by omega) K;have G:=nZ H
     have ae:d1.size=n:=by rw[H.s1];exact J
     have aB:d2.size=n:=by rw[H.s2];exact J
     have af:L.size=n:=by rw[H.s3];exact J
     have aR:=H.cpr;have ac:=H.pvr;have aP:=H.llim;have HE:=Ih e5;have HS:=Ih J
     have H1:=I2 e3 e4
     clear H J K e3 e4 e5 HX
     go_upto_if 35 with fail
     go_cut[3]from 19 to 133 (λ s3 u=>∃v,v=u/\s3=Ab Ak (O:Int)/\Hid (SR v g d1/\Aw (λ k=>k=g) w v))
     case first =>
      cases wb with
      | false =>
       have Q:=G.o.wbf rfl;have p:=WH (c:=c) (a:=j) (b:=l) H1.o.1 HS.o (by omega) (by omega) hn;rw[Q.1]at p;have aF:=Q.2
       have r1:(X:Int) - 1=(O:Int):=by omega
       have aK:Ak.wrap (O:Int)=(O:Int):=by rw[Au];omega
       clear Q G aF;go_wp2_with fail;refine p.mono ?_;rintro e w1 ⟨rfl,s⟩;clear p;go_wp2_with fail;go_meet;exact⟨_,rfl,rfl,s.o.1,H1.o.2.trans s.o.2 (λ _ _ q=>q)⟩
      | true =>
       have Q:=nZ (G.o.wbt rfl);clear G;go_wp2_with fail;go_meet;exact⟨_,rfl,by rw[Q.o.2],by rw[<- Q.o.1];exact H1.o.1,H1.o.2⟩
     case rest =>
      obtain⟨v,rfl,rfl,H2⟩:=hcut;have p:=XF (c:=c) H2.o.1 ae (by omega) (by omega) hn (cp,ch) G.o.piv;simp only at p
      obtain⟨hv,aj⟩:=Xa (lI ch)
      obtain⟨hz,ax⟩:=Xa (lI ht)
      rw[aj]at p;have HV:=Ih aj;have HZ:=Ih ax;clear aj ax;go_wp2_with fail;refine p.mono ?_;rintro e w2 ⟨rfl,ah⟩
      have H3:=I2 (H2.o.1.below ah.o) (H2.o.2.trans (Aw.ofBelow (S:=λ _=>False) ah.o) (λ _ _ q=>q.elim):Aw (λ k=>k=g) w w2)
      clear p ah
      go_upto_if 50 with fail
      go_cut[11,12]from 19 to 133 (λ aL aM u=>∃v,v=u/\aL=Ab Ak (P:Int)/\aM=Ab Ak hz/\Hid (SR v g d2/\Aw (λ k=>k=g) w v))
      case first =>
       by_cases hh:ch=.decreasing
       ·have C:=G.o.dec hh
        have J:hv=2:=by rw[<- HV.o,hh];rfl
        have K:Hid (hz=1):=by show _=_;rw[<- HZ.o,C.2.2];rfl
        have ai:=dz (c:=c) (a:=j) (b:=l) H3.o.1 ae (by omega) (by omega) (by omega);rw[C.1]at ai
        obtain⟨bb,aD⟩:=Xa (l - 1)
        obtain⟨mm,aH⟩:=Xa (cp - j)
        have aI:=C.2.1
        have r1:(l:Int) - 1=(bb:Int):=by omega
        have aK:Ak.wrap (bb:Int)=(bb:Int):=by rw[Au];omega
        have r2:(cp:Int) - (j:Int)=(mm:Int):=by omega
        have a2:Ak.wrap (mm:Int)=(mm:Int):=by rw[Au];omega
        have r3:(bb:Int) - (mm:Int)=(P:Int):=by omega
        have a3:Ak.wrap (P:Int)=(P:Int):=by rw[Au];omega
        clear C HV hh G aD aH aI;subst J;go_wp2_with fail;refine ai.mono ?_;rintro e w3 ⟨rfl,ao⟩;clear ai;go_wp2_with fail;go_meet;exact⟨_,rfl,rfl,by rw[K.o],ao.o.1,H3.o.2.trans ao.o.2 (λ _ _ q=>q)⟩
       ·have C:=G.o.inc hh
        have J:¬hv=2:=λ e=>hh (by have:=HV.o;rw[e]at this;cases ch <;> simp[lI]at this ⊢)
        have K:=I3 (by rw[<- HV.o,<- HZ.o,C.2.2]:hv=hz) C.1 C.2.1
        clear C HV hh G;go_wp2_with fail;go_meet;exact⟨_,rfl,by rw[K.o.2.2],by rw[K.o.1],by rw[<- K.o.2.1];exact H3.o.1,H3.o.2⟩
      case rest =>
       obtain⟨v,rfl,rfl,rfl,H4⟩:=hcut;clear H3 H2
       go_upto_region 15 with fail
       go_cut[68]from 19 to 133 (λ aN u=>∃v f,v=u/\aN=Ad f/\Hid ((wb&&wp&&decide (ht=.increasing))=f/\SR v g d2/\Aw (λ k=>k=g) w v))
       case first =>
        by_cases h1:ht=.increasing
        ·have J:hz=1:=by rw[<- HZ.o,h1];rfl
         have K:decide (ht=.increasing)=true:=by simpa using h1
         have KE:Hid ((wb&&wp&&decide (ht=.increasing))=(wb&&wp)):=by show _=_;rw[K,Bool.and_true]
         clear h1 K G HZ;subst J
         cases wb <;> cases wp <;>
          (go_wp2_with fail
           go_meet
           exact⟨_,_,rfl,rfl,KE.o,H4.o⟩)
        ·have J:¬hz=1:=λ e=>h1 (by have:=HZ.o;rw[e]at this;cases ht <;> simp[lI]at this ⊢)
         have K:decide (ht=.increasing)=false:=by simpa using h1
         have KE:Hid ((wb&&wp&&decide (ht=.increasing))=false):=by show _=_;rw[K,Bool.and_false]
         clear h1 K G HZ
         cases wb <;> cases wp <;>
          (go_wp2_with fail
           go_meet
           exact⟨_,_,rfl,rfl,(by first | exact KE.o | (rw[KE.o];exact(A3.2 J).symm)),H4.o⟩)
       case rest =>
        obtain⟨v,f,rfl,rfl,H5⟩:=hcut;clear H4
        go_upto_if 68 with fail
        go_cut[]from 19 to 133 (λ u=>∃v,v=u/\Hid (p2=false/\SR v g L/\Aw (λ k=>k=g) w v))
        case first =>
         cases f with
         | false =>
          have al:=G.o.no H5.o.1
          have r:=I2 al.2 al.1
          clear al;go_wp2_with fail;go_meet;exact⟨_,rfl,r.o.1,by rw[<- r.o.2];exact H5.o.2.1,H5.o.2.2⟩
         | true =>
          have p:=YJ (c:=c) H5.o.2.1 aB (by omega) (by omega) hn (L,p2) (G.o.yes H5.o.1);simp only at p
          have DN:Hid (p2=true->D=L):=λ e=>by rw[<- HE.o];exact G.o.done e
          clear G
          cases p2 with
          | true =>
           go_wp2_with fail;refine p.mono ?_;rintro e w6 ⟨rfl,H6⟩;clear p;go_wp2
           (try simp only[FN,Exit.then])
           refine As (v:=Af #[]) (BN rfl _ _ _) rfl ?_;rw[DN.o (by first | rfl | trivial)];exact⟨rfl,H6.o.1,H5.o.2.2.trans H6.o.2 (λ _ _ q=>q)⟩
          | false =>
           go_wp2_with fail;refine p.mono ?_;rintro e w6 ⟨rfl,H6⟩;clear p;go_wp2_with fail;go_meet;exact⟨_,rfl,(by first|rfl|trivial),H6.o.1,H5.o.2.2.trans H6.o.2 (λ _ _ q=>q)⟩
        case rest =>
         obtain⟨v,rfl,Z⟩:=hcut;clear H5;have P2:=Ih Z.o.1
         obtain⟨Y,aJ⟩:=Xb v
         subst aJ
         go_upto_region 17 with fail
         go_cut[87]from 19 to 133 (λ tv u=>∃v f,v=u/\tv=Ad f/\Hid ((decide (j>0)&&!ltU L[j - 1]! L[P]!)=f/\SR v g L/\Aw (λ k=>k=g) w v))
         case first =>
          by_cases ar:0<j
          ·obtain⟨aa,au⟩:=Xa (j - 1)
           obtain⟨x,W⟩:∃x,L[aa]! = x:=⟨_,rfl⟩
           obtain⟨y,hy⟩:∃y,L[P]! = y:=⟨_,rfl⟩
           obtain⟨f0,hf⟩:=Xa (ltU x y)
           have q0:∀u:SW (gN Y),u.w.cell? ⟨g,aa,none⟩=some (uv x):=λ u=>by rw[<- W];exact(Z.o.2.1.below u.ok).cell (by omega)
           have q1:∀u:SW (gN Y),u.w.cell? ⟨g,P,none⟩=some (uv y):=λ u=>by rw[<- hy];exact(Z.o.2.1.below u.ok).cell (by omega)
           have hL:=λ u=>FV (wr:=Y) x y f0 hf u
           have NE:Nonempty (SW (gN Y)):=⟨⟨Y,Ao _ Y⟩⟩
           have j1:(0:Int)<(j:Int):=by omega
           have j2:decide ((0:Int)<(j:Int))=true:=by simpa using j1
           have j3:decide (0<j)=true:=by simpa using ar
           have j4:(aa:Int)<(n:Int):=by omega
           have j5:(P:Int)<(n:Int):=by omega
           have j6:(0:Int)<=(aa:Int):=by omega
           have j7:(0:Int)<=(P:Int):=by omega
           have j8:(j:Int) - 1=(aa:Int):=by omega
           have j9:Ak.wrap (aa:Int)=(aa:Int):=by rw[Au];omega
           have KE:Hid ((decide (j>0)&&!ltU L[j - 1]! L[P]!)=(!f0)):=by
            show _=_;have an:=j3;rw[au,W,hy,hf,an,Ci]
           clear W hy hf au
           cases f0 with
           | true =>
            refine Bb (S:=gN Y) (by kernel_rfl) (by kernel_rfl) (Ao _ Y).drew ?_
            repeat(go_big_quiet_step (with_reducible exact hL _))
            refine AS ?_;intro _ am;obtain⟨u,V⟩:=am;subst V;go_wp2_with fail;go_meet;exact⟨_,_,rfl,rfl,KE.o,Z.o.2.1.below u.ok,Z.o.2.2.trans (Aw.ofBelow u.ok) (λ _ _ q=>q)⟩
           | false =>
            refine Bb (S:=gN Y) (by kernel_rfl) (by kernel_rfl) (Ao _ Y).drew ?_
            repeat(go_big_quiet_step (with_reducible exact hL _))
            refine AS ?_;intro _ am;obtain⟨u,V⟩:=am;subst V;go_wp2_with fail;go_meet;exact⟨_,_,rfl,rfl,KE.o,Z.o.2.1.below u.ok,Z.o.2.2.trans (Aw.ofBelow u.ok) (λ _ _ q=>q)⟩
          ·have j1:¬(0:Int)<(j:Int):=by omega
           have j2:decide ((0:Int)<(j:Int))=false:=by simpa using j1
           have j3:decide (0<j)=false:=by simpa using ar
           have KE:Hid ((decide (j>0)&&!ltU L[j - 1]! L[P]!)=false):=by
            show _=_;have an:=j3;rw[an,Bool.false_and]
           go_quiet (fail);go_wp2_with fail;go_meet;have hq:=jq Y nq;exact⟨_,false,rfl,rfl,KE.o,Z.o.2.1.below hq,Z.o.2.2.trans (Aw.ofBelow (S:=λ _=>False) hq) (λ _ _ q=>q.elim)⟩
         case rest =>
          obtain⟨v,f,rfl,rfl,H9⟩:=hcut;clear Z
          cases f with
          | true =>
           obtain⟨i,B,W⟩:∃i B,partitionEqual ltU L j l P=(i,B):=⟨_,_,rfl⟩
           have m:=G.o.eql P2.o H9.o.1 i B W;have p:=VB (c:=c) H9.o.2.1 af ac.1 ac.2 (by omega) hn (i,B) W;simp only at p
           have r:=I3 (by rw[m.2.2.1];exact HS.o:B.size=n) m.2.2.2.1 (by rw[<- HE.o];exact m.2.2.2.2.symm:pdq ltU B i l O wb wp=D)
           have aG:j<i/\i<=l:=⟨m.1,m.2.1⟩
           clear m W;go_wp2_with fail;refine p.mono ?_;rintro e w7 ⟨rfl,F⟩;clear p;go_wp2;go_roundg (l - i)
           case measure=>omega
           case rel=>exact⟨i,l,O,wb,wp,rfl,rfl,rfl,rfl,rfl,by omega,by omega,by omega,by omega,by omega,B,r.o.1,r.o.2.1,F.o.1,H9.o.2.2.trans F.o.2 (λ _ _ q=>q),r.o.2.2⟩
          | false =>
           obtain⟨i,ap,B,W⟩:∃i ap B,partition ltU L j l P=(i,ap,B):=⟨_,_,_,rfl⟩
           have m:=G.o.prt P2.o H9.o.1 i ap B W;have p:=dF (c:=c) H9.o.2.1 af ac.1 ac.2 (by omega) hn (i,ap,B) W;simp only at p;clear W
           have aG:j<=i/\i<l:=⟨m.1,m.2.1⟩
           have mn:B.size=n:=by rw[m.2.2.1];exact HS.o
           obtain⟨lm,aV⟩:=Xa (i - j)
           obtain⟨rm,aW⟩:=Xa (l - i)
           obtain⟨e8,aE⟩:=Xa (ll / 8)
           obtain⟨m1,ab⟩:=Xa (i+1)
           have k1:(i:Int) - (j:Int)=(lm:Int):=by omega
           have aX:Ak.wrap (lm:Int)=(lm:Int):=by rw[Au];omega
           have k2:(l:Int) - (i:Int)=(rm:Int):=by omega
           have aY:Ak.wrap (rm:Int)=(rm:Int):=by rw[Au];omega
           have k4:(i:Int)+1=(m1:Int):=by omega
           have a0:Ak.wrap (m1:Int)=(m1:Int):=by rw[Au];omega
           have k3:(ll:Int).tdiv 8=(e8:Int):=by rw[<- aE];rfl
           have aZ:Ak.wrap (e8:Int)=(e8:Int):=by rw[Au];omega
           by_cases az:i - j<l - i
           ·have A:=m.2.2.2.2.2.1 az
            obtain⟨T,M⟩:=Xa (pdq ltU B j i O true true)
            rw[M]at A
            have U:=λ(u:Ap) (hu:SR u g B)=>ih u g n c j i O B (by omega) hu (by omega) m.1 (by omega) hn (by omega) m.2.2.2.1 T M
            have r:=I3 (by rw[A.1];exact HS.o:T.size=n) (by rw[<- ab];exact A.2.1:C9 ltU m1 l T) (by rw[<- HE.o,<- ab];exact A.2.2.symm:pdq ltU T m1 l O (decide (i - j≥(l - j) / 8)) ap=D)
            have c5:(lm:Int)<(rm:Int):=by omega
            obtain⟨t,z⟩:=Xa (decide ((e8:Int)<=(lm:Int)))
            have BE:Hid (decide (e8<=lm)=t):=by
             show _=t;rw[<- z];exact Ed.2 ⟨λ h=>by omega,λ h=>by omega⟩
            have ag:Hid (decide (i - j≥(l - j) / 8)=t):=by
             show _=t;rw[<- z];exact Ed.2 ⟨λ h=>by omega,λ h=>by omega⟩
            clear m A M z;go_wp2_with fail;refine p.mono ?_;rintro e w7 ⟨rfl,F⟩;have I:=U w7 F.o.1;clear p U;go_wp2_with fail;refine I.mono ?_;rintro e w8 ⟨rfl,s⟩;clear I;go_wp2;go_roundg (l - m1)
            case measure=>omega
            case rel=>exact⟨m1,l,O,t,ap,by go_num,rfl,rfl,(by first | rfl | exact A7 Ad BE.o),rfl,by omega,by omega,by omega,by omega,by omega,T,r.o.1,r.o.2.1,s.o.1,(H9.o.2.2.trans F.o.2 (λ _ _ q=>q)).trans s.o.2 (λ _ _ q=>q),by rw[<- ag.o];exact r.o.2.2⟩
           ·have A:=m.2.2.2.2.2.2 az
            obtain⟨T,M⟩:=Xa (pdq ltU B m1 l O true true)
            rw[ab,M]at A
            have U:=λ(u:Ap) (hu:SR u g B)=>ih u g n c m1 l O B (by omega) hu (by omega) (by omega) (by omega) hn (by omega) (by rw[<- ab];exact m.2.2.2.2.1) T M
            have r:=I3 (by rw[A.1];exact HS.o:T.size=n) A.2.1 (by rw[<- HE.o];exact A.2.2.symm:pdq ltU T j i O (decide (l - i≥(l - j) / 8)) ap=D)
            have c5:¬(lm:Int)<(rm:Int):=by omega
            obtain⟨t,z⟩:=Xa (decide ((e8:Int)<=(rm:Int)))
            have BE:Hid (decide (e8<=rm)=t):=by
             show _=t;rw[<- z];exact Ed.2 ⟨λ h=>by omega,λ h=>by omega⟩
            have ag:Hid (decide (l - i≥(l - j) / 8)=t):=by
             show _=t;rw[<- z];exact Ed.2 ⟨λ h=>by omega,λ h=>by omega⟩
            clear m A M z;go_wp2_with fail;refine p.mono ?_;rintro e w7 ⟨rfl,F⟩;have I:=U w7 F.o.1;clear p U;go_wp2_with fail;refine I.mono ?_;rintro e w8 ⟨rfl,s⟩;clear I;go_wp2;go_roundg (i - j)
            case measure=>omega
            case rel=>exact⟨j,i,O,t,ap,rfl,rfl,rfl,(by first | rfl | exact A7 Ad BE.o),rfl,by omega,by omega,by omega,by omega,by omega,T,r.o.1,r.o.2.1,s.o.1,(H9.o.2.2.trans F.o.2 (λ _ _ q=>q)).trans s.o.2 (λ _ _ q=>q),by rw[<- ag.o];exact r.o.2.2⟩
def gY(xs:List UInt64):List UInt64:=xs.mergeSort λ x y=>decide (x<=y)
theorem oP(d:Array UInt64):(sort ltU d).toList=gY d.toList:=by
 obtain⟨f,b⟩:=sort_sorts ltU mT d
 have h:=sorted_unique_holds mT (λ x y c e=>by
  simp only[ltU,Az,BO]at c e
  exact BG.1 (by omega)) d _ f b
 rw[h];unfold gY
 congr 1
 funext x y
 show(!decide (y<x))=decide (x<=y);by_cases h:x<=y
 have a:¬y<x:=by rw[BP]at h;rw[BO];omega
 simp[h,a]
 have a:y<x:=by rw[BP]at h;rw[BO];omega
 simp[h,a]
theorem gj(d:Array UInt64):(sort ltU d).size=d.size:=(sort_sorts ltU mT d).1.1
theorem eE{w:Ap}{g n c:Nat}{d:Array UInt64}(h:SR w g d)(hd:d.size=n)(o:n<=1000000000000):
  At Am 37 #[Aa (some ⟨g,0,none⟩) n c] w λ e w'=>e=Aj (Af #[])/\Hid (SR w' g (sort ltU d)/\Aw (λ k=>k=g) w w'):=by
 obtain⟨L,b⟩:=Xa (bitsLen n)
 have m:L<=62:=by rw[<- b];exact(bitsLen_le_iff n 62).2 (by omega)
 have f:=λ w=>Sg n (by omega) w
 rw[b]at f
 have j:pdq ltU d 0 n L true true=sort ltU d:=by rw[<- b,<- hd];rfl
 have i:=gh (n+1) w g n c 0 n L d (by omega) h hd (by omega) (AA _) o (by omega) (Or.inl rfl) _ j
 have w1:Al.wrap (n:Int)=(n:Int):=by rw[A5];omega
 rw[show((0:Nat):Int)=0 from rfl]at i;clear h hd b j;go_enter func37,ntmps37;go_wp2_with fail;refine(f _).mono ?_;rintro e p ⟨rfl,a⟩;rw[a];clear f a;go_wp2_with fail;refine i.mono ?_;rintro e q ⟨rfl,l⟩;clear i;go_wp2;refine CN (v:=Af #[]) (BN rfl _ _ _) rfl ?_;exact⟨rfl,l⟩
theorem gH(w:Ap):At Am 123 #[Aa none 0 0,Ab Ak 0,Ab Ak 0] w λ e w'=>e=Aj (Af #[])/\w'=w:=by
 go_enter func123,ntmps123;go_wp2_with fail;go_loopg[6] 0 (λ _ v wr=>v=Ab Ak 1/\wr=w)
 case atStart=>exact⟨rfl,rfl⟩
 case round =>
  obtain⟨rfl,rfl⟩:=hrel;go_wp2;refine CN (v:=Af #[]) (BN rfl _ _ _) rfl ?_;exact⟨rfl,rfl⟩
theorem X7(w:Ap):At Am 81 #[Aa none 0 0,Ab Ak 0,Ab Ak 0,Ab Ak 0] w λ e w'=>e=Aj (Af #[])/\w'=w:=by
 have b:=gH w;go_enter func81,ntmps81;go_wp2_with fail;go_loopg[1,2,3,8,9] 0 (λ _ s1 s2 s3 c d wr=>s1=Ab Ak 0/\s2=Ab Ak 0/\s3=Ab Ak 0/\c=Ad true/\d=Ad true/\wr=w)
 case atStart=>exact⟨rfl,rfl,rfl,rfl,rfl,rfl⟩
 case round =>
  obtain⟨rfl,rfl,rfl,rfl,rfl,a⟩:=hrel;subst a;go_wp2_with fail;refine b.mono ?_;rintro e w1 ⟨rfl,rfl⟩;go_wp2
  (try simp only[FN,Exit.then])
  refine As (v:=Af #[]) (BN rfl _ _ _) rfl ?_;exact⟨rfl,rfl⟩
theorem X8(w:Ap):At Am 37 #[Aa none 0 0] w λ e w'=>e=Aj (Af #[])/\w'=w:=by
 have c:=Sg 0 (by omega) w;have d:=X7 w;rw[show bitsLen 0=0 from rfl]at c;rw[show((0:Nat):Int)=0 from rfl]at c;go_enter func37,ntmps37;go_wp2_with fail;refine c.mono ?_;rintro e f ⟨rfl,a⟩;rw[a];clear c a;go_wp2_with fail;refine d.mono ?_;rintro e g ⟨rfl,b⟩;rw[b];clear d b;go_wp2;refine CN (v:=Af #[]) (BN rfl _ _ _) rfl ?_;exact⟨rfl,rfl⟩
end Go.Proofs.YtakgkgmopmcecaaGreat
namespace Go.Proofs.YtakgkgmopmcecaaGreat
open Go.RowKit
open Go.Maps
theorem gD{l e:List UInt64}(h:l.Perm e):gY l=gY e:=by
 have i:∀a b c:UInt64,decide (a<=b)=true->decide (b<=c)=true->decide (a<=c)=true:=λ a b c f g=>by
  simp only[A9,BP]at *;omega
 have d:∀a b:UInt64,(decide (a<=b)||decide (b<=a))=true:=λ a b=>by
  simp only[Bool.or_eq_true,A9,BP];omega
 refine List.Perm.eq_of_pairwise (le:=λ a b=>decide (a<=b)=true) (λ a b _ _ f g=>?_) (Fa i d l) (Fa i d e) (((DG l _).trans h).trans (DG e _).symm);simp only[A9,BP]at f g;exact BG.1 (by omega)
theorem IA{l:List UInt64}{x:UInt64}:x∈gY l↔x∈l:=(DG l _).mem_iff
theorem Lg(l:List UInt64):(gY l).length=l.length:=(DG l _).length_eq
theorem T1{w:Ap}{base:Nat}{v:Value}{xs:List UInt64}(h:gM gR 63 w base v xs)(A:xs.length<=1000000000000):
  At Am 37 #[v] w λ e w'=>e=Aj (Af #[])/\Hid (∃a c,v=Aa a xs.length c/\xs.length<=c/\gQ gR w' a (gY xs)/\Aw (λ k=>v.ownBlock=some k) w w'):=by
 rcases h.2 with⟨rfl,m⟩ | ⟨g,cap,s,rfl,D,E,t,F,G,H⟩
 have e0:=AQ m;subst e0;refine(X8 w).mono ?_;rintro e w' ⟨rfl,rfl⟩;exact⟨rfl,none,0,rfl,AA _,by simpa[gY]using gQ.nil gR w' none,Aw.refl _ _⟩
 have B:=h.sr;refine(eE B.1 (n:=xs.length) (c:=cap) (by simp) A).mono ?_;rintro e w' ⟨rfl,J⟩;refine⟨rfl,some ⟨g,0,none⟩,cap,rfl,t,?_,J.o.2.mono (λ k _ q=>by have C:=q;rw[C];rfl)⟩;intro m;refine⟨g,0,rfl,J.o.1.lt,λ i x f j u d=>?_⟩
 have hi:i<(gY xs).length:=by
  rcases Nat.lt_or_ge i (gY xs).length with q|q
  exact q;rw[AM q]at f;cases f
 have b:i<(Gr ltU xs.toArray).size:=by
  rw[gj];rw[Lg]at hi;simpa using hi
 have r:=J.o.1.cell b
 have y:j=0:=by
  rcases Cc j with q|q
  exact q;rw[AM (by show 1<=j;omega)]at d;cases d
 subst y;cases d;have z:=oP xs.toArray
 have l:(Gr ltU xs.toArray)[i]! = x:=by
  rw[EJ _ i b]
  have p:(Gr ltU xs.toArray).toList[i]? = some x:=by rw[z];exact f
  rw[Array.getElem?_toList,Array.getElem?_eq_getElem b]at p;exact Option.some.inj p
 rw[l]at r;simpa[gR]using r
end Go.Proofs.YtakgkgmopmcecaaGreat
namespace Go.Proofs.YtakgkgmopmcecaaGreat
open Go.RowKit
theorem fU(w:Ap):gM gR 63 (w.alloc (.cells #[] 63)) w.heap.size (Aa (some ⟨w.heap.size,0,none⟩) 0 0) [] :=
 World.ownsRow_made w #[] 0 (AA _) (Nat.zero_le _) rfl
theorem Wa{n c:Nat}(w:Ap):
  At Am 36 #[Aa none n c] w λ e w'=>e=Aj (Aa none 0 0)/\w'=w:=by
 have q:∀(w:Ap) (a:Option Addr) (n c b c':Nat),(binOp .eql 35 (Aa a n c) (Aa none b c')).run Am w=.ok (Ad a.isNone) w:=λ w a n c b c'=>Lib.run_eql_slice_nil w _ _ a n c b c' underlying35
 go_enter func36,ntmps36;go_wp2;go_ret;exact⟨rfl,rfl⟩
theorem Wi{p:Addr}{n c:Nat}{xs:List UInt64}(w:Ap)(g:gQ gR w (some p) xs)(h:xs.length=n)(j:n<=1000000):
  At Am 36 #[Aa (some p) n c] w λ e w'=>∃v',e=Aj v'/\gM gR 63 w' w.heap.size v' xs/\Iz w w':=by
 have H:=I2 g h
 clear g h
 have q:∀(w:Ap) (a:Option Addr) (n c f c':Nat),(binOp .eql 35 (Aa a n c) (Aa none f c')).run Am w=.ok (Ad a.isNone) w:=λ w a n c f c'=>Lib.run_eql_slice_nil w _ _ a n c f c' underlying35
 go_enter func36,ntmps36;go_wp2_with(at_builtin;(refine IN gR 63 35 8 _ rfl Tryz.info63 underlying35 rfl (.tmp 5) (.tmp 6) rfl w.heap.size _ [] xs (some p) n c rfl (fU w) rfl (H.o.1.below (gW w _)) H.o.2 (by simp;omega) (by simp[maxLen];omega) (by simp) ?_;intro i k b d _ _));go_wp2;go_ret;rw[List.nil_append]at b;exact⟨i,rfl,b,(gW w _).trans d⟩
theorem Wm{ao:Option Addr}{n c:Nat}{xs:List UInt64}(w:Ap)(a:gQ gR w ao xs)(f:xs.length=n)(g:n<=1000000):
  At Am 36 #[Aa ao n c] w λ e w'=>∃v',e=Aj v'/\gM gR 63 w' w.heap.size v' xs/\Iz w w':=by
 cases ao with
 | none =>
  have d:xs=[]:=by
   rcases Cc xs.length with q|q
   exact AQ q;obtain⟨b,off,e,_⟩:=a q;cases e
  subst d;refine(Wa w).mono ?_;rintro e w' ⟨rfl,rfl⟩;exact⟨_,rfl,gM.nil _ _ _ _,Ao _ _⟩
 | some p=>exact Wi w a f g
structure lW(w:Ap)(B:Nat)(v:LV)(r:Rw):Prop where
 id:v.id=r.id
 tree:v.tree=r.tree
 date:v.date=r.date
 gen:v.gen=r.gen
 ps:gM encI 3 w B (Aa v.pa v.pn v.pc) r.ps
 fb:gM gP 5 w B (Aa v.fa v.fn v.fc) r.fb
def nh(w:Ap)(S:Nat->Prop):Prop:=∀k,S k->∀C,w.heap[k]? ≠ some (.cells C 3 (0,0))/\w.heap[k]? ≠ some (.cells C 5 (0,0))
theorem gM.type{α:Type}{E:ju α}{t:TypeId}{w:Ap}{base:Nat}{v:Value}{xs:List α}(h:gM E t w base v xs){g:Nat}(a:v.ownBlock=some g):∃C,w.heap[g]? = some (.cells C t (0,0)):=by
 rcases h.2 with⟨rfl,_⟩ | ⟨g2,cap,b,rfl,_,c,_⟩
 simp[BQ]at a
 have e:g2=g:=by simpa[BQ]using a
 subst e;exact⟨_,c⟩
theorem gM.noIB{α:Type}{E:ju α}{t:TypeId}{w:Ap}{base:Nat}{v:Value}{xs:List α}(h:gM E t w base v xs)(a:t≠3)(b:t≠5):nh w (λ k=>v.ownBlock=some k):=by
 intro k c C;obtain⟨d,e⟩:=h.type c;rw[e]
 constructor
 intro q;cases q;exact a rfl
 intro q;cases q;exact b rfl
theorem lW.stays{w w':Ap}{B:Nat}{v:LV}{r:Rw}{S:Nat->Prop}(h:lW w B v r)(c:Aw S w w')(b:nh w S):lW w' B v r :=
 ⟨h.id,h.tree,h.date,h.gen,h.ps.stays c (λ g a q=>by obtain⟨C,e⟩:=h.ps.type a;exact(b g q C).1 e),h.fb.stays c (λ g a q=>by obtain⟨C,e⟩:=h.fb.type a;exact(b g q C).2 e)⟩
theorem lW.below{w w':Ap}{B:Nat}{v:LV}{r:Rw}(h:lW w B v r)(a:Iz w w'):lW w' B v r :=
 ⟨h.id,h.tree,h.date,h.gen,h.ps.below a,h.fb.below a⟩
theorem lW.low{w:Ap}{B B':Nat}{v:LV}{r:Rw}(h:lW w B v r)(a:B'<=B):lW w B' v r:=⟨h.id,h.tree,h.date,h.gen,h.ps.low a,h.fb.low a⟩
theorem lW.at{w:Ap}{B:Nat}{v:LV}{r:Rw}(h:lW w B v r):mU w v r:=by
 have d:=DC h.ps;have b:=DC h.fb;refine⟨h.id,h.tree,h.date,h.gen,h.ps.rdc.1,d,?_,b⟩;obtain⟨a,c,q,e,f,g,_⟩:=h.fb.form;rw[b]at q;cases q;exact⟨v.fa,v.fc,by rw[b],e,f,g⟩
theorem lW.regen{w:Ap}{B:Nat}{v:LV}{r:Rw}(h:lW w B v r)(g:Int):lW w B (v.wg g) { r with gen:=g }:=⟨h.id,h.tree,h.date,rfl,h.ps,h.fb⟩
structure iY(w:Ap)(B:Nat)(vs:List LV)(rs:List Rw):Prop where
 len:vs.length=rs.length
 at_:∀(i:Nat) (v:LV) (r:Rw),vs[i]? = some v->rs[i]? = some r->lW w B v r
theorem iY.stays{w w':Ap}{B:Nat}{vs:List LV}{rs:List Rw}{S:Nat->Prop}(h:iY w B vs rs)(d:Aw S w w')(c:nh w S):iY w' B vs rs:=⟨h.len,λ i v r a b=>(h.at_ i v r a b).stays d c⟩
theorem iY.below{w w':Ap}{B:Nat}{vs:List LV}{rs:List Rw}(h:iY w B vs rs)(c:Iz w w'):iY w' B vs rs:=⟨h.len,λ i v r a b=>(h.at_ i v r a b).below c⟩
theorem iY.low{w:Ap}{B B':Nat}{vs:List LV}{rs:List Rw}(h:iY w B vs rs)(c:B'<=B):iY w B' vs rs:=⟨h.len,λ i v r a b=>(h.at_ i v r a b).low c⟩
theorem iY.nil(w:Ap)(B:Nat):iY w B [] []:=⟨rfl,λ i v r h=>by simp at h⟩
theorem iY.app{w:Ap}{B:Nat}{vs b:List LV}{rs a:List Rw}(h:iY w B vs rs)(e:iY w B b a):iY w B (vs++b) (rs++a):=by
 refine⟨by simp[h.len,e.len],λ i v r c d=>?_⟩;by_cases hi:i<vs.length
 rw[BS hi]at c;rw[BS (by rw[<- h.len];exact hi)]at d;exact h.at_ i v r c d
 rw[BZ (by omega)]at c;rw[BZ (by rw[<- h.len];omega),<- h.len]at d;exact e.at_ _ v r c d
def St.row(st:St)(Q:List UInt64)(x:UInt64)(g:Int):Rw:=⟨x,(st.com x).tree,(st.com x).date,kL Q (st.com x).ps,g,st.fil (st.com x)⟩
def St.rows(st:St)(Q xs:List UInt64)(G:List Int):List Rw:=List.zipWith (st.row Q) xs G
def St.pss(st:St)(Q xs:List UInt64):List (List Int):=xs.map (λ x=>kL Q (st.com x).ps)
structure St.free(st:St)(Bi ids:List UInt64):Prop where
 nd:(Bi++ids).Nodup
 has:∀x∈ids,st.has 3 x=true
 shut:∀x∈ids,∀p∈(st.com x).ps,p∈Bi++ids
inductive St.told (st:St) (Bi:List UInt64) (G:List Int) (ids:List UInt64):Int->List Rw->Prop
 | twice:¬(Bi++ids).Nodup->St.told st Bi G ids 6 []
 | missing:(Bi++ids).Nodup->¬(∀x∈ids,st.has 3 x=true)->St.told st Bi G ids 5 []
 | open_:(Bi++ids).Nodup->(∀x∈ids,st.has 3 x=true)->¬(∀x∈ids,∀p∈(st.com x).ps,p∈Bi++ids)->St.told st Bi G ids 14 []
 | rows:st.free Bi ids->St.told st Bi G ids 0 (st.rows (Bi++gY ids) (gY ids) G)
theorem St.told.uniq{st:St}{f:List UInt64}{G:List Int}{ids:List UInt64}{c c':Int}{rs d:List Rw}(h:st.told f G ids c rs)(e:st.told f G ids c' d):c=c'/\rs=d:=by
 cases h with
 | twice a=>cases e with
  | twice=>exact⟨rfl,rfl⟩
  | missing b=>exact absurd b a
  | open_ b=>exact absurd b a
  | rows b=>exact absurd b.nd a
 | missing a1 a2=>cases e with
  | twice b=>exact absurd a1 b
  | missing=>exact⟨rfl,rfl⟩
  | open_ _ b=>exact absurd b a2
  | rows b=>exact absurd b.has a2
 | open_ a1 a2 a3=>cases e with
  | twice b=>exact absurd a1 b
  | missing _ b=>exact absurd a2 b
  | open_=>exact⟨rfl,rfl⟩
  | rows b=>exact absurd b.shut a3
 | rows a=>cases e with
  | twice b=>exact absurd a.nd b
  | missing _ b=>exact absurd a.has b
  | open_ _ _ b=>exact absurd a.shut b
  | rows=>exact⟨rfl,rfl⟩
theorem Kf(st:St)(x:UInt64):(st.com x).ps.length<=8:=by
 unfold St.com
 cases e:iq st.objs 3 x with
 | none=>simp[lA]
 | some b =>
  simp only[Option.bind_some]
  cases a:jF b with
  | none=>simp[lA]
  | some c =>
   have:=(GV (JD a).1).1;simpa using this
def pK:LV:=⟨0,0,0,none,0,0,0,none,0,0⟩
def pH:Rw:=⟨0,0,0,[],0,[]⟩
theorem nK:(Am.info? 65).map (λ i=>(i.zero,i.size,i.bytes))=some (some (.agg #[Ab Al 0,Ab Al 0,Ab Ak 0,Aa none 0 0,Ab Ak 0,Aa none 0 0]),6,80):=by kernel_rfl
theorem nj:Am.underlying 40=some (.slice 65):=by kernel_rfl
structure RL(rg:Nat)(wA u:Ap)(n:Nat)(xs:List UInt64)(vs:List LV)(F:Nat->UInt64->Rw):Prop where
 own:gM iG 65 u rg (Aa (some ⟨rg,0,none⟩) n n) vs
 bel:Below rg wA u
 size:wA.heap.size=rg
 at_:∀(j:Nat) (v:LV) (x:UInt64),vs[j]? = some v->xs[j]? = some x->lW u rg v (F j x)
section
variable {rg:Nat}{wA u u':World}{n:Nat}{xs:List UInt64}{vs:List LV}{F:Nat->UInt64->Rw}
theorem RL.len(h:RL rg wA u n xs vs F):vs.length=n:=DC h.own
theorem RL.lt(h:RL rg wA u n xs vs F):rg<u.heap.size:=(World.ownsRow.lt h.own rg rfl).2
theorem RL.below(h:RL rg wA u n xs vs F)(a:Iz u u'):RL rg wA u' n xs vs F :=
 ⟨h.own.below a,h.bel.trans (a.mono (CJ h.lt)),h.size,λ j v x b c=>(h.at_ j v x b c).below a⟩
theorem RL.noIB(h:RL rg wA u n xs vs F):nh u (λ k=>k=rg):=λ k a=>h.own.noIB (by decide) (by decide) k (by rw[a];rfl)
theorem RL.put(h:RL rg wA u n xs vs F){i:Nat}(hi:i<n){v:LV}{r:Rw}(d:lW u rg v r):RL rg wA (jG u rg v.cells (i*6)) n xs (vs.set i v) (λ j x=>if j=i then r else F j x):=by
 have b:Aw (λ k=>k=rg) u (jG u rg v.cells (i*6)):=De _ _ _;have l:=h.len;refine⟨h.own.lay (i:=i) (by omega) v,h.bel.trans (b.below (CJ h.lt) (λ k g e=>by have f:=e;omega)),h.size,λ j v' x a c=>?_⟩;by_cases e:j=i
 subst e;rw[AC rfl];rw[Cp (by omega)]at a;cases a;exact d.stays b h.noIB
 rw[Ay e];rw[CH (λ q=>e q.symm)]at a;exact(h.at_ j v' x a c).stays b h.noIB
theorem RL.fil(h:RL rg wA u n xs vs F){i:Nat}{v:LV}{x:UInt64}(d:vs[i]? = some v)(m:xs[i]? = some x){fa:Option Addr}{fn fc:Nat}{fb:Bs}(l:gM gP 5 u rg (Aa fa fn fc) fb):
  (∃z,u.cell? ⟨rg,i*6+5,none⟩=some z)/\u.frozen? ⟨rg,i*6+5,none⟩=false/\∃f,RL rg wA (u.setCell ⟨rg,i*6+5,none⟩ (Aa fa fn fc)) n xs f (λ j y=>if j=i then { F i x with fb:=fb }else F j y):=by
 have s:=h.len
 have hi:i<n:=by
  have:=(AG.1 d).1;omega
 have a:=h.own.there (i:=i) (by omega) 6 rfl (i*6) rfl 5 (by decide);have c:Aw (λ k=>k=rg) u (u.setCell ⟨rg,i*6+5,none⟩ (Aa fa fn fc)):=BR _ _;refine⟨Option.isSome_iff_exists.1 a.1,a.2,vs.set i { v with fa:=fa,fn:=fn,fc:=fc },gM.put h.own (i:=i) (j:=5) d (by decide) { v with fa:=fa,fn:=fn,fc:=fc } (Aa fa fn fc) (by simp[iG,LV.cells]),h.bel.trans (c.below (CJ h.lt) (λ k r e=>by have p:=e;omega)),h.size,λ j v' y b g=>?_⟩;by_cases e:j=i
 subst e;rw[AC rfl];rw[Cp (by omega)]at b;cases b;have q:=h.at_ j v x d m
 have o:lW u rg { v with fa:=fa,fn:=fn,fc:=fc } { F j x with fb:=fb }:=⟨q.id,q.tree,q.date,q.gen,q.ps,l⟩
 exact o.stays c h.noIB
 rw[Ay e];rw[CH (λ q=>e q.symm)]at b;exact(h.at_ j v' y b g).stays c h.noIB
theorem RL.cast(h:RL rg wA u n xs vs F){a:Nat->UInt64->Rw}(hF:∀j x,j<n->xs[j]? = some x->F j x=a j x):RL rg wA u n xs vs a :=
 ⟨h.own,h.bel,h.size,λ j v x b c=>by
  have d:j<n:=by
   have:=(AG.1 b).1;rw[h.len]at this;exact this
  rw[<- hF j x d c]
  exact h.at_ j v x b c⟩
theorem Zi(w:Ap)(B:Nat):lW w B pK pH:=⟨rfl,rfl,rfl,rfl,gM.nil _ _ _ _,gM.nil _ _ _ _⟩
end
structure RB(wA u:Ap)(s b:Nat)(st:St)(S:Nat->Prop)(m:Nat)(Q:List UInt64)(ra:Option Addr)(xs:List UInt64)(gc:Nat)(cvs:List CV)(ba:Option Addr)(bvs:List LV):Prop where
 sto:A1 u s b st S
 map:jb kU u m (mF Q) Q.length
 ids:gQ gR u ra xs
 com:gQ lT u (some ⟨gc,0,none⟩) cvs
 at_:∀(i:Nat) (v:CV) (x:UInt64),cvs[i]? = some v->xs[i]? = some x->mL u gc v (st.com x)
 bel:gQ iG u ba bvs
theorem RB.below{wA u u':Ap}{s b:Nat}{st:St}{S:Nat->Prop}{m:Nat}{Q:List UInt64}{e:Option Addr}{xs:List UInt64}{d:Nat}{c:List CV}{ba:Option Addr}{bvs:List LV}(h:RB wA u s b st S m Q e xs d c ba bvs)(a:Iz u u'):RB wA u' s b st S m Q e xs d c ba bvs :=
 ⟨h.sto.below a,h.map.turned (S:=λ _=>False) (Aw.ofBelow a) (λ q=>q),h.ids.below a,h.com.below a,λ i v x f g=>(h.at_ i v x f g).below a,h.bel.below a⟩
def nW(st:St)(Q:List UInt64)(x:UInt64):Rw:={ st.row Q x 0 with fb:=[] }
def F1(st:St)(Q:List UInt64)(i j:Nat)(x:UInt64):Rw:=if j<i then nW st Q x else pH
def F2(st:St)(Q:List UInt64)(G:List Int)(i j:Nat)(x:UInt64):Rw:=if j<i then st.row Q x (G.getD j 0)else { st.row Q x (G.getD j 0)with fb:=[] }
theorem RL.done{rg:Nat}{wA u:Ap}{n:Nat}{xs:List UInt64}{vs:List LV}{st:St}{Q:List UInt64}{G:List Int}(h:RL rg wA u n xs vs (F2 st Q G n))(f:xs.length=n)(e:G.length=n):iY u rg vs (st.rows Q xs G):=by
 refine⟨?_,λ i v r d c=>?_⟩
 unfold St.rows;rw[List.length_zipWith,h.len,f,e,Nat.min_self]
 have hi:i<n:=by
  have:=(AG.1 d).1;rw[h.len]at this;exact this
 have b:xs[i]? = some xs[i]:=Aq (by omega);have a:G[i]? = some G[i]:=Aq (by omega);unfold St.rows at c;rw[List.getElem?_zipWith,b,a]at c;cases c;have:=h.at_ i v _ d b;unfold F2 at this;rw[AC hi,List.getD,a]at this;exact this
end Go.Proofs.YtakgkgmopmcecaaGreat
