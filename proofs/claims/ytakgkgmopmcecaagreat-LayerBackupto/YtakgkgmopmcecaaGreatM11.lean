import Derived.Test.YtakgkgmopmcecaaGreatM10
set_option maxHeartbeats 6400000
set_option maxRecDepth 100000
open Go renaming World->Ap,Calls->At,wpQuiet_nil->AS,below_drewN->AY,bodyPost_end->CN,results_none->BN,bodyPost_ret->As,results_tmp2->AD
open Nat renaming le_refl->AA,mul_one->Df
open Go.RowKit.Below renaming refl->Ao
open Go.IntKind renaming i64->Ak,wrap_i64->Au,u64->Al
open Bool renaming true_and->Ci,and_eq_true->Bn
open Go.Value renaming slice->Aa,int->Ab,bool->Ad,tuple->Af
open Go.Ending renaming returned->Aj
open Go.Proofs.Tryz renaming prog->Am
open Go.Proofs.Tryz
namespace Go.Proofs.YtakgkgmopmcecaaGreat
open Go.RowKit Go.Sort
variable {F a b c e0 g hi i j n r s:Nat}{d:Array UInt64}{p:UInt64->Bool}{w:Ap}
theorem XP(h:¬a<j):insInner ltU a j d=d:=by
 cases j with
 | zero=>rfl
 | succ j =>
  unfold insInner;rw[Ay];simp;omega
theorem Vn{t:Nat}(h:a<t+1)(f:Bool)(b:ltU d[t+1]! d[t]! = f):insInner ltU a (t+1) d=if f=true then insInner ltU a t (swp d (t+1) t)else d:=by
 rw[insInner,b]
 have:(decide (t+1>a)&&f)=f:=by simp;omega
 cases f with
 | true=>simp[h]
 | false=>simp
theorem WL(h:i<b):insOuter ltU a b i d=insOuter ltU a b (i+1) (insInner ltU a i d):=by
 rw[insOuter,AC h]
theorem Ym(h:¬i<b):insOuter ltU a b i d=d:=by
 rw[insOuter,Ay h]
theorem FV{wr:Ap}(x y:UInt64)(f:Bool)(a:ltU x y=f)(u:SW (gN wr)):At Am 129 #[uv x,uv y] u.w λ e w'=>e=Aj (Ad f)/\∃u':SW (gN wr),w'=u'.w:=by
 refine(Yj x y f a u.w).mono ?_;rintro e w' ⟨rfl,rfl⟩;exact⟨rfl,u,rfl⟩
theorem Zr(h:SR w g d)(hd:d.size=n)(aa:a<=b)(hb:b<=n)(hn:n<=4000000000000000000):
  At Am 123 #[Aa (some ⟨g,0,none⟩) n c,Ab Ak (a:Int),Ab Ak (b:Int)] w λ e w'=>e=Aj (Af #[])/\Hid (SR w' g (insertionSort ltU d a b)/\Aw (λ k=>k=g) w w'):=by
 obtain⟨D,W⟩:=Xa (insertionSort ltU d a b)
 rw[W]
 have H:=I3 h hd W
 clear h hd W;go_enter func123,ntmps123;go_wp2_with fail;go_loopg[6] (b - a) (λ k v wr=>∃(i:Nat),v=Ab Ak i/\i+k=b+1/\a+1<=i/\Hid (∃e:Array UInt64,e.size=n/\insOuter ltU a b i e=D/\SR wr g e/\Aw (λ k=>k=g) w wr))
 case atStart=>exact⟨a+1,by go_num,by omega,AA _,d,H.o.2.1,H.o.2.2,H.o.1,Aw.refl _ _⟩
 case round =>
  obtain⟨i,rfl,hi,ab,U⟩:=hrel;obtain⟨e0,s0,I,R,t0⟩:=U.o;by_cases F:i<b
  ·have id:(i:Int)<(b:Int):=by omega
   obtain⟨K,B⟩:=Xb gk;have J:=I2 (by rw[B];exact hi:i+K=b+1) B
   have G0:Hid (insOuter ltU a b (i+1) (insInner ltU a i e0)=D):=by
    show _=D;rw[<- WL F];exact I
   have V:=I3 R s0 t0
   clear U R s0 t0 I B;go_wp2_with fail;go_loopg[7] i (λ k v wr=>v=Ab Ak (k:Int)/\k<=i/\Hid (∃e:Array UInt64,e.size=n/\insInner ltU a k e=insInner ltU a i e0/\SR wr g e/\Aw (λ k=>k=g) w wr))
   case atStart=>exact⟨rfl,AA _,e0,V.o.2.1,rfl,V.o.1,V.o.2.2⟩
   case round =>
    obtain⟨rfl,ac,T⟩:=hrel;obtain⟨l,s1,O,E,t1⟩:=T.o;by_cases A:a<gk
    ·obtain⟨t,Y⟩:∃t,t+1=gk:=⟨gk - 1,by omega⟩
     obtain⟨x,M⟩:∃x,l[gk]! = x:=⟨_,rfl⟩
     obtain⟨y,N⟩:∃y,l[t]! = y:=⟨_,rfl⟩
     obtain⟨f,X⟩:=Xa (ltU x y)
     have G:insInner ltU a gk l=if f=true then insInner ltU a t (swp l gk t)else l:=by
      subst Y;exact Vn A f (by rw[M,N];exact X)
     have q0:∀u:SW (gN wr),u.w.cell? ⟨g,gk,none⟩=some (uv x):=λ u=>by rw[<- M];exact(E.below u.ok).cell (by omega)
     have Q:∀u:SW (gN wr),u.w.cell? ⟨g,t,none⟩=some (uv y):=λ u=>by rw[<- N];exact(E.below u.ok).cell (by omega)
     have L:=λ u=>FV (wr:=wr) x y f X u
     have NE:Nonempty (SW (gN wr)):=⟨⟨wr,Ao _ wr⟩⟩
     have Z:(a:Int)<(gk:Int):=by omega
     have jd:decide ((a:Int)<(gk:Int))=true:=by simpa using Z
     have ad:decide (a<gk)=true:=by simpa using A
     have jn:(gk:Int)<(n:Int):=by omega
     have j0:(0:Int)<=(gk:Int):=by omega
     have ae:(t:Int)<(n:Int):=by omega
     have js:(gk:Int) - 1=(t:Int):=by omega
     have jw:Ak.wrap (t:Int)=(t:Int):=by rw[Au];omega
     have j:=I8 E s1 t1 M N (by rw[<- G];exact O:(if f=true then insInner ltU a t (swp l gk t)else l)=insInner ltU a i e0) Y (by omega:gk<n);clear T s1 O E t1 G M N X Y
     cases f with
     | true =>
      go_upto_region 4 with fail
      refine Bb (S:=gN wr) (by kernel_rfl) (by kernel_rfl) (Ao _ wr).drew ?_
      repeat(go_big_quiet_step (with_reducible exact L _))
      refine AS ?_;intro _ C;obtain⟨u,r⟩:=C;subst r;obtain⟨s,m⟩:=Xb u.w
      have z:Hid (SR s g l/\Aw (λ k=>k=g) w s):=by
       rw[m];exact⟨j.o.1.below u.ok,j.o.2.2.1.trans (Aw.ofBelow u.ok) (λ _ _ q=>q)⟩
      rw[<- m];clear L q0 Q NE m u
      have c0:s.cell? ⟨g,gk,none⟩=some (uv x):=by rw[<- j.o.2.2.2.1];exact z.o.1.cell (by have:=j.o.2.1;have:=j.o.2.2.2.2.2.2;omega)
      have c1:s.cell? ⟨g,t,none⟩=some (uv y):=by rw[<- j.o.2.2.2.2.1];exact z.o.1.cell (by have:=j.o.2.1;have:=j.o.2.2.2.2.2.2;omega)
      have f0:=z.o.1.thaw gk;have f1:=z.o.1.thaw t
      have nt:¬gk=t:=by have:=j.o.2.2.2.2.2.2.1;omega
      go_wp2_with fail;go_region;go_wp2;go_roundg t
      case measure=>omega
      case rel =>
       have hs:=(z.o.1.below (Ao _ s).drew).swap gk t;rw[j.o.2.2.2.1,j.o.2.2.2.2.1]at hs;exact⟨by go_num,by have:=j.o.2.2.2.2.2.2.1;omega,swp l gk t,by rw[ET];exact j.o.2.1,by have:=j.o.2.2.2.2.2.1;simpa using this,hs,Tm (z.o.2.trans (Aw.ofBelow (S:=λ _=>False) (Ao _ s).drew) (λ _ _ q=>q.elim)) rfl _ _ _ _⟩
     | false =>
      go_upto_region 4 with fail
      refine Bb (S:=gN wr) (by kernel_rfl) (by kernel_rfl) (Ao _ wr).drew ?_
      repeat(go_big_quiet_step (with_reducible exact L _))
      refine AS ?_;intro _ C;obtain⟨u,r⟩:=C;subst r;obtain⟨s,m⟩:=Xb u.w
      have z:Hid (SR s g l/\Aw (λ k=>k=g) w s):=by
       rw[m];exact⟨j.o.1.below u.ok,j.o.2.2.1.trans (Aw.ofBelow u.ok) (λ _ _ q=>q)⟩
      rw[<- m];clear L q0 Q NE m u
      have p:Hid (∃e:Array UInt64,e.size=n/\insOuter ltU a b (i+1) e=D/\SR s g e/\Aw (λ k=>k=g) w s):=by
       have q:=j.o.2.2.2.2.2.1
       have P:l=insInner ltU a i e0:=by simpa using q
       exact⟨l,j.o.2.1,by rw[P];exact G0.o,z.o.1,z.o.2⟩
      go_wp2;go_roundg (K - 1)
      case measure=>have:=J.o;omega
      case rel=>exact⟨i+1,by go_num,by have:=J.o;omega,by omega,p.o⟩
    have P:l=insInner ltU a i e0:=by rw[<- O,XP A]
    have p:Hid (∃e:Array UInt64,e.size=n/\insOuter ltU a b (i+1) e=D/\SR wr g e/\Aw (λ k=>k=g) w wr):=⟨l,s1,by rw[P];exact G0.o,E,t1⟩
    have Z:¬(a:Int)<(gk:Int):=by omega
    have jd:decide ((a:Int)<(gk:Int))=false:=by simpa using Z
    clear T s1 O E t1 P;go_wp2_with fail;go_quiet (fail);go_wp2;go_roundg (K - 1)
    case measure=>have:=J.o;omega
    case rel =>
     obtain⟨e,Q,q2,q3,q4⟩:=p.o;have hq:=AY (Ao wr.heap.size wr) nq;exact⟨i+1,by go_num,by have:=J.o;omega,by omega,e,Q,q2,q3.below hq,q4.trans (Aw.ofBelow (S:=λ _=>False) hq) (λ _ _ q=>q.elim)⟩
  have p:Hid (SR wr g D/\Aw (λ k=>k=g) w wr):=by
   have q:=Ym (a:=a) (d:=e0) F;rw[q]at I;rw[<- I];exact⟨R,t0⟩
  clear U R s0 t0 I;go_wp2;refine CN (v:=Af #[]) (BN rfl _ _ _) rfl ?_;exact⟨rfl,p⟩
theorem fX(h:i<j):reverseLoop i j d=reverseLoop (i+1) (j - 1) (swp d i j):=by
 rw[reverseLoop,AC h]
theorem eo(h:¬i<j):reverseLoop i j d=d:=by
 rw[reverseLoop,Ay h]
theorem SR.drewSwap(h:SR w g d){x y:UInt64}(b:d[i]! = x)(c:d[j]! = y):SR ((w.drew.setCell ⟨g,i,none⟩ (uv y)).setCell ⟨g,j,none⟩ (uv x)) g (swp d i j):=by
 have a:=(h.below (Ao _ w).drew).swap i j;rw[b,c]at a;exact a
theorem io{a:Ap}(h:Aw (λ k=>k=g) a w)(i j:Nat)(p q:Value):Aw (λ k=>k=g) a ((w.drew.setCell ⟨g,i,none⟩ p).setCell ⟨g,j,none⟩ q) :=
 Tm (h.trans (Aw.ofBelow (S:=λ _=>False) (Ao _ w).drew) (λ _ _ q=>q.elim)) rfl _ _ _ _
theorem dz(h:SR w g d)(hd:d.size=n)(G:a<b)(X:b<=n)(Z:n<=4000000000000000000):
  At Am 127 #[Aa (some ⟨g,0,none⟩) n c,Ab Ak (a:Int),Ab Ak (b:Int)] w λ e w'=>e=Aj (Af #[])/\Hid (SR w' g (reverseRange d a b)/\Aw (λ k=>k=g) w w'):=by
 obtain⟨D,B⟩:=Xa (reverseRange d a b)
 rw[B]
 have H:Hid (SR w g d/\d.size=n/\reverseLoop a (b - 1) d=D):=⟨h,hd,B⟩
 have b1:(b:Int) - 1=((b - 1:Nat):Int):=by omega
 obtain⟨u,q⟩:=Xa (b - 1)
 rw[q]at b1 H
 have F:Hid (u+1=b):=by show _=b;omega
 have S:Ak.wrap (u:Int)=(u:Int):=by rw[Au];omega
 clear h hd B q;go_enter func127,ntmps127;go_wp2_with fail;go_loopg[6,7] b (λ k Q R wr=>∃i j:Nat,Q=Ab Ak i/\R=Ab Ak j/\j<b/\j - i<=k/\i<=b/\Hid (∃e:Array UInt64,e.size=n/\reverseLoop i j e=D/\SR wr g e/\Aw (λ k=>k=g) w wr))
 case atStart=>exact⟨a,u,rfl,rfl,by have:=F.o;omega,by have:=F.o;omega,by omega,d,H.o.2.1,H.o.2.2,H.o.1,Aw.refl _ _⟩
 case round =>
  obtain⟨i,j,rfl,rfl,J,Y,I,A⟩:=hrel;obtain⟨l,s1,t,m,t1⟩:=A.o;by_cases r:i<j
  ·have id:(i:Int)<(j:Int):=by omega
   have K:(0:Int)<=(i:Int):=by omega
   have M:(0:Int)<=(j:Int):=by omega
   have L:(i:Int)<(n:Int):=by omega
   have N:(j:Int)<(n:Int):=by omega
   obtain⟨x,C⟩:∃x,l[i]! = x:=⟨_,rfl⟩
   obtain⟨y,E⟩:∃y,l[j]! = y:=⟨_,rfl⟩
   have T:wr.cell? ⟨g,i,none⟩=some (uv x):=by rw[<- C];exact m.cell (by omega)
   have U:wr.cell? ⟨g,j,none⟩=some (uv y):=by rw[<- E];exact m.cell (by omega)
   have V:=m.thaw i;have W:=m.thaw j
   have nt:¬i=j:=by omega
   have P:¬j=i:=by omega
   have O:(j:Int) - 1=((j - 1:Nat):Int):=by omega
   obtain⟨s,p⟩:=Xa (j - 1)
   rw[p]at O
   have jw:Ak.wrap (s:Int)=(s:Int):=by rw[Au];omega
   have f:Hid (SR wr g l/\l.size=n/\Aw (λ k=>k=g) w wr/\l[i]! = x/\l[j]! = y/\reverseLoop (i+1) s (swp l i j)=D/\s+1=j):=⟨m,s1,t1,C,E,by rw[<- p,<- fX r];exact t,by omega⟩
   clear A s1 t m t1 C E p;go_wp2_with fail;go_region;go_wp2;go_roundg (gk - 1)
   case measure=>omega
   case rel=>exact⟨i+1,s,by go_num,by go_num,by have:=f.o.2.2.2.2.2.2;omega,by have:=f.o.2.2.2.2.2.2;omega,by omega,swp l i j,by rw[ET];exact f.o.2.1,f.o.2.2.2.2.2.1,f.o.1.drewSwap f.o.2.2.2.1 f.o.2.2.2.2.1,io f.o.2.2.1 _ _ _ _⟩
  ·have id:¬(i:Int)<(j:Int):=by omega
   have z:Hid (SR wr g D/\Aw (λ k=>k=g) w wr):=by
    rw[eo r]at t;rw[<- t];exact⟨m,t1⟩
   clear A m s1 t1 t;go_wp2;refine CN (v:=Af #[]) (BN rfl _ _ _) rfl ?_;exact⟨rfl,z⟩
theorem Nr(h:2*r+1≥hi):siftDown ltU hi F r d=d:=by
 rw[siftDown,dif_pos h]
theorem NO(h:¬2*r+1≥hi)(a:¬(2*r+2<hi/\ltU d[F+(2*r+1)]! d[F+(2*r+2)]! = true))(f:Bool)(b:ltU d[F+r]! d[F+(2*r+1)]! = f):
  siftDown ltU hi F r d=if f=true then siftDown ltU hi F (2*r+1) (swp d (F+r) (F+(2*r+1)))else d:=by
 rw[siftDown,dif_neg h]
 have e:(decide (2*r+1+1<hi)&&ltU d[F+(2*r+1)]! d[F+(2*r+1)+1]!)=false:=by
  rw[Bool.and_eq_false_iff];by_cases q:2*r+2<hi
  right
  have:F+(2*r+1)+1=F+(2*r+2):=by omega
  rw[this]
  cases k:ltU d[F+(2*r+1)]! d[F+(2*r+2)]! with
  | true=>exact absurd ⟨q,k⟩ a
  | false=>rfl
  left
  simp;omega
 rw[e,b]
 cases f <;> simp
theorem Qt(h:2*r+2<hi)(a:ltU d[F+(2*r+1)]! d[F+(2*r+2)]! = true)(f:Bool)(b:ltU d[F+r]! d[F+(2*r+2)]! = f):
  siftDown ltU hi F r d=if f=true then siftDown ltU hi F (2*r+2) (swp d (F+r) (F+(2*r+2)))else d:=by
 rw[siftDown,dif_neg (by omega)]
 have e:(decide (2*r+1+1<hi)&&ltU d[F+(2*r+1)]! d[F+(2*r+1)+1]!)=true:=by
  have:F+(2*r+1)+1=F+(2*r+2):=by omega
  rw[this,a];simp;omega
 rw[e,b]
 cases f <;> simp[h]
theorem Sw{lo:Nat}(h:SR w g d)(hd:d.size=n)(hb:F+hi<=n)(hl:lo<=n)(hn:n<=1000000000000):
  At Am 179 #[Aa (some ⟨g,0,none⟩) n c,Ab Ak (lo:Int),Ab Ak (hi:Int),Ab Ak (F:Int)] w λ e w'=>e=Aj (Af #[])/\Hid (SR w' g (siftDown ltU hi F lo d)/\Aw (λ k=>k=g) w w'):=by
 obtain⟨D,hD⟩:=Xa (siftDown ltU hi F lo d)
 rw[hD]
 have H:=I3 h hd hD
 clear h hd hD;go_enter func179,ntmps179;go_wp2_with fail;go_loopg[8] (n+hi) (λ k v wr=>∃r:Nat,v=Ab Ak r/\hi - r<=k/\r<=n+hi/\Hid (∃e:Array UInt64,e.size=n/\siftDown ltU hi F r e=D/\SR wr g e/\Aw (λ k=>k=g) w wr))
 case atStart=>exact⟨lo,rfl,by omega,by omega,d,H.o.2.1,H.o.2.2,H.o.1,Aw.refl _ _⟩
 case round =>
  obtain⟨r,rfl,hk,an,HR⟩:=hrel;obtain⟨a,s1,W,X,t1⟩:=HR.o
  have m2:(2:Int)*(r:Int)=((2*r:Nat):Int):=by omega
  obtain⟨s,L⟩:=Xa (2*r+1)
  have w2:Ak.wrap (2*(r:Int))=2*(r:Int):=by rw[Au];omega
  have a2:2*(r:Int)+1=(s:Int):=by omega
  have w3:Ak.wrap (s:Int)=(s:Int):=by rw[Au];omega
  clear m2;by_cases hc:hi<=s
  have am:(hi:Int)<=(s:Int):=by omega
  have al:Hid (SR wr g D/\Aw (λ k=>k=g) w wr):=by
   rw[Nr (by omega)]at W;rw[<- W];exact⟨X,t1⟩
  clear HR X s1 t1 W L;go_wp2
  first | (refine As (v:=Af #[]) (BN rfl _ _ _) rfl ?_) | (refine CN (v:=Af #[]) (BN rfl _ _ _) rfl ?_)
  exact⟨rfl,al⟩
  ·have am:¬(hi:Int)<=(s:Int):=by omega
   obtain⟨C,Q⟩:=Xa (2*r+2)
   have a3:(s:Int)+1=(C:Int):=by omega
   have w4:Ak.wrap (C:Int)=(C:Int):=by rw[Au];omega
   have T:=I5 hk (by omega:r<s) (by omega:s<C) (by omega:s<hi) (by omega:C<=n+hi);by_cases ac:C<hi
   ·have aa:(C:Int)<(hi:Int):=by omega
    have ad:decide ((C:Int)<(hi:Int))=true:=by simpa using aa
    have ab:decide (C<hi)=true:=by simpa using ac
    obtain⟨p1,U⟩:=Xa (F+s);obtain⟨p2,V⟩:=Xa (F+C)
    have i1:(F:Int)+(s:Int)=(p1:Int):=by omega
    have i2:(p1:Int)+1=(p2:Int):=by omega
    have v1:Ak.wrap (p1:Int)=(p1:Int):=by rw[Au];omega
    have v2:Ak.wrap (p2:Int)=(p2:Int):=by rw[Au];omega
    have n1:(p1:Int)<(n:Int):=by omega
    have n2:(p2:Int)<(n:Int):=by omega
    obtain⟨x,hx⟩:∃x,a[p1]! = x:=⟨_,rfl⟩
    obtain⟨y,hy⟩:∃y,a[p2]! = y:=⟨_,rfl⟩
    obtain⟨f,hf⟩:=Xa (ltU x y)
    have q0:∀u:SW (gN wr),u.w.cell? ⟨g,p1,none⟩=some (uv x):=λ u=>by rw[<- hx];exact(X.below u.ok).cell (by omega)
    have q1:∀u:SW (gN wr),u.w.cell? ⟨g,p2,none⟩=some (uv y):=λ u=>by rw[<- hy];exact(X.below u.ok).cell (by omega)
    have K:=λ u=>FV (wr:=wr) x y f hf u
    have R:Nonempty (SW (gN wr)):=⟨⟨wr,Ao _ wr⟩⟩
    have G:=I3 s1 X t1
    cases f with
    | true =>
     have SD:Hid (∀h:Bool,ltU a[F+r]! a[F+C]! = h->(if h=true then siftDown ltU hi F C (swp a (F+r) (F+C))else a)=D):=by
      intro h J;rw[<- Q]at J ⊢;rw[<- Qt (by omega) (by rw[L,Q,U,V,hx,hy];exact hf) h J];exact W
     clear HR s1 W X t1 hx hy hf U V L Q;go_upto_region 3 with fail
     refine Bb (S:=gN wr) (by kernel_rfl) (by kernel_rfl) (Ao _ wr).drew ?_
     repeat(go_big_quiet_step (with_reducible exact K _))
     refine AS ?_;intro _ p;obtain⟨u,b⟩:=p;subst b;obtain⟨j,A⟩:=Xb u.w
     have E:Hid (SR j g a/\Aw (λ k=>k=g) w j):=by
      rw[A];exact⟨G.o.2.1.below u.ok,G.o.2.2.trans (Aw.ofBelow u.ok) (λ _ _ q=>q)⟩
     rw[<- A];clear K q0 q1 R A u i1 i2 v1 v2 n1 n2
     obtain⟨z,N⟩:∃z,a[F+r]! = z:=⟨_,rfl⟩
     obtain⟨v,M⟩:∃v,a[F+C]! = v:=⟨_,rfl⟩
     obtain⟨h,J⟩:=Xa (ltU z v);obtain⟨i,m⟩:=Xa (F+r);obtain⟨pc,l⟩:=Xa (F+C);have O:=I5 (by omega:i<n) (by omega:pc<n) (by omega:i≠pc) m l
     have af:(F:Int)+(r:Int)=(i:Int):=by omega
     have ae:(F:Int)+(C:Int)=(pc:Int):=by omega
     have ak:Ak.wrap (i:Int)=(i:Int):=by rw[Au];omega
     have aj:Ak.wrap (pc:Int)=(pc:Int):=by rw[Au];omega
     have ah:(i:Int)<(n:Int):=by omega
     have ag:(pc:Int)<(n:Int):=by omega
     rw[m]at N;rw[l]at M
     have Y:∀u:SW (gN j),u.w.cell? ⟨g,i,none⟩=some (uv z):=λ u=>by rw[<- N];exact(E.o.1.below u.ok).cell (by have:=G.o.1;omega)
     have Z:∀u:SW (gN j),u.w.cell? ⟨g,pc,none⟩=some (uv v):=λ u=>by rw[<- M];exact(E.o.1.below u.ok).cell (by have:=G.o.1;omega)
     have K:=λ u=>FV (wr:=j) z v h J u
     have R:Nonempty (SW (gN j)):=⟨⟨j,Ao _ j⟩⟩
     have I:=I3 (by rw[<- m,<- l];exact SD.o h (by rw[m,l,N,M];exact J):(if h=true then siftDown ltU hi F C (swp a i pc)else a)=D) N M;clear N M J m l SD
     cases h with
     | true =>
      go_upto_region 5 with fail
      refine Bb (S:=gN j) (by kernel_rfl) (by kernel_rfl) (Ao _ j).drew ?_
      repeat(go_big_quiet_step (with_reducible exact K _))
      refine AS ?_;intro _ p;obtain⟨u,b⟩:=p;subst b;obtain⟨P,B⟩:=Xb u.w
      have t:Hid (SR P g a/\Aw (λ k=>k=g) w P):=by
       rw[B];exact⟨E.o.1.below u.ok,E.o.2.trans (Aw.ofBelow u.ok) (λ _ _ q=>q)⟩
      rw[<- B];clear K Y Z R B u
      have k0:P.cell? ⟨g,i,none⟩=some (uv z):=by rw[<- I.o.2.1];exact t.o.1.cell (by have:=G.o.1;have:=O.o;omega)
      have k1:P.cell? ⟨g,pc,none⟩=some (uv v):=by rw[<- I.o.2.2];exact t.o.1.cell (by have:=G.o.1;have:=O.o;omega)
      have f0:=t.o.1.thaw i;have f1:=t.o.1.thaw pc;have nt:=O.o.2.2.1
      have ai:¬pc=i:=λ q=>O.o.2.2.1 q.symm
      go_wp2_with fail;go_region;go_wp2;go_roundg (gk - 1)
      case measure=>have:=T.o;omega
      case rel=>exact⟨C,by go_num,by have:=T.o;omega,by have:=T.o;omega,swp a i pc,by rw[ET];exact G.o.1,by have:=I.o.1;simpa using this,t.o.1.drewSwap I.o.2.1 I.o.2.2,io t.o.2 _ _ _ _⟩
     | false =>
      go_upto_region 5 with fail
      refine Bb (S:=gN j) (by kernel_rfl) (by kernel_rfl) (Ao _ j).drew ?_
      repeat(go_big_quiet_step (with_reducible exact K _))
      refine AS ?_;intro _ p;obtain⟨u,b⟩:=p;subst b
      have t:Hid (SR u.w g D/\Aw (λ k=>k=g) w u.w):=by
       have q:a=D:=by have:=I.o.1;simpa using this
       rw[<- q];exact⟨E.o.1.below u.ok,E.o.2.trans (Aw.ofBelow u.ok) (λ _ _ q=>q)⟩
      clear K Y Z R;go_wp2
      first | (refine As (v:=Af #[]) (BN rfl _ _ _) rfl ?_) | (refine CN (v:=Af #[]) (BN rfl _ _ _) rfl ?_)
      exact⟨rfl,t⟩
    | false =>
     have SD:Hid (∀h:Bool,ltU a[F+r]! a[F+s]! = h->(if h=true then siftDown ltU hi F s (swp a (F+r) (F+s))else a)=D):=by
      intro h J;rw[<- L]at J ⊢;rw[<- NO (by omega) (by rw[L,Q,U,V,hx,hy,hf];simp) h J];exact W
     clear HR s1 W X t1 hx hy hf U V L Q;go_upto_region 3 with fail
     refine Bb (S:=gN wr) (by kernel_rfl) (by kernel_rfl) (Ao _ wr).drew ?_
     repeat(go_big_quiet_step (with_reducible exact K _))
     refine AS ?_;intro _ p;obtain⟨u,b⟩:=p;subst b;obtain⟨j,A⟩:=Xb u.w
     have E:Hid (SR j g a/\Aw (λ k=>k=g) w j):=by
      rw[A];exact⟨G.o.2.1.below u.ok,G.o.2.2.trans (Aw.ofBelow u.ok) (λ _ _ q=>q)⟩
     rw[<- A];clear K q0 q1 R A u i1 i2 v1 v2 n1 n2
     obtain⟨z,N⟩:∃z,a[F+r]! = z:=⟨_,rfl⟩
     obtain⟨v,M⟩:∃v,a[F+s]! = v:=⟨_,rfl⟩
     obtain⟨h,J⟩:=Xa (ltU z v);obtain⟨i,m⟩:=Xa (F+r);obtain⟨pc,l⟩:=Xa (F+s);have O:=I5 (by omega:i<n) (by omega:pc<n) (by omega:i≠pc) m l
     have af:(F:Int)+(r:Int)=(i:Int):=by omega
     have ae:(F:Int)+(s:Int)=(pc:Int):=by omega
     have ak:Ak.wrap (i:Int)=(i:Int):=by rw[Au];omega
     have aj:Ak.wrap (pc:Int)=(pc:Int):=by rw[Au];omega
     have ah:(i:Int)<(n:Int):=by omega
     have ag:(pc:Int)<(n:Int):=by omega
     rw[m]at N;rw[l]at M
     have Y:∀u:SW (gN j),u.w.cell? ⟨g,i,none⟩=some (uv z):=λ u=>by rw[<- N];exact(E.o.1.below u.ok).cell (by have:=G.o.1;omega)
     have Z:∀u:SW (gN j),u.w.cell? ⟨g,pc,none⟩=some (uv v):=λ u=>by rw[<- M];exact(E.o.1.below u.ok).cell (by have:=G.o.1;omega)
     have K:=λ u=>FV (wr:=j) z v h J u
     have R:Nonempty (SW (gN j)):=⟨⟨j,Ao _ j⟩⟩
     have I:=I3 (by rw[<- m,<- l];exact SD.o h (by rw[m,l,N,M];exact J):(if h=true then siftDown ltU hi F s (swp a i pc)else a)=D) N M;clear N M J m l SD
     cases h with
     | true =>
      go_upto_region 5 with fail
      refine Bb (S:=gN j) (by kernel_rfl) (by kernel_rfl) (Ao _ j).drew ?_
      repeat(go_big_quiet_step (with_reducible exact K _))
      refine AS ?_;intro _ p;obtain⟨u,b⟩:=p;subst b;obtain⟨P,B⟩:=Xb u.w
      have t:Hid (SR P g a/\Aw (λ k=>k=g) w P):=by
       rw[B];exact⟨E.o.1.below u.ok,E.o.2.trans (Aw.ofBelow u.ok) (λ _ _ q=>q)⟩
      rw[<- B];clear K Y Z R B u
      have k0:P.cell? ⟨g,i,none⟩=some (uv z):=by rw[<- I.o.2.1];exact t.o.1.cell (by have:=G.o.1;have:=O.o;omega)
      have k1:P.cell? ⟨g,pc,none⟩=some (uv v):=by rw[<- I.o.2.2];exact t.o.1.cell (by have:=G.o.1;have:=O.o;omega)
      have f0:=t.o.1.thaw i;have f1:=t.o.1.thaw pc;have nt:=O.o.2.2.1
      have ai:¬pc=i:=λ q=>O.o.2.2.1 q.symm
      go_wp2_with fail;go_region;go_wp2;go_roundg (gk - 1)
      case measure=>have:=T.o;omega
      case rel=>exact⟨s,by go_num,by have:=T.o;omega,by have:=T.o;omega,swp a i pc,by rw[ET];exact G.o.1,by have:=I.o.1;simpa using this,t.o.1.drewSwap I.o.2.1 I.o.2.2,io t.o.2 _ _ _ _⟩
     | false =>
      go_upto_region 5 with fail
      refine Bb (S:=gN j) (by kernel_rfl) (by kernel_rfl) (Ao _ j).drew ?_
      repeat(go_big_quiet_step (with_reducible exact K _))
      refine AS ?_;intro _ p;obtain⟨u,b⟩:=p;subst b
      have t:Hid (SR u.w g D/\Aw (λ k=>k=g) w u.w):=by
       have q:a=D:=by have:=I.o.1;simpa using this
       rw[<- q];exact⟨E.o.1.below u.ok,E.o.2.trans (Aw.ofBelow u.ok) (λ _ _ q=>q)⟩
      clear K Y Z R;go_wp2
      first | (refine As (v:=Af #[]) (BN rfl _ _ _) rfl ?_) | (refine CN (v:=Af #[]) (BN rfl _ _ _) rfl ?_)
      exact⟨rfl,t⟩
   ·have aa:¬(C:Int)<(hi:Int):=by omega
    have ad:decide ((C:Int)<(hi:Int))=false:=by simpa using aa
    have ab:decide (C<hi)=false:=by simpa using ac
    have G:=Ih s1
    have SD:Hid (∀h:Bool,ltU a[F+r]! a[F+s]! = h->(if h=true then siftDown ltU hi F s (swp a (F+r) (F+s))else a)=D):=by
     intro h J;rw[<- L]at J ⊢;rw[<- NO (by omega) (by omega) h J];exact W
    have R1:=I2 X t1;clear HR s1 W X t1 L Q;go_upto_region 3 with fail;go_quiet (fail);obtain⟨j,A⟩:=Xb (wr.drewN nq)
    have E:Hid (SR j g a/\Aw (λ k=>k=g) w j):=by
     rw[A];have hq:=AY (Ao wr.heap.size wr) nq;exact⟨R1.o.1.below hq,R1.o.2.trans (Aw.ofBelow (S:=λ _=>False) hq) (λ _ _ q=>q.elim)⟩
    rw[<- A];clear A
    obtain⟨z,N⟩:∃z,a[F+r]! = z:=⟨_,rfl⟩
    obtain⟨v,M⟩:∃v,a[F+s]! = v:=⟨_,rfl⟩
    obtain⟨h,J⟩:=Xa (ltU z v);obtain⟨i,m⟩:=Xa (F+r);obtain⟨pc,l⟩:=Xa (F+s);have O:=I5 (by omega:i<n) (by omega:pc<n) (by omega:i≠pc) m l
    have af:(F:Int)+(r:Int)=(i:Int):=by omega
    have ae:(F:Int)+(s:Int)=(pc:Int):=by omega
    have ak:Ak.wrap (i:Int)=(i:Int):=by rw[Au];omega
    have aj:Ak.wrap (pc:Int)=(pc:Int):=by rw[Au];omega
    have ah:(i:Int)<(n:Int):=by omega
    have ag:(pc:Int)<(n:Int):=by omega
    rw[m]at N;rw[l]at M
    have Y:∀u:SW (gN j),u.w.cell? ⟨g,i,none⟩=some (uv z):=λ u=>by rw[<- N];exact(E.o.1.below u.ok).cell (by have:=G.o;omega)
    have Z:∀u:SW (gN j),u.w.cell? ⟨g,pc,none⟩=some (uv v):=λ u=>by rw[<- M];exact(E.o.1.below u.ok).cell (by have:=G.o;omega)
    have K:=λ u=>FV (wr:=j) z v h J u
    have R:Nonempty (SW (gN j)):=⟨⟨j,Ao _ j⟩⟩
    have I:=I3 (by rw[<- m,<- l];exact SD.o h (by rw[m,l,N,M];exact J):(if h=true then siftDown ltU hi F s (swp a i pc)else a)=D) N M;clear N M J m l SD
    cases h with
    | true =>
     go_upto_region 5 with fail
     refine Bb (S:=gN j) (by kernel_rfl) (by kernel_rfl) (Ao _ j).drew ?_
     repeat(go_big_quiet_step (with_reducible exact K _))
     refine AS ?_;intro _ p;obtain⟨u,b⟩:=p;subst b;obtain⟨P,B⟩:=Xb u.w
     have t:Hid (SR P g a/\Aw (λ k=>k=g) w P):=by
      rw[B];exact⟨E.o.1.below u.ok,E.o.2.trans (Aw.ofBelow u.ok) (λ _ _ q=>q)⟩
     rw[<- B];clear K Y Z R B u
     have k0:P.cell? ⟨g,i,none⟩=some (uv z):=by rw[<- I.o.2.1];exact t.o.1.cell (by have:=G.o;have:=O.o;omega)
     have k1:P.cell? ⟨g,pc,none⟩=some (uv v):=by rw[<- I.o.2.2];exact t.o.1.cell (by have:=G.o;have:=O.o;omega)
     have f0:=t.o.1.thaw i;have f1:=t.o.1.thaw pc;have nt:=O.o.2.2.1
     have ai:¬pc=i:=λ q=>O.o.2.2.1 q.symm
     go_wp2_with fail;go_region;go_wp2;go_roundg (gk - 1)
     case measure=>have:=T.o;omega
     case rel=>exact⟨s,by go_num,by have:=T.o;omega,by have:=T.o;omega,swp a i pc,by rw[ET];exact G.o,by have:=I.o.1;simpa using this,t.o.1.drewSwap I.o.2.1 I.o.2.2,io t.o.2 _ _ _ _⟩
    | false =>
     go_upto_region 5 with fail
     refine Bb (S:=gN j) (by kernel_rfl) (by kernel_rfl) (Ao _ j).drew ?_
     repeat(go_big_quiet_step (with_reducible exact K _))
     refine AS ?_;intro _ p;obtain⟨u,b⟩:=p;subst b
     have t:Hid (SR u.w g D/\Aw (λ k=>k=g) w u.w):=by
      have q:a=D:=by have:=I.o.1;simpa using this
      rw[<- q];exact⟨E.o.1.below u.ok,E.o.2.trans (Aw.ofBelow u.ok) (λ _ _ q=>q)⟩
     clear K Y Z R;go_wp2
     first | (refine As (v:=Af #[]) (BN rfl _ _ _) rfl ?_) | (refine CN (v:=Af #[]) (BN rfl _ _ _) rfl ?_)
     exact⟨rfl,t⟩
theorem eu(hi F:Nat):∀(m r:Nat) (d:Array UInt64),hi - r<=m->(siftDown ltU hi F r d).size=d.size:=by
 intro m
 induction m with
 | zero =>
  intro r d h;rw[Nr (by omega)]
 | succ m c =>
  intro r d h;by_cases b:2*r+1≥hi;rw[Nr b];by_cases a:2*r+2<hi/\ltU d[F+(2*r+1)]! d[F+(2*r+2)]! = true;rw[Qt a.1 a.2 _ rfl]
  split
  rw[c _ _ (by omega),ET]
  rfl
  rw[NO b a _ rfl]
  split
  rw[c _ _ (by omega),ET]
  rfl
theorem SV(h:d.size=n):(siftDown ltU hi F r d).size=n:=by rw[eu hi F _ r d (AA _),h]
theorem fE {w:World} {g n c a b:Nat} {d:Array UInt64} (h:SR w g d) (hd:d.size=n) (hab:a<b) (hb:b<=n) (hn:n<=1000000000000) :
  Calls Tryz.prog 124 #[.slice (some ⟨g,0,none⟩) n c,.int .i64 (a:Int),.int .i64 (b:Int)] w λ e w'=>e=.returned (.tuple #[])/\Hid (SR w' g (heapSort ltU d a b)/\Aw (λ k=>k=g) w w'):=by
 obtain ⟨D,hD⟩:=Xa (heapSort ltU d a b)
 rw [hD]
 obtain ⟨hi,hhi⟩:=Xa (b - a)
 obtain ⟨E1,hE1⟩:=Xa (heapBuild ltU hi a ((hi - 1) / 2+1) d)
 have H:Hid (SR w g d/\d.size=n/\heapBuild ltU hi a ((hi - 1) / 2+1) d=E1/\heapPop ltU a hi E1=D/\a+hi<=n/\1<=hi):=⟨h,hd,hE1,by rw [<- hD,<- hE1,<- hhi]; rfl,by omega,by omega⟩
 have s1:(b:Int) - (a:Int)=(hi:Int):=by omega
 have w1:IntKind.i64.wrap (hi:Int)=(hi:Int):=by rw [IntKind.wrap_i64]; omega
 obtain ⟨h1,hh1⟩:∃ h1,h1+1=hi:=⟨hi - 1,by omega⟩
 have s2:(hi:Int) - 1=(h1:Int):=by omega
 have w2:IntKind.i64.wrap (h1:Int)=(h1:Int):=by rw [IntKind.wrap_i64]; omega
 obtain ⟨hh,hhh⟩:=Xa (h1 / 2)
 have s3:(h1:Int).tdiv 2=(hh:Int):=by rw [<- hhh]; rfl
 have w3:IntKind.i64.wrap (hh:Int)=(hh:Int):=by rw [IntKind.wrap_i64]; omega
 have HH:Hid (h1+1=hi/\(hi - 1) / 2=hh/\hh<=n/\hi<=n):=⟨hh1,by omega,by omega,by omega⟩
 clear h hd hD hhi hE1 hh1 hhh;go_enter Tryz.func124,Tryz.ntmps124;go_wp2_with fail;go_loopg [9] (hh+1) (λ k v wr=>∃ z:Int,v=.int .i64 z/\k<=hh+1/\Hid (z=(k:Int) - 1/\∃ e:Array UInt64,e.size=n/\heapBuild ltU hi a k e=E1/\SR wr g e/\Aw (λ k=>k=g) w wr))
 case atStart=>exact ⟨_,rfl,Nat.le_refl _,by omega,d,H.o.2.1,by rw [<- HH.o.2.1]; exact H.o.2.2.1,H.o.1,Aw.refl _ _⟩
 case round =>
  obtain ⟨z,rfl,hk,HR⟩:=hrel;obtain ⟨hz,e1,z1,o1,r1,t1⟩:=HR.o
  cases gk with
  | succ t =>
   obtain rfl:z=(t:Int):=by omega
   have id:(0:Int)<=(t:Int):=by omega
   have hsi:=Sw (c:=c) (lo:=t) (hi:=hi) (F:=a) r1 z1 H.o.2.2.2.2.1 (by have:=HH.o; omega) hn
   obtain ⟨tm,htm⟩:∃ tm:Int,(t:Int) - 1=tm:=⟨_,rfl⟩
   have wm:IntKind.i64.wrap tm=tm:=by have:=HH.o.2.2; rw [IntKind.wrap_i64]; omega
   have O1:Hid (heapBuild ltU hi a t (siftDown ltU hi a t e1)=E1/\(siftDown ltU hi a t e1).size=n/\Aw (λ k=>k=g) w wr/\(t:Int) - 1=tm):=⟨o1,SV z1,t1,htm⟩
   clear HR z1 o1 r1 t1 hz;go_wp2_with fail;refine hsi.mono ?_;rintro e w2 ⟨rfl,H2⟩;go_wp2;go_roundg t
   case measure=>omega
   case rel=>exact ⟨tm,by go_num,by omega,O1.o.2.2.2.symm,_,O1.o.2.1,O1.o.1,H2.o.1,O1.o.2.2.1.trans H2.o.2 (λ _ _ q=>q)⟩
  | zero =>
   obtain rfl:z = -1:=by omega
   have R1:Hid (E1.size=n/\SR wr g E1/\Aw (λ k=>k=g) w wr):=by
    have q:e1=E1:=o1;rw [<- q];exact ⟨z1,r1,t1⟩
   clear HR z1 o1 r1 t1 hz hk;go_wp2_with fail;go_loopg [10] hi (λ k v wr=>∃ z:Int,v=.int .i64 z/\k<=hi/\Hid (z=(k:Int) - 1/\∃ e:Array UInt64,e.size=n/\heapPop ltU a k e=D/\SR wr g e/\Aw (λ k=>k=g) w wr))
   case atStart=>exact ⟨_,rfl,Nat.le_refl _,by have:=HH.o.1; omega,E1,R1.o.1,H.o.2.2.2.1,R1.o.2.1,R1.o.2.2⟩
   case round =>
    obtain ⟨z,rfl,hk,HR⟩:=hrel;obtain ⟨hz,e1,z1,o1,r1,t1⟩:=HR.o
    cases gk with
    | succ t =>
     obtain rfl:z=(t:Int):=by omega
     have id:(0:Int)<=(t:Int):=by omega
     obtain ⟨pc,hpc⟩:=Xa (a+t)
     have ipc:(a:Int)+(t:Int)=(pc:Int):=by omega
     have PB:pc<n:=by have:=H.o.2.2.2.2; omega
     have AB:a<n:=by have:=H.o.2.2.2.2; omega
     have wpc:IntKind.i64.wrap (pc:Int)=(pc:Int):=by rw [IntKind.wrap_i64]; omega
     have npc:(pc:Int)<(n:Int):=by omega
     have npa:(a:Int)<(n:Int):=by omega
     obtain ⟨x,hx⟩:∃ x,e1[a]! = x:=⟨_,rfl⟩
     obtain ⟨y,hy⟩:∃ y,e1[pc]! = y:=⟨_,rfl⟩
     have k0:wr.cell? ⟨g,a,none⟩=some (uv x):=by rw [<- hx]; exact r1.cell (by omega)
     have k1:wr.cell? ⟨g,pc,none⟩=some (uv y):=by rw [<- hy]; exact r1.cell (by omega)
     have f0:=r1.thaw a;have f1:=r1.thaw pc
     have k2:(wr.setCell ⟨g,a,none⟩ (uv y)).cell? ⟨g,pc,none⟩=some (uv y):=by
      rw [(r1.set a y).cell (by simp; omega)]
      congr 2
      by_cases q:pc=a
      ·subst q;simp [getElem!_pos,AB,z1]
      ·rw [<- hy];simp [getElem!_pos,z1,PB,Ne.symm q]
     have f2:=(r1.set a y).thaw pc
     obtain ⟨tm,htm⟩:∃ tm:Int,(t:Int) - 1=tm:=⟨_,rfl⟩
     have wm:IntKind.i64.wrap tm=tm:=by have:=HH.o.2.2; rw [IntKind.wrap_i64]; omega
     obtain ⟨w5,hw5⟩:=Xa (((wr.setCell ⟨g,a,none⟩ (uv y)).setCell ⟨g,pc,none⟩ (uv x)).drew)
     have S5:Hid (SR w5 g (swp e1 a pc)/\Aw (λ k=>k=g) w w5):=by
      rw [<- hw5];exact ⟨r1.drewSwap hx hy,io t1 _ _ _ _⟩
     have hsi:=Sw (c:=c) (lo:=0) (hi:=t) (F:=a) S5.o.1 (by rw [ET]; exact z1) (by have:=H.o.2.2.2.2; omega) (by omega) hn
     have O1:Hid (heapPop ltU a t (siftDown ltU t a 0 (swp e1 a pc))=D/\(siftDown ltU t a 0 (swp e1 a pc)).size=n/\(t:Int) - 1=tm):=⟨by rw [<- hpc]; exact o1,SV (by rw [ET]; exact z1),htm⟩
     have HW5:Hid _:=hw5;clear HR z1 o1 r1 t1 hz hpc hx hy hw5
     go_upto_region 10 with fail
     go_region
     all_goals
      try rw [HW5.o]
      go_wp2_with fail;refine hsi.mono ?_;rintro e w2 ⟨rfl,H2⟩;go_wp2;go_roundg t
      case measure=>omega
      case rel=>exact ⟨tm,by go_num,by omega,O1.o.2.2.symm,_,O1.o.2.1,O1.o.1,H2.o.1,S5.o.2.trans H2.o.2 (λ _ _ q=>q)⟩
    | zero =>
     obtain rfl:z = -1:=by omega
     have FIN:Hid (SR wr g D/\Aw (λ k=>k=g) w wr):=by
      have q:e1=D:=o1;rw [<- q];exact ⟨r1,t1⟩
     clear HR z1 o1 r1 t1 hz hk;go_wp2;refine bodyPost_end (v:=.tuple #[]) (results_none rfl _ _ _) rfl ?_;exact ⟨rfl,FIN⟩
def jL(w:Ap)(b:Nat)(s:Nat):Prop:=w.heap[b]? = some (.cells #[Ab Ak (s:Int)] 3 (0,0))
section
variable {w w':World}{b s:Nat}
theorem jL.lt(h:jL w b s):b<w.heap.size:=(Array.getElem?_eq_some_iff.1 h).1
theorem jL.cell(h:jL w b s):w.cell? ⟨b,0,none⟩=some (Ab Ak (s:Int)):=by
 unfold jL at h;simp[World.cell?,h]
theorem jL.thaw(h:jL w b s):w.frozen? ⟨b,0,none⟩=false:=by
 unfold jL at h;simp[World.frozen?,h]
theorem jL.below(h:jL w b s)(a:Iz w w'):jL w' b s:=(a.block b h.lt).trans h
theorem jL.set(h:jL w b s)(a:Nat):jL (w.setCell ⟨b,0,none⟩ (Ab Ak (a:Int))) b a:=by
 unfold jL at h ⊢;simp[World.setCell,Array.getElem?_modify,h]
end
theorem MX {w:World} {g n c a b sb s:Nat} {d:Array UInt64} (h:SR w g d) (hd:d.size=n) (ha:a<n) (hb:b<n) (_hn:n<=1000000000000) (hB:jL w sb s) (hs:s<=1000) (_hne:sb≠g) (r:Nat×Nat×Nat) (hr:order2 ltU d a b s=r) :
  Calls Tryz.prog 206 #[.slice (some ⟨g,0,none⟩) n c,.int .i64 (a:Int),.int .i64 (b:Int),.pointer (some ⟨sb,0,none⟩)] w λ e w'=>e=.returned (.tuple #[.int .i64 (r.1:Int),.int .i64 (r.2.1:Int)])/\Hid (jL w' sb r.2.2/\Aw (λ k=>k=sb) w w'):=by
 obtain ⟨x,hx⟩:∃ x,d[b]! = x:=⟨_,rfl⟩
 obtain ⟨y,hy⟩:∃ y,d[a]! = y:=⟨_,rfl⟩
 obtain ⟨f,hf⟩:=Xa (ltU x y)
 have q0:∀ u:SW (gN w),u.w.cell? ⟨g,b,none⟩=some (uv x):=λ u=>by rw [<- hx]; exact (h.below u.ok).cell (by omega)
 have q1:∀ u:SW (gN w),u.w.cell? ⟨g,a,none⟩=some (uv y):=λ u=>by rw [<- hy]; exact (h.below u.ok).cell (by omega)
 have hL:=λ u=>FV (wr:=w) x y f hf u
 have NE:Nonempty (SW (gN w)):=⟨⟨w,Below.refl _ w⟩⟩
 have na:(a:Int)<(n:Int):=by omega
 have nb:(b:Int)<(n:Int):=by omega
 have HB:Hid (jL w sb s):=hB
 have hr':r=if f=true then (b,a,s+1) else (a,b,s):=by
  rw [<- hr];unfold order2;rw [hx,hy,hf]
 clear h hd hB hx hy hf hr
 cases f with
 | true =>
  obtain rfl:r=(b,a,s+1):=by simpa using hr'
  clear hr';go_enter Tryz.func206,Tryz.ntmps206
  go_upto_region 1 with fail
  refine Bb (S:=gN w) (by kernel_rfl) (by kernel_rfl) (Below.refl _ w).drew ?_
  repeat (go_big_quiet_step (with_reducible exact hL _))
  refine wpQuiet_nil ?_;intro _ hw';obtain ⟨u,hw''⟩:=hw';subst hw''
  obtain ⟨w4,hw4⟩:=Xb u.w
  have B4:Hid (jL w4 sb s/\Below w.heap.size w w4):=by rw [hw4]; exact ⟨HB.o.below u.ok,u.ok⟩
  rw [<- hw4];clear hL q0 q1 NE hw4 u;have k0:=B4.o.1.cell;have k1:=B4.o.1.thaw
  have s1:(s:Int)+1=((s+1:Nat):Int):=by omega
  obtain ⟨s2,hs2⟩:=Xa (s+1)
  rw [hs2] at s1
  have sw:IntKind.i64.wrap (s2:Int)=(s2:Int):=by rw [IntKind.wrap_i64]; omega
  have S2:Hid (s+1=s2):=hs2;clear hs2;go_wp2;refine bodyPost_ret (results_tmp2 rfl _ _ _) rfl ?_;refine ⟨rfl,?_⟩;rw [S2.o];exact ⟨B4.o.1.set s2,(Aw.ofBelow B4.o.2).trans ((Aw.refl (λ k=>k=sb) w4).setCell (p:=⟨sb,0,none⟩) (.inl rfl) _) (λ _ _ q=>q)⟩
 | false =>
  obtain rfl:r=(a,b,s):=by simpa using hr'
  clear hr';go_enter Tryz.func206,Tryz.ntmps206
  go_upto_region 1 with fail
  refine Bb (S:=gN w) (by kernel_rfl) (by kernel_rfl) (Below.refl _ w).drew ?_
  repeat (go_big_quiet_step (with_reducible exact hL _))
  refine wpQuiet_nil ?_;intro _ hw';obtain ⟨u,hw''⟩:=hw';subst hw''
  have B4:Hid (jL u.w sb s/\Below w.heap.size w u.w):=⟨HB.o.below u.ok,u.ok⟩
  clear hL q0 q1 NE;go_wp2;refine bodyPost_ret (results_tmp2 rfl _ _ _) rfl ?_;exact ⟨rfl,B4.o.1,Aw.ofBelow B4.o.2⟩
theorem JK(c:a<n)(e:b<n):(order2 ltU d a b s).1<n/\(order2 ltU d a b s).2.1<n/\(order2 ltU d a b s).2.2<=s+1:=by
 unfold order2
 split
 exact⟨e,c,by simp⟩
 exact⟨c,e,by simp⟩
theorem M8(h:SR w g d)(hd:d.size=n)(J:a<n)(K:b<n)(L:e0<n)(A:n<=1000000000000)(N:jL w i s)(T:s<=900)(f:i≠g)(r:Nat×Nat)(O:median ltU d a b e0 s=r):
  At Am 183 #[Aa (some ⟨g,0,none⟩) n c,Ab Ak (a:Int),Ab Ak (b:Int),Ab Ak (e0:Int),.pointer (some ⟨i,0,none⟩)] w λ e w'=>e=Aj (Ab Ak (r.1:Int))/\Hid (jL w' i r.2/\Aw (λ k=>k=i) w w'):=by
 obtain⟨p,j⟩:=Xa (order2 ltU d a b s)
 obtain⟨v,l⟩:=Xa (order2 ltU d p.2.1 e0 p.2.2)
 obtain⟨C,m⟩:=Xa (order2 ltU d p.1 v.1 v.2.2)
 have t:=JK (d:=d) (s:=s) J K;rw[j]at t;have B:=JK (d:=d) (s:=p.2.2) t.2.1 L;rw[l]at B;have P:=JK (d:=d) (s:=v.2.2) t.1 B.1;rw[m]at P
 obtain rfl:(C.2.1,C.2.2)=r:=by
  rw[<- O];unfold median;simp only[j,l,m]
 have G:=MX (c:=c) h hd J K A N (by omega) f p j
 have H:=λ(u:Ap) (q:Aw (λ k=>k=i) w u) (M:jL u i p.2.2)=>MX (c:=c) (h.turned q (λ e=>f e.symm)) hd t.2.1 L A M (by omega) f v l
 have I:=λ(u:Ap) (q:Aw (λ k=>k=i) w u) (M:jL u i v.2.2)=>MX (c:=c) (h.turned q (λ e=>f e.symm)) hd t.1 B.1 A M (by omega) f C m
 obtain⟨U,V,W⟩:=p;obtain⟨X,Y,Z⟩:=v;obtain⟨z1,z2,z3⟩:=C;simp only at G H I;clear h hd J K L A N T f O j l m t B P;go_enter func183,ntmps183;go_wp2_with fail;refine G.mono ?_;rintro e w1 ⟨rfl,z⟩;have x:=H w1 z.o.2 z.o.1;clear G H;go_wp2_with fail;refine x.mono ?_;rintro e Q ⟨rfl,D⟩;have F:Hid (Aw (λ k=>k=i) w Q):=z.o.2.trans D.o.2 (λ _ _ q=>q);have y:=I Q F.o D.o.1;clear x I;go_wp2_with fail;refine y.mono ?_;rintro e R ⟨rfl,E⟩
 have S:=I2 E.o.1 (F.o.trans E.o.2 (λ _ _ q=>q):Aw (λ k=>k=i) w R)
 clear y z D E F;go_wp2;go_ret;exact⟨rfl,S⟩
theorem MA(h:SR w g d)(hd:d.size=n)(j:0<a)(v:a+1<n)(x:n<=1000000000000)(o:jL w i s)(q:s<=900)(f:i≠g)(r:Nat×Nat)(p:medianAdjacent ltU d a s=r):
  At Am 182 #[Aa (some ⟨g,0,none⟩) n c,Ab Ak (a:Int),.pointer (some ⟨i,0,none⟩)] w λ e w'=>e=Aj (Ab Ak (r.1:Int))/\Hid (jL w' i r.2/\Aw (λ k=>k=i) w w'):=by
 obtain⟨a1,l⟩:=Xa (a - 1)
 obtain⟨a2,m⟩:=Xa (a+1)
 have u:=M8 (c:=c) (a:=a1) (b:=a) (e0:=a2) h hd (by omega) (by omega) (by omega) x o q f r (by rw[<- l,<- m];exact p)
 have y:(a:Int) - 1=(a1:Int):=by omega
 have z:(a:Int)+1=(a2:Int):=by omega
 have w1:Ak.wrap (a1:Int)=(a1:Int):=by rw[Au];omega
 have A:Ak.wrap (a2:Int)=(a2:Int):=by rw[Au];omega
 clear h hd j v o q f p l m;go_enter func182,ntmps182;go_wp2_with fail;refine u.mono ?_;rintro e B ⟨rfl,t⟩;go_wp2;go_ret;exact⟨rfl,t⟩
theorem jL.new(w:Ap):jL (w.alloc (.cells #[Ab Ak 0] 3)) w.heap.size 0:=by
 show(w.heap.push _)[w.heap.size]? = _;simp
theorem Jg(e:a<n)(f:b<n)(g:e0<n):(median ltU d a b e0 s).1<n/\(median ltU d a b e0 s).2<=s+3:=by
 have c:=JK (d:=d) (s:=s) e f;have h:=JK (d:=d) (s:=(order2 ltU d a b s).2.2) c.2.1 g;have i:=JK (d:=d) (s:=(order2 ltU d (order2 ltU d a b s).2.1 e0 (order2 ltU d a b s).2.2).2.2) c.1 h.1;exact⟨i.2.1,by unfold median;simp only;omega⟩
theorem Nz(b:a+1<n):(medianAdjacent ltU d a s).1<n/\(medianAdjacent ltU d a s).2<=s+3:=Jg (by omega) (by omega) b
def lI:Hint->Int
 | .unknown=>0
 | .increasing=>1
 | .decreasing=>2
def lH(s:Nat):Int:=if s=0 then 1 else if s=12 then 2 else 0
theorem Sp(s:Nat):lI (if s=0 then .increasing else if s=12 then .decreasing else .unknown)=lH s:=by
 unfold lH
 split
 rfl
 ·split <;> rfl
theorem nU(a:¬s=0)(b:¬s=12):lH s=0:=by
 unfold lH;rw[Ay a,Ay b]
theorem XF(h:SR w g d)(hd:d.size=n)(aa:a+8<=b)(hb:b<=n)(M:n<=1000000000000)(r:Nat×Hint)(hr:choosePivot ltU d a b=r):
  At Am 126 #[Aa (some ⟨g,0,none⟩) n c,Ab Ak (a:Int),Ab Ak (b:Int)] w λ e w'=>e=Aj (Af #[Ab Ak (r.1:Int),Ab Ak (lI r.2)])/\Hid (Below w.heap.size w w'):=by
 obtain⟨l,hl⟩:=Xa (b - a)
 obtain⟨q,hq⟩:=Xa (l / 4)
 obtain⟨I,h1⟩:=Xa (a+q)
 obtain⟨z,h2⟩:=Xa (a+q*2)
 obtain⟨A,h3⟩:=Xa (a+q*3)
 obtain⟨Q,D⟩:=Xa (q*2)
 obtain⟨R,E⟩:=Xa (q*3)
 have b1:0<I/\I+1<n:=by omega
 have b2:0<z/\z+1<n:=by omega
 have V:0<A/\A+1<n:=by omega
 have m0:(b:Int) - (a:Int)=(l:Int):=by omega
 have m1:(l:Int).tdiv 4=(q:Int):=by rw[<- hq];rfl
 have m2:(q:Int)*2=(Q:Int):=by omega
 have m3:(q:Int)*3=(R:Int):=by omega
 have m4:(a:Int)+(q:Int)=(I:Int):=by omega
 have m5:(a:Int)+(Q:Int)=(z:Int):=by omega
 have m6:(a:Int)+(R:Int)=(A:Int):=by omega
 have w0:Ak.wrap (l:Int)=(l:Int):=by rw[Au];omega
 have w1:Ak.wrap (q:Int)=(q:Int):=by rw[Au];omega
 have w2:Ak.wrap (Q:Int)=(Q:Int):=by rw[Au];omega
 have w3:Ak.wrap (R:Int)=(R:Int):=by rw[Au];omega
 have w4:Ak.wrap (I:Int)=(I:Int):=by rw[Au];omega
 have w5:Ak.wrap (z:Int)=(z:Int):=by rw[Au];omega
 have w6:Ak.wrap (A:Int)=(A:Int):=by rw[Au];omega
 have g8:(8:Int)<=(l:Int):=by omega
 obtain⟨v,ac⟩:=Xa w.heap.size
 obtain⟨W,P⟩:=Xb (w.alloc (.cells #[Ab Ak 0] 3))
 have y:SR W g d/\jL W v 0/\Below w.heap.size w W:=by
  have hB:Below w.heap.size w W:=by rw[P];exact(Ao _ w).alloc (AA _) _
  exact⟨h.below hB,by rw[P,<- ac];exact jL.new w,hB⟩
 have f:v≠g:=by have:=h.lt;omega
 have x:∀U:Ap,Aw (λ k=>k=v) W U->Below w.heap.size w U:=λ U t=>y.2.2.trans (t.below (y.2.2.size) (λ k hk e=>by omega))
 have O:=Ih x;by_cases C:50<=l
 ·obtain⟨S,F⟩:=Xa (medianAdjacent ltU d I 0)
  obtain⟨T,G⟩:=Xa (medianAdjacent ltU d z S.2)
  obtain⟨rk,H⟩:=Xa (medianAdjacent ltU d A T.2)
  obtain⟨rm,i⟩:=Xa (median ltU d S.1 T.1 rk.1 rk.2)
  have e1:=Nz (d:=d) (s:=0) b1.2;rw[F]at e1;have e2:=Nz (d:=d) (s:=S.2) b2.2;rw[G]at e2;have e3:=Nz (d:=d) (s:=T.2) V.2;rw[H]at e3;have L:=Jg (d:=d) (s:=rk.2) e1.1 e2.1 e3.1;rw[i]at L
  have m:r=(rm.1,if rm.2=0 then .increasing else if rm.2=12 then .decreasing else .unknown):=by
   rw[<- hr];unfold choosePivot;simp only[hl,hq,Df,D,E]
   have p1:l≥8:=by omega
   have p2:=C
   have p3:a+Q=z:=by omega
   have p4:a+R=A:=by omega
   simp only[p1,p2,p3,p4,h1,Ff,F,G,H,i]
  have c1:=MA (c:=c) y.1 hd b1.1 b1.2 M y.2.1 (by omega) f S F
  have c2:=λ(u:Ap) (t:Aw (λ k=>k=v) W u) (hu:jL u v S.2)=>MA (c:=c) (y.1.turned t (λ e=>f e.symm)) hd b2.1 b2.2 M hu (by omega) f T G
  have c3:=λ(u:Ap) (t:Aw (λ k=>k=v) W u) (hu:jL u v T.2)=>MA (c:=c) (y.1.turned t (λ e=>f e.symm)) hd V.1 V.2 M hu (by omega) f rk H
  have K:=λ(u:Ap) (t:Aw (λ k=>k=v) W u) (hu:jL u v rk.2)=>M8 (c:=c) (y.1.turned t (λ e=>f e.symm)) hd e1.1 e2.1 e3.1 M hu (by omega) f rm i
  have N:lI r.2=lH rm.2:=by rw[m];exact Sp _
  have p:r.1=rm.1:=by rw[m]
  rw[N,p]
  obtain⟨hz,j⟩:=Xa (lH rm.2)
  rw[j];have B:=Ih j;clear j;obtain⟨x1,x2⟩:=S;obtain⟨y1,y2⟩:=T;obtain⟨z1,z2⟩:=rk;obtain⟨u1,u2⟩:=rm;simp only at c1 c2 c3 K N p L B
  have ab:(50:Int)<=(l:Int):=by omega
  clear h hd aa hb M hr m N p hl hq h1 h2 h3 D E b1 b2 V y f x F G H i e1 e2 e3 L C;go_enter func126,ntmps126
  go_upto_region 3 with fail
  rw[<- P];clear P;go_wp2_with fail;refine c1.mono ?_;rintro e wa ⟨rfl,H1⟩;have X:=c2 wa H1.o.2 H1.o.1;clear c1 c2;go_wp2_with fail;refine X.mono ?_;rintro e wb ⟨rfl,H2⟩;have T2:Hid (Aw (λ k=>k=v) W wb):=H1.o.2.trans H2.o.2 (λ _ _ q=>q);have Y:=c3 wb T2.o H2.o.1;clear X c3;go_wp2_with fail;refine Y.mono ?_;rintro e wc ⟨rfl,H3⟩;have T3:Hid (Aw (λ k=>k=v) W wc):=T2.o.trans H3.o.2 (λ _ _ q=>q);have Z:=K wc T3.o H3.o.1;clear Y K;go_wp2_with fail;refine Z.mono ?_;rintro e wd ⟨rfl,J⟩;have T4:Hid (Aw (λ k=>k=v) W wd):=T3.o.trans J.o.2 (λ _ _ q=>q);have k0:=J.o.1.cell;clear Z H1 H2 H3 T2 T3;by_cases s0:u2=0
  ·subst s0;go_wp2;refine As (AD rfl _ _ _) rfl ?_;exact⟨by rw[<- B.o];rfl,O.o _ T4.o⟩
  ·by_cases s1:u2=12
   ·subst s1;go_wp2;refine As (AD rfl _ _ _) rfl ?_;exact⟨by rw[<- B.o];rfl,O.o _ T4.o⟩
   ·have z0:¬(u2:Int)=0:=by omega
    have z1:¬(u2:Int)=12:=by omega
    go_wp2;refine As (AD rfl _ _ _) rfl ?_;exact⟨by rw[<- B.o];rw[nU s0 s1];rfl,O.o _ T4.o⟩
 ·obtain⟨rm,i⟩:=Xa (median ltU d I z A 0)
  have L:=Jg (d:=d) (s:=0) (a:=I) (b:=z) (e0:=A) (n:=n) (by omega) (by omega) (by omega);rw[i]at L
  have m:r=(rm.1,if rm.2=0 then .increasing else if rm.2=12 then .decreasing else .unknown):=by
   rw[<- hr];unfold choosePivot;simp only[hl,hq,Df,D,E]
   have p1:l≥8:=by omega
   have p2:=C
   have p3:a+Q=z:=by omega
   have p4:a+R=A:=by omega
   simp only[p1,p2,p3,p4,h1,Ff,Ek,i]
  have K:=M8 (c:=c) y.1 hd (a:=I) (b:=z) (e0:=A) (by omega) (by omega) (by omega) M y.2.1 (by omega) f rm i
  have N:lI r.2=lH rm.2:=by rw[m];exact Sp _
  have p:r.1=rm.1:=by rw[m]
  rw[N,p]
  obtain⟨hz,j⟩:=Xa (lH rm.2)
  rw[j];have B:=Ih j;clear j;obtain⟨u1,u2⟩:=rm;simp only at K N p L B
  have ab:¬(50:Int)<=(l:Int):=by omega
  clear h hd aa hb M hr m N p hl hq h1 h2 h3 D E b1 b2 V y f x i L C;go_enter func126,ntmps126
  go_upto_region 3 with fail
  rw[<- P];clear P;go_wp2_with fail;refine K.mono ?_;rintro e wd ⟨rfl,J⟩;have k0:=J.o.1.cell;clear K;by_cases s0:u2=0
  ·subst s0;go_wp2;refine As (AD rfl _ _ _) rfl ?_;exact⟨by rw[<- B.o];rfl,O.o _ J.o.2⟩
  ·by_cases s1:u2=12
   ·subst s1;go_wp2;refine As (AD rfl _ _ _) rfl ?_;exact⟨by rw[<- B.o];rfl,O.o _ J.o.2⟩
   ·have z0:¬(u2:Int)=0:=by omega
    have z1:¬(u2:Int)=12:=by omega
    go_wp2;refine As (AD rfl _ _ _) rfl ?_;exact⟨by rw[<- B.o];rw[nU s0 s1];rfl,O.o _ J.o.2⟩
theorem Mb(h:(decide (i<=j)&&p d[i]!)=true):scanUp p d j i=scanUp p d j (i+1):=by
 rw[scanUp,AC h]
theorem KD(h:(decide (i<=j)&&p d[i]!)=false):scanUp p d j i=i:=by
 rw[scanUp,Ay (by rw[h];decide)]
theorem LZ(hi:1<=i)(h:(decide (i<=j)&&p d[j]!)=true):scanDown p d i j=scanDown p d i (j - 1):=by
 cases j with
 | zero=>simp at h;omega
 | succ j=>rw[scanDown,AC h];rfl
theorem L6(h:(decide (i<=j)&&p d[j]!)=false):scanDown p d i j=j:=by
 cases j with
 | zero=>rfl
 | succ j=>rw[scanDown,Ay (by rw[h];decide)]
theorem oH(p:UInt64->Bool)(d:Array UInt64)(j i:Nat):i<=scanUp p d j i/\(decide (scanUp p d j i<=j)&&p d[scanUp p d j i]!)=false:=by
 generalize b:j+1 - i=m
 induction m generalizing i with
 | zero =>
  have h:(decide (i<=j)&&p d[i]!)=false:=by simp;intro q;omega
  rw[KD h];exact⟨AA _,h⟩
 | succ m a =>
  cases h:(decide (i<=j)&&p d[i]!)with
  | false=>rw[KD h];exact⟨AA _,h⟩
  | true =>
   rw[Mb h];have:=a (i+1) (by omega);exact⟨by omega,this.2⟩
theorem o5(p:UInt64->Bool)(d:Array UInt64)(i:Nat)(hi:1<=i):∀j,scanDown p d i j<=j/\(decide (i<=scanDown p d i j)&&p d[scanDown p d i j]!)=false:=by
 intro j
 induction j with
 | zero=>exact⟨by rw[scanDown];exact AA _,by rw[scanDown];simp;intro q;omega⟩
 | succ j a =>
  cases h:(decide (i<=j+1)&&p d[j+1]!)with
  | false=>rw[L6 h];exact⟨AA _,h⟩
  | true =>
   rw[LZ hi h];exact⟨by have:=a.1;simp only[Nat.add_sub_cancel];omega,a.2⟩
theorem Kz{q:UInt64->Bool}(b:∀x,q x=!p x)(hi:1<=i)(f:scanUp p d j i=a)(g:scanDown q d a j=c):i<=a/\c<=j/\a≠c:=by
 have a1:=oH p d j i;rw[f]at a1;have a2:=o5 q d a (by omega) j;rw[g]at a2;refine⟨a1.1,a2.1,?_⟩;intro e;subst e;have b1:=a1.2;have b2:=a2.2
 have h:decide (a<=j)=true:=by simpa using a2.1
 have k:decide (a<=a)=true:=by simp
 rw[h,Ci]at b1;rw[k,Ci,b,b1]at b2;cases b2
theorem Y3(e:scanUp (λ x=>ltU x d[a]!) d j i=b)(f:scanDown (λ x=>!ltU x d[a]!) d b j=c)(h:c<b):partLoop ltU a i j d=(c,d):=by
 rw[partLoop];simp only[e,f];rw[AC h]
theorem XL(hi:1<=i)(e:scanUp (λ x=>ltU x d[a]!) d j i=b)(f:scanDown (λ x=>!ltU x d[a]!) d b j=c)(h:¬c<b):partLoop ltU a i j d=partLoop ltU a (b+1) (c - 1) (swp d b c):=by
 have g:=Kz (p:=λ x=>ltU x d[a]!) (q:=λ x=>!ltU x d[a]!) (λ _=>rfl) hi e f;rw[partLoop];simp only[e,f];rw[Ay h,dif_pos (by omega)]
theorem WZ(e:scanUp (λ x=>!ltU d[a]! x) d j i=b)(f:scanDown (λ x=>ltU d[a]! x) d b j=c)(h:c<b):partEqLoop ltU a i j d=(b,d):=by
 rw[partEqLoop];simp only[e,f];rw[AC h]
theorem Yu(hi:1<=i)(e:scanUp (λ x=>!ltU d[a]! x) d j i=b)(f:scanDown (λ x=>ltU d[a]! x) d b j=c)(h:¬c<b):partEqLoop ltU a i j d=partEqLoop ltU a (b+1) (c - 1) (swp d b c):=by
 have g:=Kz (p:=λ x=>!ltU d[a]! x) (q:=λ x=>ltU d[a]! x) (λ _=>by simp) hi e f;rw[partEqLoop];simp only[e,f];rw[Ay h,dif_pos (by omega)]
theorem dF{p:Nat}(h:SR w g d)(hd:d.size=n)(ao:a<p)(aq:p<b)(hb:b<=n)(hn:n<=1000000000000)(r:Nat×Bool×Array UInt64)(hr:partition ltU d a b p=r):
  At Am 131 #[Aa (some ⟨g,0,none⟩) n c,Ab Ak (a:Int),Ab Ak (b:Int),Ab Ak (p:Int)] w λ e w'=>e=Aj (Af #[Ab Ak (r.1:Int),Ad r.2.1])/\Hid (SR w' g r.2.2/\Aw (λ k=>k=g) w w'):=by
 obtain⟨C,ai⟩:=Xa (b - 1)
 have b1:(b:Int) - 1=(C:Int):=by omega
 have bw:Ak.wrap (C:Int)=(C:Int):=by rw[Au];omega
 have W0:=I3 h hd (Aw.refl _ _:Aw (λ k=>k=g) w w)
 have HP:Hid (∀i j,scanUp (λ x=>ltU x (swp d a p)[a]!) (swp d a p) C (a+1)=i->scanDown (λ x=>!ltU x (swp d a p)[a]!) (swp d a p) i C=j->(j<i->r=(j,true,swp (swp d a p) j a))/\(¬j<i->∀R,partLoop ltU a (i+1) (j - 1) (swp (swp d a p) i j)=R->r=(R.1,false,swp R.2 R.1 a))):=by
  intro i j hi hj;rw[<- hr];unfold partition;simp only[ai,hi,hj];refine⟨λ q=>by rw[AC q],λ q R hR=>?_⟩;rw[Ay q,hR]
 have BB:C+1=b:=by omega
 clear h hd hr ai;go_enter func131,ntmps131
 obtain⟨x,t⟩:∃x,d[a]! = x:=⟨_,rfl⟩
 obtain⟨y,A⟩:∃y,d[p]! = y:=⟨_,rfl⟩
 have D:=W0.o.2.1
 have c0:w.cell? ⟨g,a,none⟩=some (uv x):=by rw[<- t];exact W0.o.1.cell (by omega)
 have c1:w.cell? ⟨g,p,none⟩=some (uv y):=by rw[<- A];exact W0.o.1.cell (by omega)
 have H:=W0.o.1.thaw a;have f1:=W0.o.1.thaw p
 have z0:(0:Int)<=(a:Int):=by omega
 have z1:(0:Int)<=(p:Int):=by omega
 have z2:(a:Int)<(n:Int):=by omega
 have z3:(p:Int)<(n:Int):=by omega
 have nt:¬a=p:=by omega
 have V:¬p=a:=λ e=>nt e.symm
 have s:=I2 t A
 clear t A D;go_wp2_with fail;go_region
 have W1:Hid (SR (((w.setCell ⟨g,a,none⟩ (Ab Al (y.toNat:Int))).setCell ⟨g,p,none⟩ (Ab Al (x.toNat:Int))).drew) g (swp d a p)/\(swp d a p).size=n/\Aw (λ k=>k=g) w (((w.setCell ⟨g,a,none⟩ (Ab Al (y.toNat:Int))).setCell ⟨g,p,none⟩ (Ab Al (x.toNat:Int))).drew)) :=
  ⟨W0.o.1.drewSwap s.o.1 s.o.2,by rw[ET];exact W0.o.2.1,io W0.o.2.2 _ _ _ _⟩
 obtain⟨w1,ak⟩:=Xb (((w.setCell ⟨g,a,none⟩ (Ab Al (y.toNat:Int))).setCell ⟨g,p,none⟩ (Ab Al (x.toNat:Int))).drew)
 obtain⟨E,hE⟩:=Xb (swp d a p)
 rw[<- ak]at W1 ⊢;rw[<- hE]at W1 HP;clear ak hE s c0 c1 H f1 z0 z1 z2 z3 nt V W0
 obtain⟨I,hI⟩:=Xa (scanUp (λ x=>ltU x E[a]!) E C (a+1))
 have HI:=Ih hI;clear hI;go_wp2_with fail;go_loopg[10] (C+1) (λ k v wr=>∃i:Nat,v=Ab Ak i/\C+1<=i+k/\a+1<=i/\i<=b/\Hid (scanUp (λ x=>ltU x E[a]!) E C i=I/\SR wr g E/\Aw (λ k=>k=g) w wr))
 case atStart=>exact⟨(a+1),by first | rfl | go_num,by omega,by omega,by omega,HI.o,W1.o.1,W1.o.2.2⟩
 case round =>
  obtain⟨i,rfl,am,ad,ae,l⟩:=hrel
  go_upto_region 3 with fail
  go_cut[43]from 30 to 45 (λ tv u=>∃v f,v=u/\tv=Ad f/\Hid ((decide (i<=C)&&(λ x=>ltU x E[a]!) E[i]!)=f/\SR v g E/\Aw (λ k=>k=g) w v))
  case first =>
   by_cases K:i<=C
   ·obtain⟨x,t⟩:∃x,E[i]! = x:=⟨_,rfl⟩
    obtain⟨y,A⟩:∃y,E[a]! = y:=⟨_,rfl⟩
    obtain⟨H,P⟩:=Xa (ltU x y)
    have hs:=W1.o.2.1
    have q0:∀u:SW (gN wr),u.w.cell? ⟨g,i,none⟩=some (uv x):=λ u=>by rw[<- t];exact(l.o.2.1.below u.ok).cell (by omega)
    have q1:∀u:SW (gN wr),u.w.cell? ⟨g,a,none⟩=some (uv y):=λ u=>by rw[<- A];exact(l.o.2.1.below u.ok).cell (by omega)
    have W:=λ u=>FV (wr:=wr) x y H P u
    have NE:Nonempty (SW (gN wr)):=⟨⟨wr,Ao _ wr⟩⟩
    have T:(i:Int)<=(C:Int):=by omega
    have j2:decide ((i:Int)<=(C:Int))=true:=by simpa using T
    have j3:decide (i<=C)=true:=by simpa using K
    have j4:(i:Int)<(n:Int):=by omega
    have j5:(a:Int)<(n:Int):=by omega
    have j6:(0:Int)<=(i:Int):=by omega
    have j7:(0:Int)<=(a:Int):=by omega
    have M:Hid ((decide (i<=C)&&(λ x=>ltU x E[a]!) E[i]!)=(H)):=by
     show _=_;simp only[t,A,P,j3,Ci]
    clear t A P hs
    cases H with
    | true =>
     refine Bb (S:=gN wr) (by kernel_rfl) (by kernel_rfl) (Ao _ wr).drew ?_
     repeat(go_big_quiet_step (with_reducible exact W _))
     refine AS ?_;intro _ B;obtain⟨u,m⟩:=B;subst m;go_wp2_with fail;go_meet;exact⟨_,_,rfl,rfl,M.o,l.o.2.1.below u.ok,l.o.2.2.trans (Aw.ofBelow u.ok) (λ _ _ q=>q)⟩
    | false =>
     refine Bb (S:=gN wr) (by kernel_rfl) (by kernel_rfl) (Ao _ wr).drew ?_
     repeat(go_big_quiet_step (with_reducible exact W _))
     refine AS ?_;intro _ B;obtain⟨u,m⟩:=B;subst m;go_wp2_with fail;go_meet;exact⟨_,_,rfl,rfl,M.o,l.o.2.1.below u.ok,l.o.2.2.trans (Aw.ofBelow u.ok) (λ _ _ q=>q)⟩
   ·have T:¬(i:Int)<=(C:Int):=by omega
    have j2:decide ((i:Int)<=(C:Int))=false:=by simpa using T
    have M:Hid ((decide (i<=C)&&(λ x=>ltU x E[a]!) E[i]!)=false):=by
     show _=_;simp[K]
    go_quiet (fail);go_wp2_with fail;go_meet;have hq:=AY (Ao wr.heap.size wr) nq;exact⟨_,false,rfl,rfl,M.o,l.o.2.1.below hq,l.o.2.2.trans (Aw.ofBelow (S:=λ _=>False) hq) (λ _ _ q=>q.elim)⟩
  case rest =>
   obtain⟨v,f,rfl,rfl,z⟩:=hcut
   cases f with
   | true =>
    have af:i<=C:=by
     have:=z.o.1;simp only[Bn,A9]at this;exact this.1
    have HN:Hid (scanUp (λ x=>ltU x E[a]!) E C (i+1)=I):=by
     have:=l.o.1;rw[Mb (p:=(λ x=>ltU x E[a]!)) z.o.1]at this;exact this
    clear l;go_wp2;go_roundg (gk - 1)
    case measure=>omega
    case rel=>exact⟨i+1,by go_num,by omega,by omega,by omega,HN.o,z.o.2.1,z.o.2.2⟩
   | false =>
    have FI:Hid (scanUp (λ x=>ltU x E[a]!) E C (a+1)=i):=by
     have:=l.o.1;rw[KD (p:=(λ x=>ltU x E[a]!)) z.o.1]at this;exact HI.o.trans this.symm
    have Wu:=I3 z.o.2.1 W1.o.2.1 z.o.2.2
    clear l z HI
    obtain⟨J,hJ⟩:=Xa (scanDown (λ x=>!ltU x E[a]!) E i C)
    have HJ:=Ih hJ;clear hJ;go_wp2_with fail;go_loopg[11] (C) (λ k v wr=>∃j:Nat,v=Ab Ak j/\j<=k/\a<=j/\j<b/\Hid (scanDown (λ x=>!ltU x E[a]!) E i j=J/\SR wr g E/\Aw (λ k=>k=g) w wr))
    case atStart=>exact⟨C,by first | rfl | go_num,by omega,by omega,by omega,HJ.o,Wu.o.1,Wu.o.2.2⟩
    case round =>
     obtain⟨j,rfl,al,ad,ae,l⟩:=hrel
     go_upto_region 5 with fail
     go_cut[60]from 46 to 62 (λ tv u=>∃v f,v=u/\tv=Ad f/\Hid ((decide (i<=j)&&(λ x=>!ltU x E[a]!) E[j]!)=f/\SR v g E/\Aw (λ k=>k=g) w v))
     case first =>
      by_cases K:i<=j
      ·obtain⟨x,t⟩:∃x,E[j]! = x:=⟨_,rfl⟩
       obtain⟨y,A⟩:∃y,E[a]! = y:=⟨_,rfl⟩
       obtain⟨H,P⟩:=Xa (ltU x y)
       have hs:=Wu.o.2.1
       have q0:∀u:SW (gN wr),u.w.cell? ⟨g,j,none⟩=some (uv x):=λ u=>by rw[<- t];exact(l.o.2.1.below u.ok).cell (by omega)
       have q1:∀u:SW (gN wr),u.w.cell? ⟨g,a,none⟩=some (uv y):=λ u=>by rw[<- A];exact(l.o.2.1.below u.ok).cell (by omega)
       have W:=λ u=>FV (wr:=wr) x y H P u
       have NE:Nonempty (SW (gN wr)):=⟨⟨wr,Ao _ wr⟩⟩
       have T:(i:Int)<=(j:Int):=by omega
       have j2:decide ((i:Int)<=(j:Int))=true:=by simpa using T
       have j3:decide (i<=j)=true:=by simpa using K
       have j4:(j:Int)<(n:Int):=by omega
       have j5:(a:Int)<(n:Int):=by omega
       have j6:(0:Int)<=(j:Int):=by omega
       have j7:(0:Int)<=(a:Int):=by omega
       have M:Hid ((decide (i<=j)&&(λ x=>!ltU x E[a]!) E[j]!)=(!H)):=by
        show _=_;simp only[t,A,P,j3,Ci]
       clear t A P hs
       cases H with
       | true =>
        refine Bb (S:=gN wr) (by kernel_rfl) (by kernel_rfl) (Ao _ wr).drew ?_
        repeat(go_big_quiet_step (with_reducible exact W _))
        refine AS ?_;intro _ B;obtain⟨u,m⟩:=B;subst m;go_wp2_with fail;go_meet;exact⟨_,_,rfl,rfl,M.o,l.o.2.1.below u.ok,l.o.2.2.trans (Aw.ofBelow u.ok) (λ _ _ q=>q)⟩
       | false =>
        refine Bb (S:=gN wr) (by kernel_rfl) (by kernel_rfl) (Ao _ wr).drew ?_
        repeat(go_big_quiet_step (with_reducible exact W _))
        refine AS ?_;intro _ B;obtain⟨u,m⟩:=B;subst m;go_wp2_with fail;go_meet;exact⟨_,_,rfl,rfl,M.o,l.o.2.1.below u.ok,l.o.2.2.trans (Aw.ofBelow u.ok) (λ _ _ q=>q)⟩
      ·have T:¬(i:Int)<=(j:Int):=by omega
       have j2:decide ((i:Int)<=(j:Int))=false:=by simpa using T
       have M:Hid ((decide (i<=j)&&(λ x=>!ltU x E[a]!) E[j]!)=false):=by
        show _=_;simp[K]
       go_quiet (fail);go_wp2_with fail;go_meet;have hq:=AY (Ao wr.heap.size wr) nq;exact⟨_,false,rfl,rfl,M.o,l.o.2.1.below hq,l.o.2.2.trans (Aw.ofBelow (S:=λ _=>False) hq) (λ _ _ q=>q.elim)⟩
     case rest =>
      obtain⟨v,f,rfl,rfl,z⟩:=hcut
      cases f with
      | true =>
       have af:i<=j:=by
        have:=z.o.1;simp only[Bn,A9]at this;exact this.1
       have HN:Hid (scanDown (λ x=>!ltU x E[a]!) E i (j - 1)=J):=by
        have:=l.o.1;rw[LZ (p:=(λ x=>!ltU x E[a]!)) (by omega) z.o.1]at this;exact this
       clear l
       obtain⟨ii,X⟩:=Xa (j - 1)
       have d1:(j:Int) - 1=(ii:Int):=by omega
       have d2:Ak.wrap (ii:Int)=(ii:Int):=by rw[Au];omega
       rw[X]at HN
       have L:Hid (ii+1=j):=by show _=j;omega
       clear X;go_wp2;go_roundg (gk - 1)
       case measure=>have:=L.o;omega
       case rel=>exact⟨ii,rfl,by have:=L.o;omega,by have:=L.o;omega,by have:=L.o;omega,HN.o,z.o.2.1,z.o.2.2⟩
      | false =>
       have FJ:Hid (scanDown (λ x=>!ltU x E[a]!) E i C=j):=by
        have:=l.o.1;rw[L6 (p:=(λ x=>!ltU x E[a]!)) z.o.1]at this;exact HJ.o.trans this.symm
       have Wd:=I3 z.o.2.1 Wu.o.2.1 z.o.2.2
       clear l z HJ;have N:=Kz (p:=λ x=>ltU x E[a]!) (q:=λ x=>!ltU x E[a]!) (λ _=>rfl) (by omega) FI.o FJ.o;have ab:=HP.o i j FI.o FJ.o;by_cases hc:j<i
       ·have ci:(j:Int)<(i:Int):=by omega
        have O:=Ih (ab.1 hc);clear N ab FI FJ HP;by_cases Q:j=a
        ·have Y:=Q.symm;clear Q;subst Y
         obtain⟨x,t⟩:∃x,E[a]! = x:=⟨_,rfl⟩
         have D:=Wd.o.2.1
         have c0:v.cell? ⟨g,a,none⟩=some (uv x):=by rw[<- t];exact Wd.o.1.cell (by omega)
         have H:=Wd.o.1.thaw a
         have z0:(0:Int)<=(a:Int):=by omega
         have z2:(a:Int)<(n:Int):=by omega
         have s:=I2 t t
         clear t D;go_wp2_with fail;go_region;go_wp2;refine As (AD rfl _ _ _) rfl ?_;rw[O.o];exact⟨rfl,Wd.o.1.drewSwap s.o.1 s.o.2,io Wd.o.2.2 _ _ _ _⟩
        ·obtain⟨x,t⟩:∃x,E[j]! = x:=⟨_,rfl⟩
         obtain⟨y,A⟩:∃y,E[a]! = y:=⟨_,rfl⟩
         have D:=Wd.o.2.1
         have c0:v.cell? ⟨g,j,none⟩=some (uv x):=by rw[<- t];exact Wd.o.1.cell (by omega)
         have c1:v.cell? ⟨g,a,none⟩=some (uv y):=by rw[<- A];exact Wd.o.1.cell (by omega)
         have H:=Wd.o.1.thaw j;have f1:=Wd.o.1.thaw a
         have z0:(0:Int)<=(j:Int):=by omega
         have z1:(0:Int)<=(a:Int):=by omega
         have z2:(j:Int)<(n:Int):=by omega
         have z3:(a:Int)<(n:Int):=by omega
         have nt:=Q
         have V:¬a=j:=λ e=>nt e.symm
         have s:=I2 t A
         clear t A D;go_wp2_with fail;go_region;go_wp2;refine As (AD rfl _ _ _) rfl ?_;rw[O.o];exact⟨rfl,Wd.o.1.drewSwap s.o.1 s.o.2,io Wd.o.2.2 _ _ _ _⟩
       ·have ci:¬(j:Int)<(i:Int):=by omega
        obtain⟨U,Z⟩:=Xa (j - 1)
        have d1:(j:Int) - 1=(U:Int):=by omega
        have d2:Ak.wrap (U:Int)=(U:Int):=by rw[Au];omega
        obtain⟨R0,ac⟩:=Xa (partLoop ltU a (i+1) U (swp E i j))
        have RF:Hid (∀R,R=R0->r=(R.1,false,swp R.2 R.1 a)):=by
         intro R hR;rw[hR];exact ab.2 hc _ (by rw[Z];exact ac)
        have ag:=Ih ac
        have JJ:Hid (U+1=j):=by show _=j;omega
        have aa:=N.2.2;clear Z N ab FI FJ HP ac
        obtain⟨x,t⟩:∃x,E[i]! = x:=⟨_,rfl⟩
        obtain⟨y,A⟩:∃y,E[j]! = y:=⟨_,rfl⟩
        have D:=Wd.o.2.1
        have c0:v.cell? ⟨g,i,none⟩=some (uv x):=by rw[<- t];exact Wd.o.1.cell (by omega)
        have c1:v.cell? ⟨g,j,none⟩=some (uv y):=by rw[<- A];exact Wd.o.1.cell (by omega)
        have H:=Wd.o.1.thaw i;have f1:=Wd.o.1.thaw j
        have z0:(0:Int)<=(i:Int):=by omega
        have z1:(0:Int)<=(j:Int):=by omega
        have z2:(i:Int)<(n:Int):=by omega
        have z3:(j:Int)<(n:Int):=by omega
        have nt:=aa
        have V:¬j=i:=λ e=>nt e.symm
        have s:=I2 t A
        clear t A D;go_wp2_with fail;go_region;go_wp2_with fail;go_loopg[10,11] (b) (λ k v9 an wr=>∃i j:Nat,v9=Ab Ak i/\an=Ab Ak j/\j+1<=i+k/\a+1<=i/\i<=b/\a<=j/\j<b/\Hid (∃e:Array UInt64,partLoop ltU a i j e=R0/\SR wr g e/\e.size=n/\Aw (λ k=>k=g) w wr))
        case atStart=>exact⟨i+1,U,by go_num,rfl,by have:=JJ.o;omega,by omega,by omega,by have:=JJ.o;omega,by have:=JJ.o;omega,swp E i j,ag.o,Wd.o.1.drewSwap s.o.1 s.o.2,by rw[ET];exact Wd.o.2.1,io Wd.o.2.2 _ _ _ _⟩
        case round =>
         clear s c0 c1 H f1 z0 z1 z2 z3 nt V aa d1 d2 JJ ag ci hc;obtain⟨i0,F,rfl,rfl,ap,u1,u2,u3,u4,HE⟩:=hrel;obtain⟨G,e1,e2,e3,e4⟩:=HE.o
         have V0:=I3 e2 e3 e4
         have VP:=Ih e1
         obtain⟨go,aj⟩:=Xb gk
         have GO:=I2 (by omega:F+1<=i0+go) aj
         clear HE e1 e2 e3 e4 aj
         obtain⟨I,hI⟩:=Xa (scanUp (λ x=>ltU x G[a]!) G F i0)
         have HI:=Ih hI;clear hI;go_wp2_with fail;go_loopg[10] (F+1) (λ k v wr=>∃i:Nat,v=Ab Ak i/\F+1<=i+k/\a+1<=i/\i<=b/\Hid (scanUp (λ x=>ltU x G[a]!) G F i=I/\SR wr g G/\Aw (λ k=>k=g) w wr))
         case atStart=>exact⟨i0,by first | rfl | go_num,by omega,by omega,by omega,HI.o,V0.o.1,V0.o.2.2⟩
         case round =>
          obtain⟨i,rfl,am,ad,ae,l⟩:=hrel
          go_upto_region 13 with fail
          go_cut[112]from 99 to 114 (λ tv u=>∃v f,v=u/\tv=Ad f/\Hid ((decide (i<=F)&&(λ x=>ltU x G[a]!) G[i]!)=f/\SR v g G/\Aw (λ k=>k=g) w v))
          case first =>
           by_cases K:i<=F
           ·obtain⟨x,t⟩:∃x,G[i]! = x:=⟨_,rfl⟩
            obtain⟨y,A⟩:∃y,G[a]! = y:=⟨_,rfl⟩
            obtain⟨H,P⟩:=Xa (ltU x y)
            have hs:=V0.o.2.1
            have q0:∀u:SW (gN wr),u.w.cell? ⟨g,i,none⟩=some (uv x):=λ u=>by rw[<- t];exact(l.o.2.1.below u.ok).cell (by omega)
            have q1:∀u:SW (gN wr),u.w.cell? ⟨g,a,none⟩=some (uv y):=λ u=>by rw[<- A];exact(l.o.2.1.below u.ok).cell (by omega)
            have W:=λ u=>FV (wr:=wr) x y H P u
            have NE:Nonempty (SW (gN wr)):=⟨⟨wr,Ao _ wr⟩⟩
            have T:(i:Int)<=(F:Int):=by omega
            have j2:decide ((i:Int)<=(F:Int))=true:=by simpa using T
            have j3:decide (i<=F)=true:=by simpa using K
            have j4:(i:Int)<(n:Int):=by omega
            have j5:(a:Int)<(n:Int):=by omega
            have j6:(0:Int)<=(i:Int):=by omega
            have j7:(0:Int)<=(a:Int):=by omega
            have M:Hid ((decide (i<=F)&&(λ x=>ltU x G[a]!) G[i]!)=(H)):=by
             show _=_;simp only[t,A,P,j3,Ci]
            clear t A P hs
            cases H with
            | true =>
             refine Bb (S:=gN wr) (by kernel_rfl) (by kernel_rfl) (Ao _ wr).drew ?_
             repeat(go_big_quiet_step (with_reducible exact W _))
             refine AS ?_;intro _ B;obtain⟨u,m⟩:=B;subst m;go_wp2_with fail;go_meet;exact⟨_,_,rfl,rfl,M.o,l.o.2.1.below u.ok,l.o.2.2.trans (Aw.ofBelow u.ok) (λ _ _ q=>q)⟩
            | false =>
             refine Bb (S:=gN wr) (by kernel_rfl) (by kernel_rfl) (Ao _ wr).drew ?_
             repeat(go_big_quiet_step (with_reducible exact W _))
             refine AS ?_;intro _ B;obtain⟨u,m⟩:=B;subst m;go_wp2_with fail;go_meet;exact⟨_,_,rfl,rfl,M.o,l.o.2.1.below u.ok,l.o.2.2.trans (Aw.ofBelow u.ok) (λ _ _ q=>q)⟩
           ·have T:¬(i:Int)<=(F:Int):=by omega
            have j2:decide ((i:Int)<=(F:Int))=false:=by simpa using T
            have M:Hid ((decide (i<=F)&&(λ x=>ltU x G[a]!) G[i]!)=false):=by
             show _=_;simp[K]
            go_quiet (fail);go_wp2_with fail;go_meet;have hq:=AY (Ao wr.heap.size wr) nq;exact⟨_,false,rfl,rfl,M.o,l.o.2.1.below hq,l.o.2.2.trans (Aw.ofBelow (S:=λ _=>False) hq) (λ _ _ q=>q.elim)⟩
          case rest =>
           obtain⟨v,f,rfl,rfl,z⟩:=hcut
           cases f with
           | true =>
            have af:i<=F:=by
             have:=z.o.1;simp only[Bn,A9]at this;exact this.1
            have HN:Hid (scanUp (λ x=>ltU x G[a]!) G F (i+1)=I):=by
             have:=l.o.1;rw[Mb (p:=(λ x=>ltU x G[a]!)) z.o.1]at this;exact this
            clear l;go_wp2;go_roundg (gk - 1)
            case measure=>omega
            case rel=>exact⟨i+1,by go_num,by omega,by omega,by omega,HN.o,z.o.2.1,z.o.2.2⟩
           | false =>
            have FI:Hid (scanUp (λ x=>ltU x G[a]!) G F i0=i):=by
             have:=l.o.1;rw[KD (p:=(λ x=>ltU x G[a]!)) z.o.1]at this;exact HI.o.trans this.symm
            have Wu:=I3 z.o.2.1 V0.o.2.1 z.o.2.2
            clear l z HI
            obtain⟨J,hJ⟩:=Xa (scanDown (λ x=>!ltU x G[a]!) G i F)
            have HJ:=Ih hJ;clear hJ;go_wp2_with fail;go_loopg[11] (F) (λ k v wr=>∃j:Nat,v=Ab Ak j/\j<=k/\a<=j/\j<b/\Hid (scanDown (λ x=>!ltU x G[a]!) G i j=J/\SR wr g G/\Aw (λ k=>k=g) w wr))
            case atStart=>exact⟨F,by first | rfl | go_num,by omega,by omega,by omega,HJ.o,Wu.o.1,Wu.o.2.2⟩
            case round =>
             obtain⟨j,rfl,al,ad,ae,l⟩:=hrel
             go_upto_region 15 with fail
             go_cut[129]from 115 to 131 (λ tv u=>∃v f,v=u/\tv=Ad f/\Hid ((decide (i<=j)&&(λ x=>!ltU x G[a]!) G[j]!)=f/\SR v g G/\Aw (λ k=>k=g) w v))
             case first =>
              by_cases K:i<=j
              ·obtain⟨x,t⟩:∃x,G[j]! = x:=⟨_,rfl⟩
               obtain⟨y,A⟩:∃y,G[a]! = y:=⟨_,rfl⟩
               obtain⟨H,P⟩:=Xa (ltU x y)
               have hs:=Wu.o.2.1
               have q0:∀u:SW (gN wr),u.w.cell? ⟨g,j,none⟩=some (uv x):=λ u=>by rw[<- t];exact(l.o.2.1.below u.ok).cell (by omega)
               have q1:∀u:SW (gN wr),u.w.cell? ⟨g,a,none⟩=some (uv y):=λ u=>by rw[<- A];exact(l.o.2.1.below u.ok).cell (by omega)
               have W:=λ u=>FV (wr:=wr) x y H P u
               have NE:Nonempty (SW (gN wr)):=⟨⟨wr,Ao _ wr⟩⟩
               have T:(i:Int)<=(j:Int):=by omega
               have j2:decide ((i:Int)<=(j:Int))=true:=by simpa using T
               have j3:decide (i<=j)=true:=by simpa using K
               have j4:(j:Int)<(n:Int):=by omega
               have j5:(a:Int)<(n:Int):=by omega
               have j6:(0:Int)<=(j:Int):=by omega
               have j7:(0:Int)<=(a:Int):=by omega
               have M:Hid ((decide (i<=j)&&(λ x=>!ltU x G[a]!) G[j]!)=(!H)):=by
                show _=_;simp only[t,A,P,j3,Ci]
               clear t A P hs
               cases H with
               | true =>
                refine Bb (S:=gN wr) (by kernel_rfl) (by kernel_rfl) (Ao _ wr).drew ?_
                repeat(go_big_quiet_step (with_reducible exact W _))
                refine AS ?_;intro _ B;obtain⟨u,m⟩:=B;subst m;go_wp2_with fail;go_meet;exact⟨_,_,rfl,rfl,M.o,l.o.2.1.below u.ok,l.o.2.2.trans (Aw.ofBelow u.ok) (λ _ _ q=>q)⟩
               | false =>
                refine Bb (S:=gN wr) (by kernel_rfl) (by kernel_rfl) (Ao _ wr).drew ?_
                repeat(go_big_quiet_step (with_reducible exact W _))
                refine AS ?_;intro _ B;obtain⟨u,m⟩:=B;subst m;go_wp2_with fail;go_meet;exact⟨_,_,rfl,rfl,M.o,l.o.2.1.below u.ok,l.o.2.2.trans (Aw.ofBelow u.ok) (λ _ _ q=>q)⟩
              ·have T:¬(i:Int)<=(j:Int):=by omega
               have j2:decide ((i:Int)<=(j:Int))=false:=by simpa using T
               have M:Hid ((decide (i<=j)&&(λ x=>!ltU x G[a]!) G[j]!)=false):=by
                show _=_;simp[K]
               go_quiet (fail);go_wp2_with fail;go_meet;have hq:=AY (Ao wr.heap.size wr) nq;exact⟨_,false,rfl,rfl,M.o,l.o.2.1.below hq,l.o.2.2.trans (Aw.ofBelow (S:=λ _=>False) hq) (λ _ _ q=>q.elim)⟩
             case rest =>
              obtain⟨v,f,rfl,rfl,z⟩:=hcut
              cases f with
              | true =>
               have af:i<=j:=by
                have:=z.o.1;simp only[Bn,A9]at this;exact this.1
               have HN:Hid (scanDown (λ x=>!ltU x G[a]!) G i (j - 1)=J):=by
                have:=l.o.1;rw[LZ (p:=(λ x=>!ltU x G[a]!)) (by omega) z.o.1]at this;exact this
               clear l
               obtain⟨ii,X⟩:=Xa (j - 1)
               have d1:(j:Int) - 1=(ii:Int):=by omega
               have d2:Ak.wrap (ii:Int)=(ii:Int):=by rw[Au];omega
               rw[X]at HN
               have L:Hid (ii+1=j):=by show _=j;omega
               clear X;go_wp2;go_roundg (gk - 1)
               case measure=>have:=L.o;omega
               case rel=>exact⟨ii,rfl,by have:=L.o;omega,by have:=L.o;omega,by have:=L.o;omega,HN.o,z.o.2.1,z.o.2.2⟩
              | false =>
               have FJ:Hid (scanDown (λ x=>!ltU x G[a]!) G i F=j):=by
                have:=l.o.1;rw[L6 (p:=(λ x=>!ltU x G[a]!)) z.o.1]at this;exact HJ.o.trans this.symm
               have Wd:=I3 z.o.2.1 Wu.o.2.1 z.o.2.2
               clear l z HJ;have N:=Kz (p:=λ x=>ltU x G[a]!) (q:=λ x=>!ltU x G[a]!) (λ _=>rfl) (by omega) FI.o FJ.o;by_cases hc:j<i
               ·have ci:(j:Int)<(i:Int):=by omega
                have O:Hid (r=(j,false,swp G j a)):=by
                 have q:=VP.o;rw[Y3 FI.o FJ.o hc]at q;exact RF.o _ q
                clear N FI FJ VP;by_cases Q:j=a
                ·have Y:=Q.symm;clear Q;subst Y
                 obtain⟨x,t⟩:∃x,G[a]! = x:=⟨_,rfl⟩
                 have D:=Wd.o.2.1
                 have c0:v.cell? ⟨g,a,none⟩=some (uv x):=by rw[<- t];exact Wd.o.1.cell (by omega)
                 have H:=Wd.o.1.thaw a
                 have z0:(0:Int)<=(a:Int):=by omega
                 have z2:(a:Int)<(n:Int):=by omega
                 have s:=I2 t t
                 clear t D;go_wp2_with fail;go_region;go_wp2;refine As (AD rfl _ _ _) rfl ?_;rw[O.o];exact⟨rfl,Wd.o.1.drewSwap s.o.1 s.o.2,io Wd.o.2.2 _ _ _ _⟩
                ·obtain⟨x,t⟩:∃x,G[j]! = x:=⟨_,rfl⟩
                 obtain⟨y,A⟩:∃y,G[a]! = y:=⟨_,rfl⟩
                 have D:=Wd.o.2.1
                 have c0:v.cell? ⟨g,j,none⟩=some (uv x):=by rw[<- t];exact Wd.o.1.cell (by omega)
                 have c1:v.cell? ⟨g,a,none⟩=some (uv y):=by rw[<- A];exact Wd.o.1.cell (by omega)
                 have H:=Wd.o.1.thaw j;have f1:=Wd.o.1.thaw a
                 have z0:(0:Int)<=(j:Int):=by omega
                 have z1:(0:Int)<=(a:Int):=by omega
                 have z2:(j:Int)<(n:Int):=by omega
                 have z3:(a:Int)<(n:Int):=by omega
                 have nt:=Q
                 have V:¬a=j:=λ e=>nt e.symm
                 have s:=I2 t A
                 clear t A D;go_wp2_with fail;go_region;go_wp2;refine As (AD rfl _ _ _) rfl ?_;rw[O.o];exact⟨rfl,Wd.o.1.drewSwap s.o.1 s.o.2,io Wd.o.2.2 _ _ _ _⟩
               ·have ci:¬(j:Int)<(i:Int):=by omega
                obtain⟨U,Z⟩:=Xa (j - 1)
                have d1:(j:Int) - 1=(U:Int):=by omega
                have d2:Ak.wrap (U:Int)=(U:Int):=by rw[Au];omega
                have O:Hid (partLoop ltU a (i+1) U (swp G i j)=R0):=by
                 show _=R0;rw[<- VP.o,<- Z];exact(XL (by omega) FI.o FJ.o hc).symm
                have JJ:Hid (U+1=j):=by show _=j;omega
                have ah:=I2 N.1 N.2.1
                have aa:=N.2.2;clear Z N
                obtain⟨x,t⟩:∃x,G[i]! = x:=⟨_,rfl⟩
                obtain⟨y,A⟩:∃y,G[j]! = y:=⟨_,rfl⟩
                have D:=Wd.o.2.1
                have c0:v.cell? ⟨g,i,none⟩=some (uv x):=by rw[<- t];exact Wd.o.1.cell (by omega)
                have c1:v.cell? ⟨g,j,none⟩=some (uv y):=by rw[<- A];exact Wd.o.1.cell (by omega)
                have H:=Wd.o.1.thaw i;have f1:=Wd.o.1.thaw j
                have z0:(0:Int)<=(i:Int):=by omega
                have z1:(0:Int)<=(j:Int):=by omega
                have z2:(i:Int)<(n:Int):=by omega
                have z3:(j:Int)<(n:Int):=by omega
                have nt:=aa
                have V:¬j=i:=λ e=>nt e.symm
                have s:=I2 t A
                clear t A D;go_wp2_with fail;go_region;go_wp2;go_roundg (go - 1)
                case measure=>have:=GO.o;have:=ah.o;omega
                case rel=>exact⟨i+1,U,by go_num,rfl,by have:=GO.o;have:=ah.o;have:=JJ.o;omega,by omega,by omega,by have:=JJ.o;omega,by have:=JJ.o;omega,swp G i j,O.o,Wd.o.1.drewSwap s.o.1 s.o.2,by rw[ET];exact Wd.o.2.1,io Wd.o.2.2 _ _ _ _⟩
end Go.Proofs.YtakgkgmopmcecaaGreat
