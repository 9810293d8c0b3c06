/-
  Several texts, laid together.
-/
import Derived.Test.YtlojblelpaegpaaGreatM26
set_option maxHeartbeats 6400000
set_option maxRecDepth 100000
open Go renaming World->Ap,Calls->At,wpQuiet_nil->AN,below_drewN->AS,bodyPost_end->CE,results_none->BJ,bodyPost_ret->As,results_tmp2->AA
open Go.RowKit.Below renaming refl->Ao
open Go.IntKind renaming i64->Ak,wrap_i64->Au
open Go.Value renaming slice->Aa,int->Ab,tuple->Af,pointer->Ah
open Go.Ending renaming returned->Aj
open Go.Proofs.Tryz renaming prog->Am
open Go.Proofs.Tryz
namespace Go.Proofs.YtlojblelpaegpaaGreat
open Go.RowKit Go.Sort
variable{F a b c g hi i j n r s:Nat}{d:Array UInt64}{w:Ap}
theorem ZfR(h:¬a<j):insInner ltU a j d=d:=by
 cases j with
 | zero=>rfl
 | succ j =>
  unfold insInner;rw[Aw];simp;omega
theorem Zgb{t:Nat}(h:a<t+1)(f:Bool)(b:ltU d[t+1]! d[t]! = f):insInner ltU a (t+1) d=if f=true then insInner ltU a t (swp d (t+1) t)else d:=by
 rw[insInner,b]
 have:(decide (t+1>a)&&f)=f:=by simp;omega
 cases f with
 | true=>simp[h]
 | false=>simp
theorem Zf3(h:i<b):insOuter ltU a b i d=insOuter ltU a b (i+1) (insInner ltU a i d):=by
 rw[insOuter,AE h]
theorem Zfy(h:¬i<b):insOuter ltU a b i d=d:=by
 rw[insOuter,Aw h]
theorem Zas{wr:Ap}(x y:UInt64)(f:Bool)(a:ltU x y=f)(u:SW (Grew wr)):At Am 141 #[uv x,uv y] u.w λ e w'=>e=Aj (.bool f)/\∃u':SW (Grew wr),w'=u'.w:=by
 refine(Zn5 x y f a u.w).mono ?_;rintro e w' ⟨rfl,rfl⟩;exact⟨rfl,u,rfl⟩
theorem ZpD(h:SR w g d)(hd:d.size=n)(aa:a<=b)(hb:b<=n)(hn:n<=4000000000000000000):
  At Am 135 #[Aa (some ⟨g,0,none⟩) n c,Ab Ak (a:Int),Ab Ak (b:Int)] w λ e w'=>e=Aj (Af #[])/\Hid (SR w' g (insertionSort ltU d a b)/\Zaa (λ k=>k=g) w w'):=by
 obtain⟨D,W⟩:=Xa (insertionSort ltU d a b)
 rw[W]
 have H:Hid (SR w g d/\d.size=n/\insOuter ltU a b (a+1) d=D):=⟨h,hd,W⟩
 clear h hd W;go_enter func135,ntmps135;go_wp2_with fail;go_loopg[6] (b - a) (λ k v wr=>∃(i:Nat),v=Ab Ak i/\i+k=b+1/\a+1<=i/\Hid (∃e:Array UInt64,e.size=n/\insOuter ltU a b i e=D/\SR wr g e/\Zaa (λ k=>k=g) w wr))
 case atStart=>exact⟨a+1,by go_num,by omega,Nat.le_refl _,d,H.o.2.1,H.o.2.2,H.o.1,Zaa.refl _ _⟩
 case round =>
  obtain⟨i,rfl,hi,ab,U⟩:=hrel;obtain⟨e0,s0,I,R,t0⟩:=U.o;by_cases F:i<b
  ·have id:(i:Int)<(b:Int):=by omega
   obtain⟨K,B⟩:=Xb gk
   have J:Hid (i+K=b+1/\K=gk):=⟨by rw[B];exact hi,B⟩
   have G0:Hid (insOuter ltU a b (i+1) (insInner ltU a i e0)=D):=by
    show _=D;rw[<- Zf3 F];exact I
   have V:Hid (SR wr g e0/\e0.size=n/\Zaa (λ k=>k=g) w wr):=⟨R,s0,t0⟩
   clear U R s0 t0 I B;go_wp2_with fail;go_loopg[7] i (λ k v wr=>v=Ab Ak (k:Int)/\k<=i/\Hid (∃e:Array UInt64,e.size=n/\insInner ltU a k e=insInner ltU a i e0/\SR wr g e/\Zaa (λ k=>k=g) w wr))
   case atStart=>exact⟨rfl,Nat.le_refl _,e0,V.o.2.1,rfl,V.o.1,V.o.2.2⟩
   case round =>
    obtain⟨rfl,ac,T⟩:=hrel;obtain⟨l,s1,O,E,t1⟩:=T.o;by_cases A:a<gk
    ·obtain⟨t,Y⟩:∃t,t+1=gk:=⟨gk - 1,by omega⟩
     obtain⟨x,M⟩:∃x,l[gk]! = x:=⟨_,rfl⟩
     obtain⟨y,N⟩:∃y,l[t]! = y:=⟨_,rfl⟩
     obtain⟨f,X⟩:=Xa (ltU x y)
     have G:insInner ltU a gk l=if f=true then insInner ltU a t (swp l gk t)else l:=by
      subst Y;exact Zgb A f (by rw[M,N];exact X)
     have q0:∀u:SW (Grew wr),u.w.cell? ⟨g,gk,none⟩=some (uv x):=λ u=>by rw[<- M];exact(E.below u.ok).cell (by omega)
     have Q:∀u:SW (Grew wr),u.w.cell? ⟨g,t,none⟩=some (uv y):=λ u=>by rw[<- N];exact(E.below u.ok).cell (by omega)
     have L:=λ u=>Zas (wr:=wr) x y f X u
     have NE:Nonempty (SW (Grew wr)):=⟨⟨wr,Ao _ wr⟩⟩
     have Z:(a:Int)<(gk:Int):=by omega
     have jd:decide ((a:Int)<(gk:Int))=true:=by simpa using Z
     have ad:decide (a<gk)=true:=by simpa using A
     have jn:(gk:Int)<(n:Int):=by omega
     have j0:(0:Int)<=(gk:Int):=by omega
     have ae:(t:Int)<(n:Int):=by omega
     have js:(gk:Int) - 1=(t:Int):=by omega
     have jw:Ak.wrap (t:Int)=(t:Int):=by rw[Au];omega
     have j:Hid (SR wr g l/\l.size=n/\Zaa (λ k=>k=g) w wr/\l[gk]! = x/\l[t]! = y/\(if f=true then insInner ltU a t (swp l gk t)else l)=insInner ltU a i e0/\t+1=gk/\gk<n):=⟨E,s1,t1,M,N,by rw[<- G];exact O,Y,by omega⟩
     clear T s1 O E t1 G M N X Y
     cases f with
     | true =>
      go_upto_region 4 with fail
      refine Zab (S:=Grew wr) (by kernel_rfl) (by kernel_rfl) (Ao _ wr).drew ?_
      repeat(go_big_quiet_step (with_reducible exact L _))
      refine AN ?_;intro _ C;obtain⟨u,r⟩:=C;subst r
      obtain⟨s,m⟩:=Xb u.w
      have z:Hid (SR s g l/\Zaa (λ k=>k=g) w s):=by
       rw[m];exact⟨j.o.1.below u.ok,j.o.2.2.1.trans (Zaa.ofBelow u.ok) (λ _ _ q=>q)⟩
      rw[<- m];clear L q0 Q NE m u
      have c0:s.cell? ⟨g,gk,none⟩=some (uv x):=by rw[<- j.o.2.2.2.1];exact z.o.1.cell (by have:=j.o.2.1;have:=j.o.2.2.2.2.2.2;omega)
      have c1:s.cell? ⟨g,t,none⟩=some (uv y):=by rw[<- j.o.2.2.2.2.1];exact z.o.1.cell (by have:=j.o.2.1;have:=j.o.2.2.2.2.2.2;omega)
      have f0:=z.o.1.thaw gk;have f1:=z.o.1.thaw t
      have nt:¬gk=t:=by have:=j.o.2.2.2.2.2.2.1;omega
      go_wp2_with fail;go_region;go_wp2;go_roundg t
      case measure=>omega
      case rel =>
       have hs:=(z.o.1.below (Ao _ s).drew).swap gk t;rw[j.o.2.2.2.1,j.o.2.2.2.2.1]at hs;exact⟨by go_num,by have:=j.o.2.2.2.2.2.2.1;omega,swp l gk t,by rw[Zao];exact j.o.2.1,by have:=j.o.2.2.2.2.2.1;simpa using this,hs,Zqs (z.o.2.trans (Zaa.ofBelow (S:=λ _=>False) (Ao _ s).drew) (λ _ _ q=>q.elim)) rfl _ _ _ _⟩
     | false =>
      go_upto_region 4 with fail
      refine Zab (S:=Grew wr) (by kernel_rfl) (by kernel_rfl) (Ao _ wr).drew ?_
      repeat(go_big_quiet_step (with_reducible exact L _))
      refine AN ?_;intro _ C;obtain⟨u,r⟩:=C;subst r
      obtain⟨s,m⟩:=Xb u.w
      have z:Hid (SR s g l/\Zaa (λ k=>k=g) w s):=by
       rw[m];exact⟨j.o.1.below u.ok,j.o.2.2.1.trans (Zaa.ofBelow u.ok) (λ _ _ q=>q)⟩
      rw[<- m];clear L q0 Q NE m u
      have p:Hid (∃e:Array UInt64,e.size=n/\insOuter ltU a b (i+1) e=D/\SR s g e/\Zaa (λ k=>k=g) w s):=by
       have q:=j.o.2.2.2.2.2.1
       have P:l=insInner ltU a i e0:=by simpa using q
       exact⟨l,j.o.2.1,by rw[P];exact G0.o,z.o.1,z.o.2⟩
      go_wp2;go_roundg (K - 1)
      case measure=>have:=J.o;omega
      case rel=>exact⟨i+1,by go_num,by have:=J.o;omega,by omega,p.o⟩
    ·have P:l=insInner ltU a i e0:=by rw[<- O,ZfR A]
     have p:Hid (∃e:Array UInt64,e.size=n/\insOuter ltU a b (i+1) e=D/\SR wr g e/\Zaa (λ k=>k=g) w wr):=⟨l,s1,by rw[P];exact G0.o,E,t1⟩
     have Z:¬(a:Int)<(gk:Int):=by omega
     have jd:decide ((a:Int)<(gk:Int))=false:=by simpa using Z
     clear T s1 O E t1 P;go_wp2_with fail;go_quiet (fail);go_wp2;go_roundg (K - 1)
     case measure=>have:=J.o;omega
     case rel =>
      obtain⟨e,Q,q2,q3,q4⟩:=p.o;have hq:=AS (Ao wr.heap.size wr) nq;exact⟨i+1,by go_num,by have:=J.o;omega,by omega,e,Q,q2,q3.below hq,q4.trans (Zaa.ofBelow (S:=λ _=>False) hq) (λ _ _ q=>q.elim)⟩
  ·have p:Hid (SR wr g D/\Zaa (λ k=>k=g) w wr):=by
    have q:=Zfy (a:=a) (d:=e0) F;rw[q]at I;rw[<- I];exact⟨R,t0⟩
   clear U R s0 t0 I;go_wp2;refine CE (v:=Af #[]) (BJ rfl _ _ _) rfl ?_;exact⟨rfl,p⟩
theorem ZoO(h:i<j):reverseLoop i j d=reverseLoop (i+1) (j - 1) (swp d i j):=by
 rw[reverseLoop,AE h]
theorem Zop(h:¬i<j):reverseLoop i j d=d:=by
 rw[reverseLoop,Aw h]
theorem SR.drewSwap(h:SR w g d){x y:UInt64}(b:d[i]! = x)(c:d[j]! = y):SR ((w.drew.setCell ⟨g,i,none⟩ (uv y)).setCell ⟨g,j,none⟩ (uv x)) g (swp d i j):=by
 have a:=(h.below (Ao _ w).drew).swap i j;rw[b,c]at a;exact a
theorem turnSwap{a:Ap}(h:Zaa (λ k=>k=g) a w)(i j:Nat)(p q:Value):Zaa (λ k=>k=g) a ((w.drew.setCell ⟨g,i,none⟩ p).setCell ⟨g,j,none⟩ q) :=
 Zqs (h.trans (Zaa.ofBelow (S:=λ _=>False) (Ao _ w).drew) (λ _ _ q=>q.elim)) rfl _ _ _ _
theorem Zpk(h:SR w g d)(hd:d.size=n)(G:a<b)(X:b<=n)(Z:n<=4000000000000000000):
  At Am 139 #[Aa (some ⟨g,0,none⟩) n c,Ab Ak (a:Int),Ab Ak (b:Int)] w λ e w'=>e=Aj (Af #[])/\Hid (SR w' g (reverseRange d a b)/\Zaa (λ k=>k=g) w w'):=by
 obtain⟨D,B⟩:=Xa (reverseRange d a b)
 rw[B]
 have H:Hid (SR w g d/\d.size=n/\reverseLoop a (b - 1) d=D):=⟨h,hd,B⟩
 have b1:(b:Int) - 1=((b - 1:Nat):Int):=by omega
 obtain⟨u,q⟩:=Xa (b - 1)
 rw[q]at b1 H
 have F:Hid (u+1=b):=by show _=b;omega
 have S:Ak.wrap (u:Int)=(u:Int):=by rw[Au];omega
 clear h hd B q;go_enter func139,ntmps139;go_wp2_with fail;go_loopg[6,7] b (λ k Q R wr=>∃i j:Nat,Q=Ab Ak i/\R=Ab Ak j/\j<b/\j - i<=k/\i<=b/\Hid (∃e:Array UInt64,e.size=n/\reverseLoop i j e=D/\SR wr g e/\Zaa (λ k=>k=g) w wr))
 case atStart=>exact⟨a,u,rfl,rfl,by have:=F.o;omega,by have:=F.o;omega,by omega,d,H.o.2.1,H.o.2.2,H.o.1,Zaa.refl _ _⟩
 case round =>
  obtain⟨i,j,rfl,rfl,J,Y,I,A⟩:=hrel;obtain⟨l,s1,t,m,t1⟩:=A.o;by_cases r:i<j
  ·have id:(i:Int)<(j:Int):=by omega
   have K:(0:Int)<=(i:Int):=by omega
   have M:(0:Int)<=(j:Int):=by omega
   have L:(i:Int)<(n:Int):=by omega
   have N:(j:Int)<(n:Int):=by omega
   obtain⟨x,C⟩:∃x,l[i]! = x:=⟨_,rfl⟩
   obtain⟨y,E⟩:∃y,l[j]! = y:=⟨_,rfl⟩
   have T:wr.cell? ⟨g,i,none⟩=some (uv x):=by rw[<- C];exact m.cell (by omega)
   have U:wr.cell? ⟨g,j,none⟩=some (uv y):=by rw[<- E];exact m.cell (by omega)
   have V:=m.thaw i;have W:=m.thaw j
   have nt:¬i=j:=by omega
   have P:¬j=i:=by omega
   have O:(j:Int) - 1=((j - 1:Nat):Int):=by omega
   obtain⟨s,p⟩:=Xa (j - 1)
   rw[p]at O
   have jw:Ak.wrap (s:Int)=(s:Int):=by rw[Au];omega
   have f:Hid (SR wr g l/\l.size=n/\Zaa (λ k=>k=g) w wr/\l[i]! = x/\l[j]! = y/\reverseLoop (i+1) s (swp l i j)=D/\s+1=j):=⟨m,s1,t1,C,E,by rw[<- p,<- ZoO r];exact t,by omega⟩
   clear A s1 t m t1 C E p;go_wp2_with fail;go_region;go_wp2;go_roundg (gk - 1)
   case measure=>omega
   case rel=>exact⟨i+1,s,by go_num,by go_num,by have:=f.o.2.2.2.2.2.2;omega,by have:=f.o.2.2.2.2.2.2;omega,by omega,swp l i j,by rw[Zao];exact f.o.2.1,f.o.2.2.2.2.2.1,f.o.1.drewSwap f.o.2.2.2.1 f.o.2.2.2.2.1,turnSwap f.o.2.2.1 _ _ _ _⟩
  ·have id:¬(i:Int)<(j:Int):=by omega
   have z:Hid (SR wr g D/\Zaa (λ k=>k=g) w wr):=by
    rw[Zop r]at t;rw[<- t];exact⟨m,t1⟩
   clear A m s1 t1 t;go_wp2;refine CE (v:=Af #[]) (BJ rfl _ _ _) rfl ?_;exact⟨rfl,z⟩
theorem ZdZ(h:2*r+1≥hi):siftDown ltU hi F r d=d:=by
 rw[siftDown,dif_pos h]
theorem Zgf(h:¬2*r+1≥hi)(a:¬(2*r+2<hi/\ltU d[F+(2*r+1)]! d[F+(2*r+2)]! = true))(f:Bool)(b:ltU d[F+r]! d[F+(2*r+1)]! = f):
  siftDown ltU hi F r d=if f=true then siftDown ltU hi F (2*r+1) (swp d (F+r) (F+(2*r+1)))else d:=by
 rw[siftDown,dif_neg h]
 have e:(decide (2*r+1+1<hi)&&ltU d[F+(2*r+1)]! d[F+(2*r+1)+1]!)=false:=by
  rw[Bool.and_eq_false_iff];by_cases q:2*r+2<hi
  ·right
   have:F+(2*r+1)+1=F+(2*r+2):=by omega
   rw[this]
   cases k:ltU d[F+(2*r+1)]! d[F+(2*r+2)]! with
   | true=>exact absurd ⟨q,k⟩ a
   | false=>rfl
  ·left
   simp;omega
 rw[e,b]
 cases f <;> simp
theorem ZiS(h:2*r+2<hi)(a:ltU d[F+(2*r+1)]! d[F+(2*r+2)]! = true)(f:Bool)(b:ltU d[F+r]! d[F+(2*r+2)]! = f):
  siftDown ltU hi F r d=if f=true then siftDown ltU hi F (2*r+2) (swp d (F+r) (F+(2*r+2)))else d:=by
 rw[siftDown,dif_neg (by omega)]
 have e:(decide (2*r+1+1<hi)&&ltU d[F+(2*r+1)]! d[F+(2*r+1)+1]!)=true:=by
  have:F+(2*r+1)+1=F+(2*r+2):=by omega
  rw[this,a];simp;omega
 rw[e,b]
 cases f <;> simp[h]
theorem Zi9{lo:Nat}(h:SR w g d)(hd:d.size=n)(hb:F+hi<=n)(hl:lo<=n)(hn:n<=1000000000000):
  At Am 193 #[Aa (some ⟨g,0,none⟩) n c,Ab Ak (lo:Int),Ab Ak (hi:Int),Ab Ak (F:Int)] w λ e w'=>e=Aj (Af #[])/\Hid (SR w' g (siftDown ltU hi F lo d)/\Zaa (λ k=>k=g) w w'):=by
 obtain⟨D,hD⟩:=Xa (siftDown ltU hi F lo d)
 rw[hD]
 have H:Hid (SR w g d/\d.size=n/\siftDown ltU hi F lo d=D):=⟨h,hd,hD⟩
 clear h hd hD;go_enter func193,ntmps193;go_wp2_with fail;go_loopg[8] (n+hi) (λ k v wr=>∃r:Nat,v=Ab Ak r/\hi - r<=k/\r<=n+hi/\Hid (∃e:Array UInt64,e.size=n/\siftDown ltU hi F r e=D/\SR wr g e/\Zaa (λ k=>k=g) w wr))
 case atStart=>exact⟨lo,rfl,by omega,by omega,d,H.o.2.1,H.o.2.2,H.o.1,Zaa.refl _ _⟩
 case round =>
  obtain⟨r,rfl,hk,an,HR⟩:=hrel;obtain⟨a,s1,W,X,t1⟩:=HR.o
  have m2:(2:Int)*(r:Int)=((2*r:Nat):Int):=by omega
  obtain⟨s,L⟩:=Xa (2*r+1)
  have w2:Ak.wrap (2*(r:Int))=2*(r:Int):=by rw[Au];omega
  have a2:2*(r:Int)+1=(s:Int):=by omega
  have w3:Ak.wrap (s:Int)=(s:Int):=by rw[Au];omega
  clear m2;by_cases hc:hi<=s
  ·have am:(hi:Int)<=(s:Int):=by omega
   have al:Hid (SR wr g D/\Zaa (λ k=>k=g) w wr):=by
    rw[ZdZ (by omega)]at W;rw[<- W];exact⟨X,t1⟩
   clear HR X s1 t1 W L;go_wp2
   first | (refine As (v:=Af #[]) (BJ rfl _ _ _) rfl ?_) | (refine CE (v:=Af #[]) (BJ rfl _ _ _) rfl ?_)
   exact⟨rfl,al⟩
  ·have am:¬(hi:Int)<=(s:Int):=by omega
   obtain⟨C,Q⟩:=Xa (2*r+2)
   have a3:(s:Int)+1=(C:Int):=by omega
   have w4:Ak.wrap (C:Int)=(C:Int):=by rw[Au];omega
   have T:Hid (hi - r<=gk/\r<s/\s<C/\s<hi/\C<=n+hi):=⟨hk,by omega,by omega,by omega,by omega⟩
   by_cases ac:C<hi
   ·have aa:(C:Int)<(hi:Int):=by omega
    have ad:decide ((C:Int)<(hi:Int))=true:=by simpa using aa
    have ab:decide (C<hi)=true:=by simpa using ac
    obtain⟨p1,U⟩:=Xa (F+s)
    obtain⟨p2,V⟩:=Xa (F+C)
    have i1:(F:Int)+(s:Int)=(p1:Int):=by omega
    have i2:(p1:Int)+1=(p2:Int):=by omega
    have v1:Ak.wrap (p1:Int)=(p1:Int):=by rw[Au];omega
    have v2:Ak.wrap (p2:Int)=(p2:Int):=by rw[Au];omega
    have n1:(p1:Int)<(n:Int):=by omega
    have n2:(p2:Int)<(n:Int):=by omega
    obtain⟨x,hx⟩:∃x,a[p1]! = x:=⟨_,rfl⟩
    obtain⟨y,hy⟩:∃y,a[p2]! = y:=⟨_,rfl⟩
    obtain⟨f,hf⟩:=Xa (ltU x y)
    have q0:∀u:SW (Grew wr),u.w.cell? ⟨g,p1,none⟩=some (uv x):=λ u=>by rw[<- hx];exact(X.below u.ok).cell (by omega)
    have q1:∀u:SW (Grew wr),u.w.cell? ⟨g,p2,none⟩=some (uv y):=λ u=>by rw[<- hy];exact(X.below u.ok).cell (by omega)
    have K:=λ u=>Zas (wr:=wr) x y f hf u
    have R:Nonempty (SW (Grew wr)):=⟨⟨wr,Ao _ wr⟩⟩
    have G:Hid (a.size=n/\SR wr g a/\Zaa (λ k=>k=g) w wr):=⟨s1,X,t1⟩
    cases f with
    | true =>
     have SD:Hid (∀h:Bool,ltU a[F+r]! a[F+C]! = h->(if h=true then siftDown ltU hi F C (swp a (F+r) (F+C))else a)=D):=by
      intro h J;rw[<- Q]at J ⊢;rw[<- ZiS (by omega) (by rw[L,Q,U,V,hx,hy];exact hf) h J];exact W
     clear HR s1 W X t1 hx hy hf U V L Q
     go_upto_region 3 with fail
     refine Zab (S:=Grew wr) (by kernel_rfl) (by kernel_rfl) (Ao _ wr).drew ?_
     repeat(go_big_quiet_step (with_reducible exact K _))
     refine AN ?_;intro _ p;obtain⟨u,b⟩:=p;subst b
     obtain⟨j,A⟩:=Xb u.w
     have E:Hid (SR j g a/\Zaa (λ k=>k=g) w j):=by
      rw[A];exact⟨G.o.2.1.below u.ok,G.o.2.2.trans (Zaa.ofBelow u.ok) (λ _ _ q=>q)⟩
     rw[<- A];clear K q0 q1 R A u i1 i2 v1 v2 n1 n2
     obtain⟨z,N⟩:∃z,a[F+r]! = z:=⟨_,rfl⟩
     obtain⟨v,M⟩:∃v,a[F+C]! = v:=⟨_,rfl⟩
     obtain⟨h,J⟩:=Xa (ltU z v)
     obtain⟨i,m⟩:=Xa (F+r)
     obtain⟨pc,l⟩:=Xa (F+C)
     have O:Hid (i<n/\pc<n/\i≠pc/\F+r=i/\F+C=pc):=⟨by omega,by omega,by omega,m,l⟩
     have af:(F:Int)+(r:Int)=(i:Int):=by omega
     have ae:(F:Int)+(C:Int)=(pc:Int):=by omega
     have ak:Ak.wrap (i:Int)=(i:Int):=by rw[Au];omega
     have aj:Ak.wrap (pc:Int)=(pc:Int):=by rw[Au];omega
     have ah:(i:Int)<(n:Int):=by omega
     have ag:(pc:Int)<(n:Int):=by omega
     rw[m]at N;rw[l]at M
     have Y:∀u:SW (Grew j),u.w.cell? ⟨g,i,none⟩=some (uv z):=λ u=>by rw[<- N];exact(E.o.1.below u.ok).cell (by have:=G.o.1;omega)
     have Z:∀u:SW (Grew j),u.w.cell? ⟨g,pc,none⟩=some (uv v):=λ u=>by rw[<- M];exact(E.o.1.below u.ok).cell (by have:=G.o.1;omega)
     have K:=λ u=>Zas (wr:=j) z v h J u
     have R:Nonempty (SW (Grew j)):=⟨⟨j,Ao _ j⟩⟩
     have I:Hid ((if h=true then siftDown ltU hi F C (swp a i pc)else a)=D/\a[i]! = z/\a[pc]! = v):=⟨by rw[<- m,<- l];exact SD.o h (by rw[m,l,N,M];exact J),N,M⟩
     clear N M J m l SD
     cases h with
     | true =>
      go_upto_region 5 with fail
      refine Zab (S:=Grew j) (by kernel_rfl) (by kernel_rfl) (Ao _ j).drew ?_
      repeat(go_big_quiet_step (with_reducible exact K _))
      refine AN ?_;intro _ p;obtain⟨u,b⟩:=p;subst b
      obtain⟨P,B⟩:=Xb u.w
      have t:Hid (SR P g a/\Zaa (λ k=>k=g) w P):=by
       rw[B];exact⟨E.o.1.below u.ok,E.o.2.trans (Zaa.ofBelow u.ok) (λ _ _ q=>q)⟩
      rw[<- B];clear K Y Z R B u
      have k0:P.cell? ⟨g,i,none⟩=some (uv z):=by rw[<- I.o.2.1];exact t.o.1.cell (by have:=G.o.1;have:=O.o;omega)
      have k1:P.cell? ⟨g,pc,none⟩=some (uv v):=by rw[<- I.o.2.2];exact t.o.1.cell (by have:=G.o.1;have:=O.o;omega)
      have f0:=t.o.1.thaw i;have f1:=t.o.1.thaw pc;have nt:¬i=pc:=O.o.2.2.1
      have ai:¬pc=i:=λ q=>O.o.2.2.1 q.symm
      go_wp2_with fail;go_region;go_wp2;go_roundg (gk - 1)
      case measure=>have:=T.o;omega
      case rel=>exact⟨C,by go_num,by have:=T.o;omega,by have:=T.o;omega,swp a i pc,by rw[Zao];exact G.o.1,by have:=I.o.1;simpa using this,t.o.1.drewSwap I.o.2.1 I.o.2.2,turnSwap t.o.2 _ _ _ _⟩
     | false =>
      go_upto_region 5 with fail
      refine Zab (S:=Grew j) (by kernel_rfl) (by kernel_rfl) (Ao _ j).drew ?_
      repeat(go_big_quiet_step (with_reducible exact K _))
      refine AN ?_;intro _ p;obtain⟨u,b⟩:=p;subst b
      have t:Hid (SR u.w g D/\Zaa (λ k=>k=g) w u.w):=by
       have q:a=D:=by have:=I.o.1;simpa using this
       rw[<- q];exact⟨E.o.1.below u.ok,E.o.2.trans (Zaa.ofBelow u.ok) (λ _ _ q=>q)⟩
      clear K Y Z R;go_wp2
      first | (refine As (v:=Af #[]) (BJ rfl _ _ _) rfl ?_) | (refine CE (v:=Af #[]) (BJ rfl _ _ _) rfl ?_)
      exact⟨rfl,t⟩
    | false =>
     have SD:Hid (∀h:Bool,ltU a[F+r]! a[F+s]! = h->(if h=true then siftDown ltU hi F s (swp a (F+r) (F+s))else a)=D):=by
      intro h J;rw[<- L]at J ⊢;rw[<- Zgf (by omega) (by rw[L,Q,U,V,hx,hy,hf];simp) h J];exact W
     clear HR s1 W X t1 hx hy hf U V L Q
     go_upto_region 3 with fail
     refine Zab (S:=Grew wr) (by kernel_rfl) (by kernel_rfl) (Ao _ wr).drew ?_
     repeat(go_big_quiet_step (with_reducible exact K _))
     refine AN ?_;intro _ p;obtain⟨u,b⟩:=p;subst b
     obtain⟨j,A⟩:=Xb u.w
     have E:Hid (SR j g a/\Zaa (λ k=>k=g) w j):=by
      rw[A];exact⟨G.o.2.1.below u.ok,G.o.2.2.trans (Zaa.ofBelow u.ok) (λ _ _ q=>q)⟩
     rw[<- A];clear K q0 q1 R A u i1 i2 v1 v2 n1 n2
     obtain⟨z,N⟩:∃z,a[F+r]! = z:=⟨_,rfl⟩
     obtain⟨v,M⟩:∃v,a[F+s]! = v:=⟨_,rfl⟩
     obtain⟨h,J⟩:=Xa (ltU z v)
     obtain⟨i,m⟩:=Xa (F+r)
     obtain⟨pc,l⟩:=Xa (F+s)
     have O:Hid (i<n/\pc<n/\i≠pc/\F+r=i/\F+s=pc):=⟨by omega,by omega,by omega,m,l⟩
     have af:(F:Int)+(r:Int)=(i:Int):=by omega
     have ae:(F:Int)+(s:Int)=(pc:Int):=by omega
     have ak:Ak.wrap (i:Int)=(i:Int):=by rw[Au];omega
     have aj:Ak.wrap (pc:Int)=(pc:Int):=by rw[Au];omega
     have ah:(i:Int)<(n:Int):=by omega
     have ag:(pc:Int)<(n:Int):=by omega
     rw[m]at N;rw[l]at M
     have Y:∀u:SW (Grew j),u.w.cell? ⟨g,i,none⟩=some (uv z):=λ u=>by rw[<- N];exact(E.o.1.below u.ok).cell (by have:=G.o.1;omega)
     have Z:∀u:SW (Grew j),u.w.cell? ⟨g,pc,none⟩=some (uv v):=λ u=>by rw[<- M];exact(E.o.1.below u.ok).cell (by have:=G.o.1;omega)
     have K:=λ u=>Zas (wr:=j) z v h J u
     have R:Nonempty (SW (Grew j)):=⟨⟨j,Ao _ j⟩⟩
     have I:Hid ((if h=true then siftDown ltU hi F s (swp a i pc)else a)=D/\a[i]! = z/\a[pc]! = v):=⟨by rw[<- m,<- l];exact SD.o h (by rw[m,l,N,M];exact J),N,M⟩
     clear N M J m l SD
     cases h with
     | true =>
      go_upto_region 5 with fail
      refine Zab (S:=Grew j) (by kernel_rfl) (by kernel_rfl) (Ao _ j).drew ?_
      repeat(go_big_quiet_step (with_reducible exact K _))
      refine AN ?_;intro _ p;obtain⟨u,b⟩:=p;subst b
      obtain⟨P,B⟩:=Xb u.w
      have t:Hid (SR P g a/\Zaa (λ k=>k=g) w P):=by
       rw[B];exact⟨E.o.1.below u.ok,E.o.2.trans (Zaa.ofBelow u.ok) (λ _ _ q=>q)⟩
      rw[<- B];clear K Y Z R B u
      have k0:P.cell? ⟨g,i,none⟩=some (uv z):=by rw[<- I.o.2.1];exact t.o.1.cell (by have:=G.o.1;have:=O.o;omega)
      have k1:P.cell? ⟨g,pc,none⟩=some (uv v):=by rw[<- I.o.2.2];exact t.o.1.cell (by have:=G.o.1;have:=O.o;omega)
      have f0:=t.o.1.thaw i;have f1:=t.o.1.thaw pc;have nt:¬i=pc:=O.o.2.2.1
      have ai:¬pc=i:=λ q=>O.o.2.2.1 q.symm
      go_wp2_with fail;go_region;go_wp2;go_roundg (gk - 1)
      case measure=>have:=T.o;omega
      case rel=>exact⟨s,by go_num,by have:=T.o;omega,by have:=T.o;omega,swp a i pc,by rw[Zao];exact G.o.1,by have:=I.o.1;simpa using this,t.o.1.drewSwap I.o.2.1 I.o.2.2,turnSwap t.o.2 _ _ _ _⟩
     | false =>
      go_upto_region 5 with fail
      refine Zab (S:=Grew j) (by kernel_rfl) (by kernel_rfl) (Ao _ j).drew ?_
      repeat(go_big_quiet_step (with_reducible exact K _))
      refine AN ?_;intro _ p;obtain⟨u,b⟩:=p;subst b
      have t:Hid (SR u.w g D/\Zaa (λ k=>k=g) w u.w):=by
       have q:a=D:=by have:=I.o.1;simpa using this
       rw[<- q];exact⟨E.o.1.below u.ok,E.o.2.trans (Zaa.ofBelow u.ok) (λ _ _ q=>q)⟩
      clear K Y Z R;go_wp2
      first | (refine As (v:=Af #[]) (BJ rfl _ _ _) rfl ?_) | (refine CE (v:=Af #[]) (BJ rfl _ _ _) rfl ?_)
      exact⟨rfl,t⟩
   ·have aa:¬(C:Int)<(hi:Int):=by omega
    have ad:decide ((C:Int)<(hi:Int))=false:=by simpa using aa
    have ab:decide (C<hi)=false:=by simpa using ac
    have G:Hid (a.size=n):=s1
    have SD:Hid (∀h:Bool,ltU a[F+r]! a[F+s]! = h->(if h=true then siftDown ltU hi F s (swp a (F+r) (F+s))else a)=D):=by
     intro h J;rw[<- L]at J ⊢;rw[<- Zgf (by omega) (by omega) h J];exact W
    have R1:Hid (SR wr g a/\Zaa (λ k=>k=g) w wr):=⟨X,t1⟩
    clear HR s1 W X t1 L Q
    go_upto_region 3 with fail
    go_quiet (fail)
    obtain⟨j,A⟩:=Xb (wr.drewN nq)
    have E:Hid (SR j g a/\Zaa (λ k=>k=g) w j):=by
     rw[A];have hq:=AS (Ao wr.heap.size wr) nq;exact⟨R1.o.1.below hq,R1.o.2.trans (Zaa.ofBelow (S:=λ _=>False) hq) (λ _ _ q=>q.elim)⟩
    rw[<- A];clear A
    obtain⟨z,N⟩:∃z,a[F+r]! = z:=⟨_,rfl⟩
    obtain⟨v,M⟩:∃v,a[F+s]! = v:=⟨_,rfl⟩
    obtain⟨h,J⟩:=Xa (ltU z v)
    obtain⟨i,m⟩:=Xa (F+r)
    obtain⟨pc,l⟩:=Xa (F+s)
    have O:Hid (i<n/\pc<n/\i≠pc/\F+r=i/\F+s=pc):=⟨by omega,by omega,by omega,m,l⟩
    have af:(F:Int)+(r:Int)=(i:Int):=by omega
    have ae:(F:Int)+(s:Int)=(pc:Int):=by omega
    have ak:Ak.wrap (i:Int)=(i:Int):=by rw[Au];omega
    have aj:Ak.wrap (pc:Int)=(pc:Int):=by rw[Au];omega
    have ah:(i:Int)<(n:Int):=by omega
    have ag:(pc:Int)<(n:Int):=by omega
    rw[m]at N;rw[l]at M
    have Y:∀u:SW (Grew j),u.w.cell? ⟨g,i,none⟩=some (uv z):=λ u=>by rw[<- N];exact(E.o.1.below u.ok).cell (by have:=G.o;omega)
    have Z:∀u:SW (Grew j),u.w.cell? ⟨g,pc,none⟩=some (uv v):=λ u=>by rw[<- M];exact(E.o.1.below u.ok).cell (by have:=G.o;omega)
    have K:=λ u=>Zas (wr:=j) z v h J u
    have R:Nonempty (SW (Grew j)):=⟨⟨j,Ao _ j⟩⟩
    have I:Hid ((if h=true then siftDown ltU hi F s (swp a i pc)else a)=D/\a[i]! = z/\a[pc]! = v):=⟨by rw[<- m,<- l];exact SD.o h (by rw[m,l,N,M];exact J),N,M⟩
    clear N M J m l SD
    cases h with
    | true =>
     go_upto_region 5 with fail
     refine Zab (S:=Grew j) (by kernel_rfl) (by kernel_rfl) (Ao _ j).drew ?_
     repeat(go_big_quiet_step (with_reducible exact K _))
     refine AN ?_;intro _ p;obtain⟨u,b⟩:=p;subst b
     obtain⟨P,B⟩:=Xb u.w
     have t:Hid (SR P g a/\Zaa (λ k=>k=g) w P):=by
      rw[B];exact⟨E.o.1.below u.ok,E.o.2.trans (Zaa.ofBelow u.ok) (λ _ _ q=>q)⟩
     rw[<- B];clear K Y Z R B u
     have k0:P.cell? ⟨g,i,none⟩=some (uv z):=by rw[<- I.o.2.1];exact t.o.1.cell (by have:=G.o;have:=O.o;omega)
     have k1:P.cell? ⟨g,pc,none⟩=some (uv v):=by rw[<- I.o.2.2];exact t.o.1.cell (by have:=G.o;have:=O.o;omega)
     have f0:=t.o.1.thaw i;have f1:=t.o.1.thaw pc;have nt:¬i=pc:=O.o.2.2.1
     have ai:¬pc=i:=λ q=>O.o.2.2.1 q.symm
     go_wp2_with fail;go_region;go_wp2;go_roundg (gk - 1)
     case measure=>have:=T.o;omega
     case rel=>exact⟨s,by go_num,by have:=T.o;omega,by have:=T.o;omega,swp a i pc,by rw[Zao];exact G.o,by have:=I.o.1;simpa using this,t.o.1.drewSwap I.o.2.1 I.o.2.2,turnSwap t.o.2 _ _ _ _⟩
    | false =>
     go_upto_region 5 with fail
     refine Zab (S:=Grew j) (by kernel_rfl) (by kernel_rfl) (Ao _ j).drew ?_
     repeat(go_big_quiet_step (with_reducible exact K _))
     refine AN ?_;intro _ p;obtain⟨u,b⟩:=p;subst b
     have t:Hid (SR u.w g D/\Zaa (λ k=>k=g) w u.w):=by
      have q:a=D:=by have:=I.o.1;simpa using this
      rw[<- q];exact⟨E.o.1.below u.ok,E.o.2.trans (Zaa.ofBelow u.ok) (λ _ _ q=>q)⟩
     clear K Y Z R;go_wp2
     first | (refine As (v:=Af #[]) (BJ rfl _ _ _) rfl ?_) | (refine CE (v:=Af #[]) (BJ rfl _ _ _) rfl ?_)
     exact⟨rfl,t⟩
theorem ZmR(hi F:Nat):∀(m r:Nat) (d:Array UInt64),hi - r<=m->(siftDown ltU hi F r d).size=d.size:=by
 intro m
 induction m with
 | zero =>
  intro r d h;rw[ZdZ (by omega)]
 | succ m c =>
  intro r d h;by_cases b:2*r+1≥hi
  ·rw[ZdZ b]
  ·by_cases a:2*r+2<hi/\ltU d[F+(2*r+1)]! d[F+(2*r+2)]! = true
   ·rw[ZiS a.1 a.2 _ rfl]
    split
    ·rw[c _ _ (by omega),Zao]
    ·rfl
   ·rw[Zgf b a _ rfl]
    split
    ·rw[c _ _ (by omega),Zao]
    ·rfl
theorem Zo3(h:d.size=n):(siftDown ltU hi F r d).size=n:=by rw[ZmR hi F _ r d (Nat.le_refl _),h]
theorem Znh {w:World} {g n c a b:Nat} {d:Array UInt64} (h:SR w g d) (hd:d.size=n) (hab:a<b) (hb:b<=n) (hn:n<=1000000000000) :
  Calls Tryz.prog 136 #[.slice (some ⟨g,0,none⟩) n c,.int .i64 (a:Int),.int .i64 (b:Int)] w λ e w'=>e=.returned (.tuple #[])/\Hid (SR w' g (heapSort ltU d a b)/\Zaa (λ k=>k=g) w w'):=by
 obtain ⟨D,hD⟩:=Xa (heapSort ltU d a b)
 rw [hD]
 obtain ⟨hi,hhi⟩:=Xa (b - a)
 obtain ⟨E1,hE1⟩:=Xa (heapBuild ltU hi a ((hi - 1) / 2+1) d)
 have H:Hid (SR w g d/\d.size=n/\heapBuild ltU hi a ((hi - 1) / 2+1) d=E1/\heapPop ltU a hi E1=D/\a+hi<=n/\1<=hi):=⟨h,hd,hE1,by rw [<- hD,<- hE1,<- hhi]; rfl,by omega,by omega⟩
 have s1:(b:Int) - (a:Int)=(hi:Int):=by omega
 have w1:IntKind.i64.wrap (hi:Int)=(hi:Int):=by rw [IntKind.wrap_i64]; omega
 obtain ⟨h1,hh1⟩:∃ h1,h1+1=hi:=⟨hi - 1,by omega⟩
 have s2:(hi:Int) - 1=(h1:Int):=by omega
 have w2:IntKind.i64.wrap (h1:Int)=(h1:Int):=by rw [IntKind.wrap_i64]; omega
 obtain ⟨hh,hhh⟩:=Xa (h1 / 2)
 have s3:(h1:Int).tdiv 2=(hh:Int):=by rw [<- hhh]; rfl
 have w3:IntKind.i64.wrap (hh:Int)=(hh:Int):=by rw [IntKind.wrap_i64]; omega
 have HH:Hid (h1+1=hi/\(hi - 1) / 2=hh/\hh<=n/\hi<=n):=⟨hh1,by omega,by omega,by omega⟩
 clear h hd hD hhi hE1 hh1 hhh;go_enter Tryz.func136,Tryz.ntmps136;go_wp2_with fail;go_loopg [9] (hh+1) (λ k v wr=>∃ z:Int,v=.int .i64 z/\k<=hh+1/\Hid (z=(k:Int) - 1/\∃ e:Array UInt64,e.size=n/\heapBuild ltU hi a k e=E1/\SR wr g e/\Zaa (λ k=>k=g) w wr))
 case atStart=>exact ⟨_,rfl,Nat.le_refl _,by omega,d,H.o.2.1,by rw [<- HH.o.2.1]; exact H.o.2.2.1,H.o.1,Zaa.refl _ _⟩
 case round =>
  obtain ⟨z,rfl,hk,HR⟩:=hrel;obtain ⟨hz,e1,z1,o1,r1,t1⟩:=HR.o
  cases gk with
  | succ t =>
   obtain rfl:z=(t:Int):=by omega
   have id:(0:Int)<=(t:Int):=by omega
   have hsi:=Zi9 (c:=c) (lo:=t) (hi:=hi) (F:=a) r1 z1 H.o.2.2.2.2.1 (by have:=HH.o; omega) hn
   obtain ⟨tm,htm⟩:∃ tm:Int,(t:Int) - 1=tm:=⟨_,rfl⟩
   have wm:IntKind.i64.wrap tm=tm:=by have:=HH.o.2.2; rw [IntKind.wrap_i64]; omega
   have O1:Hid (heapBuild ltU hi a t (siftDown ltU hi a t e1)=E1/\(siftDown ltU hi a t e1).size=n/\Zaa (λ k=>k=g) w wr/\(t:Int) - 1=tm):=⟨o1,Zo3 z1,t1,htm⟩
   clear HR z1 o1 r1 t1 hz;go_wp2_with fail;refine hsi.mono ?_;rintro e w2 ⟨rfl,H2⟩;go_wp2;go_roundg t
   case measure=>omega
   case rel=>exact ⟨tm,by go_num,by omega,O1.o.2.2.2.symm,_,O1.o.2.1,O1.o.1,H2.o.1,O1.o.2.2.1.trans H2.o.2 (λ _ _ q=>q)⟩
  | zero =>
   obtain rfl:z = -1:=by omega
   have R1:Hid (E1.size=n/\SR wr g E1/\Zaa (λ k=>k=g) w wr):=by
    have q:e1=E1:=o1;rw [<- q];exact ⟨z1,r1,t1⟩
   clear HR z1 o1 r1 t1 hz hk;go_wp2_with fail;go_loopg [10] hi (λ k v wr=>∃ z:Int,v=.int .i64 z/\k<=hi/\Hid (z=(k:Int) - 1/\∃ e:Array UInt64,e.size=n/\heapPop ltU a k e=D/\SR wr g e/\Zaa (λ k=>k=g) w wr))
   case atStart=>exact ⟨_,rfl,Nat.le_refl _,by have:=HH.o.1; omega,E1,R1.o.1,H.o.2.2.2.1,R1.o.2.1,R1.o.2.2⟩
   case round =>
    obtain ⟨z,rfl,hk,HR⟩:=hrel;obtain ⟨hz,e1,z1,o1,r1,t1⟩:=HR.o
    cases gk with
    | succ t =>
     obtain rfl:z=(t:Int):=by omega
     have id:(0:Int)<=(t:Int):=by omega
     obtain ⟨pc,hpc⟩:=Xa (a+t)
     have ipc:(a:Int)+(t:Int)=(pc:Int):=by omega
     have PB:pc<n:=by have:=H.o.2.2.2.2; omega
     have AB:a<n:=by have:=H.o.2.2.2.2; omega
     have wpc:IntKind.i64.wrap (pc:Int)=(pc:Int):=by rw [IntKind.wrap_i64]; omega
     have npc:(pc:Int)<(n:Int):=by omega
     have npa:(a:Int)<(n:Int):=by omega
     obtain ⟨x,hx⟩:∃ x,e1[a]! = x:=⟨_,rfl⟩
     obtain ⟨y,hy⟩:∃ y,e1[pc]! = y:=⟨_,rfl⟩
     have k0:wr.cell? ⟨g,a,none⟩=some (uv x):=by rw [<- hx]; exact r1.cell (by omega)
     have k1:wr.cell? ⟨g,pc,none⟩=some (uv y):=by rw [<- hy]; exact r1.cell (by omega)
     have f0:=r1.thaw a;have f1:=r1.thaw pc
     have k2:(wr.setCell ⟨g,a,none⟩ (uv y)).cell? ⟨g,pc,none⟩=some (uv y):=by
      rw [(r1.set a y).cell (by simp; omega)]
      congr 2
      by_cases q:pc=a
      ·subst q;simp [getElem!_pos,AB,z1]
      ·rw [<- hy];simp [getElem!_pos,z1,PB,Ne.symm q]
     have f2:=(r1.set a y).thaw pc
     obtain ⟨tm,htm⟩:∃ tm:Int,(t:Int) - 1=tm:=⟨_,rfl⟩
     have wm:IntKind.i64.wrap tm=tm:=by have:=HH.o.2.2; rw [IntKind.wrap_i64]; omega
     obtain ⟨w5,hw5⟩:=Xa (((wr.setCell ⟨g,a,none⟩ (uv y)).setCell ⟨g,pc,none⟩ (uv x)).drew)
     have S5:Hid (SR w5 g (swp e1 a pc)/\Zaa (λ k=>k=g) w w5):=by
      rw [<- hw5];exact ⟨r1.drewSwap hx hy,turnSwap t1 _ _ _ _⟩
     have hsi:=Zi9 (c:=c) (lo:=0) (hi:=t) (F:=a) S5.o.1 (by rw [Zao]; exact z1) (by have:=H.o.2.2.2.2; omega) (by omega) hn
     have O1:Hid (heapPop ltU a t (siftDown ltU t a 0 (swp e1 a pc))=D/\(siftDown ltU t a 0 (swp e1 a pc)).size=n/\(t:Int) - 1=tm):=⟨by rw [<- hpc]; exact o1,Zo3 (by rw [Zao]; exact z1),htm⟩
     have HW5:Hid _:=hw5;clear HR z1 o1 r1 t1 hz hpc hx hy hw5
     go_upto_region 10 with fail
     go_region
     all_goals
      try rw [HW5.o]
      go_wp2_with fail;refine hsi.mono ?_;rintro e w2 ⟨rfl,H2⟩;go_wp2;go_roundg t
      case measure=>omega
      case rel=>exact ⟨tm,by go_num,by omega,O1.o.2.2.symm,_,O1.o.2.1,O1.o.1,H2.o.1,S5.o.2.trans H2.o.2 (λ _ _ q=>q)⟩
    | zero =>
     obtain rfl:z = -1:=by omega
     have FIN:Hid (SR wr g D/\Zaa (λ k=>k=g) w wr):=by
      have q:e1=D:=o1;rw [<- q];exact ⟨r1,t1⟩
     clear HR z1 o1 r1 t1 hz hk;go_wp2;refine bodyPost_end (v:=.tuple #[]) (results_none rfl _ _ _) rfl ?_;exact ⟨rfl,FIN⟩
def BoxI(w:Ap)(b:Nat)(s:Nat):Prop:=w.heap[b]? = some (.cells #[Ab Ak (s:Int)] 3 (0,0))
section
variable{w w':World}{b s:Nat}
theorem BoxI.lt(h:BoxI w b s):b<w.heap.size:=(Array.getElem?_eq_some_iff.1 h).1
theorem BoxI.cell(h:BoxI w b s):w.cell? ⟨b,0,none⟩=some (Ab Ak (s:Int)):=by
 unfold BoxI at h;simp[World.cell?,h]
theorem BoxI.thaw(h:BoxI w b s):w.frozen? ⟨b,0,none⟩=false:=by
 unfold BoxI at h;simp[World.frozen?,h]
theorem BoxI.below(h:BoxI w b s)(a:Below w.heap.size w w'):BoxI w' b s:=(a.block b h.lt).trans h
theorem BoxI.set(h:BoxI w b s)(a:Nat):BoxI (w.setCell ⟨b,0,none⟩ (Ab Ak (a:Int))) b a:=by
 unfold BoxI at h ⊢;simp[World.setCell,Array.getElem?_modify,h]
end
theorem Zdc{w:Ap}{g n c a b sb s:Nat}{d:Array UInt64}(h:SR w g d)(hd:d.size=n)(ha:a<n)(hb:b<n)(_hn:n<=1000000000000)(hB:BoxI w sb s)(hs:s<=1000)(_hne:sb≠g)(r:Nat×Nat×Nat)(hr:order2 ltU d a b s=r):
  At Am 217 #[Aa (some ⟨g,0,none⟩) n c,Ab Ak (a:Int),Ab Ak (b:Int),Ah (some ⟨sb,0,none⟩)] w λ e w'=>e=Aj (Af #[Ab Ak (r.1:Int),Ab Ak (r.2.1:Int)])/\Hid (BoxI w' sb r.2.2/\Zaa (λ k=>k=sb) w w'):=by
 obtain⟨x,hx⟩:∃x,d[b]! = x:=⟨_,rfl⟩
 obtain⟨y,hy⟩:∃y,d[a]! = y:=⟨_,rfl⟩
 obtain⟨f,hf⟩:=Xa (ltU x y)
 have q0:∀u:SW (Grew w),u.w.cell? ⟨g,b,none⟩=some (uv x):=λ u=>by rw[<- hx];exact(h.below u.ok).cell (by omega)
 have q1:∀u:SW (Grew w),u.w.cell? ⟨g,a,none⟩=some (uv y):=λ u=>by rw[<- hy];exact(h.below u.ok).cell (by omega)
 have hL:=λ u=>Zas (wr:=w) x y f hf u
 have NE:Nonempty (SW (Grew w)):=⟨⟨w,Ao _ w⟩⟩
 have na:(a:Int)<(n:Int):=by omega
 have nb:(b:Int)<(n:Int):=by omega
 have HB:Hid (BoxI w sb s):=hB
 have hr':r=if f=true then(b,a,s+1)else(a,b,s):=by
  rw[<- hr];unfold order2;rw[hx,hy,hf]
 clear h hd hB hx hy hf hr
 cases f with
 | true =>
  obtain rfl:r=(b,a,s+1):=by simpa using hr'
  clear hr';go_enter func217,ntmps217
  go_upto_region 1 with fail
  refine Zab (S:=Grew w) (by kernel_rfl) (by kernel_rfl) (Ao _ w).drew ?_
  repeat(go_big_quiet_step (with_reducible exact hL _))
  refine AN ?_;intro _ hw';obtain⟨u,hw''⟩:=hw';subst hw''
  obtain⟨w4,hw4⟩:=Xb u.w
  have B4:Hid (BoxI w4 sb s/\Below w.heap.size w w4):=by rw[hw4];exact⟨HB.o.below u.ok,u.ok⟩
  rw[<- hw4];clear hL q0 q1 NE hw4 u;have k0:=B4.o.1.cell;have k1:=B4.o.1.thaw
  have s1:(s:Int)+1=((s+1:Nat):Int):=by omega
  obtain⟨s2,hs2⟩:=Xa (s+1)
  rw[hs2]at s1
  have sw:Ak.wrap (s2:Int)=(s2:Int):=by rw[Au];omega
  have S2:Hid (s+1=s2):=hs2;clear hs2;go_wp2;refine As (AA rfl _ _ _) rfl ?_;refine⟨rfl,?_⟩;rw[S2.o];exact⟨B4.o.1.set s2,(Zaa.ofBelow B4.o.2).trans ((Zaa.refl (λ k=>k=sb) w4).setCell (p:=⟨sb,0,none⟩) (.inl rfl) _) (λ _ _ q=>q)⟩
 | false =>
  obtain rfl:r=(a,b,s):=by simpa using hr'
  clear hr';go_enter func217,ntmps217
  go_upto_region 1 with fail
  refine Zab (S:=Grew w) (by kernel_rfl) (by kernel_rfl) (Ao _ w).drew ?_
  repeat(go_big_quiet_step (with_reducible exact hL _))
  refine AN ?_;intro _ hw';obtain⟨u,hw''⟩:=hw';subst hw''
  have B4:Hid (BoxI u.w sb s/\Below w.heap.size w u.w):=⟨HB.o.below u.ok,u.ok⟩
  clear hL q0 q1 NE;go_wp2;refine As (AA rfl _ _ _) rfl ?_;exact⟨rfl,B4.o.1,Zaa.ofBelow B4.o.2⟩
theorem Zbs(c:a<n)(e:b<n):(order2 ltU d a b s).1<n/\(order2 ltU d a b s).2.1<n/\(order2 ltU d a b s).2.2<=s+1:=by
 unfold order2
 split
 ·exact⟨e,c,by simp⟩
 ·exact⟨c,e,by simp⟩
theorem ZcY{e0:Nat}(h:SR w g d)(hd:d.size=n)(J:a<n)(K:b<n)(L:e0<n)(A:n<=1000000000000)(N:BoxI w i s)(T:s<=900)(f:i≠g)(r:Nat×Nat)(O:median ltU d a b e0 s=r):
  At Am 197 #[Aa (some ⟨g,0,none⟩) n c,Ab Ak (a:Int),Ab Ak (b:Int),Ab Ak (e0:Int),Ah (some ⟨i,0,none⟩)] w λ e w'=>e=Aj (Ab Ak (r.1:Int))/\Hid (BoxI w' i r.2/\Zaa (λ k=>k=i) w w'):=by
 obtain⟨p,j⟩:=Xa (order2 ltU d a b s)
 obtain⟨v,l⟩:=Xa (order2 ltU d p.2.1 e0 p.2.2)
 obtain⟨C,m⟩:=Xa (order2 ltU d p.1 v.1 v.2.2)
 have t:=Zbs (d:=d) (s:=s) J K;rw[j]at t;have B:=Zbs (d:=d) (s:=p.2.2) t.2.1 L;rw[l]at B;have P:=Zbs (d:=d) (s:=v.2.2) t.1 B.1;rw[m]at P
 obtain rfl:(C.2.1,C.2.2)=r:=by
  rw[<- O];unfold median;simp only[j,l,m]
 have G:=Zdc (c:=c) h hd J K A N (by omega) f p j
 have H:=λ(u:Ap) (q:Zaa (λ k=>k=i) w u) (M:BoxI u i p.2.2)=>Zdc (c:=c) (h.turned q (λ e=>f e.symm)) hd t.2.1 L A M (by omega) f v l
 have I:=λ(u:Ap) (q:Zaa (λ k=>k=i) w u) (M:BoxI u i v.2.2)=>Zdc (c:=c) (h.turned q (λ e=>f e.symm)) hd t.1 B.1 A M (by omega) f C m
 obtain⟨U,V,W⟩:=p;obtain⟨X,Y,Z⟩:=v;obtain⟨z1,z2,z3⟩:=C;simp only at G H I;clear h hd J K L A N T f O j l m t B P;go_enter func197,ntmps197;go_wp2_with fail;refine G.mono ?_;rintro e w1 ⟨rfl,z⟩;have x:=H w1 z.o.2 z.o.1;clear G H;go_wp2_with fail;refine x.mono ?_;rintro e Q ⟨rfl,D⟩;have F:Hid (Zaa (λ k=>k=i) w Q):=z.o.2.trans D.o.2 (λ _ _ q=>q);have y:=I Q F.o D.o.1;clear x I;go_wp2_with fail;refine y.mono ?_;rintro e R ⟨rfl,E⟩
 have S:Hid (BoxI R i z3/\Zaa (λ k=>k=i) w R):=⟨E.o.1,F.o.trans E.o.2 (λ _ _ q=>q)⟩
 clear y z D E F;go_wp2;go_ret;exact⟨rfl,S⟩
theorem Zc8(h:SR w g d)(hd:d.size=n)(j:0<a)(v:a+1<n)(x:n<=1000000000000)(o:BoxI w i s)(q:s<=900)(f:i≠g)(r:Nat×Nat)(p:medianAdjacent ltU d a s=r):
  At Am 196 #[Aa (some ⟨g,0,none⟩) n c,Ab Ak (a:Int),Ah (some ⟨i,0,none⟩)] w λ e w'=>e=Aj (Ab Ak (r.1:Int))/\Hid (BoxI w' i r.2/\Zaa (λ k=>k=i) w w'):=by
 obtain⟨a1,l⟩:=Xa (a - 1)
 obtain⟨a2,m⟩:=Xa (a+1)
 have u:=ZcY (c:=c) (a:=a1) (b:=a) (e0:=a2) h hd (by omega) (by omega) (by omega) x o q f r (by rw[<- l,<- m];exact p)
 have y:(a:Int) - 1=(a1:Int):=by omega
 have z:(a:Int)+1=(a2:Int):=by omega
 have w1:Ak.wrap (a1:Int)=(a1:Int):=by rw[Au];omega
 have A:Ak.wrap (a2:Int)=(a2:Int):=by rw[Au];omega
 clear h hd j v o q f p l m;go_enter func196,ntmps196;go_wp2_with fail;refine u.mono ?_;rintro e B ⟨rfl,t⟩;go_wp2;go_ret;exact⟨rfl,t⟩
end Go.Proofs.YtlojblelpaegpaaGreat
