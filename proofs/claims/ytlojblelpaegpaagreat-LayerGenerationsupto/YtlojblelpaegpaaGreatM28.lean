/-
  Several texts, laid together.
-/
import Derived.Test.YtlojblelpaegpaaGreatM27
set_option maxHeartbeats 6400000
set_option maxRecDepth 100000
open Go renaming World->Ap,Calls->At,bodyPost_ret->As,results_tmp2->AA,wpQuiet_nil->AN,below_drewN->AS
open Go.IntKind renaming i64->Ak,wrap_i64->Au,u64->Al
open Go.RowKit.Below renaming refl->Ao
open Nat renaming le_refl->Az,mul_one->Dc
open Bool renaming true_and->Ci,and_eq_true->Bf
open Go.Value renaming slice->Aa,int->Ab,bool->Ad
open Go.Proofs.Tryz
namespace Go.Proofs.YtlojblelpaegpaaGreat
open Go.RowKit Go.Sort
variable{a b c g i j n s:Nat}{d:Array UInt64}{p:UInt64->Bool}{w:Ap}
theorem BoxI.new(w:Ap):BoxI (w.alloc (.cells #[Ab Ak 0] 3)) w.heap.size 0:=by
 show(w.heap.push _)[w.heap.size]? = _;simp
theorem Za6{e0:Nat}(e:a<n)(f:b<n)(g:e0<n):(median ltU d a b e0 s).1<n/\(median ltU d a b e0 s).2<=s+3:=by
 have c:=Zbs (d:=d) (s:=s) e f;have h:=Zbs (d:=d) (s:=(order2 ltU d a b s).2.2) c.2.1 g;have i:=Zbs (d:=d) (s:=(order2 ltU d (order2 ltU d a b s).2.1 e0 (order2 ltU d a b s).2.2).2.2) c.1 h.1;exact⟨i.2.1,by unfold median;simp only;omega⟩
theorem Zew(b:a+1<n):(medianAdjacent ltU d a s).1<n/\(medianAdjacent ltU d a s).2<=s+3:=Za6 (by omega) (by omega) b
def hintV:Hint->Int
 | .unknown=>0
 | .increasing=>1
 | .decreasing=>2
def hintN(s:Nat):Int:=if s=0 then 1 else if s=12 then 2 else 0
theorem Zjg(s:Nat):hintV (if s=0 then .increasing else if s=12 then .decreasing else .unknown)=hintN s:=by
 unfold hintN
 split
 ·rfl
 ·split <;> rfl
theorem hintU(a:¬s=0)(b:¬s=12):hintN s=0:=by
 unfold hintN;rw[Aw a,Aw b]
theorem Zoi(h:SR w g d)(hd:d.size=n)(aa:a+8<=b)(hb:b<=n)(M:n<=1000000000000)(r:Nat×Hint)(hr:choosePivot ltU d a b=r):
  At Tryz.prog 138 #[Aa (some ⟨g,0,none⟩) n c,Ab Ak (a:Int),Ab Ak (b:Int)] w λ e w'=>e=.returned (.tuple #[Ab Ak (r.1:Int),Ab Ak (hintV r.2)])/\Hid (Below w.heap.size w w'):=by
 obtain⟨l,hl⟩:=Xa (b - a)
 obtain⟨q,hq⟩:=Xa (l / 4)
 obtain⟨I,h1⟩:=Xa (a+q)
 obtain⟨z,h2⟩:=Xa (a+q*2)
 obtain⟨A,h3⟩:=Xa (a+q*3)
 obtain⟨Q,D⟩:=Xa (q*2)
 obtain⟨R,E⟩:=Xa (q*3)
 have b1:0<I/\I+1<n:=by omega
 have b2:0<z/\z+1<n:=by omega
 have V:0<A/\A+1<n:=by omega
 have m0:(b:Int) - (a:Int)=(l:Int):=by omega
 have m1:(l:Int).tdiv 4=(q:Int):=by rw[<- hq];rfl
 have m2:(q:Int)*2=(Q:Int):=by omega
 have m3:(q:Int)*3=(R:Int):=by omega
 have m4:(a:Int)+(q:Int)=(I:Int):=by omega
 have m5:(a:Int)+(Q:Int)=(z:Int):=by omega
 have m6:(a:Int)+(R:Int)=(A:Int):=by omega
 have w0:Ak.wrap (l:Int)=(l:Int):=by rw[Au];omega
 have w1:Ak.wrap (q:Int)=(q:Int):=by rw[Au];omega
 have w2:Ak.wrap (Q:Int)=(Q:Int):=by rw[Au];omega
 have w3:Ak.wrap (R:Int)=(R:Int):=by rw[Au];omega
 have w4:Ak.wrap (I:Int)=(I:Int):=by rw[Au];omega
 have w5:Ak.wrap (z:Int)=(z:Int):=by rw[Au];omega
 have w6:Ak.wrap (A:Int)=(A:Int):=by rw[Au];omega
 have g8:(8:Int)<=(l:Int):=by omega
 obtain⟨v,ac⟩:=Xa w.heap.size
 obtain⟨W,P⟩:=Xb (w.alloc (.cells #[Ab Ak 0] 3))
 have y:SR W g d/\BoxI W v 0/\Below w.heap.size w W:=by
  have hB:Below w.heap.size w W:=by rw[P];exact(Ao _ w).alloc (Az _) _
  exact⟨h.below hB,by rw[P,<- ac];exact BoxI.new w,hB⟩
 have f:v≠g:=by have:=h.lt;omega
 have x:∀U:Ap,Zaa (λ k=>k=v) W U->Below w.heap.size w U:=λ U t=>y.2.2.trans (t.below (y.2.2.size) (λ k hk e=>by omega))
 have O:Hid (∀U:Ap,Zaa (λ k=>k=v) W U->Below w.heap.size w U):=x;by_cases C:50<=l
 ·obtain⟨S,F⟩:=Xa (medianAdjacent ltU d I 0)
  obtain⟨T,G⟩:=Xa (medianAdjacent ltU d z S.2)
  obtain⟨rk,H⟩:=Xa (medianAdjacent ltU d A T.2)
  obtain⟨rm,i⟩:=Xa (median ltU d S.1 T.1 rk.1 rk.2)
  have e1:=Zew (d:=d) (s:=0) b1.2;rw[F]at e1;have e2:=Zew (d:=d) (s:=S.2) b2.2;rw[G]at e2;have e3:=Zew (d:=d) (s:=T.2) V.2;rw[H]at e3;have L:=Za6 (d:=d) (s:=rk.2) e1.1 e2.1 e3.1;rw[i]at L
  have m:r=(rm.1,if rm.2=0 then .increasing else if rm.2=12 then .decreasing else .unknown):=by
   rw[<- hr];unfold choosePivot;simp only[hl,hq,Dc,D,E]
   have p1:l≥8:=by omega
   have p2:l≥50:=C
   have p3:a+Q=z:=by omega
   have p4:a+R=A:=by omega
   simp only[p1,p2,p3,p4,h1,Fa,F,G,H,i]
  have c1:=Zc8 (c:=c) y.1 hd b1.1 b1.2 M y.2.1 (by omega) f S F
  have c2:=λ(u:Ap) (t:Zaa (λ k=>k=v) W u) (hu:BoxI u v S.2)=>Zc8 (c:=c) (y.1.turned t (λ e=>f e.symm)) hd b2.1 b2.2 M hu (by omega) f T G
  have c3:=λ(u:Ap) (t:Zaa (λ k=>k=v) W u) (hu:BoxI u v T.2)=>Zc8 (c:=c) (y.1.turned t (λ e=>f e.symm)) hd V.1 V.2 M hu (by omega) f rk H
  have K:=λ(u:Ap) (t:Zaa (λ k=>k=v) W u) (hu:BoxI u v rk.2)=>ZcY (c:=c) (y.1.turned t (λ e=>f e.symm)) hd e1.1 e2.1 e3.1 M hu (by omega) f rm i
  have N:hintV r.2=hintN rm.2:=by rw[m];exact Zjg _
  have p:r.1=rm.1:=by rw[m]
  rw[N,p]
  obtain⟨hz,j⟩:=Xa (hintN rm.2)
  rw[j];have B:Hid (hintN rm.2=hz):=j;clear j;obtain⟨x1,x2⟩:=S;obtain⟨y1,y2⟩:=T;obtain⟨z1,z2⟩:=rk;obtain⟨u1,u2⟩:=rm;simp only at c1 c2 c3 K N p L B
  have ab:(50:Int)<=(l:Int):=by omega
  clear h hd aa hb M hr m N p hl hq h1 h2 h3 D E b1 b2 V y f x F G H i e1 e2 e3 L C;go_enter func138,ntmps138
  go_upto_region 3 with fail
  rw[<- P];clear P;go_wp2_with fail;refine c1.mono ?_;rintro e wa ⟨rfl,H1⟩;have X:=c2 wa H1.o.2 H1.o.1;clear c1 c2;go_wp2_with fail;refine X.mono ?_;rintro e wb ⟨rfl,H2⟩;have T2:Hid (Zaa (λ k=>k=v) W wb):=H1.o.2.trans H2.o.2 (λ _ _ q=>q);have Y:=c3 wb T2.o H2.o.1;clear X c3;go_wp2_with fail;refine Y.mono ?_;rintro e wc ⟨rfl,H3⟩;have T3:Hid (Zaa (λ k=>k=v) W wc):=T2.o.trans H3.o.2 (λ _ _ q=>q);have Z:=K wc T3.o H3.o.1;clear Y K;go_wp2_with fail;refine Z.mono ?_;rintro e wd ⟨rfl,J⟩;have T4:Hid (Zaa (λ k=>k=v) W wd):=T3.o.trans J.o.2 (λ _ _ q=>q);have k0:=J.o.1.cell;clear Z H1 H2 H3 T2 T3;by_cases s0:u2=0
  ·subst s0;go_wp2;refine As (AA rfl _ _ _) rfl ?_;exact⟨by rw[<- B.o];rfl,O.o _ T4.o⟩
  ·by_cases s1:u2=12
   ·subst s1;go_wp2;refine As (AA rfl _ _ _) rfl ?_;exact⟨by rw[<- B.o];rfl,O.o _ T4.o⟩
   ·have z0:¬(u2:Int)=0:=by omega
    have z1:¬(u2:Int)=12:=by omega
    go_wp2;refine As (AA rfl _ _ _) rfl ?_;exact⟨by rw[<- B.o];rw[hintU s0 s1];rfl,O.o _ T4.o⟩
 ·obtain⟨rm,i⟩:=Xa (median ltU d I z A 0)
  have L:=Za6 (d:=d) (s:=0) (a:=I) (b:=z) (e0:=A) (n:=n) (by omega) (by omega) (by omega);rw[i]at L
  have m:r=(rm.1,if rm.2=0 then .increasing else if rm.2=12 then .decreasing else .unknown):=by
   rw[<- hr];unfold choosePivot;simp only[hl,hq,Dc,D,E]
   have p1:l≥8:=by omega
   have p2:¬l≥50:=C
   have p3:a+Q=z:=by omega
   have p4:a+R=A:=by omega
   simp only[p1,p2,p3,p4,h1,Fa,Eg,i]
  have K:=ZcY (c:=c) y.1 hd (a:=I) (b:=z) (e0:=A) (by omega) (by omega) (by omega) M y.2.1 (by omega) f rm i
  have N:hintV r.2=hintN rm.2:=by rw[m];exact Zjg _
  have p:r.1=rm.1:=by rw[m]
  rw[N,p]
  obtain⟨hz,j⟩:=Xa (hintN rm.2)
  rw[j];have B:Hid (hintN rm.2=hz):=j;clear j;obtain⟨u1,u2⟩:=rm;simp only at K N p L B
  have ab:¬(50:Int)<=(l:Int):=by omega
  clear h hd aa hb M hr m N p hl hq h1 h2 h3 D E b1 b2 V y f x i L C;go_enter func138,ntmps138
  go_upto_region 3 with fail
  rw[<- P];clear P;go_wp2_with fail;refine K.mono ?_;rintro e wd ⟨rfl,J⟩;have k0:=J.o.1.cell;clear K;by_cases s0:u2=0
  ·subst s0;go_wp2;refine As (AA rfl _ _ _) rfl ?_;exact⟨by rw[<- B.o];rfl,O.o _ J.o.2⟩
  ·by_cases s1:u2=12
   ·subst s1;go_wp2;refine As (AA rfl _ _ _) rfl ?_;exact⟨by rw[<- B.o];rfl,O.o _ J.o.2⟩
   ·have z0:¬(u2:Int)=0:=by omega
    have z1:¬(u2:Int)=12:=by omega
    go_wp2;refine As (AA rfl _ _ _) rfl ?_;exact⟨by rw[<- B.o];rw[hintU s0 s1];rfl,O.o _ J.o.2⟩
theorem Zn7(h:(decide (i<=j)&&p d[i]!)=true):scanUp p d j i=scanUp p d j (i+1):=by
 rw[scanUp,AE h]
theorem ZgV(h:(decide (i<=j)&&p d[i]!)=false):scanUp p d j i=i:=by
 rw[scanUp,Aw (by rw[h];decide)]
theorem ZnA(hi:1<=i)(h:(decide (i<=j)&&p d[j]!)=true):scanDown p d i j=scanDown p d i (j - 1):=by
 cases j with
 | zero=>simp at h;omega
 | succ j=>rw[scanDown,AE h];rfl
theorem Zjw(h:(decide (i<=j)&&p d[j]!)=false):scanDown p d i j=j:=by
 cases j with
 | zero=>rfl
 | succ j=>rw[scanDown,Aw (by rw[h];decide)]
theorem up_ge(p:UInt64->Bool)(d:Array UInt64)(j i:Nat):i<=scanUp p d j i/\(decide (scanUp p d j i<=j)&&p d[scanUp p d j i]!)=false:=by
 generalize b:j+1 - i=m
 induction m generalizing i with
 | zero =>
  have h:(decide (i<=j)&&p d[i]!)=false:=by simp;intro q;omega
  rw[ZgV h];exact⟨Az _,h⟩
 | succ m a =>
  cases h:(decide (i<=j)&&p d[i]!)with
  | false=>rw[ZgV h];exact⟨Az _,h⟩
  | true =>
   rw[Zn7 h];have:=a (i+1) (by omega);exact⟨by omega,this.2⟩
theorem dn_le(p:UInt64->Bool)(d:Array UInt64)(i:Nat)(hi:1<=i):∀j,scanDown p d i j<=j/\(decide (i<=scanDown p d i j)&&p d[scanDown p d i j]!)=false:=by
 intro j
 induction j with
 | zero=>exact⟨by rw[scanDown];exact Az _,by rw[scanDown];simp;intro q;omega⟩
 | succ j a =>
  cases h:(decide (i<=j+1)&&p d[j+1]!)with
  | false=>rw[Zjw h];exact⟨Az _,h⟩
  | true =>
   rw[ZnA hi h];exact⟨by have:=a.1;simp only[Nat.add_sub_cancel];omega,a.2⟩
theorem ZdT{q:UInt64->Bool}(b:∀x,q x=!p x)(hi:1<=i)(f:scanUp p d j i=a)(g:scanDown q d a j=c):i<=a/\c<=j/\a≠c:=by
 have a1:=up_ge p d j i;rw[f]at a1;have a2:=dn_le q d a (by omega) j;rw[g]at a2;refine⟨a1.1,a2.1,?_⟩;intro e;subst e;have b1:=a1.2;have b2:=a2.2
 have h:decide (a<=j)=true:=by simpa using a2.1
 have k:decide (a<=a)=true:=by simp
 rw[h,Ci]at b1;rw[k,Ci,b,b1]at b2;cases b2
theorem ZkL(e:scanUp (λ x=>ltU x d[a]!) d j i=b)(f:scanDown (λ x=>!ltU x d[a]!) d b j=c)(h:c<b):partLoop ltU a i j d=(c,d):=by
 rw[partLoop];simp only[e,f];rw[AE h]
theorem ZpA(hi:1<=i)(e:scanUp (λ x=>ltU x d[a]!) d j i=b)(f:scanDown (λ x=>!ltU x d[a]!) d b j=c)(h:¬c<b):partLoop ltU a i j d=partLoop ltU a (b+1) (c - 1) (swp d b c):=by
 have g:=ZdT (p:=λ x=>ltU x d[a]!) (q:=λ x=>!ltU x d[a]!) (λ _=>rfl) hi e f;rw[partLoop];simp only[e,f];rw[Aw h,dif_pos (by omega)]
theorem ZhE(e:scanUp (λ x=>!ltU d[a]! x) d j i=b)(f:scanDown (λ x=>ltU d[a]! x) d b j=c)(h:c<b):partEqLoop ltU a i j d=(b,d):=by
 rw[partEqLoop];simp only[e,f];rw[AE h]
theorem Zm3(hi:1<=i)(e:scanUp (λ x=>!ltU d[a]! x) d j i=b)(f:scanDown (λ x=>ltU d[a]! x) d b j=c)(h:¬c<b):partEqLoop ltU a i j d=partEqLoop ltU a (b+1) (c - 1) (swp d b c):=by
 have g:=ZdT (p:=λ x=>!ltU d[a]! x) (q:=λ x=>ltU d[a]! x) (λ _=>by simp) hi e f;rw[partEqLoop];simp only[e,f];rw[Aw h,dif_pos (by omega)]
theorem ZoM{p:Nat}(h:SR w g d)(hd:d.size=n)(ao:a<p)(aq:p<b)(hb:b<=n)(hn:n<=1000000000000)(r:Nat×Bool×Array UInt64)(hr:partition ltU d a b p=r):
  At Tryz.prog 143 #[Aa (some ⟨g,0,none⟩) n c,Ab Ak (a:Int),Ab Ak (b:Int),Ab Ak (p:Int)] w λ e w'=>e=.returned (.tuple #[Ab Ak (r.1:Int),Ad r.2.1])/\Hid (SR w' g r.2.2/\Zaa (λ k=>k=g) w w'):=by
 obtain⟨C,ai⟩:=Xa (b - 1)
 have b1:(b:Int) - 1=(C:Int):=by omega
 have bw:Ak.wrap (C:Int)=(C:Int):=by rw[Au];omega
 have W0:Hid (SR w g d/\d.size=n/\Zaa (λ k=>k=g) w w):=⟨h,hd,Zaa.refl _ _⟩
 have HP:Hid (∀i j,scanUp (λ x=>ltU x (swp d a p)[a]!) (swp d a p) C (a+1)=i->scanDown (λ x=>!ltU x (swp d a p)[a]!) (swp d a p) i C=j->(j<i->r=(j,true,swp (swp d a p) j a))/\(¬j<i->∀R,partLoop ltU a (i+1) (j - 1) (swp (swp d a p) i j)=R->r=(R.1,false,swp R.2 R.1 a))):=by
  intro i j hi hj;rw[<- hr];unfold partition;simp only[ai,hi,hj];refine⟨λ q=>by rw[AE q],λ q R hR=>?_⟩;rw[Aw q,hR]
 have BB:C+1=b:=by omega
 clear h hd hr ai;go_enter func143,ntmps143
 obtain⟨x,t⟩:∃x,d[a]! = x:=⟨_,rfl⟩
 obtain⟨y,A⟩:∃y,d[p]! = y:=⟨_,rfl⟩
 have D:=W0.o.2.1
 have c0:w.cell? ⟨g,a,none⟩=some (uv x):=by rw[<- t];exact W0.o.1.cell (by omega)
 have c1:w.cell? ⟨g,p,none⟩=some (uv y):=by rw[<- A];exact W0.o.1.cell (by omega)
 have H:=W0.o.1.thaw a;have f1:=W0.o.1.thaw p
 have z0:(0:Int)<=(a:Int):=by omega
 have z1:(0:Int)<=(p:Int):=by omega
 have z2:(a:Int)<(n:Int):=by omega
 have z3:(p:Int)<(n:Int):=by omega
 have nt:¬a=p:=by omega
 have V:¬p=a:=λ e=>nt e.symm
 have s:Hid (d[a]! = x/\d[p]! = y):=⟨t,A⟩
 clear t A D;go_wp2_with fail;go_region
 have W1:Hid (SR (((w.setCell ⟨g,a,none⟩ (Ab Al (y.toNat:Int))).setCell ⟨g,p,none⟩ (Ab Al (x.toNat:Int))).drew) g (swp d a p)/\(swp d a p).size=n/\Zaa (λ k=>k=g) w (((w.setCell ⟨g,a,none⟩ (Ab Al (y.toNat:Int))).setCell ⟨g,p,none⟩ (Ab Al (x.toNat:Int))).drew)) :=
  ⟨W0.o.1.drewSwap s.o.1 s.o.2,by rw[Zao];exact W0.o.2.1,turnSwap W0.o.2.2 _ _ _ _⟩
 obtain⟨w1,ak⟩:=Xb (((w.setCell ⟨g,a,none⟩ (Ab Al (y.toNat:Int))).setCell ⟨g,p,none⟩ (Ab Al (x.toNat:Int))).drew)
 obtain⟨E,hE⟩:=Xb (swp d a p)
 rw[<- ak]at W1 ⊢;rw[<- hE]at W1 HP;clear ak hE s c0 c1 H f1 z0 z1 z2 z3 nt V W0
 obtain⟨I,hI⟩:=Xa (scanUp (λ x=>ltU x E[a]!) E C (a+1))
 have HI:Hid (scanUp (λ x=>ltU x E[a]!) E C (a+1)=I):=hI;clear hI;go_wp2_with fail;go_loopg[10] (C+1) (λ k v wr=>∃i:Nat,v=Ab Ak i/\C+1<=i+k/\a+1<=i/\i<=b/\Hid (scanUp (λ x=>ltU x E[a]!) E C i=I/\SR wr g E/\Zaa (λ k=>k=g) w wr))
 case atStart=>exact⟨(a+1),by first | rfl | go_num,by omega,by omega,by omega,HI.o,W1.o.1,W1.o.2.2⟩
 case round =>
  obtain⟨i,rfl,am,ad,ae,l⟩:=hrel
  go_upto_region 3 with fail
  go_cut[43]from 30 to 45 (λ tv u=>∃v f,v=u/\tv=Ad f/\Hid ((decide (i<=C)&&(λ x=>ltU x E[a]!) E[i]!)=f/\SR v g E/\Zaa (λ k=>k=g) w v))
  case first =>
   by_cases K:i<=C
   ·obtain⟨x,t⟩:∃x,E[i]! = x:=⟨_,rfl⟩
    obtain⟨y,A⟩:∃y,E[a]! = y:=⟨_,rfl⟩
    obtain⟨H,P⟩:=Xa (ltU x y)
    have hs:=W1.o.2.1
    have q0:∀u:SW (Grew wr),u.w.cell? ⟨g,i,none⟩=some (uv x):=λ u=>by rw[<- t];exact(l.o.2.1.below u.ok).cell (by omega)
    have q1:∀u:SW (Grew wr),u.w.cell? ⟨g,a,none⟩=some (uv y):=λ u=>by rw[<- A];exact(l.o.2.1.below u.ok).cell (by omega)
    have W:=λ u=>Zas (wr:=wr) x y H P u
    have NE:Nonempty (SW (Grew wr)):=⟨⟨wr,Ao _ wr⟩⟩
    have T:(i:Int)<=(C:Int):=by omega
    have j2:decide ((i:Int)<=(C:Int))=true:=by simpa using T
    have j3:decide (i<=C)=true:=by simpa using K
    have j4:(i:Int)<(n:Int):=by omega
    have j5:(a:Int)<(n:Int):=by omega
    have j6:(0:Int)<=(i:Int):=by omega
    have j7:(0:Int)<=(a:Int):=by omega
    have M:Hid ((decide (i<=C)&&(λ x=>ltU x E[a]!) E[i]!)=(H)):=by
     show _=_;simp only[t,A,P,j3,Ci]
    clear t A P hs
    cases H with
    | true =>
     refine Zab (S:=Grew wr) (by kernel_rfl) (by kernel_rfl) (Ao _ wr).drew ?_
     repeat(go_big_quiet_step (with_reducible exact W _))
     refine AN ?_;intro _ B;obtain⟨u,m⟩:=B;subst m;go_wp2_with fail;go_meet;exact⟨_,_,rfl,rfl,M.o,l.o.2.1.below u.ok,l.o.2.2.trans (Zaa.ofBelow u.ok) (λ _ _ q=>q)⟩
    | false =>
     refine Zab (S:=Grew wr) (by kernel_rfl) (by kernel_rfl) (Ao _ wr).drew ?_
     repeat(go_big_quiet_step (with_reducible exact W _))
     refine AN ?_;intro _ B;obtain⟨u,m⟩:=B;subst m;go_wp2_with fail;go_meet;exact⟨_,_,rfl,rfl,M.o,l.o.2.1.below u.ok,l.o.2.2.trans (Zaa.ofBelow u.ok) (λ _ _ q=>q)⟩
   ·have T:¬(i:Int)<=(C:Int):=by omega
    have j2:decide ((i:Int)<=(C:Int))=false:=by simpa using T
    have M:Hid ((decide (i<=C)&&(λ x=>ltU x E[a]!) E[i]!)=false):=by
     show _=_;simp[K]
    go_quiet (fail);go_wp2_with fail;go_meet;have hq:=AS (Ao wr.heap.size wr) nq;exact⟨_,false,rfl,rfl,M.o,l.o.2.1.below hq,l.o.2.2.trans (Zaa.ofBelow (S:=λ _=>False) hq) (λ _ _ q=>q.elim)⟩
  case rest =>
   obtain⟨v,f,rfl,rfl,z⟩:=hcut
   cases f with
   | true =>
    have af:i<=C:=by
     have:=z.o.1;simp only[Bf,A5]at this;exact this.1
    have HN:Hid (scanUp (λ x=>ltU x E[a]!) E C (i+1)=I):=by
     have:=l.o.1;rw[Zn7 (p:=(λ x=>ltU x E[a]!)) z.o.1]at this;exact this
    clear l;go_wp2;go_roundg (gk - 1)
    case measure=>omega
    case rel=>exact⟨i+1,by go_num,by omega,by omega,by omega,HN.o,z.o.2.1,z.o.2.2⟩
   | false =>
    have FI:Hid (scanUp (λ x=>ltU x E[a]!) E C (a+1)=i):=by
     have:=l.o.1;rw[ZgV (p:=(λ x=>ltU x E[a]!)) z.o.1]at this;exact HI.o.trans this.symm
    have Wu:Hid (SR v g E/\E.size=n/\Zaa (λ k=>k=g) w v):=⟨z.o.2.1,W1.o.2.1,z.o.2.2⟩
    clear l z HI
    obtain⟨J,hJ⟩:=Xa (scanDown (λ x=>!ltU x E[a]!) E i C)
    have HJ:Hid (scanDown (λ x=>!ltU x E[a]!) E i C=J):=hJ;clear hJ;go_wp2_with fail;go_loopg[11] (C) (λ k v wr=>∃j:Nat,v=Ab Ak j/\j<=k/\a<=j/\j<b/\Hid (scanDown (λ x=>!ltU x E[a]!) E i j=J/\SR wr g E/\Zaa (λ k=>k=g) w wr))
    case atStart=>exact⟨C,by first | rfl | go_num,by omega,by omega,by omega,HJ.o,Wu.o.1,Wu.o.2.2⟩
    case round =>
     obtain⟨j,rfl,al,ad,ae,l⟩:=hrel
     go_upto_region 5 with fail
     go_cut[60]from 46 to 62 (λ tv u=>∃v f,v=u/\tv=Ad f/\Hid ((decide (i<=j)&&(λ x=>!ltU x E[a]!) E[j]!)=f/\SR v g E/\Zaa (λ k=>k=g) w v))
     case first =>
      by_cases K:i<=j
      ·obtain⟨x,t⟩:∃x,E[j]! = x:=⟨_,rfl⟩
       obtain⟨y,A⟩:∃y,E[a]! = y:=⟨_,rfl⟩
       obtain⟨H,P⟩:=Xa (ltU x y)
       have hs:=Wu.o.2.1
       have q0:∀u:SW (Grew wr),u.w.cell? ⟨g,j,none⟩=some (uv x):=λ u=>by rw[<- t];exact(l.o.2.1.below u.ok).cell (by omega)
       have q1:∀u:SW (Grew wr),u.w.cell? ⟨g,a,none⟩=some (uv y):=λ u=>by rw[<- A];exact(l.o.2.1.below u.ok).cell (by omega)
       have W:=λ u=>Zas (wr:=wr) x y H P u
       have NE:Nonempty (SW (Grew wr)):=⟨⟨wr,Ao _ wr⟩⟩
       have T:(i:Int)<=(j:Int):=by omega
       have j2:decide ((i:Int)<=(j:Int))=true:=by simpa using T
       have j3:decide (i<=j)=true:=by simpa using K
       have j4:(j:Int)<(n:Int):=by omega
       have j5:(a:Int)<(n:Int):=by omega
       have j6:(0:Int)<=(j:Int):=by omega
       have j7:(0:Int)<=(a:Int):=by omega
       have M:Hid ((decide (i<=j)&&(λ x=>!ltU x E[a]!) E[j]!)=(!H)):=by
        show _=_;simp only[t,A,P,j3,Ci]
       clear t A P hs
       cases H with
       | true =>
        refine Zab (S:=Grew wr) (by kernel_rfl) (by kernel_rfl) (Ao _ wr).drew ?_
        repeat(go_big_quiet_step (with_reducible exact W _))
        refine AN ?_;intro _ B;obtain⟨u,m⟩:=B;subst m;go_wp2_with fail;go_meet;exact⟨_,_,rfl,rfl,M.o,l.o.2.1.below u.ok,l.o.2.2.trans (Zaa.ofBelow u.ok) (λ _ _ q=>q)⟩
       | false =>
        refine Zab (S:=Grew wr) (by kernel_rfl) (by kernel_rfl) (Ao _ wr).drew ?_
        repeat(go_big_quiet_step (with_reducible exact W _))
        refine AN ?_;intro _ B;obtain⟨u,m⟩:=B;subst m;go_wp2_with fail;go_meet;exact⟨_,_,rfl,rfl,M.o,l.o.2.1.below u.ok,l.o.2.2.trans (Zaa.ofBelow u.ok) (λ _ _ q=>q)⟩
      ·have T:¬(i:Int)<=(j:Int):=by omega
       have j2:decide ((i:Int)<=(j:Int))=false:=by simpa using T
       have M:Hid ((decide (i<=j)&&(λ x=>!ltU x E[a]!) E[j]!)=false):=by
        show _=_;simp[K]
       go_quiet (fail);go_wp2_with fail;go_meet;have hq:=AS (Ao wr.heap.size wr) nq;exact⟨_,false,rfl,rfl,M.o,l.o.2.1.below hq,l.o.2.2.trans (Zaa.ofBelow (S:=λ _=>False) hq) (λ _ _ q=>q.elim)⟩
     case rest =>
      obtain⟨v,f,rfl,rfl,z⟩:=hcut
      cases f with
      | true =>
       have af:i<=j:=by
        have:=z.o.1;simp only[Bf,A5]at this;exact this.1
       have HN:Hid (scanDown (λ x=>!ltU x E[a]!) E i (j - 1)=J):=by
        have:=l.o.1;rw[ZnA (p:=(λ x=>!ltU x E[a]!)) (by omega) z.o.1]at this;exact this
       clear l
       obtain⟨ii,X⟩:=Xa (j - 1)
       have d1:(j:Int) - 1=(ii:Int):=by omega
       have d2:Ak.wrap (ii:Int)=(ii:Int):=by rw[Au];omega
       rw[X]at HN
       have L:Hid (ii+1=j):=by show _=j;omega
       clear X;go_wp2;go_roundg (gk - 1)
       case measure=>have:=L.o;omega
       case rel=>exact⟨ii,rfl,by have:=L.o;omega,by have:=L.o;omega,by have:=L.o;omega,HN.o,z.o.2.1,z.o.2.2⟩
      | false =>
       have FJ:Hid (scanDown (λ x=>!ltU x E[a]!) E i C=j):=by
        have:=l.o.1;rw[Zjw (p:=(λ x=>!ltU x E[a]!)) z.o.1]at this;exact HJ.o.trans this.symm
       have Wd:Hid (SR v g E/\E.size=n/\Zaa (λ k=>k=g) w v):=⟨z.o.2.1,Wu.o.2.1,z.o.2.2⟩
       clear l z HJ;have N:=ZdT (p:=λ x=>ltU x E[a]!) (q:=λ x=>!ltU x E[a]!) (λ _=>rfl) (by omega) FI.o FJ.o;have ab:=HP.o i j FI.o FJ.o;by_cases hc:j<i
       ·have ci:(j:Int)<(i:Int):=by omega
        have O:Hid (r=(j,true,swp E j a)):=ab.1 hc;clear N ab FI FJ HP;by_cases Q:j=a
        ·have Y:a=j:=Q.symm;clear Q;subst Y
         obtain⟨x,t⟩:∃x,E[a]! = x:=⟨_,rfl⟩
         have D:=Wd.o.2.1
         have c0:v.cell? ⟨g,a,none⟩=some (uv x):=by rw[<- t];exact Wd.o.1.cell (by omega)
         have H:=Wd.o.1.thaw a
         have z0:(0:Int)<=(a:Int):=by omega
         have z2:(a:Int)<(n:Int):=by omega
         have s:Hid (E[a]! = x/\E[a]! = x):=⟨t,t⟩
         clear t D;go_wp2_with fail;go_region;go_wp2;refine As (AA rfl _ _ _) rfl ?_;rw[O.o];exact⟨rfl,Wd.o.1.drewSwap s.o.1 s.o.2,turnSwap Wd.o.2.2 _ _ _ _⟩
        ·obtain⟨x,t⟩:∃x,E[j]! = x:=⟨_,rfl⟩
         obtain⟨y,A⟩:∃y,E[a]! = y:=⟨_,rfl⟩
         have D:=Wd.o.2.1
         have c0:v.cell? ⟨g,j,none⟩=some (uv x):=by rw[<- t];exact Wd.o.1.cell (by omega)
         have c1:v.cell? ⟨g,a,none⟩=some (uv y):=by rw[<- A];exact Wd.o.1.cell (by omega)
         have H:=Wd.o.1.thaw j;have f1:=Wd.o.1.thaw a
         have z0:(0:Int)<=(j:Int):=by omega
         have z1:(0:Int)<=(a:Int):=by omega
         have z2:(j:Int)<(n:Int):=by omega
         have z3:(a:Int)<(n:Int):=by omega
         have nt:¬j=a:=Q
         have V:¬a=j:=λ e=>nt e.symm
         have s:Hid (E[j]! = x/\E[a]! = y):=⟨t,A⟩
         clear t A D;go_wp2_with fail;go_region;go_wp2;refine As (AA rfl _ _ _) rfl ?_;rw[O.o];exact⟨rfl,Wd.o.1.drewSwap s.o.1 s.o.2,turnSwap Wd.o.2.2 _ _ _ _⟩
       ·have ci:¬(j:Int)<(i:Int):=by omega
        obtain⟨U,Z⟩:=Xa (j - 1)
        have d1:(j:Int) - 1=(U:Int):=by omega
        have d2:Ak.wrap (U:Int)=(U:Int):=by rw[Au];omega
        obtain⟨R0,ac⟩:=Xa (partLoop ltU a (i+1) U (swp E i j))
        have RF:Hid (∀R,R=R0->r=(R.1,false,swp R.2 R.1 a)):=by
         intro R hR;rw[hR];exact ab.2 hc _ (by rw[Z];exact ac)
        have ag:Hid (partLoop ltU a (i+1) U (swp E i j)=R0):=ac
        have JJ:Hid (U+1=j):=by show _=j;omega
        have aa:=N.2.2;clear Z N ab FI FJ HP ac
        obtain⟨x,t⟩:∃x,E[i]! = x:=⟨_,rfl⟩
        obtain⟨y,A⟩:∃y,E[j]! = y:=⟨_,rfl⟩
        have D:=Wd.o.2.1
        have c0:v.cell? ⟨g,i,none⟩=some (uv x):=by rw[<- t];exact Wd.o.1.cell (by omega)
        have c1:v.cell? ⟨g,j,none⟩=some (uv y):=by rw[<- A];exact Wd.o.1.cell (by omega)
        have H:=Wd.o.1.thaw i;have f1:=Wd.o.1.thaw j
        have z0:(0:Int)<=(i:Int):=by omega
        have z1:(0:Int)<=(j:Int):=by omega
        have z2:(i:Int)<(n:Int):=by omega
        have z3:(j:Int)<(n:Int):=by omega
        have nt:¬i=j:=aa
        have V:¬j=i:=λ e=>nt e.symm
        have s:Hid (E[i]! = x/\E[j]! = y):=⟨t,A⟩
        clear t A D;go_wp2_with fail;go_region;go_wp2_with fail;go_loopg[10,11] (b) (λ k v9 an wr=>∃i j:Nat,v9=Ab Ak i/\an=Ab Ak j/\j+1<=i+k/\a+1<=i/\i<=b/\a<=j/\j<b/\Hid (∃e:Array UInt64,partLoop ltU a i j e=R0/\SR wr g e/\e.size=n/\Zaa (λ k=>k=g) w wr))
        case atStart=>exact⟨i+1,U,by go_num,rfl,by have:=JJ.o;omega,by omega,by omega,by have:=JJ.o;omega,by have:=JJ.o;omega,swp E i j,ag.o,Wd.o.1.drewSwap s.o.1 s.o.2,by rw[Zao];exact Wd.o.2.1,turnSwap Wd.o.2.2 _ _ _ _⟩
        case round =>
         clear s c0 c1 H f1 z0 z1 z2 z3 nt V aa d1 d2 JJ ag ci hc;obtain⟨i0,F,rfl,rfl,ap,u1,u2,u3,u4,HE⟩:=hrel;obtain⟨G,e1,e2,e3,e4⟩:=HE.o
         have V0:Hid (SR wr g G/\G.size=n/\Zaa (λ k=>k=g) w wr):=⟨e2,e3,e4⟩
         have VP:Hid (partLoop ltU a i0 F G=R0):=e1
         obtain⟨go,aj⟩:=Xb gk
         have GO:Hid (F+1<=i0+go/\go=gk):=⟨by omega,aj⟩
         clear HE e1 e2 e3 e4 aj
         obtain⟨I,hI⟩:=Xa (scanUp (λ x=>ltU x G[a]!) G F i0)
         have HI:Hid (scanUp (λ x=>ltU x G[a]!) G F i0=I):=hI;clear hI;go_wp2_with fail;go_loopg[10] (F+1) (λ k v wr=>∃i:Nat,v=Ab Ak i/\F+1<=i+k/\a+1<=i/\i<=b/\Hid (scanUp (λ x=>ltU x G[a]!) G F i=I/\SR wr g G/\Zaa (λ k=>k=g) w wr))
         case atStart=>exact⟨i0,by first | rfl | go_num,by omega,by omega,by omega,HI.o,V0.o.1,V0.o.2.2⟩
         case round =>
          obtain⟨i,rfl,am,ad,ae,l⟩:=hrel
          go_upto_region 13 with fail
          go_cut[112]from 99 to 114 (λ tv u=>∃v f,v=u/\tv=Ad f/\Hid ((decide (i<=F)&&(λ x=>ltU x G[a]!) G[i]!)=f/\SR v g G/\Zaa (λ k=>k=g) w v))
          case first =>
           by_cases K:i<=F
           ·obtain⟨x,t⟩:∃x,G[i]! = x:=⟨_,rfl⟩
            obtain⟨y,A⟩:∃y,G[a]! = y:=⟨_,rfl⟩
            obtain⟨H,P⟩:=Xa (ltU x y)
            have hs:=V0.o.2.1
            have q0:∀u:SW (Grew wr),u.w.cell? ⟨g,i,none⟩=some (uv x):=λ u=>by rw[<- t];exact(l.o.2.1.below u.ok).cell (by omega)
            have q1:∀u:SW (Grew wr),u.w.cell? ⟨g,a,none⟩=some (uv y):=λ u=>by rw[<- A];exact(l.o.2.1.below u.ok).cell (by omega)
            have W:=λ u=>Zas (wr:=wr) x y H P u
            have NE:Nonempty (SW (Grew wr)):=⟨⟨wr,Ao _ wr⟩⟩
            have T:(i:Int)<=(F:Int):=by omega
            have j2:decide ((i:Int)<=(F:Int))=true:=by simpa using T
            have j3:decide (i<=F)=true:=by simpa using K
            have j4:(i:Int)<(n:Int):=by omega
            have j5:(a:Int)<(n:Int):=by omega
            have j6:(0:Int)<=(i:Int):=by omega
            have j7:(0:Int)<=(a:Int):=by omega
            have M:Hid ((decide (i<=F)&&(λ x=>ltU x G[a]!) G[i]!)=(H)):=by
             show _=_;simp only[t,A,P,j3,Ci]
            clear t A P hs
            cases H with
            | true =>
             refine Zab (S:=Grew wr) (by kernel_rfl) (by kernel_rfl) (Ao _ wr).drew ?_
             repeat(go_big_quiet_step (with_reducible exact W _))
             refine AN ?_;intro _ B;obtain⟨u,m⟩:=B;subst m;go_wp2_with fail;go_meet;exact⟨_,_,rfl,rfl,M.o,l.o.2.1.below u.ok,l.o.2.2.trans (Zaa.ofBelow u.ok) (λ _ _ q=>q)⟩
            | false =>
             refine Zab (S:=Grew wr) (by kernel_rfl) (by kernel_rfl) (Ao _ wr).drew ?_
             repeat(go_big_quiet_step (with_reducible exact W _))
             refine AN ?_;intro _ B;obtain⟨u,m⟩:=B;subst m;go_wp2_with fail;go_meet;exact⟨_,_,rfl,rfl,M.o,l.o.2.1.below u.ok,l.o.2.2.trans (Zaa.ofBelow u.ok) (λ _ _ q=>q)⟩
           ·have T:¬(i:Int)<=(F:Int):=by omega
            have j2:decide ((i:Int)<=(F:Int))=false:=by simpa using T
            have M:Hid ((decide (i<=F)&&(λ x=>ltU x G[a]!) G[i]!)=false):=by
             show _=_;simp[K]
            go_quiet (fail);go_wp2_with fail;go_meet;have hq:=AS (Ao wr.heap.size wr) nq;exact⟨_,false,rfl,rfl,M.o,l.o.2.1.below hq,l.o.2.2.trans (Zaa.ofBelow (S:=λ _=>False) hq) (λ _ _ q=>q.elim)⟩
          case rest =>
           obtain⟨v,f,rfl,rfl,z⟩:=hcut
           cases f with
           | true =>
            have af:i<=F:=by
             have:=z.o.1;simp only[Bf,A5]at this;exact this.1
            have HN:Hid (scanUp (λ x=>ltU x G[a]!) G F (i+1)=I):=by
             have:=l.o.1;rw[Zn7 (p:=(λ x=>ltU x G[a]!)) z.o.1]at this;exact this
            clear l;go_wp2;go_roundg (gk - 1)
            case measure=>omega
            case rel=>exact⟨i+1,by go_num,by omega,by omega,by omega,HN.o,z.o.2.1,z.o.2.2⟩
           | false =>
            have FI:Hid (scanUp (λ x=>ltU x G[a]!) G F i0=i):=by
             have:=l.o.1;rw[ZgV (p:=(λ x=>ltU x G[a]!)) z.o.1]at this;exact HI.o.trans this.symm
            have Wu:Hid (SR v g G/\G.size=n/\Zaa (λ k=>k=g) w v):=⟨z.o.2.1,V0.o.2.1,z.o.2.2⟩
            clear l z HI
            obtain⟨J,hJ⟩:=Xa (scanDown (λ x=>!ltU x G[a]!) G i F)
            have HJ:Hid (scanDown (λ x=>!ltU x G[a]!) G i F=J):=hJ;clear hJ;go_wp2_with fail;go_loopg[11] (F) (λ k v wr=>∃j:Nat,v=Ab Ak j/\j<=k/\a<=j/\j<b/\Hid (scanDown (λ x=>!ltU x G[a]!) G i j=J/\SR wr g G/\Zaa (λ k=>k=g) w wr))
            case atStart=>exact⟨F,by first | rfl | go_num,by omega,by omega,by omega,HJ.o,Wu.o.1,Wu.o.2.2⟩
            case round =>
             obtain⟨j,rfl,al,ad,ae,l⟩:=hrel
             go_upto_region 15 with fail
             go_cut[129]from 115 to 131 (λ tv u=>∃v f,v=u/\tv=Ad f/\Hid ((decide (i<=j)&&(λ x=>!ltU x G[a]!) G[j]!)=f/\SR v g G/\Zaa (λ k=>k=g) w v))
             case first =>
              by_cases K:i<=j
              ·obtain⟨x,t⟩:∃x,G[j]! = x:=⟨_,rfl⟩
               obtain⟨y,A⟩:∃y,G[a]! = y:=⟨_,rfl⟩
               obtain⟨H,P⟩:=Xa (ltU x y)
               have hs:=Wu.o.2.1
               have q0:∀u:SW (Grew wr),u.w.cell? ⟨g,j,none⟩=some (uv x):=λ u=>by rw[<- t];exact(l.o.2.1.below u.ok).cell (by omega)
               have q1:∀u:SW (Grew wr),u.w.cell? ⟨g,a,none⟩=some (uv y):=λ u=>by rw[<- A];exact(l.o.2.1.below u.ok).cell (by omega)
               have W:=λ u=>Zas (wr:=wr) x y H P u
               have NE:Nonempty (SW (Grew wr)):=⟨⟨wr,Ao _ wr⟩⟩
               have T:(i:Int)<=(j:Int):=by omega
               have j2:decide ((i:Int)<=(j:Int))=true:=by simpa using T
               have j3:decide (i<=j)=true:=by simpa using K
               have j4:(j:Int)<(n:Int):=by omega
               have j5:(a:Int)<(n:Int):=by omega
               have j6:(0:Int)<=(j:Int):=by omega
               have j7:(0:Int)<=(a:Int):=by omega
               have M:Hid ((decide (i<=j)&&(λ x=>!ltU x G[a]!) G[j]!)=(!H)):=by
                show _=_;simp only[t,A,P,j3,Ci]
               clear t A P hs
               cases H with
               | true =>
                refine Zab (S:=Grew wr) (by kernel_rfl) (by kernel_rfl) (Ao _ wr).drew ?_
                repeat(go_big_quiet_step (with_reducible exact W _))
                refine AN ?_;intro _ B;obtain⟨u,m⟩:=B;subst m;go_wp2_with fail;go_meet;exact⟨_,_,rfl,rfl,M.o,l.o.2.1.below u.ok,l.o.2.2.trans (Zaa.ofBelow u.ok) (λ _ _ q=>q)⟩
               | false =>
                refine Zab (S:=Grew wr) (by kernel_rfl) (by kernel_rfl) (Ao _ wr).drew ?_
                repeat(go_big_quiet_step (with_reducible exact W _))
                refine AN ?_;intro _ B;obtain⟨u,m⟩:=B;subst m;go_wp2_with fail;go_meet;exact⟨_,_,rfl,rfl,M.o,l.o.2.1.below u.ok,l.o.2.2.trans (Zaa.ofBelow u.ok) (λ _ _ q=>q)⟩
              ·have T:¬(i:Int)<=(j:Int):=by omega
               have j2:decide ((i:Int)<=(j:Int))=false:=by simpa using T
               have M:Hid ((decide (i<=j)&&(λ x=>!ltU x G[a]!) G[j]!)=false):=by
                show _=_;simp[K]
               go_quiet (fail);go_wp2_with fail;go_meet;have hq:=AS (Ao wr.heap.size wr) nq;exact⟨_,false,rfl,rfl,M.o,l.o.2.1.below hq,l.o.2.2.trans (Zaa.ofBelow (S:=λ _=>False) hq) (λ _ _ q=>q.elim)⟩
             case rest =>
              obtain⟨v,f,rfl,rfl,z⟩:=hcut
              cases f with
              | true =>
               have af:i<=j:=by
                have:=z.o.1;simp only[Bf,A5]at this;exact this.1
               have HN:Hid (scanDown (λ x=>!ltU x G[a]!) G i (j - 1)=J):=by
                have:=l.o.1;rw[ZnA (p:=(λ x=>!ltU x G[a]!)) (by omega) z.o.1]at this;exact this
               clear l
               obtain⟨ii,X⟩:=Xa (j - 1)
               have d1:(j:Int) - 1=(ii:Int):=by omega
               have d2:Ak.wrap (ii:Int)=(ii:Int):=by rw[Au];omega
               rw[X]at HN
               have L:Hid (ii+1=j):=by show _=j;omega
               clear X;go_wp2;go_roundg (gk - 1)
               case measure=>have:=L.o;omega
               case rel=>exact⟨ii,rfl,by have:=L.o;omega,by have:=L.o;omega,by have:=L.o;omega,HN.o,z.o.2.1,z.o.2.2⟩
              | false =>
               have FJ:Hid (scanDown (λ x=>!ltU x G[a]!) G i F=j):=by
                have:=l.o.1;rw[Zjw (p:=(λ x=>!ltU x G[a]!)) z.o.1]at this;exact HJ.o.trans this.symm
               have Wd:Hid (SR v g G/\G.size=n/\Zaa (λ k=>k=g) w v):=⟨z.o.2.1,Wu.o.2.1,z.o.2.2⟩
               clear l z HJ;have N:=ZdT (p:=λ x=>ltU x G[a]!) (q:=λ x=>!ltU x G[a]!) (λ _=>rfl) (by omega) FI.o FJ.o;by_cases hc:j<i
               ·have ci:(j:Int)<(i:Int):=by omega
                have O:Hid (r=(j,false,swp G j a)):=by
                 have q:=VP.o;rw[ZkL FI.o FJ.o hc]at q;exact RF.o _ q
                clear N FI FJ VP;by_cases Q:j=a
                ·have Y:a=j:=Q.symm;clear Q;subst Y
                 obtain⟨x,t⟩:∃x,G[a]! = x:=⟨_,rfl⟩
                 have D:=Wd.o.2.1
                 have c0:v.cell? ⟨g,a,none⟩=some (uv x):=by rw[<- t];exact Wd.o.1.cell (by omega)
                 have H:=Wd.o.1.thaw a
                 have z0:(0:Int)<=(a:Int):=by omega
                 have z2:(a:Int)<(n:Int):=by omega
                 have s:Hid (G[a]! = x/\G[a]! = x):=⟨t,t⟩
                 clear t D;go_wp2_with fail;go_region;go_wp2;refine As (AA rfl _ _ _) rfl ?_;rw[O.o];exact⟨rfl,Wd.o.1.drewSwap s.o.1 s.o.2,turnSwap Wd.o.2.2 _ _ _ _⟩
                ·obtain⟨x,t⟩:∃x,G[j]! = x:=⟨_,rfl⟩
                 obtain⟨y,A⟩:∃y,G[a]! = y:=⟨_,rfl⟩
                 have D:=Wd.o.2.1
                 have c0:v.cell? ⟨g,j,none⟩=some (uv x):=by rw[<- t];exact Wd.o.1.cell (by omega)
                 have c1:v.cell? ⟨g,a,none⟩=some (uv y):=by rw[<- A];exact Wd.o.1.cell (by omega)
                 have H:=Wd.o.1.thaw j;have f1:=Wd.o.1.thaw a
                 have z0:(0:Int)<=(j:Int):=by omega
                 have z1:(0:Int)<=(a:Int):=by omega
                 have z2:(j:Int)<(n:Int):=by omega
                 have z3:(a:Int)<(n:Int):=by omega
                 have nt:¬j=a:=Q
                 have V:¬a=j:=λ e=>nt e.symm
                 have s:Hid (G[j]! = x/\G[a]! = y):=⟨t,A⟩
                 clear t A D;go_wp2_with fail;go_region;go_wp2;refine As (AA rfl _ _ _) rfl ?_;rw[O.o];exact⟨rfl,Wd.o.1.drewSwap s.o.1 s.o.2,turnSwap Wd.o.2.2 _ _ _ _⟩
               ·have ci:¬(j:Int)<(i:Int):=by omega
                obtain⟨U,Z⟩:=Xa (j - 1)
                have d1:(j:Int) - 1=(U:Int):=by omega
                have d2:Ak.wrap (U:Int)=(U:Int):=by rw[Au];omega
                have O:Hid (partLoop ltU a (i+1) U (swp G i j)=R0):=by
                 show _=R0;rw[<- VP.o,<- Z];exact(ZpA (by omega) FI.o FJ.o hc).symm
                have JJ:Hid (U+1=j):=by show _=j;omega
                have ah:Hid (i0<=i/\j<=F):=⟨N.1,N.2.1⟩
                have aa:=N.2.2;clear Z N
                obtain⟨x,t⟩:∃x,G[i]! = x:=⟨_,rfl⟩
                obtain⟨y,A⟩:∃y,G[j]! = y:=⟨_,rfl⟩
                have D:=Wd.o.2.1
                have c0:v.cell? ⟨g,i,none⟩=some (uv x):=by rw[<- t];exact Wd.o.1.cell (by omega)
                have c1:v.cell? ⟨g,j,none⟩=some (uv y):=by rw[<- A];exact Wd.o.1.cell (by omega)
                have H:=Wd.o.1.thaw i;have f1:=Wd.o.1.thaw j
                have z0:(0:Int)<=(i:Int):=by omega
                have z1:(0:Int)<=(j:Int):=by omega
                have z2:(i:Int)<(n:Int):=by omega
                have z3:(j:Int)<(n:Int):=by omega
                have nt:¬i=j:=aa
                have V:¬j=i:=λ e=>nt e.symm
                have s:Hid (G[i]! = x/\G[j]! = y):=⟨t,A⟩
                clear t A D;go_wp2_with fail;go_region;go_wp2;go_roundg (go - 1)
                case measure=>have:=GO.o;have:=ah.o;omega
                case rel=>exact⟨i+1,U,by go_num,rfl,by have:=GO.o;have:=ah.o;have:=JJ.o;omega,by omega,by omega,by have:=JJ.o;omega,by have:=JJ.o;omega,swp G i j,O.o,Wd.o.1.drewSwap s.o.1 s.o.2,by rw[Zao];exact Wd.o.2.1,turnSwap Wd.o.2.2 _ _ _ _⟩
theorem ZjG{p:Nat}(h:SR w g d)(hd:d.size=n)(ah:a<p)(al:p<b)(hb:b<=n)(hn:n<=1000000000000)(r:Nat×Array UInt64)(hr:partitionEqual ltU d a b p=r):
  At Tryz.prog 142 #[Aa (some ⟨g,0,none⟩) n c,Ab Ak (a:Int),Ab Ak (b:Int),Ab Ak (p:Int)] w λ e w'=>e=.returned (Ab Ak (r.1:Int))/\Hid (SR w' g r.2/\Zaa (λ k=>k=g) w w'):=by
 obtain⟨Q,V⟩:=Xa (b - 1)
 have b1:(b:Int) - 1=(Q:Int):=by omega
 have bw:Ak.wrap (Q:Int)=(Q:Int):=by rw[Au];omega
 have K:Hid (SR w g d/\d.size=n/\Zaa (λ k=>k=g) w w):=⟨h,hd,Zaa.refl _ _⟩
 have HP:Hid (partEqLoop ltU a (a+1) Q (swp d a p)=r):=by
  show _=r;rw[<- hr,<- V]
  rfl
 have BB:Q+1=b:=by omega
 clear h hd hr V;go_enter func142,ntmps142
 obtain⟨x,A⟩:∃x,d[a]! = x:=⟨_,rfl⟩
 obtain⟨y,B⟩:∃y,d[p]! = y:=⟨_,rfl⟩
 have O:=K.o.2.1
 have c0:w.cell? ⟨g,a,none⟩=some (uv x):=by rw[<- A];exact K.o.1.cell (by omega)
 have c1:w.cell? ⟨g,p,none⟩=some (uv y):=by rw[<- B];exact K.o.1.cell (by omega)
 have F:=K.o.1.thaw a;have f1:=K.o.1.thaw p
 have z0:(0:Int)<=(a:Int):=by omega
 have z1:(0:Int)<=(p:Int):=by omega
 have z2:(a:Int)<(n:Int):=by omega
 have z3:(p:Int)<(n:Int):=by omega
 have nt:¬a=p:=by omega
 have ab:¬p=a:=λ e=>nt e.symm
 have C:Hid (d[a]! = x/\d[p]! = y):=⟨A,B⟩
 clear A B O;go_wp2_with fail;go_region
 have W1:Hid (SR (((w.setCell ⟨g,a,none⟩ (Ab Al (y.toNat:Int))).setCell ⟨g,p,none⟩ (Ab Al (x.toNat:Int))).drew) g (swp d a p)/\(swp d a p).size=n/\Zaa (λ k=>k=g) w (((w.setCell ⟨g,a,none⟩ (Ab Al (y.toNat:Int))).setCell ⟨g,p,none⟩ (Ab Al (x.toNat:Int))).drew)) :=
  ⟨K.o.1.drewSwap C.o.1 C.o.2,by rw[Zao];exact K.o.2.1,turnSwap K.o.2.2 _ _ _ _⟩
 obtain⟨w1,aa⟩:=Xb (((w.setCell ⟨g,a,none⟩ (Ab Al (y.toNat:Int))).setCell ⟨g,p,none⟩ (Ab Al (x.toNat:Int))).drew)
 obtain⟨d1,W⟩:=Xb (swp d a p)
 rw[<- aa]at W1 ⊢;rw[<- W]at W1 HP;clear aa W C c0 c1 F f1 z0 z1 z2 z3 nt ab K;go_wp2_with fail;go_loopg[9,10] (b) (λ k v9 ag wr=>∃i j:Nat,v9=Ab Ak i/\ag=Ab Ak j/\j+1<=i+k/\a+1<=i/\i<=b/\a<=j/\j<b/\Hid (∃e:Array UInt64,partEqLoop ltU a i j e=r/\SR wr g e/\e.size=n/\Zaa (λ k=>k=g) w wr))
 case atStart=>exact⟨a+1,Q,by go_num,rfl,by omega,by omega,by omega,by omega,by omega,d1,HP.o,W1.o⟩
 case round =>
  obtain⟨i0,m,rfl,rfl,ai,u1,u2,u3,u4,HE⟩:=hrel;obtain⟨E,e1,e2,e3,e4⟩:=HE.o
  have V0:Hid (SR wr g E/\E.size=n/\Zaa (λ k=>k=g) w wr):=⟨e2,e3,e4⟩
  have VP:Hid (partEqLoop ltU a i0 m E=r):=e1
  obtain⟨go,X⟩:=Xb gk
  have GO:Hid (m+1<=i0+go/\go=gk):=⟨by omega,X⟩
  clear HE e1 e2 e3 e4 X
  obtain⟨I,hI⟩:=Xa (scanUp (λ x=>!ltU E[a]! x) E m i0)
  have HI:Hid (scanUp (λ x=>!ltU E[a]! x) E m i0=I):=hI;clear hI;go_wp2_with fail;go_loopg[9] (m+1) (λ k v wr=>∃i:Nat,v=Ab Ak i/\m+1<=i+k/\a+1<=i/\i<=b/\Hid (scanUp (λ x=>!ltU E[a]! x) E m i=I/\SR wr g E/\Zaa (λ k=>k=g) w wr))
  case atStart=>exact⟨i0,by first | rfl | go_num,by omega,by omega,by omega,HI.o,V0.o.1,V0.o.2.2⟩
  case round =>
   obtain⟨i,rfl,ak,ac,ad,l⟩:=hrel
   go_upto_region 3 with fail
   go_cut[43]from 29 to 45 (λ tv u=>∃v f,v=u/\tv=Ad f/\Hid ((decide (i<=m)&&(λ x=>!ltU E[a]! x) E[i]!)=f/\SR v g E/\Zaa (λ k=>k=g) w v))
   case first =>
    by_cases D:i<=m
    ·obtain⟨x,A⟩:∃x,E[i]! = x:=⟨_,rfl⟩
     obtain⟨y,B⟩:∃y,E[a]! = y:=⟨_,rfl⟩
     obtain⟨F,N⟩:=Xa (ltU y x)
     have hs:=V0.o.2.1
     have q0:∀u:SW (Grew wr),u.w.cell? ⟨g,i,none⟩=some (uv x):=λ u=>by rw[<- A];exact(l.o.2.1.below u.ok).cell (by omega)
     have q1:∀u:SW (Grew wr),u.w.cell? ⟨g,a,none⟩=some (uv y):=λ u=>by rw[<- B];exact(l.o.2.1.below u.ok).cell (by omega)
     have U:=λ u=>Zas (wr:=wr) y x F N u
     have NE:Nonempty (SW (Grew wr)):=⟨⟨wr,Ao _ wr⟩⟩
     have P:(i:Int)<=(m:Int):=by omega
     have j2:decide ((i:Int)<=(m:Int))=true:=by simpa using P
     have j3:decide (i<=m)=true:=by simpa using D
     have j4:(i:Int)<(n:Int):=by omega
     have j5:(a:Int)<(n:Int):=by omega
     have j6:(0:Int)<=(i:Int):=by omega
     have j7:(0:Int)<=(a:Int):=by omega
     have H:Hid ((decide (i<=m)&&(λ x=>!ltU E[a]! x) E[i]!)=(!F)):=by
      show _=_;simp only[A,B,N,j3,Ci]
     clear A B N hs
     cases F with
     | true =>
      refine Zab (S:=Grew wr) (by kernel_rfl) (by kernel_rfl) (Ao _ wr).drew ?_
      repeat(go_big_quiet_step (with_reducible exact U _))
      refine AN ?_;intro _ z;obtain⟨u,s⟩:=z;subst s;go_wp2_with fail;go_meet;exact⟨_,_,rfl,rfl,H.o,l.o.2.1.below u.ok,l.o.2.2.trans (Zaa.ofBelow u.ok) (λ _ _ q=>q)⟩
     | false =>
      refine Zab (S:=Grew wr) (by kernel_rfl) (by kernel_rfl) (Ao _ wr).drew ?_
      repeat(go_big_quiet_step (with_reducible exact U _))
      refine AN ?_;intro _ z;obtain⟨u,s⟩:=z;subst s;go_wp2_with fail;go_meet;exact⟨_,_,rfl,rfl,H.o,l.o.2.1.below u.ok,l.o.2.2.trans (Zaa.ofBelow u.ok) (λ _ _ q=>q)⟩
    ·have P:¬(i:Int)<=(m:Int):=by omega
     have j2:decide ((i:Int)<=(m:Int))=false:=by simpa using P
     have H:Hid ((decide (i<=m)&&(λ x=>!ltU E[a]! x) E[i]!)=false):=by
      show _=_;simp[D]
     go_quiet (fail);go_wp2_with fail;go_meet;have hq:=AS (Ao wr.heap.size wr) nq;exact⟨_,false,rfl,rfl,H.o,l.o.2.1.below hq,l.o.2.2.trans (Zaa.ofBelow (S:=λ _=>False) hq) (λ _ _ q=>q.elim)⟩
   case rest =>
    obtain⟨v,f,rfl,rfl,t⟩:=hcut
    cases f with
    | true =>
     have ae:i<=m:=by
      have:=t.o.1;simp only[Bf,A5]at this;exact this.1
     have HN:Hid (scanUp (λ x=>!ltU E[a]! x) E m (i+1)=I):=by
      have:=l.o.1;rw[Zn7 (p:=(λ x=>!ltU E[a]! x)) t.o.1]at this;exact this
     clear l;go_wp2;go_roundg (gk - 1)
     case measure=>omega
     case rel=>exact⟨i+1,by go_num,by omega,by omega,by omega,HN.o,t.o.2.1,t.o.2.2⟩
    | false =>
     have FI:Hid (scanUp (λ x=>!ltU E[a]! x) E m i0=i):=by
      have:=l.o.1;rw[ZgV (p:=(λ x=>!ltU E[a]! x)) t.o.1]at this;exact HI.o.trans this.symm
     have Wu:Hid (SR v g E/\E.size=n/\Zaa (λ k=>k=g) w v):=⟨t.o.2.1,V0.o.2.1,t.o.2.2⟩
     clear l t HI
     obtain⟨J,hJ⟩:=Xa (scanDown (λ x=>ltU E[a]! x) E i m)
     have HJ:Hid (scanDown (λ x=>ltU E[a]! x) E i m=J):=hJ;clear hJ;go_wp2_with fail;go_loopg[10] (m) (λ k v wr=>∃j:Nat,v=Ab Ak j/\j<=k/\a<=j/\j<b/\Hid (scanDown (λ x=>ltU E[a]! x) E i j=J/\SR wr g E/\Zaa (λ k=>k=g) w wr))
     case atStart=>exact⟨m,by first | rfl | go_num,by omega,by omega,by omega,HJ.o,Wu.o.1,Wu.o.2.2⟩
     case round =>
      obtain⟨j,rfl,aj,ac,ad,l⟩:=hrel
      go_upto_region 5 with fail
      go_cut[59]from 46 to 61 (λ tv u=>∃v f,v=u/\tv=Ad f/\Hid ((decide (i<=j)&&(λ x=>ltU E[a]! x) E[j]!)=f/\SR v g E/\Zaa (λ k=>k=g) w v))
      case first =>
       by_cases D:i<=j
       ·obtain⟨x,A⟩:∃x,E[j]! = x:=⟨_,rfl⟩
        obtain⟨y,B⟩:∃y,E[a]! = y:=⟨_,rfl⟩
        obtain⟨F,N⟩:=Xa (ltU y x)
        have hs:=Wu.o.2.1
        have q0:∀u:SW (Grew wr),u.w.cell? ⟨g,j,none⟩=some (uv x):=λ u=>by rw[<- A];exact(l.o.2.1.below u.ok).cell (by omega)
        have q1:∀u:SW (Grew wr),u.w.cell? ⟨g,a,none⟩=some (uv y):=λ u=>by rw[<- B];exact(l.o.2.1.below u.ok).cell (by omega)
        have U:=λ u=>Zas (wr:=wr) y x F N u
        have NE:Nonempty (SW (Grew wr)):=⟨⟨wr,Ao _ wr⟩⟩
        have P:(i:Int)<=(j:Int):=by omega
        have j2:decide ((i:Int)<=(j:Int))=true:=by simpa using P
        have j3:decide (i<=j)=true:=by simpa using D
        have j4:(j:Int)<(n:Int):=by omega
        have j5:(a:Int)<(n:Int):=by omega
        have j6:(0:Int)<=(j:Int):=by omega
        have j7:(0:Int)<=(a:Int):=by omega
        have H:Hid ((decide (i<=j)&&(λ x=>ltU E[a]! x) E[j]!)=(F)):=by
         show _=_;simp only[A,B,N,j3,Ci]
        clear A B N hs
        cases F with
        | true =>
         refine Zab (S:=Grew wr) (by kernel_rfl) (by kernel_rfl) (Ao _ wr).drew ?_
         repeat(go_big_quiet_step (with_reducible exact U _))
         refine AN ?_;intro _ z;obtain⟨u,s⟩:=z;subst s;go_wp2_with fail;go_meet;exact⟨_,_,rfl,rfl,H.o,l.o.2.1.below u.ok,l.o.2.2.trans (Zaa.ofBelow u.ok) (λ _ _ q=>q)⟩
        | false =>
         refine Zab (S:=Grew wr) (by kernel_rfl) (by kernel_rfl) (Ao _ wr).drew ?_
         repeat(go_big_quiet_step (with_reducible exact U _))
         refine AN ?_;intro _ z;obtain⟨u,s⟩:=z;subst s;go_wp2_with fail;go_meet;exact⟨_,_,rfl,rfl,H.o,l.o.2.1.below u.ok,l.o.2.2.trans (Zaa.ofBelow u.ok) (λ _ _ q=>q)⟩
       ·have P:¬(i:Int)<=(j:Int):=by omega
        have j2:decide ((i:Int)<=(j:Int))=false:=by simpa using P
        have H:Hid ((decide (i<=j)&&(λ x=>ltU E[a]! x) E[j]!)=false):=by
         show _=_;simp[D]
        go_quiet (fail);go_wp2_with fail;go_meet;have hq:=AS (Ao wr.heap.size wr) nq;exact⟨_,false,rfl,rfl,H.o,l.o.2.1.below hq,l.o.2.2.trans (Zaa.ofBelow (S:=λ _=>False) hq) (λ _ _ q=>q.elim)⟩
      case rest =>
       obtain⟨v,f,rfl,rfl,t⟩:=hcut
       cases f with
       | true =>
        have ae:i<=j:=by
         have:=t.o.1;simp only[Bf,A5]at this;exact this.1
        have HN:Hid (scanDown (λ x=>ltU E[a]! x) E i (j - 1)=J):=by
         have:=l.o.1;rw[ZnA (p:=(λ x=>ltU E[a]! x)) (by omega) t.o.1]at this;exact this
        clear l
        obtain⟨ii,Y⟩:=Xa (j - 1)
        have d1:(j:Int) - 1=(ii:Int):=by omega
        have d2:Ak.wrap (ii:Int)=(ii:Int):=by rw[Au];omega
        rw[Y]at HN
        have G:Hid (ii+1=j):=by show _=j;omega
        clear Y;go_wp2;go_roundg (gk - 1)
        case measure=>have:=G.o;omega
        case rel=>exact⟨ii,rfl,by have:=G.o;omega,by have:=G.o;omega,by have:=G.o;omega,HN.o,t.o.2.1,t.o.2.2⟩
       | false =>
        have FJ:Hid (scanDown (λ x=>ltU E[a]! x) E i m=j):=by
         have:=l.o.1;rw[Zjw (p:=(λ x=>ltU E[a]! x)) t.o.1]at this;exact HJ.o.trans this.symm
        have Wd:Hid (SR v g E/\E.size=n/\Zaa (λ k=>k=g) w v):=⟨t.o.2.1,Wu.o.2.1,t.o.2.2⟩
        clear l t HJ;have L:=ZdT (p:=λ x=>!ltU E[a]! x) (q:=λ x=>ltU E[a]! x) (λ _=>by simp) (by omega) FI.o FJ.o;by_cases hc:j<i
        ·have ci:(j:Int)<(i:Int):=by omega
         have M:Hid (r=(i,E)):=by
          show r=_;rw[<- VP.o];exact ZhE FI.o FJ.o hc
         go_wp2;go_ret;rw[M.o];exact⟨rfl,Wd.o.1,Wd.o.2.2⟩
        ·have ci:¬(j:Int)<(i:Int):=by omega
         obtain⟨R,Z⟩:=Xa (j - 1)
         have d1:(j:Int) - 1=(R:Int):=by omega
         have d2:Ak.wrap (R:Int)=(R:Int):=by rw[Au];omega
         have M:Hid (partEqLoop ltU a (i+1) R (swp E i j)=r):=by
          show _=r;rw[<- VP.o,<- Z];exact(Zm3 (by omega) FI.o FJ.o hc).symm
         have JJ:Hid (R+1=j):=by show _=j;omega
         have T:Hid (i0<=i/\j<=m):=⟨L.1,L.2.1⟩
         have af:=L.2.2;clear Z L
         obtain⟨x,A⟩:∃x,E[i]! = x:=⟨_,rfl⟩
         obtain⟨y,B⟩:∃y,E[j]! = y:=⟨_,rfl⟩
         have O:=Wd.o.2.1
         have c0:v.cell? ⟨g,i,none⟩=some (uv x):=by rw[<- A];exact Wd.o.1.cell (by omega)
         have c1:v.cell? ⟨g,j,none⟩=some (uv y):=by rw[<- B];exact Wd.o.1.cell (by omega)
         have F:=Wd.o.1.thaw i;have f1:=Wd.o.1.thaw j
         have z0:(0:Int)<=(i:Int):=by omega
         have z1:(0:Int)<=(j:Int):=by omega
         have z2:(i:Int)<(n:Int):=by omega
         have z3:(j:Int)<(n:Int):=by omega
         have nt:¬i=j:=af
         have ab:¬j=i:=λ e=>nt e.symm
         have C:Hid (E[i]! = x/\E[j]! = y):=⟨A,B⟩
         clear A B O;go_wp2_with fail;go_region;go_wp2;go_roundg (go - 1)
         case measure=>have:=GO.o;have:=T.o;omega
         case rel=>exact⟨i+1,R,by go_num,rfl,by have:=GO.o;have:=T.o;have:=JJ.o;omega,by omega,by omega,by have:=JJ.o;omega,by have:=JJ.o;omega,swp E i j,M.o,Wd.o.1.drewSwap C.o.1 C.o.2,by rw[Zao];exact Wd.o.2.1,turnSwap Wd.o.2.2 _ _ _ _⟩
theorem shid{p:Prop}(h:p):Hid p:=h
theorem ss_go(h:(decide (i<b)&&!ltU d[i]! d[i - 1]!)=true):scanSorted ltU d b i=scanSorted ltU d b (i+1):=by
 rw[scanSorted,AE h]
theorem Zqm(h:(decide (i<b)&&!ltU d[i]! d[i - 1]!)=false):scanSorted ltU d b i=i:=by
 rw[scanSorted,Aw (by rw[h];decide)]
theorem ZpB{t:Nat}(f:Bool)(a:ltU d[t+1]! d[t]! = f):shiftDown ltU (t+1) d=if f=true then shiftDown ltU t (swp d (t+1) t)else d:=by
 rw[shiftDown,a]
 cases f <;> rfl
theorem Zp3(h:j<b)(f:Bool)(a:ltU d[j]! d[j - 1]! = f):shiftUp ltU b j d=if f=true then shiftUp ltU b (j+1) (swp d j (j - 1))else d:=by
 rw[shiftUp,AE h,a]
 cases f <;> rfl
theorem ZpY(h:¬j<b):shiftUp ltU b j d=d:=by
 rw[shiftUp,Aw h]
theorem Zlu{R:Array UInt64×Bool}(h:partialIns ltU a b (s+1) i d=R):∀c,scanSorted ltU d b i=c->(c=b->R=(d,true))/\(¬c=b->(b - a<50->R=(d,false))/\(¬b - a<50->∀e f,(if c - a≥2 then shiftDown ltU (c - 1) (swp d c (c - 1))else swp d c (c - 1))=e->(if b - c≥2 then shiftUp ltU b (c+1) e else e)=f->partialIns ltU a b s c f=R)):=by
 intro c hi;rw[<- h,partialIns];simp only[hi];refine⟨λ q=>by rw[AE q],λ q=>⟨λ g=>by rw[Aw q,AE g],λ g e f j k=>?_⟩⟩;rw[Aw q,Aw g,j,k]
theorem ZnN(h:SR w g d)(hd:d.size=n)(av:a<b)(hb:b<=n)(hn:n<=1000000000000)(R:Array UInt64×Bool)(hr:partialInsertionSort ltU d a b=R):
  At Tryz.prog 140 #[Aa (some ⟨g,0,none⟩) n c,Ab Ak (a:Int),Ab Ak (b:Int)] w λ e w'=>e=.returned (Ad R.2)/\Hid (SR w' g R.1/\Zaa (λ k=>k=g) w w'):=by
 obtain⟨l,hl⟩:=Xa (b - a)
 have b1:(b:Int) - (a:Int)=(l:Int):=by omega
 have bw:Ak.wrap (l:Int)=(l:Int):=by rw[Au];omega
 have W0:Hid (SR w g d/\d.size=n/\Zaa (λ k=>k=g) w w/\partialIns ltU a b 5 (a+1) d=R):=⟨h,hd,Zaa.refl _ _,hr⟩
 have HL:Hid (b - a=l):=hl;clear h hd hr hl;go_enter func140,ntmps140;go_wp2_with fail;go_loopg[8,7] 5 (λ k v8 v7 wr=>∃t i:Nat,v8=Ab Ak t/\v7=Ab Ak i/\t+k=5/\a+1<=i/\i<=b/\Hid (∃e:Array UInt64,partialIns ltU a b k i e=R/\SR wr g e/\Zaa (λ k=>k=g) w wr/\e.size=n))
 case atStart=>exact⟨0,a+1,rfl,by go_num,rfl,by omega,by omega,d,W0.o.2.2.2,W0.o.1,W0.o.2.2.1,W0.o.2.1⟩
 case round =>
  obtain⟨t0,i0,rfl,rfl,aq,u1,u2,HE⟩:=hrel;obtain⟨E,W,V0⟩:∃E,partialIns ltU a b gk i0 E=R/\Hid (SR wr g E/\Zaa (λ k=>k=g) w wr/\E.size=n):=HE.o;clear HE W0;by_cases aC:t0<5
  ·obtain⟨s,Z⟩:∃s,s+1=gk:=⟨gk - 1,by omega⟩
   rw[<- Z]at W;have HS:=shid (Zlu W);rw[HL.o]at HS
   have v5:(t0:Int)<5:=by omega
   have GO:Hid (s+1=gk/\t0+(s+1)=5):=⟨Z,by omega⟩
   clear W Z aq
   obtain⟨I,hI⟩:=Xa (scanSorted ltU E b i0)
   have HI:Hid (scanSorted ltU E b i0=I):=hI;clear hI;go_wp2_with fail;go_loopg[7] b (λ k v wr=>∃i:Nat,v=Ab Ak i/\b<=i+k/\a+1<=i/\i<=b/\Hid (scanSorted ltU E b i=I/\SR wr g E/\Zaa (λ k=>k=g) w wr/\E.size=n))
   case atStart=>exact⟨i0,rfl,by omega,by omega,by omega,HI.o,V0.o⟩
   case round =>
    obtain⟨i,rfl,hk,aw,ax,m⟩:=hrel
    obtain⟨r,X⟩:=Xa (i - 1)
    have s1:(i:Int) - 1=(r:Int):=by omega
    have s2:Ak.wrap (r:Int)=(r:Int):=by rw[Au];omega
    have au:r+1=i:=by omega
    go_upto_region 5 with fail
    go_cut[32]from 17 to 34 (λ tv u=>∃v f,v=u/\tv=Ad f/\Hid ((decide (i<b)&&!ltU E[i]! E[r]!)=f/\SR v g E/\Zaa (λ k=>k=g) w v))
    case first =>
     by_cases aj:i<b
     ·obtain⟨x,J⟩:∃x,E[i]! = x:=⟨_,rfl⟩
      obtain⟨y,K⟩:∃y,E[r]! = y:=⟨_,rfl⟩
      obtain⟨H,U⟩:=Xa (ltU x y)
      have Z:=m.o.2.2.2
      have q0:∀u:SW (Grew wr),u.w.cell? ⟨g,i,none⟩=some (uv x):=λ u=>by rw[<- J];exact(m.o.2.1.below u.ok).cell (by omega)
      have q1:∀u:SW (Grew wr),u.w.cell? ⟨g,r,none⟩=some (uv y):=λ u=>by rw[<- K];exact(m.o.2.1.below u.ok).cell (by omega)
      have V:=λ u=>Zas (wr:=wr) x y H U u
      have NE:Nonempty (SW (Grew wr)):=⟨⟨wr,Ao _ wr⟩⟩
      have j4:(i:Int)<(n:Int):=by omega
      have j5:(r:Int)<(n:Int):=by omega
      have j6:(0:Int)<=(i:Int):=by omega
      have j7:(0:Int)<=(r:Int):=by omega
      have j1:(i:Int)<(b:Int):=by omega
      have j2:decide ((i:Int)<(b:Int))=true:=by simpa using j1
      have j3:decide (i<b)=true:=by simpa using aj
      have KE:Hid ((decide (i<b)&&!ltU E[i]! E[r]!)=(!H)):=by
       show _=_;simp only[J,K,U,j3,Ci]
      clear J K U Z
      cases H with
      | true =>
       refine Zab (S:=Grew wr) (by kernel_rfl) (by kernel_rfl) (Ao _ wr).drew ?_
       repeat(go_big_quiet_step (with_reducible exact V _))
       refine AN ?_;intro _ z;obtain⟨u,p⟩:=z;subst p;go_wp2_with fail;go_meet;exact⟨_,_,rfl,rfl,KE.o,m.o.2.1.below u.ok,m.o.2.2.1.trans (Zaa.ofBelow u.ok) (λ _ _ q=>q)⟩
      | false =>
       refine Zab (S:=Grew wr) (by kernel_rfl) (by kernel_rfl) (Ao _ wr).drew ?_
       repeat(go_big_quiet_step (with_reducible exact V _))
       refine AN ?_;intro _ z;obtain⟨u,p⟩:=z;subst p;go_wp2_with fail;go_meet;exact⟨_,_,rfl,rfl,KE.o,m.o.2.1.below u.ok,m.o.2.2.1.trans (Zaa.ofBelow u.ok) (λ _ _ q=>q)⟩
     ·have j1:¬(i:Int)<(b:Int):=by omega
      have j2:decide ((i:Int)<(b:Int))=false:=by simpa using j1
      have KE:Hid ((decide (i<b)&&!ltU E[i]! E[r]!)=false):=by
       show _=_;simp[aj]
      go_quiet (fail);go_wp2_with fail;go_meet;have hq:=AS (Ao wr.heap.size wr) nq;exact⟨_,false,rfl,rfl,KE.o,m.o.2.1.below hq,m.o.2.2.1.trans (Zaa.ofBelow (S:=λ _=>False) hq) (λ _ _ q=>q.elim)⟩
    case rest =>
     obtain⟨v,f,rfl,rfl,HC⟩:=hcut
     cases f with
     | true =>
      have aB:i<b:=by
       have:=HC.o.1;simp only[Bf,A5]at this;exact this.1
      have HN:Hid (scanSorted ltU E b (i+1)=I):=by
       have:=m.o.1;rw[ss_go (by rw[X];exact HC.o.1)]at this;exact this
      have HZ:Hid (E.size=n):=m.o.2.2.2;clear m;go_wp2;go_roundg (gk - 1)
      case measure=>omega
      case rel=>exact⟨i+1,by go_num,by omega,by omega,by omega,HN.o,HC.o.2.1,HC.o.2.2,HZ.o⟩
     | false =>
      have FI:Hid (scanSorted ltU E b i0=i):=by
       have:=m.o.1;rw[Zqm (by rw[X];exact HC.o.1)]at this;exact HI.o.trans this.symm
      have Wd:Hid (SR v g E/\E.size=n/\Zaa (λ k=>k=g) w v):=⟨HC.o.2.1,m.o.2.2.2,HC.o.2.2⟩
      clear m HC HI hk;have Y:=HS.o i FI.o;clear HS FI;by_cases aa:i=b
      ·have Q:Hid (R=(E,true)):=Y.1 aa
       have W:(i:Int)=(b:Int):=by omega
       clear Y;go_wp2;go_ret;rw[Q.o];exact⟨rfl,Wd.o.1,Wd.o.2.2⟩
      ·have W:¬(i:Int)=(b:Int):=by omega
       have M:=Y.2 aa;clear Y;by_cases ah:l<50
       ·have Q:Hid (R=(E,false)):=M.1 ah
        have e2:(l:Int)<50:=by omega
        clear M;go_wp2;go_ret;rw[Q.o];exact⟨rfl,Wd.o.1,Wd.o.2.2⟩
       ·have e2:¬(l:Int)<50:=by omega
        have N:=M.2 ah;rw[X]at N
        obtain⟨O,ac⟩:=Xa (swp E i r)
        rw[ac]at N
        obtain⟨A,ad⟩:=Xa ((if i - a≥2 then shiftDown ltU r O else O))
        obtain⟨C,ae⟩:=Xa ((if b - i≥2 then shiftUp ltU b (i+1) A else A))
        have PR:Hid (partialIns ltU a b s i C=R):=N A C ad ae
        have Q1:Hid (swp E i r=O/\(if i - a≥2 then shiftDown ltU r O else O)=A/\(if b - i≥2 then shiftUp ltU b (i+1) A else A)=C):=⟨ac,ad,ae⟩
        obtain⟨m1,ak⟩:=Xa (i - a)
        obtain⟨m2,al⟩:=Xa (b - i)
        have t1:(i:Int) - (a:Int)=(m1:Int):=by omega
        have t2:(b:Int) - (i:Int)=(m2:Int):=by omega
        have t3:Ak.wrap (m1:Int)=(m1:Int):=by rw[Au];omega
        have t4:Ak.wrap (m2:Int)=(m2:Int):=by rw[Au];omega
        rw[ak,al]at Q1;clear M N ac ad ae X ak al
        obtain⟨x,J⟩:∃x,E[i]! = x:=⟨_,rfl⟩
        obtain⟨y,K⟩:∃y,E[r]! = y:=⟨_,rfl⟩
        have ap:=Wd.o.2.1
        have c0:v.cell? ⟨g,i,none⟩=some (uv x):=by rw[<- J];exact Wd.o.1.cell (by omega)
        have c1:v.cell? ⟨g,r,none⟩=some (uv y):=by rw[<- K];exact Wd.o.1.cell (by omega)
        have H:=Wd.o.1.thaw i;have f1:=Wd.o.1.thaw r
        have z0:(0:Int)<=(i:Int):=by omega
        have z1:(0:Int)<=(r:Int):=by omega
        have z2:(i:Int)<(n:Int):=by omega
        have z3:(r:Int)<(n:Int):=by omega
        have nt:¬i=r:=by omega
        have af:¬r=i:=λ e=>nt e.symm
        have ab:Hid (E[i]! = x/\E[r]! = y):=⟨J,K⟩
        clear J K ap;go_wp2_with fail;go_region
        have W1:Hid (SR (((v.setCell ⟨g,i,none⟩ (Ab Al (y.toNat:Int))).setCell ⟨g,r,none⟩ (Ab Al (x.toNat:Int))).drew) g O/\O.size=n/\Zaa (λ k=>k=g) w (((v.setCell ⟨g,i,none⟩ (Ab Al (y.toNat:Int))).setCell ⟨g,r,none⟩ (Ab Al (x.toNat:Int))).drew)):=by
         rw[<- Q1.o.1];exact⟨Wd.o.1.drewSwap ab.o.1 ab.o.2,by rw[Zao];exact Wd.o.2.1,turnSwap Wd.o.2.2 _ _ _ _⟩
        obtain⟨w1,an⟩:=Xb (((v.setCell ⟨g,i,none⟩ (Ab Al (y.toNat:Int))).setCell ⟨g,r,none⟩ (Ab Al (x.toNat:Int))).drew)
        rw[<- an]at W1 ⊢;clear an ab c0 c1 H f1 z0 z1 z2 z3 nt af Wd W e2
        obtain⟨bm,ai⟩:=Xa (decide ((2:Int)<=(m1:Int)))
        have ag:Hid (decide ((2:Int)<=(m1:Int))=bm):=ai
        go_upto_if 61 with fail
        clear ai
        go_cut[9]from 13 to 132 (λ jv u=>∃v,v=u/\Hid (SR v g A/\A.size=n/\Zaa (λ k=>k=g) w v))
        case first =>
         have D:Hid ((if m1≥2 then shiftDown ltU r O else O)=A):=Q1.o.2.1;clear PR Q1 t2 t4
         cases bm with
         | true =>
          have hm:2<=m1:=by have:=CN ag.o;omega
          have B:Hid (shiftDown ltU r O=A):=by
           have:=D.o;rw[AE hm]at this;exact this
          clear D;go_wp2_with fail;go_loopg[9] r (λ k v wr=>v=Ab Ak (k:Int)/\k<=r/\Hid (∃e:Array UInt64,shiftDown ltU k e=A/\SR wr g e/\Zaa (λ k=>k=g) w wr/\e.size=n))
          case atStart=>exact⟨rfl,Az _,O,B.o,W1.o.1,W1.o.2.2,W1.o.2.1⟩
          case round =>
           obtain⟨rfl,aA,HE⟩:=hrel;obtain⟨G,m⟩:∃G,Hid (shiftDown ltU gk G=A/\SR wr g G/\Zaa (λ k=>k=g) w wr/\G.size=n):=HE.o;clear HE B W1;by_cases hz:1<=gk
           ·obtain⟨t,ht⟩:∃t,t+1=gk:=⟨gk - 1,by omega⟩
            have j1:(1:Int)<=(gk:Int):=by omega
            have j2:(gk:Int) - 1=(t:Int):=by omega
            have j3:Ak.wrap (t:Int)=(t:Int):=by rw[Au];omega
            obtain⟨x,J⟩:∃x,G[gk]! = x:=⟨_,rfl⟩
            obtain⟨y,K⟩:∃y,G[t]! = y:=⟨_,rfl⟩
            obtain⟨H,U⟩:=Xa (ltU x y)
            have Z:=m.o.2.2.2
            have q0:∀u:SW (Grew wr),u.w.cell? ⟨g,gk,none⟩=some (uv x):=λ u=>by rw[<- J];exact(m.o.2.1.below u.ok).cell (by omega)
            have q1:∀u:SW (Grew wr),u.w.cell? ⟨g,t,none⟩=some (uv y):=λ u=>by rw[<- K];exact(m.o.2.1.below u.ok).cell (by omega)
            have V:=λ u=>Zas (wr:=wr) x y H U u
            have NE:Nonempty (SW (Grew wr)):=⟨⟨wr,Ao _ wr⟩⟩
            have j4:(gk:Int)<(n:Int):=by omega
            have j5:(t:Int)<(n:Int):=by omega
            have j6:(0:Int)<=(gk:Int):=by omega
            have j7:(0:Int)<=(t:Int):=by omega
            have F:Hid ((if H=true then shiftDown ltU t (swp G gk t)else G)=A/\G[gk]! = x/\G[t]! = y/\t+1=gk):=by
             refine⟨?_,J,K,ht⟩;rw[<- m.o.1,<- ht];exact(ZpB H (by rw[ht,J,K];exact U)).symm
            clear J K U Z ht
            cases H with
            | true =>
             go_upto_region 16 with fail
             refine Zab (S:=Grew wr) (by kernel_rfl) (by kernel_rfl) (Ao _ wr).drew ?_
             repeat(go_big_quiet_step (with_reducible exact V _))
             refine AN ?_;intro _ z;obtain⟨u,p⟩:=z;subst p
             obtain⟨w4,L⟩:=Xb u.w
             have Wd:Hid (SR w4 g G/\G.size=n/\Zaa (λ k=>k=g) w w4):=by
              rw[L];exact⟨m.o.2.1.below u.ok,m.o.2.2.2,m.o.2.2.1.trans (Zaa.ofBelow u.ok) (λ _ _ q=>q)⟩
             rw[<- L];clear V q0 q1 NE L u m
             have c0:w4.cell? ⟨g,gk,none⟩=some (uv x):=by rw[<- F.o.2.1];exact Wd.o.1.cell (by have:=Wd.o.2.1;omega)
             have c1:w4.cell? ⟨g,t,none⟩=some (uv y):=by rw[<- F.o.2.2.1];exact Wd.o.1.cell (by have:=Wd.o.2.1;omega)
             have H:=Wd.o.1.thaw gk;have f1:=Wd.o.1.thaw t
             have nt:¬gk=t:=by have:=F.o.2.2.2;omega
             have af:¬t=gk:=λ e=>nt e.symm
             go_wp2_with fail;go_region;go_wp2;go_roundg t
             case measure=>have:=F.o.2.2.2;omega
             case rel=>exact⟨by go_num,by have:=F.o.2.2.2;omega,swp G gk t,by have:=F.o.1;simpa using this,Wd.o.1.drewSwap F.o.2.1 F.o.2.2.1,turnSwap Wd.o.2.2 _ _ _ _,by rw[Zao];exact Wd.o.2.1⟩
            | false =>
             go_upto_region 16 with fail
             refine Zab (S:=Grew wr) (by kernel_rfl) (by kernel_rfl) (Ao _ wr).drew ?_
             repeat(go_big_quiet_step (with_reducible exact V _))
             refine AN ?_;intro _ z;obtain⟨u,p⟩:=z;subst p;go_wp2_with fail;go_meet
             have P:G=A:=by have:=F.o.1;simpa using this
             exact⟨_,rfl,by rw[<- P];exact m.o.2.1.below u.ok,by rw[<- P];exact m.o.2.2.2,m.o.2.2.1.trans (Zaa.ofBelow u.ok) (λ _ _ q=>q)⟩
           ·have j1:¬(1:Int)<=(gk:Int):=by omega
            have P:Hid (G=A):=by
             have e0:gk=0:=by omega
             have:=m.o.1;rw[e0]at this;exact this
            go_wp2_with fail;go_meet;exact⟨_,rfl,by rw[<- P.o];exact m.o.2.1,by rw[<- P.o];exact m.o.2.2.2,m.o.2.2.1⟩
         | false =>
          have hm:¬2<=m1:=by have:=of_decide_eq_false ag.o;omega
          have B:Hid (O=A):=by
           have:=D.o;rw[Aw hm]at this;exact this
          clear D;go_wp2_with fail;go_meet;exact⟨_,rfl,by rw[<- B.o];exact W1.o⟩
        case rest =>
         obtain⟨v,rfl,W2⟩:=hcut;clear W1;have D:Hid ((if m2≥2 then shiftUp ltU b (i+1) A else A)=C):=Q1.o.2.2;clear Q1 t1 t3;by_cases hm:2<=m2
         ·have ao:(2:Int)<=(m2:Int):=by omega
          have B:Hid (shiftUp ltU b (i+1) A=C):=by
           have:=D.o;rw[AE hm]at this;exact this
          clear D;go_wp2_with fail;go_loopg[10] b (λ k v wr=>∃j:Nat,v=Ab Ak (j:Int)/\b<=j+k/\j<=b/\i+1<=j/\Hid (∃e:Array UInt64,shiftUp ltU b j e=C/\SR wr g e/\Zaa (λ k=>k=g) w wr/\e.size=n))
          case atStart=>exact⟨i+1,by go_num,by omega,by omega,Az _,A,B.o,W2.o.1,W2.o.2.2,W2.o.2.1⟩
          case round =>
           obtain⟨j,rfl,az,ay,ar,HE⟩:=hrel;obtain⟨G,m⟩:∃G,Hid (shiftUp ltU b j G=C/\SR wr g G/\Zaa (λ k=>k=g) w wr/\G.size=n):=HE.o;clear HE B W2;by_cases hz:j<b
           ·obtain⟨t,ht⟩:=Xa (j - 1)
            have am:t+1=j:=by omega
            have j1:(j:Int)<(b:Int):=by omega
            have j2:(j:Int) - 1=(t:Int):=by omega
            have j3:Ak.wrap (t:Int)=(t:Int):=by rw[Au];omega
            obtain⟨x,J⟩:∃x,G[j]! = x:=⟨_,rfl⟩
            obtain⟨y,K⟩:∃y,G[t]! = y:=⟨_,rfl⟩
            obtain⟨H,U⟩:=Xa (ltU x y)
            have Z:=m.o.2.2.2
            have q0:∀u:SW (Grew wr),u.w.cell? ⟨g,j,none⟩=some (uv x):=λ u=>by rw[<- J];exact(m.o.2.1.below u.ok).cell (by omega)
            have q1:∀u:SW (Grew wr),u.w.cell? ⟨g,t,none⟩=some (uv y):=λ u=>by rw[<- K];exact(m.o.2.1.below u.ok).cell (by omega)
            have V:=λ u=>Zas (wr:=wr) x y H U u
            have NE:Nonempty (SW (Grew wr)):=⟨⟨wr,Ao _ wr⟩⟩
            have j4:(j:Int)<(n:Int):=by omega
            have j5:(t:Int)<(n:Int):=by omega
            have j6:(0:Int)<=(j:Int):=by omega
            have j7:(0:Int)<=(t:Int):=by omega
            have F:Hid ((if H=true then shiftUp ltU b (j+1) (swp G j t)else G)=C/\G[j]! = x/\G[t]! = y/\t+1=j):=by
             refine⟨?_,J,K,am⟩;rw[<- m.o.1,<- ht];exact(Zp3 hz H (by rw[ht,J,K];exact U)).symm
            clear J K U Z ht am
            cases H with
            | true =>
             go_upto_region 22 with fail
             refine Zab (S:=Grew wr) (by kernel_rfl) (by kernel_rfl) (Ao _ wr).drew ?_
             repeat(go_big_quiet_step (with_reducible exact V _))
             refine AN ?_;intro _ z;obtain⟨u,p⟩:=z;subst p
             obtain⟨w4,L⟩:=Xb u.w
             have Wd:Hid (SR w4 g G/\G.size=n/\Zaa (λ k=>k=g) w w4):=by
              rw[L];exact⟨m.o.2.1.below u.ok,m.o.2.2.2,m.o.2.2.1.trans (Zaa.ofBelow u.ok) (λ _ _ q=>q)⟩
             rw[<- L];clear V q0 q1 NE L u m
             have c0:w4.cell? ⟨g,j,none⟩=some (uv x):=by rw[<- F.o.2.1];exact Wd.o.1.cell (by have:=Wd.o.2.1;omega)
             have c1:w4.cell? ⟨g,t,none⟩=some (uv y):=by rw[<- F.o.2.2.1];exact Wd.o.1.cell (by have:=Wd.o.2.1;omega)
             have H:=Wd.o.1.thaw j;have f1:=Wd.o.1.thaw t
             have nt:¬j=t:=by have:=F.o.2.2.2;omega
             have af:¬t=j:=λ e=>nt e.symm
             go_wp2_with fail;go_region;go_wp2;go_roundg (gk - 1)
             case measure=>omega
             case rel=>exact⟨j+1,by go_num,by omega,by omega,by omega,swp G j t,by have:=F.o.1;simpa using this,Wd.o.1.drewSwap F.o.2.1 F.o.2.2.1,turnSwap Wd.o.2.2 _ _ _ _,by rw[Zao];exact Wd.o.2.1⟩
            | false =>
             go_upto_region 22 with fail
             refine Zab (S:=Grew wr) (by kernel_rfl) (by kernel_rfl) (Ao _ wr).drew ?_
             repeat(go_big_quiet_step (with_reducible exact V _))
             refine AN ?_;intro _ z;obtain⟨u,p⟩:=z;subst p
             have P:G=C:=by have:=F.o.1;simpa using this
             have T:Hid (SR u.w g C/\C.size=n/\Zaa (λ k=>k=g) w u.w):=⟨by rw[<- P];exact m.o.2.1.below u.ok,by rw[<- P];exact m.o.2.2.2,m.o.2.2.1.trans (Zaa.ofBelow u.ok) (λ _ _ q=>q)⟩
             clear P;go_wp2;go_roundg s
             case measure=>have:=GO.o;omega
             case rel=>exact⟨t0+1,i,by go_num,rfl,by have:=GO.o;omega,by omega,by omega,C,PR.o,T.o.1,T.o.2.2,T.o.2.1⟩
           ·have j1:¬(j:Int)<(b:Int):=by omega
            have P:Hid (G=C):=by
             have:=m.o.1;rw[ZpY hz]at this;exact this
            have T:Hid (SR wr g C/\C.size=n/\Zaa (λ k=>k=g) w wr):=⟨by rw[<- P.o];exact m.o.2.1,by rw[<- P.o];exact m.o.2.2.2,m.o.2.2.1⟩
            go_wp2;go_roundg s
            case measure=>have:=GO.o;omega
            case rel=>exact⟨t0+1,i,by go_num,rfl,by have:=GO.o;omega,by omega,by omega,C,PR.o,T.o.1,T.o.2.2,T.o.2.1⟩
         ·have ao:¬(2:Int)<=(m2:Int):=by omega
          have B:Hid (A=C):=by
           have:=D.o;rw[Aw hm]at this;exact this
          clear D
          have T:Hid (SR v g C/\C.size=n/\Zaa (λ k=>k=g) w v):=⟨(by rw[<- B.o];exact W2.o.1),(by rw[<- B.o];exact W2.o.2.1),W2.o.2.2⟩
          go_wp2;go_roundg s
          case measure=>have:=GO.o;omega
          case rel=>exact⟨t0+1,i,by go_num,rfl,by have:=GO.o;omega,by omega,by omega,C,PR.o,T.o.1,T.o.2.2,T.o.2.1⟩
  ·have v5:¬(t0:Int)<5:=by omega
   have Q:Hid (R=(E,false)):=by
    have e0:gk=0:=by omega
    rw[e0]at W;exact W.symm
   clear W;go_wp2;go_ret;rw[Q.o];exact⟨rfl,V0.o.1,V0.o.2.1⟩
end Go.Proofs.YtlojblelpaegpaaGreat
