/-
  Several texts, laid together.
-/
import Derived.Test.YtmhcpbbiokpjjaaGreatM35
set_option maxHeartbeats 6400000
set_option maxRecDepth 100000
namespace Go.Proofs.YtmhcpbbiokpjjaaGreat
open Go.RowKit Go.Sort
theorem Zlb {p:UInt64->Bool} {d:Array UInt64} {j i:Nat} (h:(decide (i<=j)&&p d[i]!)=true):scanUp p d j i=scanUp p d j (i+1):=by
 rw [scanUp,if_pos h]
theorem ZfB {p:UInt64->Bool} {d:Array UInt64} {j i:Nat} (h:(decide (i<=j)&&p d[i]!)=false):scanUp p d j i=i:=by
 rw [scanUp,if_neg (by rw [h]; decide)]
theorem ZlQ {p:UInt64->Bool} {d:Array UInt64} {j i:Nat} (hi:1<=i) (h:(decide (i<=j)&&p d[j]!)=true):scanDown p d i j=scanDown p d i (j - 1):=by
 cases j with
 | zero=>simp at h; omega
 | succ j=>rw [scanDown,if_pos h]; rfl
theorem Zhx {p:UInt64->Bool} {d:Array UInt64} {j i:Nat} (h:(decide (i<=j)&&p d[j]!)=false):scanDown p d i j=j:=by
 cases j with
 | zero=>rfl
 | succ j=>rw [scanDown,if_neg (by rw [h]; decide)]
theorem up_ge (p:UInt64->Bool) (d:Array UInt64) (j i:Nat):i<=scanUp p d j i/\(decide (scanUp p d j i<=j)&&p d[scanUp p d j i]!)=false:=by
 generalize hm:j+1 - i=m
 induction m generalizing i with
 | zero =>
  have h:(decide (i<=j)&&p d[i]!)=false:=by simp; intro q; omega
  rw [ZfB h];exact ⟨Nat.le_refl _,h⟩
 | succ m ih =>
  cases h:(decide (i<=j)&&p d[i]!) with
  | false=>rw [ZfB h]; exact ⟨Nat.le_refl _,h⟩
  | true =>
   rw [Zlb h];have:=ih (i+1) (by omega);exact ⟨by omega,this.2⟩
theorem dn_le (p:UInt64->Bool) (d:Array UInt64) (i:Nat) (hi:1<=i):∀ j,scanDown p d i j<=j/\(decide (i<=scanDown p d i j)&&p d[scanDown p d i j]!)=false:=by
 intro j
 induction j with
 | zero=>exact ⟨by rw [scanDown]; exact Nat.le_refl _,by rw [scanDown]; simp; intro q; omega⟩
 | succ j ih =>
  cases h:(decide (i<=j+1)&&p d[j+1]!) with
  | false=>rw [Zhx h]; exact ⟨Nat.le_refl _,h⟩
  | true =>
   rw [ZlQ hi h];exact ⟨by have:=ih.1; simp only [Nat.add_sub_cancel]; omega,ih.2⟩
theorem ZdA {p q:UInt64->Bool} (hpq:∀ x,q x=!p x) {d:Array UInt64} {j i i2 j2:Nat} (hi:1<=i) (h1:scanUp p d j i=i2) (h2:scanDown q d i2 j=j2):i<=i2/\j2<=j/\i2≠j2:=by
 have a1:=up_ge p d j i;rw [h1] at a1;have a2:=dn_le q d i2 (by omega) j;rw [h2] at a2;refine ⟨a1.1,a2.1,?_⟩;intro e;subst e;have b1:=a1.2;have b2:=a2.2
 have l1:decide (i2<=j)=true:=by simpa using a2.1
 have l2:decide (i2<=i2)=true:=by simp
 rw [l1,Bool.true_and] at b1;rw [l2,Bool.true_and,hpq,b1] at b2;cases b2
theorem Zkg {a i j i2 j2:Nat} {d:Array UInt64} (h1:scanUp (λ x=>ltU x d[a]!) d j i=i2) (h2:scanDown (λ x=>!ltU x d[a]!) d i2 j=j2) (h:j2<i2):partLoop ltU a i j d=(j2,d):=by
 rw [partLoop];simp only [h1,h2];rw [if_pos h]
theorem ZmD {a i j i2 j2:Nat} {d:Array UInt64} (hi:1<=i) (h1:scanUp (λ x=>ltU x d[a]!) d j i=i2) (h2:scanDown (λ x=>!ltU x d[a]!) d i2 j=j2) (h:¬ j2<i2):partLoop ltU a i j d=partLoop ltU a (i2+1) (j2 - 1) (swp d i2 j2):=by
 have hs:=ZdA (p:=λ x=>ltU x d[a]!) (q:=λ x=>!ltU x d[a]!) (λ _=>rfl) hi h1 h2;rw [partLoop];simp only [h1,h2];rw [if_neg h,dif_pos (by omega)]
theorem ZgT {a i j i2 j2:Nat} {d:Array UInt64} (h1:scanUp (λ x=>!ltU d[a]! x) d j i=i2) (h2:scanDown (λ x=>ltU d[a]! x) d i2 j=j2) (h:j2<i2):partEqLoop ltU a i j d=(i2,d):=by
 rw [partEqLoop];simp only [h1,h2];rw [if_pos h]
theorem ZjG {a i j i2 j2:Nat} {d:Array UInt64} (hi:1<=i) (h1:scanUp (λ x=>!ltU d[a]! x) d j i=i2) (h2:scanDown (λ x=>ltU d[a]! x) d i2 j=j2) (h:¬ j2<i2):partEqLoop ltU a i j d=partEqLoop ltU a (i2+1) (j2 - 1) (swp d i2 j2):=by
 have hs:=ZdA (p:=λ x=>!ltU d[a]! x) (q:=λ x=>ltU d[a]! x) (λ _=>by simp) hi h1 h2;rw [partEqLoop];simp only [h1,h2];rw [if_neg h,dif_pos (by omega)]
theorem Zk8 {w:World} {g n c a b p:Nat} {d:Array UInt64} (h:SR w g d) (hd:d.size=n) (hap:a<p) (hpb:p<b) (hb:b<=n) (hn:n<=1000000000000) (r:Nat×Bool×Array UInt64) (hr:partition ltU d a b p=r) :
  Calls Tryz.prog 197 #[.slice (some ⟨g,0,none⟩) n c,.int .i64 (a:Int),.int .i64 (b:Int),.int .i64 (p:Int)] w λ e w'=>e=.returned (.tuple #[.int .i64 (r.1:Int),.bool r.2.1])/\Hid (SR w' g r.2.2/\Zaa (λ k=>k=g) w w'):=by
 obtain ⟨bb,hbb⟩:∃ bb,b - 1=bb:=⟨_,rfl⟩
 have b1:(b:Int) - 1=(bb:Int):=by omega
 have bw:IntKind.i64.wrap (bb:Int)=(bb:Int):=by rw [IntKind.wrap_i64]; omega
 have W0:Hid (SR w g d/\d.size=n/\Zaa (λ k=>k=g) w w):=⟨h,hd,Zaa.refl _ _⟩
 have HP:Hid (∀ i j,scanUp (λ x=>ltU x (swp d a p)[a]!) (swp d a p) bb (a+1)=i->scanDown (λ x=>!ltU x (swp d a p)[a]!) (swp d a p) i bb=j->(j<i->r=(j,true,swp (swp d a p) j a))/\(¬ j<i->∀ R,partLoop ltU a (i+1) (j - 1) (swp (swp d a p) i j)=R->r=(R.1,false,swp R.2 R.1 a))):=by
  intro i j hi hj;rw [<- hr];unfold partition;simp only [hbb,hi,hj];refine ⟨λ q=>by rw [if_pos q],λ q R hR=>?_⟩;rw [if_neg q,hR]
 have BB:bb+1=b:=by omega
 clear h hd hr hbb;go_enter Tryz.func197,Tryz.ntmps197
 obtain ⟨x,hx⟩:∃ x,d[a]! = x:=⟨_,rfl⟩
 obtain ⟨y,hy⟩:∃ y,d[p]! = y:=⟨_,rfl⟩
 have hsz:=W0.out.2.1
 have c0:w.cell? ⟨g,a,none⟩=some (uv x):=by rw [<- hx]; exact W0.out.1.cell (by omega)
 have c1:w.cell? ⟨g,p,none⟩=some (uv y):=by rw [<- hy]; exact W0.out.1.cell (by omega)
 have f0:=W0.out.1.thaw a;have f1:=W0.out.1.thaw p
 have z0:(0:Int)<=(a:Int):=by omega
 have z1:(0:Int)<=(p:Int):=by omega
 have z2:(a:Int)<(n:Int):=by omega
 have z3:(p:Int)<(n:Int):=by omega
 have nt:¬ a=p:=by omega
 have nt2:¬ p=a:=λ e=>nt e.symm
 have HXY:Hid (d[a]! = x/\d[p]! = y):=⟨hx,hy⟩
 clear hx hy hsz;go_wp2_with fail;go_region
 have W1:Hid (SR (((w.setCell ⟨g,a,none⟩ (.int .u64 (y.toNat:Int))).setCell ⟨g,p,none⟩ (.int .u64 (x.toNat:Int))).drew) g (swp d a p)/\(swp d a p).size=n/\Zaa (λ k=>k=g) w (((w.setCell ⟨g,a,none⟩ (.int .u64 (y.toNat:Int))).setCell ⟨g,p,none⟩ (.int .u64 (x.toNat:Int))).drew)) :=
  ⟨W0.out.1.drewSwap HXY.out.1 HXY.out.2,by rw [Zar]; exact W0.out.2.1,turnSwap W0.out.2.2 _ _ _ _⟩
 obtain ⟨w1,hw1⟩:∃ w1,w1=((w.setCell ⟨g,a,none⟩ (.int .u64 (y.toNat:Int))).setCell ⟨g,p,none⟩ (.int .u64 (x.toNat:Int))).drew:=⟨_,rfl⟩
 obtain ⟨E,hE⟩:∃ E,E=swp d a p:=⟨_,rfl⟩
 rw [<- hw1] at W1 ⊢;rw [<- hE] at W1 HP;clear hw1 hE HXY c0 c1 f0 f1 z0 z1 z2 z3 nt nt2 W0
 obtain ⟨I,hI⟩:∃ I,scanUp (λ x=>ltU x E[a]!) E bb (a+1)=I:=⟨_,rfl⟩
 have HI:Hid (scanUp (λ x=>ltU x E[a]!) E bb (a+1)=I):=hI;clear hI;go_wp2_with fail;go_loopg [10] (bb+1) (λ k v wr=>∃ i:Nat,v=.int .i64 i/\bb+1<=i+k/\a+1<=i/\i<=b/\Hid (scanUp (λ x=>ltU x E[a]!) E bb i=I/\SR wr g E/\Zaa (λ k=>k=g) w wr))
 case atStart=>exact ⟨(a+1),by first | rfl | go_num,by omega,by omega,by omega,HI.out,W1.out.1,W1.out.2.2⟩
 case round =>
  obtain ⟨i,rfl,hku,hai,hib,HR⟩:=hrel
  go_upto_region 3 with fail
  go_cut [43] from 30 to 45 (λ tv u=>∃ v f,v=u/\tv=.bool f/\Hid ((decide (i<=bb)&&(λ x=>ltU x E[a]!) E[i]!)=f/\SR v g E/\Zaa (λ k=>k=g) w v))
  case first =>
   by_cases hij:i<=bb
   ·obtain ⟨x,hx⟩:∃ x,E[i]! = x:=⟨_,rfl⟩
    obtain ⟨y,hy⟩:∃ y,E[a]! = y:=⟨_,rfl⟩
    obtain ⟨f0,hf⟩:∃ f0,ltU x y=f0:=⟨_,rfl⟩
    have hs:=W1.out.2.1
    have q0:∀ u:SW (Grew wr),u.w.cell? ⟨g,i,none⟩=some (uv x):=λ u=>by rw [<- hx]; exact (HR.out.2.1.below u.ok).cell (by omega)
    have q1:∀ u:SW (Grew wr),u.w.cell? ⟨g,a,none⟩=some (uv y):=λ u=>by rw [<- hy]; exact (HR.out.2.1.below u.ok).cell (by omega)
    have hL:=λ u=>Zax (wr:=wr) x y f0 hf u
    have NE:Nonempty (SW (Grew wr)):=⟨⟨wr,Below.refl _ wr⟩⟩
    have j1:(i:Int)<=(bb:Int):=by omega
    have j2:decide ((i:Int)<=(bb:Int))=true:=by simpa using j1
    have j3:decide (i<=bb)=true:=by simpa using hij
    have j4:(i:Int)<(n:Int):=by omega
    have j5:(a:Int)<(n:Int):=by omega
    have j6:(0:Int)<=(i:Int):=by omega
    have j7:(0:Int)<=(a:Int):=by omega
    have KE:Hid ((decide (i<=bb)&&(λ x=>ltU x E[a]!) E[i]!)=(f0)):=by
     show _=_;simp only [hx,hy,hf,j3,Bool.true_and]
    clear hx hy hf hs
    cases f0 with
    | true =>
     refine Zab (S:=Grew wr) (by kernel_rfl) (by kernel_rfl) (Below.refl _ wr).drew ?_
     repeat (go_big_quiet_step (with_reducible exact hL _))
     refine wpQuiet_nil ?_;intro _ hw';obtain ⟨u,hw''⟩:=hw';subst hw'';go_wp2_with fail;go_meet;exact ⟨_,_,rfl,rfl,KE.out,HR.out.2.1.below u.ok,HR.out.2.2.trans (Zaa.ofBelow u.ok) (λ _ _ q=>q)⟩
    | false =>
     refine Zab (S:=Grew wr) (by kernel_rfl) (by kernel_rfl) (Below.refl _ wr).drew ?_
     repeat (go_big_quiet_step (with_reducible exact hL _))
     refine wpQuiet_nil ?_;intro _ hw';obtain ⟨u,hw''⟩:=hw';subst hw'';go_wp2_with fail;go_meet;exact ⟨_,_,rfl,rfl,KE.out,HR.out.2.1.below u.ok,HR.out.2.2.trans (Zaa.ofBelow u.ok) (λ _ _ q=>q)⟩
   ·have j1:¬ (i:Int)<=(bb:Int):=by omega
    have j2:decide ((i:Int)<=(bb:Int))=false:=by simpa using j1
    have KE:Hid ((decide (i<=bb)&&(λ x=>ltU x E[a]!) E[i]!)=false):=by
     show _=_;simp [hij]
    go_quiet (fail);go_wp2_with fail;go_meet;have hq:=below_drewN (Below.refl wr.heap.size wr) nq;exact ⟨_,false,rfl,rfl,KE.out,HR.out.2.1.below hq,HR.out.2.2.trans (Zaa.ofBelow (S:=λ _=>False) hq) (λ _ _ q=>q.elim)⟩
  case rest =>
   obtain ⟨v,f,rfl,rfl,HC⟩:=hcut
   cases f with
   | true =>
    have hle:i<=bb:=by
     have:=HC.out.1;simp only [Bool.and_eq_true,decide_eq_true_eq] at this;exact this.1
    have HN:Hid (scanUp (λ x=>ltU x E[a]!) E bb (i+1)=I):=by
     have:=HR.out.1;rw [Zlb (p:=(λ x=>ltU x E[a]!)) HC.out.1] at this;exact this
    clear HR;go_wp2;go_roundg (gk - 1)
    case measure=>omega
    case rel=>exact ⟨i+1,by go_num,by omega,by omega,by omega,HN.out,HC.out.2.1,HC.out.2.2⟩
   | false =>
    have FI:Hid (scanUp (λ x=>ltU x E[a]!) E bb (a+1)=i):=by
     have:=HR.out.1;rw [ZfB (p:=(λ x=>ltU x E[a]!)) HC.out.1] at this;exact HI.out.trans this.symm
    have Wu:Hid (SR v g E/\E.size=n/\Zaa (λ k=>k=g) w v):=⟨HC.out.2.1,W1.out.2.1,HC.out.2.2⟩
    clear HR HC HI
    obtain ⟨J,hJ⟩:∃ J,scanDown (λ x=>!ltU x E[a]!) E i bb=J:=⟨_,rfl⟩
    have HJ:Hid (scanDown (λ x=>!ltU x E[a]!) E i bb=J):=hJ;clear hJ;go_wp2_with fail;go_loopg [11] (bb) (λ k v wr=>∃ j:Nat,v=.int .i64 j/\j<=k/\a<=j/\j<b/\Hid (scanDown (λ x=>!ltU x E[a]!) E i j=J/\SR wr g E/\Zaa (λ k=>k=g) w wr))
    case atStart=>exact ⟨bb,by first | rfl | go_num,by omega,by omega,by omega,HJ.out,Wu.out.1,Wu.out.2.2⟩
    case round =>
     obtain ⟨j,rfl,hkd,hai,hib,HR⟩:=hrel
     go_upto_region 5 with fail
     go_cut [60] from 46 to 62 (λ tv u=>∃ v f,v=u/\tv=.bool f/\Hid ((decide (i<=j)&&(λ x=>!ltU x E[a]!) E[j]!)=f/\SR v g E/\Zaa (λ k=>k=g) w v))
     case first =>
      by_cases hij:i<=j
      ·obtain ⟨x,hx⟩:∃ x,E[j]! = x:=⟨_,rfl⟩
       obtain ⟨y,hy⟩:∃ y,E[a]! = y:=⟨_,rfl⟩
       obtain ⟨f0,hf⟩:∃ f0,ltU x y=f0:=⟨_,rfl⟩
       have hs:=Wu.out.2.1
       have q0:∀ u:SW (Grew wr),u.w.cell? ⟨g,j,none⟩=some (uv x):=λ u=>by rw [<- hx]; exact (HR.out.2.1.below u.ok).cell (by omega)
       have q1:∀ u:SW (Grew wr),u.w.cell? ⟨g,a,none⟩=some (uv y):=λ u=>by rw [<- hy]; exact (HR.out.2.1.below u.ok).cell (by omega)
       have hL:=λ u=>Zax (wr:=wr) x y f0 hf u
       have NE:Nonempty (SW (Grew wr)):=⟨⟨wr,Below.refl _ wr⟩⟩
       have j1:(i:Int)<=(j:Int):=by omega
       have j2:decide ((i:Int)<=(j:Int))=true:=by simpa using j1
       have j3:decide (i<=j)=true:=by simpa using hij
       have j4:(j:Int)<(n:Int):=by omega
       have j5:(a:Int)<(n:Int):=by omega
       have j6:(0:Int)<=(j:Int):=by omega
       have j7:(0:Int)<=(a:Int):=by omega
       have KE:Hid ((decide (i<=j)&&(λ x=>!ltU x E[a]!) E[j]!)=(!f0)):=by
        show _=_;simp only [hx,hy,hf,j3,Bool.true_and]
       clear hx hy hf hs
       cases f0 with
       | true =>
        refine Zab (S:=Grew wr) (by kernel_rfl) (by kernel_rfl) (Below.refl _ wr).drew ?_
        repeat (go_big_quiet_step (with_reducible exact hL _))
        refine wpQuiet_nil ?_;intro _ hw';obtain ⟨u,hw''⟩:=hw';subst hw'';go_wp2_with fail;go_meet;exact ⟨_,_,rfl,rfl,KE.out,HR.out.2.1.below u.ok,HR.out.2.2.trans (Zaa.ofBelow u.ok) (λ _ _ q=>q)⟩
       | false =>
        refine Zab (S:=Grew wr) (by kernel_rfl) (by kernel_rfl) (Below.refl _ wr).drew ?_
        repeat (go_big_quiet_step (with_reducible exact hL _))
        refine wpQuiet_nil ?_;intro _ hw';obtain ⟨u,hw''⟩:=hw';subst hw'';go_wp2_with fail;go_meet;exact ⟨_,_,rfl,rfl,KE.out,HR.out.2.1.below u.ok,HR.out.2.2.trans (Zaa.ofBelow u.ok) (λ _ _ q=>q)⟩
      ·have j1:¬ (i:Int)<=(j:Int):=by omega
       have j2:decide ((i:Int)<=(j:Int))=false:=by simpa using j1
       have KE:Hid ((decide (i<=j)&&(λ x=>!ltU x E[a]!) E[j]!)=false):=by
        show _=_;simp [hij]
       go_quiet (fail);go_wp2_with fail;go_meet;have hq:=below_drewN (Below.refl wr.heap.size wr) nq;exact ⟨_,false,rfl,rfl,KE.out,HR.out.2.1.below hq,HR.out.2.2.trans (Zaa.ofBelow (S:=λ _=>False) hq) (λ _ _ q=>q.elim)⟩
     case rest =>
      obtain ⟨v,f,rfl,rfl,HC⟩:=hcut
      cases f with
      | true =>
       have hle:i<=j:=by
        have:=HC.out.1;simp only [Bool.and_eq_true,decide_eq_true_eq] at this;exact this.1
       have HN:Hid (scanDown (λ x=>!ltU x E[a]!) E i (j - 1)=J):=by
        have:=HR.out.1;rw [ZlQ (p:=(λ x=>!ltU x E[a]!)) (by omega) HC.out.1] at this;exact this
       clear HR
       obtain ⟨ii,hii⟩:∃ ii,j - 1=ii:=⟨_,rfl⟩
       have d1:(j:Int) - 1=(ii:Int):=by omega
       have d2:IntKind.i64.wrap (ii:Int)=(ii:Int):=by rw [IntKind.wrap_i64]; omega
       rw [hii] at HN
       have HI2:Hid (ii+1=j):=by show _=j; omega
       clear hii;go_wp2;go_roundg (gk - 1)
       case measure=>have:=HI2.out; omega
       case rel=>exact ⟨ii,rfl,by have:=HI2.out; omega,by have:=HI2.out; omega,by have:=HI2.out; omega,HN.out,HC.out.2.1,HC.out.2.2⟩
      | false =>
       have FJ:Hid (scanDown (λ x=>!ltU x E[a]!) E i bb=j):=by
        have:=HR.out.1;rw [Zhx (p:=(λ x=>!ltU x E[a]!)) HC.out.1] at this;exact HJ.out.trans this.symm
       have Wd:Hid (SR v g E/\E.size=n/\Zaa (λ k=>k=g) w v):=⟨HC.out.2.1,Wu.out.2.1,HC.out.2.2⟩
       clear HR HC HJ;have hst:=ZdA (p:=λ x=>ltU x E[a]!) (q:=λ x=>!ltU x E[a]!) (λ _=>rfl) (by omega) FI.out FJ.out;have hps:=HP.out i j FI.out FJ.out;by_cases hc:j<i
       ·have ci:(j:Int)<(i:Int):=by omega
        have FIN:Hid (r=(j,true,swp E j a)):=hps.1 hc;clear hst hps FI FJ HP;by_cases hja:j=a
        ·have hja':a=j:=hja.symm;clear hja;subst hja'
         obtain ⟨x,hx⟩:∃ x,E[a]! = x:=⟨_,rfl⟩
         have hsz:=Wd.out.2.1
         have c0:v.cell? ⟨g,a,none⟩=some (uv x):=by rw [<- hx]; exact Wd.out.1.cell (by omega)
         have f0:=Wd.out.1.thaw a
         have z0:(0:Int)<=(a:Int):=by omega
         have z2:(a:Int)<(n:Int):=by omega
         have HXY:Hid (E[a]! = x/\E[a]! = x):=⟨hx,hx⟩
         clear hx hsz;go_wp2_with fail;go_region;go_wp2;refine bodyPost_ret (results_tmp2 rfl _ _ _) rfl ?_;rw [FIN.out];exact ⟨rfl,Wd.out.1.drewSwap HXY.out.1 HXY.out.2,turnSwap Wd.out.2.2 _ _ _ _⟩
        ·obtain ⟨x,hx⟩:∃ x,E[j]! = x:=⟨_,rfl⟩
         obtain ⟨y,hy⟩:∃ y,E[a]! = y:=⟨_,rfl⟩
         have hsz:=Wd.out.2.1
         have c0:v.cell? ⟨g,j,none⟩=some (uv x):=by rw [<- hx]; exact Wd.out.1.cell (by omega)
         have c1:v.cell? ⟨g,a,none⟩=some (uv y):=by rw [<- hy]; exact Wd.out.1.cell (by omega)
         have f0:=Wd.out.1.thaw j;have f1:=Wd.out.1.thaw a
         have z0:(0:Int)<=(j:Int):=by omega
         have z1:(0:Int)<=(a:Int):=by omega
         have z2:(j:Int)<(n:Int):=by omega
         have z3:(a:Int)<(n:Int):=by omega
         have nt:¬ j=a:=hja
         have nt2:¬ a=j:=λ e=>nt e.symm
         have HXY:Hid (E[j]! = x/\E[a]! = y):=⟨hx,hy⟩
         clear hx hy hsz;go_wp2_with fail;go_region;go_wp2;refine bodyPost_ret (results_tmp2 rfl _ _ _) rfl ?_;rw [FIN.out];exact ⟨rfl,Wd.out.1.drewSwap HXY.out.1 HXY.out.2,turnSwap Wd.out.2.2 _ _ _ _⟩
       ·have ci:¬ (j:Int)<(i:Int):=by omega
        obtain ⟨jj,hjj⟩:∃ jj,j - 1=jj:=⟨_,rfl⟩
        have d1:(j:Int) - 1=(jj:Int):=by omega
        have d2:IntKind.i64.wrap (jj:Int)=(jj:Int):=by rw [IntKind.wrap_i64]; omega
        obtain ⟨R0,hR0⟩:∃ R0,partLoop ltU a (i+1) jj (swp E i j)=R0:=⟨_,rfl⟩
        have RF:Hid (∀ R,R=R0->r=(R.1,false,swp R.2 R.1 a)):=by
         intro R hR;rw [hR];exact hps.2 hc _ (by rw [hjj]; exact hR0)
        have HR0:Hid (partLoop ltU a (i+1) jj (swp E i j)=R0):=hR0
        have JJ:Hid (jj+1=j):=by show _=j; omega
        have hne:=hst.2.2;clear hjj hst hps FI FJ HP hR0
        obtain ⟨x,hx⟩:∃ x,E[i]! = x:=⟨_,rfl⟩
        obtain ⟨y,hy⟩:∃ y,E[j]! = y:=⟨_,rfl⟩
        have hsz:=Wd.out.2.1
        have c0:v.cell? ⟨g,i,none⟩=some (uv x):=by rw [<- hx]; exact Wd.out.1.cell (by omega)
        have c1:v.cell? ⟨g,j,none⟩=some (uv y):=by rw [<- hy]; exact Wd.out.1.cell (by omega)
        have f0:=Wd.out.1.thaw i;have f1:=Wd.out.1.thaw j
        have z0:(0:Int)<=(i:Int):=by omega
        have z1:(0:Int)<=(j:Int):=by omega
        have z2:(i:Int)<(n:Int):=by omega
        have z3:(j:Int)<(n:Int):=by omega
        have nt:¬ i=j:=hne
        have nt2:¬ j=i:=λ e=>nt e.symm
        have HXY:Hid (E[i]! = x/\E[j]! = y):=⟨hx,hy⟩
        clear hx hy hsz;go_wp2_with fail;go_region;go_wp2_with fail;go_loopg [10,11] (b) (λ k v9 v10 wr=>∃ i j:Nat,v9=.int .i64 i/\v10=.int .i64 j/\j+1<=i+k/\a+1<=i/\i<=b/\a<=j/\j<b/\Hid (∃ e:Array UInt64,partLoop ltU a i j e=R0/\SR wr g e/\e.size=n/\Zaa (λ k=>k=g) w wr))
        case atStart=>exact ⟨i+1,jj,by go_num,rfl,by have:=JJ.out; omega,by omega,by omega,by have:=JJ.out; omega,by have:=JJ.out; omega,swp E i j,HR0.out,Wd.out.1.drewSwap HXY.out.1 HXY.out.2,by rw [Zar]; exact Wd.out.2.1,turnSwap Wd.out.2.2 _ _ _ _⟩
        case round =>
         clear HXY c0 c1 f0 f1 z0 z1 z2 z3 nt nt2 hne d1 d2 JJ HR0 ci hc;obtain ⟨i0,j0,rfl,rfl,hgk,u1,u2,u3,u4,HE⟩:=hrel;obtain ⟨G,e1,e2,e3,e4⟩:=HE.out
         have V0:Hid (SR wr g G/\G.size=n/\Zaa (λ k=>k=g) w wr):=⟨e2,e3,e4⟩
         have VP:Hid (partLoop ltU a i0 j0 G=R0):=e1
         obtain ⟨go,hgo⟩:∃ go,go=gk:=⟨_,rfl⟩
         have GO:Hid (j0+1<=i0+go/\go=gk):=⟨by omega,hgo⟩
         clear HE e1 e2 e3 e4 hgo
         obtain ⟨I,hI⟩:∃ I,scanUp (λ x=>ltU x G[a]!) G j0 i0=I:=⟨_,rfl⟩
         have HI:Hid (scanUp (λ x=>ltU x G[a]!) G j0 i0=I):=hI;clear hI;go_wp2_with fail;go_loopg [10] (j0+1) (λ k v wr=>∃ i:Nat,v=.int .i64 i/\j0+1<=i+k/\a+1<=i/\i<=b/\Hid (scanUp (λ x=>ltU x G[a]!) G j0 i=I/\SR wr g G/\Zaa (λ k=>k=g) w wr))
         case atStart=>exact ⟨i0,by first | rfl | go_num,by omega,by omega,by omega,HI.out,V0.out.1,V0.out.2.2⟩
         case round =>
          obtain ⟨i,rfl,hku,hai,hib,HR⟩:=hrel
          go_upto_region 13 with fail
          go_cut [112] from 99 to 114 (λ tv u=>∃ v f,v=u/\tv=.bool f/\Hid ((decide (i<=j0)&&(λ x=>ltU x G[a]!) G[i]!)=f/\SR v g G/\Zaa (λ k=>k=g) w v))
          case first =>
           by_cases hij:i<=j0
           ·obtain ⟨x,hx⟩:∃ x,G[i]! = x:=⟨_,rfl⟩
            obtain ⟨y,hy⟩:∃ y,G[a]! = y:=⟨_,rfl⟩
            obtain ⟨f0,hf⟩:∃ f0,ltU x y=f0:=⟨_,rfl⟩
            have hs:=V0.out.2.1
            have q0:∀ u:SW (Grew wr),u.w.cell? ⟨g,i,none⟩=some (uv x):=λ u=>by rw [<- hx]; exact (HR.out.2.1.below u.ok).cell (by omega)
            have q1:∀ u:SW (Grew wr),u.w.cell? ⟨g,a,none⟩=some (uv y):=λ u=>by rw [<- hy]; exact (HR.out.2.1.below u.ok).cell (by omega)
            have hL:=λ u=>Zax (wr:=wr) x y f0 hf u
            have NE:Nonempty (SW (Grew wr)):=⟨⟨wr,Below.refl _ wr⟩⟩
            have j1:(i:Int)<=(j0:Int):=by omega
            have j2:decide ((i:Int)<=(j0:Int))=true:=by simpa using j1
            have j3:decide (i<=j0)=true:=by simpa using hij
            have j4:(i:Int)<(n:Int):=by omega
            have j5:(a:Int)<(n:Int):=by omega
            have j6:(0:Int)<=(i:Int):=by omega
            have j7:(0:Int)<=(a:Int):=by omega
            have KE:Hid ((decide (i<=j0)&&(λ x=>ltU x G[a]!) G[i]!)=(f0)):=by
             show _=_;simp only [hx,hy,hf,j3,Bool.true_and]
            clear hx hy hf hs
            cases f0 with
            | true =>
             refine Zab (S:=Grew wr) (by kernel_rfl) (by kernel_rfl) (Below.refl _ wr).drew ?_
             repeat (go_big_quiet_step (with_reducible exact hL _))
             refine wpQuiet_nil ?_;intro _ hw';obtain ⟨u,hw''⟩:=hw';subst hw'';go_wp2_with fail;go_meet;exact ⟨_,_,rfl,rfl,KE.out,HR.out.2.1.below u.ok,HR.out.2.2.trans (Zaa.ofBelow u.ok) (λ _ _ q=>q)⟩
            | false =>
             refine Zab (S:=Grew wr) (by kernel_rfl) (by kernel_rfl) (Below.refl _ wr).drew ?_
             repeat (go_big_quiet_step (with_reducible exact hL _))
             refine wpQuiet_nil ?_;intro _ hw';obtain ⟨u,hw''⟩:=hw';subst hw'';go_wp2_with fail;go_meet;exact ⟨_,_,rfl,rfl,KE.out,HR.out.2.1.below u.ok,HR.out.2.2.trans (Zaa.ofBelow u.ok) (λ _ _ q=>q)⟩
           ·have j1:¬ (i:Int)<=(j0:Int):=by omega
            have j2:decide ((i:Int)<=(j0:Int))=false:=by simpa using j1
            have KE:Hid ((decide (i<=j0)&&(λ x=>ltU x G[a]!) G[i]!)=false):=by
             show _=_;simp [hij]
            go_quiet (fail);go_wp2_with fail;go_meet;have hq:=below_drewN (Below.refl wr.heap.size wr) nq;exact ⟨_,false,rfl,rfl,KE.out,HR.out.2.1.below hq,HR.out.2.2.trans (Zaa.ofBelow (S:=λ _=>False) hq) (λ _ _ q=>q.elim)⟩
          case rest =>
           obtain ⟨v,f,rfl,rfl,HC⟩:=hcut
           cases f with
           | true =>
            have hle:i<=j0:=by
             have:=HC.out.1;simp only [Bool.and_eq_true,decide_eq_true_eq] at this;exact this.1
            have HN:Hid (scanUp (λ x=>ltU x G[a]!) G j0 (i+1)=I):=by
             have:=HR.out.1;rw [Zlb (p:=(λ x=>ltU x G[a]!)) HC.out.1] at this;exact this
            clear HR;go_wp2;go_roundg (gk - 1)
            case measure=>omega
            case rel=>exact ⟨i+1,by go_num,by omega,by omega,by omega,HN.out,HC.out.2.1,HC.out.2.2⟩
           | false =>
            have FI:Hid (scanUp (λ x=>ltU x G[a]!) G j0 i0=i):=by
             have:=HR.out.1;rw [ZfB (p:=(λ x=>ltU x G[a]!)) HC.out.1] at this;exact HI.out.trans this.symm
            have Wu:Hid (SR v g G/\G.size=n/\Zaa (λ k=>k=g) w v):=⟨HC.out.2.1,V0.out.2.1,HC.out.2.2⟩
            clear HR HC HI
            obtain ⟨J,hJ⟩:∃ J,scanDown (λ x=>!ltU x G[a]!) G i j0=J:=⟨_,rfl⟩
            have HJ:Hid (scanDown (λ x=>!ltU x G[a]!) G i j0=J):=hJ;clear hJ;go_wp2_with fail;go_loopg [11] (j0) (λ k v wr=>∃ j:Nat,v=.int .i64 j/\j<=k/\a<=j/\j<b/\Hid (scanDown (λ x=>!ltU x G[a]!) G i j=J/\SR wr g G/\Zaa (λ k=>k=g) w wr))
            case atStart=>exact ⟨j0,by first | rfl | go_num,by omega,by omega,by omega,HJ.out,Wu.out.1,Wu.out.2.2⟩
            case round =>
             obtain ⟨j,rfl,hkd,hai,hib,HR⟩:=hrel
             go_upto_region 15 with fail
             go_cut [129] from 115 to 131 (λ tv u=>∃ v f,v=u/\tv=.bool f/\Hid ((decide (i<=j)&&(λ x=>!ltU x G[a]!) G[j]!)=f/\SR v g G/\Zaa (λ k=>k=g) w v))
             case first =>
              by_cases hij:i<=j
              ·obtain ⟨x,hx⟩:∃ x,G[j]! = x:=⟨_,rfl⟩
               obtain ⟨y,hy⟩:∃ y,G[a]! = y:=⟨_,rfl⟩
               obtain ⟨f0,hf⟩:∃ f0,ltU x y=f0:=⟨_,rfl⟩
               have hs:=Wu.out.2.1
               have q0:∀ u:SW (Grew wr),u.w.cell? ⟨g,j,none⟩=some (uv x):=λ u=>by rw [<- hx]; exact (HR.out.2.1.below u.ok).cell (by omega)
               have q1:∀ u:SW (Grew wr),u.w.cell? ⟨g,a,none⟩=some (uv y):=λ u=>by rw [<- hy]; exact (HR.out.2.1.below u.ok).cell (by omega)
               have hL:=λ u=>Zax (wr:=wr) x y f0 hf u
               have NE:Nonempty (SW (Grew wr)):=⟨⟨wr,Below.refl _ wr⟩⟩
               have j1:(i:Int)<=(j:Int):=by omega
               have j2:decide ((i:Int)<=(j:Int))=true:=by simpa using j1
               have j3:decide (i<=j)=true:=by simpa using hij
               have j4:(j:Int)<(n:Int):=by omega
               have j5:(a:Int)<(n:Int):=by omega
               have j6:(0:Int)<=(j:Int):=by omega
               have j7:(0:Int)<=(a:Int):=by omega
               have KE:Hid ((decide (i<=j)&&(λ x=>!ltU x G[a]!) G[j]!)=(!f0)):=by
                show _=_;simp only [hx,hy,hf,j3,Bool.true_and]
               clear hx hy hf hs
               cases f0 with
               | true =>
                refine Zab (S:=Grew wr) (by kernel_rfl) (by kernel_rfl) (Below.refl _ wr).drew ?_
                repeat (go_big_quiet_step (with_reducible exact hL _))
                refine wpQuiet_nil ?_;intro _ hw';obtain ⟨u,hw''⟩:=hw';subst hw'';go_wp2_with fail;go_meet;exact ⟨_,_,rfl,rfl,KE.out,HR.out.2.1.below u.ok,HR.out.2.2.trans (Zaa.ofBelow u.ok) (λ _ _ q=>q)⟩
               | false =>
                refine Zab (S:=Grew wr) (by kernel_rfl) (by kernel_rfl) (Below.refl _ wr).drew ?_
                repeat (go_big_quiet_step (with_reducible exact hL _))
                refine wpQuiet_nil ?_;intro _ hw';obtain ⟨u,hw''⟩:=hw';subst hw'';go_wp2_with fail;go_meet;exact ⟨_,_,rfl,rfl,KE.out,HR.out.2.1.below u.ok,HR.out.2.2.trans (Zaa.ofBelow u.ok) (λ _ _ q=>q)⟩
              ·have j1:¬ (i:Int)<=(j:Int):=by omega
               have j2:decide ((i:Int)<=(j:Int))=false:=by simpa using j1
               have KE:Hid ((decide (i<=j)&&(λ x=>!ltU x G[a]!) G[j]!)=false):=by
                show _=_;simp [hij]
               go_quiet (fail);go_wp2_with fail;go_meet;have hq:=below_drewN (Below.refl wr.heap.size wr) nq;exact ⟨_,false,rfl,rfl,KE.out,HR.out.2.1.below hq,HR.out.2.2.trans (Zaa.ofBelow (S:=λ _=>False) hq) (λ _ _ q=>q.elim)⟩
             case rest =>
              obtain ⟨v,f,rfl,rfl,HC⟩:=hcut
              cases f with
              | true =>
               have hle:i<=j:=by
                have:=HC.out.1;simp only [Bool.and_eq_true,decide_eq_true_eq] at this;exact this.1
               have HN:Hid (scanDown (λ x=>!ltU x G[a]!) G i (j - 1)=J):=by
                have:=HR.out.1;rw [ZlQ (p:=(λ x=>!ltU x G[a]!)) (by omega) HC.out.1] at this;exact this
               clear HR
               obtain ⟨ii,hii⟩:∃ ii,j - 1=ii:=⟨_,rfl⟩
               have d1:(j:Int) - 1=(ii:Int):=by omega
               have d2:IntKind.i64.wrap (ii:Int)=(ii:Int):=by rw [IntKind.wrap_i64]; omega
               rw [hii] at HN
               have HI2:Hid (ii+1=j):=by show _=j; omega
               clear hii;go_wp2;go_roundg (gk - 1)
               case measure=>have:=HI2.out; omega
               case rel=>exact ⟨ii,rfl,by have:=HI2.out; omega,by have:=HI2.out; omega,by have:=HI2.out; omega,HN.out,HC.out.2.1,HC.out.2.2⟩
              | false =>
               have FJ:Hid (scanDown (λ x=>!ltU x G[a]!) G i j0=j):=by
                have:=HR.out.1;rw [Zhx (p:=(λ x=>!ltU x G[a]!)) HC.out.1] at this;exact HJ.out.trans this.symm
               have Wd:Hid (SR v g G/\G.size=n/\Zaa (λ k=>k=g) w v):=⟨HC.out.2.1,Wu.out.2.1,HC.out.2.2⟩
               clear HR HC HJ;have hst:=ZdA (p:=λ x=>ltU x G[a]!) (q:=λ x=>!ltU x G[a]!) (λ _=>rfl) (by omega) FI.out FJ.out;by_cases hc:j<i
               ·have ci:(j:Int)<(i:Int):=by omega
                have FIN:Hid (r=(j,false,swp G j a)):=by
                 have q:=VP.out;rw [Zkg FI.out FJ.out hc] at q;exact RF.out _ q
                clear hst FI FJ VP;by_cases hja:j=a
                ·have hja':a=j:=hja.symm;clear hja;subst hja'
                 obtain ⟨x,hx⟩:∃ x,G[a]! = x:=⟨_,rfl⟩
                 have hsz:=Wd.out.2.1
                 have c0:v.cell? ⟨g,a,none⟩=some (uv x):=by rw [<- hx]; exact Wd.out.1.cell (by omega)
                 have f0:=Wd.out.1.thaw a
                 have z0:(0:Int)<=(a:Int):=by omega
                 have z2:(a:Int)<(n:Int):=by omega
                 have HXY:Hid (G[a]! = x/\G[a]! = x):=⟨hx,hx⟩
                 clear hx hsz;go_wp2_with fail;go_region;go_wp2;refine bodyPost_ret (results_tmp2 rfl _ _ _) rfl ?_;rw [FIN.out];exact ⟨rfl,Wd.out.1.drewSwap HXY.out.1 HXY.out.2,turnSwap Wd.out.2.2 _ _ _ _⟩
                ·obtain ⟨x,hx⟩:∃ x,G[j]! = x:=⟨_,rfl⟩
                 obtain ⟨y,hy⟩:∃ y,G[a]! = y:=⟨_,rfl⟩
                 have hsz:=Wd.out.2.1
                 have c0:v.cell? ⟨g,j,none⟩=some (uv x):=by rw [<- hx]; exact Wd.out.1.cell (by omega)
                 have c1:v.cell? ⟨g,a,none⟩=some (uv y):=by rw [<- hy]; exact Wd.out.1.cell (by omega)
                 have f0:=Wd.out.1.thaw j;have f1:=Wd.out.1.thaw a
                 have z0:(0:Int)<=(j:Int):=by omega
                 have z1:(0:Int)<=(a:Int):=by omega
                 have z2:(j:Int)<(n:Int):=by omega
                 have z3:(a:Int)<(n:Int):=by omega
                 have nt:¬ j=a:=hja
                 have nt2:¬ a=j:=λ e=>nt e.symm
                 have HXY:Hid (G[j]! = x/\G[a]! = y):=⟨hx,hy⟩
                 clear hx hy hsz;go_wp2_with fail;go_region;go_wp2;refine bodyPost_ret (results_tmp2 rfl _ _ _) rfl ?_;rw [FIN.out];exact ⟨rfl,Wd.out.1.drewSwap HXY.out.1 HXY.out.2,turnSwap Wd.out.2.2 _ _ _ _⟩
               ·have ci:¬ (j:Int)<(i:Int):=by omega
                obtain ⟨jj,hjj⟩:∃ jj,j - 1=jj:=⟨_,rfl⟩
                have d1:(j:Int) - 1=(jj:Int):=by omega
                have d2:IntKind.i64.wrap (jj:Int)=(jj:Int):=by rw [IntKind.wrap_i64]; omega
                have FIN:Hid (partLoop ltU a (i+1) jj (swp G i j)=R0):=by
                 show _=R0;rw [<- VP.out,<- hjj];exact (ZmD (by omega) FI.out FJ.out hc).symm
                have JJ:Hid (jj+1=j):=by show _=j; omega
                have ORD:Hid (i0<=i/\j<=j0):=⟨hst.1,hst.2.1⟩
                have hne:=hst.2.2;clear hjj hst
                obtain ⟨x,hx⟩:∃ x,G[i]! = x:=⟨_,rfl⟩
                obtain ⟨y,hy⟩:∃ y,G[j]! = y:=⟨_,rfl⟩
                have hsz:=Wd.out.2.1
                have c0:v.cell? ⟨g,i,none⟩=some (uv x):=by rw [<- hx]; exact Wd.out.1.cell (by omega)
                have c1:v.cell? ⟨g,j,none⟩=some (uv y):=by rw [<- hy]; exact Wd.out.1.cell (by omega)
                have f0:=Wd.out.1.thaw i;have f1:=Wd.out.1.thaw j
                have z0:(0:Int)<=(i:Int):=by omega
                have z1:(0:Int)<=(j:Int):=by omega
                have z2:(i:Int)<(n:Int):=by omega
                have z3:(j:Int)<(n:Int):=by omega
                have nt:¬ i=j:=hne
                have nt2:¬ j=i:=λ e=>nt e.symm
                have HXY:Hid (G[i]! = x/\G[j]! = y):=⟨hx,hy⟩
                clear hx hy hsz;go_wp2_with fail;go_region;go_wp2;go_roundg (go - 1)
                case measure=>have:=GO.out; have:=ORD.out; omega
                case rel=>exact ⟨i+1,jj,by go_num,rfl,by have:=GO.out; have:=ORD.out; have:=JJ.out; omega,by omega,by omega,by have:=JJ.out; omega,by have:=JJ.out; omega,swp G i j,FIN.out,Wd.out.1.drewSwap HXY.out.1 HXY.out.2,by rw [Zar]; exact Wd.out.2.1,turnSwap Wd.out.2.2 _ _ _ _⟩
theorem Ziw {w:World} {g n c a b p:Nat} {d:Array UInt64} (h:SR w g d) (hd:d.size=n) (hap:a<p) (hpb:p<b) (hb:b<=n) (hn:n<=1000000000000) (r:Nat×Array UInt64) (hr:partitionEqual ltU d a b p=r) :
  Calls Tryz.prog 196 #[.slice (some ⟨g,0,none⟩) n c,.int .i64 (a:Int),.int .i64 (b:Int),.int .i64 (p:Int)] w λ e w'=>e=.returned (.int .i64 (r.1:Int))/\Hid (SR w' g r.2/\Zaa (λ k=>k=g) w w'):=by
 obtain ⟨bb,hbb⟩:∃ bb,b - 1=bb:=⟨_,rfl⟩
 have b1:(b:Int) - 1=(bb:Int):=by omega
 have bw:IntKind.i64.wrap (bb:Int)=(bb:Int):=by rw [IntKind.wrap_i64]; omega
 have W0:Hid (SR w g d/\d.size=n/\Zaa (λ k=>k=g) w w):=⟨h,hd,Zaa.refl _ _⟩
 have HP:Hid (partEqLoop ltU a (a+1) bb (swp d a p)=r):=by
  show _=r;rw [<- hr,<- hbb]
  rfl
 have BB:bb+1=b:=by omega
 clear h hd hr hbb;go_enter Tryz.func196,Tryz.ntmps196
 obtain ⟨x,hx⟩:∃ x,d[a]! = x:=⟨_,rfl⟩
 obtain ⟨y,hy⟩:∃ y,d[p]! = y:=⟨_,rfl⟩
 have hsz:=W0.out.2.1
 have c0:w.cell? ⟨g,a,none⟩=some (uv x):=by rw [<- hx]; exact W0.out.1.cell (by omega)
 have c1:w.cell? ⟨g,p,none⟩=some (uv y):=by rw [<- hy]; exact W0.out.1.cell (by omega)
 have f0:=W0.out.1.thaw a;have f1:=W0.out.1.thaw p
 have z0:(0:Int)<=(a:Int):=by omega
 have z1:(0:Int)<=(p:Int):=by omega
 have z2:(a:Int)<(n:Int):=by omega
 have z3:(p:Int)<(n:Int):=by omega
 have nt:¬ a=p:=by omega
 have nt2:¬ p=a:=λ e=>nt e.symm
 have HXY:Hid (d[a]! = x/\d[p]! = y):=⟨hx,hy⟩
 clear hx hy hsz;go_wp2_with fail;go_region
 have W1:Hid (SR (((w.setCell ⟨g,a,none⟩ (.int .u64 (y.toNat:Int))).setCell ⟨g,p,none⟩ (.int .u64 (x.toNat:Int))).drew) g (swp d a p)/\(swp d a p).size=n/\Zaa (λ k=>k=g) w (((w.setCell ⟨g,a,none⟩ (.int .u64 (y.toNat:Int))).setCell ⟨g,p,none⟩ (.int .u64 (x.toNat:Int))).drew)) :=
  ⟨W0.out.1.drewSwap HXY.out.1 HXY.out.2,by rw [Zar]; exact W0.out.2.1,turnSwap W0.out.2.2 _ _ _ _⟩
 obtain ⟨w1,hw1⟩:∃ w1,w1=((w.setCell ⟨g,a,none⟩ (.int .u64 (y.toNat:Int))).setCell ⟨g,p,none⟩ (.int .u64 (x.toNat:Int))).drew:=⟨_,rfl⟩
 obtain ⟨d1,hd1⟩:∃ d1,d1=swp d a p:=⟨_,rfl⟩
 rw [<- hw1] at W1 ⊢;rw [<- hd1] at W1 HP;clear hw1 hd1 HXY c0 c1 f0 f1 z0 z1 z2 z3 nt nt2 W0;go_wp2_with fail;go_loopg [9,10] (b) (λ k v9 v10 wr=>∃ i j:Nat,v9=.int .i64 i/\v10=.int .i64 j/\j+1<=i+k/\a+1<=i/\i<=b/\a<=j/\j<b/\Hid (∃ e:Array UInt64,partEqLoop ltU a i j e=r/\SR wr g e/\e.size=n/\Zaa (λ k=>k=g) w wr))
 case atStart=>exact ⟨a+1,bb,by go_num,rfl,by omega,by omega,by omega,by omega,by omega,d1,HP.out,W1.out⟩
 case round =>
  obtain ⟨i0,j0,rfl,rfl,hgk,u1,u2,u3,u4,HE⟩:=hrel;obtain ⟨E,e1,e2,e3,e4⟩:=HE.out
  have V0:Hid (SR wr g E/\E.size=n/\Zaa (λ k=>k=g) w wr):=⟨e2,e3,e4⟩
  have VP:Hid (partEqLoop ltU a i0 j0 E=r):=e1
  obtain ⟨go,hgo⟩:∃ go,go=gk:=⟨_,rfl⟩
  have GO:Hid (j0+1<=i0+go/\go=gk):=⟨by omega,hgo⟩
  clear HE e1 e2 e3 e4 hgo
  obtain ⟨I,hI⟩:∃ I,scanUp (λ x=>!ltU E[a]! x) E j0 i0=I:=⟨_,rfl⟩
  have HI:Hid (scanUp (λ x=>!ltU E[a]! x) E j0 i0=I):=hI;clear hI;go_wp2_with fail;go_loopg [9] (j0+1) (λ k v wr=>∃ i:Nat,v=.int .i64 i/\j0+1<=i+k/\a+1<=i/\i<=b/\Hid (scanUp (λ x=>!ltU E[a]! x) E j0 i=I/\SR wr g E/\Zaa (λ k=>k=g) w wr))
  case atStart=>exact ⟨i0,by first | rfl | go_num,by omega,by omega,by omega,HI.out,V0.out.1,V0.out.2.2⟩
  case round =>
   obtain ⟨i,rfl,hku,hai,hib,HR⟩:=hrel
   go_upto_region 3 with fail
   go_cut [43] from 29 to 45 (λ tv u=>∃ v f,v=u/\tv=.bool f/\Hid ((decide (i<=j0)&&(λ x=>!ltU E[a]! x) E[i]!)=f/\SR v g E/\Zaa (λ k=>k=g) w v))
   case first =>
    by_cases hij:i<=j0
    ·obtain ⟨x,hx⟩:∃ x,E[i]! = x:=⟨_,rfl⟩
     obtain ⟨y,hy⟩:∃ y,E[a]! = y:=⟨_,rfl⟩
     obtain ⟨f0,hf⟩:∃ f0,ltU y x=f0:=⟨_,rfl⟩
     have hs:=V0.out.2.1
     have q0:∀ u:SW (Grew wr),u.w.cell? ⟨g,i,none⟩=some (uv x):=λ u=>by rw [<- hx]; exact (HR.out.2.1.below u.ok).cell (by omega)
     have q1:∀ u:SW (Grew wr),u.w.cell? ⟨g,a,none⟩=some (uv y):=λ u=>by rw [<- hy]; exact (HR.out.2.1.below u.ok).cell (by omega)
     have hL:=λ u=>Zax (wr:=wr) y x f0 hf u
     have NE:Nonempty (SW (Grew wr)):=⟨⟨wr,Below.refl _ wr⟩⟩
     have j1:(i:Int)<=(j0:Int):=by omega
     have j2:decide ((i:Int)<=(j0:Int))=true:=by simpa using j1
     have j3:decide (i<=j0)=true:=by simpa using hij
     have j4:(i:Int)<(n:Int):=by omega
     have j5:(a:Int)<(n:Int):=by omega
     have j6:(0:Int)<=(i:Int):=by omega
     have j7:(0:Int)<=(a:Int):=by omega
     have KE:Hid ((decide (i<=j0)&&(λ x=>!ltU E[a]! x) E[i]!)=(!f0)):=by
      show _=_;simp only [hx,hy,hf,j3,Bool.true_and]
     clear hx hy hf hs
     cases f0 with
     | true =>
      refine Zab (S:=Grew wr) (by kernel_rfl) (by kernel_rfl) (Below.refl _ wr).drew ?_
      repeat (go_big_quiet_step (with_reducible exact hL _))
      refine wpQuiet_nil ?_;intro _ hw';obtain ⟨u,hw''⟩:=hw';subst hw'';go_wp2_with fail;go_meet;exact ⟨_,_,rfl,rfl,KE.out,HR.out.2.1.below u.ok,HR.out.2.2.trans (Zaa.ofBelow u.ok) (λ _ _ q=>q)⟩
     | false =>
      refine Zab (S:=Grew wr) (by kernel_rfl) (by kernel_rfl) (Below.refl _ wr).drew ?_
      repeat (go_big_quiet_step (with_reducible exact hL _))
      refine wpQuiet_nil ?_;intro _ hw';obtain ⟨u,hw''⟩:=hw';subst hw'';go_wp2_with fail;go_meet;exact ⟨_,_,rfl,rfl,KE.out,HR.out.2.1.below u.ok,HR.out.2.2.trans (Zaa.ofBelow u.ok) (λ _ _ q=>q)⟩
    ·have j1:¬ (i:Int)<=(j0:Int):=by omega
     have j2:decide ((i:Int)<=(j0:Int))=false:=by simpa using j1
     have KE:Hid ((decide (i<=j0)&&(λ x=>!ltU E[a]! x) E[i]!)=false):=by
      show _=_;simp [hij]
     go_quiet (fail);go_wp2_with fail;go_meet;have hq:=below_drewN (Below.refl wr.heap.size wr) nq;exact ⟨_,false,rfl,rfl,KE.out,HR.out.2.1.below hq,HR.out.2.2.trans (Zaa.ofBelow (S:=λ _=>False) hq) (λ _ _ q=>q.elim)⟩
   case rest =>
    obtain ⟨v,f,rfl,rfl,HC⟩:=hcut
    cases f with
    | true =>
     have hle:i<=j0:=by
      have:=HC.out.1;simp only [Bool.and_eq_true,decide_eq_true_eq] at this;exact this.1
     have HN:Hid (scanUp (λ x=>!ltU E[a]! x) E j0 (i+1)=I):=by
      have:=HR.out.1;rw [Zlb (p:=(λ x=>!ltU E[a]! x)) HC.out.1] at this;exact this
     clear HR;go_wp2;go_roundg (gk - 1)
     case measure=>omega
     case rel=>exact ⟨i+1,by go_num,by omega,by omega,by omega,HN.out,HC.out.2.1,HC.out.2.2⟩
    | false =>
     have FI:Hid (scanUp (λ x=>!ltU E[a]! x) E j0 i0=i):=by
      have:=HR.out.1;rw [ZfB (p:=(λ x=>!ltU E[a]! x)) HC.out.1] at this;exact HI.out.trans this.symm
     have Wu:Hid (SR v g E/\E.size=n/\Zaa (λ k=>k=g) w v):=⟨HC.out.2.1,V0.out.2.1,HC.out.2.2⟩
     clear HR HC HI
     obtain ⟨J,hJ⟩:∃ J,scanDown (λ x=>ltU E[a]! x) E i j0=J:=⟨_,rfl⟩
     have HJ:Hid (scanDown (λ x=>ltU E[a]! x) E i j0=J):=hJ;clear hJ;go_wp2_with fail;go_loopg [10] (j0) (λ k v wr=>∃ j:Nat,v=.int .i64 j/\j<=k/\a<=j/\j<b/\Hid (scanDown (λ x=>ltU E[a]! x) E i j=J/\SR wr g E/\Zaa (λ k=>k=g) w wr))
     case atStart=>exact ⟨j0,by first | rfl | go_num,by omega,by omega,by omega,HJ.out,Wu.out.1,Wu.out.2.2⟩
     case round =>
      obtain ⟨j,rfl,hkd,hai,hib,HR⟩:=hrel
      go_upto_region 5 with fail
      go_cut [59] from 46 to 61 (λ tv u=>∃ v f,v=u/\tv=.bool f/\Hid ((decide (i<=j)&&(λ x=>ltU E[a]! x) E[j]!)=f/\SR v g E/\Zaa (λ k=>k=g) w v))
      case first =>
       by_cases hij:i<=j
       ·obtain ⟨x,hx⟩:∃ x,E[j]! = x:=⟨_,rfl⟩
        obtain ⟨y,hy⟩:∃ y,E[a]! = y:=⟨_,rfl⟩
        obtain ⟨f0,hf⟩:∃ f0,ltU y x=f0:=⟨_,rfl⟩
        have hs:=Wu.out.2.1
        have q0:∀ u:SW (Grew wr),u.w.cell? ⟨g,j,none⟩=some (uv x):=λ u=>by rw [<- hx]; exact (HR.out.2.1.below u.ok).cell (by omega)
        have q1:∀ u:SW (Grew wr),u.w.cell? ⟨g,a,none⟩=some (uv y):=λ u=>by rw [<- hy]; exact (HR.out.2.1.below u.ok).cell (by omega)
        have hL:=λ u=>Zax (wr:=wr) y x f0 hf u
        have NE:Nonempty (SW (Grew wr)):=⟨⟨wr,Below.refl _ wr⟩⟩
        have j1:(i:Int)<=(j:Int):=by omega
        have j2:decide ((i:Int)<=(j:Int))=true:=by simpa using j1
        have j3:decide (i<=j)=true:=by simpa using hij
        have j4:(j:Int)<(n:Int):=by omega
        have j5:(a:Int)<(n:Int):=by omega
        have j6:(0:Int)<=(j:Int):=by omega
        have j7:(0:Int)<=(a:Int):=by omega
        have KE:Hid ((decide (i<=j)&&(λ x=>ltU E[a]! x) E[j]!)=(f0)):=by
         show _=_;simp only [hx,hy,hf,j3,Bool.true_and]
        clear hx hy hf hs
        cases f0 with
        | true =>
         refine Zab (S:=Grew wr) (by kernel_rfl) (by kernel_rfl) (Below.refl _ wr).drew ?_
         repeat (go_big_quiet_step (with_reducible exact hL _))
         refine wpQuiet_nil ?_;intro _ hw';obtain ⟨u,hw''⟩:=hw';subst hw'';go_wp2_with fail;go_meet;exact ⟨_,_,rfl,rfl,KE.out,HR.out.2.1.below u.ok,HR.out.2.2.trans (Zaa.ofBelow u.ok) (λ _ _ q=>q)⟩
        | false =>
         refine Zab (S:=Grew wr) (by kernel_rfl) (by kernel_rfl) (Below.refl _ wr).drew ?_
         repeat (go_big_quiet_step (with_reducible exact hL _))
         refine wpQuiet_nil ?_;intro _ hw';obtain ⟨u,hw''⟩:=hw';subst hw'';go_wp2_with fail;go_meet;exact ⟨_,_,rfl,rfl,KE.out,HR.out.2.1.below u.ok,HR.out.2.2.trans (Zaa.ofBelow u.ok) (λ _ _ q=>q)⟩
       ·have j1:¬ (i:Int)<=(j:Int):=by omega
        have j2:decide ((i:Int)<=(j:Int))=false:=by simpa using j1
        have KE:Hid ((decide (i<=j)&&(λ x=>ltU E[a]! x) E[j]!)=false):=by
         show _=_;simp [hij]
        go_quiet (fail);go_wp2_with fail;go_meet;have hq:=below_drewN (Below.refl wr.heap.size wr) nq;exact ⟨_,false,rfl,rfl,KE.out,HR.out.2.1.below hq,HR.out.2.2.trans (Zaa.ofBelow (S:=λ _=>False) hq) (λ _ _ q=>q.elim)⟩
      case rest =>
       obtain ⟨v,f,rfl,rfl,HC⟩:=hcut
       cases f with
       | true =>
        have hle:i<=j:=by
         have:=HC.out.1;simp only [Bool.and_eq_true,decide_eq_true_eq] at this;exact this.1
        have HN:Hid (scanDown (λ x=>ltU E[a]! x) E i (j - 1)=J):=by
         have:=HR.out.1;rw [ZlQ (p:=(λ x=>ltU E[a]! x)) (by omega) HC.out.1] at this;exact this
        clear HR
        obtain ⟨ii,hii⟩:∃ ii,j - 1=ii:=⟨_,rfl⟩
        have d1:(j:Int) - 1=(ii:Int):=by omega
        have d2:IntKind.i64.wrap (ii:Int)=(ii:Int):=by rw [IntKind.wrap_i64]; omega
        rw [hii] at HN
        have HI2:Hid (ii+1=j):=by show _=j; omega
        clear hii;go_wp2;go_roundg (gk - 1)
        case measure=>have:=HI2.out; omega
        case rel=>exact ⟨ii,rfl,by have:=HI2.out; omega,by have:=HI2.out; omega,by have:=HI2.out; omega,HN.out,HC.out.2.1,HC.out.2.2⟩
       | false =>
        have FJ:Hid (scanDown (λ x=>ltU E[a]! x) E i j0=j):=by
         have:=HR.out.1;rw [Zhx (p:=(λ x=>ltU E[a]! x)) HC.out.1] at this;exact HJ.out.trans this.symm
        have Wd:Hid (SR v g E/\E.size=n/\Zaa (λ k=>k=g) w v):=⟨HC.out.2.1,Wu.out.2.1,HC.out.2.2⟩
        clear HR HC HJ;have hst:=ZdA (p:=λ x=>!ltU E[a]! x) (q:=λ x=>ltU E[a]! x) (λ _=>by simp) (by omega) FI.out FJ.out;by_cases hc:j<i
        ·have ci:(j:Int)<(i:Int):=by omega
         have FIN:Hid (r=(i,E)):=by
          show r=_;rw [<- VP.out];exact ZgT FI.out FJ.out hc
         go_wp2;go_ret;rw [FIN.out];exact ⟨rfl,Wd.out.1,Wd.out.2.2⟩
        ·have ci:¬ (j:Int)<(i:Int):=by omega
         obtain ⟨jj,hjj⟩:∃ jj,j - 1=jj:=⟨_,rfl⟩
         have d1:(j:Int) - 1=(jj:Int):=by omega
         have d2:IntKind.i64.wrap (jj:Int)=(jj:Int):=by rw [IntKind.wrap_i64]; omega
         have FIN:Hid (partEqLoop ltU a (i+1) jj (swp E i j)=r):=by
          show _=r;rw [<- VP.out,<- hjj];exact (ZjG (by omega) FI.out FJ.out hc).symm
         have JJ:Hid (jj+1=j):=by show _=j; omega
         have ORD:Hid (i0<=i/\j<=j0):=⟨hst.1,hst.2.1⟩
         have hne:=hst.2.2;clear hjj hst
         obtain ⟨x,hx⟩:∃ x,E[i]! = x:=⟨_,rfl⟩
         obtain ⟨y,hy⟩:∃ y,E[j]! = y:=⟨_,rfl⟩
         have hsz:=Wd.out.2.1
         have c0:v.cell? ⟨g,i,none⟩=some (uv x):=by rw [<- hx]; exact Wd.out.1.cell (by omega)
         have c1:v.cell? ⟨g,j,none⟩=some (uv y):=by rw [<- hy]; exact Wd.out.1.cell (by omega)
         have f0:=Wd.out.1.thaw i;have f1:=Wd.out.1.thaw j
         have z0:(0:Int)<=(i:Int):=by omega
         have z1:(0:Int)<=(j:Int):=by omega
         have z2:(i:Int)<(n:Int):=by omega
         have z3:(j:Int)<(n:Int):=by omega
         have nt:¬ i=j:=hne
         have nt2:¬ j=i:=λ e=>nt e.symm
         have HXY:Hid (E[i]! = x/\E[j]! = y):=⟨hx,hy⟩
         clear hx hy hsz;go_wp2_with fail;go_region;go_wp2;go_roundg (go - 1)
         case measure=>have:=GO.out; have:=ORD.out; omega
         case rel=>exact ⟨i+1,jj,by go_num,rfl,by have:=GO.out; have:=ORD.out; have:=JJ.out; omega,by omega,by omega,by have:=JJ.out; omega,by have:=JJ.out; omega,swp E i j,FIN.out,Wd.out.1.drewSwap HXY.out.1 HXY.out.2,by rw [Zar]; exact Wd.out.2.1,turnSwap Wd.out.2.2 _ _ _ _⟩
theorem shid {p:Prop} (h:p):Hid p:=h
theorem ss_go {d:Array UInt64} {b i:Nat} (h:(decide (i<b)&&!ltU d[i]! d[i - 1]!)=true):scanSorted ltU d b i=scanSorted ltU d b (i+1):=by
 rw [scanSorted,if_pos h]
theorem ZnI {d:Array UInt64} {b i:Nat} (h:(decide (i<b)&&!ltU d[i]! d[i - 1]!)=false):scanSorted ltU d b i=i:=by
 rw [scanSorted,if_neg (by rw [h]; decide)]
theorem Zm0 {d:Array UInt64} {t:Nat} (f:Bool) (hf:ltU d[t+1]! d[t]! = f):shiftDown ltU (t+1) d=if f=true then shiftDown ltU t (swp d (t+1) t) else d:=by
 rw [shiftDown,hf]
 cases f <;> rfl
theorem ZmQ {d:Array UInt64} {b j:Nat} (h:j<b) (f:Bool) (hf:ltU d[j]! d[j - 1]! = f):shiftUp ltU b j d=if f=true then shiftUp ltU b (j+1) (swp d j (j - 1)) else d:=by
 rw [shiftUp,if_pos h,hf]
 cases f <;> rfl
theorem Znd {d:Array UInt64} {b j:Nat} (h:¬ j<b):shiftUp ltU b j d=d:=by
 rw [shiftUp,if_neg h]
theorem ZjW {a b s i:Nat} {d:Array UInt64} {R:Array UInt64×Bool} (h:partialIns ltU a b (s+1) i d=R):∀ i2,scanSorted ltU d b i=i2->(i2=b->R=(d,true))/\(¬ i2=b->(b - a<50->R=(d,false))/\(¬ b - a<50->∀ E2 E3,(if i2 - a≥2 then shiftDown ltU (i2 - 1) (swp d i2 (i2 - 1)) else swp d i2 (i2 - 1))=E2->(if b - i2≥2 then shiftUp ltU b (i2+1) E2 else E2)=E3->partialIns ltU a b s i2 E3=R)):=by
 intro i2 hi;rw [<- h,partialIns];simp only [hi];refine ⟨λ q=>by rw [if_pos q],λ q=>⟨λ q2=>by rw [if_neg q,if_pos q2],λ q2 E2 E3 h2 h3=>?_⟩⟩;rw [if_neg q,if_neg q2,h2,h3]
theorem ZkR {w:World} {g n c a b:Nat} {d:Array UInt64} (h:SR w g d) (hd:d.size=n) (hab:a<b) (hb:b<=n) (hn:n<=1000000000000) (R:Array UInt64×Bool) (hr:partialInsertionSort ltU d a b=R) :
  Calls Tryz.prog 194 #[.slice (some ⟨g,0,none⟩) n c,.int .i64 (a:Int),.int .i64 (b:Int)] w λ e w'=>e=.returned (.bool R.2)/\Hid (SR w' g R.1/\Zaa (λ k=>k=g) w w'):=by
 obtain ⟨l,hl⟩:∃ l,b - a=l:=⟨_,rfl⟩
 have b1:(b:Int) - (a:Int)=(l:Int):=by omega
 have bw:IntKind.i64.wrap (l:Int)=(l:Int):=by rw [IntKind.wrap_i64]; omega
 have W0:Hid (SR w g d/\d.size=n/\Zaa (λ k=>k=g) w w/\partialIns ltU a b 5 (a+1) d=R):=⟨h,hd,Zaa.refl _ _,hr⟩
 have HL:Hid (b - a=l):=hl;clear h hd hr hl;go_enter Tryz.func194,Tryz.ntmps194;go_wp2_with fail;go_loopg [8,7] 5 (λ k v8 v7 wr=>∃ t i:Nat,v8=.int .i64 t/\v7=.int .i64 i/\t+k=5/\a+1<=i/\i<=b/\Hid (∃ e:Array UInt64,partialIns ltU a b k i e=R/\SR wr g e/\Zaa (λ k=>k=g) w wr/\e.size=n))
 case atStart=>exact ⟨0,a+1,rfl,by go_num,rfl,by omega,by omega,d,W0.out.2.2.2,W0.out.1,W0.out.2.2.1,W0.out.2.1⟩
 case round =>
  obtain ⟨t0,i0,rfl,rfl,htk,u1,u2,HE⟩:=hrel;obtain ⟨E,e1,V0⟩:∃ E,partialIns ltU a b gk i0 E=R/\Hid (SR wr g E/\Zaa (λ k=>k=g) w wr/\E.size=n):=HE.out;clear HE W0;by_cases ht5:t0<5
  ·obtain ⟨s,hs⟩:∃ s,s+1=gk:=⟨gk - 1,by omega⟩
   rw [<- hs] at e1;have HS:=shid (ZjW e1);rw [HL.out] at HS
   have v5:(t0:Int)<5:=by omega
   have GO:Hid (s+1=gk/\t0+(s+1)=5):=⟨hs,by omega⟩
   clear e1 hs htk
   obtain ⟨I,hI⟩:∃ I,scanSorted ltU E b i0=I:=⟨_,rfl⟩
   have HI:Hid (scanSorted ltU E b i0=I):=hI;clear hI;go_wp2_with fail;go_loopg [7] b (λ k v wr=>∃ i:Nat,v=.int .i64 i/\b<=i+k/\a+1<=i/\i<=b/\Hid (scanSorted ltU E b i=I/\SR wr g E/\Zaa (λ k=>k=g) w wr/\E.size=n))
   case atStart=>exact ⟨i0,rfl,by omega,by omega,by omega,HI.out,V0.out⟩
   case round =>
    obtain ⟨i,rfl,hk,hai,hib,HR⟩:=hrel
    obtain ⟨ii,hii⟩:∃ ii,i - 1=ii:=⟨_,rfl⟩
    have s1:(i:Int) - 1=(ii:Int):=by omega
    have s2:IntKind.i64.wrap (ii:Int)=(ii:Int):=by rw [IntKind.wrap_i64]; omega
    have hI1:ii+1=i:=by omega
    go_upto_region 5 with fail
    go_cut [32] from 17 to 34 (λ tv u=>∃ v f,v=u/\tv=.bool f/\Hid ((decide (i<b)&&!ltU E[i]! E[ii]!)=f/\SR v g E/\Zaa (λ k=>k=g) w v))
    case first =>
     by_cases hij:i<b
     ·obtain ⟨x,hx⟩:∃ x,E[i]! = x:=⟨_,rfl⟩
      obtain ⟨y,hy⟩:∃ y,E[ii]! = y:=⟨_,rfl⟩
      obtain ⟨f0,hf⟩:∃ f0,ltU x y=f0:=⟨_,rfl⟩
      have hs:=HR.out.2.2.2
      have q0:∀ u:SW (Grew wr),u.w.cell? ⟨g,i,none⟩=some (uv x):=λ u=>by rw [<- hx]; exact (HR.out.2.1.below u.ok).cell (by omega)
      have q1:∀ u:SW (Grew wr),u.w.cell? ⟨g,ii,none⟩=some (uv y):=λ u=>by rw [<- hy]; exact (HR.out.2.1.below u.ok).cell (by omega)
      have hL:=λ u=>Zax (wr:=wr) x y f0 hf u
      have NE:Nonempty (SW (Grew wr)):=⟨⟨wr,Below.refl _ wr⟩⟩
      have j4:(i:Int)<(n:Int):=by omega
      have j5:(ii:Int)<(n:Int):=by omega
      have j6:(0:Int)<=(i:Int):=by omega
      have j7:(0:Int)<=(ii:Int):=by omega
      have j1:(i:Int)<(b:Int):=by omega
      have j2:decide ((i:Int)<(b:Int))=true:=by simpa using j1
      have j3:decide (i<b)=true:=by simpa using hij
      have KE:Hid ((decide (i<b)&&!ltU E[i]! E[ii]!)=(!f0)):=by
       show _=_;simp only [hx,hy,hf,j3,Bool.true_and]
      clear hx hy hf hs
      cases f0 with
      | true =>
       refine Zab (S:=Grew wr) (by kernel_rfl) (by kernel_rfl) (Below.refl _ wr).drew ?_
       repeat (go_big_quiet_step (with_reducible exact hL _))
       refine wpQuiet_nil ?_;intro _ hw';obtain ⟨u,hw''⟩:=hw';subst hw'';go_wp2_with fail;go_meet;exact ⟨_,_,rfl,rfl,KE.out,HR.out.2.1.below u.ok,HR.out.2.2.1.trans (Zaa.ofBelow u.ok) (λ _ _ q=>q)⟩
      | false =>
       refine Zab (S:=Grew wr) (by kernel_rfl) (by kernel_rfl) (Below.refl _ wr).drew ?_
       repeat (go_big_quiet_step (with_reducible exact hL _))
       refine wpQuiet_nil ?_;intro _ hw';obtain ⟨u,hw''⟩:=hw';subst hw'';go_wp2_with fail;go_meet;exact ⟨_,_,rfl,rfl,KE.out,HR.out.2.1.below u.ok,HR.out.2.2.1.trans (Zaa.ofBelow u.ok) (λ _ _ q=>q)⟩
     ·have j1:¬ (i:Int)<(b:Int):=by omega
      have j2:decide ((i:Int)<(b:Int))=false:=by simpa using j1
      have KE:Hid ((decide (i<b)&&!ltU E[i]! E[ii]!)=false):=by
       show _=_;simp [hij]
      go_quiet (fail);go_wp2_with fail;go_meet;have hq:=below_drewN (Below.refl wr.heap.size wr) nq;exact ⟨_,false,rfl,rfl,KE.out,HR.out.2.1.below hq,HR.out.2.2.1.trans (Zaa.ofBelow (S:=λ _=>False) hq) (λ _ _ q=>q.elim)⟩
    case rest =>
     obtain ⟨v,f,rfl,rfl,HC⟩:=hcut
     cases f with
     | true =>
      have hle:i<b:=by
       have:=HC.out.1;simp only [Bool.and_eq_true,decide_eq_true_eq] at this;exact this.1
      have HN:Hid (scanSorted ltU E b (i+1)=I):=by
       have:=HR.out.1;rw [ss_go (by rw [hii]; exact HC.out.1)] at this;exact this
      have HZ:Hid (E.size=n):=HR.out.2.2.2;clear HR;go_wp2;go_roundg (gk - 1)
      case measure=>omega
      case rel=>exact ⟨i+1,by go_num,by omega,by omega,by omega,HN.out,HC.out.2.1,HC.out.2.2,HZ.out⟩
     | false =>
      have FI:Hid (scanSorted ltU E b i0=i):=by
       have:=HR.out.1;rw [ZnI (by rw [hii]; exact HC.out.1)] at this;exact HI.out.trans this.symm
      have Wd:Hid (SR v g E/\E.size=n/\Zaa (λ k=>k=g) w v):=⟨HC.out.2.1,HR.out.2.2.2,HC.out.2.2⟩
      clear HR HC HI hk;have hps:=HS.out i FI.out;clear HS FI;by_cases hib2:i=b
      ·have FIN:Hid (R=(E,true)):=hps.1 hib2
       have e1:(i:Int)=(b:Int):=by omega
       clear hps;go_wp2;go_ret;rw [FIN.out];exact ⟨rfl,Wd.out.1,Wd.out.2.2⟩
      ·have e1:¬ (i:Int)=(b:Int):=by omega
       have hps2:=hps.2 hib2;clear hps;by_cases h50:l<50
       ·have FIN:Hid (R=(E,false)):=hps2.1 h50
        have e2:(l:Int)<50:=by omega
        clear hps2;go_wp2;go_ret;rw [FIN.out];exact ⟨rfl,Wd.out.1,Wd.out.2.2⟩
       ·have e2:¬ (l:Int)<50:=by omega
        have hps3:=hps2.2 h50;rw [hii] at hps3
        obtain ⟨E1,hE1⟩:∃ E1,swp E i ii=E1:=⟨_,rfl⟩
        rw [hE1] at hps3
        obtain ⟨E2,hE2⟩:∃ E2,(if i - a≥2 then shiftDown ltU ii E1 else E1)=E2:=⟨_,rfl⟩
        obtain ⟨E3,hE3⟩:∃ E3,(if b - i≥2 then shiftUp ltU b (i+1) E2 else E2)=E3:=⟨_,rfl⟩
        have PR:Hid (partialIns ltU a b s i E3=R):=hps3 E2 E3 hE2 hE3
        have Q1:Hid (swp E i ii=E1/\(if i - a≥2 then shiftDown ltU ii E1 else E1)=E2/\(if b - i≥2 then shiftUp ltU b (i+1) E2 else E2)=E3):=⟨hE1,hE2,hE3⟩
        obtain ⟨m1,hm1⟩:∃ m1,i - a=m1:=⟨_,rfl⟩
        obtain ⟨m2,hm2⟩:∃ m2,b - i=m2:=⟨_,rfl⟩
        have t1:(i:Int) - (a:Int)=(m1:Int):=by omega
        have t2:(b:Int) - (i:Int)=(m2:Int):=by omega
        have t3:IntKind.i64.wrap (m1:Int)=(m1:Int):=by rw [IntKind.wrap_i64]; omega
        have t4:IntKind.i64.wrap (m2:Int)=(m2:Int):=by rw [IntKind.wrap_i64]; omega
        rw [hm1,hm2] at Q1;clear hps2 hps3 hE1 hE2 hE3 hii hm1 hm2
        obtain ⟨x,hx⟩:∃ x,E[i]! = x:=⟨_,rfl⟩
        obtain ⟨y,hy⟩:∃ y,E[ii]! = y:=⟨_,rfl⟩
        have hsz:=Wd.out.2.1
        have c0:v.cell? ⟨g,i,none⟩=some (uv x):=by rw [<- hx]; exact Wd.out.1.cell (by omega)
        have c1:v.cell? ⟨g,ii,none⟩=some (uv y):=by rw [<- hy]; exact Wd.out.1.cell (by omega)
        have f0:=Wd.out.1.thaw i;have f1:=Wd.out.1.thaw ii
        have z0:(0:Int)<=(i:Int):=by omega
        have z1:(0:Int)<=(ii:Int):=by omega
        have z2:(i:Int)<(n:Int):=by omega
        have z3:(ii:Int)<(n:Int):=by omega
        have nt:¬ i=ii:=by omega
        have nt2:¬ ii=i:=λ e=>nt e.symm
        have HXY:Hid (E[i]! = x/\E[ii]! = y):=⟨hx,hy⟩
        clear hx hy hsz;go_wp2_with fail;go_region
        have W1:Hid (SR (((v.setCell ⟨g,i,none⟩ (.int .u64 (y.toNat:Int))).setCell ⟨g,ii,none⟩ (.int .u64 (x.toNat:Int))).drew) g E1/\E1.size=n/\Zaa (λ k=>k=g) w (((v.setCell ⟨g,i,none⟩ (.int .u64 (y.toNat:Int))).setCell ⟨g,ii,none⟩ (.int .u64 (x.toNat:Int))).drew)):=by
         rw [<- Q1.out.1];exact ⟨Wd.out.1.drewSwap HXY.out.1 HXY.out.2,by rw [Zar]; exact Wd.out.2.1,turnSwap Wd.out.2.2 _ _ _ _⟩
        obtain ⟨w1,hw1⟩:∃ w1,w1=((v.setCell ⟨g,i,none⟩ (.int .u64 (y.toNat:Int))).setCell ⟨g,ii,none⟩ (.int .u64 (x.toNat:Int))).drew:=⟨_,rfl⟩
        rw [<- hw1] at W1 ⊢;clear hw1 HXY c0 c1 f0 f1 z0 z1 z2 z3 nt nt2 Wd e1 e2
        obtain ⟨bm,hbm⟩:∃ bm,decide ((2:Int)<=(m1:Int))=bm:=⟨_,rfl⟩
        have HBM:Hid (decide ((2:Int)<=(m1:Int))=bm):=hbm
        go_upto_if 61 with fail
        clear hbm
        go_cut [9] from 13 to 132 (λ jv u=>∃ v,v=u/\Hid (SR v g E2/\E2.size=n/\Zaa (λ k=>k=g) w v))
        case first =>
         have hq2:Hid ((if m1≥2 then shiftDown ltU ii E1 else E1)=E2):=Q1.out.2.1;clear PR Q1 t2 t4
         cases bm with
         | true =>
          have hm:2<=m1:=by have:=of_decide_eq_true HBM.out; omega
          have hq3:Hid (shiftDown ltU ii E1=E2):=by
           have:=hq2.out;rw [if_pos hm] at this;exact this
          clear hq2;go_wp2_with fail;go_loopg [9] ii (λ k v wr=>v=.int .i64 (k:Int)/\k<=ii/\Hid (∃ e:Array UInt64,shiftDown ltU k e=E2/\SR wr g e/\Zaa (λ k=>k=g) w wr/\e.size=n))
          case atStart=>exact ⟨rfl,Nat.le_refl _,E1,hq3.out,W1.out.1,W1.out.2.2,W1.out.2.1⟩
          case round =>
           obtain ⟨rfl,hkl,HE⟩:=hrel;obtain ⟨G,HR⟩:∃ G,Hid (shiftDown ltU gk G=E2/\SR wr g G/\Zaa (λ k=>k=g) w wr/\G.size=n):=HE.out;clear HE hq3 W1;by_cases hz:1<=gk
           ·obtain ⟨t,ht⟩:∃ t,t+1=gk:=⟨gk - 1,by omega⟩
            have j1:(1:Int)<=(gk:Int):=by omega
            have j2:(gk:Int) - 1=(t:Int):=by omega
            have j3:IntKind.i64.wrap (t:Int)=(t:Int):=by rw [IntKind.wrap_i64]; omega
            obtain ⟨x,hx⟩:∃ x,G[gk]! = x:=⟨_,rfl⟩
            obtain ⟨y,hy⟩:∃ y,G[t]! = y:=⟨_,rfl⟩
            obtain ⟨f0,hf⟩:∃ f0,ltU x y=f0:=⟨_,rfl⟩
            have hs:=HR.out.2.2.2
            have q0:∀ u:SW (Grew wr),u.w.cell? ⟨g,gk,none⟩=some (uv x):=λ u=>by rw [<- hx]; exact (HR.out.2.1.below u.ok).cell (by omega)
            have q1:∀ u:SW (Grew wr),u.w.cell? ⟨g,t,none⟩=some (uv y):=λ u=>by rw [<- hy]; exact (HR.out.2.1.below u.ok).cell (by omega)
            have hL:=λ u=>Zax (wr:=wr) x y f0 hf u
            have NE:Nonempty (SW (Grew wr)):=⟨⟨wr,Below.refl _ wr⟩⟩
            have j4:(gk:Int)<(n:Int):=by omega
            have j5:(t:Int)<(n:Int):=by omega
            have j6:(0:Int)<=(gk:Int):=by omega
            have j7:(0:Int)<=(t:Int):=by omega
            have ST:Hid ((if f0=true then shiftDown ltU t (swp G gk t) else G)=E2/\G[gk]! = x/\G[t]! = y/\t+1=gk):=by
             refine ⟨?_,hx,hy,ht⟩;rw [<- HR.out.1,<- ht];exact (Zm0 f0 (by rw [ht,hx,hy]; exact hf)).symm
            clear hx hy hf hs ht
            cases f0 with
            | true =>
             go_upto_region 16 with fail
             refine Zab (S:=Grew wr) (by kernel_rfl) (by kernel_rfl) (Below.refl _ wr).drew ?_
             repeat (go_big_quiet_step (with_reducible exact hL _))
             refine wpQuiet_nil ?_;intro _ hw';obtain ⟨u,hw''⟩:=hw';subst hw''
             obtain ⟨w4,hw4⟩:∃ w4,w4=u.w:=⟨_,rfl⟩
             have Wd:Hid (SR w4 g G/\G.size=n/\Zaa (λ k=>k=g) w w4):=by
              rw [hw4];exact ⟨HR.out.2.1.below u.ok,HR.out.2.2.2,HR.out.2.2.1.trans (Zaa.ofBelow u.ok) (λ _ _ q=>q)⟩
             rw [<- hw4];clear hL q0 q1 NE hw4 u HR
             have c0:w4.cell? ⟨g,gk,none⟩=some (uv x):=by rw [<- ST.out.2.1]; exact Wd.out.1.cell (by have:=Wd.out.2.1; omega)
             have c1:w4.cell? ⟨g,t,none⟩=some (uv y):=by rw [<- ST.out.2.2.1]; exact Wd.out.1.cell (by have:=Wd.out.2.1; omega)
             have f0:=Wd.out.1.thaw gk;have f1:=Wd.out.1.thaw t
             have nt:¬ gk=t:=by have:=ST.out.2.2.2; omega
             have nt2:¬ t=gk:=λ e=>nt e.symm
             go_wp2_with fail;go_region;go_wp2;go_roundg t
             case measure=>have:=ST.out.2.2.2; omega
             case rel=>exact ⟨by go_num,by have:=ST.out.2.2.2; omega,swp G gk t,by have:=ST.out.1; simpa using this,Wd.out.1.drewSwap ST.out.2.1 ST.out.2.2.1,turnSwap Wd.out.2.2 _ _ _ _,by rw [Zar]; exact Wd.out.2.1⟩
            | false =>
             go_upto_region 16 with fail
             refine Zab (S:=Grew wr) (by kernel_rfl) (by kernel_rfl) (Below.refl _ wr).drew ?_
             repeat (go_big_quiet_step (with_reducible exact hL _))
             refine wpQuiet_nil ?_;intro _ hw';obtain ⟨u,hw''⟩:=hw';subst hw'';go_wp2_with fail;go_meet
             have hG:G=E2:=by have:=ST.out.1; simpa using this
             exact ⟨_,rfl,by rw [<- hG]; exact HR.out.2.1.below u.ok,by rw [<- hG]; exact HR.out.2.2.2,HR.out.2.2.1.trans (Zaa.ofBelow u.ok) (λ _ _ q=>q)⟩
           ·have j1:¬ (1:Int)<=(gk:Int):=by omega
            have hG:Hid (G=E2):=by
             have e0:gk=0:=by omega
             have:=HR.out.1;rw [e0] at this;exact this
            go_wp2_with fail;go_meet;exact ⟨_,rfl,by rw [<- hG.out]; exact HR.out.2.1,by rw [<- hG.out]; exact HR.out.2.2.2,HR.out.2.2.1⟩
         | false =>
          have hm:¬ 2<=m1:=by have:=of_decide_eq_false HBM.out; omega
          have hq3:Hid (E1=E2):=by
           have:=hq2.out;rw [if_neg hm] at this;exact this
          clear hq2;go_wp2_with fail;go_meet;exact ⟨_,rfl,by rw [<- hq3.out]; exact W1.out⟩
        case rest =>
         obtain ⟨v,rfl,W2⟩:=hcut;clear W1;have hq2:Hid ((if m2≥2 then shiftUp ltU b (i+1) E2 else E2)=E3):=Q1.out.2.2;clear Q1 t1 t3;by_cases hm:2<=m2
         ·have hmi:(2:Int)<=(m2:Int):=by omega
          have hq3:Hid (shiftUp ltU b (i+1) E2=E3):=by
           have:=hq2.out;rw [if_pos hm] at this;exact this
          clear hq2;go_wp2_with fail;go_loopg [10] b (λ k v wr=>∃ j:Nat,v=.int .i64 (j:Int)/\b<=j+k/\j<=b/\i+1<=j/\Hid (∃ e:Array UInt64,shiftUp ltU b j e=E3/\SR wr g e/\Zaa (λ k=>k=g) w wr/\e.size=n))
          case atStart=>exact ⟨i+1,by go_num,by omega,by omega,Nat.le_refl _,E2,hq3.out,W2.out.1,W2.out.2.2,W2.out.2.1⟩
          case round =>
           obtain ⟨j,rfl,hjk,hjb,hij2,HE⟩:=hrel;obtain ⟨G,HR⟩:∃ G,Hid (shiftUp ltU b j G=E3/\SR wr g G/\Zaa (λ k=>k=g) w wr/\G.size=n):=HE.out;clear HE hq3 W2;by_cases hz:j<b
           ·obtain ⟨t,ht⟩:∃ t,j - 1=t:=⟨_,rfl⟩
            have ht1:t+1=j:=by omega
            have j1:(j:Int)<(b:Int):=by omega
            have j2:(j:Int) - 1=(t:Int):=by omega
            have j3:IntKind.i64.wrap (t:Int)=(t:Int):=by rw [IntKind.wrap_i64]; omega
            obtain ⟨x,hx⟩:∃ x,G[j]! = x:=⟨_,rfl⟩
            obtain ⟨y,hy⟩:∃ y,G[t]! = y:=⟨_,rfl⟩
            obtain ⟨f0,hf⟩:∃ f0,ltU x y=f0:=⟨_,rfl⟩
            have hs:=HR.out.2.2.2
            have q0:∀ u:SW (Grew wr),u.w.cell? ⟨g,j,none⟩=some (uv x):=λ u=>by rw [<- hx]; exact (HR.out.2.1.below u.ok).cell (by omega)
            have q1:∀ u:SW (Grew wr),u.w.cell? ⟨g,t,none⟩=some (uv y):=λ u=>by rw [<- hy]; exact (HR.out.2.1.below u.ok).cell (by omega)
            have hL:=λ u=>Zax (wr:=wr) x y f0 hf u
            have NE:Nonempty (SW (Grew wr)):=⟨⟨wr,Below.refl _ wr⟩⟩
            have j4:(j:Int)<(n:Int):=by omega
            have j5:(t:Int)<(n:Int):=by omega
            have j6:(0:Int)<=(j:Int):=by omega
            have j7:(0:Int)<=(t:Int):=by omega
            have ST:Hid ((if f0=true then shiftUp ltU b (j+1) (swp G j t) else G)=E3/\G[j]! = x/\G[t]! = y/\t+1=j):=by
             refine ⟨?_,hx,hy,ht1⟩;rw [<- HR.out.1,<- ht];exact (ZmQ hz f0 (by rw [ht,hx,hy]; exact hf)).symm
            clear hx hy hf hs ht ht1
            cases f0 with
            | true =>
             go_upto_region 22 with fail
             refine Zab (S:=Grew wr) (by kernel_rfl) (by kernel_rfl) (Below.refl _ wr).drew ?_
             repeat (go_big_quiet_step (with_reducible exact hL _))
             refine wpQuiet_nil ?_;intro _ hw';obtain ⟨u,hw''⟩:=hw';subst hw''
             obtain ⟨w4,hw4⟩:∃ w4,w4=u.w:=⟨_,rfl⟩
             have Wd:Hid (SR w4 g G/\G.size=n/\Zaa (λ k=>k=g) w w4):=by
              rw [hw4];exact ⟨HR.out.2.1.below u.ok,HR.out.2.2.2,HR.out.2.2.1.trans (Zaa.ofBelow u.ok) (λ _ _ q=>q)⟩
             rw [<- hw4];clear hL q0 q1 NE hw4 u HR
             have c0:w4.cell? ⟨g,j,none⟩=some (uv x):=by rw [<- ST.out.2.1]; exact Wd.out.1.cell (by have:=Wd.out.2.1; omega)
             have c1:w4.cell? ⟨g,t,none⟩=some (uv y):=by rw [<- ST.out.2.2.1]; exact Wd.out.1.cell (by have:=Wd.out.2.1; omega)
             have f0:=Wd.out.1.thaw j;have f1:=Wd.out.1.thaw t
             have nt:¬ j=t:=by have:=ST.out.2.2.2; omega
             have nt2:¬ t=j:=λ e=>nt e.symm
             go_wp2_with fail;go_region;go_wp2;go_roundg (gk - 1)
             case measure=>omega
             case rel=>exact ⟨j+1,by go_num,by omega,by omega,by omega,swp G j t,by have:=ST.out.1; simpa using this,Wd.out.1.drewSwap ST.out.2.1 ST.out.2.2.1,turnSwap Wd.out.2.2 _ _ _ _,by rw [Zar]; exact Wd.out.2.1⟩
            | false =>
             go_upto_region 22 with fail
             refine Zab (S:=Grew wr) (by kernel_rfl) (by kernel_rfl) (Below.refl _ wr).drew ?_
             repeat (go_big_quiet_step (with_reducible exact hL _))
             refine wpQuiet_nil ?_;intro _ hw';obtain ⟨u,hw''⟩:=hw';subst hw''
             have hG:G=E3:=by have:=ST.out.1; simpa using this
             have W3:Hid (SR u.w g E3/\E3.size=n/\Zaa (λ k=>k=g) w u.w):=⟨by rw [<- hG]; exact HR.out.2.1.below u.ok,by rw [<- hG]; exact HR.out.2.2.2,HR.out.2.2.1.trans (Zaa.ofBelow u.ok) (λ _ _ q=>q)⟩
             clear hG;go_wp2;go_roundg s
             case measure=>have:=GO.out; omega
             case rel=>exact ⟨t0+1,i,by go_num,rfl,by have:=GO.out; omega,by omega,by omega,E3,PR.out,W3.out.1,W3.out.2.2,W3.out.2.1⟩
           ·have j1:¬ (j:Int)<(b:Int):=by omega
            have hG:Hid (G=E3):=by
             have:=HR.out.1;rw [Znd hz] at this;exact this
            have W3:Hid (SR wr g E3/\E3.size=n/\Zaa (λ k=>k=g) w wr):=⟨by rw [<- hG.out]; exact HR.out.2.1,by rw [<- hG.out]; exact HR.out.2.2.2,HR.out.2.2.1⟩
            go_wp2;go_roundg s
            case measure=>have:=GO.out; omega
            case rel=>exact ⟨t0+1,i,by go_num,rfl,by have:=GO.out; omega,by omega,by omega,E3,PR.out,W3.out.1,W3.out.2.2,W3.out.2.1⟩
         ·have hmi:¬ (2:Int)<=(m2:Int):=by omega
          have hq3:Hid (E2=E3):=by
           have:=hq2.out;rw [if_neg hm] at this;exact this
          clear hq2
          have W3:Hid (SR v g E3/\E3.size=n/\Zaa (λ k=>k=g) w v):=⟨(by rw [<- hq3.out]; exact W2.out.1),(by rw [<- hq3.out]; exact W2.out.2.1),W2.out.2.2⟩
          go_wp2;go_roundg s
          case measure=>have:=GO.out; omega
          case rel=>exact ⟨t0+1,i,by go_num,rfl,by have:=GO.out; omega,by omega,by omega,E3,PR.out,W3.out.1,W3.out.2.2,W3.out.2.1⟩
  ·have v5:¬ (t0:Int)<5:=by omega
   have FIN:Hid (R=(E,false)):=by
    have e0:gk=0:=by omega
    rw [e0] at e1;exact e1.symm
   clear e1;go_wp2;go_ret;rw [FIN.out];exact ⟨rfl,V0.out.1,V0.out.2.1⟩
end Go.Proofs.YtmhcpbbiokpjjaaGreat
