/-
  Several texts, laid together.
-/
import Derived.Test.YtjlokpjflgbgdaaGreatMC05
import Derived.Sort.Walk7
import Derived.Test.YtjlokpjflgbgdaaGreatMC34
import Derived.Sort.Walk13a
import Derived.Sort.AssemblyPlain
set_option maxHeartbeats 6400000
set_option maxRecDepth 100000
namespace Go.Proofs.YtjlokpjflgbgdaaGreat
open Go.RowKit Go.Sort
theorem partEq_any {w:World} {g n c a b p:Nat} {d:Array UInt64} (h:SR w g d) (hd:d.size=n) (hap:a<p) (hpb:p<b) (hb:b<=n) (hn:n<=1000000000000) (r:Nat×Array UInt64) (hr:partitionEqual ltU d a b p=r) :
  Calls Tryz.prog 211 #[.slice (some ⟨g,0,none⟩) n c,.int .i64 (a:Int),.int .i64 (b:Int),.int .i64 (p:Int)] w λ e w'=>e=.returned (.int .i64 (r.1:Int))/\Hid (SR w' g r.2/\Turned (λ k=>k=g) w w'):=by
 obtain ⟨bb,hbb⟩:∃ bb,b - 1=bb:=⟨_,rfl⟩
 have b1:(b:Int) - 1=(bb:Int):=by omega
 have bw:IntKind.i64.wrap (bb:Int)=(bb:Int):=by rw [IntKind.wrap_i64]; omega
 have W0:Hid (SR w g d/\d.size=n/\Turned (λ k=>k=g) w w):=⟨h,hd,Turned.refl _ _⟩
 have HP:Hid (partEqLoop ltU a (a+1) bb (swp d a p)=r):=by
  show _=r;rw [<- hr,<- hbb]
  rfl
 have BB:bb+1=b:=by omega
 clear h hd hr hbb;go_enter Tryz.func211,Tryz.ntmps211
 obtain ⟨x,hx⟩:∃ x,d[a]! = x:=⟨_,rfl⟩
 obtain ⟨y,hy⟩:∃ y,d[p]! = y:=⟨_,rfl⟩
 have hsz:=W0.out.2.1
 have c0:w.cell? ⟨g,a,none⟩=some (uv x):=by rw [<- hx]; exact W0.out.1.cell (by omega)
 have c1:w.cell? ⟨g,p,none⟩=some (uv y):=by rw [<- hy]; exact W0.out.1.cell (by omega)
 have f0:=W0.out.1.thaw a;have f1:=W0.out.1.thaw p
 have z0:(0:Int)<=(a:Int):=by omega
 have z1:(0:Int)<=(p:Int):=by omega
 have z2:(a:Int)<(n:Int):=by omega
 have z3:(p:Int)<(n:Int):=by omega
 have nt:¬ a=p:=by omega
 have nt2:¬ p=a:=λ e=>nt e.symm
 have HXY:Hid (d[a]! = x/\d[p]! = y):=⟨hx,hy⟩
 clear hx hy hsz;go_wp2_with fail;go_region
 have W1:Hid (SR (((w.setCell ⟨g,a,none⟩ (.int .u64 (y.toNat:Int))).setCell ⟨g,p,none⟩ (.int .u64 (x.toNat:Int))).drew) g (swp d a p)/\(swp d a p).size=n/\Turned (λ k=>k=g) w (((w.setCell ⟨g,a,none⟩ (.int .u64 (y.toNat:Int))).setCell ⟨g,p,none⟩ (.int .u64 (x.toNat:Int))).drew)) :=
  ⟨W0.out.1.drewSwap HXY.out.1 HXY.out.2,by rw [swp_size]; exact W0.out.2.1,turnSwap W0.out.2.2 _ _ _ _⟩
 obtain ⟨w1,hw1⟩:∃ w1,w1=((w.setCell ⟨g,a,none⟩ (.int .u64 (y.toNat:Int))).setCell ⟨g,p,none⟩ (.int .u64 (x.toNat:Int))).drew:=⟨_,rfl⟩
 obtain ⟨d1,hd1⟩:∃ d1,d1=swp d a p:=⟨_,rfl⟩
 rw [<- hw1] at W1 ⊢;rw [<- hd1] at W1 HP;clear hw1 hd1 HXY c0 c1 f0 f1 z0 z1 z2 z3 nt nt2 W0;go_wp2_with fail;go_loopg [9,10] (b) (λ k v9 v10 wr=>∃ i j:Nat,v9=.int .i64 i/\v10=.int .i64 j/\j+1<=i+k/\a+1<=i/\i<=b/\a<=j/\j<b/\Hid (∃ e:Array UInt64,partEqLoop ltU a i j e=r/\SR wr g e/\e.size=n/\Turned (λ k=>k=g) w wr))
 case atStart=>exact ⟨a+1,bb,by go_num,rfl,by omega,by omega,by omega,by omega,by omega,d1,HP.out,W1.out⟩
 case round =>
  obtain ⟨i0,j0,rfl,rfl,hgk,u1,u2,u3,u4,HE⟩:=hrel;obtain ⟨E,e1,e2,e3,e4⟩:=HE.out
  have V0:Hid (SR wr g E/\E.size=n/\Turned (λ k=>k=g) w wr):=⟨e2,e3,e4⟩
  have VP:Hid (partEqLoop ltU a i0 j0 E=r):=e1
  obtain ⟨go,hgo⟩:∃ go,go=gk:=⟨_,rfl⟩
  have GO:Hid (j0+1<=i0+go/\go=gk):=⟨by omega,hgo⟩
  clear HE e1 e2 e3 e4 hgo
  obtain ⟨I,hI⟩:∃ I,scanUp (λ x=>!ltU E[a]! x) E j0 i0=I:=⟨_,rfl⟩
  have HI:Hid (scanUp (λ x=>!ltU E[a]! x) E j0 i0=I):=hI;clear hI;go_wp2_with fail;go_loopg [9] (j0+1) (λ k v wr=>∃ i:Nat,v=.int .i64 i/\j0+1<=i+k/\a+1<=i/\i<=b/\Hid (scanUp (λ x=>!ltU E[a]! x) E j0 i=I/\SR wr g E/\Turned (λ k=>k=g) w wr))
  case atStart=>exact ⟨i0,by first | rfl | go_num,by omega,by omega,by omega,HI.out,V0.out.1,V0.out.2.2⟩
  case round =>
   obtain ⟨i,rfl,hku,hai,hib,HR⟩:=hrel
   go_upto_region 3 with fail
   go_cut [43] from 29 to 45 (λ tv u=>∃ v f,v=u/\tv=.bool f/\Hid ((decide (i<=j0)&&(λ x=>!ltU E[a]! x) E[i]!)=f/\SR v g E/\Turned (λ k=>k=g) w v))
   case first =>
    by_cases hij:i<=j0
    ·obtain ⟨x,hx⟩:∃ x,E[i]! = x:=⟨_,rfl⟩
     obtain ⟨y,hy⟩:∃ y,E[a]! = y:=⟨_,rfl⟩
     obtain ⟨f0,hf⟩:∃ f0,ltU y x=f0:=⟨_,rfl⟩
     have hs:=V0.out.2.1
     have q0:∀ u:SW (Grew wr),u.w.cell? ⟨g,i,none⟩=some (uv x):=λ u=>by rw [<- hx]; exact (HR.out.2.1.below u.ok).cell (by omega)
     have q1:∀ u:SW (Grew wr),u.w.cell? ⟨g,a,none⟩=some (uv y):=λ u=>by rw [<- hy]; exact (HR.out.2.1.below u.ok).cell (by omega)
     have hL:=λ u=>less_cls (wr:=wr) y x f0 hf u
     have NE:Nonempty (SW (Grew wr)):=⟨⟨wr,Below.refl _ wr⟩⟩
     have j1:(i:Int)<=(j0:Int):=by omega
     have j2:decide ((i:Int)<=(j0:Int))=true:=by simpa using j1
     have j3:decide (i<=j0)=true:=by simpa using hij
     have j4:(i:Int)<(n:Int):=by omega
     have j5:(a:Int)<(n:Int):=by omega
     have j6:(0:Int)<=(i:Int):=by omega
     have j7:(0:Int)<=(a:Int):=by omega
     have KE:Hid ((decide (i<=j0)&&(λ x=>!ltU E[a]! x) E[i]!)=(!f0)):=by
      show _=_;simp only [hx,hy,hf,j3,Bool.true_and]
     clear hx hy hf hs
     cases f0 with
     | true =>
      refine wp_region_class (S:=Grew wr) (by kernel_rfl) (by kernel_rfl) (Below.refl _ wr).drew ?_
      repeat (go_big_quiet_step (with_reducible exact hL _))
      refine wpQuiet_nil ?_;intro _ hw';obtain ⟨u,hw''⟩:=hw';subst hw'';go_wp2_with fail;go_meet;exact ⟨_,_,rfl,rfl,KE.out,HR.out.2.1.below u.ok,HR.out.2.2.trans (Turned.ofBelow u.ok) (λ _ _ q=>q)⟩
     | false =>
      refine wp_region_class (S:=Grew wr) (by kernel_rfl) (by kernel_rfl) (Below.refl _ wr).drew ?_
      repeat (go_big_quiet_step (with_reducible exact hL _))
      refine wpQuiet_nil ?_;intro _ hw';obtain ⟨u,hw''⟩:=hw';subst hw'';go_wp2_with fail;go_meet;exact ⟨_,_,rfl,rfl,KE.out,HR.out.2.1.below u.ok,HR.out.2.2.trans (Turned.ofBelow u.ok) (λ _ _ q=>q)⟩
    ·have j1:¬ (i:Int)<=(j0:Int):=by omega
     have j2:decide ((i:Int)<=(j0:Int))=false:=by simpa using j1
     have KE:Hid ((decide (i<=j0)&&(λ x=>!ltU E[a]! x) E[i]!)=false):=by
      show _=_;simp [hij]
     go_quiet (fail);go_wp2_with fail;go_meet;have hq:=below_drewN (Below.refl wr.heap.size wr) nq;exact ⟨_,false,rfl,rfl,KE.out,HR.out.2.1.below hq,HR.out.2.2.trans (Turned.ofBelow (S:=λ _=>False) hq) (λ _ _ q=>q.elim)⟩
   case rest =>
    obtain ⟨v,f,rfl,rfl,HC⟩:=hcut
    cases f with
    | true =>
     have hle:i<=j0:=by
      have:=HC.out.1;simp only [Bool.and_eq_true,decide_eq_true_eq] at this;exact this.1
     have HN:Hid (scanUp (λ x=>!ltU E[a]! x) E j0 (i+1)=I):=by
      have:=HR.out.1;rw [up_go (p:=(λ x=>!ltU E[a]! x)) HC.out.1] at this;exact this
     clear HR;go_wp2;go_roundg (gk - 1)
     case measure=>omega
     case rel=>exact ⟨i+1,by go_num,by omega,by omega,by omega,HN.out,HC.out.2.1,HC.out.2.2⟩
    | false =>
     have FI:Hid (scanUp (λ x=>!ltU E[a]! x) E j0 i0=i):=by
      have:=HR.out.1;rw [up_end (p:=(λ x=>!ltU E[a]! x)) HC.out.1] at this;exact HI.out.trans this.symm
     have Wu:Hid (SR v g E/\E.size=n/\Turned (λ k=>k=g) w v):=⟨HC.out.2.1,V0.out.2.1,HC.out.2.2⟩
     clear HR HC HI
     obtain ⟨J,hJ⟩:∃ J,scanDown (λ x=>ltU E[a]! x) E i j0=J:=⟨_,rfl⟩
     have HJ:Hid (scanDown (λ x=>ltU E[a]! x) E i j0=J):=hJ;clear hJ;go_wp2_with fail;go_loopg [10] (j0) (λ k v wr=>∃ j:Nat,v=.int .i64 j/\j<=k/\a<=j/\j<b/\Hid (scanDown (λ x=>ltU E[a]! x) E i j=J/\SR wr g E/\Turned (λ k=>k=g) w wr))
     case atStart=>exact ⟨j0,by first | rfl | go_num,by omega,by omega,by omega,HJ.out,Wu.out.1,Wu.out.2.2⟩
     case round =>
      obtain ⟨j,rfl,hkd,hai,hib,HR⟩:=hrel
      go_upto_region 5 with fail
      go_cut [59] from 46 to 61 (λ tv u=>∃ v f,v=u/\tv=.bool f/\Hid ((decide (i<=j)&&(λ x=>ltU E[a]! x) E[j]!)=f/\SR v g E/\Turned (λ k=>k=g) w v))
      case first =>
       by_cases hij:i<=j
       ·obtain ⟨x,hx⟩:∃ x,E[j]! = x:=⟨_,rfl⟩
        obtain ⟨y,hy⟩:∃ y,E[a]! = y:=⟨_,rfl⟩
        obtain ⟨f0,hf⟩:∃ f0,ltU y x=f0:=⟨_,rfl⟩
        have hs:=Wu.out.2.1
        have q0:∀ u:SW (Grew wr),u.w.cell? ⟨g,j,none⟩=some (uv x):=λ u=>by rw [<- hx]; exact (HR.out.2.1.below u.ok).cell (by omega)
        have q1:∀ u:SW (Grew wr),u.w.cell? ⟨g,a,none⟩=some (uv y):=λ u=>by rw [<- hy]; exact (HR.out.2.1.below u.ok).cell (by omega)
        have hL:=λ u=>less_cls (wr:=wr) y x f0 hf u
        have NE:Nonempty (SW (Grew wr)):=⟨⟨wr,Below.refl _ wr⟩⟩
        have j1:(i:Int)<=(j:Int):=by omega
        have j2:decide ((i:Int)<=(j:Int))=true:=by simpa using j1
        have j3:decide (i<=j)=true:=by simpa using hij
        have j4:(j:Int)<(n:Int):=by omega
        have j5:(a:Int)<(n:Int):=by omega
        have j6:(0:Int)<=(j:Int):=by omega
        have j7:(0:Int)<=(a:Int):=by omega
        have KE:Hid ((decide (i<=j)&&(λ x=>ltU E[a]! x) E[j]!)=(f0)):=by
         show _=_;simp only [hx,hy,hf,j3,Bool.true_and]
        clear hx hy hf hs
        cases f0 with
        | true =>
         refine wp_region_class (S:=Grew wr) (by kernel_rfl) (by kernel_rfl) (Below.refl _ wr).drew ?_
         repeat (go_big_quiet_step (with_reducible exact hL _))
         refine wpQuiet_nil ?_;intro _ hw';obtain ⟨u,hw''⟩:=hw';subst hw'';go_wp2_with fail;go_meet;exact ⟨_,_,rfl,rfl,KE.out,HR.out.2.1.below u.ok,HR.out.2.2.trans (Turned.ofBelow u.ok) (λ _ _ q=>q)⟩
        | false =>
         refine wp_region_class (S:=Grew wr) (by kernel_rfl) (by kernel_rfl) (Below.refl _ wr).drew ?_
         repeat (go_big_quiet_step (with_reducible exact hL _))
         refine wpQuiet_nil ?_;intro _ hw';obtain ⟨u,hw''⟩:=hw';subst hw'';go_wp2_with fail;go_meet;exact ⟨_,_,rfl,rfl,KE.out,HR.out.2.1.below u.ok,HR.out.2.2.trans (Turned.ofBelow u.ok) (λ _ _ q=>q)⟩
       ·have j1:¬ (i:Int)<=(j:Int):=by omega
        have j2:decide ((i:Int)<=(j:Int))=false:=by simpa using j1
        have KE:Hid ((decide (i<=j)&&(λ x=>ltU E[a]! x) E[j]!)=false):=by
         show _=_;simp [hij]
        go_quiet (fail);go_wp2_with fail;go_meet;have hq:=below_drewN (Below.refl wr.heap.size wr) nq;exact ⟨_,false,rfl,rfl,KE.out,HR.out.2.1.below hq,HR.out.2.2.trans (Turned.ofBelow (S:=λ _=>False) hq) (λ _ _ q=>q.elim)⟩
      case rest =>
       obtain ⟨v,f,rfl,rfl,HC⟩:=hcut
       cases f with
       | true =>
        have hle:i<=j:=by
         have:=HC.out.1;simp only [Bool.and_eq_true,decide_eq_true_eq] at this;exact this.1
        have HN:Hid (scanDown (λ x=>ltU E[a]! x) E i (j - 1)=J):=by
         have:=HR.out.1;rw [dn_go (p:=(λ x=>ltU E[a]! x)) (by omega) HC.out.1] at this;exact this
        clear HR
        obtain ⟨ii,hii⟩:∃ ii,j - 1=ii:=⟨_,rfl⟩
        have d1:(j:Int) - 1=(ii:Int):=by omega
        have d2:IntKind.i64.wrap (ii:Int)=(ii:Int):=by rw [IntKind.wrap_i64]; omega
        rw [hii] at HN
        have HI2:Hid (ii+1=j):=by show _=j; omega
        clear hii;go_wp2;go_roundg (gk - 1)
        case measure=>have:=HI2.out; omega
        case rel=>exact ⟨ii,rfl,by have:=HI2.out; omega,by have:=HI2.out; omega,by have:=HI2.out; omega,HN.out,HC.out.2.1,HC.out.2.2⟩
       | false =>
        have FJ:Hid (scanDown (λ x=>ltU E[a]! x) E i j0=j):=by
         have:=HR.out.1;rw [dn_end (p:=(λ x=>ltU E[a]! x)) HC.out.1] at this;exact HJ.out.trans this.symm
        have Wd:Hid (SR v g E/\E.size=n/\Turned (λ k=>k=g) w v):=⟨HC.out.2.1,Wu.out.2.1,HC.out.2.2⟩
        clear HR HC HJ;have hst:=scan_ne (p:=λ x=>!ltU E[a]! x) (q:=λ x=>ltU E[a]! x) (λ _=>by simp) (by omega) FI.out FJ.out;by_cases hc:j<i
        ·have ci:(j:Int)<(i:Int):=by omega
         have FIN:Hid (r=(i,E)):=by
          show r=_;rw [<- VP.out];exact parteq_stop FI.out FJ.out hc
         go_wp2;go_ret;rw [FIN.out];exact ⟨rfl,Wd.out.1,Wd.out.2.2⟩
        ·have ci:¬ (j:Int)<(i:Int):=by omega
         obtain ⟨jj,hjj⟩:∃ jj,j - 1=jj:=⟨_,rfl⟩
         have d1:(j:Int) - 1=(jj:Int):=by omega
         have d2:IntKind.i64.wrap (jj:Int)=(jj:Int):=by rw [IntKind.wrap_i64]; omega
         have FIN:Hid (partEqLoop ltU a (i+1) jj (swp E i j)=r):=by
          show _=r;rw [<- VP.out,<- hjj];exact (parteq_go (by omega) FI.out FJ.out hc).symm
         have JJ:Hid (jj+1=j):=by show _=j; omega
         have ORD:Hid (i0<=i/\j<=j0):=⟨hst.1,hst.2.1⟩
         have hne:=hst.2.2;clear hjj hst
         obtain ⟨x,hx⟩:∃ x,E[i]! = x:=⟨_,rfl⟩
         obtain ⟨y,hy⟩:∃ y,E[j]! = y:=⟨_,rfl⟩
         have hsz:=Wd.out.2.1
         have c0:v.cell? ⟨g,i,none⟩=some (uv x):=by rw [<- hx]; exact Wd.out.1.cell (by omega)
         have c1:v.cell? ⟨g,j,none⟩=some (uv y):=by rw [<- hy]; exact Wd.out.1.cell (by omega)
         have f0:=Wd.out.1.thaw i;have f1:=Wd.out.1.thaw j
         have z0:(0:Int)<=(i:Int):=by omega
         have z1:(0:Int)<=(j:Int):=by omega
         have z2:(i:Int)<(n:Int):=by omega
         have z3:(j:Int)<(n:Int):=by omega
         have nt:¬ i=j:=hne
         have nt2:¬ j=i:=λ e=>nt e.symm
         have HXY:Hid (E[i]! = x/\E[j]! = y):=⟨hx,hy⟩
         clear hx hy hsz;go_wp2_with fail;go_region;go_wp2;go_roundg (go - 1)
         case measure=>have:=GO.out; have:=ORD.out; omega
         case rel=>exact ⟨i+1,jj,by go_num,rfl,by have:=GO.out; have:=ORD.out; have:=JJ.out; omega,by omega,by omega,by have:=JJ.out; omega,by have:=JJ.out; omega,swp E i j,FIN.out,Wd.out.1.drewSwap HXY.out.1 HXY.out.2,by rw [swp_size]; exact Wd.out.2.1,turnSwap Wd.out.2.2 _ _ _ _⟩
end Go.Proofs.YtjlokpjflgbgdaaGreat

namespace Go.Proofs.YtjlokpjflgbgdaaGreat
open Go.RowKit Go.Sort
theorem shid {p:Prop} (h:p):Hid p:=h
theorem ss_go {d:Array UInt64} {b i:Nat} (h:(decide (i<b)&&!ltU d[i]! d[i - 1]!)=true):scanSorted ltU d b i=scanSorted ltU d b (i+1):=by
 rw [scanSorted,if_pos h]
theorem ss_end {d:Array UInt64} {b i:Nat} (h:(decide (i<b)&&!ltU d[i]! d[i - 1]!)=false):scanSorted ltU d b i=i:=by
 rw [scanSorted,if_neg (by rw [h]; decide)]
theorem sd_step {d:Array UInt64} {t:Nat} (f:Bool) (hf:ltU d[t+1]! d[t]! = f):shiftDown ltU (t+1) d=if f=true then shiftDown ltU t (swp d (t+1) t) else d:=by
 rw [shiftDown,hf]
 cases f <;> rfl
theorem su_step {d:Array UInt64} {b j:Nat} (h:j<b) (f:Bool) (hf:ltU d[j]! d[j - 1]! = f):shiftUp ltU b j d=if f=true then shiftUp ltU b (j+1) (swp d j (j - 1)) else d:=by
 rw [shiftUp,if_pos h,hf]
 cases f <;> rfl
theorem su_stop {d:Array UInt64} {b j:Nat} (h:¬ j<b):shiftUp ltU b j d=d:=by
 rw [shiftUp,if_neg h]
theorem pins_step {a b s i:Nat} {d:Array UInt64} {R:Array UInt64×Bool} (h:partialIns ltU a b (s+1) i d=R):∀ i2,scanSorted ltU d b i=i2->(i2=b->R=(d,true))/\(¬ i2=b->(b - a<50->R=(d,false))/\(¬ b - a<50->∀ E2 E3,(if i2 - a≥2 then shiftDown ltU (i2 - 1) (swp d i2 (i2 - 1)) else swp d i2 (i2 - 1))=E2->(if b - i2≥2 then shiftUp ltU b (i2+1) E2 else E2)=E3->partialIns ltU a b s i2 E3=R)):=by
 intro i2 hi;rw [<- h,partialIns];simp only [hi];refine ⟨λ q=>by rw [if_pos q],λ q=>⟨λ q2=>by rw [if_neg q,if_pos q2],λ q2 E2 E3 h2 h3=>?_⟩⟩;rw [if_neg q,if_neg q2,h2,h3]
theorem pins_any {w:World} {g n c a b:Nat} {d:Array UInt64} (h:SR w g d) (hd:d.size=n) (hab:a<b) (hb:b<=n) (hn:n<=1000000000000) (R:Array UInt64×Bool) (hr:partialInsertionSort ltU d a b=R) :
  Calls Tryz.prog 209 #[.slice (some ⟨g,0,none⟩) n c,.int .i64 (a:Int),.int .i64 (b:Int)] w λ e w'=>e=.returned (.bool R.2)/\Hid (SR w' g R.1/\Turned (λ k=>k=g) w w'):=by
 obtain ⟨l,hl⟩:∃ l,b - a=l:=⟨_,rfl⟩
 have b1:(b:Int) - (a:Int)=(l:Int):=by omega
 have bw:IntKind.i64.wrap (l:Int)=(l:Int):=by rw [IntKind.wrap_i64]; omega
 have W0:Hid (SR w g d/\d.size=n/\Turned (λ k=>k=g) w w/\partialIns ltU a b 5 (a+1) d=R):=⟨h,hd,Turned.refl _ _,hr⟩
 have HL:Hid (b - a=l):=hl;clear h hd hr hl;go_enter Tryz.func209,Tryz.ntmps209;go_wp2_with fail;go_loopg [8,7] 5 (λ k v8 v7 wr=>∃ t i:Nat,v8=.int .i64 t/\v7=.int .i64 i/\t+k=5/\a+1<=i/\i<=b/\Hid (∃ e:Array UInt64,partialIns ltU a b k i e=R/\SR wr g e/\Turned (λ k=>k=g) w wr/\e.size=n))
 case atStart=>exact ⟨0,a+1,rfl,by go_num,rfl,by omega,by omega,d,W0.out.2.2.2,W0.out.1,W0.out.2.2.1,W0.out.2.1⟩
 case round =>
  obtain ⟨t0,i0,rfl,rfl,htk,u1,u2,HE⟩:=hrel;obtain ⟨E,e1,V0⟩:∃ E,partialIns ltU a b gk i0 E=R/\Hid (SR wr g E/\Turned (λ k=>k=g) w wr/\E.size=n):=HE.out;clear HE W0;by_cases ht5:t0<5
  ·obtain ⟨s,hs⟩:∃ s,s+1=gk:=⟨gk - 1,by omega⟩
   rw [<- hs] at e1;have HS:=shid (pins_step e1);rw [HL.out] at HS
   have v5:(t0:Int)<5:=by omega
   have GO:Hid (s+1=gk/\t0+(s+1)=5):=⟨hs,by omega⟩
   clear e1 hs htk
   obtain ⟨I,hI⟩:∃ I,scanSorted ltU E b i0=I:=⟨_,rfl⟩
   have HI:Hid (scanSorted ltU E b i0=I):=hI;clear hI;go_wp2_with fail;go_loopg [7] b (λ k v wr=>∃ i:Nat,v=.int .i64 i/\b<=i+k/\a+1<=i/\i<=b/\Hid (scanSorted ltU E b i=I/\SR wr g E/\Turned (λ k=>k=g) w wr/\E.size=n))
   case atStart=>exact ⟨i0,rfl,by omega,by omega,by omega,HI.out,V0.out⟩
   case round =>
    obtain ⟨i,rfl,hk,hai,hib,HR⟩:=hrel
    obtain ⟨ii,hii⟩:∃ ii,i - 1=ii:=⟨_,rfl⟩
    have s1:(i:Int) - 1=(ii:Int):=by omega
    have s2:IntKind.i64.wrap (ii:Int)=(ii:Int):=by rw [IntKind.wrap_i64]; omega
    have hI1:ii+1=i:=by omega
    go_upto_region 5 with fail
    go_cut [32] from 17 to 34 (λ tv u=>∃ v f,v=u/\tv=.bool f/\Hid ((decide (i<b)&&!ltU E[i]! E[ii]!)=f/\SR v g E/\Turned (λ k=>k=g) w v))
    case first =>
     by_cases hij:i<b
     ·obtain ⟨x,hx⟩:∃ x,E[i]! = x:=⟨_,rfl⟩
      obtain ⟨y,hy⟩:∃ y,E[ii]! = y:=⟨_,rfl⟩
      obtain ⟨f0,hf⟩:∃ f0,ltU x y=f0:=⟨_,rfl⟩
      have hs:=HR.out.2.2.2
      have q0:∀ u:SW (Grew wr),u.w.cell? ⟨g,i,none⟩=some (uv x):=λ u=>by rw [<- hx]; exact (HR.out.2.1.below u.ok).cell (by omega)
      have q1:∀ u:SW (Grew wr),u.w.cell? ⟨g,ii,none⟩=some (uv y):=λ u=>by rw [<- hy]; exact (HR.out.2.1.below u.ok).cell (by omega)
      have hL:=λ u=>less_cls (wr:=wr) x y f0 hf u
      have NE:Nonempty (SW (Grew wr)):=⟨⟨wr,Below.refl _ wr⟩⟩
      have j4:(i:Int)<(n:Int):=by omega
      have j5:(ii:Int)<(n:Int):=by omega
      have j6:(0:Int)<=(i:Int):=by omega
      have j7:(0:Int)<=(ii:Int):=by omega
      have j1:(i:Int)<(b:Int):=by omega
      have j2:decide ((i:Int)<(b:Int))=true:=by simpa using j1
      have j3:decide (i<b)=true:=by simpa using hij
      have KE:Hid ((decide (i<b)&&!ltU E[i]! E[ii]!)=(!f0)):=by
       show _=_;simp only [hx,hy,hf,j3,Bool.true_and]
      clear hx hy hf hs
      cases f0 with
      | true =>
       refine wp_region_class (S:=Grew wr) (by kernel_rfl) (by kernel_rfl) (Below.refl _ wr).drew ?_
       repeat (go_big_quiet_step (with_reducible exact hL _))
       refine wpQuiet_nil ?_;intro _ hw';obtain ⟨u,hw''⟩:=hw';subst hw'';go_wp2_with fail;go_meet;exact ⟨_,_,rfl,rfl,KE.out,HR.out.2.1.below u.ok,HR.out.2.2.1.trans (Turned.ofBelow u.ok) (λ _ _ q=>q)⟩
      | false =>
       refine wp_region_class (S:=Grew wr) (by kernel_rfl) (by kernel_rfl) (Below.refl _ wr).drew ?_
       repeat (go_big_quiet_step (with_reducible exact hL _))
       refine wpQuiet_nil ?_;intro _ hw';obtain ⟨u,hw''⟩:=hw';subst hw'';go_wp2_with fail;go_meet;exact ⟨_,_,rfl,rfl,KE.out,HR.out.2.1.below u.ok,HR.out.2.2.1.trans (Turned.ofBelow u.ok) (λ _ _ q=>q)⟩
     ·have j1:¬ (i:Int)<(b:Int):=by omega
      have j2:decide ((i:Int)<(b:Int))=false:=by simpa using j1
      have KE:Hid ((decide (i<b)&&!ltU E[i]! E[ii]!)=false):=by
       show _=_;simp [hij]
      go_quiet (fail);go_wp2_with fail;go_meet;have hq:=below_drewN (Below.refl wr.heap.size wr) nq;exact ⟨_,false,rfl,rfl,KE.out,HR.out.2.1.below hq,HR.out.2.2.1.trans (Turned.ofBelow (S:=λ _=>False) hq) (λ _ _ q=>q.elim)⟩
    case rest =>
     obtain ⟨v,f,rfl,rfl,HC⟩:=hcut
     cases f with
     | true =>
      have hle:i<b:=by
       have:=HC.out.1;simp only [Bool.and_eq_true,decide_eq_true_eq] at this;exact this.1
      have HN:Hid (scanSorted ltU E b (i+1)=I):=by
       have:=HR.out.1;rw [ss_go (by rw [hii]; exact HC.out.1)] at this;exact this
      have HZ:Hid (E.size=n):=HR.out.2.2.2;clear HR;go_wp2;go_roundg (gk - 1)
      case measure=>omega
      case rel=>exact ⟨i+1,by go_num,by omega,by omega,by omega,HN.out,HC.out.2.1,HC.out.2.2,HZ.out⟩
     | false =>
      have FI:Hid (scanSorted ltU E b i0=i):=by
       have:=HR.out.1;rw [ss_end (by rw [hii]; exact HC.out.1)] at this;exact HI.out.trans this.symm
      have Wd:Hid (SR v g E/\E.size=n/\Turned (λ k=>k=g) w v):=⟨HC.out.2.1,HR.out.2.2.2,HC.out.2.2⟩
      clear HR HC HI hk;have hps:=HS.out i FI.out;clear HS FI;by_cases hib2:i=b
      ·have FIN:Hid (R=(E,true)):=hps.1 hib2
       have e1:(i:Int)=(b:Int):=by omega
       clear hps;go_wp2;go_ret;rw [FIN.out];exact ⟨rfl,Wd.out.1,Wd.out.2.2⟩
      ·have e1:¬ (i:Int)=(b:Int):=by omega
       have hps2:=hps.2 hib2;clear hps;by_cases h50:l<50
       ·have FIN:Hid (R=(E,false)):=hps2.1 h50
        have e2:(l:Int)<50:=by omega
        clear hps2;go_wp2;go_ret;rw [FIN.out];exact ⟨rfl,Wd.out.1,Wd.out.2.2⟩
       ·have e2:¬ (l:Int)<50:=by omega
        have hps3:=hps2.2 h50;rw [hii] at hps3
        obtain ⟨E1,hE1⟩:∃ E1,swp E i ii=E1:=⟨_,rfl⟩
        rw [hE1] at hps3
        obtain ⟨E2,hE2⟩:∃ E2,(if i - a≥2 then shiftDown ltU ii E1 else E1)=E2:=⟨_,rfl⟩
        obtain ⟨E3,hE3⟩:∃ E3,(if b - i≥2 then shiftUp ltU b (i+1) E2 else E2)=E3:=⟨_,rfl⟩
        have PR:Hid (partialIns ltU a b s i E3=R):=hps3 E2 E3 hE2 hE3
        have Q1:Hid (swp E i ii=E1/\(if i - a≥2 then shiftDown ltU ii E1 else E1)=E2/\(if b - i≥2 then shiftUp ltU b (i+1) E2 else E2)=E3):=⟨hE1,hE2,hE3⟩
        obtain ⟨m1,hm1⟩:∃ m1,i - a=m1:=⟨_,rfl⟩
        obtain ⟨m2,hm2⟩:∃ m2,b - i=m2:=⟨_,rfl⟩
        have t1:(i:Int) - (a:Int)=(m1:Int):=by omega
        have t2:(b:Int) - (i:Int)=(m2:Int):=by omega
        have t3:IntKind.i64.wrap (m1:Int)=(m1:Int):=by rw [IntKind.wrap_i64]; omega
        have t4:IntKind.i64.wrap (m2:Int)=(m2:Int):=by rw [IntKind.wrap_i64]; omega
        rw [hm1,hm2] at Q1;clear hps2 hps3 hE1 hE2 hE3 hii hm1 hm2
        obtain ⟨x,hx⟩:∃ x,E[i]! = x:=⟨_,rfl⟩
        obtain ⟨y,hy⟩:∃ y,E[ii]! = y:=⟨_,rfl⟩
        have hsz:=Wd.out.2.1
        have c0:v.cell? ⟨g,i,none⟩=some (uv x):=by rw [<- hx]; exact Wd.out.1.cell (by omega)
        have c1:v.cell? ⟨g,ii,none⟩=some (uv y):=by rw [<- hy]; exact Wd.out.1.cell (by omega)
        have f0:=Wd.out.1.thaw i;have f1:=Wd.out.1.thaw ii
        have z0:(0:Int)<=(i:Int):=by omega
        have z1:(0:Int)<=(ii:Int):=by omega
        have z2:(i:Int)<(n:Int):=by omega
        have z3:(ii:Int)<(n:Int):=by omega
        have nt:¬ i=ii:=by omega
        have nt2:¬ ii=i:=λ e=>nt e.symm
        have HXY:Hid (E[i]! = x/\E[ii]! = y):=⟨hx,hy⟩
        clear hx hy hsz;go_wp2_with fail;go_region
        have W1:Hid (SR (((v.setCell ⟨g,i,none⟩ (.int .u64 (y.toNat:Int))).setCell ⟨g,ii,none⟩ (.int .u64 (x.toNat:Int))).drew) g E1/\E1.size=n/\Turned (λ k=>k=g) w (((v.setCell ⟨g,i,none⟩ (.int .u64 (y.toNat:Int))).setCell ⟨g,ii,none⟩ (.int .u64 (x.toNat:Int))).drew)):=by
         rw [<- Q1.out.1];exact ⟨Wd.out.1.drewSwap HXY.out.1 HXY.out.2,by rw [swp_size]; exact Wd.out.2.1,turnSwap Wd.out.2.2 _ _ _ _⟩
        obtain ⟨w1,hw1⟩:∃ w1,w1=((v.setCell ⟨g,i,none⟩ (.int .u64 (y.toNat:Int))).setCell ⟨g,ii,none⟩ (.int .u64 (x.toNat:Int))).drew:=⟨_,rfl⟩
        rw [<- hw1] at W1 ⊢;clear hw1 HXY c0 c1 f0 f1 z0 z1 z2 z3 nt nt2 Wd e1 e2
        obtain ⟨bm,hbm⟩:∃ bm,decide ((2:Int)<=(m1:Int))=bm:=⟨_,rfl⟩
        have HBM:Hid (decide ((2:Int)<=(m1:Int))=bm):=hbm
        go_upto_if 61 with fail
        clear hbm
        go_cut [9] from 13 to 132 (λ jv u=>∃ v,v=u/\Hid (SR v g E2/\E2.size=n/\Turned (λ k=>k=g) w v))
        case first =>
         have hq2:Hid ((if m1≥2 then shiftDown ltU ii E1 else E1)=E2):=Q1.out.2.1;clear PR Q1 t2 t4
         cases bm with
         | true =>
          have hm:2<=m1:=by have:=of_decide_eq_true HBM.out; omega
          have hq3:Hid (shiftDown ltU ii E1=E2):=by
           have:=hq2.out;rw [if_pos hm] at this;exact this
          clear hq2;go_wp2_with fail;go_loopg [9] ii (λ k v wr=>v=.int .i64 (k:Int)/\k<=ii/\Hid (∃ e:Array UInt64,shiftDown ltU k e=E2/\SR wr g e/\Turned (λ k=>k=g) w wr/\e.size=n))
          case atStart=>exact ⟨rfl,Nat.le_refl _,E1,hq3.out,W1.out.1,W1.out.2.2,W1.out.2.1⟩
          case round =>
           obtain ⟨rfl,hkl,HE⟩:=hrel;obtain ⟨G,HR⟩:∃ G,Hid (shiftDown ltU gk G=E2/\SR wr g G/\Turned (λ k=>k=g) w wr/\G.size=n):=HE.out;clear HE hq3 W1;by_cases hz:1<=gk
           ·obtain ⟨t,ht⟩:∃ t,t+1=gk:=⟨gk - 1,by omega⟩
            have j1:(1:Int)<=(gk:Int):=by omega
            have j2:(gk:Int) - 1=(t:Int):=by omega
            have j3:IntKind.i64.wrap (t:Int)=(t:Int):=by rw [IntKind.wrap_i64]; omega
            obtain ⟨x,hx⟩:∃ x,G[gk]! = x:=⟨_,rfl⟩
            obtain ⟨y,hy⟩:∃ y,G[t]! = y:=⟨_,rfl⟩
            obtain ⟨f0,hf⟩:∃ f0,ltU x y=f0:=⟨_,rfl⟩
            have hs:=HR.out.2.2.2
            have q0:∀ u:SW (Grew wr),u.w.cell? ⟨g,gk,none⟩=some (uv x):=λ u=>by rw [<- hx]; exact (HR.out.2.1.below u.ok).cell (by omega)
            have q1:∀ u:SW (Grew wr),u.w.cell? ⟨g,t,none⟩=some (uv y):=λ u=>by rw [<- hy]; exact (HR.out.2.1.below u.ok).cell (by omega)
            have hL:=λ u=>less_cls (wr:=wr) x y f0 hf u
            have NE:Nonempty (SW (Grew wr)):=⟨⟨wr,Below.refl _ wr⟩⟩
            have j4:(gk:Int)<(n:Int):=by omega
            have j5:(t:Int)<(n:Int):=by omega
            have j6:(0:Int)<=(gk:Int):=by omega
            have j7:(0:Int)<=(t:Int):=by omega
            have ST:Hid ((if f0=true then shiftDown ltU t (swp G gk t) else G)=E2/\G[gk]! = x/\G[t]! = y/\t+1=gk):=by
             refine ⟨?_,hx,hy,ht⟩;rw [<- HR.out.1,<- ht];exact (sd_step f0 (by rw [ht,hx,hy]; exact hf)).symm
            clear hx hy hf hs ht
            cases f0 with
            | true =>
             go_upto_region 16 with fail
             refine wp_region_class (S:=Grew wr) (by kernel_rfl) (by kernel_rfl) (Below.refl _ wr).drew ?_
             repeat (go_big_quiet_step (with_reducible exact hL _))
             refine wpQuiet_nil ?_;intro _ hw';obtain ⟨u,hw''⟩:=hw';subst hw''
             obtain ⟨w4,hw4⟩:∃ w4,w4=u.w:=⟨_,rfl⟩
             have Wd:Hid (SR w4 g G/\G.size=n/\Turned (λ k=>k=g) w w4):=by
              rw [hw4];exact ⟨HR.out.2.1.below u.ok,HR.out.2.2.2,HR.out.2.2.1.trans (Turned.ofBelow u.ok) (λ _ _ q=>q)⟩
             rw [<- hw4];clear hL q0 q1 NE hw4 u HR
             have c0:w4.cell? ⟨g,gk,none⟩=some (uv x):=by rw [<- ST.out.2.1]; exact Wd.out.1.cell (by have:=Wd.out.2.1; omega)
             have c1:w4.cell? ⟨g,t,none⟩=some (uv y):=by rw [<- ST.out.2.2.1]; exact Wd.out.1.cell (by have:=Wd.out.2.1; omega)
             have f0:=Wd.out.1.thaw gk;have f1:=Wd.out.1.thaw t
             have nt:¬ gk=t:=by have:=ST.out.2.2.2; omega
             have nt2:¬ t=gk:=λ e=>nt e.symm
             go_wp2_with fail;go_region;go_wp2;go_roundg t
             case measure=>have:=ST.out.2.2.2; omega
             case rel=>exact ⟨by go_num,by have:=ST.out.2.2.2; omega,swp G gk t,by have:=ST.out.1; simpa using this,Wd.out.1.drewSwap ST.out.2.1 ST.out.2.2.1,turnSwap Wd.out.2.2 _ _ _ _,by rw [swp_size]; exact Wd.out.2.1⟩
            | false =>
             go_upto_region 16 with fail
             refine wp_region_class (S:=Grew wr) (by kernel_rfl) (by kernel_rfl) (Below.refl _ wr).drew ?_
             repeat (go_big_quiet_step (with_reducible exact hL _))
             refine wpQuiet_nil ?_;intro _ hw';obtain ⟨u,hw''⟩:=hw';subst hw'';go_wp2_with fail;go_meet
             have hG:G=E2:=by have:=ST.out.1; simpa using this
             exact ⟨_,rfl,by rw [<- hG]; exact HR.out.2.1.below u.ok,by rw [<- hG]; exact HR.out.2.2.2,HR.out.2.2.1.trans (Turned.ofBelow u.ok) (λ _ _ q=>q)⟩
           ·have j1:¬ (1:Int)<=(gk:Int):=by omega
            have hG:Hid (G=E2):=by
             have e0:gk=0:=by omega
             have:=HR.out.1;rw [e0] at this;exact this
            go_wp2_with fail;go_meet;exact ⟨_,rfl,by rw [<- hG.out]; exact HR.out.2.1,by rw [<- hG.out]; exact HR.out.2.2.2,HR.out.2.2.1⟩
         | false =>
          have hm:¬ 2<=m1:=by have:=of_decide_eq_false HBM.out; omega
          have hq3:Hid (E1=E2):=by
           have:=hq2.out;rw [if_neg hm] at this;exact this
          clear hq2;go_wp2_with fail;go_meet;exact ⟨_,rfl,by rw [<- hq3.out]; exact W1.out⟩
        case rest =>
         obtain ⟨v,rfl,W2⟩:=hcut;clear W1;have hq2:Hid ((if m2≥2 then shiftUp ltU b (i+1) E2 else E2)=E3):=Q1.out.2.2;clear Q1 t1 t3;by_cases hm:2<=m2
         ·have hmi:(2:Int)<=(m2:Int):=by omega
          have hq3:Hid (shiftUp ltU b (i+1) E2=E3):=by
           have:=hq2.out;rw [if_pos hm] at this;exact this
          clear hq2;go_wp2_with fail;go_loopg [10] b (λ k v wr=>∃ j:Nat,v=.int .i64 (j:Int)/\b<=j+k/\j<=b/\i+1<=j/\Hid (∃ e:Array UInt64,shiftUp ltU b j e=E3/\SR wr g e/\Turned (λ k=>k=g) w wr/\e.size=n))
          case atStart=>exact ⟨i+1,by go_num,by omega,by omega,Nat.le_refl _,E2,hq3.out,W2.out.1,W2.out.2.2,W2.out.2.1⟩
          case round =>
           obtain ⟨j,rfl,hjk,hjb,hij2,HE⟩:=hrel;obtain ⟨G,HR⟩:∃ G,Hid (shiftUp ltU b j G=E3/\SR wr g G/\Turned (λ k=>k=g) w wr/\G.size=n):=HE.out;clear HE hq3 W2;by_cases hz:j<b
           ·obtain ⟨t,ht⟩:∃ t,j - 1=t:=⟨_,rfl⟩
            have ht1:t+1=j:=by omega
            have j1:(j:Int)<(b:Int):=by omega
            have j2:(j:Int) - 1=(t:Int):=by omega
            have j3:IntKind.i64.wrap (t:Int)=(t:Int):=by rw [IntKind.wrap_i64]; omega
            obtain ⟨x,hx⟩:∃ x,G[j]! = x:=⟨_,rfl⟩
            obtain ⟨y,hy⟩:∃ y,G[t]! = y:=⟨_,rfl⟩
            obtain ⟨f0,hf⟩:∃ f0,ltU x y=f0:=⟨_,rfl⟩
            have hs:=HR.out.2.2.2
            have q0:∀ u:SW (Grew wr),u.w.cell? ⟨g,j,none⟩=some (uv x):=λ u=>by rw [<- hx]; exact (HR.out.2.1.below u.ok).cell (by omega)
            have q1:∀ u:SW (Grew wr),u.w.cell? ⟨g,t,none⟩=some (uv y):=λ u=>by rw [<- hy]; exact (HR.out.2.1.below u.ok).cell (by omega)
            have hL:=λ u=>less_cls (wr:=wr) x y f0 hf u
            have NE:Nonempty (SW (Grew wr)):=⟨⟨wr,Below.refl _ wr⟩⟩
            have j4:(j:Int)<(n:Int):=by omega
            have j5:(t:Int)<(n:Int):=by omega
            have j6:(0:Int)<=(j:Int):=by omega
            have j7:(0:Int)<=(t:Int):=by omega
            have ST:Hid ((if f0=true then shiftUp ltU b (j+1) (swp G j t) else G)=E3/\G[j]! = x/\G[t]! = y/\t+1=j):=by
             refine ⟨?_,hx,hy,ht1⟩;rw [<- HR.out.1,<- ht];exact (su_step hz f0 (by rw [ht,hx,hy]; exact hf)).symm
            clear hx hy hf hs ht ht1
            cases f0 with
            | true =>
             go_upto_region 22 with fail
             refine wp_region_class (S:=Grew wr) (by kernel_rfl) (by kernel_rfl) (Below.refl _ wr).drew ?_
             repeat (go_big_quiet_step (with_reducible exact hL _))
             refine wpQuiet_nil ?_;intro _ hw';obtain ⟨u,hw''⟩:=hw';subst hw''
             obtain ⟨w4,hw4⟩:∃ w4,w4=u.w:=⟨_,rfl⟩
             have Wd:Hid (SR w4 g G/\G.size=n/\Turned (λ k=>k=g) w w4):=by
              rw [hw4];exact ⟨HR.out.2.1.below u.ok,HR.out.2.2.2,HR.out.2.2.1.trans (Turned.ofBelow u.ok) (λ _ _ q=>q)⟩
             rw [<- hw4];clear hL q0 q1 NE hw4 u HR
             have c0:w4.cell? ⟨g,j,none⟩=some (uv x):=by rw [<- ST.out.2.1]; exact Wd.out.1.cell (by have:=Wd.out.2.1; omega)
             have c1:w4.cell? ⟨g,t,none⟩=some (uv y):=by rw [<- ST.out.2.2.1]; exact Wd.out.1.cell (by have:=Wd.out.2.1; omega)
             have f0:=Wd.out.1.thaw j;have f1:=Wd.out.1.thaw t
             have nt:¬ j=t:=by have:=ST.out.2.2.2; omega
             have nt2:¬ t=j:=λ e=>nt e.symm
             go_wp2_with fail;go_region;go_wp2;go_roundg (gk - 1)
             case measure=>omega
             case rel=>exact ⟨j+1,by go_num,by omega,by omega,by omega,swp G j t,by have:=ST.out.1; simpa using this,Wd.out.1.drewSwap ST.out.2.1 ST.out.2.2.1,turnSwap Wd.out.2.2 _ _ _ _,by rw [swp_size]; exact Wd.out.2.1⟩
            | false =>
             go_upto_region 22 with fail
             refine wp_region_class (S:=Grew wr) (by kernel_rfl) (by kernel_rfl) (Below.refl _ wr).drew ?_
             repeat (go_big_quiet_step (with_reducible exact hL _))
             refine wpQuiet_nil ?_;intro _ hw';obtain ⟨u,hw''⟩:=hw';subst hw''
             have hG:G=E3:=by have:=ST.out.1; simpa using this
             have W3:Hid (SR u.w g E3/\E3.size=n/\Turned (λ k=>k=g) w u.w):=⟨by rw [<- hG]; exact HR.out.2.1.below u.ok,by rw [<- hG]; exact HR.out.2.2.2,HR.out.2.2.1.trans (Turned.ofBelow u.ok) (λ _ _ q=>q)⟩
             clear hG;go_wp2;go_roundg s
             case measure=>have:=GO.out; omega
             case rel=>exact ⟨t0+1,i,by go_num,rfl,by have:=GO.out; omega,by omega,by omega,E3,PR.out,W3.out.1,W3.out.2.2,W3.out.2.1⟩
           ·have j1:¬ (j:Int)<(b:Int):=by omega
            have hG:Hid (G=E3):=by
             have:=HR.out.1;rw [su_stop hz] at this;exact this
            have W3:Hid (SR wr g E3/\E3.size=n/\Turned (λ k=>k=g) w wr):=⟨by rw [<- hG.out]; exact HR.out.2.1,by rw [<- hG.out]; exact HR.out.2.2.2,HR.out.2.2.1⟩
            go_wp2;go_roundg s
            case measure=>have:=GO.out; omega
            case rel=>exact ⟨t0+1,i,by go_num,rfl,by have:=GO.out; omega,by omega,by omega,E3,PR.out,W3.out.1,W3.out.2.2,W3.out.2.1⟩
         ·have hmi:¬ (2:Int)<=(m2:Int):=by omega
          have hq3:Hid (E2=E3):=by
           have:=hq2.out;rw [if_neg hm] at this;exact this
          clear hq2
          have W3:Hid (SR v g E3/\E3.size=n/\Turned (λ k=>k=g) w v):=⟨(by rw [<- hq3.out]; exact W2.out.1),(by rw [<- hq3.out]; exact W2.out.2.1),W2.out.2.2⟩
          go_wp2;go_roundg s
          case measure=>have:=GO.out; omega
          case rel=>exact ⟨t0+1,i,by go_num,rfl,by have:=GO.out; omega,by omega,by omega,E3,PR.out,W3.out.1,W3.out.2.2,W3.out.2.1⟩
  ·have v5:¬ (t0:Int)<5:=by omega
   have FIN:Hid (R=(E,false)):=by
    have e0:gk=0:=by omega
    rw [e0] at e1;exact e1.symm
   clear e1;go_wp2;go_ret;rw [FIN.out];exact ⟨rfl,V0.out.1,V0.out.2.1⟩
end Go.Proofs.YtjlokpjflgbgdaaGreat

namespace Go.Proofs.YtjlokpjflgbgdaaGreat
open Go.RowKit Go.Sort Go.Shelf
def BoxU (w:World) (b:Nat) (r:UInt64):Prop:=w.heap[b]? = some (.cells #[.int .u64 (r.toNat:Int)] 358 (0,0))
section
variable {w w':World} {b:Nat} {r:UInt64}
theorem BoxU.lt (h:BoxU w b r):b<w.heap.size:=(Array.getElem?_eq_some_iff.1 h).1
theorem BoxU.cell (h:BoxU w b r):w.cell? ⟨b,0,none⟩=some (.int .u64 (r.toNat:Int)):=by
 unfold BoxU at h;simp [World.cell?,h]
theorem BoxU.thaw (h:BoxU w b r):w.frozen? ⟨b,0,none⟩=false:=by
 unfold BoxU at h;simp [World.frozen?,h]
theorem BoxU.below (h:BoxU w b r) (hb:Below w.heap.size w w'):BoxU w' b r:=(hb.block b h.lt).trans h
theorem BoxU.set (h:BoxU w b r) (s:UInt64):BoxU (w.setCell ⟨b,0,none⟩ (.int .u64 (s.toNat:Int))) b s:=by
 unfold BoxU at h ⊢;simp [World.setCell,Array.getElem?_modify,h]
theorem BoxU.turned {S:Nat->Prop} (h:BoxU w b r) (ht:Turned S w w') (hS:¬ S b):BoxU w' b r:=(ht.block b h.lt hS).trans h
theorem BoxU.new (w:World) (r:UInt64):BoxU (w.alloc (.cells #[.int .u64 (r.toNat:Int)] 358)) w.heap.size r:=by
 show (w.heap.push _)[w.heap.size]? = _;simp
end
theorem next_any {w:World} {xb:Nat} {r:UInt64} (h:BoxU w xb r):Calls Tryz.prog 251 #[.pointer (some ⟨xb,0,none⟩)] w λ e w'=>e=.returned (.int .u64 ((xorNext r).toNat:Int))/\Hid (BoxU w' xb (xorNext r)/\Turned (λ k=>k=xb) w w'):=by
 have hc:=calls_of_every_depth λ D=>AnyS.xorshift_NextInS { klaySort with } D xb 0 r.toNat r.toNat_lt w h.cell h.thaw
 refine Calls.mono hc ?_;rintro e w' ⟨rfl,rfl⟩;rw [<- xorNext_toNat];have hb:=bdrewN (w.setCell ⟨xb,0,none⟩ (.int .u64 ((xorNext r).toNat:Int))) 3;exact ⟨rfl,(h.set (xorNext r)).below hb,((Turned.refl (λ k=>k=xb) w).setCell (p:=⟨xb,0,none⟩) (.inl rfl) _).trans (Turned.ofBelow (S:=λ _=>False) hb) (λ _ _ q=>q.elim)⟩
theorem pow_any (n:Nat) (hn:n<4611686018427387904) (w:World):Calls Tryz.prog 250 #[.int .i64 (n:Int)] w λ e w'=>e=.returned (.int .u64 ((1 <<< bitsLen n:Nat):Int))/\w'=w :=
 calls_of_every_depth λ D=>AnyS.nextPowerOfTwoInS { klaySort with } D n hn w
theorem len_any (n:Nat) (hn:n<4611686018427387904) (w:World):Calls Tryz.prog 159 #[.int .u64 (n:Int)] w λ e w'=>e=.returned (.int .i64 ((bitsLen n:Nat):Int))/\w'=w :=
 calls_of_every_depth λ D=>by
  have h:=AnyS.bits_LenInS { klaySort with } D (n:Int) w (by omega) (by omega)
  rwa [Int.toNat_natCast,bitLen_eq _ (by omega)] at h
theorem brk_any {w:World} {g n c a b:Nat} {d:Array UInt64} (h:SR w g d) (hd:d.size=n) (hab:a+8<=b) (hb:b<=n) (hn:n<=1000000000000) :
  Calls Tryz.prog 206 #[.slice (some ⟨g,0,none⟩) n c,.int .i64 (a:Int),.int .i64 (b:Int)] w λ e w'=>e=.returned (.tuple #[])/\Hid (SR w' g (breakPatterns d a b)/\Turned (λ k=>k=g) w w'):=by
 obtain ⟨L,hL⟩:∃ L,a+L=b:=⟨b - a,by omega⟩
 obtain ⟨D,hD⟩:∃ D,breakPatterns d a b=D:=⟨_,rfl⟩
 rw [hD];rw [<- hL,breakPatterns_eq d a L (by omega)] at hD
 obtain ⟨M,hM⟩:∃ M:Nat,1 <<< bitsLen L=M:=⟨_,rfl⟩
 have hM1:1<=M:=by rw [<- hM,Nat.one_shiftLeft]; exact Nat.two_pow_pos _
 have hM2:M<=2*L:=by rw [<- hM,Nat.one_shiftLeft]; exact two_pow_bitsLen_le (by omega)
 have hP:=λ w=>pow_any L (by omega) w
 rw [hM] at hD hP
 obtain ⟨q,hq⟩:∃ q,L / 4=q:=⟨_,rfl⟩
 obtain ⟨q2,hq2⟩:∃ q2,q*2=q2:=⟨_,rfl⟩
 obtain ⟨jm,hjm⟩:∃ jm,a+q2=jm:=⟨_,rfl⟩
 obtain ⟨base,hbase⟩:∃ base,jm - 1=base:=⟨_,rfl⟩
 obtain ⟨top,htop⟩:∃ top,jm+1=top:=⟨_,rfl⟩
 have hbb:a+L / 4*2 - 1=base:=by omega
 rw [hbb] at hD
 have m0:(b:Int) - (a:Int)=(L:Int):=by omega
 have m1:(L:Int).tdiv 4=(q:Int):=by rw [<- hq]; rfl
 have m2:(q:Int)*2=(q2:Int):=by omega
 have m3:(a:Int)+(q2:Int)=(jm:Int):=by omega
 have m4:(jm:Int) - 1=(base:Int):=by omega
 have m5:(jm:Int)+1=(top:Int):=by omega
 have w0:IntKind.i64.wrap (L:Int)=(L:Int):=by rw [IntKind.wrap_i64]; omega
 have wu:IntKind.u64.wrap (L:Int)=(L:Int):=by rw [IntKind.wrap_u64]; omega
 have w1:IntKind.i64.wrap (q:Int)=(q:Int):=by rw [IntKind.wrap_i64]; omega
 have w2:IntKind.i64.wrap (q2:Int)=(q2:Int):=by rw [IntKind.wrap_i64]; omega
 have w3:IntKind.i64.wrap (jm:Int)=(jm:Int):=by rw [IntKind.wrap_i64]; omega
 have w4:IntKind.i64.wrap (base:Int)=(base:Int):=by rw [IntKind.wrap_i64]; omega
 have w5:IntKind.i64.wrap (top:Int)=(top:Int):=by rw [IntKind.wrap_i64]; omega
 have g8:(8:Int)<=(L:Int):=by omega
 obtain ⟨xb,hxb⟩:∃ xb,w.heap.size=xb:=⟨_,rfl⟩
 obtain ⟨W,hW⟩:∃ W,W=w.alloc (.cells #[.int .u64 (L:Int)] 358):=⟨_,rfl⟩
 have hUL:(UInt64.ofNat L).toNat=L:=by simp; omega
 have NW:SR W g d/\BoxU W xb (UInt64.ofNat L)/\Below w.heap.size w W:=by
  have hB:Below w.heap.size w W:=by rw [hW]; exact (Below.refl _ w).alloc (Nat.le_refl _) _
  refine ⟨h.below hB,?_,hB⟩;have:=BoxU.new w (UInt64.ofNat L);rw [hUL] at this;rw [hW,<- hxb];exact this
 have NG:Hid (¬ xb=g):=by have:=h.lt; show ¬ _; omega
 have N0:Hid (bpRest a L M base 3 0 (UInt64.ofNat L,d)=D/\SR W g d/\BoxU W xb (UInt64.ofNat L)/\Turned (λ k=>k=g∨k=xb) W W/\d.size=n):=⟨hD,NW.1,NW.2.1,Turned.refl _ _,hd⟩
 have LAST:Hid (∀ w9:World,Turned (λ k=>k=g∨k=xb) W w9->Turned (λ k=>k=g) w w9):=λ w9 t=>(Turned.ofBelow NW.2.2).trans t (λ k hk q=>q.elim id (λ e=>by omega))
 have SH:base+3=top+1/\a<=base/\top<b/\base+2=top:=by omega
 clear h hd hD NW hUL hbb hq hq2 hjm hbase htop hM;go_enter Tryz.func206,Tryz.ntmps206
 go_upto_region 3 with fail
 rw [<- hW];clear hW;go_wp2_with fail;refine (hP _).mono ?_;rintro e w3 ⟨rfl,hw3⟩;rw [hw3];clear hP hw3;go_wp2_with fail;go_loopg [9] 3 (λ k v9 wr=>∃ (idx t:Nat) (r:UInt64) (G:Array UInt64),v9=.int .i64 (idx:Int)/\t+k=3/\base+t=idx/\Hid (bpRest a L M base (3 - t) t (r,G)=D/\SR wr g G/\BoxU wr xb r/\Turned (λ k=>k=g∨k=xb) W wr/\G.size=n))
 case atStart=>exact ⟨base,0,UInt64.ofNat L,d,rfl,rfl,rfl,N0.out⟩
 case round =>
  obtain ⟨idx,t,r,G,rfl,htk,hidx,HR⟩:=hrel;clear N0;have IX:Hid (base+t=idx):=hidx;by_cases ht3:t<3
  ·have z1:(idx:Int)<=(top:Int):=by omega
   obtain ⟨O,hO⟩:∃ O:Nat,O=(xorNext r).toNat &&& (M - 1):=⟨_,rfl⟩
   have lO:O<=M - 1:=by rw [hO]; exact Nat.and_le_right
   obtain ⟨M1,hM3⟩:∃ M1,M - 1=M1:=⟨_,rfl⟩
   have y1:(M:Int) - 1=(M1:Int):=by omega
   have y2:IntKind.u64.wrap (M1:Int)=(M1:Int):=by rw [IntKind.wrap_u64]; omega
   have y3:bits .and .u64 ((xorNext r).toNat:Int) (M1:Int)=(O:Int):=by
    rw [bits_and_u64_nat _ _ (xorNext r).toNat_lt (by omega),hO,hM3]
   have y4:IntKind.i64.wrap (O:Int)=(O:Int):=by rw [IntKind.wrap_i64]; omega
   have hN:=next_any HR.out.2.2.1
   have z2:(idx:Int)<(n:Int):=by omega
   have z3:(0:Int)<=(idx:Int):=by omega
   by_cases hge:L<=O
   ·have ho3:L<=O:=hge
    obtain ⟨oo,hoo⟩:∃ oo,O - L=oo:=⟨_,rfl⟩
    have hol:oo<L:=by omega
    obtain ⟨ao,hao⟩:∃ ao,a+oo=ao:=⟨_,rfl⟩
    have ST0:bpRest a L M base (3 - (t+1)) (t+1) (xorNext r,swp G idx ao)=D:=by
     rw [<- HR.out.1,bp_step a L M base t r G oo (by omega) (by rw [<- hO,if_pos hge,hoo]),hidx,hao]
    have g1:(a:Int)+(oo:Int)=(ao:Int):=by omega
    have g2:IntKind.i64.wrap (ao:Int)=(ao:Int):=by rw [IntKind.wrap_i64]; omega
    have g3:(ao:Int)<(n:Int):=by omega
    have g4:(0:Int)<=(ao:Int):=by omega
    have g5:(L:Int)<=(O:Int):=by omega
    have g6:(O:Int) - (L:Int)=(oo:Int):=by omega
    have g7:IntKind.i64.wrap (oo:Int)=(oo:Int):=by rw [IntKind.wrap_i64]; omega
    have ST1:Hid (bpRest a L M base (3 - (t+1)) (t+1) (xorNext r,swp G idx ao)=D):=ST0;clear ST0;by_cases hEq:idx=ao
    ·subst hEq;have ST:Hid (bpRest a L M base (3 - (t+1)) (t+1) (xorNext r,swp G idx idx)=D):=ST1.out;clear ST1 hao hoo hO hidx;go_wp2_with fail;refine hN.mono ?_;rintro e w5 ⟨rfl,H5⟩
     have N5:Hid (SR w5 g G/\BoxU w5 xb (xorNext r)/\Turned (λ k=>k=g∨k=xb) W w5/\G.size=n):=⟨HR.out.2.1.turned H5.out.2 (λ e=>NG.out e.symm),H5.out.1,HR.out.2.2.2.1.trans H5.out.2 (λ _ _ q=>.inr q),HR.out.2.2.2.2⟩
     clear HR H5 hN
     obtain ⟨x,hx⟩:∃ x,G[idx]! = x:=⟨_,rfl⟩
     have c0:w5.cell? ⟨g,idx,none⟩=some (uv x):=by rw [<- hx]; exact N5.out.1.cell (by have:=N5.out.2.2.2; omega)
     have f0:=N5.out.1.thaw idx
     have HXY:Hid (G[idx]! = x/\G[idx]! = x):=⟨hx,hx⟩
     clear hx;go_wp2_with fail;go_region;go_wp2;go_roundg (gk - 1)
     case measure=>omega
     case rel=>exact ⟨idx+1,t+1,xorNext r,swp G idx idx,by go_num,by omega,by have:=IX.out; omega,ST.out,N5.out.1.drewSwap HXY.out.1 HXY.out.2,N5.out.2.1.turned (turnSwap (Turned.refl (λ k=>k=g) w5) _ _ _ _) (λ e=>NG.out e),N5.out.2.2.1.trans (turnSwap (Turned.refl (λ k=>k=g) w5) _ _ _ _) (λ _ _ q=>.inl q),by rw [swp_size]; exact N5.out.2.2.2⟩
    ·have ST:Hid (bpRest a L M base (3 - (t+1)) (t+1) (xorNext r,swp G idx ao)=D):=ST1.out;clear ST1 hao hoo hO hidx;go_wp2_with fail;refine hN.mono ?_;rintro e w5 ⟨rfl,H5⟩
     have N5:Hid (SR w5 g G/\BoxU w5 xb (xorNext r)/\Turned (λ k=>k=g∨k=xb) W w5/\G.size=n):=⟨HR.out.2.1.turned H5.out.2 (λ e=>NG.out e.symm),H5.out.1,HR.out.2.2.2.1.trans H5.out.2 (λ _ _ q=>.inr q),HR.out.2.2.2.2⟩
     clear HR H5 hN
     obtain ⟨x,hx⟩:∃ x,G[idx]! = x:=⟨_,rfl⟩
     obtain ⟨y,hy⟩:∃ y,G[ao]! = y:=⟨_,rfl⟩
     have c0:w5.cell? ⟨g,idx,none⟩=some (uv x):=by rw [<- hx]; exact N5.out.1.cell (by have:=N5.out.2.2.2; omega)
     have c1:w5.cell? ⟨g,ao,none⟩=some (uv y):=by rw [<- hy]; exact N5.out.1.cell (by have:=N5.out.2.2.2; omega)
     have f0:=N5.out.1.thaw idx;have f1:=N5.out.1.thaw ao
     have HXY:Hid (G[idx]! = x/\G[ao]! = y):=⟨hx,hy⟩
     have nt:¬ idx=ao:=hEq
     have nt2:¬ ao=idx:=λ e=>nt e.symm
     clear hx hy;go_wp2_with fail;go_region;go_wp2;go_roundg (gk - 1)
     case measure=>omega
     case rel=>exact ⟨idx+1,t+1,xorNext r,swp G idx ao,by go_num,by omega,by have:=IX.out; omega,ST.out,N5.out.1.drewSwap HXY.out.1 HXY.out.2,N5.out.2.1.turned (turnSwap (Turned.refl (λ k=>k=g) w5) _ _ _ _) (λ e=>NG.out e),N5.out.2.2.1.trans (turnSwap (Turned.refl (λ k=>k=g) w5) _ _ _ _) (λ _ _ q=>.inl q),by rw [swp_size]; exact N5.out.2.2.2⟩
   ·have ho3:¬ L<=O:=hge
    obtain ⟨oo,hoo⟩:∃ oo,O=oo:=⟨_,rfl⟩
    have hol:oo<L:=by omega
    obtain ⟨ao,hao⟩:∃ ao,a+oo=ao:=⟨_,rfl⟩
    have ST0:bpRest a L M base (3 - (t+1)) (t+1) (xorNext r,swp G idx ao)=D:=by
     rw [<- HR.out.1,bp_step a L M base t r G oo (by omega) (by rw [<- hO,if_neg hge,hoo]),hidx,hao]
    have g1:(a:Int)+(oo:Int)=(ao:Int):=by omega
    have g2:IntKind.i64.wrap (ao:Int)=(ao:Int):=by rw [IntKind.wrap_i64]; omega
    have g3:(ao:Int)<(n:Int):=by omega
    have g4:(0:Int)<=(ao:Int):=by omega
    have g5:¬ (L:Int)<=(O:Int):=by omega
    have g6:O=oo:=hoo;have ST1:Hid (bpRest a L M base (3 - (t+1)) (t+1) (xorNext r,swp G idx ao)=D):=ST0;clear ST0;subst g6;by_cases hEq:idx=ao
    ·subst hEq;have ST:Hid (bpRest a L M base (3 - (t+1)) (t+1) (xorNext r,swp G idx idx)=D):=ST1.out;clear ST1 hao hO hidx;go_wp2_with fail;refine hN.mono ?_;rintro e w5 ⟨rfl,H5⟩
     have N5:Hid (SR w5 g G/\BoxU w5 xb (xorNext r)/\Turned (λ k=>k=g∨k=xb) W w5/\G.size=n):=⟨HR.out.2.1.turned H5.out.2 (λ e=>NG.out e.symm),H5.out.1,HR.out.2.2.2.1.trans H5.out.2 (λ _ _ q=>.inr q),HR.out.2.2.2.2⟩
     clear HR H5 hN
     obtain ⟨x,hx⟩:∃ x,G[idx]! = x:=⟨_,rfl⟩
     have c0:w5.cell? ⟨g,idx,none⟩=some (uv x):=by rw [<- hx]; exact N5.out.1.cell (by have:=N5.out.2.2.2; omega)
     have f0:=N5.out.1.thaw idx
     have HXY:Hid (G[idx]! = x/\G[idx]! = x):=⟨hx,hx⟩
     clear hx;go_wp2_with fail;go_region;go_wp2;go_roundg (gk - 1)
     case measure=>omega
     case rel=>exact ⟨idx+1,t+1,xorNext r,swp G idx idx,by go_num,by omega,by have:=IX.out; omega,ST.out,N5.out.1.drewSwap HXY.out.1 HXY.out.2,N5.out.2.1.turned (turnSwap (Turned.refl (λ k=>k=g) w5) _ _ _ _) (λ e=>NG.out e),N5.out.2.2.1.trans (turnSwap (Turned.refl (λ k=>k=g) w5) _ _ _ _) (λ _ _ q=>.inl q),by rw [swp_size]; exact N5.out.2.2.2⟩
    ·have ST:Hid (bpRest a L M base (3 - (t+1)) (t+1) (xorNext r,swp G idx ao)=D):=ST1.out;clear ST1 hao hO hidx;go_wp2_with fail;refine hN.mono ?_;rintro e w5 ⟨rfl,H5⟩
     have N5:Hid (SR w5 g G/\BoxU w5 xb (xorNext r)/\Turned (λ k=>k=g∨k=xb) W w5/\G.size=n):=⟨HR.out.2.1.turned H5.out.2 (λ e=>NG.out e.symm),H5.out.1,HR.out.2.2.2.1.trans H5.out.2 (λ _ _ q=>.inr q),HR.out.2.2.2.2⟩
     clear HR H5 hN
     obtain ⟨x,hx⟩:∃ x,G[idx]! = x:=⟨_,rfl⟩
     obtain ⟨y,hy⟩:∃ y,G[ao]! = y:=⟨_,rfl⟩
     have c0:w5.cell? ⟨g,idx,none⟩=some (uv x):=by rw [<- hx]; exact N5.out.1.cell (by have:=N5.out.2.2.2; omega)
     have c1:w5.cell? ⟨g,ao,none⟩=some (uv y):=by rw [<- hy]; exact N5.out.1.cell (by have:=N5.out.2.2.2; omega)
     have f0:=N5.out.1.thaw idx;have f1:=N5.out.1.thaw ao
     have HXY:Hid (G[idx]! = x/\G[ao]! = y):=⟨hx,hy⟩
     have nt:¬ idx=ao:=hEq
     have nt2:¬ ao=idx:=λ e=>nt e.symm
     clear hx hy;go_wp2_with fail;go_region;go_wp2;go_roundg (gk - 1)
     case measure=>omega
     case rel=>exact ⟨idx+1,t+1,xorNext r,swp G idx ao,by go_num,by omega,by have:=IX.out; omega,ST.out,N5.out.1.drewSwap HXY.out.1 HXY.out.2,N5.out.2.1.turned (turnSwap (Turned.refl (λ k=>k=g) w5) _ _ _ _) (λ e=>NG.out e),N5.out.2.2.1.trans (turnSwap (Turned.refl (λ k=>k=g) w5) _ _ _ _) (λ _ _ q=>.inl q),by rw [swp_size]; exact N5.out.2.2.2⟩
  ·have z1:¬ (idx:Int)<=(top:Int):=by omega
   have FIN:Hid (SR wr g D/\Turned (λ k=>k=g) w wr):=by
    have e3:t=3:=by omega
    have hq:=HR.out.1;rw [e3] at hq;have hq':G=D:=hq;rw [<- hq'];exact ⟨HR.out.2.1,LAST.out _ HR.out.2.2.2.1⟩
   clear HR;go_wp2;refine bodyPost_end (v:=.tuple #[]) (results_none rfl _ _ _) rfl ?_;exact ⟨rfl,FIN⟩
end Go.Proofs.YtjlokpjflgbgdaaGreat

namespace Go.Proofs.YtjlokpjflgbgdaaGreat
open Go.Sort hiding Below
theorem swoU:SWO ltU where
 irrefl x:=by simp [ltU]
 trans x y z h1 h2:=by simp only [ltU,decide_eq_true_eq,UInt64.lt_iff_toNat_lt] at *; omega
 ntrans x y z h1 h2:=by simp only [ltU,decide_eq_false_iff_not,UInt64.lt_iff_toNat_lt] at *; omega
theorem order2_ge {d:Array UInt64} {a b s n:Nat} (ha:n<=a) (hb:n<=b):n<=(order2 ltU d a b s).1/\n<=(order2 ltU d a b s).2.1:=by
 unfold order2
 split
 ·exact ⟨hb,ha⟩
 ·exact ⟨ha,hb⟩
theorem median_ge {d:Array UInt64} {a b e0 s n:Nat} (ha:n<=a) (hb:n<=b) (he:n<=e0):n<=(median ltU d a b e0 s).1:=by
 have l1:=order2_ge (d:=d) (s:=s) ha hb;have l2:=order2_ge (d:=d) (s:=(order2 ltU d a b s).2.2) l1.2 he;exact (order2_ge (d:=d) (s:=(order2 ltU d (order2 ltU d a b s).2.1 e0 (order2 ltU d a b s).2.2).2.2) l1.1 l2.1).2
theorem pick_in {d:Array UInt64} {a b:Nat} (h:12<b - a):a<(choosePivot ltU d a b).1/\(choosePivot ltU d a b).1+1<b:=by
 obtain ⟨l,hl⟩:∃ l,b - a=l:=⟨_,rfl⟩
 obtain ⟨q,hq⟩:∃ q,l / 4=q:=⟨_,rfl⟩
 unfold choosePivot;simp only [hl,hq]
 have h8:l≥8:=by omega
 simp only [h8,if_true]
 have hb:b - 1<=b:=by omega
 split
 ·have x1:∀ s,a+1<=(medianAdjacent ltU d (a+q*1) s).1/\(medianAdjacent ltU d (a+q*1) s).1<b - 1:=λ s=>⟨median_ge (by omega) (by omega) (by omega),(median_lt (by omega) (by omega) (by omega)).1⟩
  have x2:∀ s,a+1<=(medianAdjacent ltU d (a+q*2) s).1/\(medianAdjacent ltU d (a+q*2) s).1<b - 1:=λ s=>⟨median_ge (by omega) (by omega) (by omega),(median_lt (by omega) (by omega) (by omega)).1⟩
  have x3:∀ s,a+1<=(medianAdjacent ltU d (a+q*3) s).1/\(medianAdjacent ltU d (a+q*3) s).1<b - 1:=λ s=>⟨median_ge (by omega) (by omega) (by omega),(median_lt (by omega) (by omega) (by omega)).1⟩
  have y1:=median_ge (d:=d) (s:=(medianAdjacent ltU d (a+q*3) (medianAdjacent ltU d (a+q*2) (medianAdjacent ltU d (a+q*1) 0).2).2).2) (x1 0).1 (x2 (medianAdjacent ltU d (a+q*1) 0).2).1 (x3 (medianAdjacent ltU d (a+q*2) (medianAdjacent ltU d (a+q*1) 0).2).2).1;have y2:=(median_lt (d:=d) (s:=(medianAdjacent ltU d (a+q*3) (medianAdjacent ltU d (a+q*2) (medianAdjacent ltU d (a+q*1) 0).2).2).2) (x1 0).2 (x2 (medianAdjacent ltU d (a+q*1) 0).2).2 (x3 (medianAdjacent ltU d (a+q*2) (medianAdjacent ltU d (a+q*1) 0).2).2).2).1;exact ⟨by omega,by omega⟩
 ·have y1:=median_ge (d:=d) (a:=a+q*1) (b:=a+q*2) (e0:=a+q*3) (s:=0) (n:=a+1) (by omega) (by omega) (by omega);have y2:=(median_lt (d:=d) (a:=a+q*1) (b:=a+q*2) (e0:=a+q*3) (s:=0) (n:=b - 1) (by omega) (by omega) (by omega)).1;exact ⟨by omega,by omega⟩
structure Rnd (E:Array UInt64) (a b lim:Nat) (wb wp:Bool) (d1:Array UInt64) (l1 cp:Nat) (ch:Hint) (d2:Array UInt64) (pv:Nat) (ht:Hint) (p1:Array UInt64) (p2:Bool):Prop where
 wbt:wb=true->E=d1/\lim=l1
 wbf:wb=false->breakPatterns E a b=d1/\lim - 1=l1
 piv:choosePivot ltU d1 a b=(cp,ch)
 dec:ch=.decreasing->reverseRange d1 a b=d2/\(b - 1) - (cp - a)=pv/\ht=.increasing
 inc:ch≠.decreasing->d1=d2/\cp=pv/\ht=ch
 yes:(wb&&wp&&decide (ht=.increasing))=true->partialInsertionSort ltU d2 a b=(p1,p2)
 no:(wb&&wp&&decide (ht=.increasing))=false->d2=p1/\p2=false
 s1:d1.size=E.size
 s2:d2.size=E.size
 s3:p1.size=E.size
 cpr:a<cp/\cp+1<b
 pvr:a<pv/\pv<b
 llim:l1<=lim
 done:p2=true->pdq ltU E a b lim wb wp=p1
 eql:p2=false->(decide (a>0)&&!ltU p1[a - 1]! p1[pv]!)=true->∀ mid d4,partitionEqual ltU p1 a b pv=(mid,d4)->a<mid/\mid<=b/\d4.size=E.size/\Go.Sort.Below ltU mid b d4/\pdq ltU E a b lim wb wp=pdq ltU d4 mid b l1 wb wp
 prt:p2=false->(decide (a>0)&&!ltU p1[a - 1]! p1[pv]!)=false->∀ mid ap d4,partition ltU p1 a b pv=(mid,ap,d4)->a<=mid/\mid<b/\d4.size=E.size/\Go.Sort.Below ltU a mid d4/\Go.Sort.Below ltU (mid+1) b d4 /\
  (mid - a<b - mid->(pdq ltU d4 a mid l1 true true).size=E.size/\Go.Sort.Below ltU (mid+1) b (pdq ltU d4 a mid l1 true true)/\pdq ltU E a b lim wb wp=pdq ltU (pdq ltU d4 a mid l1 true true) (mid+1) b l1 (decide (mid - a≥(b - a) / 8)) ap) /\
  (¬ mid - a<b - mid->(pdq ltU d4 (mid+1) b l1 true true).size=E.size/\Go.Sort.Below ltU a mid (pdq ltU d4 (mid+1) b l1 true true)/\pdq ltU E a b lim wb wp=pdq ltU (pdq ltU d4 (mid+1) b l1 true true) a mid l1 (decide (b - mid≥(b - a) / 8)) ap)
theorem rnd (E:Array UInt64) (a b lim:Nat) (wb wp:Bool) (h12:¬ b - a<=12) (hl:¬ lim=0) (hb:b<=E.size) (hB:Go.Sort.Below ltU a b E):∃ d1 l1 cp ch d2 pv ht p1 p2,Rnd E a b lim wb wp d1 l1 cp ch d2 pv ht p1 p2:=by
 obtain ⟨s1,B1,hc1,s2,B2,hpv,s3,B3⟩:=rd_facts (limit:=lim) (wb:=wb) (wp:=wp) swoU partialInsertionSort_holds reverseRange_holds (show a<b by omega) hb hB
 have hpk:a<(rd ltU E a b lim wb wp).c.1/\(rd ltU E a b lim wb wp).c.1+1<b:=by
  rw [rd_c];exact pick_in (by omega)
 refine ⟨(rd ltU E a b lim wb wp).d1,(rd ltU E a b lim wb wp).lim,(rd ltU E a b lim wb wp).c.1,(rd ltU E a b lim wb wp).c.2,(rd ltU E a b lim wb wp).d2,(rd ltU E a b lim wb wp).pivot,(rd ltU E a b lim wb wp).hint,(rd ltU E a b lim wb wp).pi.1,(rd ltU E a b lim wb wp).pi.2,?_⟩
 have hpv2:a<(rd ltU E a b lim wb wp).pivot/\(rd ltU E a b lim wb wp).pivot<b:=by
  refine ⟨?_,hpv.2⟩;by_cases hh:(rd ltU E a b lim wb wp).c.2=.decreasing
  ·rw [(rd_dec hh).2.1]; omega
  ·rw [(rd_not hh).2.1]; exact hpk.1
 exact {
  wbt:=λ e=>by subst e; exact ⟨rfl,rfl⟩
  wbf:=λ e=>by subst e; exact ⟨rfl,rfl⟩
  piv:=rfl
  dec:=λ e=>⟨(rd_dec e).1.symm,(rd_dec e).2.1.symm,(rd_dec e).2.2⟩
  inc:=λ e=>⟨(rd_not e).1.symm,(rd_not e).2.1.symm,(rd_not e).2.2⟩
  yes:=λ e=>(rd_pi_yes e).symm
  no:=λ e=>by rw [rd_pi_no e]; exact ⟨rfl,rfl⟩
  s1:=s1,s2:=s2,s3:=s3,cpr:=hpk,pvr:=hpv2,llim:=rd_lim_le
  done:=λ e=>pdq_done h12 hl e
  eql:=λ e g mid d4 hx=>by
   have g':=g;simp only [Bool.and_eq_true,decide_eq_true_eq,Bool.not_eq_true'] at g';obtain ⟨r1,r2,r3,r4,_⟩:=round_eq swoU (partitionEqual_holds ltU) g'.1 hpv.1 hpv.2 (by rw [s3]; exact hb) B3 g'.2 hx;exact ⟨r1,r2,r3.trans s3,r4,by rw [pdq_eq h12 hl e g (by rw [hx]; exact ⟨r1,r2⟩),hx]⟩
  prt:=λ e g mid ap d4 hx=>by
   obtain ⟨r1,r2,r3,r4,r5,r6,r7⟩:=round_part swoU (partition_holds ltU) hpv.1 hpv.2 (by rw [s3]; exact hb) B3 hx;refine ⟨r1,r2,r3.trans s3,r4,r5,λ q=>?_,λ q=>?_⟩
   ·obtain ⟨pL,sL⟩:=pdq_sorts ltU swoU d4 a mid (rd ltU E a b lim wb wp).lim true true (by omega) (by rw [r3,s3]; omega) r4;exact ⟨by rw [pL.1,r3,s3],(r6 _ pL sL).1,by rw [pdq_left h12 hl e g (by rw [hx]; exact ⟨r1,r2⟩) (by rw [hx]; exact q),hx]⟩
   ·obtain ⟨pL,sL⟩:=pdq_sorts ltU swoU d4 (mid+1) b (rd ltU E a b lim wb wp).lim true true (by omega) (by rw [r3,s3]; omega) r5
    exact ⟨by rw [pL.1,r3,s3],(r7 _ pL sL).1,by rw [pdq_right h12 hl e g (by rw [hx]; exact ⟨r1,r2⟩) (by rw [hx]; exact q),hx]⟩ }
end Go.Proofs.YtjlokpjflgbgdaaGreat
