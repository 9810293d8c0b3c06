/-
  slices.partitionOrdered at numbers of the kind uint64, by a contract: it does what the plain function does.
-/
import Derived.Test.YtjlokpjflgbgdaaGreatMC33
set_option maxHeartbeats 6400000
set_option maxRecDepth 100000
namespace Go.Proofs.YtjlokpjflgbgdaaGreat
open Go.RowKit Go.Sort
theorem part_any {w:World} {g n c a b p:Nat} {d:Array UInt64} (h:SR w g d) (hd:d.size=n) (hap:a<p) (hpb:p<b) (hb:b<=n) (hn:n<=1000000000000) (r:Nat×Bool×Array UInt64) (hr:partition ltU d a b p=r) :
  Calls Tryz.prog 212 #[.slice (some ⟨g,0,none⟩) n c,.int .i64 (a:Int),.int .i64 (b:Int),.int .i64 (p:Int)] w λ e w'=>e=.returned (.tuple #[.int .i64 (r.1:Int),.bool r.2.1])/\Hid (SR w' g r.2.2/\Turned (λ k=>k=g) w w'):=by
 obtain ⟨bb,hbb⟩:∃ bb,b - 1=bb:=⟨_,rfl⟩
 have b1:(b:Int) - 1=(bb:Int):=by omega
 have bw:IntKind.i64.wrap (bb:Int)=(bb:Int):=by rw [IntKind.wrap_i64]; omega
 have W0:Hid (SR w g d/\d.size=n/\Turned (λ k=>k=g) w w):=⟨h,hd,Turned.refl _ _⟩
 have HP:Hid (∀ i j,scanUp (λ x=>ltU x (swp d a p)[a]!) (swp d a p) bb (a+1)=i->scanDown (λ x=>!ltU x (swp d a p)[a]!) (swp d a p) i bb=j->(j<i->r=(j,true,swp (swp d a p) j a))/\(¬ j<i->∀ R,partLoop ltU a (i+1) (j - 1) (swp (swp d a p) i j)=R->r=(R.1,false,swp R.2 R.1 a))):=by
  intro i j hi hj;rw [<- hr];unfold partition;simp only [hbb,hi,hj];refine ⟨λ q=>by rw [if_pos q],λ q R hR=>?_⟩;rw [if_neg q,hR]
 have BB:bb+1=b:=by omega
 clear h hd hr hbb;go_enter Tryz.func212,Tryz.ntmps212
 obtain ⟨x,hx⟩:∃ x,d[a]! = x:=⟨_,rfl⟩
 obtain ⟨y,hy⟩:∃ y,d[p]! = y:=⟨_,rfl⟩
 have hsz:=W0.out.2.1
 have c0:w.cell? ⟨g,a,none⟩=some (uv x):=by rw [<- hx]; exact W0.out.1.cell (by omega)
 have c1:w.cell? ⟨g,p,none⟩=some (uv y):=by rw [<- hy]; exact W0.out.1.cell (by omega)
 have f0:=W0.out.1.thaw a;have f1:=W0.out.1.thaw p
 have z0:(0:Int)<=(a:Int):=by omega
 have z1:(0:Int)<=(p:Int):=by omega
 have z2:(a:Int)<(n:Int):=by omega
 have z3:(p:Int)<(n:Int):=by omega
 have nt:¬ a=p:=by omega
 have nt2:¬ p=a:=λ e=>nt e.symm
 have HXY:Hid (d[a]! = x/\d[p]! = y):=⟨hx,hy⟩
 clear hx hy hsz;go_wp2_with fail;go_region
 have W1:Hid (SR (((w.setCell ⟨g,a,none⟩ (.int .u64 (y.toNat:Int))).setCell ⟨g,p,none⟩ (.int .u64 (x.toNat:Int))).drew) g (swp d a p)/\(swp d a p).size=n/\Turned (λ k=>k=g) w (((w.setCell ⟨g,a,none⟩ (.int .u64 (y.toNat:Int))).setCell ⟨g,p,none⟩ (.int .u64 (x.toNat:Int))).drew)) :=
  ⟨W0.out.1.drewSwap HXY.out.1 HXY.out.2,by rw [swp_size]; exact W0.out.2.1,turnSwap W0.out.2.2 _ _ _ _⟩
 obtain ⟨w1,hw1⟩:∃ w1,w1=((w.setCell ⟨g,a,none⟩ (.int .u64 (y.toNat:Int))).setCell ⟨g,p,none⟩ (.int .u64 (x.toNat:Int))).drew:=⟨_,rfl⟩
 obtain ⟨E,hE⟩:∃ E,E=swp d a p:=⟨_,rfl⟩
 rw [<- hw1] at W1 ⊢;rw [<- hE] at W1 HP;clear hw1 hE HXY c0 c1 f0 f1 z0 z1 z2 z3 nt nt2 W0
 obtain ⟨I,hI⟩:∃ I,scanUp (λ x=>ltU x E[a]!) E bb (a+1)=I:=⟨_,rfl⟩
 have HI:Hid (scanUp (λ x=>ltU x E[a]!) E bb (a+1)=I):=hI;clear hI;go_wp2_with fail;go_loopg [10] (bb+1) (λ k v wr=>∃ i:Nat,v=.int .i64 i/\bb+1<=i+k/\a+1<=i/\i<=b/\Hid (scanUp (λ x=>ltU x E[a]!) E bb i=I/\SR wr g E/\Turned (λ k=>k=g) w wr))
 case atStart=>exact ⟨(a+1),by first | rfl | go_num,by omega,by omega,by omega,HI.out,W1.out.1,W1.out.2.2⟩
 case round =>
  obtain ⟨i,rfl,hku,hai,hib,HR⟩:=hrel
  go_upto_region 3 with fail
  go_cut [43] from 30 to 45 (λ tv u=>∃ v f,v=u/\tv=.bool f/\Hid ((decide (i<=bb)&&(λ x=>ltU x E[a]!) E[i]!)=f/\SR v g E/\Turned (λ k=>k=g) w v))
  case first =>
   by_cases hij:i<=bb
   ·obtain ⟨x,hx⟩:∃ x,E[i]! = x:=⟨_,rfl⟩
    obtain ⟨y,hy⟩:∃ y,E[a]! = y:=⟨_,rfl⟩
    obtain ⟨f0,hf⟩:∃ f0,ltU x y=f0:=⟨_,rfl⟩
    have hs:=W1.out.2.1
    have q0:∀ u:SW (Grew wr),u.w.cell? ⟨g,i,none⟩=some (uv x):=λ u=>by rw [<- hx]; exact (HR.out.2.1.below u.ok).cell (by omega)
    have q1:∀ u:SW (Grew wr),u.w.cell? ⟨g,a,none⟩=some (uv y):=λ u=>by rw [<- hy]; exact (HR.out.2.1.below u.ok).cell (by omega)
    have hL:=λ u=>less_cls (wr:=wr) x y f0 hf u
    have NE:Nonempty (SW (Grew wr)):=⟨⟨wr,Below.refl _ wr⟩⟩
    have j1:(i:Int)<=(bb:Int):=by omega
    have j2:decide ((i:Int)<=(bb:Int))=true:=by simpa using j1
    have j3:decide (i<=bb)=true:=by simpa using hij
    have j4:(i:Int)<(n:Int):=by omega
    have j5:(a:Int)<(n:Int):=by omega
    have j6:(0:Int)<=(i:Int):=by omega
    have j7:(0:Int)<=(a:Int):=by omega
    have KE:Hid ((decide (i<=bb)&&(λ x=>ltU x E[a]!) E[i]!)=(f0)):=by
     show _=_;simp only [hx,hy,hf,j3,Bool.true_and]
    clear hx hy hf hs
    cases f0 with
    | true =>
     refine wp_region_class (S:=Grew wr) (by kernel_rfl) (by kernel_rfl) (Below.refl _ wr).drew ?_
     repeat (go_big_quiet_step (with_reducible exact hL _))
     refine wpQuiet_nil ?_;intro _ hw';obtain ⟨u,hw''⟩:=hw';subst hw'';go_wp2_with fail;go_meet;exact ⟨_,_,rfl,rfl,KE.out,HR.out.2.1.below u.ok,HR.out.2.2.trans (Turned.ofBelow u.ok) (λ _ _ q=>q)⟩
    | false =>
     refine wp_region_class (S:=Grew wr) (by kernel_rfl) (by kernel_rfl) (Below.refl _ wr).drew ?_
     repeat (go_big_quiet_step (with_reducible exact hL _))
     refine wpQuiet_nil ?_;intro _ hw';obtain ⟨u,hw''⟩:=hw';subst hw'';go_wp2_with fail;go_meet;exact ⟨_,_,rfl,rfl,KE.out,HR.out.2.1.below u.ok,HR.out.2.2.trans (Turned.ofBelow u.ok) (λ _ _ q=>q)⟩
   ·have j1:¬ (i:Int)<=(bb:Int):=by omega
    have j2:decide ((i:Int)<=(bb:Int))=false:=by simpa using j1
    have KE:Hid ((decide (i<=bb)&&(λ x=>ltU x E[a]!) E[i]!)=false):=by
     show _=_;simp [hij]
    go_quiet (fail);go_wp2_with fail;go_meet;have hq:=below_drewN (Below.refl wr.heap.size wr) nq;exact ⟨_,false,rfl,rfl,KE.out,HR.out.2.1.below hq,HR.out.2.2.trans (Turned.ofBelow (S:=λ _=>False) hq) (λ _ _ q=>q.elim)⟩
  case rest =>
   obtain ⟨v,f,rfl,rfl,HC⟩:=hcut
   cases f with
   | true =>
    have hle:i<=bb:=by
     have:=HC.out.1;simp only [Bool.and_eq_true,decide_eq_true_eq] at this;exact this.1
    have HN:Hid (scanUp (λ x=>ltU x E[a]!) E bb (i+1)=I):=by
     have:=HR.out.1;rw [up_go (p:=(λ x=>ltU x E[a]!)) HC.out.1] at this;exact this
    clear HR;go_wp2;go_roundg (gk - 1)
    case measure=>omega
    case rel=>exact ⟨i+1,by go_num,by omega,by omega,by omega,HN.out,HC.out.2.1,HC.out.2.2⟩
   | false =>
    have FI:Hid (scanUp (λ x=>ltU x E[a]!) E bb (a+1)=i):=by
     have:=HR.out.1;rw [up_end (p:=(λ x=>ltU x E[a]!)) HC.out.1] at this;exact HI.out.trans this.symm
    have Wu:Hid (SR v g E/\E.size=n/\Turned (λ k=>k=g) w v):=⟨HC.out.2.1,W1.out.2.1,HC.out.2.2⟩
    clear HR HC HI
    obtain ⟨J,hJ⟩:∃ J,scanDown (λ x=>!ltU x E[a]!) E i bb=J:=⟨_,rfl⟩
    have HJ:Hid (scanDown (λ x=>!ltU x E[a]!) E i bb=J):=hJ;clear hJ;go_wp2_with fail;go_loopg [11] (bb) (λ k v wr=>∃ j:Nat,v=.int .i64 j/\j<=k/\a<=j/\j<b/\Hid (scanDown (λ x=>!ltU x E[a]!) E i j=J/\SR wr g E/\Turned (λ k=>k=g) w wr))
    case atStart=>exact ⟨bb,by first | rfl | go_num,by omega,by omega,by omega,HJ.out,Wu.out.1,Wu.out.2.2⟩
    case round =>
     obtain ⟨j,rfl,hkd,hai,hib,HR⟩:=hrel
     go_upto_region 5 with fail
     go_cut [60] from 46 to 62 (λ tv u=>∃ v f,v=u/\tv=.bool f/\Hid ((decide (i<=j)&&(λ x=>!ltU x E[a]!) E[j]!)=f/\SR v g E/\Turned (λ k=>k=g) w v))
     case first =>
      by_cases hij:i<=j
      ·obtain ⟨x,hx⟩:∃ x,E[j]! = x:=⟨_,rfl⟩
       obtain ⟨y,hy⟩:∃ y,E[a]! = y:=⟨_,rfl⟩
       obtain ⟨f0,hf⟩:∃ f0,ltU x y=f0:=⟨_,rfl⟩
       have hs:=Wu.out.2.1
       have q0:∀ u:SW (Grew wr),u.w.cell? ⟨g,j,none⟩=some (uv x):=λ u=>by rw [<- hx]; exact (HR.out.2.1.below u.ok).cell (by omega)
       have q1:∀ u:SW (Grew wr),u.w.cell? ⟨g,a,none⟩=some (uv y):=λ u=>by rw [<- hy]; exact (HR.out.2.1.below u.ok).cell (by omega)
       have hL:=λ u=>less_cls (wr:=wr) x y f0 hf u
       have NE:Nonempty (SW (Grew wr)):=⟨⟨wr,Below.refl _ wr⟩⟩
       have j1:(i:Int)<=(j:Int):=by omega
       have j2:decide ((i:Int)<=(j:Int))=true:=by simpa using j1
       have j3:decide (i<=j)=true:=by simpa using hij
       have j4:(j:Int)<(n:Int):=by omega
       have j5:(a:Int)<(n:Int):=by omega
       have j6:(0:Int)<=(j:Int):=by omega
       have j7:(0:Int)<=(a:Int):=by omega
       have KE:Hid ((decide (i<=j)&&(λ x=>!ltU x E[a]!) E[j]!)=(!f0)):=by
        show _=_;simp only [hx,hy,hf,j3,Bool.true_and]
       clear hx hy hf hs
       cases f0 with
       | true =>
        refine wp_region_class (S:=Grew wr) (by kernel_rfl) (by kernel_rfl) (Below.refl _ wr).drew ?_
        repeat (go_big_quiet_step (with_reducible exact hL _))
        refine wpQuiet_nil ?_;intro _ hw';obtain ⟨u,hw''⟩:=hw';subst hw'';go_wp2_with fail;go_meet;exact ⟨_,_,rfl,rfl,KE.out,HR.out.2.1.below u.ok,HR.out.2.2.trans (Turned.ofBelow u.ok) (λ _ _ q=>q)⟩
       | false =>
        refine wp_region_class (S:=Grew wr) (by kernel_rfl) (by kernel_rfl) (Below.refl _ wr).drew ?_
        repeat (go_big_quiet_step (with_reducible exact hL _))
        refine wpQuiet_nil ?_;intro _ hw';obtain ⟨u,hw''⟩:=hw';subst hw'';go_wp2_with fail;go_meet;exact ⟨_,_,rfl,rfl,KE.out,HR.out.2.1.below u.ok,HR.out.2.2.trans (Turned.ofBelow u.ok) (λ _ _ q=>q)⟩
      ·have j1:¬ (i:Int)<=(j:Int):=by omega
       have j2:decide ((i:Int)<=(j:Int))=false:=by simpa using j1
       have KE:Hid ((decide (i<=j)&&(λ x=>!ltU x E[a]!) E[j]!)=false):=by
        show _=_;simp [hij]
       go_quiet (fail);go_wp2_with fail;go_meet;have hq:=below_drewN (Below.refl wr.heap.size wr) nq;exact ⟨_,false,rfl,rfl,KE.out,HR.out.2.1.below hq,HR.out.2.2.trans (Turned.ofBelow (S:=λ _=>False) hq) (λ _ _ q=>q.elim)⟩
     case rest =>
      obtain ⟨v,f,rfl,rfl,HC⟩:=hcut
      cases f with
      | true =>
       have hle:i<=j:=by
        have:=HC.out.1;simp only [Bool.and_eq_true,decide_eq_true_eq] at this;exact this.1
       have HN:Hid (scanDown (λ x=>!ltU x E[a]!) E i (j - 1)=J):=by
        have:=HR.out.1;rw [dn_go (p:=(λ x=>!ltU x E[a]!)) (by omega) HC.out.1] at this;exact this
       clear HR
       obtain ⟨ii,hii⟩:∃ ii,j - 1=ii:=⟨_,rfl⟩
       have d1:(j:Int) - 1=(ii:Int):=by omega
       have d2:IntKind.i64.wrap (ii:Int)=(ii:Int):=by rw [IntKind.wrap_i64]; omega
       rw [hii] at HN
       have HI2:Hid (ii+1=j):=by show _=j; omega
       clear hii;go_wp2;go_roundg (gk - 1)
       case measure=>have:=HI2.out; omega
       case rel=>exact ⟨ii,rfl,by have:=HI2.out; omega,by have:=HI2.out; omega,by have:=HI2.out; omega,HN.out,HC.out.2.1,HC.out.2.2⟩
      | false =>
       have FJ:Hid (scanDown (λ x=>!ltU x E[a]!) E i bb=j):=by
        have:=HR.out.1;rw [dn_end (p:=(λ x=>!ltU x E[a]!)) HC.out.1] at this;exact HJ.out.trans this.symm
       have Wd:Hid (SR v g E/\E.size=n/\Turned (λ k=>k=g) w v):=⟨HC.out.2.1,Wu.out.2.1,HC.out.2.2⟩
       clear HR HC HJ;have hst:=scan_ne (p:=λ x=>ltU x E[a]!) (q:=λ x=>!ltU x E[a]!) (λ _=>rfl) (by omega) FI.out FJ.out;have hps:=HP.out i j FI.out FJ.out;by_cases hc:j<i
       ·have ci:(j:Int)<(i:Int):=by omega
        have FIN:Hid (r=(j,true,swp E j a)):=hps.1 hc;clear hst hps FI FJ HP;by_cases hja:j=a
        ·have hja':a=j:=hja.symm;clear hja;subst hja'
         obtain ⟨x,hx⟩:∃ x,E[a]! = x:=⟨_,rfl⟩
         have hsz:=Wd.out.2.1
         have c0:v.cell? ⟨g,a,none⟩=some (uv x):=by rw [<- hx]; exact Wd.out.1.cell (by omega)
         have f0:=Wd.out.1.thaw a
         have z0:(0:Int)<=(a:Int):=by omega
         have z2:(a:Int)<(n:Int):=by omega
         have HXY:Hid (E[a]! = x/\E[a]! = x):=⟨hx,hx⟩
         clear hx hsz;go_wp2_with fail;go_region;go_wp2;refine bodyPost_ret (results_tmp2 rfl _ _ _) rfl ?_;rw [FIN.out];exact ⟨rfl,Wd.out.1.drewSwap HXY.out.1 HXY.out.2,turnSwap Wd.out.2.2 _ _ _ _⟩
        ·obtain ⟨x,hx⟩:∃ x,E[j]! = x:=⟨_,rfl⟩
         obtain ⟨y,hy⟩:∃ y,E[a]! = y:=⟨_,rfl⟩
         have hsz:=Wd.out.2.1
         have c0:v.cell? ⟨g,j,none⟩=some (uv x):=by rw [<- hx]; exact Wd.out.1.cell (by omega)
         have c1:v.cell? ⟨g,a,none⟩=some (uv y):=by rw [<- hy]; exact Wd.out.1.cell (by omega)
         have f0:=Wd.out.1.thaw j;have f1:=Wd.out.1.thaw a
         have z0:(0:Int)<=(j:Int):=by omega
         have z1:(0:Int)<=(a:Int):=by omega
         have z2:(j:Int)<(n:Int):=by omega
         have z3:(a:Int)<(n:Int):=by omega
         have nt:¬ j=a:=hja
         have nt2:¬ a=j:=λ e=>nt e.symm
         have HXY:Hid (E[j]! = x/\E[a]! = y):=⟨hx,hy⟩
         clear hx hy hsz;go_wp2_with fail;go_region;go_wp2;refine bodyPost_ret (results_tmp2 rfl _ _ _) rfl ?_;rw [FIN.out];exact ⟨rfl,Wd.out.1.drewSwap HXY.out.1 HXY.out.2,turnSwap Wd.out.2.2 _ _ _ _⟩
       ·have ci:¬ (j:Int)<(i:Int):=by omega
        obtain ⟨jj,hjj⟩:∃ jj,j - 1=jj:=⟨_,rfl⟩
        have d1:(j:Int) - 1=(jj:Int):=by omega
        have d2:IntKind.i64.wrap (jj:Int)=(jj:Int):=by rw [IntKind.wrap_i64]; omega
        obtain ⟨R0,hR0⟩:∃ R0,partLoop ltU a (i+1) jj (swp E i j)=R0:=⟨_,rfl⟩
        have RF:Hid (∀ R,R=R0->r=(R.1,false,swp R.2 R.1 a)):=by
         intro R hR;rw [hR];exact hps.2 hc _ (by rw [hjj]; exact hR0)
        have HR0:Hid (partLoop ltU a (i+1) jj (swp E i j)=R0):=hR0
        have JJ:Hid (jj+1=j):=by show _=j; omega
        have hne:=hst.2.2;clear hjj hst hps FI FJ HP hR0
        obtain ⟨x,hx⟩:∃ x,E[i]! = x:=⟨_,rfl⟩
        obtain ⟨y,hy⟩:∃ y,E[j]! = y:=⟨_,rfl⟩
        have hsz:=Wd.out.2.1
        have c0:v.cell? ⟨g,i,none⟩=some (uv x):=by rw [<- hx]; exact Wd.out.1.cell (by omega)
        have c1:v.cell? ⟨g,j,none⟩=some (uv y):=by rw [<- hy]; exact Wd.out.1.cell (by omega)
        have f0:=Wd.out.1.thaw i;have f1:=Wd.out.1.thaw j
        have z0:(0:Int)<=(i:Int):=by omega
        have z1:(0:Int)<=(j:Int):=by omega
        have z2:(i:Int)<(n:Int):=by omega
        have z3:(j:Int)<(n:Int):=by omega
        have nt:¬ i=j:=hne
        have nt2:¬ j=i:=λ e=>nt e.symm
        have HXY:Hid (E[i]! = x/\E[j]! = y):=⟨hx,hy⟩
        clear hx hy hsz;go_wp2_with fail;go_region;go_wp2_with fail;go_loopg [10,11] (b) (λ k v9 v10 wr=>∃ i j:Nat,v9=.int .i64 i/\v10=.int .i64 j/\j+1<=i+k/\a+1<=i/\i<=b/\a<=j/\j<b/\Hid (∃ e:Array UInt64,partLoop ltU a i j e=R0/\SR wr g e/\e.size=n/\Turned (λ k=>k=g) w wr))
        case atStart=>exact ⟨i+1,jj,by go_num,rfl,by have:=JJ.out; omega,by omega,by omega,by have:=JJ.out; omega,by have:=JJ.out; omega,swp E i j,HR0.out,Wd.out.1.drewSwap HXY.out.1 HXY.out.2,by rw [swp_size]; exact Wd.out.2.1,turnSwap Wd.out.2.2 _ _ _ _⟩
        case round =>
         clear HXY c0 c1 f0 f1 z0 z1 z2 z3 nt nt2 hne d1 d2 JJ HR0 ci hc;obtain ⟨i0,j0,rfl,rfl,hgk,u1,u2,u3,u4,HE⟩:=hrel;obtain ⟨G,e1,e2,e3,e4⟩:=HE.out
         have V0:Hid (SR wr g G/\G.size=n/\Turned (λ k=>k=g) w wr):=⟨e2,e3,e4⟩
         have VP:Hid (partLoop ltU a i0 j0 G=R0):=e1
         obtain ⟨go,hgo⟩:∃ go,go=gk:=⟨_,rfl⟩
         have GO:Hid (j0+1<=i0+go/\go=gk):=⟨by omega,hgo⟩
         clear HE e1 e2 e3 e4 hgo
         obtain ⟨I,hI⟩:∃ I,scanUp (λ x=>ltU x G[a]!) G j0 i0=I:=⟨_,rfl⟩
         have HI:Hid (scanUp (λ x=>ltU x G[a]!) G j0 i0=I):=hI;clear hI;go_wp2_with fail;go_loopg [10] (j0+1) (λ k v wr=>∃ i:Nat,v=.int .i64 i/\j0+1<=i+k/\a+1<=i/\i<=b/\Hid (scanUp (λ x=>ltU x G[a]!) G j0 i=I/\SR wr g G/\Turned (λ k=>k=g) w wr))
         case atStart=>exact ⟨i0,by first | rfl | go_num,by omega,by omega,by omega,HI.out,V0.out.1,V0.out.2.2⟩
         case round =>
          obtain ⟨i,rfl,hku,hai,hib,HR⟩:=hrel
          go_upto_region 13 with fail
          go_cut [112] from 99 to 114 (λ tv u=>∃ v f,v=u/\tv=.bool f/\Hid ((decide (i<=j0)&&(λ x=>ltU x G[a]!) G[i]!)=f/\SR v g G/\Turned (λ k=>k=g) w v))
          case first =>
           by_cases hij:i<=j0
           ·obtain ⟨x,hx⟩:∃ x,G[i]! = x:=⟨_,rfl⟩
            obtain ⟨y,hy⟩:∃ y,G[a]! = y:=⟨_,rfl⟩
            obtain ⟨f0,hf⟩:∃ f0,ltU x y=f0:=⟨_,rfl⟩
            have hs:=V0.out.2.1
            have q0:∀ u:SW (Grew wr),u.w.cell? ⟨g,i,none⟩=some (uv x):=λ u=>by rw [<- hx]; exact (HR.out.2.1.below u.ok).cell (by omega)
            have q1:∀ u:SW (Grew wr),u.w.cell? ⟨g,a,none⟩=some (uv y):=λ u=>by rw [<- hy]; exact (HR.out.2.1.below u.ok).cell (by omega)
            have hL:=λ u=>less_cls (wr:=wr) x y f0 hf u
            have NE:Nonempty (SW (Grew wr)):=⟨⟨wr,Below.refl _ wr⟩⟩
            have j1:(i:Int)<=(j0:Int):=by omega
            have j2:decide ((i:Int)<=(j0:Int))=true:=by simpa using j1
            have j3:decide (i<=j0)=true:=by simpa using hij
            have j4:(i:Int)<(n:Int):=by omega
            have j5:(a:Int)<(n:Int):=by omega
            have j6:(0:Int)<=(i:Int):=by omega
            have j7:(0:Int)<=(a:Int):=by omega
            have KE:Hid ((decide (i<=j0)&&(λ x=>ltU x G[a]!) G[i]!)=(f0)):=by
             show _=_;simp only [hx,hy,hf,j3,Bool.true_and]
            clear hx hy hf hs
            cases f0 with
            | true =>
             refine wp_region_class (S:=Grew wr) (by kernel_rfl) (by kernel_rfl) (Below.refl _ wr).drew ?_
             repeat (go_big_quiet_step (with_reducible exact hL _))
             refine wpQuiet_nil ?_;intro _ hw';obtain ⟨u,hw''⟩:=hw';subst hw'';go_wp2_with fail;go_meet;exact ⟨_,_,rfl,rfl,KE.out,HR.out.2.1.below u.ok,HR.out.2.2.trans (Turned.ofBelow u.ok) (λ _ _ q=>q)⟩
            | false =>
             refine wp_region_class (S:=Grew wr) (by kernel_rfl) (by kernel_rfl) (Below.refl _ wr).drew ?_
             repeat (go_big_quiet_step (with_reducible exact hL _))
             refine wpQuiet_nil ?_;intro _ hw';obtain ⟨u,hw''⟩:=hw';subst hw'';go_wp2_with fail;go_meet;exact ⟨_,_,rfl,rfl,KE.out,HR.out.2.1.below u.ok,HR.out.2.2.trans (Turned.ofBelow u.ok) (λ _ _ q=>q)⟩
           ·have j1:¬ (i:Int)<=(j0:Int):=by omega
            have j2:decide ((i:Int)<=(j0:Int))=false:=by simpa using j1
            have KE:Hid ((decide (i<=j0)&&(λ x=>ltU x G[a]!) G[i]!)=false):=by
             show _=_;simp [hij]
            go_quiet (fail);go_wp2_with fail;go_meet;have hq:=below_drewN (Below.refl wr.heap.size wr) nq;exact ⟨_,false,rfl,rfl,KE.out,HR.out.2.1.below hq,HR.out.2.2.trans (Turned.ofBelow (S:=λ _=>False) hq) (λ _ _ q=>q.elim)⟩
          case rest =>
           obtain ⟨v,f,rfl,rfl,HC⟩:=hcut
           cases f with
           | true =>
            have hle:i<=j0:=by
             have:=HC.out.1;simp only [Bool.and_eq_true,decide_eq_true_eq] at this;exact this.1
            have HN:Hid (scanUp (λ x=>ltU x G[a]!) G j0 (i+1)=I):=by
             have:=HR.out.1;rw [up_go (p:=(λ x=>ltU x G[a]!)) HC.out.1] at this;exact this
            clear HR;go_wp2;go_roundg (gk - 1)
            case measure=>omega
            case rel=>exact ⟨i+1,by go_num,by omega,by omega,by omega,HN.out,HC.out.2.1,HC.out.2.2⟩
           | false =>
            have FI:Hid (scanUp (λ x=>ltU x G[a]!) G j0 i0=i):=by
             have:=HR.out.1;rw [up_end (p:=(λ x=>ltU x G[a]!)) HC.out.1] at this;exact HI.out.trans this.symm
            have Wu:Hid (SR v g G/\G.size=n/\Turned (λ k=>k=g) w v):=⟨HC.out.2.1,V0.out.2.1,HC.out.2.2⟩
            clear HR HC HI
            obtain ⟨J,hJ⟩:∃ J,scanDown (λ x=>!ltU x G[a]!) G i j0=J:=⟨_,rfl⟩
            have HJ:Hid (scanDown (λ x=>!ltU x G[a]!) G i j0=J):=hJ;clear hJ;go_wp2_with fail;go_loopg [11] (j0) (λ k v wr=>∃ j:Nat,v=.int .i64 j/\j<=k/\a<=j/\j<b/\Hid (scanDown (λ x=>!ltU x G[a]!) G i j=J/\SR wr g G/\Turned (λ k=>k=g) w wr))
            case atStart=>exact ⟨j0,by first | rfl | go_num,by omega,by omega,by omega,HJ.out,Wu.out.1,Wu.out.2.2⟩
            case round =>
             obtain ⟨j,rfl,hkd,hai,hib,HR⟩:=hrel
             go_upto_region 15 with fail
             go_cut [129] from 115 to 131 (λ tv u=>∃ v f,v=u/\tv=.bool f/\Hid ((decide (i<=j)&&(λ x=>!ltU x G[a]!) G[j]!)=f/\SR v g G/\Turned (λ k=>k=g) w v))
             case first =>
              by_cases hij:i<=j
              ·obtain ⟨x,hx⟩:∃ x,G[j]! = x:=⟨_,rfl⟩
               obtain ⟨y,hy⟩:∃ y,G[a]! = y:=⟨_,rfl⟩
               obtain ⟨f0,hf⟩:∃ f0,ltU x y=f0:=⟨_,rfl⟩
               have hs:=Wu.out.2.1
               have q0:∀ u:SW (Grew wr),u.w.cell? ⟨g,j,none⟩=some (uv x):=λ u=>by rw [<- hx]; exact (HR.out.2.1.below u.ok).cell (by omega)
               have q1:∀ u:SW (Grew wr),u.w.cell? ⟨g,a,none⟩=some (uv y):=λ u=>by rw [<- hy]; exact (HR.out.2.1.below u.ok).cell (by omega)
               have hL:=λ u=>less_cls (wr:=wr) x y f0 hf u
               have NE:Nonempty (SW (Grew wr)):=⟨⟨wr,Below.refl _ wr⟩⟩
               have j1:(i:Int)<=(j:Int):=by omega
               have j2:decide ((i:Int)<=(j:Int))=true:=by simpa using j1
               have j3:decide (i<=j)=true:=by simpa using hij
               have j4:(j:Int)<(n:Int):=by omega
               have j5:(a:Int)<(n:Int):=by omega
               have j6:(0:Int)<=(j:Int):=by omega
               have j7:(0:Int)<=(a:Int):=by omega
               have KE:Hid ((decide (i<=j)&&(λ x=>!ltU x G[a]!) G[j]!)=(!f0)):=by
                show _=_;simp only [hx,hy,hf,j3,Bool.true_and]
               clear hx hy hf hs
               cases f0 with
               | true =>
                refine wp_region_class (S:=Grew wr) (by kernel_rfl) (by kernel_rfl) (Below.refl _ wr).drew ?_
                repeat (go_big_quiet_step (with_reducible exact hL _))
                refine wpQuiet_nil ?_;intro _ hw';obtain ⟨u,hw''⟩:=hw';subst hw'';go_wp2_with fail;go_meet;exact ⟨_,_,rfl,rfl,KE.out,HR.out.2.1.below u.ok,HR.out.2.2.trans (Turned.ofBelow u.ok) (λ _ _ q=>q)⟩
               | false =>
                refine wp_region_class (S:=Grew wr) (by kernel_rfl) (by kernel_rfl) (Below.refl _ wr).drew ?_
                repeat (go_big_quiet_step (with_reducible exact hL _))
                refine wpQuiet_nil ?_;intro _ hw';obtain ⟨u,hw''⟩:=hw';subst hw'';go_wp2_with fail;go_meet;exact ⟨_,_,rfl,rfl,KE.out,HR.out.2.1.below u.ok,HR.out.2.2.trans (Turned.ofBelow u.ok) (λ _ _ q=>q)⟩
              ·have j1:¬ (i:Int)<=(j:Int):=by omega
               have j2:decide ((i:Int)<=(j:Int))=false:=by simpa using j1
               have KE:Hid ((decide (i<=j)&&(λ x=>!ltU x G[a]!) G[j]!)=false):=by
                show _=_;simp [hij]
               go_quiet (fail);go_wp2_with fail;go_meet;have hq:=below_drewN (Below.refl wr.heap.size wr) nq;exact ⟨_,false,rfl,rfl,KE.out,HR.out.2.1.below hq,HR.out.2.2.trans (Turned.ofBelow (S:=λ _=>False) hq) (λ _ _ q=>q.elim)⟩
             case rest =>
              obtain ⟨v,f,rfl,rfl,HC⟩:=hcut
              cases f with
              | true =>
               have hle:i<=j:=by
                have:=HC.out.1;simp only [Bool.and_eq_true,decide_eq_true_eq] at this;exact this.1
               have HN:Hid (scanDown (λ x=>!ltU x G[a]!) G i (j - 1)=J):=by
                have:=HR.out.1;rw [dn_go (p:=(λ x=>!ltU x G[a]!)) (by omega) HC.out.1] at this;exact this
               clear HR
               obtain ⟨ii,hii⟩:∃ ii,j - 1=ii:=⟨_,rfl⟩
               have d1:(j:Int) - 1=(ii:Int):=by omega
               have d2:IntKind.i64.wrap (ii:Int)=(ii:Int):=by rw [IntKind.wrap_i64]; omega
               rw [hii] at HN
               have HI2:Hid (ii+1=j):=by show _=j; omega
               clear hii;go_wp2;go_roundg (gk - 1)
               case measure=>have:=HI2.out; omega
               case rel=>exact ⟨ii,rfl,by have:=HI2.out; omega,by have:=HI2.out; omega,by have:=HI2.out; omega,HN.out,HC.out.2.1,HC.out.2.2⟩
              | false =>
               have FJ:Hid (scanDown (λ x=>!ltU x G[a]!) G i j0=j):=by
                have:=HR.out.1;rw [dn_end (p:=(λ x=>!ltU x G[a]!)) HC.out.1] at this;exact HJ.out.trans this.symm
               have Wd:Hid (SR v g G/\G.size=n/\Turned (λ k=>k=g) w v):=⟨HC.out.2.1,Wu.out.2.1,HC.out.2.2⟩
               clear HR HC HJ;have hst:=scan_ne (p:=λ x=>ltU x G[a]!) (q:=λ x=>!ltU x G[a]!) (λ _=>rfl) (by omega) FI.out FJ.out;by_cases hc:j<i
               ·have ci:(j:Int)<(i:Int):=by omega
                have FIN:Hid (r=(j,false,swp G j a)):=by
                 have q:=VP.out;rw [part_stop FI.out FJ.out hc] at q;exact RF.out _ q
                clear hst FI FJ VP;by_cases hja:j=a
                ·have hja':a=j:=hja.symm;clear hja;subst hja'
                 obtain ⟨x,hx⟩:∃ x,G[a]! = x:=⟨_,rfl⟩
                 have hsz:=Wd.out.2.1
                 have c0:v.cell? ⟨g,a,none⟩=some (uv x):=by rw [<- hx]; exact Wd.out.1.cell (by omega)
                 have f0:=Wd.out.1.thaw a
                 have z0:(0:Int)<=(a:Int):=by omega
                 have z2:(a:Int)<(n:Int):=by omega
                 have HXY:Hid (G[a]! = x/\G[a]! = x):=⟨hx,hx⟩
                 clear hx hsz;go_wp2_with fail;go_region;go_wp2;refine bodyPost_ret (results_tmp2 rfl _ _ _) rfl ?_;rw [FIN.out];exact ⟨rfl,Wd.out.1.drewSwap HXY.out.1 HXY.out.2,turnSwap Wd.out.2.2 _ _ _ _⟩
                ·obtain ⟨x,hx⟩:∃ x,G[j]! = x:=⟨_,rfl⟩
                 obtain ⟨y,hy⟩:∃ y,G[a]! = y:=⟨_,rfl⟩
                 have hsz:=Wd.out.2.1
                 have c0:v.cell? ⟨g,j,none⟩=some (uv x):=by rw [<- hx]; exact Wd.out.1.cell (by omega)
                 have c1:v.cell? ⟨g,a,none⟩=some (uv y):=by rw [<- hy]; exact Wd.out.1.cell (by omega)
                 have f0:=Wd.out.1.thaw j;have f1:=Wd.out.1.thaw a
                 have z0:(0:Int)<=(j:Int):=by omega
                 have z1:(0:Int)<=(a:Int):=by omega
                 have z2:(j:Int)<(n:Int):=by omega
                 have z3:(a:Int)<(n:Int):=by omega
                 have nt:¬ j=a:=hja
                 have nt2:¬ a=j:=λ e=>nt e.symm
                 have HXY:Hid (G[j]! = x/\G[a]! = y):=⟨hx,hy⟩
                 clear hx hy hsz;go_wp2_with fail;go_region;go_wp2;refine bodyPost_ret (results_tmp2 rfl _ _ _) rfl ?_;rw [FIN.out];exact ⟨rfl,Wd.out.1.drewSwap HXY.out.1 HXY.out.2,turnSwap Wd.out.2.2 _ _ _ _⟩
               ·have ci:¬ (j:Int)<(i:Int):=by omega
                obtain ⟨jj,hjj⟩:∃ jj,j - 1=jj:=⟨_,rfl⟩
                have d1:(j:Int) - 1=(jj:Int):=by omega
                have d2:IntKind.i64.wrap (jj:Int)=(jj:Int):=by rw [IntKind.wrap_i64]; omega
                have FIN:Hid (partLoop ltU a (i+1) jj (swp G i j)=R0):=by
                 show _=R0;rw [<- VP.out,<- hjj];exact (part_go (by omega) FI.out FJ.out hc).symm
                have JJ:Hid (jj+1=j):=by show _=j; omega
                have ORD:Hid (i0<=i/\j<=j0):=⟨hst.1,hst.2.1⟩
                have hne:=hst.2.2;clear hjj hst
                obtain ⟨x,hx⟩:∃ x,G[i]! = x:=⟨_,rfl⟩
                obtain ⟨y,hy⟩:∃ y,G[j]! = y:=⟨_,rfl⟩
                have hsz:=Wd.out.2.1
                have c0:v.cell? ⟨g,i,none⟩=some (uv x):=by rw [<- hx]; exact Wd.out.1.cell (by omega)
                have c1:v.cell? ⟨g,j,none⟩=some (uv y):=by rw [<- hy]; exact Wd.out.1.cell (by omega)
                have f0:=Wd.out.1.thaw i;have f1:=Wd.out.1.thaw j
                have z0:(0:Int)<=(i:Int):=by omega
                have z1:(0:Int)<=(j:Int):=by omega
                have z2:(i:Int)<(n:Int):=by omega
                have z3:(j:Int)<(n:Int):=by omega
                have nt:¬ i=j:=hne
                have nt2:¬ j=i:=λ e=>nt e.symm
                have HXY:Hid (G[i]! = x/\G[j]! = y):=⟨hx,hy⟩
                clear hx hy hsz;go_wp2_with fail;go_region;go_wp2;go_roundg (go - 1)
                case measure=>have:=GO.out; have:=ORD.out; omega
                case rel=>exact ⟨i+1,jj,by go_num,rfl,by have:=GO.out; have:=ORD.out; have:=JJ.out; omega,by omega,by omega,by have:=JJ.out; omega,by have:=JJ.out; omega,swp G i j,FIN.out,Wd.out.1.drewSwap HXY.out.1 HXY.out.2,by rw [swp_size]; exact Wd.out.2.1,turnSwap Wd.out.2.2 _ _ _ _⟩
end Go.Proofs.YtjlokpjflgbgdaaGreat
