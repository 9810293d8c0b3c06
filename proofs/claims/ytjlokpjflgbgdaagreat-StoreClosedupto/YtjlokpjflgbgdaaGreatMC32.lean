/-
  Several texts, laid together.
-/
import Derived.Test.YtjlokpjflgbgdaaGreatMC04
import Derived.Sort.Defs
set_option maxHeartbeats 6400000
set_option maxRecDepth 100000
namespace Go.Proofs.YtjlokpjflgbgdaaGreat
open Go.RowKit Go.Sort
abbrev uv (x:UInt64):Value:=.int .u64 (x.toNat:Int)
def ltU (x y:UInt64):Bool:=decide (x<y)
def SR (w:World) (g:Nat) (d:Array UInt64):Prop:=∃ cur:Array Value,w.heap[g]? = some (.cells cur 56 (0,0))/\∀ i,i<d.size->cur[i]? = some (uv d[i]!)
section
variable {w w':World} {g:Nat} {d:Array UInt64}
theorem SR.lt (h:SR w g d):g<w.heap.size:=by
 obtain ⟨cur,h,_⟩:=h;exact (Array.getElem?_eq_some_iff.1 h).1
theorem SR.cell (h:SR w g d) {i:Nat} (hi:i<d.size):w.cell? ⟨g,i,none⟩=some (uv d[i]!):=by
 obtain ⟨cur,h1,h2⟩:=h;simp [World.cell?,h1,h2 i hi]
theorem SR.thaw (h:SR w g d) (i:Nat):w.frozen? ⟨g,i,none⟩=false:=by
 obtain ⟨cur,h1,h2⟩:=h;simp [World.frozen?,h1]
theorem SR.below (h:SR w g d) (hb:Below w.heap.size w w'):SR w' g d:=by
 have hl:=h.lt;obtain ⟨cur,h1,h2⟩:=h;exact ⟨cur,(hb.block g hl).trans h1,h2⟩
theorem SR.turned {S:Nat->Prop} (h:SR w g d) (ht:Turned S w w') (hS:¬ S g):SR w' g d:=by
 have hl:=h.lt;obtain ⟨cur,h1,h2⟩:=h;exact ⟨cur,(ht.block g hl hS).trans h1,h2⟩
theorem SR.set (h:SR w g d) (i:Nat) (x:UInt64):SR (w.setCell ⟨g,i,none⟩ (uv x)) g (d.setIfInBounds i x):=by
 obtain ⟨cur,h1,h2⟩:=h;refine ⟨cur.setIfInBounds i (uv x),?_,?_⟩
 ·simp [World.setCell,Array.getElem?_modify,h1]
 ·intro j hj
  have hj':j<d.size:=by simpa using hj
  have h3:=h2 j hj';have hjc:j<cur.size:=(Array.getElem?_eq_some_iff.1 h3).1;by_cases e:j=i
  ·subst e;simp [hjc,hj',getElem!_pos]
  ·rw [Array.getElem?_setIfInBounds_ne (Ne.symm e),h3]
   congr 2
   simp [getElem!_pos,hj',Ne.symm e]
theorem SR.swap (h:SR w g d) (i j:Nat):SR ((w.setCell ⟨g,i,none⟩ (uv d[j]!)).setCell ⟨g,j,none⟩ (uv d[i]!)) g (swp d i j):=(h.set i d[j]!).set j d[i]!
theorem swp_size (d:Array UInt64) (i j:Nat):(swp d i j).size=d.size:=by simp [swp]
theorem turn2 {S:Nat->Prop} {a:World} (h:Turned S a w) (hg:S g) (i j:Nat) (p q:Value):Turned S a ((w.setCell ⟨g,i,none⟩ p).setCell ⟨g,j,none⟩ q):=(h.setCell (.inl hg) p).setCell (.inl hg) q
end
theorem OwnG.sr {w:World} {base g n cap:Nat} {xs:List UInt64} (h:OwnG encU 56 w base (.slice (some ⟨g,0,none⟩) n cap) xs):SR w g xs.toArray/\xs.length=n:=by
 rcases h.2 with ⟨e,_⟩ | ⟨g',cap',cur,e,h1,h2,h3,h4,h5,h6⟩
 ·cases e
 ·cases e;refine ⟨⟨cur,h2,λ i hi=>?_⟩,rfl⟩
  have hi':i<xs.length:=by simpa using hi
  obtain ⟨b',off',e',_,hc⟩:=h.rdc.1 (by omega);cases e';have h7:=hc i xs[i] (List.getElem?_eq_getElem hi') 0 _ rfl
  have h8:w.cell? ⟨g,i,none⟩=some (uv xs[i]):=by simpa [encU] using h7
  have h9:w.cell? ⟨g,i,none⟩=cur[i]? := by simp [World.cell?,h2]
  rw [<- h9,h8]
  congr 2
  simp [getElem!_pos,hi']
theorem isNaN_any (x:Int) (w:World):Calls Tryz.prog 254 #[.int .u64 x] w λ e w'=>e=.returned (.bool false)/\w'=w:=by
 go_enter Tryz.func254,Tryz.ntmps254;go_wp2;go_ret;exact ⟨by simp,rfl⟩
theorem less_any (x y:UInt64) (f:Bool) (hf:ltU x y=f) (w:World):Calls Tryz.prog 210 #[uv x,uv y] w λ e w'=>e=.returned (.bool f)/\w'=w:=by
 have e:decide (x.toNat<y.toNat)=f:=by
  rw [<- hf];unfold ltU;rw [decide_eq_decide,UInt64.lt_iff_toNat_lt]
 have hx:=isNaN_any (x.toNat:Int) w;clear hf;go_enter Tryz.func210,Tryz.ntmps210;go_wp2_with fail;refine hx.mono ?_;rintro e1 w1 ⟨rfl,rfl⟩;clear hx;go_wp2;go_ret;exact ⟨by rw [<- e]; rfl,rfl⟩
end Go.Proofs.YtjlokpjflgbgdaaGreat

namespace Go.Proofs.YtjlokpjflgbgdaaGreat
open Go.RowKit Go.Sort
theorem insInner_stop {a j:Nat} {d:Array UInt64} (h:¬ a<j):insInner ltU a j d=d:=by
 cases j with
 | zero=>rfl
 | succ j =>
  unfold insInner;rw [if_neg];simp;omega
theorem insInner_step {a t:Nat} {d:Array UInt64} (h:a<t+1) (f:Bool) (hf:ltU d[t+1]! d[t]! = f):insInner ltU a (t+1) d=if f=true then insInner ltU a t (swp d (t+1) t) else d:=by
 rw [insInner,hf]
 have:(decide (t+1>a)&&f)=f:=by simp; omega
 cases f with
 | true=>simp [h]
 | false=>simp
theorem insOuter_step {a b i:Nat} {d:Array UInt64} (h:i<b):insOuter ltU a b i d=insOuter ltU a b (i+1) (insInner ltU a i d):=by
 rw [insOuter,if_pos h]
theorem insOuter_stop {a b i:Nat} {d:Array UInt64} (h:¬ i<b):insOuter ltU a b i d=d:=by
 rw [insOuter,if_neg h]
theorem less_cls {wr:World} (x y:UInt64) (f:Bool) (hf:ltU x y=f) (u:SW (Grew wr)):Calls Tryz.prog 210 #[uv x,uv y] u.w λ e w'=>e=.returned (.bool f)/\∃ u':SW (Grew wr),w'=u'.w:=by
 refine (less_any x y f hf u.w).mono ?_;rintro e w' ⟨rfl,rfl⟩;exact ⟨rfl,u,rfl⟩
theorem ins_any {w:World} {g n c a b:Nat} {d:Array UInt64} (h:SR w g d) (hd:d.size=n) (hab:a<=b) (hb:b<=n) (hn:n<=4000000000000000000) :
  Calls Tryz.prog 204 #[.slice (some ⟨g,0,none⟩) n c,.int .i64 (a:Int),.int .i64 (b:Int)] w λ e w'=>e=.returned (.tuple #[])/\Hid (SR w' g (insertionSort ltU d a b)/\Turned (λ k=>k=g) w w'):=by
 obtain ⟨D,hD⟩:∃ D,insertionSort ltU d a b=D:=⟨_,rfl⟩
 rw [hD]
 have H:Hid (SR w g d/\d.size=n/\insOuter ltU a b (a+1) d=D):=⟨h,hd,hD⟩
 clear h hd hD;go_enter Tryz.func204,Tryz.ntmps204;go_wp2_with fail;go_loopg [6] (b - a) (λ k v wr=>∃ (i:Nat),v=.int .i64 i/\i+k=b+1/\a+1<=i/\Hid (∃ e:Array UInt64,e.size=n/\insOuter ltU a b i e=D/\SR wr g e/\Turned (λ k=>k=g) w wr))
 case atStart=>exact ⟨a+1,by go_num,by omega,Nat.le_refl _,d,H.out.2.1,H.out.2.2,H.out.1,Turned.refl _ _⟩
 case round =>
  obtain ⟨i,rfl,hi,hai,HR⟩:=hrel;obtain ⟨e0,s0,o0,r0,t0⟩:=HR.out;by_cases hin:i<b
  ·have id:(i:Int)<(b:Int):=by omega
   obtain ⟨go,hgo⟩:∃ go,go=gk:=⟨_,rfl⟩
   have GO:Hid (i+go=b+1/\go=gk):=⟨by rw [hgo]; exact hi,hgo⟩
   have G0:Hid (insOuter ltU a b (i+1) (insInner ltU a i e0)=D):=by
    show _=D;rw [<- insOuter_step hin];exact o0
   have W0:Hid (SR wr g e0/\e0.size=n/\Turned (λ k=>k=g) w wr):=⟨r0,s0,t0⟩
   clear HR r0 s0 t0 o0 hgo;go_wp2_with fail;go_loopg [7] i (λ k v wr=>v=.int .i64 (k:Int)/\k<=i/\Hid (∃ e:Array UInt64,e.size=n/\insInner ltU a k e=insInner ltU a i e0/\SR wr g e/\Turned (λ k=>k=g) w wr))
   case atStart=>exact ⟨rfl,Nat.le_refl _,e0,W0.out.2.1,rfl,W0.out.1,W0.out.2.2⟩
   case round =>
    obtain ⟨rfl,hki,HJ⟩:=hrel;obtain ⟨e1,s1,o1,r1,t1⟩:=HJ.out;by_cases haj:a<gk
    ·obtain ⟨t,ht⟩:∃ t,t+1=gk:=⟨gk - 1,by omega⟩
     obtain ⟨x,hx⟩:∃ x,e1[gk]! = x:=⟨_,rfl⟩
     obtain ⟨y,hy⟩:∃ y,e1[t]! = y:=⟨_,rfl⟩
     obtain ⟨f,hf⟩:∃ f,ltU x y=f:=⟨_,rfl⟩
     have hst:insInner ltU a gk e1=if f=true then insInner ltU a t (swp e1 gk t) else e1:=by
      subst ht;exact insInner_step haj f (by rw [hx,hy]; exact hf)
     have q0:∀ u:SW (Grew wr),u.w.cell? ⟨g,gk,none⟩=some (uv x):=λ u=>by rw [<- hx]; exact (r1.below u.ok).cell (by omega)
     have q1:∀ u:SW (Grew wr),u.w.cell? ⟨g,t,none⟩=some (uv y):=λ u=>by rw [<- hy]; exact (r1.below u.ok).cell (by omega)
     have hL:=λ u=>less_cls (wr:=wr) x y f hf u
     have NE:Nonempty (SW (Grew wr)):=⟨⟨wr,Below.refl _ wr⟩⟩
     have ja:(a:Int)<(gk:Int):=by omega
     have jd:decide ((a:Int)<(gk:Int))=true:=by simpa using ja
     have jd2:decide (a<gk)=true:=by simpa using haj
     have jn:(gk:Int)<(n:Int):=by omega
     have j0:(0:Int)<=(gk:Int):=by omega
     have jn2:(t:Int)<(n:Int):=by omega
     have js:(gk:Int) - 1=(t:Int):=by omega
     have jw:IntKind.i64.wrap (t:Int)=(t:Int):=by rw [IntKind.wrap_i64]; omega
     have J0:Hid (SR wr g e1/\e1.size=n/\Turned (λ k=>k=g) w wr/\e1[gk]! = x/\e1[t]! = y/\(if f=true then insInner ltU a t (swp e1 gk t) else e1)=insInner ltU a i e0/\t+1=gk/\gk<n):=⟨r1,s1,t1,hx,hy,by rw [<- hst]; exact o1,ht,by omega⟩
     clear HJ s1 o1 r1 t1 hst hx hy hf ht
     cases f with
     | true =>
      go_upto_region 4 with fail
      refine wp_region_class (S:=Grew wr) (by kernel_rfl) (by kernel_rfl) (Below.refl _ wr).drew ?_
      repeat (go_big_quiet_step (with_reducible exact hL _))
      refine wpQuiet_nil ?_;intro _ hw';obtain ⟨u,hw''⟩:=hw';subst hw''
      obtain ⟨w4,hw4⟩:∃ w4,w4=u.w:=⟨_,rfl⟩
      have BU:Hid (SR w4 g e1/\Turned (λ k=>k=g) w w4):=by
       rw [hw4];exact ⟨J0.out.1.below u.ok,J0.out.2.2.1.trans (Turned.ofBelow u.ok) (λ _ _ q=>q)⟩
      rw [<- hw4];clear hL q0 q1 NE hw4 u
      have c0:w4.cell? ⟨g,gk,none⟩=some (uv x):=by rw [<- J0.out.2.2.2.1]; exact BU.out.1.cell (by have:=J0.out.2.1; have:=J0.out.2.2.2.2.2.2; omega)
      have c1:w4.cell? ⟨g,t,none⟩=some (uv y):=by rw [<- J0.out.2.2.2.2.1]; exact BU.out.1.cell (by have:=J0.out.2.1; have:=J0.out.2.2.2.2.2.2; omega)
      have f0:=BU.out.1.thaw gk;have f1:=BU.out.1.thaw t
      have nt:¬ gk=t:=by have:=J0.out.2.2.2.2.2.2.1; omega
      go_wp2_with fail;go_region;go_wp2;go_roundg t
      case measure=>omega
      case rel =>
       have hs:=(BU.out.1.below (Below.refl _ w4).drew).swap gk t;rw [J0.out.2.2.2.1,J0.out.2.2.2.2.1] at hs;exact ⟨by go_num,by have:=J0.out.2.2.2.2.2.2.1; omega,swp e1 gk t,by rw [swp_size]; exact J0.out.2.1,by have:=J0.out.2.2.2.2.2.1; simpa using this,hs,turn2 (BU.out.2.trans (Turned.ofBelow (S:=λ _=>False) (Below.refl _ w4).drew) (λ _ _ q=>q.elim)) rfl _ _ _ _⟩
     | false =>
      go_upto_region 4 with fail
      refine wp_region_class (S:=Grew wr) (by kernel_rfl) (by kernel_rfl) (Below.refl _ wr).drew ?_
      repeat (go_big_quiet_step (with_reducible exact hL _))
      refine wpQuiet_nil ?_;intro _ hw';obtain ⟨u,hw''⟩:=hw';subst hw''
      obtain ⟨w4,hw4⟩:∃ w4,w4=u.w:=⟨_,rfl⟩
      have BU:Hid (SR w4 g e1/\Turned (λ k=>k=g) w w4):=by
       rw [hw4];exact ⟨J0.out.1.below u.ok,J0.out.2.2.1.trans (Turned.ofBelow u.ok) (λ _ _ q=>q)⟩
      rw [<- hw4];clear hL q0 q1 NE hw4 u
      have FIN:Hid (∃ e:Array UInt64,e.size=n/\insOuter ltU a b (i+1) e=D/\SR w4 g e/\Turned (λ k=>k=g) w w4):=by
       have q:=J0.out.2.2.2.2.2.1
       have q':e1=insInner ltU a i e0:=by simpa using q
       exact ⟨e1,J0.out.2.1,by rw [q']; exact G0.out,BU.out.1,BU.out.2⟩
      go_wp2;go_roundg (go - 1)
      case measure=>have:=GO.out; omega
      case rel=>exact ⟨i+1,by go_num,by have:=GO.out; omega,by omega,FIN.out⟩
    ·have q':e1=insInner ltU a i e0:=by rw [<- o1,insInner_stop haj]
     have FIN:Hid (∃ e:Array UInt64,e.size=n/\insOuter ltU a b (i+1) e=D/\SR wr g e/\Turned (λ k=>k=g) w wr):=⟨e1,s1,by rw [q']; exact G0.out,r1,t1⟩
     have ja:¬ (a:Int)<(gk:Int):=by omega
     have jd:decide ((a:Int)<(gk:Int))=false:=by simpa using ja
     clear HJ s1 o1 r1 t1 q';go_wp2_with fail;go_quiet (fail);go_wp2;go_roundg (go - 1)
     case measure=>have:=GO.out; omega
     case rel =>
      obtain ⟨e,q1,q2,q3,q4⟩:=FIN.out;have hq:=below_drewN (Below.refl wr.heap.size wr) nq;exact ⟨i+1,by go_num,by have:=GO.out; omega,by omega,e,q1,q2,q3.below hq,q4.trans (Turned.ofBelow (S:=λ _=>False) hq) (λ _ _ q=>q.elim)⟩
  ·have FIN:Hid (SR wr g D/\Turned (λ k=>k=g) w wr):=by
    have q:=insOuter_stop (a:=a) (d:=e0) hin;rw [q] at o0;rw [<- o0];exact ⟨r0,t0⟩
   clear HR r0 s0 t0 o0;go_wp2;refine bodyPost_end (v:=.tuple #[]) (results_none rfl _ _ _) rfl ?_;exact ⟨rfl,FIN⟩
end Go.Proofs.YtjlokpjflgbgdaaGreat

namespace Go.Proofs.YtjlokpjflgbgdaaGreat
open Go.RowKit Go.Sort
theorem rev_step {i j:Nat} {d:Array UInt64} (h:i<j):reverseLoop i j d=reverseLoop (i+1) (j - 1) (swp d i j):=by
 rw [reverseLoop,if_pos h]
theorem rev_stop {i j:Nat} {d:Array UInt64} (h:¬ i<j):reverseLoop i j d=d:=by
 rw [reverseLoop,if_neg h]
theorem SR.drewSwap {w:World} {g:Nat} {d:Array UInt64} (h:SR w g d) {i j:Nat} {x y:UInt64} (hx:d[i]! = x) (hy:d[j]! = y):SR ((w.drew.setCell ⟨g,i,none⟩ (uv y)).setCell ⟨g,j,none⟩ (uv x)) g (swp d i j):=by
 have hs:=(h.below (Below.refl _ w).drew).swap i j;rw [hx,hy] at hs;exact hs
theorem turnSwap {a w:World} {g:Nat} (h:Turned (λ k=>k=g) a w) (i j:Nat) (p q:Value):Turned (λ k=>k=g) a ((w.drew.setCell ⟨g,i,none⟩ p).setCell ⟨g,j,none⟩ q) :=
 turn2 (h.trans (Turned.ofBelow (S:=λ _=>False) (Below.refl _ w).drew) (λ _ _ q=>q.elim)) rfl _ _ _ _
theorem rev_any {w:World} {g n c a b:Nat} {d:Array UInt64} (h:SR w g d) (hd:d.size=n) (hab:a<b) (hb:b<=n) (hn:n<=4000000000000000000) :
  Calls Tryz.prog 208 #[.slice (some ⟨g,0,none⟩) n c,.int .i64 (a:Int),.int .i64 (b:Int)] w λ e w'=>e=.returned (.tuple #[])/\Hid (SR w' g (reverseRange d a b)/\Turned (λ k=>k=g) w w'):=by
 obtain ⟨D,hD⟩:∃ D,reverseRange d a b=D:=⟨_,rfl⟩
 rw [hD]
 have H:Hid (SR w g d/\d.size=n/\reverseLoop a (b - 1) d=D):=⟨h,hd,hD⟩
 have b1:(b:Int) - 1=((b - 1:Nat):Int):=by omega
 obtain ⟨bb,hbb⟩:∃ bb,b - 1=bb:=⟨_,rfl⟩
 rw [hbb] at b1 H
 have B1:Hid (bb+1=b):=by show _=b; omega
 have bw:IntKind.i64.wrap (bb:Int)=(bb:Int):=by rw [IntKind.wrap_i64]; omega
 clear h hd hD hbb;go_enter Tryz.func208,Tryz.ntmps208;go_wp2_with fail;go_loopg [6,7] b (λ k v6 v7 wr=>∃ i j:Nat,v6=.int .i64 i/\v7=.int .i64 j/\j<b/\j - i<=k/\i<=b/\Hid (∃ e:Array UInt64,e.size=n/\reverseLoop i j e=D/\SR wr g e/\Turned (λ k=>k=g) w wr))
 case atStart=>exact ⟨a,bb,rfl,rfl,by have:=B1.out; omega,by have:=B1.out; omega,by omega,d,H.out.2.1,H.out.2.2,H.out.1,Turned.refl _ _⟩
 case round =>
  obtain ⟨i,j,rfl,rfl,hjb,hk,hib,HR⟩:=hrel;obtain ⟨e1,s1,o1,r1,t1⟩:=HR.out;by_cases hij:i<j
  ·have id:(i:Int)<(j:Int):=by omega
   have id0:(0:Int)<=(i:Int):=by omega
   have jd0:(0:Int)<=(j:Int):=by omega
   have idn:(i:Int)<(n:Int):=by omega
   have jdn:(j:Int)<(n:Int):=by omega
   obtain ⟨x,hx⟩:∃ x,e1[i]! = x:=⟨_,rfl⟩
   obtain ⟨y,hy⟩:∃ y,e1[j]! = y:=⟨_,rfl⟩
   have c0:wr.cell? ⟨g,i,none⟩=some (uv x):=by rw [<- hx]; exact r1.cell (by omega)
   have c1:wr.cell? ⟨g,j,none⟩=some (uv y):=by rw [<- hy]; exact r1.cell (by omega)
   have f0:=r1.thaw i;have f1:=r1.thaw j
   have nt:¬ i=j:=by omega
   have nt2:¬ j=i:=by omega
   have js:(j:Int) - 1=((j - 1:Nat):Int):=by omega
   obtain ⟨jj,hjj⟩:∃ jj,j - 1=jj:=⟨_,rfl⟩
   rw [hjj] at js
   have jw:IntKind.i64.wrap (jj:Int)=(jj:Int):=by rw [IntKind.wrap_i64]; omega
   have J0:Hid (SR wr g e1/\e1.size=n/\Turned (λ k=>k=g) w wr/\e1[i]! = x/\e1[j]! = y/\reverseLoop (i+1) jj (swp e1 i j)=D/\jj+1=j):=⟨r1,s1,t1,hx,hy,by rw [<- hjj,<- rev_step hij]; exact o1,by omega⟩
   clear HR s1 o1 r1 t1 hx hy hjj;go_wp2_with fail;go_region;go_wp2;go_roundg (gk - 1)
   case measure=>omega
   case rel=>exact ⟨i+1,jj,by go_num,by go_num,by have:=J0.out.2.2.2.2.2.2; omega,by have:=J0.out.2.2.2.2.2.2; omega,by omega,swp e1 i j,by rw [swp_size]; exact J0.out.2.1,J0.out.2.2.2.2.2.1,J0.out.1.drewSwap J0.out.2.2.2.1 J0.out.2.2.2.2.1,turnSwap J0.out.2.2.1 _ _ _ _⟩
  ·have id:¬ (i:Int)<(j:Int):=by omega
   have FIN:Hid (SR wr g D/\Turned (λ k=>k=g) w wr):=by
    rw [rev_stop hij] at o1;rw [<- o1];exact ⟨r1,t1⟩
   clear HR r1 s1 t1 o1;go_wp2;refine bodyPost_end (v:=.tuple #[]) (results_none rfl _ _ _) rfl ?_;exact ⟨rfl,FIN⟩
end Go.Proofs.YtjlokpjflgbgdaaGreat

namespace Go.Proofs.YtjlokpjflgbgdaaGreat
open Go.RowKit Go.Sort
theorem sift_stop {hi F r:Nat} {d:Array UInt64} (h:2*r+1≥hi):siftDown ltU hi F r d=d:=by
 rw [siftDown,dif_pos h]
theorem sift_one {hi F r:Nat} {d:Array UInt64} (h:¬ 2*r+1≥hi) (h2:¬ (2*r+2<hi/\ltU d[F+(2*r+1)]! d[F+(2*r+2)]! = true)) (f:Bool) (hf:ltU d[F+r]! d[F+(2*r+1)]! = f) :
  siftDown ltU hi F r d=if f=true then siftDown ltU hi F (2*r+1) (swp d (F+r) (F+(2*r+1))) else d:=by
 rw [siftDown,dif_neg h]
 have e:(decide (2*r+1+1<hi)&&ltU d[F+(2*r+1)]! d[F+(2*r+1)+1]!)=false:=by
  rw [Bool.and_eq_false_iff];by_cases q:2*r+2<hi
  ·right
   have:F+(2*r+1)+1=F+(2*r+2):=by omega
   rw [this]
   cases k:ltU d[F+(2*r+1)]! d[F+(2*r+2)]! with
   | true=>exact absurd ⟨q,k⟩ h2
   | false=>rfl
  ·left
   simp;omega
 rw [e,hf]
 cases f <;> simp
theorem sift_two {hi F r:Nat} {d:Array UInt64} (h:2*r+2<hi) (h2:ltU d[F+(2*r+1)]! d[F+(2*r+2)]! = true) (f:Bool) (hf:ltU d[F+r]! d[F+(2*r+2)]! = f) :
  siftDown ltU hi F r d=if f=true then siftDown ltU hi F (2*r+2) (swp d (F+r) (F+(2*r+2))) else d:=by
 rw [siftDown,dif_neg (by omega)]
 have e:(decide (2*r+1+1<hi)&&ltU d[F+(2*r+1)]! d[F+(2*r+1)+1]!)=true:=by
  have:F+(2*r+1)+1=F+(2*r+2):=by omega
  rw [this,h2];simp;omega
 rw [e,hf]
 cases f <;> simp [h]
theorem sift_any {w:World} {g n c lo hi F:Nat} {d:Array UInt64} (h:SR w g d) (hd:d.size=n) (hb:F+hi<=n) (hl:lo<=n) (hn:n<=1000000000000) :
  Calls Tryz.prog 249 #[.slice (some ⟨g,0,none⟩) n c,.int .i64 (lo:Int),.int .i64 (hi:Int),.int .i64 (F:Int)] w λ e w'=>e=.returned (.tuple #[])/\Hid (SR w' g (siftDown ltU hi F lo d)/\Turned (λ k=>k=g) w w'):=by
 obtain ⟨D,hD⟩:∃ D,siftDown ltU hi F lo d=D:=⟨_,rfl⟩
 rw [hD]
 have H:Hid (SR w g d/\d.size=n/\siftDown ltU hi F lo d=D):=⟨h,hd,hD⟩
 clear h hd hD;go_enter Tryz.func249,Tryz.ntmps249;go_wp2_with fail;go_loopg [8] (n+hi) (λ k v wr=>∃ r:Nat,v=.int .i64 r/\hi - r<=k/\r<=n+hi/\Hid (∃ e:Array UInt64,e.size=n/\siftDown ltU hi F r e=D/\SR wr g e/\Turned (λ k=>k=g) w wr))
 case atStart=>exact ⟨lo,rfl,by omega,by omega,d,H.out.2.1,H.out.2.2,H.out.1,Turned.refl _ _⟩
 case round =>
  obtain ⟨r,rfl,hk,hrn,HR⟩:=hrel;obtain ⟨e1,s1,o1,r1,t1⟩:=HR.out
  have m2:(2:Int)*(r:Int)=((2*r:Nat):Int):=by omega
  obtain ⟨c1,hc1⟩:∃ c1,2*r+1=c1:=⟨_,rfl⟩
  have w2:IntKind.i64.wrap (2*(r:Int))=2*(r:Int):=by rw [IntKind.wrap_i64]; omega
  have a2:2*(r:Int)+1=(c1:Int):=by omega
  have w3:IntKind.i64.wrap (c1:Int)=(c1:Int):=by rw [IntKind.wrap_i64]; omega
  clear m2;by_cases hc:hi<=c1
  ·have hd1:(hi:Int)<=(c1:Int):=by omega
   have FIN:Hid (SR wr g D/\Turned (λ k=>k=g) w wr):=by
    rw [sift_stop (by omega)] at o1;rw [<- o1];exact ⟨r1,t1⟩
   clear HR r1 s1 t1 o1 hc1;go_wp2
   first | (refine bodyPost_ret (v:=.tuple #[]) (results_none rfl _ _ _) rfl ?_) | (refine bodyPost_end (v:=.tuple #[]) (results_none rfl _ _ _) rfl ?_)
   exact ⟨rfl,FIN⟩
  ·have hd1:¬ (hi:Int)<=(c1:Int):=by omega
   obtain ⟨c2,hc2⟩:∃ c2,2*r+2=c2:=⟨_,rfl⟩
   have a3:(c1:Int)+1=(c2:Int):=by omega
   have w4:IntKind.i64.wrap (c2:Int)=(c2:Int):=by rw [IntKind.wrap_i64]; omega
   have GK:Hid (hi - r<=gk/\r<c1/\c1<c2/\c1<hi/\c2<=n+hi):=⟨hk,by omega,by omega,by omega,by omega⟩
   by_cases hc3:c2<hi
   ·have hd3:(c2:Int)<(hi:Int):=by omega
    have hd3':decide ((c2:Int)<(hi:Int))=true:=by simpa using hd3
    have hd3'':decide (c2<hi)=true:=by simpa using hc3
    obtain ⟨p1,hp1⟩:∃ p1,F+c1=p1:=⟨_,rfl⟩
    obtain ⟨p2,hp2⟩:∃ p2,F+c2=p2:=⟨_,rfl⟩
    have i1:(F:Int)+(c1:Int)=(p1:Int):=by omega
    have i2:(p1:Int)+1=(p2:Int):=by omega
    have v1:IntKind.i64.wrap (p1:Int)=(p1:Int):=by rw [IntKind.wrap_i64]; omega
    have v2:IntKind.i64.wrap (p2:Int)=(p2:Int):=by rw [IntKind.wrap_i64]; omega
    have n1:(p1:Int)<(n:Int):=by omega
    have n2:(p2:Int)<(n:Int):=by omega
    obtain ⟨x,hx⟩:∃ x,e1[p1]! = x:=⟨_,rfl⟩
    obtain ⟨y,hy⟩:∃ y,e1[p2]! = y:=⟨_,rfl⟩
    obtain ⟨f,hf⟩:∃ f,ltU x y=f:=⟨_,rfl⟩
    have q0:∀ u:SW (Grew wr),u.w.cell? ⟨g,p1,none⟩=some (uv x):=λ u=>by rw [<- hx]; exact (r1.below u.ok).cell (by omega)
    have q1:∀ u:SW (Grew wr),u.w.cell? ⟨g,p2,none⟩=some (uv y):=λ u=>by rw [<- hy]; exact (r1.below u.ok).cell (by omega)
    have hL:=λ u=>less_cls (wr:=wr) x y f hf u
    have NE:Nonempty (SW (Grew wr)):=⟨⟨wr,Below.refl _ wr⟩⟩
    have J0:Hid (e1.size=n/\SR wr g e1/\Turned (λ k=>k=g) w wr):=⟨s1,r1,t1⟩
    cases f with
    | true =>
     have SD:Hid (∀ h:Bool,ltU e1[F+r]! e1[F+c2]! = h->(if h=true then siftDown ltU hi F c2 (swp e1 (F+r) (F+c2)) else e1)=D):=by
      intro h hh;rw [<- hc2] at hh ⊢;rw [<- sift_two (by omega) (by rw [hc1,hc2,hp1,hp2,hx,hy]; exact hf) h hh];exact o1
     clear HR s1 o1 r1 t1 hx hy hf hp1 hp2 hc1 hc2
     go_upto_region 3 with fail
     refine wp_region_class (S:=Grew wr) (by kernel_rfl) (by kernel_rfl) (Below.refl _ wr).drew ?_
     repeat (go_big_quiet_step (with_reducible exact hL _))
     refine wpQuiet_nil ?_;intro _ hw';obtain ⟨u,hw''⟩:=hw';subst hw''
     obtain ⟨w5,hw5⟩:∃ w5,w5=u.w:=⟨_,rfl⟩
     have B5:Hid (SR w5 g e1/\Turned (λ k=>k=g) w w5):=by
      rw [hw5];exact ⟨J0.out.2.1.below u.ok,J0.out.2.2.trans (Turned.ofBelow u.ok) (λ _ _ q=>q)⟩
     rw [<- hw5];clear hL q0 q1 NE hw5 u i1 i2 v1 v2 n1 n2
     obtain ⟨z,hz⟩:∃ z,e1[F+r]! = z:=⟨_,rfl⟩
     obtain ⟨v,hv⟩:∃ v,e1[F+c2]! = v:=⟨_,rfl⟩
     obtain ⟨h,hh⟩:∃ h,ltU z v=h:=⟨_,rfl⟩
     obtain ⟨pr,hpr⟩:∃ pr,F+r=pr:=⟨_,rfl⟩
     obtain ⟨pc,hpc⟩:∃ pc,F+c2=pc:=⟨_,rfl⟩
     have HP:Hid (pr<n/\pc<n/\pr≠pc/\F+r=pr/\F+c2=pc):=⟨by omega,by omega,by omega,hpr,hpc⟩
     have ipr:(F:Int)+(r:Int)=(pr:Int):=by omega
     have ipc:(F:Int)+(c2:Int)=(pc:Int):=by omega
     have wpr:IntKind.i64.wrap (pr:Int)=(pr:Int):=by rw [IntKind.wrap_i64]; omega
     have wpc:IntKind.i64.wrap (pc:Int)=(pc:Int):=by rw [IntKind.wrap_i64]; omega
     have npr:(pr:Int)<(n:Int):=by omega
     have npc:(pc:Int)<(n:Int):=by omega
     rw [hpr] at hz;rw [hpc] at hv
     have Q0:∀ u:SW (Grew w5),u.w.cell? ⟨g,pr,none⟩=some (uv z):=λ u=>by rw [<- hz]; exact (B5.out.1.below u.ok).cell (by have:=J0.out.1; omega)
     have Q1:∀ u:SW (Grew w5),u.w.cell? ⟨g,pc,none⟩=some (uv v):=λ u=>by rw [<- hv]; exact (B5.out.1.below u.ok).cell (by have:=J0.out.1; omega)
     have hL:=λ u=>less_cls (wr:=w5) z v h hh u
     have NE:Nonempty (SW (Grew w5)):=⟨⟨w5,Below.refl _ w5⟩⟩
     have ST:Hid ((if h=true then siftDown ltU hi F c2 (swp e1 pr pc) else e1)=D/\e1[pr]! = z/\e1[pc]! = v):=⟨by rw [<- hpr,<- hpc]; exact SD.out h (by rw [hpr,hpc,hz,hv]; exact hh),hz,hv⟩
     clear hz hv hh hpr hpc SD
     cases h with
     | true =>
      go_upto_region 5 with fail
      refine wp_region_class (S:=Grew w5) (by kernel_rfl) (by kernel_rfl) (Below.refl _ w5).drew ?_
      repeat (go_big_quiet_step (with_reducible exact hL _))
      refine wpQuiet_nil ?_;intro _ hw';obtain ⟨u,hw''⟩:=hw';subst hw''
      obtain ⟨w6,hw6⟩:∃ w6,w6=u.w:=⟨_,rfl⟩
      have BU:Hid (SR w6 g e1/\Turned (λ k=>k=g) w w6):=by
       rw [hw6];exact ⟨B5.out.1.below u.ok,B5.out.2.trans (Turned.ofBelow u.ok) (λ _ _ q=>q)⟩
      rw [<- hw6];clear hL Q0 Q1 NE hw6 u
      have k0:w6.cell? ⟨g,pr,none⟩=some (uv z):=by rw [<- ST.out.2.1]; exact BU.out.1.cell (by have:=J0.out.1; have:=HP.out; omega)
      have k1:w6.cell? ⟨g,pc,none⟩=some (uv v):=by rw [<- ST.out.2.2]; exact BU.out.1.cell (by have:=J0.out.1; have:=HP.out; omega)
      have f0:=BU.out.1.thaw pr;have f1:=BU.out.1.thaw pc;have nt:¬ pr=pc:=HP.out.2.2.1
      have nt2:¬ pc=pr:=λ q=>HP.out.2.2.1 q.symm
      go_wp2_with fail;go_region;go_wp2;go_roundg (gk - 1)
      case measure=>have:=GK.out; omega
      case rel=>exact ⟨c2,by go_num,by have:=GK.out; omega,by have:=GK.out; omega,swp e1 pr pc,by rw [swp_size]; exact J0.out.1,by have:=ST.out.1; simpa using this,BU.out.1.drewSwap ST.out.2.1 ST.out.2.2,turnSwap BU.out.2 _ _ _ _⟩
     | false =>
      go_upto_region 5 with fail
      refine wp_region_class (S:=Grew w5) (by kernel_rfl) (by kernel_rfl) (Below.refl _ w5).drew ?_
      repeat (go_big_quiet_step (with_reducible exact hL _))
      refine wpQuiet_nil ?_;intro _ hw';obtain ⟨u,hw''⟩:=hw';subst hw''
      have BU:Hid (SR u.w g D/\Turned (λ k=>k=g) w u.w):=by
       have q:e1=D:=by have:=ST.out.1; simpa using this
       rw [<- q];exact ⟨B5.out.1.below u.ok,B5.out.2.trans (Turned.ofBelow u.ok) (λ _ _ q=>q)⟩
      clear hL Q0 Q1 NE;go_wp2
      first | (refine bodyPost_ret (v:=.tuple #[]) (results_none rfl _ _ _) rfl ?_) | (refine bodyPost_end (v:=.tuple #[]) (results_none rfl _ _ _) rfl ?_)
      exact ⟨rfl,BU⟩
    | false =>
     have SD:Hid (∀ h:Bool,ltU e1[F+r]! e1[F+c1]! = h->(if h=true then siftDown ltU hi F c1 (swp e1 (F+r) (F+c1)) else e1)=D):=by
      intro h hh;rw [<- hc1] at hh ⊢;rw [<- sift_one (by omega) (by rw [hc1,hc2,hp1,hp2,hx,hy,hf]; simp) h hh];exact o1
     clear HR s1 o1 r1 t1 hx hy hf hp1 hp2 hc1 hc2
     go_upto_region 3 with fail
     refine wp_region_class (S:=Grew wr) (by kernel_rfl) (by kernel_rfl) (Below.refl _ wr).drew ?_
     repeat (go_big_quiet_step (with_reducible exact hL _))
     refine wpQuiet_nil ?_;intro _ hw';obtain ⟨u,hw''⟩:=hw';subst hw''
     obtain ⟨w5,hw5⟩:∃ w5,w5=u.w:=⟨_,rfl⟩
     have B5:Hid (SR w5 g e1/\Turned (λ k=>k=g) w w5):=by
      rw [hw5];exact ⟨J0.out.2.1.below u.ok,J0.out.2.2.trans (Turned.ofBelow u.ok) (λ _ _ q=>q)⟩
     rw [<- hw5];clear hL q0 q1 NE hw5 u i1 i2 v1 v2 n1 n2
     obtain ⟨z,hz⟩:∃ z,e1[F+r]! = z:=⟨_,rfl⟩
     obtain ⟨v,hv⟩:∃ v,e1[F+c1]! = v:=⟨_,rfl⟩
     obtain ⟨h,hh⟩:∃ h,ltU z v=h:=⟨_,rfl⟩
     obtain ⟨pr,hpr⟩:∃ pr,F+r=pr:=⟨_,rfl⟩
     obtain ⟨pc,hpc⟩:∃ pc,F+c1=pc:=⟨_,rfl⟩
     have HP:Hid (pr<n/\pc<n/\pr≠pc/\F+r=pr/\F+c1=pc):=⟨by omega,by omega,by omega,hpr,hpc⟩
     have ipr:(F:Int)+(r:Int)=(pr:Int):=by omega
     have ipc:(F:Int)+(c1:Int)=(pc:Int):=by omega
     have wpr:IntKind.i64.wrap (pr:Int)=(pr:Int):=by rw [IntKind.wrap_i64]; omega
     have wpc:IntKind.i64.wrap (pc:Int)=(pc:Int):=by rw [IntKind.wrap_i64]; omega
     have npr:(pr:Int)<(n:Int):=by omega
     have npc:(pc:Int)<(n:Int):=by omega
     rw [hpr] at hz;rw [hpc] at hv
     have Q0:∀ u:SW (Grew w5),u.w.cell? ⟨g,pr,none⟩=some (uv z):=λ u=>by rw [<- hz]; exact (B5.out.1.below u.ok).cell (by have:=J0.out.1; omega)
     have Q1:∀ u:SW (Grew w5),u.w.cell? ⟨g,pc,none⟩=some (uv v):=λ u=>by rw [<- hv]; exact (B5.out.1.below u.ok).cell (by have:=J0.out.1; omega)
     have hL:=λ u=>less_cls (wr:=w5) z v h hh u
     have NE:Nonempty (SW (Grew w5)):=⟨⟨w5,Below.refl _ w5⟩⟩
     have ST:Hid ((if h=true then siftDown ltU hi F c1 (swp e1 pr pc) else e1)=D/\e1[pr]! = z/\e1[pc]! = v):=⟨by rw [<- hpr,<- hpc]; exact SD.out h (by rw [hpr,hpc,hz,hv]; exact hh),hz,hv⟩
     clear hz hv hh hpr hpc SD
     cases h with
     | true =>
      go_upto_region 5 with fail
      refine wp_region_class (S:=Grew w5) (by kernel_rfl) (by kernel_rfl) (Below.refl _ w5).drew ?_
      repeat (go_big_quiet_step (with_reducible exact hL _))
      refine wpQuiet_nil ?_;intro _ hw';obtain ⟨u,hw''⟩:=hw';subst hw''
      obtain ⟨w6,hw6⟩:∃ w6,w6=u.w:=⟨_,rfl⟩
      have BU:Hid (SR w6 g e1/\Turned (λ k=>k=g) w w6):=by
       rw [hw6];exact ⟨B5.out.1.below u.ok,B5.out.2.trans (Turned.ofBelow u.ok) (λ _ _ q=>q)⟩
      rw [<- hw6];clear hL Q0 Q1 NE hw6 u
      have k0:w6.cell? ⟨g,pr,none⟩=some (uv z):=by rw [<- ST.out.2.1]; exact BU.out.1.cell (by have:=J0.out.1; have:=HP.out; omega)
      have k1:w6.cell? ⟨g,pc,none⟩=some (uv v):=by rw [<- ST.out.2.2]; exact BU.out.1.cell (by have:=J0.out.1; have:=HP.out; omega)
      have f0:=BU.out.1.thaw pr;have f1:=BU.out.1.thaw pc;have nt:¬ pr=pc:=HP.out.2.2.1
      have nt2:¬ pc=pr:=λ q=>HP.out.2.2.1 q.symm
      go_wp2_with fail;go_region;go_wp2;go_roundg (gk - 1)
      case measure=>have:=GK.out; omega
      case rel=>exact ⟨c1,by go_num,by have:=GK.out; omega,by have:=GK.out; omega,swp e1 pr pc,by rw [swp_size]; exact J0.out.1,by have:=ST.out.1; simpa using this,BU.out.1.drewSwap ST.out.2.1 ST.out.2.2,turnSwap BU.out.2 _ _ _ _⟩
     | false =>
      go_upto_region 5 with fail
      refine wp_region_class (S:=Grew w5) (by kernel_rfl) (by kernel_rfl) (Below.refl _ w5).drew ?_
      repeat (go_big_quiet_step (with_reducible exact hL _))
      refine wpQuiet_nil ?_;intro _ hw';obtain ⟨u,hw''⟩:=hw';subst hw''
      have BU:Hid (SR u.w g D/\Turned (λ k=>k=g) w u.w):=by
       have q:e1=D:=by have:=ST.out.1; simpa using this
       rw [<- q];exact ⟨B5.out.1.below u.ok,B5.out.2.trans (Turned.ofBelow u.ok) (λ _ _ q=>q)⟩
      clear hL Q0 Q1 NE;go_wp2
      first | (refine bodyPost_ret (v:=.tuple #[]) (results_none rfl _ _ _) rfl ?_) | (refine bodyPost_end (v:=.tuple #[]) (results_none rfl _ _ _) rfl ?_)
      exact ⟨rfl,BU⟩
   ·have hd3:¬ (c2:Int)<(hi:Int):=by omega
    have hd3':decide ((c2:Int)<(hi:Int))=false:=by simpa using hd3
    have hd3'':decide (c2<hi)=false:=by simpa using hc3
    have J0:Hid (e1.size=n):=s1
    have SD:Hid (∀ h:Bool,ltU e1[F+r]! e1[F+c1]! = h->(if h=true then siftDown ltU hi F c1 (swp e1 (F+r) (F+c1)) else e1)=D):=by
     intro h hh;rw [<- hc1] at hh ⊢;rw [<- sift_one (by omega) (by omega) h hh];exact o1
    have R1:Hid (SR wr g e1/\Turned (λ k=>k=g) w wr):=⟨r1,t1⟩
    clear HR s1 o1 r1 t1 hc1 hc2
    go_upto_region 3 with fail
    go_quiet (fail)
    obtain ⟨w5,hw5⟩:∃ w5,w5=wr.drewN nq:=⟨_,rfl⟩
    have B5:Hid (SR w5 g e1/\Turned (λ k=>k=g) w w5):=by
     rw [hw5];have hq:=below_drewN (Below.refl wr.heap.size wr) nq;exact ⟨R1.out.1.below hq,R1.out.2.trans (Turned.ofBelow (S:=λ _=>False) hq) (λ _ _ q=>q.elim)⟩
    rw [<- hw5];clear hw5
    obtain ⟨z,hz⟩:∃ z,e1[F+r]! = z:=⟨_,rfl⟩
    obtain ⟨v,hv⟩:∃ v,e1[F+c1]! = v:=⟨_,rfl⟩
    obtain ⟨h,hh⟩:∃ h,ltU z v=h:=⟨_,rfl⟩
    obtain ⟨pr,hpr⟩:∃ pr,F+r=pr:=⟨_,rfl⟩
    obtain ⟨pc,hpc⟩:∃ pc,F+c1=pc:=⟨_,rfl⟩
    have HP:Hid (pr<n/\pc<n/\pr≠pc/\F+r=pr/\F+c1=pc):=⟨by omega,by omega,by omega,hpr,hpc⟩
    have ipr:(F:Int)+(r:Int)=(pr:Int):=by omega
    have ipc:(F:Int)+(c1:Int)=(pc:Int):=by omega
    have wpr:IntKind.i64.wrap (pr:Int)=(pr:Int):=by rw [IntKind.wrap_i64]; omega
    have wpc:IntKind.i64.wrap (pc:Int)=(pc:Int):=by rw [IntKind.wrap_i64]; omega
    have npr:(pr:Int)<(n:Int):=by omega
    have npc:(pc:Int)<(n:Int):=by omega
    rw [hpr] at hz;rw [hpc] at hv
    have Q0:∀ u:SW (Grew w5),u.w.cell? ⟨g,pr,none⟩=some (uv z):=λ u=>by rw [<- hz]; exact (B5.out.1.below u.ok).cell (by have:=J0.out; omega)
    have Q1:∀ u:SW (Grew w5),u.w.cell? ⟨g,pc,none⟩=some (uv v):=λ u=>by rw [<- hv]; exact (B5.out.1.below u.ok).cell (by have:=J0.out; omega)
    have hL:=λ u=>less_cls (wr:=w5) z v h hh u
    have NE:Nonempty (SW (Grew w5)):=⟨⟨w5,Below.refl _ w5⟩⟩
    have ST:Hid ((if h=true then siftDown ltU hi F c1 (swp e1 pr pc) else e1)=D/\e1[pr]! = z/\e1[pc]! = v):=⟨by rw [<- hpr,<- hpc]; exact SD.out h (by rw [hpr,hpc,hz,hv]; exact hh),hz,hv⟩
    clear hz hv hh hpr hpc SD
    cases h with
    | true =>
     go_upto_region 5 with fail
     refine wp_region_class (S:=Grew w5) (by kernel_rfl) (by kernel_rfl) (Below.refl _ w5).drew ?_
     repeat (go_big_quiet_step (with_reducible exact hL _))
     refine wpQuiet_nil ?_;intro _ hw';obtain ⟨u,hw''⟩:=hw';subst hw''
     obtain ⟨w6,hw6⟩:∃ w6,w6=u.w:=⟨_,rfl⟩
     have BU:Hid (SR w6 g e1/\Turned (λ k=>k=g) w w6):=by
      rw [hw6];exact ⟨B5.out.1.below u.ok,B5.out.2.trans (Turned.ofBelow u.ok) (λ _ _ q=>q)⟩
     rw [<- hw6];clear hL Q0 Q1 NE hw6 u
     have k0:w6.cell? ⟨g,pr,none⟩=some (uv z):=by rw [<- ST.out.2.1]; exact BU.out.1.cell (by have:=J0.out; have:=HP.out; omega)
     have k1:w6.cell? ⟨g,pc,none⟩=some (uv v):=by rw [<- ST.out.2.2]; exact BU.out.1.cell (by have:=J0.out; have:=HP.out; omega)
     have f0:=BU.out.1.thaw pr;have f1:=BU.out.1.thaw pc;have nt:¬ pr=pc:=HP.out.2.2.1
     have nt2:¬ pc=pr:=λ q=>HP.out.2.2.1 q.symm
     go_wp2_with fail;go_region;go_wp2;go_roundg (gk - 1)
     case measure=>have:=GK.out; omega
     case rel=>exact ⟨c1,by go_num,by have:=GK.out; omega,by have:=GK.out; omega,swp e1 pr pc,by rw [swp_size]; exact J0.out,by have:=ST.out.1; simpa using this,BU.out.1.drewSwap ST.out.2.1 ST.out.2.2,turnSwap BU.out.2 _ _ _ _⟩
    | false =>
     go_upto_region 5 with fail
     refine wp_region_class (S:=Grew w5) (by kernel_rfl) (by kernel_rfl) (Below.refl _ w5).drew ?_
     repeat (go_big_quiet_step (with_reducible exact hL _))
     refine wpQuiet_nil ?_;intro _ hw';obtain ⟨u,hw''⟩:=hw';subst hw''
     have BU:Hid (SR u.w g D/\Turned (λ k=>k=g) w u.w):=by
      have q:e1=D:=by have:=ST.out.1; simpa using this
      rw [<- q];exact ⟨B5.out.1.below u.ok,B5.out.2.trans (Turned.ofBelow u.ok) (λ _ _ q=>q)⟩
     clear hL Q0 Q1 NE;go_wp2
     first | (refine bodyPost_ret (v:=.tuple #[]) (results_none rfl _ _ _) rfl ?_) | (refine bodyPost_end (v:=.tuple #[]) (results_none rfl _ _ _) rfl ?_)
     exact ⟨rfl,BU⟩
end Go.Proofs.YtjlokpjflgbgdaaGreat

namespace Go.Proofs.YtjlokpjflgbgdaaGreat
open Go.RowKit Go.Sort
theorem sift_size (hi F:Nat):∀ (m r:Nat) (d:Array UInt64),hi - r<=m->(siftDown ltU hi F r d).size=d.size:=by
 intro m
 induction m with
 | zero =>
  intro r d h;rw [sift_stop (by omega)]
 | succ m ih =>
  intro r d h;by_cases h1:2*r+1≥hi
  ·rw [sift_stop h1]
  ·by_cases h2:2*r+2<hi/\ltU d[F+(2*r+1)]! d[F+(2*r+2)]! = true
   ·rw [sift_two h2.1 h2.2 _ rfl]
    split
    ·rw [ih _ _ (by omega),swp_size]
    ·rfl
   ·rw [sift_one h1 h2 _ rfl]
    split
    ·rw [ih _ _ (by omega),swp_size]
    ·rfl
theorem sift_n {hi F r n:Nat} {d:Array UInt64} (h:d.size=n):(siftDown ltU hi F r d).size=n:=by rw [sift_size hi F _ r d (Nat.le_refl _),h]
theorem heap_any {w:World} {g n c a b:Nat} {d:Array UInt64} (h:SR w g d) (hd:d.size=n) (hab:a<b) (hb:b<=n) (hn:n<=1000000000000) :
  Calls Tryz.prog 205 #[.slice (some ⟨g,0,none⟩) n c,.int .i64 (a:Int),.int .i64 (b:Int)] w λ e w'=>e=.returned (.tuple #[])/\Hid (SR w' g (heapSort ltU d a b)/\Turned (λ k=>k=g) w w'):=by
 obtain ⟨D,hD⟩:∃ D,heapSort ltU d a b=D:=⟨_,rfl⟩
 rw [hD]
 obtain ⟨hi,hhi⟩:∃ hi,b - a=hi:=⟨_,rfl⟩
 obtain ⟨E1,hE1⟩:∃ E1,heapBuild ltU hi a ((hi - 1) / 2+1) d=E1:=⟨_,rfl⟩
 have H:Hid (SR w g d/\d.size=n/\heapBuild ltU hi a ((hi - 1) / 2+1) d=E1/\heapPop ltU a hi E1=D/\a+hi<=n/\1<=hi):=⟨h,hd,hE1,by rw [<- hD,<- hE1,<- hhi]; rfl,by omega,by omega⟩
 have s1:(b:Int) - (a:Int)=(hi:Int):=by omega
 have w1:IntKind.i64.wrap (hi:Int)=(hi:Int):=by rw [IntKind.wrap_i64]; omega
 obtain ⟨h1,hh1⟩:∃ h1,h1+1=hi:=⟨hi - 1,by omega⟩
 have s2:(hi:Int) - 1=(h1:Int):=by omega
 have w2:IntKind.i64.wrap (h1:Int)=(h1:Int):=by rw [IntKind.wrap_i64]; omega
 obtain ⟨hh,hhh⟩:∃ hh,h1 / 2=hh:=⟨_,rfl⟩
 have s3:(h1:Int).tdiv 2=(hh:Int):=by rw [<- hhh]; rfl
 have w3:IntKind.i64.wrap (hh:Int)=(hh:Int):=by rw [IntKind.wrap_i64]; omega
 have HH:Hid (h1+1=hi/\(hi - 1) / 2=hh/\hh<=n/\hi<=n):=⟨hh1,by omega,by omega,by omega⟩
 clear h hd hD hhi hE1 hh1 hhh;go_enter Tryz.func205,Tryz.ntmps205;go_wp2_with fail;go_loopg [9] (hh+1) (λ k v wr=>∃ z:Int,v=.int .i64 z/\k<=hh+1/\Hid (z=(k:Int) - 1/\∃ e:Array UInt64,e.size=n/\heapBuild ltU hi a k e=E1/\SR wr g e/\Turned (λ k=>k=g) w wr))
 case atStart=>exact ⟨_,rfl,Nat.le_refl _,by omega,d,H.out.2.1,by rw [<- HH.out.2.1]; exact H.out.2.2.1,H.out.1,Turned.refl _ _⟩
 case round =>
  obtain ⟨z,rfl,hk,HR⟩:=hrel;obtain ⟨hz,e1,z1,o1,r1,t1⟩:=HR.out
  cases gk with
  | succ t =>
   obtain rfl:z=(t:Int):=by omega
   have id:(0:Int)<=(t:Int):=by omega
   have hsi:=sift_any (c:=c) (lo:=t) (hi:=hi) (F:=a) r1 z1 H.out.2.2.2.2.1 (by have:=HH.out; omega) hn
   obtain ⟨tm,htm⟩:∃ tm:Int,(t:Int) - 1=tm:=⟨_,rfl⟩
   have wm:IntKind.i64.wrap tm=tm:=by have:=HH.out.2.2; rw [IntKind.wrap_i64]; omega
   have O1:Hid (heapBuild ltU hi a t (siftDown ltU hi a t e1)=E1/\(siftDown ltU hi a t e1).size=n/\Turned (λ k=>k=g) w wr/\(t:Int) - 1=tm):=⟨o1,sift_n z1,t1,htm⟩
   clear HR z1 o1 r1 t1 hz;go_wp2_with fail;refine hsi.mono ?_;rintro e w2 ⟨rfl,H2⟩;go_wp2;go_roundg t
   case measure=>omega
   case rel=>exact ⟨tm,by go_num,by omega,O1.out.2.2.2.symm,_,O1.out.2.1,O1.out.1,H2.out.1,O1.out.2.2.1.trans H2.out.2 (λ _ _ q=>q)⟩
  | zero =>
   obtain rfl:z = -1:=by omega
   have R1:Hid (E1.size=n/\SR wr g E1/\Turned (λ k=>k=g) w wr):=by
    have q:e1=E1:=o1;rw [<- q];exact ⟨z1,r1,t1⟩
   clear HR z1 o1 r1 t1 hz hk;go_wp2_with fail;go_loopg [10] hi (λ k v wr=>∃ z:Int,v=.int .i64 z/\k<=hi/\Hid (z=(k:Int) - 1/\∃ e:Array UInt64,e.size=n/\heapPop ltU a k e=D/\SR wr g e/\Turned (λ k=>k=g) w wr))
   case atStart=>exact ⟨_,rfl,Nat.le_refl _,by have:=HH.out.1; omega,E1,R1.out.1,H.out.2.2.2.1,R1.out.2.1,R1.out.2.2⟩
   case round =>
    obtain ⟨z,rfl,hk,HR⟩:=hrel;obtain ⟨hz,e1,z1,o1,r1,t1⟩:=HR.out
    cases gk with
    | succ t =>
     obtain rfl:z=(t:Int):=by omega
     have id:(0:Int)<=(t:Int):=by omega
     obtain ⟨pc,hpc⟩:∃ pc,a+t=pc:=⟨_,rfl⟩
     have ipc:(a:Int)+(t:Int)=(pc:Int):=by omega
     have PB:pc<n:=by have:=H.out.2.2.2.2; omega
     have AB:a<n:=by have:=H.out.2.2.2.2; omega
     have wpc:IntKind.i64.wrap (pc:Int)=(pc:Int):=by rw [IntKind.wrap_i64]; omega
     have npc:(pc:Int)<(n:Int):=by omega
     have npa:(a:Int)<(n:Int):=by omega
     obtain ⟨x,hx⟩:∃ x,e1[a]! = x:=⟨_,rfl⟩
     obtain ⟨y,hy⟩:∃ y,e1[pc]! = y:=⟨_,rfl⟩
     have k0:wr.cell? ⟨g,a,none⟩=some (uv x):=by rw [<- hx]; exact r1.cell (by omega)
     have k1:wr.cell? ⟨g,pc,none⟩=some (uv y):=by rw [<- hy]; exact r1.cell (by omega)
     have f0:=r1.thaw a;have f1:=r1.thaw pc
     have k2:(wr.setCell ⟨g,a,none⟩ (uv y)).cell? ⟨g,pc,none⟩=some (uv y):=by
      rw [(r1.set a y).cell (by simp; omega)]
      congr 2
      by_cases q:pc=a
      ·subst q;simp [getElem!_pos,AB,z1]
      ·rw [<- hy];simp [getElem!_pos,z1,PB,Ne.symm q]
     have f2:=(r1.set a y).thaw pc
     obtain ⟨tm,htm⟩:∃ tm:Int,(t:Int) - 1=tm:=⟨_,rfl⟩
     have wm:IntKind.i64.wrap tm=tm:=by have:=HH.out.2.2; rw [IntKind.wrap_i64]; omega
     obtain ⟨w5,hw5⟩:∃ w5,((wr.setCell ⟨g,a,none⟩ (uv y)).setCell ⟨g,pc,none⟩ (uv x)).drew=w5:=⟨_,rfl⟩
     have S5:Hid (SR w5 g (swp e1 a pc)/\Turned (λ k=>k=g) w w5):=by
      rw [<- hw5];exact ⟨r1.drewSwap hx hy,turnSwap t1 _ _ _ _⟩
     have hsi:=sift_any (c:=c) (lo:=0) (hi:=t) (F:=a) S5.out.1 (by rw [swp_size]; exact z1) (by have:=H.out.2.2.2.2; omega) (by omega) hn
     have O1:Hid (heapPop ltU a t (siftDown ltU t a 0 (swp e1 a pc))=D/\(siftDown ltU t a 0 (swp e1 a pc)).size=n/\(t:Int) - 1=tm):=⟨by rw [<- hpc]; exact o1,sift_n (by rw [swp_size]; exact z1),htm⟩
     have HW5:Hid _:=hw5;clear HR z1 o1 r1 t1 hz hpc hx hy hw5
     go_upto_region 10 with fail
     go_region
     all_goals
      try rw [HW5.out]
      go_wp2_with fail;refine hsi.mono ?_;rintro e w2 ⟨rfl,H2⟩;go_wp2;go_roundg t
      case measure=>omega
      case rel=>exact ⟨tm,by go_num,by omega,O1.out.2.2.symm,_,O1.out.2.1,O1.out.1,H2.out.1,S5.out.2.trans H2.out.2 (λ _ _ q=>q)⟩
    | zero =>
     obtain rfl:z = -1:=by omega
     have FIN:Hid (SR wr g D/\Turned (λ k=>k=g) w wr):=by
      have q:e1=D:=o1;rw [<- q];exact ⟨r1,t1⟩
     clear HR z1 o1 r1 t1 hz hk;go_wp2;refine bodyPost_end (v:=.tuple #[]) (results_none rfl _ _ _) rfl ?_;exact ⟨rfl,FIN⟩
end Go.Proofs.YtjlokpjflgbgdaaGreat
