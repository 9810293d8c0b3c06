/-
  Several texts, laid together.
-/
import Derived.Test.YtmhcpbbiokpjjaaGreatM34
set_option maxHeartbeats 6400000
set_option maxRecDepth 100000
namespace Go.Proofs.YtmhcpbbiokpjjaaGreat
open Go.RowKit Go.Sort
theorem ZdD {hi F r:Nat} {d:Array UInt64} (h:2*r+1≥hi):siftDown ltU hi F r d=d:=by
 rw [siftDown,dif_pos h]
theorem ZeG {hi F r:Nat} {d:Array UInt64} (h:¬ 2*r+1≥hi) (h2:¬ (2*r+2<hi/\ltU d[F+(2*r+1)]! d[F+(2*r+2)]! = true)) (f:Bool) (hf:ltU d[F+r]! d[F+(2*r+1)]! = f) :
  siftDown ltU hi F r d=if f=true then siftDown ltU hi F (2*r+1) (swp d (F+r) (F+(2*r+1))) else d:=by
 rw [siftDown,dif_neg h]
 have e:(decide (2*r+1+1<hi)&&ltU d[F+(2*r+1)]! d[F+(2*r+1)+1]!)=false:=by
  rw [Bool.and_eq_false_iff];by_cases q:2*r+2<hi
  ·right
   have:F+(2*r+1)+1=F+(2*r+2):=by omega
   rw [this]
   cases k:ltU d[F+(2*r+1)]! d[F+(2*r+2)]! with
   | true=>exact absurd ⟨q,k⟩ h2
   | false=>rfl
  ·left
   simp;omega
 rw [e,hf]
 cases f <;> simp
theorem Zhi {hi F r:Nat} {d:Array UInt64} (h:2*r+2<hi) (h2:ltU d[F+(2*r+1)]! d[F+(2*r+2)]! = true) (f:Bool) (hf:ltU d[F+r]! d[F+(2*r+2)]! = f) :
  siftDown ltU hi F r d=if f=true then siftDown ltU hi F (2*r+2) (swp d (F+r) (F+(2*r+2))) else d:=by
 rw [siftDown,dif_neg (by omega)]
 have e:(decide (2*r+1+1<hi)&&ltU d[F+(2*r+1)]! d[F+(2*r+1)+1]!)=true:=by
  have:F+(2*r+1)+1=F+(2*r+2):=by omega
  rw [this,h2];simp;omega
 rw [e,hf]
 cases f <;> simp [h]
theorem ZhF {w:World} {g n c lo hi F:Nat} {d:Array UInt64} (h:SR w g d) (hd:d.size=n) (hb:F+hi<=n) (hl:lo<=n) (hn:n<=1000000000000) :
  Calls Tryz.prog 233 #[.slice (some ⟨g,0,none⟩) n c,.int .i64 (lo:Int),.int .i64 (hi:Int),.int .i64 (F:Int)] w λ e w'=>e=.returned (.tuple #[])/\Hid (SR w' g (siftDown ltU hi F lo d)/\Zaa (λ k=>k=g) w w'):=by
 obtain ⟨D,hD⟩:∃ D,siftDown ltU hi F lo d=D:=⟨_,rfl⟩
 rw [hD]
 have H:Hid (SR w g d/\d.size=n/\siftDown ltU hi F lo d=D):=⟨h,hd,hD⟩
 clear h hd hD;go_enter Tryz.func233,Tryz.ntmps233;go_wp2_with fail;go_loopg [8] (n+hi) (λ k v wr=>∃ r:Nat,v=.int .i64 r/\hi - r<=k/\r<=n+hi/\Hid (∃ e:Array UInt64,e.size=n/\siftDown ltU hi F r e=D/\SR wr g e/\Zaa (λ k=>k=g) w wr))
 case atStart=>exact ⟨lo,rfl,by omega,by omega,d,H.out.2.1,H.out.2.2,H.out.1,Zaa.refl _ _⟩
 case round =>
  obtain ⟨r,rfl,hk,hrn,HR⟩:=hrel;obtain ⟨e1,s1,o1,r1,t1⟩:=HR.out
  have m2:(2:Int)*(r:Int)=((2*r:Nat):Int):=by omega
  obtain ⟨c1,hc1⟩:∃ c1,2*r+1=c1:=⟨_,rfl⟩
  have w2:IntKind.i64.wrap (2*(r:Int))=2*(r:Int):=by rw [IntKind.wrap_i64]; omega
  have a2:2*(r:Int)+1=(c1:Int):=by omega
  have w3:IntKind.i64.wrap (c1:Int)=(c1:Int):=by rw [IntKind.wrap_i64]; omega
  clear m2;by_cases hc:hi<=c1
  ·have hd1:(hi:Int)<=(c1:Int):=by omega
   have FIN:Hid (SR wr g D/\Zaa (λ k=>k=g) w wr):=by
    rw [ZdD (by omega)] at o1;rw [<- o1];exact ⟨r1,t1⟩
   clear HR r1 s1 t1 o1 hc1;go_wp2
   first | (refine bodyPost_ret (v:=.tuple #[]) (results_none rfl _ _ _) rfl ?_) | (refine bodyPost_end (v:=.tuple #[]) (results_none rfl _ _ _) rfl ?_)
   exact ⟨rfl,FIN⟩
  ·have hd1:¬ (hi:Int)<=(c1:Int):=by omega
   obtain ⟨c2,hc2⟩:∃ c2,2*r+2=c2:=⟨_,rfl⟩
   have a3:(c1:Int)+1=(c2:Int):=by omega
   have w4:IntKind.i64.wrap (c2:Int)=(c2:Int):=by rw [IntKind.wrap_i64]; omega
   have GK:Hid (hi - r<=gk/\r<c1/\c1<c2/\c1<hi/\c2<=n+hi):=⟨hk,by omega,by omega,by omega,by omega⟩
   by_cases hc3:c2<hi
   ·have hd3:(c2:Int)<(hi:Int):=by omega
    have hd3':decide ((c2:Int)<(hi:Int))=true:=by simpa using hd3
    have hd3'':decide (c2<hi)=true:=by simpa using hc3
    obtain ⟨p1,hp1⟩:∃ p1,F+c1=p1:=⟨_,rfl⟩
    obtain ⟨p2,hp2⟩:∃ p2,F+c2=p2:=⟨_,rfl⟩
    have i1:(F:Int)+(c1:Int)=(p1:Int):=by omega
    have i2:(p1:Int)+1=(p2:Int):=by omega
    have v1:IntKind.i64.wrap (p1:Int)=(p1:Int):=by rw [IntKind.wrap_i64]; omega
    have v2:IntKind.i64.wrap (p2:Int)=(p2:Int):=by rw [IntKind.wrap_i64]; omega
    have n1:(p1:Int)<(n:Int):=by omega
    have n2:(p2:Int)<(n:Int):=by omega
    obtain ⟨x,hx⟩:∃ x,e1[p1]! = x:=⟨_,rfl⟩
    obtain ⟨y,hy⟩:∃ y,e1[p2]! = y:=⟨_,rfl⟩
    obtain ⟨f,hf⟩:∃ f,ltU x y=f:=⟨_,rfl⟩
    have q0:∀ u:SW (Grew wr),u.w.cell? ⟨g,p1,none⟩=some (uv x):=λ u=>by rw [<- hx]; exact (r1.below u.ok).cell (by omega)
    have q1:∀ u:SW (Grew wr),u.w.cell? ⟨g,p2,none⟩=some (uv y):=λ u=>by rw [<- hy]; exact (r1.below u.ok).cell (by omega)
    have hL:=λ u=>Zax (wr:=wr) x y f hf u
    have NE:Nonempty (SW (Grew wr)):=⟨⟨wr,Below.refl _ wr⟩⟩
    have J0:Hid (e1.size=n/\SR wr g e1/\Zaa (λ k=>k=g) w wr):=⟨s1,r1,t1⟩
    cases f with
    | true =>
     have SD:Hid (∀ h:Bool,ltU e1[F+r]! e1[F+c2]! = h->(if h=true then siftDown ltU hi F c2 (swp e1 (F+r) (F+c2)) else e1)=D):=by
      intro h hh;rw [<- hc2] at hh ⊢;rw [<- Zhi (by omega) (by rw [hc1,hc2,hp1,hp2,hx,hy]; exact hf) h hh];exact o1
     clear HR s1 o1 r1 t1 hx hy hf hp1 hp2 hc1 hc2
     go_upto_region 3 with fail
     refine Zab (S:=Grew wr) (by kernel_rfl) (by kernel_rfl) (Below.refl _ wr).drew ?_
     repeat (go_big_quiet_step (with_reducible exact hL _))
     refine wpQuiet_nil ?_;intro _ hw';obtain ⟨u,hw''⟩:=hw';subst hw''
     obtain ⟨w5,hw5⟩:∃ w5,w5=u.w:=⟨_,rfl⟩
     have B5:Hid (SR w5 g e1/\Zaa (λ k=>k=g) w w5):=by
      rw [hw5];exact ⟨J0.out.2.1.below u.ok,J0.out.2.2.trans (Zaa.ofBelow u.ok) (λ _ _ q=>q)⟩
     rw [<- hw5];clear hL q0 q1 NE hw5 u i1 i2 v1 v2 n1 n2
     obtain ⟨z,hz⟩:∃ z,e1[F+r]! = z:=⟨_,rfl⟩
     obtain ⟨v,hv⟩:∃ v,e1[F+c2]! = v:=⟨_,rfl⟩
     obtain ⟨h,hh⟩:∃ h,ltU z v=h:=⟨_,rfl⟩
     obtain ⟨pr,hpr⟩:∃ pr,F+r=pr:=⟨_,rfl⟩
     obtain ⟨pc,hpc⟩:∃ pc,F+c2=pc:=⟨_,rfl⟩
     have HP:Hid (pr<n/\pc<n/\pr≠pc/\F+r=pr/\F+c2=pc):=⟨by omega,by omega,by omega,hpr,hpc⟩
     have ipr:(F:Int)+(r:Int)=(pr:Int):=by omega
     have ipc:(F:Int)+(c2:Int)=(pc:Int):=by omega
     have wpr:IntKind.i64.wrap (pr:Int)=(pr:Int):=by rw [IntKind.wrap_i64]; omega
     have wpc:IntKind.i64.wrap (pc:Int)=(pc:Int):=by rw [IntKind.wrap_i64]; omega
     have npr:(pr:Int)<(n:Int):=by omega
     have npc:(pc:Int)<(n:Int):=by omega
     rw [hpr] at hz;rw [hpc] at hv
     have Q0:∀ u:SW (Grew w5),u.w.cell? ⟨g,pr,none⟩=some (uv z):=λ u=>by rw [<- hz]; exact (B5.out.1.below u.ok).cell (by have:=J0.out.1; omega)
     have Q1:∀ u:SW (Grew w5),u.w.cell? ⟨g,pc,none⟩=some (uv v):=λ u=>by rw [<- hv]; exact (B5.out.1.below u.ok).cell (by have:=J0.out.1; omega)
     have hL:=λ u=>Zax (wr:=w5) z v h hh u
     have NE:Nonempty (SW (Grew w5)):=⟨⟨w5,Below.refl _ w5⟩⟩
     have ST:Hid ((if h=true then siftDown ltU hi F c2 (swp e1 pr pc) else e1)=D/\e1[pr]! = z/\e1[pc]! = v):=⟨by rw [<- hpr,<- hpc]; exact SD.out h (by rw [hpr,hpc,hz,hv]; exact hh),hz,hv⟩
     clear hz hv hh hpr hpc SD
     cases h with
     | true =>
      go_upto_region 5 with fail
      refine Zab (S:=Grew w5) (by kernel_rfl) (by kernel_rfl) (Below.refl _ w5).drew ?_
      repeat (go_big_quiet_step (with_reducible exact hL _))
      refine wpQuiet_nil ?_;intro _ hw';obtain ⟨u,hw''⟩:=hw';subst hw''
      obtain ⟨w6,hw6⟩:∃ w6,w6=u.w:=⟨_,rfl⟩
      have BU:Hid (SR w6 g e1/\Zaa (λ k=>k=g) w w6):=by
       rw [hw6];exact ⟨B5.out.1.below u.ok,B5.out.2.trans (Zaa.ofBelow u.ok) (λ _ _ q=>q)⟩
      rw [<- hw6];clear hL Q0 Q1 NE hw6 u
      have k0:w6.cell? ⟨g,pr,none⟩=some (uv z):=by rw [<- ST.out.2.1]; exact BU.out.1.cell (by have:=J0.out.1; have:=HP.out; omega)
      have k1:w6.cell? ⟨g,pc,none⟩=some (uv v):=by rw [<- ST.out.2.2]; exact BU.out.1.cell (by have:=J0.out.1; have:=HP.out; omega)
      have f0:=BU.out.1.thaw pr;have f1:=BU.out.1.thaw pc;have nt:¬ pr=pc:=HP.out.2.2.1
      have nt2:¬ pc=pr:=λ q=>HP.out.2.2.1 q.symm
      go_wp2_with fail;go_region;go_wp2;go_roundg (gk - 1)
      case measure=>have:=GK.out; omega
      case rel=>exact ⟨c2,by go_num,by have:=GK.out; omega,by have:=GK.out; omega,swp e1 pr pc,by rw [Zar]; exact J0.out.1,by have:=ST.out.1; simpa using this,BU.out.1.drewSwap ST.out.2.1 ST.out.2.2,turnSwap BU.out.2 _ _ _ _⟩
     | false =>
      go_upto_region 5 with fail
      refine Zab (S:=Grew w5) (by kernel_rfl) (by kernel_rfl) (Below.refl _ w5).drew ?_
      repeat (go_big_quiet_step (with_reducible exact hL _))
      refine wpQuiet_nil ?_;intro _ hw';obtain ⟨u,hw''⟩:=hw';subst hw''
      have BU:Hid (SR u.w g D/\Zaa (λ k=>k=g) w u.w):=by
       have q:e1=D:=by have:=ST.out.1; simpa using this
       rw [<- q];exact ⟨B5.out.1.below u.ok,B5.out.2.trans (Zaa.ofBelow u.ok) (λ _ _ q=>q)⟩
      clear hL Q0 Q1 NE;go_wp2
      first | (refine bodyPost_ret (v:=.tuple #[]) (results_none rfl _ _ _) rfl ?_) | (refine bodyPost_end (v:=.tuple #[]) (results_none rfl _ _ _) rfl ?_)
      exact ⟨rfl,BU⟩
    | false =>
     have SD:Hid (∀ h:Bool,ltU e1[F+r]! e1[F+c1]! = h->(if h=true then siftDown ltU hi F c1 (swp e1 (F+r) (F+c1)) else e1)=D):=by
      intro h hh;rw [<- hc1] at hh ⊢;rw [<- ZeG (by omega) (by rw [hc1,hc2,hp1,hp2,hx,hy,hf]; simp) h hh];exact o1
     clear HR s1 o1 r1 t1 hx hy hf hp1 hp2 hc1 hc2
     go_upto_region 3 with fail
     refine Zab (S:=Grew wr) (by kernel_rfl) (by kernel_rfl) (Below.refl _ wr).drew ?_
     repeat (go_big_quiet_step (with_reducible exact hL _))
     refine wpQuiet_nil ?_;intro _ hw';obtain ⟨u,hw''⟩:=hw';subst hw''
     obtain ⟨w5,hw5⟩:∃ w5,w5=u.w:=⟨_,rfl⟩
     have B5:Hid (SR w5 g e1/\Zaa (λ k=>k=g) w w5):=by
      rw [hw5];exact ⟨J0.out.2.1.below u.ok,J0.out.2.2.trans (Zaa.ofBelow u.ok) (λ _ _ q=>q)⟩
     rw [<- hw5];clear hL q0 q1 NE hw5 u i1 i2 v1 v2 n1 n2
     obtain ⟨z,hz⟩:∃ z,e1[F+r]! = z:=⟨_,rfl⟩
     obtain ⟨v,hv⟩:∃ v,e1[F+c1]! = v:=⟨_,rfl⟩
     obtain ⟨h,hh⟩:∃ h,ltU z v=h:=⟨_,rfl⟩
     obtain ⟨pr,hpr⟩:∃ pr,F+r=pr:=⟨_,rfl⟩
     obtain ⟨pc,hpc⟩:∃ pc,F+c1=pc:=⟨_,rfl⟩
     have HP:Hid (pr<n/\pc<n/\pr≠pc/\F+r=pr/\F+c1=pc):=⟨by omega,by omega,by omega,hpr,hpc⟩
     have ipr:(F:Int)+(r:Int)=(pr:Int):=by omega
     have ipc:(F:Int)+(c1:Int)=(pc:Int):=by omega
     have wpr:IntKind.i64.wrap (pr:Int)=(pr:Int):=by rw [IntKind.wrap_i64]; omega
     have wpc:IntKind.i64.wrap (pc:Int)=(pc:Int):=by rw [IntKind.wrap_i64]; omega
     have npr:(pr:Int)<(n:Int):=by omega
     have npc:(pc:Int)<(n:Int):=by omega
     rw [hpr] at hz;rw [hpc] at hv
     have Q0:∀ u:SW (Grew w5),u.w.cell? ⟨g,pr,none⟩=some (uv z):=λ u=>by rw [<- hz]; exact (B5.out.1.below u.ok).cell (by have:=J0.out.1; omega)
     have Q1:∀ u:SW (Grew w5),u.w.cell? ⟨g,pc,none⟩=some (uv v):=λ u=>by rw [<- hv]; exact (B5.out.1.below u.ok).cell (by have:=J0.out.1; omega)
     have hL:=λ u=>Zax (wr:=w5) z v h hh u
     have NE:Nonempty (SW (Grew w5)):=⟨⟨w5,Below.refl _ w5⟩⟩
     have ST:Hid ((if h=true then siftDown ltU hi F c1 (swp e1 pr pc) else e1)=D/\e1[pr]! = z/\e1[pc]! = v):=⟨by rw [<- hpr,<- hpc]; exact SD.out h (by rw [hpr,hpc,hz,hv]; exact hh),hz,hv⟩
     clear hz hv hh hpr hpc SD
     cases h with
     | true =>
      go_upto_region 5 with fail
      refine Zab (S:=Grew w5) (by kernel_rfl) (by kernel_rfl) (Below.refl _ w5).drew ?_
      repeat (go_big_quiet_step (with_reducible exact hL _))
      refine wpQuiet_nil ?_;intro _ hw';obtain ⟨u,hw''⟩:=hw';subst hw''
      obtain ⟨w6,hw6⟩:∃ w6,w6=u.w:=⟨_,rfl⟩
      have BU:Hid (SR w6 g e1/\Zaa (λ k=>k=g) w w6):=by
       rw [hw6];exact ⟨B5.out.1.below u.ok,B5.out.2.trans (Zaa.ofBelow u.ok) (λ _ _ q=>q)⟩
      rw [<- hw6];clear hL Q0 Q1 NE hw6 u
      have k0:w6.cell? ⟨g,pr,none⟩=some (uv z):=by rw [<- ST.out.2.1]; exact BU.out.1.cell (by have:=J0.out.1; have:=HP.out; omega)
      have k1:w6.cell? ⟨g,pc,none⟩=some (uv v):=by rw [<- ST.out.2.2]; exact BU.out.1.cell (by have:=J0.out.1; have:=HP.out; omega)
      have f0:=BU.out.1.thaw pr;have f1:=BU.out.1.thaw pc;have nt:¬ pr=pc:=HP.out.2.2.1
      have nt2:¬ pc=pr:=λ q=>HP.out.2.2.1 q.symm
      go_wp2_with fail;go_region;go_wp2;go_roundg (gk - 1)
      case measure=>have:=GK.out; omega
      case rel=>exact ⟨c1,by go_num,by have:=GK.out; omega,by have:=GK.out; omega,swp e1 pr pc,by rw [Zar]; exact J0.out.1,by have:=ST.out.1; simpa using this,BU.out.1.drewSwap ST.out.2.1 ST.out.2.2,turnSwap BU.out.2 _ _ _ _⟩
     | false =>
      go_upto_region 5 with fail
      refine Zab (S:=Grew w5) (by kernel_rfl) (by kernel_rfl) (Below.refl _ w5).drew ?_
      repeat (go_big_quiet_step (with_reducible exact hL _))
      refine wpQuiet_nil ?_;intro _ hw';obtain ⟨u,hw''⟩:=hw';subst hw''
      have BU:Hid (SR u.w g D/\Zaa (λ k=>k=g) w u.w):=by
       have q:e1=D:=by have:=ST.out.1; simpa using this
       rw [<- q];exact ⟨B5.out.1.below u.ok,B5.out.2.trans (Zaa.ofBelow u.ok) (λ _ _ q=>q)⟩
      clear hL Q0 Q1 NE;go_wp2
      first | (refine bodyPost_ret (v:=.tuple #[]) (results_none rfl _ _ _) rfl ?_) | (refine bodyPost_end (v:=.tuple #[]) (results_none rfl _ _ _) rfl ?_)
      exact ⟨rfl,BU⟩
   ·have hd3:¬ (c2:Int)<(hi:Int):=by omega
    have hd3':decide ((c2:Int)<(hi:Int))=false:=by simpa using hd3
    have hd3'':decide (c2<hi)=false:=by simpa using hc3
    have J0:Hid (e1.size=n):=s1
    have SD:Hid (∀ h:Bool,ltU e1[F+r]! e1[F+c1]! = h->(if h=true then siftDown ltU hi F c1 (swp e1 (F+r) (F+c1)) else e1)=D):=by
     intro h hh;rw [<- hc1] at hh ⊢;rw [<- ZeG (by omega) (by omega) h hh];exact o1
    have R1:Hid (SR wr g e1/\Zaa (λ k=>k=g) w wr):=⟨r1,t1⟩
    clear HR s1 o1 r1 t1 hc1 hc2
    go_upto_region 3 with fail
    go_quiet (fail)
    obtain ⟨w5,hw5⟩:∃ w5,w5=wr.drewN nq:=⟨_,rfl⟩
    have B5:Hid (SR w5 g e1/\Zaa (λ k=>k=g) w w5):=by
     rw [hw5];have hq:=below_drewN (Below.refl wr.heap.size wr) nq;exact ⟨R1.out.1.below hq,R1.out.2.trans (Zaa.ofBelow (S:=λ _=>False) hq) (λ _ _ q=>q.elim)⟩
    rw [<- hw5];clear hw5
    obtain ⟨z,hz⟩:∃ z,e1[F+r]! = z:=⟨_,rfl⟩
    obtain ⟨v,hv⟩:∃ v,e1[F+c1]! = v:=⟨_,rfl⟩
    obtain ⟨h,hh⟩:∃ h,ltU z v=h:=⟨_,rfl⟩
    obtain ⟨pr,hpr⟩:∃ pr,F+r=pr:=⟨_,rfl⟩
    obtain ⟨pc,hpc⟩:∃ pc,F+c1=pc:=⟨_,rfl⟩
    have HP:Hid (pr<n/\pc<n/\pr≠pc/\F+r=pr/\F+c1=pc):=⟨by omega,by omega,by omega,hpr,hpc⟩
    have ipr:(F:Int)+(r:Int)=(pr:Int):=by omega
    have ipc:(F:Int)+(c1:Int)=(pc:Int):=by omega
    have wpr:IntKind.i64.wrap (pr:Int)=(pr:Int):=by rw [IntKind.wrap_i64]; omega
    have wpc:IntKind.i64.wrap (pc:Int)=(pc:Int):=by rw [IntKind.wrap_i64]; omega
    have npr:(pr:Int)<(n:Int):=by omega
    have npc:(pc:Int)<(n:Int):=by omega
    rw [hpr] at hz;rw [hpc] at hv
    have Q0:∀ u:SW (Grew w5),u.w.cell? ⟨g,pr,none⟩=some (uv z):=λ u=>by rw [<- hz]; exact (B5.out.1.below u.ok).cell (by have:=J0.out; omega)
    have Q1:∀ u:SW (Grew w5),u.w.cell? ⟨g,pc,none⟩=some (uv v):=λ u=>by rw [<- hv]; exact (B5.out.1.below u.ok).cell (by have:=J0.out; omega)
    have hL:=λ u=>Zax (wr:=w5) z v h hh u
    have NE:Nonempty (SW (Grew w5)):=⟨⟨w5,Below.refl _ w5⟩⟩
    have ST:Hid ((if h=true then siftDown ltU hi F c1 (swp e1 pr pc) else e1)=D/\e1[pr]! = z/\e1[pc]! = v):=⟨by rw [<- hpr,<- hpc]; exact SD.out h (by rw [hpr,hpc,hz,hv]; exact hh),hz,hv⟩
    clear hz hv hh hpr hpc SD
    cases h with
    | true =>
     go_upto_region 5 with fail
     refine Zab (S:=Grew w5) (by kernel_rfl) (by kernel_rfl) (Below.refl _ w5).drew ?_
     repeat (go_big_quiet_step (with_reducible exact hL _))
     refine wpQuiet_nil ?_;intro _ hw';obtain ⟨u,hw''⟩:=hw';subst hw''
     obtain ⟨w6,hw6⟩:∃ w6,w6=u.w:=⟨_,rfl⟩
     have BU:Hid (SR w6 g e1/\Zaa (λ k=>k=g) w w6):=by
      rw [hw6];exact ⟨B5.out.1.below u.ok,B5.out.2.trans (Zaa.ofBelow u.ok) (λ _ _ q=>q)⟩
     rw [<- hw6];clear hL Q0 Q1 NE hw6 u
     have k0:w6.cell? ⟨g,pr,none⟩=some (uv z):=by rw [<- ST.out.2.1]; exact BU.out.1.cell (by have:=J0.out; have:=HP.out; omega)
     have k1:w6.cell? ⟨g,pc,none⟩=some (uv v):=by rw [<- ST.out.2.2]; exact BU.out.1.cell (by have:=J0.out; have:=HP.out; omega)
     have f0:=BU.out.1.thaw pr;have f1:=BU.out.1.thaw pc;have nt:¬ pr=pc:=HP.out.2.2.1
     have nt2:¬ pc=pr:=λ q=>HP.out.2.2.1 q.symm
     go_wp2_with fail;go_region;go_wp2;go_roundg (gk - 1)
     case measure=>have:=GK.out; omega
     case rel=>exact ⟨c1,by go_num,by have:=GK.out; omega,by have:=GK.out; omega,swp e1 pr pc,by rw [Zar]; exact J0.out,by have:=ST.out.1; simpa using this,BU.out.1.drewSwap ST.out.2.1 ST.out.2.2,turnSwap BU.out.2 _ _ _ _⟩
    | false =>
     go_upto_region 5 with fail
     refine Zab (S:=Grew w5) (by kernel_rfl) (by kernel_rfl) (Below.refl _ w5).drew ?_
     repeat (go_big_quiet_step (with_reducible exact hL _))
     refine wpQuiet_nil ?_;intro _ hw';obtain ⟨u,hw''⟩:=hw';subst hw''
     have BU:Hid (SR u.w g D/\Zaa (λ k=>k=g) w u.w):=by
      have q:e1=D:=by have:=ST.out.1; simpa using this
      rw [<- q];exact ⟨B5.out.1.below u.ok,B5.out.2.trans (Zaa.ofBelow u.ok) (λ _ _ q=>q)⟩
     clear hL Q0 Q1 NE;go_wp2
     first | (refine bodyPost_ret (v:=.tuple #[]) (results_none rfl _ _ _) rfl ?_) | (refine bodyPost_end (v:=.tuple #[]) (results_none rfl _ _ _) rfl ?_)
     exact ⟨rfl,BU⟩
theorem Zj2 (hi F:Nat):∀ (m r:Nat) (d:Array UInt64),hi - r<=m->(siftDown ltU hi F r d).size=d.size:=by
 intro m
 induction m with
 | zero =>
  intro r d h;rw [ZdD (by omega)]
 | succ m ih =>
  intro r d h;by_cases h1:2*r+1≥hi
  ·rw [ZdD h1]
  ·by_cases h2:2*r+2<hi/\ltU d[F+(2*r+1)]! d[F+(2*r+2)]! = true
   ·rw [Zhi h2.1 h2.2 _ rfl]
    split
    ·rw [ih _ _ (by omega),Zar]
    ·rfl
   ·rw [ZeG h1 h2 _ rfl]
    split
    ·rw [ih _ _ (by omega),Zar]
    ·rfl
theorem Zmq {hi F r n:Nat} {d:Array UInt64} (h:d.size=n):(siftDown ltU hi F r d).size=n:=by rw [Zj2 hi F _ r d (Nat.le_refl _),h]
theorem ZlT {w:World} {g n c a b:Nat} {d:Array UInt64} (h:SR w g d) (hd:d.size=n) (hab:a<b) (hb:b<=n) (hn:n<=1000000000000) :
  Calls Tryz.prog 190 #[.slice (some ⟨g,0,none⟩) n c,.int .i64 (a:Int),.int .i64 (b:Int)] w λ e w'=>e=.returned (.tuple #[])/\Hid (SR w' g (heapSort ltU d a b)/\Zaa (λ k=>k=g) w w'):=by
 obtain ⟨D,hD⟩:∃ D,heapSort ltU d a b=D:=⟨_,rfl⟩
 rw [hD]
 obtain ⟨hi,hhi⟩:∃ hi,b - a=hi:=⟨_,rfl⟩
 obtain ⟨E1,hE1⟩:∃ E1,heapBuild ltU hi a ((hi - 1) / 2+1) d=E1:=⟨_,rfl⟩
 have H:Hid (SR w g d/\d.size=n/\heapBuild ltU hi a ((hi - 1) / 2+1) d=E1/\heapPop ltU a hi E1=D/\a+hi<=n/\1<=hi):=⟨h,hd,hE1,by rw [<- hD,<- hE1,<- hhi]; rfl,by omega,by omega⟩
 have s1:(b:Int) - (a:Int)=(hi:Int):=by omega
 have w1:IntKind.i64.wrap (hi:Int)=(hi:Int):=by rw [IntKind.wrap_i64]; omega
 obtain ⟨h1,hh1⟩:∃ h1,h1+1=hi:=⟨hi - 1,by omega⟩
 have s2:(hi:Int) - 1=(h1:Int):=by omega
 have w2:IntKind.i64.wrap (h1:Int)=(h1:Int):=by rw [IntKind.wrap_i64]; omega
 obtain ⟨hh,hhh⟩:∃ hh,h1 / 2=hh:=⟨_,rfl⟩
 have s3:(h1:Int).tdiv 2=(hh:Int):=by rw [<- hhh]; rfl
 have w3:IntKind.i64.wrap (hh:Int)=(hh:Int):=by rw [IntKind.wrap_i64]; omega
 have HH:Hid (h1+1=hi/\(hi - 1) / 2=hh/\hh<=n/\hi<=n):=⟨hh1,by omega,by omega,by omega⟩
 clear h hd hD hhi hE1 hh1 hhh;go_enter Tryz.func190,Tryz.ntmps190;go_wp2_with fail;go_loopg [9] (hh+1) (λ k v wr=>∃ z:Int,v=.int .i64 z/\k<=hh+1/\Hid (z=(k:Int) - 1/\∃ e:Array UInt64,e.size=n/\heapBuild ltU hi a k e=E1/\SR wr g e/\Zaa (λ k=>k=g) w wr))
 case atStart=>exact ⟨_,rfl,Nat.le_refl _,by omega,d,H.out.2.1,by rw [<- HH.out.2.1]; exact H.out.2.2.1,H.out.1,Zaa.refl _ _⟩
 case round =>
  obtain ⟨z,rfl,hk,HR⟩:=hrel;obtain ⟨hz,e1,z1,o1,r1,t1⟩:=HR.out
  cases gk with
  | succ t =>
   obtain rfl:z=(t:Int):=by omega
   have id:(0:Int)<=(t:Int):=by omega
   have hsi:=ZhF (c:=c) (lo:=t) (hi:=hi) (F:=a) r1 z1 H.out.2.2.2.2.1 (by have:=HH.out; omega) hn
   obtain ⟨tm,htm⟩:∃ tm:Int,(t:Int) - 1=tm:=⟨_,rfl⟩
   have wm:IntKind.i64.wrap tm=tm:=by have:=HH.out.2.2; rw [IntKind.wrap_i64]; omega
   have O1:Hid (heapBuild ltU hi a t (siftDown ltU hi a t e1)=E1/\(siftDown ltU hi a t e1).size=n/\Zaa (λ k=>k=g) w wr/\(t:Int) - 1=tm):=⟨o1,Zmq z1,t1,htm⟩
   clear HR z1 o1 r1 t1 hz;go_wp2_with fail;refine hsi.mono ?_;rintro e w2 ⟨rfl,H2⟩;go_wp2;go_roundg t
   case measure=>omega
   case rel=>exact ⟨tm,by go_num,by omega,O1.out.2.2.2.symm,_,O1.out.2.1,O1.out.1,H2.out.1,O1.out.2.2.1.trans H2.out.2 (λ _ _ q=>q)⟩
  | zero =>
   obtain rfl:z = -1:=by omega
   have R1:Hid (E1.size=n/\SR wr g E1/\Zaa (λ k=>k=g) w wr):=by
    have q:e1=E1:=o1;rw [<- q];exact ⟨z1,r1,t1⟩
   clear HR z1 o1 r1 t1 hz hk;go_wp2_with fail;go_loopg [10] hi (λ k v wr=>∃ z:Int,v=.int .i64 z/\k<=hi/\Hid (z=(k:Int) - 1/\∃ e:Array UInt64,e.size=n/\heapPop ltU a k e=D/\SR wr g e/\Zaa (λ k=>k=g) w wr))
   case atStart=>exact ⟨_,rfl,Nat.le_refl _,by have:=HH.out.1; omega,E1,R1.out.1,H.out.2.2.2.1,R1.out.2.1,R1.out.2.2⟩
   case round =>
    obtain ⟨z,rfl,hk,HR⟩:=hrel;obtain ⟨hz,e1,z1,o1,r1,t1⟩:=HR.out
    cases gk with
    | succ t =>
     obtain rfl:z=(t:Int):=by omega
     have id:(0:Int)<=(t:Int):=by omega
     obtain ⟨pc,hpc⟩:∃ pc,a+t=pc:=⟨_,rfl⟩
     have ipc:(a:Int)+(t:Int)=(pc:Int):=by omega
     have PB:pc<n:=by have:=H.out.2.2.2.2; omega
     have AB:a<n:=by have:=H.out.2.2.2.2; omega
     have wpc:IntKind.i64.wrap (pc:Int)=(pc:Int):=by rw [IntKind.wrap_i64]; omega
     have npc:(pc:Int)<(n:Int):=by omega
     have npa:(a:Int)<(n:Int):=by omega
     obtain ⟨x,hx⟩:∃ x,e1[a]! = x:=⟨_,rfl⟩
     obtain ⟨y,hy⟩:∃ y,e1[pc]! = y:=⟨_,rfl⟩
     have k0:wr.cell? ⟨g,a,none⟩=some (uv x):=by rw [<- hx]; exact r1.cell (by omega)
     have k1:wr.cell? ⟨g,pc,none⟩=some (uv y):=by rw [<- hy]; exact r1.cell (by omega)
     have f0:=r1.thaw a;have f1:=r1.thaw pc
     have k2:(wr.setCell ⟨g,a,none⟩ (uv y)).cell? ⟨g,pc,none⟩=some (uv y):=by
      rw [(r1.set a y).cell (by simp; omega)]
      congr 2
      by_cases q:pc=a
      ·subst q;simp [getElem!_pos,AB,z1]
      ·rw [<- hy];simp [getElem!_pos,z1,PB,Ne.symm q]
     have f2:=(r1.set a y).thaw pc
     obtain ⟨tm,htm⟩:∃ tm:Int,(t:Int) - 1=tm:=⟨_,rfl⟩
     have wm:IntKind.i64.wrap tm=tm:=by have:=HH.out.2.2; rw [IntKind.wrap_i64]; omega
     obtain ⟨w5,hw5⟩:∃ w5,((wr.setCell ⟨g,a,none⟩ (uv y)).setCell ⟨g,pc,none⟩ (uv x)).drew=w5:=⟨_,rfl⟩
     have S5:Hid (SR w5 g (swp e1 a pc)/\Zaa (λ k=>k=g) w w5):=by
      rw [<- hw5];exact ⟨r1.drewSwap hx hy,turnSwap t1 _ _ _ _⟩
     have hsi:=ZhF (c:=c) (lo:=0) (hi:=t) (F:=a) S5.out.1 (by rw [Zar]; exact z1) (by have:=H.out.2.2.2.2; omega) (by omega) hn
     have O1:Hid (heapPop ltU a t (siftDown ltU t a 0 (swp e1 a pc))=D/\(siftDown ltU t a 0 (swp e1 a pc)).size=n/\(t:Int) - 1=tm):=⟨by rw [<- hpc]; exact o1,Zmq (by rw [Zar]; exact z1),htm⟩
     have HW5:Hid _:=hw5;clear HR z1 o1 r1 t1 hz hpc hx hy hw5
     go_upto_region 10 with fail
     go_region
     all_goals
      try rw [HW5.out]
      go_wp2_with fail;refine hsi.mono ?_;rintro e w2 ⟨rfl,H2⟩;go_wp2;go_roundg t
      case measure=>omega
      case rel=>exact ⟨tm,by go_num,by omega,O1.out.2.2.symm,_,O1.out.2.1,O1.out.1,H2.out.1,S5.out.2.trans H2.out.2 (λ _ _ q=>q)⟩
    | zero =>
     obtain rfl:z = -1:=by omega
     have FIN:Hid (SR wr g D/\Zaa (λ k=>k=g) w wr):=by
      have q:e1=D:=o1;rw [<- q];exact ⟨r1,t1⟩
     clear HR z1 o1 r1 t1 hz hk;go_wp2;refine bodyPost_end (v:=.tuple #[]) (results_none rfl _ _ _) rfl ?_;exact ⟨rfl,FIN⟩
def BoxI (w:World) (b:Nat) (s:Nat):Prop:=w.heap[b]? = some (.cells #[.int .i64 (s:Int)] 3 (0,0))
section
variable {w w':World} {b s:Nat}
theorem BoxI.lt (h:BoxI w b s):b<w.heap.size:=(Array.getElem?_eq_some_iff.1 h).1
theorem BoxI.cell (h:BoxI w b s):w.cell? ⟨b,0,none⟩=some (.int .i64 (s:Int)):=by
 unfold BoxI at h;simp [World.cell?,h]
theorem BoxI.thaw (h:BoxI w b s):w.frozen? ⟨b,0,none⟩=false:=by
 unfold BoxI at h;simp [World.frozen?,h]
theorem BoxI.below (h:BoxI w b s) (hb:Below w.heap.size w w'):BoxI w' b s:=(hb.block b h.lt).trans h
theorem BoxI.set (h:BoxI w b s) (s':Nat):BoxI (w.setCell ⟨b,0,none⟩ (.int .i64 (s':Int))) b s':=by
 unfold BoxI at h ⊢;simp [World.setCell,Array.getElem?_modify,h]
end
theorem ZcL {w:World} {g n c a b sb s:Nat} {d:Array UInt64} (h:SR w g d) (hd:d.size=n) (ha:a<n) (hb:b<n) (_hn:n<=1000000000000) (hB:BoxI w sb s) (hs:s<=1000) (_hne:sb≠g) (r:Nat×Nat×Nat) (hr:order2 ltU d a b s=r) :
  Calls Tryz.prog 269 #[.slice (some ⟨g,0,none⟩) n c,.int .i64 (a:Int),.int .i64 (b:Int),.pointer (some ⟨sb,0,none⟩)] w λ e w'=>e=.returned (.tuple #[.int .i64 (r.1:Int),.int .i64 (r.2.1:Int)])/\Hid (BoxI w' sb r.2.2/\Zaa (λ k=>k=sb) w w'):=by
 obtain ⟨x,hx⟩:∃ x,d[b]! = x:=⟨_,rfl⟩
 obtain ⟨y,hy⟩:∃ y,d[a]! = y:=⟨_,rfl⟩
 obtain ⟨f,hf⟩:∃ f,ltU x y=f:=⟨_,rfl⟩
 have q0:∀ u:SW (Grew w),u.w.cell? ⟨g,b,none⟩=some (uv x):=λ u=>by rw [<- hx]; exact (h.below u.ok).cell (by omega)
 have q1:∀ u:SW (Grew w),u.w.cell? ⟨g,a,none⟩=some (uv y):=λ u=>by rw [<- hy]; exact (h.below u.ok).cell (by omega)
 have hL:=λ u=>Zax (wr:=w) x y f hf u
 have NE:Nonempty (SW (Grew w)):=⟨⟨w,Below.refl _ w⟩⟩
 have na:(a:Int)<(n:Int):=by omega
 have nb:(b:Int)<(n:Int):=by omega
 have HB:Hid (BoxI w sb s):=hB
 have hr':r=if f=true then (b,a,s+1) else (a,b,s):=by
  rw [<- hr];unfold order2;rw [hx,hy,hf]
 clear h hd hB hx hy hf hr
 cases f with
 | true =>
  obtain rfl:r=(b,a,s+1):=by simpa using hr'
  clear hr';go_enter Tryz.func269,Tryz.ntmps269
  go_upto_region 1 with fail
  refine Zab (S:=Grew w) (by kernel_rfl) (by kernel_rfl) (Below.refl _ w).drew ?_
  repeat (go_big_quiet_step (with_reducible exact hL _))
  refine wpQuiet_nil ?_;intro _ hw';obtain ⟨u,hw''⟩:=hw';subst hw''
  obtain ⟨w4,hw4⟩:∃ w4,w4=u.w:=⟨_,rfl⟩
  have B4:Hid (BoxI w4 sb s/\Below w.heap.size w w4):=by rw [hw4]; exact ⟨HB.out.below u.ok,u.ok⟩
  rw [<- hw4];clear hL q0 q1 NE hw4 u;have k0:=B4.out.1.cell;have k1:=B4.out.1.thaw
  have s1:(s:Int)+1=((s+1:Nat):Int):=by omega
  obtain ⟨s2,hs2⟩:∃ s2,s+1=s2:=⟨_,rfl⟩
  rw [hs2] at s1
  have sw:IntKind.i64.wrap (s2:Int)=(s2:Int):=by rw [IntKind.wrap_i64]; omega
  have S2:Hid (s+1=s2):=hs2;clear hs2;go_wp2;refine bodyPost_ret (results_tmp2 rfl _ _ _) rfl ?_;refine ⟨rfl,?_⟩;rw [S2.out];exact ⟨B4.out.1.set s2,(Zaa.ofBelow B4.out.2).trans ((Zaa.refl (λ k=>k=sb) w4).setCell (p:=⟨sb,0,none⟩) (.inl rfl) _) (λ _ _ q=>q)⟩
 | false =>
  obtain rfl:r=(a,b,s):=by simpa using hr'
  clear hr';go_enter Tryz.func269,Tryz.ntmps269
  go_upto_region 1 with fail
  refine Zab (S:=Grew w) (by kernel_rfl) (by kernel_rfl) (Below.refl _ w).drew ?_
  repeat (go_big_quiet_step (with_reducible exact hL _))
  refine wpQuiet_nil ?_;intro _ hw';obtain ⟨u,hw''⟩:=hw';subst hw''
  have B4:Hid (BoxI u.w sb s/\Below w.heap.size w u.w):=⟨HB.out.below u.ok,u.ok⟩
  clear hL q0 q1 NE;go_wp2;refine bodyPost_ret (results_tmp2 rfl _ _ _) rfl ?_;exact ⟨rfl,B4.out.1,Zaa.ofBelow B4.out.2⟩
theorem Zbt {d:Array UInt64} {a b s n:Nat} (ha:a<n) (hb:b<n):(order2 ltU d a b s).1<n/\(order2 ltU d a b s).2.1<n/\(order2 ltU d a b s).2.2<=s+1:=by
 unfold order2
 split
 ·exact ⟨hb,ha,by simp⟩
 ·exact ⟨ha,hb,by simp⟩
theorem ZcO {w:World} {g n c a b e0 sb s:Nat} {d:Array UInt64} (h:SR w g d) (hd:d.size=n) (ha:a<n) (hb:b<n) (he:e0<n) (hn:n<=1000000000000) (hB:BoxI w sb s) (hs:s<=900) (hne:sb≠g) (r:Nat×Nat) (hr:median ltU d a b e0 s=r) :
  Calls Tryz.prog 237 #[.slice (some ⟨g,0,none⟩) n c,.int .i64 (a:Int),.int .i64 (b:Int),.int .i64 (e0:Int),.pointer (some ⟨sb,0,none⟩)] w λ e w'=>e=.returned (.int .i64 (r.1:Int))/\Hid (BoxI w' sb r.2/\Zaa (λ k=>k=sb) w w'):=by
 obtain ⟨r1,hr1⟩:∃ r1,order2 ltU d a b s=r1:=⟨_,rfl⟩
 obtain ⟨r2,hr2⟩:∃ r2,order2 ltU d r1.2.1 e0 r1.2.2=r2:=⟨_,rfl⟩
 obtain ⟨r3,hr3⟩:∃ r3,order2 ltU d r1.1 r2.1 r2.2.2=r3:=⟨_,rfl⟩
 have l1:=Zbt (d:=d) (s:=s) ha hb;rw [hr1] at l1;have l2:=Zbt (d:=d) (s:=r1.2.2) l1.2.1 he;rw [hr2] at l2;have l3:=Zbt (d:=d) (s:=r2.2.2) l1.1 l2.1;rw [hr3] at l3
 obtain rfl:(r3.2.1,r3.2.2)=r:=by
  rw [<- hr];unfold median;simp only [hr1,hr2,hr3]
 have c1:=ZcL (c:=c) h hd ha hb hn hB (by omega) hne r1 hr1
 have c2:=λ (u:World) (q:Zaa (λ k=>k=sb) w u) (hu:BoxI u sb r1.2.2)=>ZcL (c:=c) (h.turned q (λ e=>hne e.symm)) hd l1.2.1 he hn hu (by omega) hne r2 hr2
 have c3:=λ (u:World) (q:Zaa (λ k=>k=sb) w u) (hu:BoxI u sb r2.2.2)=>ZcL (c:=c) (h.turned q (λ e=>hne e.symm)) hd l1.1 l2.1 hn hu (by omega) hne r3 hr3
 obtain ⟨x1,x2,x3⟩:=r1;obtain ⟨y1,y2,y3⟩:=r2;obtain ⟨z1,z2,z3⟩:=r3;simp only at c1 c2 c3;clear h hd ha hb he hn hB hs hne hr hr1 hr2 hr3 l1 l2 l3;go_enter Tryz.func237,Tryz.ntmps237;go_wp2_with fail;refine c1.mono ?_;rintro e w1 ⟨rfl,H1⟩;have c2':=c2 w1 H1.out.2 H1.out.1;clear c1 c2;go_wp2_with fail;refine c2'.mono ?_;rintro e w2 ⟨rfl,H2⟩;have T2:Hid (Zaa (λ k=>k=sb) w w2):=H1.out.2.trans H2.out.2 (λ _ _ q=>q);have c3':=c3 w2 T2.out H2.out.1;clear c2' c3;go_wp2_with fail;refine c3'.mono ?_;rintro e w3 ⟨rfl,H3⟩
 have T3:Hid (BoxI w3 sb z3/\Zaa (λ k=>k=sb) w w3):=⟨H3.out.1,T2.out.trans H3.out.2 (λ _ _ q=>q)⟩
 clear c3' H1 H2 H3 T2;go_wp2;go_ret;exact ⟨rfl,T3⟩
theorem ZcM {w:World} {g n c a sb s:Nat} {d:Array UInt64} (h:SR w g d) (hd:d.size=n) (ha0:0<a) (ha:a+1<n) (hn:n<=1000000000000) (hB:BoxI w sb s) (hs:s<=900) (hne:sb≠g) (r:Nat×Nat) (hr:medianAdjacent ltU d a s=r) :
  Calls Tryz.prog 236 #[.slice (some ⟨g,0,none⟩) n c,.int .i64 (a:Int),.pointer (some ⟨sb,0,none⟩)] w λ e w'=>e=.returned (.int .i64 (r.1:Int))/\Hid (BoxI w' sb r.2/\Zaa (λ k=>k=sb) w w'):=by
 obtain ⟨a1,h1⟩:∃ a1,a - 1=a1:=⟨_,rfl⟩
 obtain ⟨a2,h2⟩:∃ a2,a+1=a2:=⟨_,rfl⟩
 have c1:=ZcO (c:=c) (a:=a1) (b:=a) (e0:=a2) h hd (by omega) (by omega) (by omega) hn hB hs hne r (by rw [<- h1,<- h2]; exact hr)
 have i1:(a:Int) - 1=(a1:Int):=by omega
 have i2:(a:Int)+1=(a2:Int):=by omega
 have w1:IntKind.i64.wrap (a1:Int)=(a1:Int):=by rw [IntKind.wrap_i64]; omega
 have w2:IntKind.i64.wrap (a2:Int)=(a2:Int):=by rw [IntKind.wrap_i64]; omega
 clear h hd ha0 ha hB hs hne hr h1 h2;go_enter Tryz.func236,Tryz.ntmps236;go_wp2_with fail;refine c1.mono ?_;rintro e w3 ⟨rfl,H3⟩;go_wp2;go_ret;exact ⟨rfl,H3⟩
theorem BoxI.new (w:World):BoxI (w.alloc (.cells #[.int .i64 0] 3)) w.heap.size 0:=by
 show (w.heap.push _)[w.heap.size]? = _;simp
theorem Za0 {d:Array UInt64} {a b e0 s n:Nat} (ha:a<n) (hb:b<n) (he:e0<n):(median ltU d a b e0 s).1<n/\(median ltU d a b e0 s).2<=s+3:=by
 have l1:=Zbt (d:=d) (s:=s) ha hb;have l2:=Zbt (d:=d) (s:=(order2 ltU d a b s).2.2) l1.2.1 he;have l3:=Zbt (d:=d) (s:=(order2 ltU d (order2 ltU d a b s).2.1 e0 (order2 ltU d a b s).2.2).2.2) l1.1 l2.1;exact ⟨l3.2.1,by unfold median; simp only; omega⟩
theorem Zdw {d:Array UInt64} {a s n:Nat} (ha:a+1<n):(medianAdjacent ltU d a s).1<n/\(medianAdjacent ltU d a s).2<=s+3:=Za0 (by omega) (by omega) ha
def hintV:Hint->Int
 | .unknown=>0
 | .increasing=>1
 | .decreasing=>2
def hintN (s:Nat):Int:=if s=0 then 1 else if s=12 then 2 else 0
theorem ZhM (s:Nat):hintV (if s=0 then .increasing else if s=12 then .decreasing else .unknown)=hintN s:=by
 unfold hintN
 split
 ·rfl
 ·split <;> rfl
theorem hintU {s:Nat} (h0:¬ s=0) (h1:¬ s=12):hintN s=0:=by
 unfold hintN;rw [if_neg h0,if_neg h1]
theorem Zl7 {w:World} {g n c a b:Nat} {d:Array UInt64} (h:SR w g d) (hd:d.size=n) (hab:a+8<=b) (hb:b<=n) (hn:n<=1000000000000) (r:Nat×Hint) (hr:choosePivot ltU d a b=r) :
  Calls Tryz.prog 192 #[.slice (some ⟨g,0,none⟩) n c,.int .i64 (a:Int),.int .i64 (b:Int)] w λ e w'=>e=.returned (.tuple #[.int .i64 (r.1:Int),.int .i64 (hintV r.2)])/\Hid (Below w.heap.size w w'):=by
 obtain ⟨l,hl⟩:∃ l,b - a=l:=⟨_,rfl⟩
 obtain ⟨q,hq⟩:∃ q,l / 4=q:=⟨_,rfl⟩
 obtain ⟨i1,h1⟩:∃ i1,a+q=i1:=⟨_,rfl⟩
 obtain ⟨j1,h2⟩:∃ j1,a+q*2=j1:=⟨_,rfl⟩
 obtain ⟨k1,h3⟩:∃ k1,a+q*3=k1:=⟨_,rfl⟩
 obtain ⟨q2,hq2⟩:∃ q2,q*2=q2:=⟨_,rfl⟩
 obtain ⟨q3,hq3⟩:∃ q3,q*3=q3:=⟨_,rfl⟩
 have b1:0<i1/\i1+1<n:=by omega
 have b2:0<j1/\j1+1<n:=by omega
 have b3:0<k1/\k1+1<n:=by omega
 have m0:(b:Int) - (a:Int)=(l:Int):=by omega
 have m1:(l:Int).tdiv 4=(q:Int):=by rw [<- hq]; rfl
 have m2:(q:Int)*2=(q2:Int):=by omega
 have m3:(q:Int)*3=(q3:Int):=by omega
 have m4:(a:Int)+(q:Int)=(i1:Int):=by omega
 have m5:(a:Int)+(q2:Int)=(j1:Int):=by omega
 have m6:(a:Int)+(q3:Int)=(k1:Int):=by omega
 have w0:IntKind.i64.wrap (l:Int)=(l:Int):=by rw [IntKind.wrap_i64]; omega
 have w1:IntKind.i64.wrap (q:Int)=(q:Int):=by rw [IntKind.wrap_i64]; omega
 have w2:IntKind.i64.wrap (q2:Int)=(q2:Int):=by rw [IntKind.wrap_i64]; omega
 have w3:IntKind.i64.wrap (q3:Int)=(q3:Int):=by rw [IntKind.wrap_i64]; omega
 have w4:IntKind.i64.wrap (i1:Int)=(i1:Int):=by rw [IntKind.wrap_i64]; omega
 have w5:IntKind.i64.wrap (j1:Int)=(j1:Int):=by rw [IntKind.wrap_i64]; omega
 have w6:IntKind.i64.wrap (k1:Int)=(k1:Int):=by rw [IntKind.wrap_i64]; omega
 have g8:(8:Int)<=(l:Int):=by omega
 obtain ⟨sb,hsb⟩:∃ sb,w.heap.size=sb:=⟨_,rfl⟩
 obtain ⟨W,hW⟩:∃ W,W=w.alloc (.cells #[.int .i64 0] 3):=⟨_,rfl⟩
 have NW:SR W g d/\BoxI W sb 0/\Below w.heap.size w W:=by
  have hB:Below w.heap.size w W:=by rw [hW]; exact (Below.refl _ w).alloc (Nat.le_refl _) _
  exact ⟨h.below hB,by rw [hW,<- hsb]; exact BoxI.new w,hB⟩
 have hne:sb≠g:=by have:=h.lt; omega
 have LAST:∀ w9:World,Zaa (λ k=>k=sb) W w9->Below w.heap.size w w9:=λ w9 t=>NW.2.2.trans (t.below (NW.2.2.size) (λ k hk e=>by omega))
 have HL:Hid (∀ w9:World,Zaa (λ k=>k=sb) W w9->Below w.heap.size w w9):=LAST;by_cases h50:50<=l
 ·obtain ⟨ri,hri⟩:∃ ri,medianAdjacent ltU d i1 0=ri:=⟨_,rfl⟩
  obtain ⟨rj,hrj⟩:∃ rj,medianAdjacent ltU d j1 ri.2=rj:=⟨_,rfl⟩
  obtain ⟨rk,hrk⟩:∃ rk,medianAdjacent ltU d k1 rj.2=rk:=⟨_,rfl⟩
  obtain ⟨rm,hrm⟩:∃ rm,median ltU d ri.1 rj.1 rk.1 rk.2=rm:=⟨_,rfl⟩
  have e1:=Zdw (d:=d) (s:=0) b1.2;rw [hri] at e1;have e2:=Zdw (d:=d) (s:=ri.2) b2.2;rw [hrj] at e2;have e3:=Zdw (d:=d) (s:=rj.2) b3.2;rw [hrk] at e3;have e4:=Za0 (d:=d) (s:=rk.2) e1.1 e2.1 e3.1;rw [hrm] at e4
  have hr':r=(rm.1,if rm.2=0 then .increasing else if rm.2=12 then .decreasing else .unknown):=by
   rw [<- hr];unfold choosePivot;simp only [hl,hq,Nat.mul_one,hq2,hq3]
   have p1:l≥8:=by omega
   have p2:l≥50:=h50
   have p3:a+q2=j1:=by omega
   have p4:a+q3=k1:=by omega
   simp only [p1,p2,p3,p4,h1,if_true,hri,hrj,hrk,hrm]
  have c1:=ZcM (c:=c) NW.1 hd b1.1 b1.2 hn NW.2.1 (by omega) hne ri hri
  have c2:=λ (u:World) (t:Zaa (λ k=>k=sb) W u) (hu:BoxI u sb ri.2)=>ZcM (c:=c) (NW.1.turned t (λ e=>hne e.symm)) hd b2.1 b2.2 hn hu (by omega) hne rj hrj
  have c3:=λ (u:World) (t:Zaa (λ k=>k=sb) W u) (hu:BoxI u sb rj.2)=>ZcM (c:=c) (NW.1.turned t (λ e=>hne e.symm)) hd b3.1 b3.2 hn hu (by omega) hne rk hrk
  have c4:=λ (u:World) (t:Zaa (λ k=>k=sb) W u) (hu:BoxI u sb rk.2)=>ZcO (c:=c) (NW.1.turned t (λ e=>hne e.symm)) hd e1.1 e2.1 e3.1 hn hu (by omega) hne rm hrm
  have hv:hintV r.2=hintN rm.2:=by rw [hr']; exact ZhM _
  have hr1:r.1=rm.1:=by rw [hr']
  rw [hv,hr1]
  obtain ⟨hz,hhz⟩:∃ hz,hintN rm.2=hz:=⟨_,rfl⟩
  rw [hhz];have HZ:Hid (hintN rm.2=hz):=hhz;clear hhz;obtain ⟨x1,x2⟩:=ri;obtain ⟨y1,y2⟩:=rj;obtain ⟨z1,z2⟩:=rk;obtain ⟨u1,u2⟩:=rm;simp only at c1 c2 c3 c4 hv hr1 e4 HZ
  have g50:(50:Int)<=(l:Int):=by omega
  clear h hd hab hb hn hr hr' hv hr1 hl hq h1 h2 h3 hq2 hq3 b1 b2 b3 NW hne LAST hri hrj hrk hrm e1 e2 e3 e4 h50;go_enter Tryz.func192,Tryz.ntmps192
  go_upto_region 3 with fail
  rw [<- hW];clear hW;go_wp2_with fail;refine c1.mono ?_;rintro e wa ⟨rfl,H1⟩;have c2':=c2 wa H1.out.2 H1.out.1;clear c1 c2;go_wp2_with fail;refine c2'.mono ?_;rintro e wb ⟨rfl,H2⟩;have T2:Hid (Zaa (λ k=>k=sb) W wb):=H1.out.2.trans H2.out.2 (λ _ _ q=>q);have c3':=c3 wb T2.out H2.out.1;clear c2' c3;go_wp2_with fail;refine c3'.mono ?_;rintro e wc ⟨rfl,H3⟩;have T3:Hid (Zaa (λ k=>k=sb) W wc):=T2.out.trans H3.out.2 (λ _ _ q=>q);have c4':=c4 wc T3.out H3.out.1;clear c3' c4;go_wp2_with fail;refine c4'.mono ?_;rintro e wd ⟨rfl,H4⟩;have T4:Hid (Zaa (λ k=>k=sb) W wd):=T3.out.trans H4.out.2 (λ _ _ q=>q);have k0:=H4.out.1.cell;clear c4' H1 H2 H3 T2 T3;by_cases s0:u2=0
  ·subst s0;go_wp2;refine bodyPost_ret (results_tmp2 rfl _ _ _) rfl ?_;exact ⟨by rw [<- HZ.out]; rfl,HL.out _ T4.out⟩
  ·by_cases s1:u2=12
   ·subst s1;go_wp2;refine bodyPost_ret (results_tmp2 rfl _ _ _) rfl ?_;exact ⟨by rw [<- HZ.out]; rfl,HL.out _ T4.out⟩
   ·have z0:¬ (u2:Int)=0:=by omega
    have z1:¬ (u2:Int)=12:=by omega
    go_wp2;refine bodyPost_ret (results_tmp2 rfl _ _ _) rfl ?_;exact ⟨by rw [<- HZ.out]; rw [hintU s0 s1]; rfl,HL.out _ T4.out⟩
 ·obtain ⟨rm,hrm⟩:∃ rm,median ltU d i1 j1 k1 0=rm:=⟨_,rfl⟩
  have e4:=Za0 (d:=d) (s:=0) (a:=i1) (b:=j1) (e0:=k1) (n:=n) (by omega) (by omega) (by omega);rw [hrm] at e4
  have hr':r=(rm.1,if rm.2=0 then .increasing else if rm.2=12 then .decreasing else .unknown):=by
   rw [<- hr];unfold choosePivot;simp only [hl,hq,Nat.mul_one,hq2,hq3]
   have p1:l≥8:=by omega
   have p2:¬ l≥50:=h50
   have p3:a+q2=j1:=by omega
   have p4:a+q3=k1:=by omega
   simp only [p1,p2,p3,p4,h1,if_true,if_false,hrm]
  have c4:=ZcO (c:=c) NW.1 hd (a:=i1) (b:=j1) (e0:=k1) (by omega) (by omega) (by omega) hn NW.2.1 (by omega) hne rm hrm
  have hv:hintV r.2=hintN rm.2:=by rw [hr']; exact ZhM _
  have hr1:r.1=rm.1:=by rw [hr']
  rw [hv,hr1]
  obtain ⟨hz,hhz⟩:∃ hz,hintN rm.2=hz:=⟨_,rfl⟩
  rw [hhz];have HZ:Hid (hintN rm.2=hz):=hhz;clear hhz;obtain ⟨u1,u2⟩:=rm;simp only at c4 hv hr1 e4 HZ
  have g50:¬ (50:Int)<=(l:Int):=by omega
  clear h hd hab hb hn hr hr' hv hr1 hl hq h1 h2 h3 hq2 hq3 b1 b2 b3 NW hne LAST hrm e4 h50;go_enter Tryz.func192,Tryz.ntmps192
  go_upto_region 3 with fail
  rw [<- hW];clear hW;go_wp2_with fail;refine c4.mono ?_;rintro e wd ⟨rfl,H4⟩;have k0:=H4.out.1.cell;clear c4;by_cases s0:u2=0
  ·subst s0;go_wp2;refine bodyPost_ret (results_tmp2 rfl _ _ _) rfl ?_;exact ⟨by rw [<- HZ.out]; rfl,HL.out _ H4.out.2⟩
  ·by_cases s1:u2=12
   ·subst s1;go_wp2;refine bodyPost_ret (results_tmp2 rfl _ _ _) rfl ?_;exact ⟨by rw [<- HZ.out]; rfl,HL.out _ H4.out.2⟩
   ·have z0:¬ (u2:Int)=0:=by omega
    have z1:¬ (u2:Int)=12:=by omega
    go_wp2;refine bodyPost_ret (results_tmp2 rfl _ _ _) rfl ?_;exact ⟨by rw [<- HZ.out]; rw [hintU s0 s1]; rfl,HL.out _ H4.out.2⟩
end Go.Proofs.YtmhcpbbiokpjjaaGreat
