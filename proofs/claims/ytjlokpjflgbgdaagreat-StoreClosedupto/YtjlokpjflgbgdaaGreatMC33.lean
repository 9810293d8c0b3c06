/-
  Several texts, laid together.
-/
import Derived.Test.YtjlokpjflgbgdaaGreatMC32
set_option maxHeartbeats 6400000
set_option maxRecDepth 100000
namespace Go.Proofs.YtjlokpjflgbgdaaGreat
open Go.RowKit Go.Sort
def BoxI (w:World) (b:Nat) (s:Nat):Prop:=w.heap[b]? = some (.cells #[.int .i64 (s:Int)] 3 (0,0))
section
variable {w w':World} {b s:Nat}
theorem BoxI.lt (h:BoxI w b s):b<w.heap.size:=(Array.getElem?_eq_some_iff.1 h).1
theorem BoxI.cell (h:BoxI w b s):w.cell? ⟨b,0,none⟩=some (.int .i64 (s:Int)):=by
 unfold BoxI at h;simp [World.cell?,h]
theorem BoxI.thaw (h:BoxI w b s):w.frozen? ⟨b,0,none⟩=false:=by
 unfold BoxI at h;simp [World.frozen?,h]
theorem BoxI.below (h:BoxI w b s) (hb:Below w.heap.size w w'):BoxI w' b s:=(hb.block b h.lt).trans h
theorem BoxI.set (h:BoxI w b s) (s':Nat):BoxI (w.setCell ⟨b,0,none⟩ (.int .i64 (s':Int))) b s':=by
 unfold BoxI at h ⊢;simp [World.setCell,Array.getElem?_modify,h]
end
theorem order2_any {w:World} {g n c a b sb s:Nat} {d:Array UInt64} (h:SR w g d) (hd:d.size=n) (ha:a<n) (hb:b<n) (_hn:n<=1000000000000) (hB:BoxI w sb s) (hs:s<=1000) (_hne:sb≠g) (r:Nat×Nat×Nat) (hr:order2 ltU d a b s=r) :
  Calls Tryz.prog 278 #[.slice (some ⟨g,0,none⟩) n c,.int .i64 (a:Int),.int .i64 (b:Int),.pointer (some ⟨sb,0,none⟩)] w λ e w'=>e=.returned (.tuple #[.int .i64 (r.1:Int),.int .i64 (r.2.1:Int)])/\Hid (BoxI w' sb r.2.2/\Turned (λ k=>k=sb) w w'):=by
 obtain ⟨x,hx⟩:∃ x,d[b]! = x:=⟨_,rfl⟩
 obtain ⟨y,hy⟩:∃ y,d[a]! = y:=⟨_,rfl⟩
 obtain ⟨f,hf⟩:∃ f,ltU x y=f:=⟨_,rfl⟩
 have q0:∀ u:SW (Grew w),u.w.cell? ⟨g,b,none⟩=some (uv x):=λ u=>by rw [<- hx]; exact (h.below u.ok).cell (by omega)
 have q1:∀ u:SW (Grew w),u.w.cell? ⟨g,a,none⟩=some (uv y):=λ u=>by rw [<- hy]; exact (h.below u.ok).cell (by omega)
 have hL:=λ u=>less_cls (wr:=w) x y f hf u
 have NE:Nonempty (SW (Grew w)):=⟨⟨w,Below.refl _ w⟩⟩
 have na:(a:Int)<(n:Int):=by omega
 have nb:(b:Int)<(n:Int):=by omega
 have HB:Hid (BoxI w sb s):=hB
 have hr':r=if f=true then (b,a,s+1) else (a,b,s):=by
  rw [<- hr];unfold order2;rw [hx,hy,hf]
 clear h hd hB hx hy hf hr
 cases f with
 | true =>
  obtain rfl:r=(b,a,s+1):=by simpa using hr'
  clear hr';go_enter Tryz.func278,Tryz.ntmps278
  go_upto_region 1 with fail
  refine wp_region_class (S:=Grew w) (by kernel_rfl) (by kernel_rfl) (Below.refl _ w).drew ?_
  repeat (go_big_quiet_step (with_reducible exact hL _))
  refine wpQuiet_nil ?_;intro _ hw';obtain ⟨u,hw''⟩:=hw';subst hw''
  obtain ⟨w4,hw4⟩:∃ w4,w4=u.w:=⟨_,rfl⟩
  have B4:Hid (BoxI w4 sb s/\Below w.heap.size w w4):=by rw [hw4]; exact ⟨HB.out.below u.ok,u.ok⟩
  rw [<- hw4];clear hL q0 q1 NE hw4 u;have k0:=B4.out.1.cell;have k1:=B4.out.1.thaw
  have s1:(s:Int)+1=((s+1:Nat):Int):=by omega
  obtain ⟨s2,hs2⟩:∃ s2,s+1=s2:=⟨_,rfl⟩
  rw [hs2] at s1
  have sw:IntKind.i64.wrap (s2:Int)=(s2:Int):=by rw [IntKind.wrap_i64]; omega
  have S2:Hid (s+1=s2):=hs2;clear hs2;go_wp2;refine bodyPost_ret (results_tmp2 rfl _ _ _) rfl ?_;refine ⟨rfl,?_⟩;rw [S2.out];exact ⟨B4.out.1.set s2,(Turned.ofBelow B4.out.2).trans ((Turned.refl (λ k=>k=sb) w4).setCell (p:=⟨sb,0,none⟩) (.inl rfl) _) (λ _ _ q=>q)⟩
 | false =>
  obtain rfl:r=(a,b,s):=by simpa using hr'
  clear hr';go_enter Tryz.func278,Tryz.ntmps278
  go_upto_region 1 with fail
  refine wp_region_class (S:=Grew w) (by kernel_rfl) (by kernel_rfl) (Below.refl _ w).drew ?_
  repeat (go_big_quiet_step (with_reducible exact hL _))
  refine wpQuiet_nil ?_;intro _ hw';obtain ⟨u,hw''⟩:=hw';subst hw''
  have B4:Hid (BoxI u.w sb s/\Below w.heap.size w u.w):=⟨HB.out.below u.ok,u.ok⟩
  clear hL q0 q1 NE;go_wp2;refine bodyPost_ret (results_tmp2 rfl _ _ _) rfl ?_;exact ⟨rfl,B4.out.1,Turned.ofBelow B4.out.2⟩
theorem order2_lt {d:Array UInt64} {a b s n:Nat} (ha:a<n) (hb:b<n):(order2 ltU d a b s).1<n/\(order2 ltU d a b s).2.1<n/\(order2 ltU d a b s).2.2<=s+1:=by
 unfold order2
 split
 ·exact ⟨hb,ha,by simp⟩
 ·exact ⟨ha,hb,by simp⟩
theorem median_any {w:World} {g n c a b e0 sb s:Nat} {d:Array UInt64} (h:SR w g d) (hd:d.size=n) (ha:a<n) (hb:b<n) (he:e0<n) (hn:n<=1000000000000) (hB:BoxI w sb s) (hs:s<=900) (hne:sb≠g) (r:Nat×Nat) (hr:median ltU d a b e0 s=r) :
  Calls Tryz.prog 253 #[.slice (some ⟨g,0,none⟩) n c,.int .i64 (a:Int),.int .i64 (b:Int),.int .i64 (e0:Int),.pointer (some ⟨sb,0,none⟩)] w λ e w'=>e=.returned (.int .i64 (r.1:Int))/\Hid (BoxI w' sb r.2/\Turned (λ k=>k=sb) w w'):=by
 obtain ⟨r1,hr1⟩:∃ r1,order2 ltU d a b s=r1:=⟨_,rfl⟩
 obtain ⟨r2,hr2⟩:∃ r2,order2 ltU d r1.2.1 e0 r1.2.2=r2:=⟨_,rfl⟩
 obtain ⟨r3,hr3⟩:∃ r3,order2 ltU d r1.1 r2.1 r2.2.2=r3:=⟨_,rfl⟩
 have l1:=order2_lt (d:=d) (s:=s) ha hb;rw [hr1] at l1;have l2:=order2_lt (d:=d) (s:=r1.2.2) l1.2.1 he;rw [hr2] at l2;have l3:=order2_lt (d:=d) (s:=r2.2.2) l1.1 l2.1;rw [hr3] at l3
 obtain rfl:(r3.2.1,r3.2.2)=r:=by
  rw [<- hr];unfold median;simp only [hr1,hr2,hr3]
 have c1:=order2_any (c:=c) h hd ha hb hn hB (by omega) hne r1 hr1
 have c2:=λ (u:World) (q:Turned (λ k=>k=sb) w u) (hu:BoxI u sb r1.2.2)=>order2_any (c:=c) (h.turned q (λ e=>hne e.symm)) hd l1.2.1 he hn hu (by omega) hne r2 hr2
 have c3:=λ (u:World) (q:Turned (λ k=>k=sb) w u) (hu:BoxI u sb r2.2.2)=>order2_any (c:=c) (h.turned q (λ e=>hne e.symm)) hd l1.1 l2.1 hn hu (by omega) hne r3 hr3
 obtain ⟨x1,x2,x3⟩:=r1;obtain ⟨y1,y2,y3⟩:=r2;obtain ⟨z1,z2,z3⟩:=r3;simp only at c1 c2 c3;clear h hd ha hb he hn hB hs hne hr hr1 hr2 hr3 l1 l2 l3;go_enter Tryz.func253,Tryz.ntmps253;go_wp2_with fail;refine c1.mono ?_;rintro e w1 ⟨rfl,H1⟩;have c2':=c2 w1 H1.out.2 H1.out.1;clear c1 c2;go_wp2_with fail;refine c2'.mono ?_;rintro e w2 ⟨rfl,H2⟩;have T2:Hid (Turned (λ k=>k=sb) w w2):=H1.out.2.trans H2.out.2 (λ _ _ q=>q);have c3':=c3 w2 T2.out H2.out.1;clear c2' c3;go_wp2_with fail;refine c3'.mono ?_;rintro e w3 ⟨rfl,H3⟩
 have T3:Hid (BoxI w3 sb z3/\Turned (λ k=>k=sb) w w3):=⟨H3.out.1,T2.out.trans H3.out.2 (λ _ _ q=>q)⟩
 clear c3' H1 H2 H3 T2;go_wp2;go_ret;exact ⟨rfl,T3⟩
theorem medAdj_any {w:World} {g n c a sb s:Nat} {d:Array UInt64} (h:SR w g d) (hd:d.size=n) (ha0:0<a) (ha:a+1<n) (hn:n<=1000000000000) (hB:BoxI w sb s) (hs:s<=900) (hne:sb≠g) (r:Nat×Nat) (hr:medianAdjacent ltU d a s=r) :
  Calls Tryz.prog 252 #[.slice (some ⟨g,0,none⟩) n c,.int .i64 (a:Int),.pointer (some ⟨sb,0,none⟩)] w λ e w'=>e=.returned (.int .i64 (r.1:Int))/\Hid (BoxI w' sb r.2/\Turned (λ k=>k=sb) w w'):=by
 obtain ⟨a1,h1⟩:∃ a1,a - 1=a1:=⟨_,rfl⟩
 obtain ⟨a2,h2⟩:∃ a2,a+1=a2:=⟨_,rfl⟩
 have c1:=median_any (c:=c) (a:=a1) (b:=a) (e0:=a2) h hd (by omega) (by omega) (by omega) hn hB hs hne r (by rw [<- h1,<- h2]; exact hr)
 have i1:(a:Int) - 1=(a1:Int):=by omega
 have i2:(a:Int)+1=(a2:Int):=by omega
 have w1:IntKind.i64.wrap (a1:Int)=(a1:Int):=by rw [IntKind.wrap_i64]; omega
 have w2:IntKind.i64.wrap (a2:Int)=(a2:Int):=by rw [IntKind.wrap_i64]; omega
 clear h hd ha0 ha hB hs hne hr h1 h2;go_enter Tryz.func252,Tryz.ntmps252;go_wp2_with fail;refine c1.mono ?_;rintro e w3 ⟨rfl,H3⟩;go_wp2;go_ret;exact ⟨rfl,H3⟩
end Go.Proofs.YtjlokpjflgbgdaaGreat

namespace Go.Proofs.YtjlokpjflgbgdaaGreat
open Go.RowKit Go.Sort
theorem BoxI.new (w:World):BoxI (w.alloc (.cells #[.int .i64 0] 3)) w.heap.size 0:=by
 show (w.heap.push _)[w.heap.size]? = _;simp
theorem median_lt {d:Array UInt64} {a b e0 s n:Nat} (ha:a<n) (hb:b<n) (he:e0<n):(median ltU d a b e0 s).1<n/\(median ltU d a b e0 s).2<=s+3:=by
 have l1:=order2_lt (d:=d) (s:=s) ha hb;have l2:=order2_lt (d:=d) (s:=(order2 ltU d a b s).2.2) l1.2.1 he;have l3:=order2_lt (d:=d) (s:=(order2 ltU d (order2 ltU d a b s).2.1 e0 (order2 ltU d a b s).2.2).2.2) l1.1 l2.1;exact ⟨l3.2.1,by unfold median; simp only; omega⟩
theorem medAdj_lt {d:Array UInt64} {a s n:Nat} (ha:a+1<n):(medianAdjacent ltU d a s).1<n/\(medianAdjacent ltU d a s).2<=s+3:=median_lt (by omega) (by omega) ha
def hintV:Hint->Int
 | .unknown=>0
 | .increasing=>1
 | .decreasing=>2
def hintN (s:Nat):Int:=if s=0 then 1 else if s=12 then 2 else 0
theorem hintN_eq (s:Nat):hintV (if s=0 then .increasing else if s=12 then .decreasing else .unknown)=hintN s:=by
 unfold hintN
 split
 ·rfl
 ·split <;> rfl
theorem hintU {s:Nat} (h0:¬ s=0) (h1:¬ s=12):hintN s=0:=by
 unfold hintN;rw [if_neg h0,if_neg h1]
theorem pick_any {w:World} {g n c a b:Nat} {d:Array UInt64} (h:SR w g d) (hd:d.size=n) (hab:a+8<=b) (hb:b<=n) (hn:n<=1000000000000) (r:Nat×Hint) (hr:choosePivot ltU d a b=r) :
  Calls Tryz.prog 207 #[.slice (some ⟨g,0,none⟩) n c,.int .i64 (a:Int),.int .i64 (b:Int)] w λ e w'=>e=.returned (.tuple #[.int .i64 (r.1:Int),.int .i64 (hintV r.2)])/\Hid (Below w.heap.size w w'):=by
 obtain ⟨l,hl⟩:∃ l,b - a=l:=⟨_,rfl⟩
 obtain ⟨q,hq⟩:∃ q,l / 4=q:=⟨_,rfl⟩
 obtain ⟨i1,h1⟩:∃ i1,a+q=i1:=⟨_,rfl⟩
 obtain ⟨j1,h2⟩:∃ j1,a+q*2=j1:=⟨_,rfl⟩
 obtain ⟨k1,h3⟩:∃ k1,a+q*3=k1:=⟨_,rfl⟩
 obtain ⟨q2,hq2⟩:∃ q2,q*2=q2:=⟨_,rfl⟩
 obtain ⟨q3,hq3⟩:∃ q3,q*3=q3:=⟨_,rfl⟩
 have b1:0<i1/\i1+1<n:=by omega
 have b2:0<j1/\j1+1<n:=by omega
 have b3:0<k1/\k1+1<n:=by omega
 have m0:(b:Int) - (a:Int)=(l:Int):=by omega
 have m1:(l:Int).tdiv 4=(q:Int):=by rw [<- hq]; rfl
 have m2:(q:Int)*2=(q2:Int):=by omega
 have m3:(q:Int)*3=(q3:Int):=by omega
 have m4:(a:Int)+(q:Int)=(i1:Int):=by omega
 have m5:(a:Int)+(q2:Int)=(j1:Int):=by omega
 have m6:(a:Int)+(q3:Int)=(k1:Int):=by omega
 have w0:IntKind.i64.wrap (l:Int)=(l:Int):=by rw [IntKind.wrap_i64]; omega
 have w1:IntKind.i64.wrap (q:Int)=(q:Int):=by rw [IntKind.wrap_i64]; omega
 have w2:IntKind.i64.wrap (q2:Int)=(q2:Int):=by rw [IntKind.wrap_i64]; omega
 have w3:IntKind.i64.wrap (q3:Int)=(q3:Int):=by rw [IntKind.wrap_i64]; omega
 have w4:IntKind.i64.wrap (i1:Int)=(i1:Int):=by rw [IntKind.wrap_i64]; omega
 have w5:IntKind.i64.wrap (j1:Int)=(j1:Int):=by rw [IntKind.wrap_i64]; omega
 have w6:IntKind.i64.wrap (k1:Int)=(k1:Int):=by rw [IntKind.wrap_i64]; omega
 have g8:(8:Int)<=(l:Int):=by omega
 obtain ⟨sb,hsb⟩:∃ sb,w.heap.size=sb:=⟨_,rfl⟩
 obtain ⟨W,hW⟩:∃ W,W=w.alloc (.cells #[.int .i64 0] 3):=⟨_,rfl⟩
 have NW:SR W g d/\BoxI W sb 0/\Below w.heap.size w W:=by
  have hB:Below w.heap.size w W:=by rw [hW]; exact (Below.refl _ w).alloc (Nat.le_refl _) _
  exact ⟨h.below hB,by rw [hW,<- hsb]; exact BoxI.new w,hB⟩
 have hne:sb≠g:=by have:=h.lt; omega
 have LAST:∀ w9:World,Turned (λ k=>k=sb) W w9->Below w.heap.size w w9:=λ w9 t=>NW.2.2.trans (t.below (NW.2.2.size) (λ k hk e=>by omega))
 have HL:Hid (∀ w9:World,Turned (λ k=>k=sb) W w9->Below w.heap.size w w9):=LAST;by_cases h50:50<=l
 ·obtain ⟨ri,hri⟩:∃ ri,medianAdjacent ltU d i1 0=ri:=⟨_,rfl⟩
  obtain ⟨rj,hrj⟩:∃ rj,medianAdjacent ltU d j1 ri.2=rj:=⟨_,rfl⟩
  obtain ⟨rk,hrk⟩:∃ rk,medianAdjacent ltU d k1 rj.2=rk:=⟨_,rfl⟩
  obtain ⟨rm,hrm⟩:∃ rm,median ltU d ri.1 rj.1 rk.1 rk.2=rm:=⟨_,rfl⟩
  have e1:=medAdj_lt (d:=d) (s:=0) b1.2;rw [hri] at e1;have e2:=medAdj_lt (d:=d) (s:=ri.2) b2.2;rw [hrj] at e2;have e3:=medAdj_lt (d:=d) (s:=rj.2) b3.2;rw [hrk] at e3;have e4:=median_lt (d:=d) (s:=rk.2) e1.1 e2.1 e3.1;rw [hrm] at e4
  have hr':r=(rm.1,if rm.2=0 then .increasing else if rm.2=12 then .decreasing else .unknown):=by
   rw [<- hr];unfold choosePivot;simp only [hl,hq,Nat.mul_one,hq2,hq3]
   have p1:l≥8:=by omega
   have p2:l≥50:=h50
   have p3:a+q2=j1:=by omega
   have p4:a+q3=k1:=by omega
   simp only [p1,p2,p3,p4,h1,if_true,hri,hrj,hrk,hrm]
  have c1:=medAdj_any (c:=c) NW.1 hd b1.1 b1.2 hn NW.2.1 (by omega) hne ri hri
  have c2:=λ (u:World) (t:Turned (λ k=>k=sb) W u) (hu:BoxI u sb ri.2)=>medAdj_any (c:=c) (NW.1.turned t (λ e=>hne e.symm)) hd b2.1 b2.2 hn hu (by omega) hne rj hrj
  have c3:=λ (u:World) (t:Turned (λ k=>k=sb) W u) (hu:BoxI u sb rj.2)=>medAdj_any (c:=c) (NW.1.turned t (λ e=>hne e.symm)) hd b3.1 b3.2 hn hu (by omega) hne rk hrk
  have c4:=λ (u:World) (t:Turned (λ k=>k=sb) W u) (hu:BoxI u sb rk.2)=>median_any (c:=c) (NW.1.turned t (λ e=>hne e.symm)) hd e1.1 e2.1 e3.1 hn hu (by omega) hne rm hrm
  have hv:hintV r.2=hintN rm.2:=by rw [hr']; exact hintN_eq _
  have hr1:r.1=rm.1:=by rw [hr']
  rw [hv,hr1]
  obtain ⟨hz,hhz⟩:∃ hz,hintN rm.2=hz:=⟨_,rfl⟩
  rw [hhz];have HZ:Hid (hintN rm.2=hz):=hhz;clear hhz;obtain ⟨x1,x2⟩:=ri;obtain ⟨y1,y2⟩:=rj;obtain ⟨z1,z2⟩:=rk;obtain ⟨u1,u2⟩:=rm;simp only at c1 c2 c3 c4 hv hr1 e4 HZ
  have g50:(50:Int)<=(l:Int):=by omega
  clear h hd hab hb hn hr hr' hv hr1 hl hq h1 h2 h3 hq2 hq3 b1 b2 b3 NW hne LAST hri hrj hrk hrm e1 e2 e3 e4 h50;go_enter Tryz.func207,Tryz.ntmps207
  go_upto_region 3 with fail
  rw [<- hW];clear hW;go_wp2_with fail;refine c1.mono ?_;rintro e wa ⟨rfl,H1⟩;have c2':=c2 wa H1.out.2 H1.out.1;clear c1 c2;go_wp2_with fail;refine c2'.mono ?_;rintro e wb ⟨rfl,H2⟩;have T2:Hid (Turned (λ k=>k=sb) W wb):=H1.out.2.trans H2.out.2 (λ _ _ q=>q);have c3':=c3 wb T2.out H2.out.1;clear c2' c3;go_wp2_with fail;refine c3'.mono ?_;rintro e wc ⟨rfl,H3⟩;have T3:Hid (Turned (λ k=>k=sb) W wc):=T2.out.trans H3.out.2 (λ _ _ q=>q);have c4':=c4 wc T3.out H3.out.1;clear c3' c4;go_wp2_with fail;refine c4'.mono ?_;rintro e wd ⟨rfl,H4⟩;have T4:Hid (Turned (λ k=>k=sb) W wd):=T3.out.trans H4.out.2 (λ _ _ q=>q);have k0:=H4.out.1.cell;clear c4' H1 H2 H3 T2 T3;by_cases s0:u2=0
  ·subst s0;go_wp2;refine bodyPost_ret (results_tmp2 rfl _ _ _) rfl ?_;exact ⟨by rw [<- HZ.out]; rfl,HL.out _ T4.out⟩
  ·by_cases s1:u2=12
   ·subst s1;go_wp2;refine bodyPost_ret (results_tmp2 rfl _ _ _) rfl ?_;exact ⟨by rw [<- HZ.out]; rfl,HL.out _ T4.out⟩
   ·have z0:¬ (u2:Int)=0:=by omega
    have z1:¬ (u2:Int)=12:=by omega
    go_wp2;refine bodyPost_ret (results_tmp2 rfl _ _ _) rfl ?_;exact ⟨by rw [<- HZ.out]; rw [hintU s0 s1]; rfl,HL.out _ T4.out⟩
 ·obtain ⟨rm,hrm⟩:∃ rm,median ltU d i1 j1 k1 0=rm:=⟨_,rfl⟩
  have e4:=median_lt (d:=d) (s:=0) (a:=i1) (b:=j1) (e0:=k1) (n:=n) (by omega) (by omega) (by omega);rw [hrm] at e4
  have hr':r=(rm.1,if rm.2=0 then .increasing else if rm.2=12 then .decreasing else .unknown):=by
   rw [<- hr];unfold choosePivot;simp only [hl,hq,Nat.mul_one,hq2,hq3]
   have p1:l≥8:=by omega
   have p2:¬ l≥50:=h50
   have p3:a+q2=j1:=by omega
   have p4:a+q3=k1:=by omega
   simp only [p1,p2,p3,p4,h1,if_true,if_false,hrm]
  have c4:=median_any (c:=c) NW.1 hd (a:=i1) (b:=j1) (e0:=k1) (by omega) (by omega) (by omega) hn NW.2.1 (by omega) hne rm hrm
  have hv:hintV r.2=hintN rm.2:=by rw [hr']; exact hintN_eq _
  have hr1:r.1=rm.1:=by rw [hr']
  rw [hv,hr1]
  obtain ⟨hz,hhz⟩:∃ hz,hintN rm.2=hz:=⟨_,rfl⟩
  rw [hhz];have HZ:Hid (hintN rm.2=hz):=hhz;clear hhz;obtain ⟨u1,u2⟩:=rm;simp only at c4 hv hr1 e4 HZ
  have g50:¬ (50:Int)<=(l:Int):=by omega
  clear h hd hab hb hn hr hr' hv hr1 hl hq h1 h2 h3 hq2 hq3 b1 b2 b3 NW hne LAST hrm e4 h50;go_enter Tryz.func207,Tryz.ntmps207
  go_upto_region 3 with fail
  rw [<- hW];clear hW;go_wp2_with fail;refine c4.mono ?_;rintro e wd ⟨rfl,H4⟩;have k0:=H4.out.1.cell;clear c4;by_cases s0:u2=0
  ·subst s0;go_wp2;refine bodyPost_ret (results_tmp2 rfl _ _ _) rfl ?_;exact ⟨by rw [<- HZ.out]; rfl,HL.out _ H4.out.2⟩
  ·by_cases s1:u2=12
   ·subst s1;go_wp2;refine bodyPost_ret (results_tmp2 rfl _ _ _) rfl ?_;exact ⟨by rw [<- HZ.out]; rfl,HL.out _ H4.out.2⟩
   ·have z0:¬ (u2:Int)=0:=by omega
    have z1:¬ (u2:Int)=12:=by omega
    go_wp2;refine bodyPost_ret (results_tmp2 rfl _ _ _) rfl ?_;exact ⟨by rw [<- HZ.out]; rw [hintU s0 s1]; rfl,HL.out _ H4.out.2⟩
end Go.Proofs.YtjlokpjflgbgdaaGreat

namespace Go.Proofs.YtjlokpjflgbgdaaGreat
open Go.RowKit Go.Sort
theorem up_go {p:UInt64->Bool} {d:Array UInt64} {j i:Nat} (h:(decide (i<=j)&&p d[i]!)=true):scanUp p d j i=scanUp p d j (i+1):=by
 rw [scanUp,if_pos h]
theorem up_end {p:UInt64->Bool} {d:Array UInt64} {j i:Nat} (h:(decide (i<=j)&&p d[i]!)=false):scanUp p d j i=i:=by
 rw [scanUp,if_neg (by rw [h]; decide)]
theorem dn_go {p:UInt64->Bool} {d:Array UInt64} {j i:Nat} (hi:1<=i) (h:(decide (i<=j)&&p d[j]!)=true):scanDown p d i j=scanDown p d i (j - 1):=by
 cases j with
 | zero=>simp at h; omega
 | succ j=>rw [scanDown,if_pos h]; rfl
theorem dn_end {p:UInt64->Bool} {d:Array UInt64} {j i:Nat} (h:(decide (i<=j)&&p d[j]!)=false):scanDown p d i j=j:=by
 cases j with
 | zero=>rfl
 | succ j=>rw [scanDown,if_neg (by rw [h]; decide)]
theorem up_ge (p:UInt64->Bool) (d:Array UInt64) (j i:Nat):i<=scanUp p d j i/\(decide (scanUp p d j i<=j)&&p d[scanUp p d j i]!)=false:=by
 generalize hm:j+1 - i=m
 induction m generalizing i with
 | zero =>
  have h:(decide (i<=j)&&p d[i]!)=false:=by simp; intro q; omega
  rw [up_end h];exact ⟨Nat.le_refl _,h⟩
 | succ m ih =>
  cases h:(decide (i<=j)&&p d[i]!) with
  | false=>rw [up_end h]; exact ⟨Nat.le_refl _,h⟩
  | true =>
   rw [up_go h];have:=ih (i+1) (by omega);exact ⟨by omega,this.2⟩
theorem dn_le (p:UInt64->Bool) (d:Array UInt64) (i:Nat) (hi:1<=i):∀ j,scanDown p d i j<=j/\(decide (i<=scanDown p d i j)&&p d[scanDown p d i j]!)=false:=by
 intro j
 induction j with
 | zero=>exact ⟨by rw [scanDown]; exact Nat.le_refl _,by rw [scanDown]; simp; intro q; omega⟩
 | succ j ih =>
  cases h:(decide (i<=j+1)&&p d[j+1]!) with
  | false=>rw [dn_end h]; exact ⟨Nat.le_refl _,h⟩
  | true =>
   rw [dn_go hi h];exact ⟨by have:=ih.1; simp only [Nat.add_sub_cancel]; omega,ih.2⟩
theorem scan_ne {p q:UInt64->Bool} (hpq:∀ x,q x=!p x) {d:Array UInt64} {j i i2 j2:Nat} (hi:1<=i) (h1:scanUp p d j i=i2) (h2:scanDown q d i2 j=j2):i<=i2/\j2<=j/\i2≠j2:=by
 have a1:=up_ge p d j i;rw [h1] at a1;have a2:=dn_le q d i2 (by omega) j;rw [h2] at a2;refine ⟨a1.1,a2.1,?_⟩;intro e;subst e;have b1:=a1.2;have b2:=a2.2
 have l1:decide (i2<=j)=true:=by simpa using a2.1
 have l2:decide (i2<=i2)=true:=by simp
 rw [l1,Bool.true_and] at b1;rw [l2,Bool.true_and,hpq,b1] at b2;cases b2
theorem part_stop {a i j i2 j2:Nat} {d:Array UInt64} (h1:scanUp (λ x=>ltU x d[a]!) d j i=i2) (h2:scanDown (λ x=>!ltU x d[a]!) d i2 j=j2) (h:j2<i2):partLoop ltU a i j d=(j2,d):=by
 rw [partLoop];simp only [h1,h2];rw [if_pos h]
theorem part_go {a i j i2 j2:Nat} {d:Array UInt64} (hi:1<=i) (h1:scanUp (λ x=>ltU x d[a]!) d j i=i2) (h2:scanDown (λ x=>!ltU x d[a]!) d i2 j=j2) (h:¬ j2<i2):partLoop ltU a i j d=partLoop ltU a (i2+1) (j2 - 1) (swp d i2 j2):=by
 have hs:=scan_ne (p:=λ x=>ltU x d[a]!) (q:=λ x=>!ltU x d[a]!) (λ _=>rfl) hi h1 h2;rw [partLoop];simp only [h1,h2];rw [if_neg h,dif_pos (by omega)]
theorem parteq_stop {a i j i2 j2:Nat} {d:Array UInt64} (h1:scanUp (λ x=>!ltU d[a]! x) d j i=i2) (h2:scanDown (λ x=>ltU d[a]! x) d i2 j=j2) (h:j2<i2):partEqLoop ltU a i j d=(i2,d):=by
 rw [partEqLoop];simp only [h1,h2];rw [if_pos h]
theorem parteq_go {a i j i2 j2:Nat} {d:Array UInt64} (hi:1<=i) (h1:scanUp (λ x=>!ltU d[a]! x) d j i=i2) (h2:scanDown (λ x=>ltU d[a]! x) d i2 j=j2) (h:¬ j2<i2):partEqLoop ltU a i j d=partEqLoop ltU a (i2+1) (j2 - 1) (swp d i2 j2):=by
 have hs:=scan_ne (p:=λ x=>!ltU d[a]! x) (q:=λ x=>ltU d[a]! x) (λ _=>by simp) hi h1 h2;rw [partEqLoop];simp only [h1,h2];rw [if_neg h,dif_pos (by omega)]
end Go.Proofs.YtjlokpjflgbgdaaGreat
