/-
  The walk of StoreLasts.
-/
import Derived.Test.YtjlokpjflgbgdaaGreatML50
import Derived.Test.YtjlokpjflgbgdaaGreatML52
import Derived.Test.YtjlokpjflgbgdaaGreatML53
set_option maxHeartbeats 6400000
set_option maxRecDepth 100000
namespace Go.Proofs.YtjlokpjflgbgdaaGreat
open Go.RowKit
def WB (B R : Nat) (w0 u : World) (v : Wd) : Prop := ∃ s b fa fl fc oa on oc ra rn rc ta tn tc xa xn xc ya yn yc za zn zc U,
 WI B (λ j => j = R) u s b (.slice fa fl fc) (.slice oa on oc) (.slice ra rn rc) (.slice ta tn tc) (.slice xa xn xc) (.slice ya yn yc) (.slice za zn zc) U v.st v.d v.bl v.tl v.cl /\ BoxA u R 35 (wdV s b v.d (.slice fa fl fc) (.slice oa on oc) (.slice ra rn rc) (.slice ta tn tc) (.slice xa xn xc) (.slice ya yn yc) (.slice za zn zc)) /\ Below B w0 u /\ B <= R
theorem WB.start {w w1 w2 : World} {s b : Nat} (h1 : Below w.heap.size w w1) (hd : Duo w2 s b st0 dk0 (λ i => w1.heap.size <= i /\ i < w2.heap.size)) (h2 : Below w1.heap.size w1 w2) :
  WI w.heap.size (λ j => j = w2.heap.size) (w2.alloc (.cells (wdV s b dk0 nilV nilV nilV nilV nilV nilV nilV) 35)) s b nilV nilV nilV nilV nilV nilV nilV (λ i => w1.heap.size <= i /\ i < w2.heap.size) st0 dk0 [] [] [] /\ BoxA (w2.alloc (.cells (wdV s b dk0 nilV nilV nilV nilV nilV nilV nilV) 35)) w2.heap.size 35 (wdV s b dk0 nilV nilV nilV nilV nilV nilV nilV) /\ Below w.heap.size w (w2.alloc (.cells (wdV s b dk0 nilV nilV nilV nilV nilV nilV nilV) 35)) /\ w.heap.size <= w2.heap.size := by
 have b2 : Below w.heap.size w w2 := h1.trans (h2.mono h1.size)
 have b3 := bz1 w2 (.cells (wdV s b dk0 nilV nilV nilV nilV nilV nilV nilV) 35)
 refine ⟨⟨hd.below b3, λ i q => ?_, rms0 _ _, λ i q r => ?_, λ i q => ?_, OwnG.nil _ _ _ _, OwnG.nil _ _ _ _, OwnG.nil _ _ _ _, λ g q => (by cases q), λ g q => (by cases q), λ g q => (by cases q), λ g q => (by cases q), λ g q => (by cases q), λ g q => (by cases q)⟩, BoxA.new _ _ _, b2.trans (b3.mono b2.size), b2.size⟩
 ·have := q.1
  have := h1.size
  omega
 ·have r' : i = w2.heap.size := r
  rcases q with q | q | q | q
  ·have := q.2
   omega
  ·cases q
  ·cases q
  ·cases q
 ·have q' : i = w2.heap.size := q
  rw [q']
  simp
structure LE (B R : Nat) (w0 u : World) (s s2 b : Nat) (cs : Array Value) (xa ya za : Option Addr) (v : Wd) (st2 : St) : Prop where
 box : BoxA u R 35 cs
 rb : RdG encU u xa v.bl
 rt : RdG encU u ya v.tl
 rc : RdG encU u za v.cl
 old : ∃ S, StoreAt u s b v.st S
 new : ∃ S, StoreAt u s2 b st2 S
 bel : Below B w0 u
 low : B <= R
theorem LE.below {B R : Nat} {w0 u u' : World} {s s2 b : Nat} {cs : Array Value} {xa ya za : Option Addr} {v : Wd} {st2 : St} (h : LE B R w0 u s s2 b cs xa ya za v st2) (hb : Below u.heap.size u u') : LE B R w0 u' s s2 b cs xa ya za v st2 :=
 ⟨h.box.below hb h.box.lt, h.rb.below hb, h.rt.below hb, h.rc.below hb, h.old.imp (λ _ q => q.below hb), h.new.imp (λ _ q => q.below hb), h.bel.trans (hb.mono (Nat.le_trans h.low (Nat.le_of_lt h.box.lt))), h.low⟩
structure MB (B R : Nat) (w0 u : World) (s b : Nat) (cs : Array Value) (xb xt xc : Value) (v : Wd) (d : Dk) (S T : Nat -> Prop) : Prop where
 box : BoxA u R 35 cs
 ob : OwnG encU 56 u B xb v.bl
 ot : OwnG encU 56 u B xt v.tl
 oc : OwnG encU 56 u B xc v.cl
 old : StoreAt u s b v.st S
 dsk : DiskAt u b d T
 far : ∀ i, S i -> ¬ T i
 nr : ¬ T R
 nb : ∀ g, xb.ownBlock = some g -> ¬ T g
 nt : ∀ g, xt.ownBlock = some g -> ¬ T g
 nc : ∀ g, xc.ownBlock = some g -> ¬ T g
 lt : ∀ i, T i -> B <= i
 bel : Below B w0 u
 low : B <= R
theorem WI.mb {B R : Nat} {w0 u : World} {s b : Nat} {vf vo vr vt xb xt xc : Value} {U : Nat -> Prop} {v : Wd} {d : Dk} {cs : Array Value} (h : WI B (λ j => j = R) u s b vf vo vr vt xb xt xc U v.st d v.bl v.tl v.cl) (hb : BoxA u R 35 cs) (h0 : Below B w0 u) (hR : B <= R) : ∃ S T, MB B R w0 u s b cs xb xt xc v d S T := by
 obtain ⟨S, T, h1, h2, h3, h4, h5⟩ := h.duo
 exact ⟨S, T, hb, h.ob, h.ot, h.oc, h1, h2, h3, λ q => h.fe R (.inl (h4 R (.inr q))) rfl, λ g q r => h.fb g q (h4 g (.inr r)), λ g q r => h.ft g q (h4 g (.inr r)), λ g q r => h.fc g q (h4 g (.inr r)), λ i q => h.low i (h4 i (.inr q)), h0, hR⟩
theorem MB.turn {B R : Nat} {w0 u u' : World} {s b : Nat} {cs : Array Value} {xb xt xc : Value} {v : Wd} {d d' : Dk} {S T T' : Nat -> Prop} (h : MB B R w0 u s b cs xb xt xc v d S T) (ht : Turned T u u') (hd : DiskAt u' b d' T') (hT : ∀ i, T' i -> T i ∨ u.heap.size <= i) : MB B R w0 u' s b cs xb xt xc v d' S T' := by
 have hs := h.old.lt
 have hu : B <= u.heap.size := Nat.le_trans h.low (Nat.le_of_lt h.box.lt)
 have nx : ∀ {x : Value}, (∀ g, x.ownBlock = some g -> ¬ T g) -> (∀ g, x.ownBlock = some g -> g < u.heap.size) -> ∀ g, x.ownBlock = some g -> ¬ T' g := by
  intro x q1 q2 g hg r
  rcases hT g r with r | r
  ·exact q1 g hg r
  ·have := q2 g hg
   omega
 refine ⟨h.box.turned ht h.nr, h.ob.stays ht h.nb, h.ot.stays ht h.nt, h.oc.stays ht h.nc, h.old.stays ht h.far, hd, λ i q r => ?_, λ r => ?_, nx h.nb (λ g q => (h.ob.lt g q).2), nx h.nt (λ g q => (h.ot.lt g q).2), nx h.nc (λ g q => (h.oc.lt g q).2), λ i r => ?_, h.bel.trans (ht.below hu (λ k hk q => by have := h.lt k q; omega)), h.low⟩
 ·rcases hT i r with r | r
  ·exact h.far i q r
  ·have := hs i q
   omega
 ·rcases hT R r with r | r
  ·exact h.nr r
  ·have := h.box.lt
   omega
 ·rcases hT i r with r | r
  ·exact h.lt i r
  ·omega
theorem MB.restarts {B R : Nat} {w0 u : World} {s b : Nat} {cs : Array Value} {xb xt xc : Value} {v : Wd} {d : Dk} {S T : Nat -> Prop} (h : MB B R w0 u s b cs xb xt xc v d S T) :
  Calls Tryz.prog 19 #[.pointer (some ⟨b, 0, none⟩)] u λ e u' => e = .returned (.tuple #[]) /\ Hid (MB B R w0 u' s b cs xb xt xc v (dres d) S T) := by
 have hb : T b := h.dsk.mine
 refine (restart_at h.dsk).mono ?_
 rintro e u' ⟨rfl, k1, k2⟩
 exact ⟨rfl, h.turn (k2.mono (λ k _ q => by have q' : k = b := q; rw [q']; exact hb)) k1 (λ i q => .inl q)⟩
theorem MB.cuts {B R : Nat} {w0 u : World} {s b : Nat} {cs : Array Value} {xb xt xc : Value} {v : Wd} {d : Dk} {S T : Nat -> Prop} (h : MB B R w0 u s b cs xb xt xc v d S T) {x y : Int} (hx : -9223372036854775808 <= x /\ x <= 9223372036854775807) (hy : -9223372036854775808 <= y /\ y <= 9223372036854775807) :
  Calls Tryz.prog 16 #[.pointer (some ⟨b, 0, none⟩), .int .i64 x, .int .i64 y] u λ e u' => ∃ r, e = .returned (.int .i64 r) /\ Hid (r = (dcut d x y).2 /\ MB B R w0 u' s b cs xb xt xc v (dcut d x y).1 S T) := by
 have hb : T b := h.dsk.mine
 refine (cut_at h.dsk hx hy).mono ?_
 rintro e u' ⟨r, rfl, hr, k1, k2⟩
 exact ⟨r, rfl, hr.out, h.turn (k2.mono (λ k _ q => by have q' : k = b := q; rw [q']; exact hb)) k1 (λ i q => .inl q)⟩
theorem MB.opens {B R : Nat} {w0 u : World} {s b : Nat} {cs : Array Value} {xa ya za : Option Addr} {xn xc yn yc zn zc : Nat} {v : Wd} {d : Dk} {S T : Nat -> Prop} (h : MB B R w0 u s b cs (.slice xa xn xc) (.slice ya yn yc) (.slice za zn zc) v d S T) (hok : d.ok) (hw : d.writes <= 1000000) :
  Calls Tryz.prog 20 #[.pointer (some ⟨b, 0, none⟩)] u λ e u' =>
   (∃ s2, e = .returned (.tuple #[.pointer (some ⟨s2, 0, none⟩), .int .i64 0]) /\ Hid ((sopen d).2.2 = 0 /\ LE B R w0 u' s s2 b cs xa ya za v (sopen d).1)) ∨
   (∃ r, e = .returned (.tuple #[.pointer none, .int .i64 r]) /\ Hid ((sopen d).2.2 = r /\ r ≠ 0 /\ ∃ T', MB B R w0 u' s b cs (.slice xa xn xc) (.slice ya yn yc) (.slice za zn zc) v (sopen d).2.1 S T')) := by
 refine (open_store h.dsk hok hw).mono ?_
 rintro e u' ⟨T', hL, hc⟩
 obtain ⟨k1, k2, k3⟩ := hL.out
 have m := h.turn k3 k1 k2
 rcases hc with ⟨h0, s2, rfl, hs⟩ | ⟨r, rfl, hr⟩
 ·obtain ⟨S2, q1, q2⟩ := hs.out
  exact .inl ⟨s2, rfl, h0.out, m.box, m.ob.rdc.1, m.ot.rdc.1, m.oc.rdc.1, ⟨_, m.old⟩, ⟨_, q1⟩, m.bel, m.low⟩
 ·exact .inr ⟨r, rfl, hr.out.1, hr.out.2, T', m⟩
theorem LE.news {B R : Nat} {w0 u : World} {s s2 b : Nat} {cs : Array Value} {xa ya za : Option Addr} {v : Wd} {st2 : St} (h : LE B R w0 u s s2 b cs xa ya za v st2) (hl : Lasts v st2) :
  Calls Tryz.prog 24 #[.pointer (some ⟨s2, 0, none⟩)] u λ e u' => ∃ (a : Option Addr) (n c : Nat), e = .returned (.slice a n c) /\ Hid (st2.coms.length = n /\ LE B R w0 u' s s2 b cs xa ya za v st2) := by
 obtain ⟨S, hs⟩ := h.new
 refine (commits_any hs hl.ok.one (by have := hl.size; unfold St.size at this; omega)).mono ?_
 rintro e u' ⟨a, n, c, rfl, J⟩
 exact ⟨a, n, c, rfl, J.out.2.1, h.below J.out.2.2.2⟩
theorem LE.olds {B R : Nat} {w0 u : World} {s s2 b : Nat} {cs : Array Value} {xa ya za : Option Addr} {v : Wd} {st2 : St} (h : LE B R w0 u s s2 b cs xa ya za v st2) (hl : v.st.ok /\ v.st.objs.length <= 1000000) :
  Calls Tryz.prog 24 #[.pointer (some ⟨s, 0, none⟩)] u λ e u' => ∃ (a : Option Addr) (n c : Nat), e = .returned (.slice a n c) /\ Hid (v.st.coms.length = n /\ LE B R w0 u' s s2 b cs xa ya za v st2) := by
 obtain ⟨S, hs⟩ := h.old
 refine (commits_any hs hl.1.one (by have := hl.2; omega)).mono ?_
 rintro e u' ⟨a, n, c, rfl, J⟩
 exact ⟨a, n, c, rfl, J.out.2.1, h.below J.out.2.2.2⟩
theorem lasts_few {v : Wd} {st2 : St} (h : Lasts v st2) {n m : Nat} (h1 : st2.coms.length = n) (h2 : v.st.coms.length = m) : ∃ df : Nat, (n : Int) - (m : Int) = (df : Int) /\ df <= 1 /\ IntKind.i64.wrap (df : Int) = (df : Int) := by
 have := h.few
 refine ⟨n - m, by omega, by omega, ?_⟩
 rw [IntKind.wrap_i64]
 omega
theorem WB.stored {B R : Nat} {w0 w3 : World} {s b : Nat} {v : Wd} {fa oa ra ta xa ya za : Option Addr} {fl fc on oc rn rc tn tc xn xc yn yc zn zc : Nat} {U : Nat -> Prop} {cs : Array Value} (h1 : WI B (λ j => j = R) w3 s b (.slice fa fl fc) (.slice oa on oc) (.slice ra rn rc) (.slice ta tn tc) (.slice xa xn xc) (.slice ya yn yc) (.slice za zn zc) U v.st v.d v.bl v.tl v.cl) (h2 : Below B w0 w3) (hb : BoxA w3 R 35 cs) (hs : ∃ a0 a1 a2 a3 a4 a5 a6 a7 a8 a9 a10 a11 a12 a13, cs = #[a0, a1, a2, a3, a4, a5, a6, a7, a8, a9, a10, a11, a12, a13]) (hR : B <= R) :
  WB B R w0 (layL w3 R [.pointer (some ⟨b, 0, none⟩), .pointer (some ⟨s, 0, none⟩), .slice fa fl fc, .int .i64 (v.d.writes : Int), .bool v.d.armed, .bool v.d.dead, .int .i64 (v.d.after : Int), .int .i64 (v.d.keep : Int), .slice oa on oc, .slice ra rn rc, .slice ta tn tc, .slice xa xn xc, .slice ya yn yc, .slice za zn zc] 0) v := by
 obtain ⟨a0, a1, a2, a3, a4, a5, a6, a7, a8, a9, a10, a11, a12, a13, rfl⟩ := hs
 have hT := lay_all (W := w3) R [.pointer (some ⟨b, 0, none⟩), .pointer (some ⟨s, 0, none⟩), .slice fa fl fc, .int .i64 (v.d.writes : Int), .bool v.d.armed, .bool v.d.dead, .int .i64 (v.d.after : Int), .int .i64 (v.d.keep : Int), .slice oa on oc, .slice ra rn rc, .slice ta tn tc, .slice xa xn xc, .slice ya yn yc, .slice za zn zc] 0
 have hM := hb.lays [.pointer (some ⟨b, 0, none⟩), .pointer (some ⟨s, 0, none⟩), .slice fa fl fc, .int .i64 (v.d.writes : Int), .bool v.d.armed, .bool v.d.dead, .int .i64 (v.d.after : Int), .int .i64 (v.d.keep : Int), .slice oa on oc, .slice ra rn rc, .slice ta tn tc, .slice xa xn xc, .slice ya yn yc, .slice za zn zc] 0
 rw [set14] at hM
 exact ⟨s, b, fa, fl, fc, oa, on, oc, ra, rn, rc, ta, tn, tc, xa, xn, xc, ya, yn, yc, za, zn, zc, U, h1.turn hT (λ i q => q), hM, h2.trans (hT.below (Nat.le_trans hR (Nat.le_of_lt hb.lt)) (λ i hi q => by have q' : i = R := q; omega)), hR⟩
theorem lasts_walk {w : World} {ao : Option Addr} {n c : Nat} {l : List AV} (hA : Acts w ao n l) (hN : ∀ a ∈ l, a.nm.size <= 140737488355328) (hn : n <= 4000000000000000000) (cut keep again : Int) (hc : -9223372036854775808 <= cut /\ cut <= 9223372036854775807) (hk : -9223372036854775808 <= keep /\ keep <= 9223372036854775807) (hg : -9223372036854775808 <= again /\ again <= 9223372036854775807) :
  Calls Tryz.prog 4 #[.slice ao n c, .int .i64 cut, .int .i64 keep, .int .i64 again] w λ e w' => e = .returned (.bool true) /\ Below w.heap.size w w' := by
 have HA : Hid (Acts w ao n l /\ ∀ a ∈ l, a.nm.size <= 140737488355328) := ⟨hA, hN⟩
 clear hA hN
 go_enter Tryz.func4, Tryz.ntmps4
 go_wp2_with fail
 refine (awake_any w).mono ?_
 rintro e w1 ⟨rfl, b1⟩
 have B1 : Hid (Below w.heap.size w w1) := b1
 clear b1
 go_wp2_with fail
 refine (fresh_any w1).mono ?_
 rintro e w2 ⟨s, b, rfl, H2⟩
 obtain ⟨R, hR⟩ : ∃ R, w2.heap.size = R := ⟨_, rfl⟩
 have L0 : Hid (WI w.heap.size (λ j => j = R) (w2.alloc (.cells (wdV s b dk0 nilV nilV nilV nilV nilV nilV nilV) 35)) s b nilV nilV nilV nilV nilV nilV nilV (λ i => w1.heap.size <= i /\ i < R) st0 dk0 [] [] [] /\ BoxA (w2.alloc (.cells (wdV s b dk0 nilV nilV nilV nilV nilV nilV nilV) 35)) R 35 (wdV s b dk0 nilV nilV nilV nilV nilV nilV nilV) /\ Below w.heap.size w (w2.alloc (.cells (wdV s b dk0 nilV nilV nilV nilV nilV nilV nilV) 35)) /\ w.heap.size <= R) := by rw [<- hR]; exact WB.start B1.out H2.out.1 H2.out.2
 clear H2
 go_upto_region 4 with fail
 obtain ⟨w3, hw3⟩ : ∃ w3, w3 = w2.alloc (.cells (wdV s b dk0 nilV nilV nilV nilV nilV nilV nilV) 35) := ⟨_, rfl⟩
 rw [<- hw3] at L0
 (try rw [<- hw3])
 clear hw3 hR
 by_cases hc0 : cut < 0
 ·have d0 : decide (cut < 0) = true := by simpa using hc0
  go_wp2
  go_ret
  exact ⟨rfl, L0.out.2.2.1⟩
 by_cases hk0 : keep < 0
 ·have d0 : decide (keep < 0) = true := by simpa using hk0
  have d1 : decide (cut < 0) = false := by simpa using hc0
  go_wp2
  go_ret
  exact ⟨rfl, L0.out.2.2.1⟩
 have d0 : decide (keep < 0) = false := by simpa using hk0
 have d1 : decide (cut < 0) = false := by simpa using hc0
 obtain ⟨cn, rfl⟩ : ∃ cn : Nat, cut = (cn : Int) := ⟨cut.toNat, by omega⟩
 obtain ⟨c5, hc5⟩ : ∃ c5, cn % 50 = c5 := ⟨_, rfl⟩
 have e1 : (cn : Int).tmod 50 = (c5 : Int) := by rw [<- hc5]; rfl
 have e2 : IntKind.i64.wrap (c5 : Int) = (c5 : Int) := by rw [IntKind.wrap_i64]; omega
 obtain ⟨d1', hd1⟩ : ∃ d1', (dcut dk0 (c5 : Int) keep).1 = d1' := ⟨_, rfl⟩
 have hd2 : dcut dk0 (c5 : Int) keep = ({ dk0 with armed := true, after := c5, keep := keep.toNat }, 0) := by
  unfold dcut
  rw [if_neg (by omega), if_neg (by decide)]
  rfl
 have GD : Hid (dcut dk0 (c5 : Int) keep = (d1', 0) /\ (⟨st0, d1', [], [], []⟩ : Wd).good 0) := by
  have e : d1' = { dk0 with armed := true, after := c5, keep := keep.toNat } := by rw [<- hd1, hd2]
  subst e
  refine ⟨hd2, ⟨St.ok0, ⟨List.Pairwise.nil, Nat.zero_le _, λ _ q => (by cases q), by show c5 < _; omega⟩, Nat.le_refl _, Nat.le_refl 0, Nat.le_refl 0, Nat.le_refl 0, Nat.le_refl 0⟩, ?_, ⟨λ _ q => (by cases q), λ _ q => (by cases q), λ _ q => (by cases q)⟩⟩
  exact .inl ⟨rfl, by show sread st0 [] = _; rw [sread_nil]; rfl⟩
 have hcc := L0.out.1.duo.cuts (x := (c5 : Int)) (y := keep) (by omega) hk
 rw [GD.out.1] at hcc
 have p0 := L0.out.2.1.cell (j := 0) rfl
 clear hd1 hd2 hc5 hc0 hk0
 go_wp2_with fail
 refine hcc.mono ?_
 rintro e w4 ⟨r, rfl, J4⟩
 obtain rfl : r = 0 := J4.out.1
 have X4 : Hid (WI w.heap.size (λ j => j = R) w4 s b nilV nilV nilV nilV nilV nilV nilV (λ i => w1.heap.size <= i /\ i < R) st0 d1' [] [] [] /\ BoxA w4 R 35 (wdV s b dk0 nilV nilV nilV nilV nilV nilV nilV) /\ Below w.heap.size w w4) := by
  have hU := J4.out.2.2.2
  have hf : d1'.files = dk0.files := by
   have := dcut_files dk0 (c5 : Int) keep
   rw [GD.out.1] at this
   exact this
  refine ⟨L0.out.1.disk J4.out.2.1 J4.out.2.2.1 hU hf, L0.out.2.1.turned J4.out.2.2.1 (λ q => ?_), L0.out.2.2.1.trans (J4.out.2.2.1.below L0.out.2.2.1.size (λ k hk q => ?_))⟩
  ·have q' : R = b := q
   have := hU.2
   omega
  ·have q' : k = b := q
   have h1 := L0.out.1.low b hU
   omega
 clear hcc p0 J4
 have p2 := X4.out.2.1.cell (j := 2) rfl
 have p3 := X4.out.2.1.cell (j := 3) rfl
 have p4 := X4.out.2.1.cell (j := 4) rfl
 have p5 := X4.out.2.1.cell (j := 5) rfl
 have p6 := X4.out.2.1.cell (j := 6) rfl
 have p7 := X4.out.2.1.cell (j := 7) rfl
 have hrc := krcut_any (w := w4) (ao := none) (L := 0) (c := 0) (d := dk0) (c5 : Int) keep
 rw [GD.out.1] at hrc
 go_wp2_with fail
 refine hrc.mono ?_
 rintro e w5 ⟨rfl, hb5⟩
 clear hrc p2 p3 p4 p5 p6 p7
 have X5 : Hid (WI w.heap.size (λ j => j = R) w5 s b nilV nilV nilV nilV nilV nilV nilV (λ i => w1.heap.size <= i /\ i < R) st0 d1' [] [] [] /\ BoxA w5 R 35 (wdV s b dk0 nilV nilV nilV nilV nilV nilV nilV) /\ Below w.heap.size w w5) := ⟨X4.out.1.below hb5, X4.out.2.1.below hb5 X4.out.2.1.lt, X4.out.2.2.trans (hb5.mono X4.out.2.2.size)⟩
 clear hb5 X4
 have p2 := X5.out.2.1.cell (j := 2) rfl
 have p3 := X5.out.2.1.cell (j := 3) rfl
 have p4 := X5.out.2.1.cell (j := 4) rfl
 have p5 := X5.out.2.1.cell (j := 5) rfl
 have p6 := X5.out.2.1.cell (j := 6) rfl
 have p7 := X5.out.2.1.cell (j := 7) rfl
 have f2 := X5.out.2.1.thaw 2
 have f3 := X5.out.2.1.thaw 3
 have f4 := X5.out.2.1.thaw 4
 have f5 := X5.out.2.1.thaw 5
 have f6 := X5.out.2.1.thaw 6
 have f7 := X5.out.2.1.thaw 7
 go_upto_region 7 with fail
 clear p2 p3 p4 p5 p6 p7 f2 f3 f4 f5 f6 f7
 obtain ⟨w6, hw6⟩ : ∃ w6, w6 = layL w5 R [.slice none 0 0, .int .i64 (d1'.writes : Int), .bool d1'.armed, .bool d1'.dead, .int .i64 (d1'.after : Int), .int .i64 (d1'.keep : Int)] 2 := ⟨_, rfl⟩
 have L1 : Hid (∃ v : Wd, v.good 0 /\ WB w.heap.size R w w6 v) := by
  have hT := lay_all (W := w5) R [.slice none 0 0, .int .i64 (d1'.writes : Int), .bool d1'.armed, .bool d1'.dead, .int .i64 (d1'.after : Int), .int .i64 (d1'.keep : Int)] 2
  have hM := X5.out.2.1.lays [.slice none 0 0, .int .i64 (d1'.writes : Int), .bool d1'.armed, .bool d1'.dead, .int .i64 (d1'.after : Int), .int .i64 (d1'.keep : Int)] 2
  rw [<- hw6] at hT hM
  have hM : BoxA w6 R 35 (wdV s b d1' nilV nilV nilV nilV nilV nilV nilV) := by simpa [setL, wdC] using hM
  exact ⟨_, GD.out.2, s, b, none, 0, 0, none, 0, 0, none, 0, 0, none, 0, 0, none, 0, 0, none, 0, 0, none, 0, 0, _, X5.out.1.turn hT (λ i q => q), hM, X5.out.2.2.trans (hT.below X5.out.2.2.size (λ i hi q => by have q' : i = R := q; have := L0.out.2.2.2; omega)), L0.out.2.2.2⟩
 have HRB : Hid (w.heap.size <= R) := L0.out.2.2.2
 simp only [layL, Nat.reduceAdd] at hw6
 rw [<- hw6]
 clear hw6 X5 GD L0 e1 e2 B1
 go_wp2_with fail
 go_loopg [10, 11] (min n 60) (λ m ov iv wr => ov = .bool true /\ ∃ i : Nat, iv = .int .i64 i /\ i + m = min n 60 /\ Hid (∃ v : Wd, v.good i /\ WB w.heap.size R w wr v))
 case atStart => exact ⟨rfl, 0, rfl, by omega, L1.out⟩
 case round =>
  obtain ⟨rfl, i, rfl, hi, HR⟩ := hrel
  clear L1
  obtain ⟨v, hv, hwb⟩ := HR.out
  have HV : Hid (v.good i /\ WB w.heap.size R w wr v) := ⟨hv, hwb⟩
  clear HR hv
  obtain ⟨s, b, fa, fl, fc, oa, on, oc, ra, rn, rc, ta, tn, tc, xa, xn, xc, ya, yn, yc, za, zn, zc, U, h1, h2, h4, h5⟩ := hwb
  have HW : Hid (WI w.heap.size (λ j => j = R) wr s b (.slice fa fl fc) (.slice oa on oc) (.slice ra rn rc) (.slice ta tn tc) (.slice xa xn xc) (.slice ya yn yc) (.slice za zn zc) U v.st v.d v.bl v.tl v.cl /\ BoxA wr R 35 (wdV s b v.d (.slice fa fl fc) (.slice oa on oc) (.slice ra rn rc) (.slice ta tn tc) (.slice xa xn xc) (.slice ya yn yc) (.slice za zn zc)) /\ Below w.heap.size w wr) := ⟨h1, h2, h4⟩
  clear h1 h2 h4 h5
  have p0 := HW.out.2.1.cell (j := 0) rfl
  have hdd := HW.out.1.duo.deads
  obtain ⟨dd, hdd2⟩ : ∃ dd, v.d.dead = dd := ⟨_, rfl⟩
  rw [hdd2] at hdd
  have HDD : Hid (v.d.dead = dd) := hdd2
  clear hdd2
  go_upto_region 8 with fail
  go_cut [83] from 70 to 102 (λ tv u => ∃ f, u = wr /\ tv = .bool f /\ Hid (f = true -> i < min n 60 /\ dd = false))
  case first =>
   by_cases hin : i < n
   ·have id : (i : Int) < (n : Int) := by omega
    have id2 : decide ((i : Int) < (n : Int)) = true := by simpa using id
    by_cases h60 : i < 60
    ·have i6 : (i : Int) < 60 := by omega
     have i62 : decide ((i : Int) < 60) = true := by simpa using i6
     go_wp2_with fail
     refine hdd.mono ?_
     rintro e u1 ⟨rfl, hu1⟩
     rw [hu1]
     cases dd with
     | true =>
      go_wp2_with fail
      go_meet
      exact ⟨_, rfl, rfl, λ q => (by cases q)⟩
     | false =>
      go_wp2_with fail
      go_meet
      exact ⟨_, rfl, rfl, λ _ => ⟨by omega, by simp⟩⟩
    ·have i6 : ¬ (i : Int) < 60 := by omega
     have i62 : decide ((i : Int) < 60) = false := by simpa using i6
     go_wp2_with fail
     go_meet
     exact ⟨_, rfl, rfl, λ q => (by cases q)⟩
   ·have id : ¬ (i : Int) < (n : Int) := by omega
    have id2 : decide ((i : Int) < (n : Int)) = false := by simpa using id
    go_wp2_with fail
    go_meet
    exact ⟨_, rfl, rfl, λ q => (by cases q)⟩
  case rest =>
   obtain ⟨f, rfl, rfl, HF⟩ := hcut
   clear p0 hdd
   cases f with
   | true =>
    obtain ⟨hin, hdf⟩ := HF.out rfl
    have id : (i : Int) < (n : Int) := by omega
    have id0 : (0 : Int) <= (i : Int) := by omega
    obtain ⟨a, ha⟩ := get_some HA.out.1.len (show i < n by omega)
    obtain ⟨g, off, rfl, hlt⟩ := HA.out.1.rd.some_of ha
    have HAC := hid ((HA.out.1.rd.below HW.out.2.2).acts ha)
    obtain ⟨hbw, c0, c1, c2, c3, c4, c5', c6⟩ := HAC.out
    have hnm := HA.out.2 a (List.mem_of_getElem? ha)
    obtain ⟨data, ps, qs, hAt⟩ := HA.out.1.each a (List.mem_of_getElem? ha)
    by_cases h6 : a.k < 6
    ·have PA := hid (play6 (w0 := w) (v := v) (a := a) (N := i) (HW.out.1.below (Below.refl _ _).drew) HW.out.2.2.drew rfl (Nat.le_trans HW.out.2.2.size (Nat.le_refl _)) hAt hnm h6 HV.out.1.fine (by omega))
     have HG : Hid (∀ ac, (wstep ac v).good (i + 1)) := λ ac => HV.out.1.step ac
     obtain ⟨k, da, dn, dc, pa, pn, pc, qa, qn, qc, nm, dt, kp⟩ := a
     simp only at c0 c1 c2 c3 c4 c5' c6 h6
     clear ha hAt hnm HF HDD hdf HV
     go_upto_region 11 with fail
     go_cut [10] from 70 to 102 (λ ov u => ∃ x, x = u /\ ov = .bool true /\ Hid (∃ vd : Wd, vd.good (i + 1) /\ WB w.heap.size R w x vd))
     case first =>
      have p0 := HW.out.2.1.cell (j := 0) rfl
      have p1 := HW.out.2.1.cell (j := 1) rfl
      have p2 := HW.out.2.1.cell (j := 2) rfl
      have p3 := HW.out.2.1.cell (j := 3) rfl
      have p4 := HW.out.2.1.cell (j := 4) rfl
      have p5 := HW.out.2.1.cell (j := 5) rfl
      have p6 := HW.out.2.1.cell (j := 6) rfl
      have p7 := HW.out.2.1.cell (j := 7) rfl
      have p8 := HW.out.2.1.cell (j := 8) rfl
      have p9 := HW.out.2.1.cell (j := 9) rfl
      have p10 := HW.out.2.1.cell (j := 10) rfl
      have p11 := HW.out.2.1.cell (j := 11) rfl
      have p12 := HW.out.2.1.cell (j := 12) rfl
      have p13 := HW.out.2.1.cell (j := 13) rfl
      go_region_law
       (first
        | (refine step_call2 rfl (.tmp 93) (.tmp 97) 13 #[35, 43] rfl enters_Play (.agg (wdV s b v.d (.slice fa fl fc) (.slice oa on oc) (.slice ra rn rc) (.slice ta tn tc) (.slice xa xn xc) (.slice ya yn yc) (.slice za zn zc))) (actV k (.slice da dn dc) (.slice pa pn pc) (.slice qa qn qc) nm dt kp) (by simp [Act.eval]) (by simp [Act.eval]) _ PA.out ?_; intro v3 w3 h3; obtain ⟨fa', fl', fc', oa', on', oc', ra', rn', rc', ta', tn', tc', xa', xn', xc', ya', yn', yc', za', zn', zc', U', e3, q1, q2, q3⟩ := h3.out; subst e3; have kR : BoxA w3 R 35 (wdV s b v.d (.slice fa fl fc) (.slice oa on oc) (.slice ra rn rc) (.slice ta tn tc) (.slice xa xn xc) (.slice ya yn yc) (.slice za zn zc)) := (q3 R rfl).trans HW.out.2.1; have H9 := hid (WB.stored q1 q2 kR ⟨_, _, _, _, _, _, _, _, _, _, _, _, _, _, rfl⟩ HRB.out); have k0 := kR.cell (j := 0) rfl; have f0 := kR.thaw 0; have k1 := kR.cell (j := 1) rfl; have f1 := kR.thaw 1; have k2 := kR.cell (j := 2) rfl; have f2 := kR.thaw 2; have k3 := kR.cell (j := 3) rfl; have f3 := kR.thaw 3; have k4 := kR.cell (j := 4) rfl; have f4 := kR.thaw 4; have k5 := kR.cell (j := 5) rfl; have f5 := kR.thaw 5; have k6 := kR.cell (j := 6) rfl; have f6 := kR.thaw 6; have k7 := kR.cell (j := 7) rfl; have f7 := kR.thaw 7; have k8 := kR.cell (j := 8) rfl; have f8 := kR.thaw 8; have k9 := kR.cell (j := 9) rfl; have f9 := kR.thaw 9; have k10 := kR.cell (j := 10) rfl; have f10 := kR.thaw 10; have k11 := kR.cell (j := 11) rfl; have f11 := kR.thaw 11; have k12 := kR.cell (j := 12) rfl; have f12 := kR.thaw 12; have k13 := kR.cell (j := 13) rfl; have f13 := kR.thaw 13; clear h3 q1 q2 q3 kR)
        | fail)
      all_goals
       simp only [layL, Nat.reduceAdd] at H9
       go_wp2_with fail
       go_meet
       exact ⟨_, rfl, rfl, _, HG.out _, H9.out⟩
     case rest =>
      obtain ⟨x, rfl, rfl, HX⟩ := hcut
      clear c0 c1 c2 c3 c4 c5' c6 hbw PA HG HW HAC
      go_wp2
      go_roundg (gk - 1)
      case measure => omega
      case rel => exact ⟨rfl, i + 1, by go_num, by omega, HX.out⟩
    ·obtain ⟨ak, hak⟩ : ∃ ak, a.k = ak := ⟨_, rfl⟩
     rw [hak] at h6 c0
     have FIN := hid (⟨v, HV.out.1.more, HV.out.2⟩ : ∃ v : Wd, v.good (i + 1) /\ WB w.heap.size R w _ v)
     clear c1 c2 c3 c4 c5' c6 ha hAt hnm HF HDD hdf HV HW HAC
     go_wp2
     go_roundg (gk - 1)
     case measure => omega
     case rel => exact ⟨rfl, i + 1, by go_num, by omega, FIN.out⟩
   | false =>
    clear HF HDD
    obtain ⟨S0, T0, hmb⟩ := HW.out.1.mb HW.out.2.1 HW.out.2.2 HRB.out
    have p0 := HW.out.2.1.cell (j := 0) rfl
    have hrs := hmb.restarts
    have GV : Hid (v.good i /\ i <= 60 /\ v.bl.length = xn /\ v.tl.length = yn /\ v.cl.length = zn) := ⟨HV.out.1, by omega, own_len HW.out.1.ob, own_len HW.out.1.ot, own_len HW.out.1.oc⟩
    clear HV HW hmb
    go_wp2_with fail
    refine hrs.mono ?_
    rintro e w7 ⟨rfl, J7⟩
    clear hrs p0
    have p0 := J7.out.box.cell (j := 0) rfl
    go_upto_region 15 with fail
    go_cut [114] (λ tv u => ∃ x d', x = u /\ tv = .bool false /\ Hid (MB w.heap.size R w x s b (wdV s b v.d (.slice fa fl fc) (.slice oa on oc) (.slice ra rn rc) (.slice ta tn tc) (.slice xa xn xc) (.slice ya yn yc) (.slice za zn zc)) (.slice xa xn xc) (.slice ya yn yc) (.slice za zn zc) v d' S0 T0 /\ d'.files = v.d.files /\ d'.ok /\ d'.writes <= 60 /\ d'.dead = false /\ (d'.armed = false ∨ (d'.armed = true /\ d'.after = 0))))
    case first =>
     have hok : (dres v.d).ok := ⟨GV.out.1.fine.d.rise, GV.out.1.fine.d.few, GV.out.1.fine.d.each, GV.out.1.fine.d.after⟩
     have hww : (dres v.d).writes <= 60 := Nat.le_trans GV.out.1.fine.writes GV.out.2.1
     by_cases ha : 0 < again
     ·have d2 : decide (0 < again) = true := by simpa using ha
      have hcc := J7.out.cuts (x := 0) (y := again) (by omega) hg
      have hd2 : dcut (dres v.d) 0 again = ({ dres v.d with armed := true, after := 0, keep := again.toNat }, 0) := by
       unfold dcut
       rw [if_neg (by omega), if_neg (by simp [dres])]
       rfl
      rw [hd2] at hcc
      have HO : Hid ((dres v.d).ok /\ (dres v.d).writes <= 60) := ⟨hok, hww⟩
      clear hd2 hok hww
      go_wp2_with fail
      refine hcc.mono ?_
      rintro e w8 ⟨r, rfl, J8⟩
      obtain rfl : r = 0 := J8.out.1
      go_wp2_with fail
      go_meet
      exact ⟨_, _, rfl, rfl, J8.out.2, rfl, ⟨HO.out.1.rise, HO.out.1.few, HO.out.1.each, by show 0 < _; omega⟩, HO.out.2, rfl, .inr ⟨rfl, rfl⟩⟩
     ·have d2 : decide (0 < again) = false := by simpa using ha
      have HO : Hid ((dres v.d).ok /\ (dres v.d).writes <= 60) := ⟨hok, hww⟩
      clear hok hww
      go_wp2_with fail
      go_meet
      exact ⟨_, _, rfl, rfl, J7.out, rfl, HO.out.1, HO.out.2, rfl, .inl rfl⟩
    case rest =>
     obtain ⟨w8, d8, rfl, rfl, J8⟩ := hcut
     clear p0 J7
     have p0 := J8.out.1.box.cell (j := 0) rfl
     have hop := J8.out.1.opens J8.out.2.2.1 (by have := J8.out.2.2.2.1; omega)
     go_upto_region 17 with fail
     go_cut [12, 13] (λ sv ev u => ∃ x zs ze, x = u /\ sv = .pointer zs /\ ev = .int .i64 ze /\ Hid ((∃ s2 st2, zs = some ⟨s2, 0, none⟩ /\ ze = 0 /\ LE w.heap.size R w x s s2 b (wdV s b v.d (.slice fa fl fc) (.slice oa on oc) (.slice ra rn rc) (.slice ta tn tc) (.slice xa xn xc) (.slice ya yn yc) (.slice za zn zc)) xa ya za v st2 /\ Lasts v st2) ∨ (zs = none /\ ze = 8 /\ ∃ T' d', MB w.heap.size R w x s b (wdV s b v.d (.slice fa fl fc) (.slice oa on oc) (.slice ra rn rc) (.slice ta tn tc) (.slice xa xn xc) (.slice ya yn yc) (.slice za zn zc)) (.slice xa xn xc) (.slice ya yn yc) (.slice za zn zc) v d' S0 T' /\ d'.files = v.d.files /\ d'.ok /\ d'.writes <= 60)))
     case first =>
      go_wp2_with fail
      refine hop.mono ?_
      rintro e w9 (⟨s2, rfl, J9⟩ | ⟨r, rfl, J9⟩)
      ·have FIN : Hid (LE w.heap.size R w w9 s s2 b (wdV s b v.d (.slice fa fl fc) (.slice oa on oc) (.slice ra rn rc) (.slice ta tn tc) (.slice xa xn xc) (.slice ya yn yc) (.slice za zn zc)) xa ya za v (sopen d8).1 /\ Lasts v (sopen d8).1) := by
        refine ⟨J9.out.2, GV.out.1.lasts J8.out.2.1 ?_⟩
        rcases J8.out.2.2.2.2.2 with q | q
        ·exact (sopen_calm ⟨q, J8.out.2.2.2.2.1⟩ J8.out.2.2.1.rise).2.1
        ·rcases sopen_armed J8.out.2.2.2.2.1 q.1 q.2 with r | r
         ·exact r.2.1
         ·have := J9.out.1
          rw [r.1] at this
          cases this
       clear J9 hop
       go_wp2_with fail
       go_meet
       exact ⟨_, _, _, rfl, rfl, rfl, .inl ⟨s2, _, rfl, rfl, FIN.out⟩⟩
      ·have FIN : Hid (r = 8 /\ ∃ T' d', MB w.heap.size R w w9 s b (wdV s b v.d (.slice fa fl fc) (.slice oa on oc) (.slice ra rn rc) (.slice ta tn tc) (.slice xa xn xc) (.slice ya yn yc) (.slice za zn zc)) (.slice xa xn xc) (.slice ya yn yc) (.slice za zn zc) v d' S0 T' /\ d'.files = v.d.files /\ d'.ok /\ d'.writes <= 60) := by
        obtain ⟨j1, j2, T', j3⟩ := J9.out
        rcases J8.out.2.2.2.2.2 with q | q
        ·have := (sopen_calm ⟨q, J8.out.2.2.2.2.1⟩ J8.out.2.2.1.rise).1
         rw [j1] at this
         exact absurd this j2
        ·rcases sopen_armed J8.out.2.2.2.2.1 q.1 q.2 with r | r
         ·rw [j1] at r
          exact absurd r.1 j2
         ·rw [r.2] at j3
          exact ⟨by rw [<- j1, r.1], T', _, j3, J8.out.2.1, ⟨J8.out.2.2.1.rise, J8.out.2.2.1.few, J8.out.2.2.1.each, J8.out.2.2.1.after⟩, J8.out.2.2.2.1⟩
       clear J9 hop
       go_wp2_with fail
       go_meet
       exact ⟨_, _, _, rfl, rfl, rfl, .inr ⟨rfl, FIN.out⟩⟩
     case rest =>
      obtain ⟨w9, zs, ze, rfl, rfl, rfl, J9⟩ := hcut
      clear p0 hop J8
      go_upto_if 122 with fail
      go_cut [12, 13] (λ sv ev u => ∃ x s2 st2, x = u /\ sv = .pointer (some ⟨s2, 0, none⟩) /\ ev = .int .i64 0 /\ Hid (LE w.heap.size R w x s s2 b (wdV s b v.d (.slice fa fl fc) (.slice oa on oc) (.slice ra rn rc) (.slice ta tn tc) (.slice xa xn xc) (.slice ya yn yc) (.slice za zn zc)) xa ya za v st2 /\ Lasts v st2))
      case first =>
       rcases J9.out with ⟨s2, st2, rfl, rfl, q1, q2⟩ | ⟨rfl, rfl, T', d', q1, q2, q3, q4⟩
       ·have FIN := hid (And.intro q1 q2)
        clear J9 q1 q2
        go_wp2_with fail
        go_meet
        exact ⟨_, s2, st2, rfl, rfl, rfl, FIN.out⟩
       ·have p0 := q1.box.cell (j := 0) rfl
        have hrs := q1.restarts
        have Q := hid (And.intro q2 (And.intro q3 q4))
        clear J9 q1 q2 q3 q4
        go_wp2_with fail
        refine hrs.mono ?_
        rintro e w10 ⟨rfl, J10⟩
        clear p0 hrs
        have p0 := J10.out.box.cell (j := 0) rfl
        have hok : (dres d').ok := ⟨Q.out.2.1.rise, Q.out.2.1.few, Q.out.2.1.each, Q.out.2.1.after⟩
        have hop := J10.out.opens hok (by have := Q.out.2.2; show d'.writes <= _; omega)
        have HO := hid hok
        clear hok
        go_wp2_with fail
        refine hop.mono ?_
        have cal := sopen_calm (d := dres d') ⟨rfl, rfl⟩ HO.out.rise
        rintro e w11 (⟨s2, rfl, J11⟩ | ⟨r, rfl, J11⟩)
        ·have FIN := hid (And.intro J11.out.2 (GV.out.1.lasts (d := dres d') Q.out.1 cal.2.1))
         clear J11 hop cal
         go_wp2_with fail
         go_meet
         exact ⟨_, s2, _, rfl, rfl, rfl, FIN.out⟩
        ·exact absurd (J11.out.1.symm.trans cal.1) J11.out.2.1
      case rest =>
       obtain ⟨w10, s2, st2, rfl, rfl, rfl, J10⟩ := hcut
       clear J9
       have HL : Hid (Lasts v st2 /\ (∀ o ∈ st2.objs, o.body.length <= 8192) /\ (v.st.ok /\ v.st.objs.length <= 1000000) /\ v.bl.length = xn /\ v.tl.length = yn /\ v.cl.length = zn /\ xn <= 60 /\ yn <= 60 /\ zn <= 60) := by
        have g1 := GV.out.1.fine
        have g2 := GV.out.2
        refine ⟨J10.out.2, λ o ho => (J10.out.2.ok.ids o ho).2.2.2.2, ⟨g1.st, ?_⟩, g2.2.1, g2.2.2.1, g2.2.2.2, ?_, ?_, ?_⟩
        ·have := g1.size
         unfold St.size at this
         omega
        ·have := g1.bl; omega
        ·have := g1.tl; omega
        ·have := g1.cl; omega
       have hx60 : xn <= 60 := HL.out.2.2.2.2.2.2.1
       have hy60 : yn <= 60 := HL.out.2.2.2.2.2.2.2.1
       have hz60 : zn <= 60 := HL.out.2.2.2.2.2.2.2.2
       have L2 := hid J10.out.1
       clear J10 GV
       go_wp2_with fail
       go_loopg [14, 15, 16] xn (λ m iv _ _ wr => ∃ j : Nat, iv = .int .i64 j /\ j + m = xn /\ Hid (LE w.heap.size R w wr s s2 b (wdV s b v.d (.slice fa fl fc) (.slice oa on oc) (.slice ra rn rc) (.slice ta tn tc) (.slice xa xn xc) (.slice ya yn yc) (.slice za zn zc)) xa ya za v st2))
       case atStart => exact ⟨0, rfl, by omega, L2.out⟩
       case round =>
        obtain ⟨j, rfl, hj, HR2⟩ := hrel
        clear L2
        have p11 := HR2.out.box.cell (j := 11) rfl
        by_cases hjn : j < xn
        ·have jd : (j : Int) < (xn : Int) := by omega
         obtain ⟨y, hy⟩ := get_some HL.out.2.2.2.1 hjn
         obtain ⟨g2, off2, rfl, _⟩ := HR2.out.rb.some_of hy
         obtain ⟨_, c0⟩ := HR2.out.rb.nums hy
         obtain ⟨S2, hs2⟩ := HR2.out.new
         have hdt := data_any hs2 HL.out.2.1 y true (HL.out.1.bl y (List.mem_of_getElem? hy))
         obtain ⟨yi, hyi⟩ : ∃ yi : Int, (y.toNat : Int) = yi := ⟨_, rfl⟩
         rw [hyi] at c0 hdt
         clear hyi hy hs2
         go_wp2_with fail
         refine hdt.mono ?_
         rintro e w12 ⟨v5, rfl, J12⟩
         clear hdt c0 p11
         go_wp2
         go_roundg (gk - 1)
         case measure => omega
         case rel => exact ⟨j + 1, by go_num, by omega, HR2.out.below J12.out.2⟩
        ·have jd : ¬ (j : Int) < (xn : Int) := by omega
         have L3 := HR2
         clear HR2
         go_wp2_with fail
         clear p11
         go_loopg [17, 18, 19] yn (λ m iv _ _ wr => ∃ j : Nat, iv = .int .i64 j /\ j + m = yn /\ Hid (LE w.heap.size R w wr s s2 b (wdV s b v.d (.slice fa fl fc) (.slice oa on oc) (.slice ra rn rc) (.slice ta tn tc) (.slice xa xn xc) (.slice ya yn yc) (.slice za zn zc)) xa ya za v st2))
         case atStart => exact ⟨0, rfl, by omega, L3.out⟩
         case round =>
          obtain ⟨j3, rfl, hj3, HR3⟩ := hrel
          clear L3 jd
          have p12 := HR3.out.box.cell (j := 12) rfl
          by_cases hjn3 : j3 < yn
          ·have jd3 : (j3 : Int) < (yn : Int) := by omega
           obtain ⟨y, hy⟩ := get_some HL.out.2.2.2.2.1 hjn3
           obtain ⟨g2, off2, rfl, _⟩ := HR3.out.rt.some_of hy
           obtain ⟨_, c0⟩ := HR3.out.rt.nums hy
           obtain ⟨S2, hs2⟩ := HR3.out.new
           have hdt := files_any hs2 y true (HL.out.1.tl y (List.mem_of_getElem? hy))
           obtain ⟨yi, hyi⟩ : ∃ yi : Int, (y.toNat : Int) = yi := ⟨_, rfl⟩
           rw [hyi] at c0 hdt
           clear hyi hy hs2
           go_wp2_with fail
           refine hdt.mono ?_
           rintro e w12 ⟨v5, rfl, J12⟩
           clear hdt c0 p12
           go_wp2
           go_roundg (gk - 1)
           case measure => omega
           case rel => exact ⟨j3 + 1, by go_num, by omega, HR3.out.below J12.out.2⟩
          ·have jd3 : ¬ (j3 : Int) < (yn : Int) := by omega
           have L4 := HR3
           clear HR3
           go_wp2_with fail
           clear p12
           go_loopg [20, 21, 22] zn (λ m iv _ _ wr => ∃ j : Nat, iv = .int .i64 j /\ j + m = zn /\ Hid (LE w.heap.size R w wr s s2 b (wdV s b v.d (.slice fa fl fc) (.slice oa on oc) (.slice ra rn rc) (.slice ta tn tc) (.slice xa xn xc) (.slice ya yn yc) (.slice za zn zc)) xa ya za v st2))
           case atStart => exact ⟨0, rfl, by omega, L4.out⟩
           case round =>
            obtain ⟨j4, rfl, hj4, HR4⟩ := hrel
            clear L4 jd3
            have p13 := HR4.out.box.cell (j := 13) rfl
            by_cases hjn4 : j4 < zn
            ·have jd4 : (j4 : Int) < (zn : Int) := by omega
             obtain ⟨y, hy⟩ := get_some HL.out.2.2.2.2.2.1 hjn4
             obtain ⟨g2, off2, rfl, _⟩ := HR4.out.rc.some_of hy
             obtain ⟨_, c0⟩ := HR4.out.rc.nums hy
             obtain ⟨S2, hs2⟩ := HR4.out.new
             have hdt := get_any hs2 y true (HL.out.1.cl y (List.mem_of_getElem? hy))
             obtain ⟨yi, hyi⟩ : ∃ yi : Int, (y.toNat : Int) = yi := ⟨_, rfl⟩
             rw [hyi] at c0 hdt
             clear hyi hy hs2
             go_wp2_with fail
             refine hdt.mono ?_
             rintro e w12 ⟨pa, pc, rfl, J12⟩
             have B12 := hid (HR4.out.below J12.out.2.2)
             clear hdt c0 p13 J12
             generalize ((st2.com y).tree.toNat : Int) = tr
             generalize (st2.com y).ps.length = pn
             generalize (st2.com y).date = dt
             generalize (⟨(st2.com y).note.toArray⟩ : ByteArray) = nt
             go_wp2
             go_roundg (gk - 1)
             case measure => omega
             case rel => exact ⟨j4 + 1, by go_num, by omega, B12.out.below (bz1 _ _)⟩
            ·have jd4 : ¬ (j4 : Int) < (zn : Int) := by omega
             have L5 := HR4
             clear HR4
             go_upto_region 41 with fail
             clear p13 jd4
             have p1 := L5.out.box.cell (j := 1) rfl
             have D5 := hid (L5.out.below (Below.refl _ _).drew)
             go_region_held3 (λ u => u.cell? ⟨R, 1, none⟩ = some (.pointer (some ⟨s, 0, none⟩))) (go_keep)
              (first
               | (go_at_call 24; (with_reducible refine (S13.out.2.olds HL.out.2.2.1).mono ?_); rintro e w14 ⟨a14, n14, c14, rfl, J14⟩; obtain ⟨df, hdf, hd1, hw9⟩ := lasts_few HL.out.1 S13.out.1 J14.out.1; have k14 := J14.out.2.box.cell (j := 1) rfl)
               | (go_at_call 24; (with_reducible refine (D5.out.news HL.out.1).mono ?_); rintro e w13 ⟨a13, n13, c13, rfl, S13⟩; have k13 := S13.out.2.box.cell (j := 1) rfl))
             have FIN := hid J14.out.2.bel
             have z1 : (0 : Int) <= (df : Int) := by omega
             have z2 : (df : Int) <= 1 := by omega
             clear J14 S13 D5 L5 hdf k13 k14 p1
             go_wp2
             go_ret
             exact ⟨rfl, FIN.out⟩
end Go.Proofs.YtjlokpjflgbgdaaGreat
