/-
  The statements' play: a call of the program's disk and of the document's, side by side: both answer the same, and stand for the same disk behind it. One theorem a kind of call. No condition but that what is handed in is no longer than any memory holds.
-/
import Derived.Test.YtlhlipjbcapidaaTells
namespace Go.Proofs.Ytlhlipjbcapidaa
open Go.RowKit

/-- A call that came in: what it reads as, apart from blocks of S. -/
structure ActAt (S : Nat → Prop) (w : World) (nm tt : Bs) (da : Option Addr) (n dc : Nat) (N keep : Int) (data : Bs) : Prop where
  rd : RdG encB w da data
  len : data.length = n
  cap : n ≤ dc
  cap63 : dc ≤ 9223372036854775807
  n47 : n ≤ 140737488355328
  nm47 : nm.length ≤ 140737488355328
  tt47 : tt.length ≤ 140737488355328
  far : 0 < data.length → ∀ p, da = some p → ¬ S p.block
  nr : -9223372036854775808 ≤ N ∧ N ≤ 9223372036854775807
  kr : -9223372036854775808 ≤ keep ∧ keep ≤ 9223372036854775807

/-- What a call leaves: the same disk, told by both. -/
def Left (S Z : Nat → Prop) (w w' : World) (d : Dk) (b' : Nat) (v' : Value) : Prop :=
  ∃ d' S', DiskAt w' b' d' S' ∧ RVS (fun i => S' i ∨ Z i) w' v' d' ∧ d'.ok ∧ d'.writes ≤ d.writes + 1 ∧ (∀ i, S' i → S i ∨ w.heap.size ≤ i) ∧ Turned S w w'

theorem RVS.into {S Z S2 : Nat → Prop} {w w1 : World} {v : Value} {d : Dk} (h : RVS Z w v d) (hSZ : ∀ i, S i → Z i) (ht : Turned S w w1) (h2 : ∀ i, i < w.heap.size → S2 i → Z i) : RVS S2 w1 v d := by
  obtain ⟨ao, L, c, rfl, hL, hc, hR, hF⟩ := h
  refine ⟨ao, L, c, rfl, hL, hc, hR.turned ht (fun h0 p hp q => hF (by omega) p hp (hSZ _ q)), fun h0 p hp q => ?_⟩
  obtain ⟨b, off, e, hlt, _⟩ := hR (by omega)
  rw [e] at hp
  cases hp
  exact hF h0 _ e (h2 _ hlt q)

theorem RVS.mono {S S2 : Nat → Prop} {w : World} {v : Value} {d : Dk} (h : RVS S w v d) (h2 : ∀ i, S2 i → S i) : RVS S2 w v d := by
  obtain ⟨ao, L, c, rfl, hL, hc, hR, hF⟩ := h
  exact ⟨ao, L, c, rfl, hL, hc, hR, fun h0 p hp q => hF h0 p hp (h2 _ q)⟩

theorem RVS.turned {S T : Nat → Prop} {w w' : World} {v : Value} {d : Dk} (h : RVS S w v d) (ht : Turned T w w') (hT : ∀ i, T i → S i) : RVS S w' v d := by
  obtain ⟨ao, L, c, rfl, hL, hc, hR, hF⟩ := h
  exact ⟨ao, L, c, rfl, hL, hc, hR.turned ht (fun h0 p hp q => hF (by omega) p hp (hT _ q)), hF⟩

/-- Blocks of S1, of Z, and those from w's end up to A. -/
def Upto (S1 Z : Nat → Prop) (w : World) (A : Nat) : Nat → Prop := fun i => S1 i ∨ Z i ∨ (w.heap.size ≤ i ∧ i < A)

/-- The end of a call: its result is laid. -/
theorem play_close {S S1 Z : Nat → Prop} {w w2 w3 : World} {d D : Dk} {b A : Nat} {v' : Value} (hS : ∀ i, S i → i < w.heap.size) (hS1 : ∀ i, S1 i → S i ∨ A ≤ i) (hA : w.heap.size ≤ A) (hd : DiskAt w2 b D S1) (hv : RVS (Upto S1 Z w A) w2 v' D) (hk : D.ok) (hw : D.writes ≤ d.writes + 1) (ht : Turned S w w2)
    (he : Turned (fun i => w.heap.size ≤ i ∧ i < A) w2 w3) : Left S Z w w3 d b v' := by
  refine ⟨D, S1, hd.stays he (fun i hi q => ?_), (hv.turned he (fun i q => .inr (.inr q))).mono (fun i q => q.elim .inl (fun q => .inr (.inl q))), hk, hw, fun i hi => ?_, ht.trans he (fun i hi q => by omega)⟩
  · rcases hS1 i hi with r | r
    · have := hS i r; omega
    · omega
  · rcases hS1 i hi with r | r
    · exact .inl r
    · exact .inr (by omega)

/-- Three blocks: a disk, a call, a result. -/
theorem three_blocks (w : World) (a0 a1 a2 a3 a4 a5 : Value) (kind : Int) (nm tt : Bs) (ao : Option Addr) (n c : Nat) (N keep mask : Int) (z0 z1 z2 z3 z4 z5 : Value) (W : World)
    (hW : ((w.alloc (.cells #[a0, a1, a2, a3, a4, a5] 28)).alloc (.cells #[.int .i64 kind, tx nm, tx tt, .slice ao n c, .int .i64 N, .int .i64 keep, .int .u8 mask] 33)).alloc (.cells #[z0, z1, z2, z3, z4, z5] 28) = W) :
    Below w.heap.size w W ∧ W.heap.size = w.heap.size + 3 ∧ Six W w.heap.size a0 a1 a2 a3 a4 a5 ∧ Seven W (w.heap.size + 1) kind nm tt ao n c N keep mask ∧ Six W (w.heap.size + 2) z0 z1 z2 z3 z4 z5 := by
  subst hW
  have e1 : (w.alloc (.cells #[a0, a1, a2, a3, a4, a5] 28)).heap.size = w.heap.size + 1 := by simp
  have e2 : ((w.alloc (.cells #[a0, a1, a2, a3, a4, a5] 28)).alloc (.cells #[.int .i64 kind, tx nm, tx tt, .slice ao n c, .int .i64 N, .int .i64 keep, .int .u8 mask] 33)).heap.size = w.heap.size + 2 := by simp
  have s1 := Six.new w a0 a1 a2 a3 a4 a5
  have s2 := Seven.new (w.alloc (.cells #[a0, a1, a2, a3, a4, a5] 28)) kind nm tt ao n c N keep mask
  have s3 := Six.new ((w.alloc (.cells #[a0, a1, a2, a3, a4, a5] 28)).alloc (.cells #[.int .i64 kind, tx nm, tx tt, .slice ao n c, .int .i64 N, .int .i64 keep, .int .u8 mask] 33)) z0 z1 z2 z3 z4 z5
  rw [e1] at s2
  rw [e2] at s3
  refine ⟨(bz2 w _ _).trans ((bz1 _ _).mono (bz2 w _ _).size), by simp, (s1.below (bz1 _ _)).below (bz1 _ _), s2.below (bz1 _ _), s3⟩

theorem Six.turned {S : Nat → Prop} {w w' : World} {B : Nat} {a0 a1 a2 a3 a4 a5 : Value} (h : Six w B a0 a1 a2 a3 a4 a5) (ht : Turned S w w') (hS : ¬ S B) : Six w' B a0 a1 a2 a3 a4 a5 := (ht.block B h.lt hS).trans h

/-- Two rows of six cells are laid. -/
theorem laid_two {w3 : World} {b1 b2 : Nat} {T : Nat → Prop} (h1 : T b1) (h2 : T b2) (u0 u1 u2 u3 u4 u5 v0 v1 v2 v3 v4 v5 : Value) :
    Turned T w3 ((((((((((((w3.setCell ⟨b1, 0, none⟩ u0).setCell ⟨b1, 1, none⟩ u1).setCell ⟨b1, 2, none⟩ u2).setCell ⟨b1, 3, none⟩ u3).setCell ⟨b1, 4, none⟩ u4).setCell ⟨b1, 5, none⟩ u5).setCell ⟨b2, 0, none⟩ v0).setCell ⟨b2, 1, none⟩ v1).setCell ⟨b2, 2, none⟩ v2).setCell ⟨b2, 3, none⟩ v3).setCell ⟨b2, 4, none⟩ v4).setCell ⟨b2, 5, none⟩ v5) :=
  ((((((((((((Turned.refl T w3).setCell (p := ⟨b1, 0, none⟩) (.inl h1) u0).setCell (p := ⟨b1, 1, none⟩) (.inl h1) u1).setCell (p := ⟨b1, 2, none⟩) (.inl h1) u2).setCell (p := ⟨b1, 3, none⟩) (.inl h1) u3).setCell (p := ⟨b1, 4, none⟩) (.inl h1) u4).setCell (p := ⟨b1, 5, none⟩) (.inl h1) u5).setCell (p := ⟨b2, 0, none⟩) (.inl h2) v0).setCell (p := ⟨b2, 1, none⟩) (.inl h2) v1).setCell (p := ⟨b2, 2, none⟩) (.inl h2) v2).setCell (p := ⟨b2, 3, none⟩) (.inl h2) v3).setCell (p := ⟨b2, 4, none⟩) (.inl h2) v4).setCell (p := ⟨b2, 5, none⟩) (.inl h2) v5

section
variable {S Z : Nat → Prop} {w : World} {b : Nat} {d : Dk}

theorem Since.of {w1 W : World} {D : Dk} (h : DiskAt w1 b D S) : DiskAt w1 b D (Since S W w1) := h.mono (fun _ q => .inl q) (fun i q => q.elim (h.lt i) (fun q => q.2))

/-- disk.Cut, its blocks as the other calls tell them. -/
theorem cut_s (h : DiskAt w b d S) {x y : Int} (hx : -9223372036854775808 ≤ x ∧ x ≤ 9223372036854775807) (hy : -9223372036854775808 ≤ y ∧ y ≤ 9223372036854775807) :
    Calls Try.prog 13 #[.pointer (some ⟨b, 0, none⟩), .int .i64 x, .int .i64 y] w fun e w' => ∃ r, e = .returned (.int .i64 r) ∧ Hid (r = (dcut d x y).2) ∧ DiskAt w' b (dcut d x y).1 (Since S w w') ∧ Turned S w w' := by
  have hm := h.mine
  refine (cut_at h hx hy).mono ?_
  rintro e w' ⟨r, rfl, h1, h2, h3⟩
  exact ⟨r, rfl, h1, Since.of h2, h3.mono (fun i _ q => by rw [q]; exact hm)⟩

theorem restart_s (h : DiskAt w b d S) : Calls Try.prog 12 #[.pointer (some ⟨b, 0, none⟩)] w fun e w' => e = .returned (.tuple #[]) ∧ DiskAt w' b (dres d) (Since S w w') ∧ Turned S w w' := by
  have hm := h.mine
  refine (restart_at h).mono ?_
  rintro e w' ⟨rfl, h2, h3⟩
  exact ⟨rfl, Since.of h2, h3.mono (fun i _ q => by rw [q]; exact hm)⟩

theorem rcut_v {S : Nat → Prop} {w : World} {v : Value} {d : Dk} (h : RVS S w v d) (x y : Int) : Calls Try.prog 30 #[v, .int .i64 x, .int .i64 y] w fun e w' => ∃ v', e = .returned (.tuple #[v', .int .i64 (dcut d x y).2]) ∧ RVS S w' v' (dcut d x y).1 ∧ Below w.heap.size w w' := by
  obtain ⟨ao, L, c, rfl, hL, hc, hR, hF⟩ := h
  have ef : (dcut d x y).1.files = d.files := by
    unfold dcut
    split
    · rfl
    · split <;> rfl
  refine (rcut_any x y).mono ?_
  rintro e w' ⟨rfl, hb⟩
  exact ⟨_, rfl, ⟨ao, L, c, rfl, by rw [ef]; exact hL, hc, by rw [ef]; exact hR.below hb, hF⟩, hb⟩

theorem rrestart_v {S : Nat → Prop} {w : World} {v : Value} {d : Dk} (h : RVS S w v d) : Calls Try.prog 31 #[v] w fun e w' => ∃ v', e = .returned v' ∧ RVS S w' v' (dres d) ∧ Below w.heap.size w w' := by
  obtain ⟨ao, L, c, rfl, hL, hc, hR, hF⟩ := h
  refine rrestart_any.mono ?_
  rintro e w' ⟨rfl, hb⟩
  exact ⟨_, rfl, ⟨ao, L, c, rfl, hL, hc, hR.below hb, hF⟩, hb⟩

set_option maxHeartbeats 6400000 in
set_option maxRecDepth 100000 in
theorem play_trim (hS : ∀ i, S i → i < w.heap.size) (h : DiskAt w b d S) (hk : d.ok) (hw : d.writes ≤ 1000000) {ao : Option Addr} {L c : Nat} (hSZ : ∀ i, S i → Z i) (hZ : ∀ i, Z i → i < w.heap.size) (hv : RVS Z w (rv ao L c d) d) {nm tt data : Bs} {da : Option Addr} {n dc : Nat} {N keep : Int} (mask : UInt8) (ha : ActAt S w nm tt da n dc N keep data) :
    Calls Try.prog 9 #[.pointer (some ⟨b, 0, none⟩), rv ao L c d, actV (2) nm tt da n dc N keep (mask.toNat : Int)] w fun e w' => ∃ b' v', e = .returned (.tuple #[.pointer (some ⟨b', 0, none⟩), v', .bool true]) ∧ Left S Z w w' d b' v' := by
  obtain ⟨W, hW⟩ : ∃ W, ((w.alloc (.cells #[.slice ao L c, .int .i64 (d.writes : Int), .bool d.armed, .bool d.dead, .int .i64 (d.after : Int), .int .i64 (d.keep : Int)] 28)).alloc (.cells #[.int .i64 (2), tx nm, tx tt, .slice da n dc, .int .i64 N, .int .i64 keep, .int .u8 (mask.toNat : Int)] 33)).alloc (.cells #[.slice none 0 0, .int .i64 0, .bool false, .bool false, .int .i64 0, .int .i64 0] 28) = W := ⟨_, rfl⟩
  have T3 := three_blocks w (.slice ao L c) (.int .i64 (d.writes : Int)) (.bool d.armed) (.bool d.dead) (.int .i64 (d.after : Int)) (.int .i64 (d.keep : Int)) (2) nm tt da n dc N keep (mask.toNat : Int) (.slice none 0 0) (.int .i64 0) (.bool false) (.bool false) (.int .i64 0) (.int .i64 0) W hW
  have H : Hid ((∀ i, S i → i < w.heap.size) ∧ DiskAt W b d S ∧ d.ok ∧ d.writes ≤ 1000000 ∧ RVS Z w (rv ao L c d) d ∧ ActAt S w nm tt da n dc N keep data) := ⟨hS, h.below T3.1, hk, hw, hv, ha⟩
  have HT : Hid (Below w.heap.size w W ∧ W.heap.size = w.heap.size + 3 ∧ Six W w.heap.size (.slice ao L c) (.int .i64 (d.writes : Int)) (.bool d.armed) (.bool d.dead) (.int .i64 (d.after : Int)) (.int .i64 (d.keep : Int)) ∧ Seven W (w.heap.size + 1) (2) nm tt da n dc N keep (mask.toNat : Int) ∧ Six W (w.heap.size + 2) (.slice none 0 0) (.int .i64 0) (.bool false) (.bool false) (.int .i64 0) (.int .i64 0)) := T3
  have HZ : Hid ((∀ i, S i → Z i) ∧ ∀ i, Z i → i < w.heap.size) := ⟨hSZ, hZ⟩
  clear hS h hk hw hv ha T3 hSZ hZ
  obtain ⟨x0, x1, x2, x3, x4, x5⟩ := HT.out.2.2.1.cells
  obtain ⟨y0, y1, y2, y3, y4, y5, y6⟩ := HT.out.2.2.2.1.cells
  have hp := trim_at H.out.2.1 H.out.2.2.1 (by have := H.out.2.2.2.1; omega) nm H.out.2.2.2.2.2.nm47 N
  obtain ⟨D', hD'⟩ : ∃ D', (dtrim d nm N).1 = D' := ⟨_, rfl⟩
  obtain ⟨cd, hcd⟩ : ∃ cd, (dtrim d nm N).2 = cd := ⟨_, rfl⟩
  have hok : D'.ok := by rw [← hD']; exact ok_trim H.out.2.2.1 nm N
  have hwr : D'.writes ≤ d.writes + 1 := by rw [← hD']; exact wr_trim d nm N
  rw [hD', hcd] at hp
  go_enter Try.func9, Try.ntmps9
  go_wp2_with fail
  refine hp.mono ?_
  rintro e w1 ⟨r, rfl, hr, D1, T1⟩
  have er : r = cd := hr.out
  subst er
  have hS1 : ∀ i, (Since S W w1) i → S i ∨ W.heap.size ≤ i := fun i q => q.elim .inl (fun q => .inr q.1)
  have tw : Turned S w w1 := (Turned.ofBelow (S := S) HT.out.1).trans T1 (fun i _ q => q)
  have n1 : ∀ k, k < 3 → ¬ S (w.heap.size + k) := fun k _ q => by have := H.out.1 _ q; omega
  have sx := HT.out.2.2.1.turned T1 (n1 0 (by omega))
  have sy := HT.out.2.2.2.1.turned T1 (n1 1 (by omega))
  have sz := HT.out.2.2.2.2.turned T1 (n1 2 (by omega))
  have V1 : RVS (Upto (Since S W w1) Z w W.heap.size) w1 (rv ao L c d) d := H.out.2.2.2.2.1.into HZ.out.1 tw (fun i hi q => by
    rcases q with q | q | q
    · rcases hS1 i q with q | q
      · exact HZ.out.1 _ q
      · have := HT.out.2.1; omega
    · exact q
    · omega)
  have hU : ∀ i, Upto (Since S W w1) Z w W.heap.size i → i < w1.heap.size := fun i q => by
    rcases q with q | q | q
    · exact D1.lt i q
    · exact Nat.lt_of_lt_of_le (HZ.out.2 i q) tw.size
    · exact Nat.lt_of_lt_of_le q.2 T1.size
  have hq := rtrim_any hU V1 H.out.2.2.1 (by have := H.out.2.2.2.1; omega) nm N H.out.2.2.2.2.2.nm47
  rw [hD', hcd] at hq
  have HE1 : Hid ((∀ i, (Since S W w1) i → S i ∨ W.heap.size ≤ i) ∧ DiskAt w1 b D' (Since S W w1) ∧ Turned S w w1 ∧ Six w1 w.heap.size (.slice ao L c) (.int .i64 (d.writes : Int)) (.bool d.armed) (.bool d.dead) (.int .i64 (d.after : Int)) (.int .i64 (d.keep : Int)) ∧ Six w1 (w.heap.size + 2) (.slice none 0 0) (.int .i64 0) (.bool false) (.bool false) (.int .i64 0) (.int .i64 0)) := ⟨hS1, D1, tw, sx, sz⟩
  clear x0 x1 x2 x3 x4 x5 y0 y1 y2 y3 y4 y5 y6 hr hS1 tw n1 V1 hU D1 T1 hp
  obtain ⟨x0, x1, x2, x3, x4, x5⟩ := sx.cells
  obtain ⟨y0, y1, y2, y3, y4, y5, y6⟩ := sy.cells
  clear sx sy sz
  go_wp2_with fail
  refine hq.mono ?_
  rintro e w2 ⟨v2, rfl, V2, B2⟩
  obtain ⟨a3, M, c3, rfl, hM, hc3, R3, F3⟩ := V2
  have s2 : w.heap.size + 2 < w2.heap.size := (HE1.out.2.2.2.2.below B2).lt
  obtain ⟨x0', x1', x2', x3', x4', x5'⟩ := (HE1.out.2.2.2.1.below B2).cells
  obtain ⟨f0, f1, f2, f3, f4, f5⟩ := (HE1.out.2.2.2.1.below B2).thaw
  obtain ⟨z0, z1, z2, z3, z4, z5⟩ := (HE1.out.2.2.2.2.below B2).cells
  obtain ⟨g0, g1, g2, g3, g4, g5⟩ := (HE1.out.2.2.2.2.below B2).thaw
  have ne : w.heap.size ≠ w.heap.size + 2 := by omega
  have ne' : w.heap.size + 2 ≠ w.heap.size := by omega
  have HE : Hid ((∀ i, (Since S W w1) i → S i ∨ W.heap.size ≤ i) ∧ DiskAt w2 b D' (Since S W w1) ∧ RVS (Upto (Since S W w1) Z w W.heap.size) w2 (rv a3 M c3 D') D' ∧ D'.ok ∧ D'.writes ≤ d.writes + 1 ∧ Turned S w w2) := ⟨HE1.out.1, HE1.out.2.1.below B2, ⟨a3, M, c3, rfl, hM, hc3, R3, F3⟩, hok, hwr, HE1.out.2.2.1.trans (Turned.ofBelow (S := S) B2) (fun i _ q => q)⟩
  have hA : W.heap.size = w.heap.size + 3 := HT.out.2.1
  clear x0 x1 x2 x3 x4 x5 hM hc3 R3 F3 B2 HE1 hq hok hwr hD' hcd hA
  go_wp2_with fail
  go_region
  go_wp2
  refine bodyPost_ret (v := .tuple #[.pointer (some ⟨b, 0, none⟩), rv a3 M c3 D', .bool true]) ?_ rfl ⟨_, _, rfl, ?_⟩
  · simp [results, Try.f9]
    go_simp
  · have hA : W.heap.size = w.heap.size + 3 := HT.out.2.1
    exact play_close H.out.1 HE.out.1 (by omega) HE.out.2.1 HE.out.2.2.1 HE.out.2.2.2.1 HE.out.2.2.2.2.1 HE.out.2.2.2.2.2 (laid_two (by omega) (by omega) _ _ _ _ _ _ _ _ _ _ _ _).drew

set_option maxHeartbeats 6400000 in
set_option maxRecDepth 100000 in
theorem play_ren (hS : ∀ i, S i → i < w.heap.size) (h : DiskAt w b d S) (hk : d.ok) (hw : d.writes ≤ 1000000) {ao : Option Addr} {L c : Nat} (hSZ : ∀ i, S i → Z i) (hZ : ∀ i, Z i → i < w.heap.size) (hv : RVS Z w (rv ao L c d) d) {nm tt data : Bs} {da : Option Addr} {n dc : Nat} {N keep : Int} (mask : UInt8) (ha : ActAt S w nm tt da n dc N keep data) :
    Calls Try.prog 9 #[.pointer (some ⟨b, 0, none⟩), rv ao L c d, actV (3) nm tt da n dc N keep (mask.toNat : Int)] w fun e w' => ∃ b' v', e = .returned (.tuple #[.pointer (some ⟨b', 0, none⟩), v', .bool true]) ∧ Left S Z w w' d b' v' := by
  obtain ⟨W, hW⟩ : ∃ W, ((w.alloc (.cells #[.slice ao L c, .int .i64 (d.writes : Int), .bool d.armed, .bool d.dead, .int .i64 (d.after : Int), .int .i64 (d.keep : Int)] 28)).alloc (.cells #[.int .i64 (3), tx nm, tx tt, .slice da n dc, .int .i64 N, .int .i64 keep, .int .u8 (mask.toNat : Int)] 33)).alloc (.cells #[.slice none 0 0, .int .i64 0, .bool false, .bool false, .int .i64 0, .int .i64 0] 28) = W := ⟨_, rfl⟩
  have T3 := three_blocks w (.slice ao L c) (.int .i64 (d.writes : Int)) (.bool d.armed) (.bool d.dead) (.int .i64 (d.after : Int)) (.int .i64 (d.keep : Int)) (3) nm tt da n dc N keep (mask.toNat : Int) (.slice none 0 0) (.int .i64 0) (.bool false) (.bool false) (.int .i64 0) (.int .i64 0) W hW
  have H : Hid ((∀ i, S i → i < w.heap.size) ∧ DiskAt W b d S ∧ d.ok ∧ d.writes ≤ 1000000 ∧ RVS Z w (rv ao L c d) d ∧ ActAt S w nm tt da n dc N keep data) := ⟨hS, h.below T3.1, hk, hw, hv, ha⟩
  have HT : Hid (Below w.heap.size w W ∧ W.heap.size = w.heap.size + 3 ∧ Six W w.heap.size (.slice ao L c) (.int .i64 (d.writes : Int)) (.bool d.armed) (.bool d.dead) (.int .i64 (d.after : Int)) (.int .i64 (d.keep : Int)) ∧ Seven W (w.heap.size + 1) (3) nm tt da n dc N keep (mask.toNat : Int) ∧ Six W (w.heap.size + 2) (.slice none 0 0) (.int .i64 0) (.bool false) (.bool false) (.int .i64 0) (.int .i64 0)) := T3
  have HZ : Hid ((∀ i, S i → Z i) ∧ ∀ i, Z i → i < w.heap.size) := ⟨hSZ, hZ⟩
  clear hS h hk hw hv ha T3 hSZ hZ
  obtain ⟨x0, x1, x2, x3, x4, x5⟩ := HT.out.2.2.1.cells
  obtain ⟨y0, y1, y2, y3, y4, y5, y6⟩ := HT.out.2.2.2.1.cells
  have hp := rename_at H.out.2.1 H.out.2.2.1 (by have := H.out.2.2.2.1; omega) nm tt H.out.2.2.2.2.2.nm47 H.out.2.2.2.2.2.tt47
  obtain ⟨D', hD'⟩ : ∃ D', (dren d nm tt).1 = D' := ⟨_, rfl⟩
  obtain ⟨cd, hcd⟩ : ∃ cd, (dren d nm tt).2 = cd := ⟨_, rfl⟩
  have hok : D'.ok := by rw [← hD']; exact ok_ren H.out.2.2.1 nm tt
  have hwr : D'.writes ≤ d.writes + 1 := by rw [← hD']; exact wr_ren d nm tt
  rw [hD', hcd] at hp
  go_enter Try.func9, Try.ntmps9
  go_wp2_with fail
  refine hp.mono ?_
  rintro e w1 ⟨r, rfl, hr, D1, T1⟩
  have er : r = cd := hr.out
  subst er
  have hS1 : ∀ i, (Since S W w1) i → S i ∨ W.heap.size ≤ i := fun i q => q.elim .inl (fun q => .inr q.1)
  have tw : Turned S w w1 := (Turned.ofBelow (S := S) HT.out.1).trans T1 (fun i _ q => q)
  have n1 : ∀ k, k < 3 → ¬ S (w.heap.size + k) := fun k _ q => by have := H.out.1 _ q; omega
  have sx := HT.out.2.2.1.turned T1 (n1 0 (by omega))
  have sy := HT.out.2.2.2.1.turned T1 (n1 1 (by omega))
  have sz := HT.out.2.2.2.2.turned T1 (n1 2 (by omega))
  have V1 : RVS (Upto (Since S W w1) Z w W.heap.size) w1 (rv ao L c d) d := H.out.2.2.2.2.1.into HZ.out.1 tw (fun i hi q => by
    rcases q with q | q | q
    · rcases hS1 i q with q | q
      · exact HZ.out.1 _ q
      · have := HT.out.2.1; omega
    · exact q
    · omega)
  have hU : ∀ i, Upto (Since S W w1) Z w W.heap.size i → i < w1.heap.size := fun i q => by
    rcases q with q | q | q
    · exact D1.lt i q
    · exact Nat.lt_of_lt_of_le (HZ.out.2 i q) tw.size
    · exact Nat.lt_of_lt_of_le q.2 T1.size
  have hq := rren_any hU V1 H.out.2.2.1 (by have := H.out.2.2.2.1; omega) nm tt H.out.2.2.2.2.2.nm47 H.out.2.2.2.2.2.tt47
  rw [hD', hcd] at hq
  have HE1 : Hid ((∀ i, (Since S W w1) i → S i ∨ W.heap.size ≤ i) ∧ DiskAt w1 b D' (Since S W w1) ∧ Turned S w w1 ∧ Six w1 w.heap.size (.slice ao L c) (.int .i64 (d.writes : Int)) (.bool d.armed) (.bool d.dead) (.int .i64 (d.after : Int)) (.int .i64 (d.keep : Int)) ∧ Six w1 (w.heap.size + 2) (.slice none 0 0) (.int .i64 0) (.bool false) (.bool false) (.int .i64 0) (.int .i64 0)) := ⟨hS1, D1, tw, sx, sz⟩
  clear x0 x1 x2 x3 x4 x5 y0 y1 y2 y3 y4 y5 y6 hr hS1 tw n1 V1 hU D1 T1 hp
  obtain ⟨x0, x1, x2, x3, x4, x5⟩ := sx.cells
  obtain ⟨y0, y1, y2, y3, y4, y5, y6⟩ := sy.cells
  clear sx sy sz
  go_wp2_with fail
  refine hq.mono ?_
  rintro e w2 ⟨v2, rfl, V2, B2⟩
  obtain ⟨a3, M, c3, rfl, hM, hc3, R3, F3⟩ := V2
  have s2 : w.heap.size + 2 < w2.heap.size := (HE1.out.2.2.2.2.below B2).lt
  obtain ⟨x0', x1', x2', x3', x4', x5'⟩ := (HE1.out.2.2.2.1.below B2).cells
  obtain ⟨f0, f1, f2, f3, f4, f5⟩ := (HE1.out.2.2.2.1.below B2).thaw
  obtain ⟨z0, z1, z2, z3, z4, z5⟩ := (HE1.out.2.2.2.2.below B2).cells
  obtain ⟨g0, g1, g2, g3, g4, g5⟩ := (HE1.out.2.2.2.2.below B2).thaw
  have ne : w.heap.size ≠ w.heap.size + 2 := by omega
  have ne' : w.heap.size + 2 ≠ w.heap.size := by omega
  have HE : Hid ((∀ i, (Since S W w1) i → S i ∨ W.heap.size ≤ i) ∧ DiskAt w2 b D' (Since S W w1) ∧ RVS (Upto (Since S W w1) Z w W.heap.size) w2 (rv a3 M c3 D') D' ∧ D'.ok ∧ D'.writes ≤ d.writes + 1 ∧ Turned S w w2) := ⟨HE1.out.1, HE1.out.2.1.below B2, ⟨a3, M, c3, rfl, hM, hc3, R3, F3⟩, hok, hwr, HE1.out.2.2.1.trans (Turned.ofBelow (S := S) B2) (fun i _ q => q)⟩
  have hA : W.heap.size = w.heap.size + 3 := HT.out.2.1
  clear x0 x1 x2 x3 x4 x5 hM hc3 R3 F3 B2 HE1 hq hok hwr hD' hcd hA
  go_wp2_with fail
  go_region
  go_wp2
  refine bodyPost_ret (v := .tuple #[.pointer (some ⟨b, 0, none⟩), rv a3 M c3 D', .bool true]) ?_ rfl ⟨_, _, rfl, ?_⟩
  · simp [results, Try.f9]
    go_simp
  · have hA : W.heap.size = w.heap.size + 3 := HT.out.2.1
    exact play_close H.out.1 HE.out.1 (by omega) HE.out.2.1 HE.out.2.2.1 HE.out.2.2.2.1 HE.out.2.2.2.2.1 HE.out.2.2.2.2.2 (laid_two (by omega) (by omega) _ _ _ _ _ _ _ _ _ _ _ _).drew

set_option maxHeartbeats 6400000 in
set_option maxRecDepth 100000 in
theorem play_rem (hS : ∀ i, S i → i < w.heap.size) (h : DiskAt w b d S) (hk : d.ok) (hw : d.writes ≤ 1000000) {ao : Option Addr} {L c : Nat} (hSZ : ∀ i, S i → Z i) (hZ : ∀ i, Z i → i < w.heap.size) (hv : RVS Z w (rv ao L c d) d) {nm tt data : Bs} {da : Option Addr} {n dc : Nat} {N keep : Int} (mask : UInt8) (ha : ActAt S w nm tt da n dc N keep data) :
    Calls Try.prog 9 #[.pointer (some ⟨b, 0, none⟩), rv ao L c d, actV (4) nm tt da n dc N keep (mask.toNat : Int)] w fun e w' => ∃ b' v', e = .returned (.tuple #[.pointer (some ⟨b', 0, none⟩), v', .bool true]) ∧ Left S Z w w' d b' v' := by
  obtain ⟨W, hW⟩ : ∃ W, ((w.alloc (.cells #[.slice ao L c, .int .i64 (d.writes : Int), .bool d.armed, .bool d.dead, .int .i64 (d.after : Int), .int .i64 (d.keep : Int)] 28)).alloc (.cells #[.int .i64 (4), tx nm, tx tt, .slice da n dc, .int .i64 N, .int .i64 keep, .int .u8 (mask.toNat : Int)] 33)).alloc (.cells #[.slice none 0 0, .int .i64 0, .bool false, .bool false, .int .i64 0, .int .i64 0] 28) = W := ⟨_, rfl⟩
  have T3 := three_blocks w (.slice ao L c) (.int .i64 (d.writes : Int)) (.bool d.armed) (.bool d.dead) (.int .i64 (d.after : Int)) (.int .i64 (d.keep : Int)) (4) nm tt da n dc N keep (mask.toNat : Int) (.slice none 0 0) (.int .i64 0) (.bool false) (.bool false) (.int .i64 0) (.int .i64 0) W hW
  have H : Hid ((∀ i, S i → i < w.heap.size) ∧ DiskAt W b d S ∧ d.ok ∧ d.writes ≤ 1000000 ∧ RVS Z w (rv ao L c d) d ∧ ActAt S w nm tt da n dc N keep data) := ⟨hS, h.below T3.1, hk, hw, hv, ha⟩
  have HT : Hid (Below w.heap.size w W ∧ W.heap.size = w.heap.size + 3 ∧ Six W w.heap.size (.slice ao L c) (.int .i64 (d.writes : Int)) (.bool d.armed) (.bool d.dead) (.int .i64 (d.after : Int)) (.int .i64 (d.keep : Int)) ∧ Seven W (w.heap.size + 1) (4) nm tt da n dc N keep (mask.toNat : Int) ∧ Six W (w.heap.size + 2) (.slice none 0 0) (.int .i64 0) (.bool false) (.bool false) (.int .i64 0) (.int .i64 0)) := T3
  have HZ : Hid ((∀ i, S i → Z i) ∧ ∀ i, Z i → i < w.heap.size) := ⟨hSZ, hZ⟩
  clear hS h hk hw hv ha T3 hSZ hZ
  obtain ⟨x0, x1, x2, x3, x4, x5⟩ := HT.out.2.2.1.cells
  obtain ⟨y0, y1, y2, y3, y4, y5, y6⟩ := HT.out.2.2.2.1.cells
  have hp := remove_at H.out.2.1 H.out.2.2.1 (by have := H.out.2.2.2.1; omega) nm H.out.2.2.2.2.2.nm47
  obtain ⟨D', hD'⟩ : ∃ D', (drem d nm).1 = D' := ⟨_, rfl⟩
  obtain ⟨cd, hcd⟩ : ∃ cd, (drem d nm).2 = cd := ⟨_, rfl⟩
  have hok : D'.ok := by rw [← hD']; exact ok_rem H.out.2.2.1 nm
  have hwr : D'.writes ≤ d.writes + 1 := by rw [← hD']; exact wr_rem d nm
  rw [hD', hcd] at hp
  go_enter Try.func9, Try.ntmps9
  go_wp2_with fail
  refine hp.mono ?_
  rintro e w1 ⟨r, rfl, hr, D1, T1⟩
  have er : r = cd := hr.out
  subst er
  have hS1 : ∀ i, (Since S W w1) i → S i ∨ W.heap.size ≤ i := fun i q => q.elim .inl (fun q => .inr q.1)
  have tw : Turned S w w1 := (Turned.ofBelow (S := S) HT.out.1).trans T1 (fun i _ q => q)
  have n1 : ∀ k, k < 3 → ¬ S (w.heap.size + k) := fun k _ q => by have := H.out.1 _ q; omega
  have sx := HT.out.2.2.1.turned T1 (n1 0 (by omega))
  have sy := HT.out.2.2.2.1.turned T1 (n1 1 (by omega))
  have sz := HT.out.2.2.2.2.turned T1 (n1 2 (by omega))
  have V1 : RVS (Upto (Since S W w1) Z w W.heap.size) w1 (rv ao L c d) d := H.out.2.2.2.2.1.into HZ.out.1 tw (fun i hi q => by
    rcases q with q | q | q
    · rcases hS1 i q with q | q
      · exact HZ.out.1 _ q
      · have := HT.out.2.1; omega
    · exact q
    · omega)
  have hU : ∀ i, Upto (Since S W w1) Z w W.heap.size i → i < w1.heap.size := fun i q => by
    rcases q with q | q | q
    · exact D1.lt i q
    · exact Nat.lt_of_lt_of_le (HZ.out.2 i q) tw.size
    · exact Nat.lt_of_lt_of_le q.2 T1.size
  have hq := rrem_any hU V1 H.out.2.2.1 (by have := H.out.2.2.2.1; omega) nm H.out.2.2.2.2.2.nm47
  rw [hD', hcd] at hq
  have HE1 : Hid ((∀ i, (Since S W w1) i → S i ∨ W.heap.size ≤ i) ∧ DiskAt w1 b D' (Since S W w1) ∧ Turned S w w1 ∧ Six w1 w.heap.size (.slice ao L c) (.int .i64 (d.writes : Int)) (.bool d.armed) (.bool d.dead) (.int .i64 (d.after : Int)) (.int .i64 (d.keep : Int)) ∧ Six w1 (w.heap.size + 2) (.slice none 0 0) (.int .i64 0) (.bool false) (.bool false) (.int .i64 0) (.int .i64 0)) := ⟨hS1, D1, tw, sx, sz⟩
  clear x0 x1 x2 x3 x4 x5 y0 y1 y2 y3 y4 y5 y6 hr hS1 tw n1 V1 hU D1 T1 hp
  obtain ⟨x0, x1, x2, x3, x4, x5⟩ := sx.cells
  obtain ⟨y0, y1, y2, y3, y4, y5, y6⟩ := sy.cells
  clear sx sy sz
  go_wp2_with fail
  refine hq.mono ?_
  rintro e w2 ⟨v2, rfl, V2, B2⟩
  obtain ⟨a3, M, c3, rfl, hM, hc3, R3, F3⟩ := V2
  have s2 : w.heap.size + 2 < w2.heap.size := (HE1.out.2.2.2.2.below B2).lt
  obtain ⟨x0', x1', x2', x3', x4', x5'⟩ := (HE1.out.2.2.2.1.below B2).cells
  obtain ⟨f0, f1, f2, f3, f4, f5⟩ := (HE1.out.2.2.2.1.below B2).thaw
  obtain ⟨z0, z1, z2, z3, z4, z5⟩ := (HE1.out.2.2.2.2.below B2).cells
  obtain ⟨g0, g1, g2, g3, g4, g5⟩ := (HE1.out.2.2.2.2.below B2).thaw
  have ne : w.heap.size ≠ w.heap.size + 2 := by omega
  have ne' : w.heap.size + 2 ≠ w.heap.size := by omega
  have HE : Hid ((∀ i, (Since S W w1) i → S i ∨ W.heap.size ≤ i) ∧ DiskAt w2 b D' (Since S W w1) ∧ RVS (Upto (Since S W w1) Z w W.heap.size) w2 (rv a3 M c3 D') D' ∧ D'.ok ∧ D'.writes ≤ d.writes + 1 ∧ Turned S w w2) := ⟨HE1.out.1, HE1.out.2.1.below B2, ⟨a3, M, c3, rfl, hM, hc3, R3, F3⟩, hok, hwr, HE1.out.2.2.1.trans (Turned.ofBelow (S := S) B2) (fun i _ q => q)⟩
  have hA : W.heap.size = w.heap.size + 3 := HT.out.2.1
  clear x0 x1 x2 x3 x4 x5 hM hc3 R3 F3 B2 HE1 hq hok hwr hD' hcd hA
  go_wp2_with fail
  go_region
  go_wp2
  refine bodyPost_ret (v := .tuple #[.pointer (some ⟨b, 0, none⟩), rv a3 M c3 D', .bool true]) ?_ rfl ⟨_, _, rfl, ?_⟩
  · simp [results, Try.f9]
    go_simp
  · have hA : W.heap.size = w.heap.size + 3 := HT.out.2.1
    exact play_close H.out.1 HE.out.1 (by omega) HE.out.2.1 HE.out.2.2.1 HE.out.2.2.2.1 HE.out.2.2.2.2.1 HE.out.2.2.2.2.2 (laid_two (by omega) (by omega) _ _ _ _ _ _ _ _ _ _ _ _).drew

set_option maxHeartbeats 6400000 in
set_option maxRecDepth 100000 in
theorem play_cut (hS : ∀ i, S i → i < w.heap.size) (h : DiskAt w b d S) (hk : d.ok) (hw : d.writes ≤ 1000000) {ao : Option Addr} {L c : Nat} (hSZ : ∀ i, S i → Z i) (hZ : ∀ i, Z i → i < w.heap.size) (hv : RVS Z w (rv ao L c d) d) {nm tt data : Bs} {da : Option Addr} {n dc : Nat} {N keep : Int} (mask : UInt8) (ha : ActAt S w nm tt da n dc N keep data) :
    Calls Try.prog 9 #[.pointer (some ⟨b, 0, none⟩), rv ao L c d, actV (5) nm tt da n dc N keep (mask.toNat : Int)] w fun e w' => ∃ b' v', e = .returned (.tuple #[.pointer (some ⟨b', 0, none⟩), v', .bool true]) ∧ Left S Z w w' d b' v' := by
  obtain ⟨W, hW⟩ : ∃ W, ((w.alloc (.cells #[.slice ao L c, .int .i64 (d.writes : Int), .bool d.armed, .bool d.dead, .int .i64 (d.after : Int), .int .i64 (d.keep : Int)] 28)).alloc (.cells #[.int .i64 (5), tx nm, tx tt, .slice da n dc, .int .i64 N, .int .i64 keep, .int .u8 (mask.toNat : Int)] 33)).alloc (.cells #[.slice none 0 0, .int .i64 0, .bool false, .bool false, .int .i64 0, .int .i64 0] 28) = W := ⟨_, rfl⟩
  have T3 := three_blocks w (.slice ao L c) (.int .i64 (d.writes : Int)) (.bool d.armed) (.bool d.dead) (.int .i64 (d.after : Int)) (.int .i64 (d.keep : Int)) (5) nm tt da n dc N keep (mask.toNat : Int) (.slice none 0 0) (.int .i64 0) (.bool false) (.bool false) (.int .i64 0) (.int .i64 0) W hW
  have H : Hid ((∀ i, S i → i < w.heap.size) ∧ DiskAt W b d S ∧ d.ok ∧ d.writes ≤ 1000000 ∧ RVS Z w (rv ao L c d) d ∧ ActAt S w nm tt da n dc N keep data) := ⟨hS, h.below T3.1, hk, hw, hv, ha⟩
  have HT : Hid (Below w.heap.size w W ∧ W.heap.size = w.heap.size + 3 ∧ Six W w.heap.size (.slice ao L c) (.int .i64 (d.writes : Int)) (.bool d.armed) (.bool d.dead) (.int .i64 (d.after : Int)) (.int .i64 (d.keep : Int)) ∧ Seven W (w.heap.size + 1) (5) nm tt da n dc N keep (mask.toNat : Int) ∧ Six W (w.heap.size + 2) (.slice none 0 0) (.int .i64 0) (.bool false) (.bool false) (.int .i64 0) (.int .i64 0)) := T3
  have HZ : Hid ((∀ i, S i → Z i) ∧ ∀ i, Z i → i < w.heap.size) := ⟨hSZ, hZ⟩
  clear hS h hk hw hv ha T3 hSZ hZ
  obtain ⟨x0, x1, x2, x3, x4, x5⟩ := HT.out.2.2.1.cells
  obtain ⟨y0, y1, y2, y3, y4, y5, y6⟩ := HT.out.2.2.2.1.cells
  have hp := cut_s H.out.2.1 H.out.2.2.2.2.2.nr H.out.2.2.2.2.2.kr
  obtain ⟨D', hD'⟩ : ∃ D', (dcut d N keep).1 = D' := ⟨_, rfl⟩
  obtain ⟨cd, hcd⟩ : ∃ cd, (dcut d N keep).2 = cd := ⟨_, rfl⟩
  have hok : D'.ok := by rw [← hD']; exact ok_cut H.out.2.2.1 N keep H.out.2.2.2.2.2.nr.2
  have hwr : D'.writes ≤ d.writes + 1 := by rw [← hD']; exact wr_cut d N keep
  rw [hD', hcd] at hp
  go_enter Try.func9, Try.ntmps9
  go_wp2_with fail
  refine hp.mono ?_
  rintro e w1 ⟨r, rfl, hr, D1, T1⟩
  have er : r = cd := hr.out
  subst er
  have hS1 : ∀ i, (Since S W w1) i → S i ∨ W.heap.size ≤ i := fun i q => q.elim .inl (fun q => .inr q.1)
  have tw : Turned S w w1 := (Turned.ofBelow (S := S) HT.out.1).trans T1 (fun i _ q => q)
  have n1 : ∀ k, k < 3 → ¬ S (w.heap.size + k) := fun k _ q => by have := H.out.1 _ q; omega
  have sx := HT.out.2.2.1.turned T1 (n1 0 (by omega))
  have sy := HT.out.2.2.2.1.turned T1 (n1 1 (by omega))
  have sz := HT.out.2.2.2.2.turned T1 (n1 2 (by omega))
  have V1 : RVS (Upto (Since S W w1) Z w W.heap.size) w1 (rv ao L c d) d := H.out.2.2.2.2.1.into HZ.out.1 tw (fun i hi q => by
    rcases q with q | q | q
    · rcases hS1 i q with q | q
      · exact HZ.out.1 _ q
      · have := HT.out.2.1; omega
    · exact q
    · omega)
  have hU : ∀ i, Upto (Since S W w1) Z w W.heap.size i → i < w1.heap.size := fun i q => by
    rcases q with q | q | q
    · exact D1.lt i q
    · exact Nat.lt_of_lt_of_le (HZ.out.2 i q) tw.size
    · exact Nat.lt_of_lt_of_le q.2 T1.size
  have hq := rcut_v V1 N keep
  rw [hD', hcd] at hq
  have HE1 : Hid ((∀ i, (Since S W w1) i → S i ∨ W.heap.size ≤ i) ∧ DiskAt w1 b D' (Since S W w1) ∧ Turned S w w1 ∧ Six w1 w.heap.size (.slice ao L c) (.int .i64 (d.writes : Int)) (.bool d.armed) (.bool d.dead) (.int .i64 (d.after : Int)) (.int .i64 (d.keep : Int)) ∧ Six w1 (w.heap.size + 2) (.slice none 0 0) (.int .i64 0) (.bool false) (.bool false) (.int .i64 0) (.int .i64 0)) := ⟨hS1, D1, tw, sx, sz⟩
  clear x0 x1 x2 x3 x4 x5 y0 y1 y2 y3 y4 y5 y6 hr hS1 tw n1 V1 hU D1 T1 hp
  obtain ⟨x0, x1, x2, x3, x4, x5⟩ := sx.cells
  obtain ⟨y0, y1, y2, y3, y4, y5, y6⟩ := sy.cells
  clear sx sy sz
  go_wp2_with fail
  refine hq.mono ?_
  rintro e w2 ⟨v2, rfl, V2, B2⟩
  obtain ⟨a3, M, c3, rfl, hM, hc3, R3, F3⟩ := V2
  have s2 : w.heap.size + 2 < w2.heap.size := (HE1.out.2.2.2.2.below B2).lt
  obtain ⟨x0', x1', x2', x3', x4', x5'⟩ := (HE1.out.2.2.2.1.below B2).cells
  obtain ⟨f0, f1, f2, f3, f4, f5⟩ := (HE1.out.2.2.2.1.below B2).thaw
  obtain ⟨z0, z1, z2, z3, z4, z5⟩ := (HE1.out.2.2.2.2.below B2).cells
  obtain ⟨g0, g1, g2, g3, g4, g5⟩ := (HE1.out.2.2.2.2.below B2).thaw
  have ne : w.heap.size ≠ w.heap.size + 2 := by omega
  have ne' : w.heap.size + 2 ≠ w.heap.size := by omega
  have HE : Hid ((∀ i, (Since S W w1) i → S i ∨ W.heap.size ≤ i) ∧ DiskAt w2 b D' (Since S W w1) ∧ RVS (Upto (Since S W w1) Z w W.heap.size) w2 (rv a3 M c3 D') D' ∧ D'.ok ∧ D'.writes ≤ d.writes + 1 ∧ Turned S w w2) := ⟨HE1.out.1, HE1.out.2.1.below B2, ⟨a3, M, c3, rfl, hM, hc3, R3, F3⟩, hok, hwr, HE1.out.2.2.1.trans (Turned.ofBelow (S := S) B2) (fun i _ q => q)⟩
  have hA : W.heap.size = w.heap.size + 3 := HT.out.2.1
  clear x0 x1 x2 x3 x4 x5 hM hc3 R3 F3 B2 HE1 hq hok hwr hD' hcd hA
  go_wp2_with fail
  go_region
  go_wp2
  refine bodyPost_ret (v := .tuple #[.pointer (some ⟨b, 0, none⟩), rv a3 M c3 D', .bool true]) ?_ rfl ⟨_, _, rfl, ?_⟩
  · simp [results, Try.f9]
    go_simp
  · have hA : W.heap.size = w.heap.size + 3 := HT.out.2.1
    exact play_close H.out.1 HE.out.1 (by omega) HE.out.2.1 HE.out.2.2.1 HE.out.2.2.2.1 HE.out.2.2.2.2.1 HE.out.2.2.2.2.2 (laid_two (by omega) (by omega) _ _ _ _ _ _ _ _ _ _ _ _).drew

set_option maxHeartbeats 6400000 in
set_option maxRecDepth 100000 in
theorem play_spoil (hS : ∀ i, S i → i < w.heap.size) (h : DiskAt w b d S) (hk : d.ok) (hw : d.writes ≤ 1000000) {ao : Option Addr} {L c : Nat} (hSZ : ∀ i, S i → Z i) (hZ : ∀ i, Z i → i < w.heap.size) (hv : RVS Z w (rv ao L c d) d) {nm tt data : Bs} {da : Option Addr} {n dc : Nat} {N keep : Int} (mask : UInt8) (ha : ActAt S w nm tt da n dc N keep data) :
    Calls Try.prog 9 #[.pointer (some ⟨b, 0, none⟩), rv ao L c d, actV (7) nm tt da n dc N keep (mask.toNat : Int)] w fun e w' => ∃ b' v', e = .returned (.tuple #[.pointer (some ⟨b', 0, none⟩), v', .bool true]) ∧ Left S Z w w' d b' v' := by
  obtain ⟨W, hW⟩ : ∃ W, ((w.alloc (.cells #[.slice ao L c, .int .i64 (d.writes : Int), .bool d.armed, .bool d.dead, .int .i64 (d.after : Int), .int .i64 (d.keep : Int)] 28)).alloc (.cells #[.int .i64 (7), tx nm, tx tt, .slice da n dc, .int .i64 N, .int .i64 keep, .int .u8 (mask.toNat : Int)] 33)).alloc (.cells #[.slice none 0 0, .int .i64 0, .bool false, .bool false, .int .i64 0, .int .i64 0] 28) = W := ⟨_, rfl⟩
  have T3 := three_blocks w (.slice ao L c) (.int .i64 (d.writes : Int)) (.bool d.armed) (.bool d.dead) (.int .i64 (d.after : Int)) (.int .i64 (d.keep : Int)) (7) nm tt da n dc N keep (mask.toNat : Int) (.slice none 0 0) (.int .i64 0) (.bool false) (.bool false) (.int .i64 0) (.int .i64 0) W hW
  have H : Hid ((∀ i, S i → i < w.heap.size) ∧ DiskAt W b d S ∧ d.ok ∧ d.writes ≤ 1000000 ∧ RVS Z w (rv ao L c d) d ∧ ActAt S w nm tt da n dc N keep data) := ⟨hS, h.below T3.1, hk, hw, hv, ha⟩
  have HT : Hid (Below w.heap.size w W ∧ W.heap.size = w.heap.size + 3 ∧ Six W w.heap.size (.slice ao L c) (.int .i64 (d.writes : Int)) (.bool d.armed) (.bool d.dead) (.int .i64 (d.after : Int)) (.int .i64 (d.keep : Int)) ∧ Seven W (w.heap.size + 1) (7) nm tt da n dc N keep (mask.toNat : Int) ∧ Six W (w.heap.size + 2) (.slice none 0 0) (.int .i64 0) (.bool false) (.bool false) (.int .i64 0) (.int .i64 0)) := T3
  have HZ : Hid ((∀ i, S i → Z i) ∧ ∀ i, Z i → i < w.heap.size) := ⟨hSZ, hZ⟩
  clear hS h hk hw hv ha T3 hSZ hZ
  obtain ⟨x0, x1, x2, x3, x4, x5⟩ := HT.out.2.2.1.cells
  obtain ⟨y0, y1, y2, y3, y4, y5, y6⟩ := HT.out.2.2.2.1.cells
  have hp := spoil_at H.out.2.1 H.out.2.2.1 nm H.out.2.2.2.2.2.nm47 N mask
  obtain ⟨D', hD'⟩ : ∃ D', (dspoil d nm N mask).1 = D' := ⟨_, rfl⟩
  obtain ⟨cd, hcd⟩ : ∃ cd, (dspoil d nm N mask).2 = cd := ⟨_, rfl⟩
  have hok : D'.ok := by rw [← hD']; exact ok_spoil H.out.2.2.1 nm N mask
  have hwr : D'.writes ≤ d.writes + 1 := by rw [← hD']; exact wr_spoil d nm N mask
  rw [hD', hcd] at hp
  go_enter Try.func9, Try.ntmps9
  go_wp2_with fail
  refine hp.mono ?_
  rintro e w1 ⟨r, rfl, hr, D1, T1⟩
  have er : r = cd := hr.out
  subst er
  have hS1 : ∀ i, (Since S W w1) i → S i ∨ W.heap.size ≤ i := fun i q => q.elim .inl (fun q => .inr q.1)
  have tw : Turned S w w1 := (Turned.ofBelow (S := S) HT.out.1).trans T1 (fun i _ q => q)
  have n1 : ∀ k, k < 3 → ¬ S (w.heap.size + k) := fun k _ q => by have := H.out.1 _ q; omega
  have sx := HT.out.2.2.1.turned T1 (n1 0 (by omega))
  have sy := HT.out.2.2.2.1.turned T1 (n1 1 (by omega))
  have sz := HT.out.2.2.2.2.turned T1 (n1 2 (by omega))
  have V1 : RVS (Upto (Since S W w1) Z w W.heap.size) w1 (rv ao L c d) d := H.out.2.2.2.2.1.into HZ.out.1 tw (fun i hi q => by
    rcases q with q | q | q
    · rcases hS1 i q with q | q
      · exact HZ.out.1 _ q
      · have := HT.out.2.1; omega
    · exact q
    · omega)
  have hU : ∀ i, Upto (Since S W w1) Z w W.heap.size i → i < w1.heap.size := fun i q => by
    rcases q with q | q | q
    · exact D1.lt i q
    · exact Nat.lt_of_lt_of_le (HZ.out.2 i q) tw.size
    · exact Nat.lt_of_lt_of_le q.2 T1.size
  have hq := rspoil_any hU V1 H.out.2.2.1 nm N mask
  rw [hD', hcd] at hq
  have HE1 : Hid ((∀ i, (Since S W w1) i → S i ∨ W.heap.size ≤ i) ∧ DiskAt w1 b D' (Since S W w1) ∧ Turned S w w1 ∧ Six w1 w.heap.size (.slice ao L c) (.int .i64 (d.writes : Int)) (.bool d.armed) (.bool d.dead) (.int .i64 (d.after : Int)) (.int .i64 (d.keep : Int)) ∧ Six w1 (w.heap.size + 2) (.slice none 0 0) (.int .i64 0) (.bool false) (.bool false) (.int .i64 0) (.int .i64 0)) := ⟨hS1, D1, tw, sx, sz⟩
  clear x0 x1 x2 x3 x4 x5 y0 y1 y2 y3 y4 y5 y6 hr hS1 tw n1 V1 hU D1 T1 hp
  obtain ⟨x0, x1, x2, x3, x4, x5⟩ := sx.cells
  obtain ⟨y0, y1, y2, y3, y4, y5, y6⟩ := sy.cells
  clear sx sy sz
  go_wp2_with fail
  refine hq.mono ?_
  rintro e w2 ⟨v2, rfl, V2, B2⟩
  obtain ⟨a3, M, c3, rfl, hM, hc3, R3, F3⟩ := V2
  have s2 : w.heap.size + 2 < w2.heap.size := (HE1.out.2.2.2.2.below B2).lt
  obtain ⟨x0', x1', x2', x3', x4', x5'⟩ := (HE1.out.2.2.2.1.below B2).cells
  obtain ⟨f0, f1, f2, f3, f4, f5⟩ := (HE1.out.2.2.2.1.below B2).thaw
  obtain ⟨z0, z1, z2, z3, z4, z5⟩ := (HE1.out.2.2.2.2.below B2).cells
  obtain ⟨g0, g1, g2, g3, g4, g5⟩ := (HE1.out.2.2.2.2.below B2).thaw
  have ne : w.heap.size ≠ w.heap.size + 2 := by omega
  have ne' : w.heap.size + 2 ≠ w.heap.size := by omega
  have HE : Hid ((∀ i, (Since S W w1) i → S i ∨ W.heap.size ≤ i) ∧ DiskAt w2 b D' (Since S W w1) ∧ RVS (Upto (Since S W w1) Z w W.heap.size) w2 (rv a3 M c3 D') D' ∧ D'.ok ∧ D'.writes ≤ d.writes + 1 ∧ Turned S w w2) := ⟨HE1.out.1, HE1.out.2.1.below B2, ⟨a3, M, c3, rfl, hM, hc3, R3, F3⟩, hok, hwr, HE1.out.2.2.1.trans (Turned.ofBelow (S := S) B2) (fun i _ q => q)⟩
  have hA : W.heap.size = w.heap.size + 3 := HT.out.2.1
  clear x0 x1 x2 x3 x4 x5 hM hc3 R3 F3 B2 HE1 hq hok hwr hD' hcd hA
  go_wp2_with fail
  go_region
  go_wp2
  refine bodyPost_ret (v := .tuple #[.pointer (some ⟨b, 0, none⟩), rv a3 M c3 D', .bool true]) ?_ rfl ⟨_, _, rfl, ?_⟩
  · simp [results, Try.f9]
    go_simp
  · have hA : W.heap.size = w.heap.size + 3 := HT.out.2.1
    exact play_close H.out.1 HE.out.1 (by omega) HE.out.2.1 HE.out.2.2.1 HE.out.2.2.2.1 HE.out.2.2.2.2.1 HE.out.2.2.2.2.2 (laid_two (by omega) (by omega) _ _ _ _ _ _ _ _ _ _ _ _).drew

set_option maxHeartbeats 6400000 in
set_option maxRecDepth 100000 in
theorem play_res (hS : ∀ i, S i → i < w.heap.size) (h : DiskAt w b d S) (hk : d.ok) (hw : d.writes ≤ 1000000) {ao : Option Addr} {L c : Nat} (hSZ : ∀ i, S i → Z i) (hZ : ∀ i, Z i → i < w.heap.size) (hv : RVS Z w (rv ao L c d) d) {nm tt data : Bs} {da : Option Addr} {n dc : Nat} {N keep : Int} (mask : UInt8) (ha : ActAt S w nm tt da n dc N keep data) :
    Calls Try.prog 9 #[.pointer (some ⟨b, 0, none⟩), rv ao L c d, actV (6) nm tt da n dc N keep (mask.toNat : Int)] w fun e w' => ∃ b' v', e = .returned (.tuple #[.pointer (some ⟨b', 0, none⟩), v', .bool true]) ∧ Left S Z w w' d b' v' := by
  obtain ⟨W, hW⟩ : ∃ W, ((w.alloc (.cells #[.slice ao L c, .int .i64 (d.writes : Int), .bool d.armed, .bool d.dead, .int .i64 (d.after : Int), .int .i64 (d.keep : Int)] 28)).alloc (.cells #[.int .i64 (6), tx nm, tx tt, .slice da n dc, .int .i64 N, .int .i64 keep, .int .u8 (mask.toNat : Int)] 33)).alloc (.cells #[.slice none 0 0, .int .i64 0, .bool false, .bool false, .int .i64 0, .int .i64 0] 28) = W := ⟨_, rfl⟩
  have T3 := three_blocks w (.slice ao L c) (.int .i64 (d.writes : Int)) (.bool d.armed) (.bool d.dead) (.int .i64 (d.after : Int)) (.int .i64 (d.keep : Int)) (6) nm tt da n dc N keep (mask.toNat : Int) (.slice none 0 0) (.int .i64 0) (.bool false) (.bool false) (.int .i64 0) (.int .i64 0) W hW
  have H : Hid ((∀ i, S i → i < w.heap.size) ∧ DiskAt W b d S ∧ d.ok ∧ d.writes ≤ 1000000 ∧ RVS Z w (rv ao L c d) d ∧ ActAt S w nm tt da n dc N keep data) := ⟨hS, h.below T3.1, hk, hw, hv, ha⟩
  have HT : Hid (Below w.heap.size w W ∧ W.heap.size = w.heap.size + 3 ∧ Six W w.heap.size (.slice ao L c) (.int .i64 (d.writes : Int)) (.bool d.armed) (.bool d.dead) (.int .i64 (d.after : Int)) (.int .i64 (d.keep : Int)) ∧ Seven W (w.heap.size + 1) (6) nm tt da n dc N keep (mask.toNat : Int) ∧ Six W (w.heap.size + 2) (.slice none 0 0) (.int .i64 0) (.bool false) (.bool false) (.int .i64 0) (.int .i64 0)) := T3
  have HZ : Hid ((∀ i, S i → Z i) ∧ ∀ i, Z i → i < w.heap.size) := ⟨hSZ, hZ⟩
  clear hS h hk hw hv ha T3 hSZ hZ
  obtain ⟨x0, x1, x2, x3, x4, x5⟩ := HT.out.2.2.1.cells
  obtain ⟨y0, y1, y2, y3, y4, y5, y6⟩ := HT.out.2.2.2.1.cells
  have hp := restart_s H.out.2.1
  obtain ⟨D', hD'⟩ : ∃ D', dres d = D' := ⟨_, rfl⟩
  have hok : D'.ok := by rw [← hD']; exact ok_res H.out.2.2.1
  have hwr : D'.writes ≤ d.writes + 1 := by rw [← hD']; exact Nat.le_succ _
  rw [hD'] at hp
  go_enter Try.func9, Try.ntmps9
  go_wp2_with fail
  refine hp.mono ?_
  rintro e w1 ⟨rfl, D1, T1⟩
  have hS1 : ∀ i, (Since S W w1) i → S i ∨ W.heap.size ≤ i := fun i q => q.elim .inl (fun q => .inr q.1)
  have tw : Turned S w w1 := (Turned.ofBelow (S := S) HT.out.1).trans T1 (fun i _ q => q)
  have n1 : ∀ k, k < 3 → ¬ S (w.heap.size + k) := fun k _ q => by have := H.out.1 _ q; omega
  have sx := HT.out.2.2.1.turned T1 (n1 0 (by omega))
  have sy := HT.out.2.2.2.1.turned T1 (n1 1 (by omega))
  have sz := HT.out.2.2.2.2.turned T1 (n1 2 (by omega))
  have V1 : RVS (Upto (Since S W w1) Z w W.heap.size) w1 (rv ao L c d) d := H.out.2.2.2.2.1.into HZ.out.1 tw (fun i hi q => by
    rcases q with q | q | q
    · rcases hS1 i q with q | q
      · exact HZ.out.1 _ q
      · have := HT.out.2.1; omega
    · exact q
    · omega)
  have hU : ∀ i, Upto (Since S W w1) Z w W.heap.size i → i < w1.heap.size := fun i q => by
    rcases q with q | q | q
    · exact D1.lt i q
    · exact Nat.lt_of_lt_of_le (HZ.out.2 i q) tw.size
    · exact Nat.lt_of_lt_of_le q.2 T1.size
  have hq := rrestart_v V1
  rw [hD'] at hq
  have HE1 : Hid ((∀ i, (Since S W w1) i → S i ∨ W.heap.size ≤ i) ∧ DiskAt w1 b D' (Since S W w1) ∧ Turned S w w1 ∧ Six w1 w.heap.size (.slice ao L c) (.int .i64 (d.writes : Int)) (.bool d.armed) (.bool d.dead) (.int .i64 (d.after : Int)) (.int .i64 (d.keep : Int)) ∧ Six w1 (w.heap.size + 2) (.slice none 0 0) (.int .i64 0) (.bool false) (.bool false) (.int .i64 0) (.int .i64 0)) := ⟨hS1, D1, tw, sx, sz⟩
  clear x0 x1 x2 x3 x4 x5 y0 y1 y2 y3 y4 y5 y6 hS1 tw n1 V1 hU D1 T1 hp
  obtain ⟨x0, x1, x2, x3, x4, x5⟩ := sx.cells
  obtain ⟨y0, y1, y2, y3, y4, y5, y6⟩ := sy.cells
  clear sx sy sz
  go_wp2_with fail
  refine hq.mono ?_
  rintro e w2 ⟨v2, rfl, V2, B2⟩
  obtain ⟨a3, M, c3, rfl, hM, hc3, R3, F3⟩ := V2
  have s2 : w.heap.size + 2 < w2.heap.size := (HE1.out.2.2.2.2.below B2).lt
  obtain ⟨x0', x1', x2', x3', x4', x5'⟩ := (HE1.out.2.2.2.1.below B2).cells
  obtain ⟨f0, f1, f2, f3, f4, f5⟩ := (HE1.out.2.2.2.1.below B2).thaw
  obtain ⟨z0, z1, z2, z3, z4, z5⟩ := (HE1.out.2.2.2.2.below B2).cells
  obtain ⟨g0, g1, g2, g3, g4, g5⟩ := (HE1.out.2.2.2.2.below B2).thaw
  have ne : w.heap.size ≠ w.heap.size + 2 := by omega
  have ne' : w.heap.size + 2 ≠ w.heap.size := by omega
  have HE : Hid ((∀ i, (Since S W w1) i → S i ∨ W.heap.size ≤ i) ∧ DiskAt w2 b D' (Since S W w1) ∧ RVS (Upto (Since S W w1) Z w W.heap.size) w2 (rv a3 M c3 D') D' ∧ D'.ok ∧ D'.writes ≤ d.writes + 1 ∧ Turned S w w2) := ⟨HE1.out.1, HE1.out.2.1.below B2, ⟨a3, M, c3, rfl, hM, hc3, R3, F3⟩, hok, hwr, HE1.out.2.2.1.trans (Turned.ofBelow (S := S) B2) (fun i _ q => q)⟩
  have hA : W.heap.size = w.heap.size + 3 := HT.out.2.1
  clear x0 x1 x2 x3 x4 x5 hM hc3 R3 F3 B2 HE1 hq hok hwr hD' hA
  go_wp2_with fail
  go_region
  go_wp2
  refine bodyPost_ret (v := .tuple #[.pointer (some ⟨b, 0, none⟩), rv a3 M c3 D', .bool true]) ?_ rfl ⟨_, _, rfl, ?_⟩
  · simp [results, Try.f9]
    go_simp
  · have hA : W.heap.size = w.heap.size + 3 := HT.out.2.1
    exact play_close H.out.1 HE.out.1 (by omega) HE.out.2.1 HE.out.2.2.1 HE.out.2.2.2.1 HE.out.2.2.2.2.1 HE.out.2.2.2.2.2 (laid_two (by omega) (by omega) _ _ _ _ _ _ _ _ _ _ _ _).drew

end
end Go.Proofs.Ytlhlipjbcapidaa
