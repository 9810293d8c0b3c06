/-
  The statements' play, where the disk is cloned, where a clone is changed, and where nothing is called. No condition but that what is handed in is no longer than any memory holds.
-/
import Derived.Test.YtlhlipjbcapidaaPlay
namespace Go.Proofs.Ytlhlipjbcapidaa
open Go.RowKit

/-- A row of six cells is laid. -/
theorem laid_one {w3 : World} {b2 : Nat} {T : Nat → Prop} (h2 : T b2) (v0 v1 v2 v3 v4 v5 : Value) :
    Turned T w3 ((((((w3.setCell ⟨b2, 0, none⟩ v0).setCell ⟨b2, 1, none⟩ v1).setCell ⟨b2, 2, none⟩ v2).setCell ⟨b2, 3, none⟩ v3).setCell ⟨b2, 4, none⟩ v4).setCell ⟨b2, 5, none⟩ v5) :=
  ((((((Turned.refl T w3).setCell (p := ⟨b2, 0, none⟩) (.inl h2) v0).setCell (p := ⟨b2, 1, none⟩) (.inl h2) v1).setCell (p := ⟨b2, 2, none⟩) (.inl h2) v2).setCell (p := ⟨b2, 3, none⟩) (.inl h2) v3).setCell (p := ⟨b2, 4, none⟩) (.inl h2) v4).setCell (p := ⟨b2, 5, none⟩) (.inl h2) v5

section
variable {B : Nat} {w W : World} {b : Nat} {d : Dk}

theorem xput (h : MineE B w W b d) (hB : B ≤ w.heap.size) (hk : d.ok) (hw : d.writes ≤ 2000000) (n : Bs) (hn : n.length ≤ 140737488355328) {v : Value} {xss : List Bs} (hp : PartsB W v xss) (hl : xss.length ≤ 2) (hx : ∀ x ∈ xss, x.length ≤ 140737488355328) :
    Calls Try.prog 17 #[.pointer (some ⟨b, 0, none⟩), tx n, v] W fun e w' => ∃ r, e = .returned (.int .i64 r) ∧ Hid (∃ d', MineE B w w' b d' ∧ d'.ok ∧ d'.writes ≤ d.writes + 1) := by
  obtain ⟨S, h⟩ := h
  refine (put_at h.disk hk (by omega) n hn hp (by omega) hx).mono ?_
  rintro e w' ⟨r, rfl, h1, h2, h3⟩
  exact ⟨r, rfl, _, ⟨_, h.step (h.size hB) h2 h3⟩, ok_put hk _ _, wr_put _ _ _⟩

theorem xapp (h : MineE B w W b d) (hB : B ≤ w.heap.size) (hk : d.ok) (hw : d.writes ≤ 2000000) (n : Bs) (hn : n.length ≤ 140737488355328) {v : Value} {xss : List Bs} (hp : PartsB W v xss) (hl : xss.length ≤ 2) (hx : ∀ x ∈ xss, x.length ≤ 140737488355328) :
    Calls Try.prog 16 #[.pointer (some ⟨b, 0, none⟩), tx n, v] W fun e w' => ∃ r, e = .returned (.int .i64 r) ∧ Hid (∃ d', MineE B w w' b d' ∧ d'.ok ∧ d'.writes ≤ d.writes + 1) := by
  obtain ⟨S, h⟩ := h
  refine (append_at h.disk hk (by omega) n hn hp (by omega) hx).mono ?_
  rintro e w' ⟨r, rfl, h1, h2, h3⟩
  exact ⟨r, rfl, _, ⟨_, h.step (h.size hB) h2 h3⟩, ok_app hk _ _, wr_app _ _ _⟩

theorem xspoil (h : MineE B w W b d) (hB : B ≤ w.heap.size) (hk : d.ok) (n : Bs) (hn : n.length ≤ 140737488355328) (z : Int) (x : UInt8) :
    Calls Try.prog 32 #[.pointer (some ⟨b, 0, none⟩), tx n, .int .i64 z, .int .u8 (x.toNat : Int)] W fun e w' => ∃ r, e = .returned (.int .i64 r) ∧ Hid (∃ d', MineE B w w' b d' ∧ d'.ok ∧ d'.writes ≤ d.writes + 1) := by
  obtain ⟨S, h⟩ := h
  refine (spoil_at h.disk hk n hn z x).mono ?_
  rintro e w' ⟨r, rfl, h1, h2, h3⟩
  exact ⟨r, rfl, _, ⟨_, h.step (h.size hB) h2 h3⟩, ok_spoil hk _ _ _, wr_spoil _ _ _ _⟩

theorem xrem (h : MineE B w W b d) (hB : B ≤ w.heap.size) (hk : d.ok) (hw : d.writes ≤ 2000000) (n : Bs) (hn : n.length ≤ 140737488355328) :
    Calls Try.prog 19 #[.pointer (some ⟨b, 0, none⟩), tx n] W fun e w' => ∃ r, e = .returned (.int .i64 r) ∧ Hid (∃ d', MineE B w w' b d' ∧ d'.ok ∧ d'.writes ≤ d.writes + 1) := by
  obtain ⟨S, h⟩ := h
  refine (remove_at h.disk hk (by omega) n hn).mono ?_
  rintro e w' ⟨r, rfl, h1, h2, h3⟩
  exact ⟨r, rfl, _, ⟨_, h.step (h.size hB) h2 h3⟩, ok_rem hk _, wr_rem _ _⟩

theorem xres (h : MineE B w W b d) (hB : B ≤ w.heap.size) (hk : d.ok) :
    Calls Try.prog 12 #[.pointer (some ⟨b, 0, none⟩)] W fun e w' => e = .returned (.tuple #[]) ∧ Hid (∃ d', MineE B w w' b d' ∧ d'.ok ∧ d'.writes ≤ d.writes + 1) := by
  obtain ⟨S, h⟩ := h
  refine (restart_at h.disk).mono ?_
  rintro e w' ⟨rfl, h2, h3⟩
  exact ⟨rfl, _, ⟨_, h.step0 (h.size hB) h2 h3⟩, ok_res hk, Nat.le_succ _⟩
end

section
variable {S Z : Nat → Prop} {w : World} {b : Nat} {d : Dk}

set_option maxHeartbeats 6400000 in
set_option maxRecDepth 100000 in
theorem play_none (hS : ∀ i, S i → i < w.heap.size) (h : DiskAt w b d S) (hk : d.ok) (hw : d.writes ≤ 1000000) {ao : Option Addr} {L c : Nat} (hSZ : ∀ i, S i → Z i) (hZ : ∀ i, Z i → i < w.heap.size) (hv : RVS Z w (rv ao L c d) d) {nm tt data : Bs} {da : Option Addr} {n dc : Nat} {N keep : Int} (mask : UInt8) (ha : ActAt S w nm tt da n dc N keep data) {kind : Int} (h0 : kind ≠ 0) (h1 : kind ≠ 1) (h2 : kind ≠ 2) (h3 : kind ≠ 3) (h4 : kind ≠ 4) (h5 : kind ≠ 5) (h6 : kind ≠ 6) (h7 : kind ≠ 7) (h8 : kind ≠ 8) (h9 : kind ≠ 9) :
    Calls Try.prog 9 #[.pointer (some ⟨b, 0, none⟩), rv ao L c d, actV (kind) nm tt da n dc N keep (mask.toNat : Int)] w fun e w' => ∃ b' v', e = .returned (.tuple #[.pointer (some ⟨b', 0, none⟩), v', .bool true]) ∧ Left S Z w w' d b' v' := by
  obtain ⟨W, hW⟩ : ∃ W, ((w.alloc (.cells #[.slice ao L c, .int .i64 (d.writes : Int), .bool d.armed, .bool d.dead, .int .i64 (d.after : Int), .int .i64 (d.keep : Int)] 28)).alloc (.cells #[.int .i64 (kind), tx nm, tx tt, .slice da n dc, .int .i64 N, .int .i64 keep, .int .u8 (mask.toNat : Int)] 33)).alloc (.cells #[.slice none 0 0, .int .i64 0, .bool false, .bool false, .int .i64 0, .int .i64 0] 28) = W := ⟨_, rfl⟩
  have T3 := three_blocks w (.slice ao L c) (.int .i64 (d.writes : Int)) (.bool d.armed) (.bool d.dead) (.int .i64 (d.after : Int)) (.int .i64 (d.keep : Int)) (kind) nm tt da n dc N keep (mask.toNat : Int) (.slice none 0 0) (.int .i64 0) (.bool false) (.bool false) (.int .i64 0) (.int .i64 0) W hW
  have H : Hid ((∀ i, S i → i < w.heap.size) ∧ DiskAt W b d S ∧ d.ok ∧ d.writes ≤ 1000000 ∧ RVS Z w (rv ao L c d) d ∧ ActAt S w nm tt da n dc N keep data) := ⟨hS, h.below T3.1, hk, hw, hv, ha⟩
  have HT : Hid (Below w.heap.size w W ∧ W.heap.size = w.heap.size + 3 ∧ Six W w.heap.size (.slice ao L c) (.int .i64 (d.writes : Int)) (.bool d.armed) (.bool d.dead) (.int .i64 (d.after : Int)) (.int .i64 (d.keep : Int)) ∧ Seven W (w.heap.size + 1) (kind) nm tt da n dc N keep (mask.toNat : Int) ∧ Six W (w.heap.size + 2) (.slice none 0 0) (.int .i64 0) (.bool false) (.bool false) (.int .i64 0) (.int .i64 0)) := T3
  have HZ : Hid ((∀ i, S i → Z i) ∧ ∀ i, Z i → i < w.heap.size) := ⟨hSZ, hZ⟩
  clear hS h hk hw hv ha T3 hSZ hZ
  obtain ⟨x0, x1, x2, x3, x4, x5⟩ := HT.out.2.2.1.cells
  obtain ⟨y0, y1, y2, y3, y4, y5, y6⟩ := HT.out.2.2.2.1.cells
  have e0 : decide (kind = 0) = false := by rw [decide_eq_false_iff_not]; exact h0
  have e1 : decide (kind = 1) = false := by rw [decide_eq_false_iff_not]; exact h1
  have e2 : decide (kind = 2) = false := by rw [decide_eq_false_iff_not]; exact h2
  have e3 : decide (kind = 3) = false := by rw [decide_eq_false_iff_not]; exact h3
  have e4 : decide (kind = 4) = false := by rw [decide_eq_false_iff_not]; exact h4
  have e5 : decide (kind = 5) = false := by rw [decide_eq_false_iff_not]; exact h5
  have e6 : decide (kind = 6) = false := by rw [decide_eq_false_iff_not]; exact h6
  have e7 : decide (kind = 7) = false := by rw [decide_eq_false_iff_not]; exact h7
  have e8 : decide (kind = 8) = false := by rw [decide_eq_false_iff_not]; exact h8
  have e9 : decide (kind = 9) = false := by rw [decide_eq_false_iff_not]; exact h9
  clear x0 x1 x2 x3 x4 x5
  obtain ⟨x0, x1, x2, x3, x4, x5⟩ := (HT.out.2.2.1.below (Below.refl _ W)).cells
  obtain ⟨z0, z1, z2, z3, z4, z5⟩ := (HT.out.2.2.2.2.below (Below.refl _ W)).cells
  obtain ⟨g0, g1, g2, g3, g4, g5⟩ := (HT.out.2.2.2.2.below (Below.refl _ W)).thaw
  have s2 : w.heap.size + 2 < W.heap.size := (HT.out.2.2.2.2.below (Below.refl _ W)).lt
  have ne : w.heap.size ≠ w.heap.size + 2 := by omega
  have ne' : w.heap.size + 2 ≠ w.heap.size := by omega
  have HE : Hid (DiskAt W b d S ∧ RVS (Upto S Z w W.heap.size) W (rv ao L c d) d ∧ Turned S w W) := ⟨H.out.2.1, H.out.2.2.2.2.1.into HZ.out.1 (Turned.ofBelow HT.out.1) (fun i hi q => by
    rcases q with q | q | q
    · exact HZ.out.1 _ q
    · exact q
    · omega), Turned.ofBelow HT.out.1⟩
  go_enter Try.func9, Try.ntmps9
  go_wp2_with fail
  go_region
  go_wp2
  refine bodyPost_ret (v := .tuple #[.pointer (some ⟨b, 0, none⟩), rv ao L c d, .bool true]) ?_ rfl ⟨_, _, rfl, ?_⟩
  · simp [results, Try.f9]
    go_simp
  · have hA : W.heap.size = w.heap.size + 3 := HT.out.2.1
    exact play_close H.out.1 (fun i q => .inl q) (by omega) HE.out.1 HE.out.2.1 H.out.2.2.1 (Nat.le_succ _) HE.out.2.2 (laid_one (by omega) _ _ _ _ _ _).drew

set_option maxHeartbeats 6400000 in
set_option maxRecDepth 100000 in
theorem play_clone (hS : ∀ i, S i → i < w.heap.size) (h : DiskAt w b d S) (hk : d.ok) (hw : d.writes ≤ 1000000) {ao : Option Addr} {L c : Nat} (hSZ : ∀ i, S i → Z i) (hZ : ∀ i, Z i → i < w.heap.size) (hv : RVS Z w (rv ao L c d) d) {nm tt data : Bs} {da : Option Addr} {n dc : Nat} {N keep : Int} (mask : UInt8) (ha : ActAt S w nm tt da n dc N keep data) :
    Calls Try.prog 9 #[.pointer (some ⟨b, 0, none⟩), rv ao L c d, actV (8) nm tt da n dc N keep (mask.toNat : Int)] w fun e w' => ∃ b' v', e = .returned (.tuple #[.pointer (some ⟨b', 0, none⟩), v', .bool true]) ∧ Left S Z w w' d b' v' := by
  obtain ⟨W, hW⟩ : ∃ W, ((w.alloc (.cells #[.slice ao L c, .int .i64 (d.writes : Int), .bool d.armed, .bool d.dead, .int .i64 (d.after : Int), .int .i64 (d.keep : Int)] 28)).alloc (.cells #[.int .i64 (8), tx nm, tx tt, .slice da n dc, .int .i64 N, .int .i64 keep, .int .u8 (mask.toNat : Int)] 33)).alloc (.cells #[.slice none 0 0, .int .i64 0, .bool false, .bool false, .int .i64 0, .int .i64 0] 28) = W := ⟨_, rfl⟩
  have T3 := three_blocks w (.slice ao L c) (.int .i64 (d.writes : Int)) (.bool d.armed) (.bool d.dead) (.int .i64 (d.after : Int)) (.int .i64 (d.keep : Int)) (8) nm tt da n dc N keep (mask.toNat : Int) (.slice none 0 0) (.int .i64 0) (.bool false) (.bool false) (.int .i64 0) (.int .i64 0) W hW
  have H : Hid ((∀ i, S i → i < w.heap.size) ∧ DiskAt W b d S ∧ d.ok ∧ d.writes ≤ 1000000 ∧ RVS Z w (rv ao L c d) d ∧ ActAt S w nm tt da n dc N keep data) := ⟨hS, h.below T3.1, hk, hw, hv, ha⟩
  have HT : Hid (Below w.heap.size w W ∧ W.heap.size = w.heap.size + 3 ∧ Six W w.heap.size (.slice ao L c) (.int .i64 (d.writes : Int)) (.bool d.armed) (.bool d.dead) (.int .i64 (d.after : Int)) (.int .i64 (d.keep : Int)) ∧ Seven W (w.heap.size + 1) (8) nm tt da n dc N keep (mask.toNat : Int) ∧ Six W (w.heap.size + 2) (.slice none 0 0) (.int .i64 0) (.bool false) (.bool false) (.int .i64 0) (.int .i64 0)) := T3
  have HZ : Hid ((∀ i, S i → Z i) ∧ ∀ i, Z i → i < w.heap.size) := ⟨hSZ, hZ⟩
  clear hS h hk hw hv ha T3 hSZ hZ
  obtain ⟨x0, x1, x2, x3, x4, x5⟩ := HT.out.2.2.1.cells
  obtain ⟨y0, y1, y2, y3, y4, y5, y6⟩ := HT.out.2.2.2.1.cells
  have hp := clone_at H.out.2.1 H.out.2.2.1
  go_enter Try.func9, Try.ntmps9
  go_wp2_with fail
  refine hp.mono ?_
  rintro e w1 ⟨cb, rfl, D1, B1⟩
  clear x0 x1 x2 x3 x4 x5
  obtain ⟨x0, x1, x2, x3, x4, x5⟩ := (HT.out.2.2.1.below B1).cells
  obtain ⟨z0, z1, z2, z3, z4, z5⟩ := (HT.out.2.2.2.2.below B1).cells
  obtain ⟨g0, g1, g2, g3, g4, g5⟩ := (HT.out.2.2.2.2.below B1).thaw
  have s2 : w.heap.size + 2 < w1.heap.size := (HT.out.2.2.2.2.below B1).lt
  have ne : w.heap.size ≠ w.heap.size + 2 := by omega
  have ne' : w.heap.size + 2 ≠ w.heap.size := by omega
  have tw : Turned S w w1 := Turned.ofBelow (HT.out.1.trans (B1.mono HT.out.1.size))
  have HE : Hid (DiskAt w1 cb d (fun i => W.heap.size ≤ i ∧ i < w1.heap.size) ∧ RVS (Upto (fun i => W.heap.size ≤ i ∧ i < w1.heap.size) Z w W.heap.size) w1 (rv ao L c d) d ∧ Turned S w w1) := ⟨D1, H.out.2.2.2.2.1.into HZ.out.1 tw (fun i hi q => by
    have := HT.out.2.1
    rcases q with q | q | q
    · omega
    · exact q
    · omega), tw⟩
  clear D1 B1 tw hp
  go_wp2_with fail
  go_region
  go_wp2
  refine bodyPost_ret (v := .tuple #[.pointer (some ⟨cb, 0, none⟩), rv ao L c d, .bool true]) ?_ rfl ⟨_, _, rfl, ?_⟩
  · simp [results, Try.f9]
    go_simp
  · have hA : W.heap.size = w.heap.size + 3 := HT.out.2.1
    exact play_close H.out.1 (fun i q => .inr q.1) (by omega) HE.out.1 HE.out.2.1 H.out.2.2.1 (Nat.le_succ _) HE.out.2.2 (laid_one (by omega) _ _ _ _ _ _).drew

set_option maxHeartbeats 6400000 in
set_option maxRecDepth 100000 in
theorem play_other (hS : ∀ i, S i → i < w.heap.size) (h : DiskAt w b d S) (hk : d.ok) (hw : d.writes ≤ 1000000) {ao : Option Addr} {L c : Nat} (hSZ : ∀ i, S i → Z i) (hZ : ∀ i, Z i → i < w.heap.size) (hv : RVS Z w (rv ao L c d) d) {nm tt data : Bs} {da : Option Addr} {n dc : Nat} {N keep : Int} (mask : UInt8) (ha : ActAt S w nm tt da n dc N keep data) :
    Calls Try.prog 9 #[.pointer (some ⟨b, 0, none⟩), rv ao L c d, actV (9) nm tt da n dc N keep (mask.toNat : Int)] w fun e w' => ∃ b' v', e = .returned (.tuple #[.pointer (some ⟨b', 0, none⟩), v', .bool true]) ∧ Left S Z w w' d b' v' := by
  obtain ⟨W, hW⟩ : ∃ W, ((w.alloc (.cells #[.slice ao L c, .int .i64 (d.writes : Int), .bool d.armed, .bool d.dead, .int .i64 (d.after : Int), .int .i64 (d.keep : Int)] 28)).alloc (.cells #[.int .i64 (9), tx nm, tx tt, .slice da n dc, .int .i64 N, .int .i64 keep, .int .u8 (mask.toNat : Int)] 33)).alloc (.cells #[.slice none 0 0, .int .i64 0, .bool false, .bool false, .int .i64 0, .int .i64 0] 28) = W := ⟨_, rfl⟩
  have T3 := three_blocks w (.slice ao L c) (.int .i64 (d.writes : Int)) (.bool d.armed) (.bool d.dead) (.int .i64 (d.after : Int)) (.int .i64 (d.keep : Int)) (9) nm tt da n dc N keep (mask.toNat : Int) (.slice none 0 0) (.int .i64 0) (.bool false) (.bool false) (.int .i64 0) (.int .i64 0) W hW
  have H : Hid ((∀ i, S i → i < w.heap.size) ∧ DiskAt W b d S ∧ d.ok ∧ d.writes ≤ 1000000 ∧ RVS Z w (rv ao L c d) d ∧ ActAt S w nm tt da n dc N keep data) := ⟨hS, h.below T3.1, hk, hw, hv, ha⟩
  have HT : Hid (Below w.heap.size w W ∧ W.heap.size = w.heap.size + 3 ∧ Six W w.heap.size (.slice ao L c) (.int .i64 (d.writes : Int)) (.bool d.armed) (.bool d.dead) (.int .i64 (d.after : Int)) (.int .i64 (d.keep : Int)) ∧ Seven W (w.heap.size + 1) (9) nm tt da n dc N keep (mask.toNat : Int) ∧ Six W (w.heap.size + 2) (.slice none 0 0) (.int .i64 0) (.bool false) (.bool false) (.int .i64 0) (.int .i64 0)) := T3
  have HZ : Hid ((∀ i, S i → Z i) ∧ ∀ i, Z i → i < w.heap.size) := ⟨hSZ, hZ⟩
  clear hS h hk hw hv ha T3 hSZ hZ
  obtain ⟨x0, x1, x2, x3, x4, x5⟩ := HT.out.2.2.1.cells
  obtain ⟨y0, y1, y2, y3, y4, y5, y6⟩ := HT.out.2.2.2.1.cells
  have hp := clone_at H.out.2.1 H.out.2.2.1
  go_enter Try.func9, Try.ntmps9
  go_wp2_with fail
  refine hp.mono ?_
  rintro e w1 ⟨cb, rfl, D1, B1⟩
  have M1 : Hid (MineE W.heap.size W w1 cb d) := ⟨_, D1, fun _ q => q.1, B1⟩
  clear D1 B1 hp
  clear y0 y1 y2 y3 y4 y5 y6
  obtain ⟨y0, y1, y2, y3, y4, y5, y6⟩ := (HT.out.2.2.2.1.below M1.out.bel).cells
  go_wp2_with fail
  refine (xres M1.out (Nat.le_refl _) H.out.2.2.1).mono ?_
  rintro e w2 ⟨rfl, M2⟩
  obtain ⟨d2, M2, k2, v2⟩ := M2.out
  have HM2 : Hid (MineE W.heap.size W w2 cb d2 ∧ d2.ok ∧ d2.writes ≤ d.writes + 1) := ⟨M2, k2, v2⟩
  clear M1 M2 k2 v2
  have DA : Hid (∀ u, Below W.heap.size W u → BAt u (.slice da n dc) data) := fun u hu => by
    have a := H.out.2.2.2.2.2
    have hl := a.len
    subst hl
    exact ⟨da, dc, rfl, a.cap, a.cap63, a.rd.below (HT.out.1.trans (hu.mono HT.out.1.size))⟩
  clear y0 y1 y2 y3 y4 y5 y6
  obtain ⟨y0, y1, y2, y3, y4, y5, y6⟩ := (HT.out.2.2.2.1.below HM2.out.1.bel).cells
  go_wp2_with fail
  refine (xput (HM2.out.1.below (Nat.le_refl _) (bz1 w2 _)) (Nat.le_refl _) HM2.out.2.1 (by have := HM2.out.2.2; have := H.out.2.2.2.1; omega) [97] (by simp) (parts_one (DA.out w2 HM2.out.1.bel) 31) (by simp) (by intro x hx; simp at hx; subst hx; rw [H.out.2.2.2.2.2.len]; exact H.out.2.2.2.2.2.n47)).mono ?_
  rintro e w3 ⟨r, rfl, M3⟩
  obtain ⟨d3, M3, k3, v3⟩ := M3.out
  have HM3 : Hid (MineE W.heap.size W w3 cb d3 ∧ d3.ok ∧ d3.writes ≤ d.writes + 2) := ⟨M3, k3, by have := HM2.out.2.2; omega⟩
  clear M3 k3 v3 HM2
  clear y0 y1 y2 y3 y4 y5 y6
  obtain ⟨y0, y1, y2, y3, y4, y5, y6⟩ := (HT.out.2.2.2.1.below HM3.out.1.bel).cells
  go_wp2_with fail
  refine (xapp (HM3.out.1.below (Nat.le_refl _) (bz1 w3 _)) (Nat.le_refl _) HM3.out.2.1 (by have := HM3.out.2.2; have := H.out.2.2.2.1; omega) nm H.out.2.2.2.2.2.nm47 (parts_one (DA.out w3 HM3.out.1.bel) 31) (by simp) (by intro x hx; simp at hx; subst hx; rw [H.out.2.2.2.2.2.len]; exact H.out.2.2.2.2.2.n47)).mono ?_
  rintro e w4 ⟨r4, rfl, M4⟩
  obtain ⟨d4, M4, k4, v4⟩ := M4.out
  have HM4 : Hid (MineE W.heap.size W w4 cb d4 ∧ d4.ok ∧ d4.writes ≤ d.writes + 3) := ⟨M4, k4, by have := HM3.out.2.2; omega⟩
  clear M4 k4 v4 HM3
  clear y0 y1 y2 y3 y4 y5 y6
  obtain ⟨y0, y1, y2, y3, y4, y5, y6⟩ := (HT.out.2.2.2.1.below HM4.out.1.bel).cells
  go_wp2_with fail
  refine (xspoil HM4.out.1 (Nat.le_refl _) HM4.out.2.1 nm H.out.2.2.2.2.2.nm47 0 255).mono ?_
  rintro e w5 ⟨r5, rfl, M5⟩
  obtain ⟨d5, M5, k5, v5⟩ := M5.out
  have HM5 : Hid (MineE W.heap.size W w5 cb d5 ∧ d5.ok ∧ d5.writes ≤ d.writes + 4) := ⟨M5, k5, by have := HM4.out.2.2; omega⟩
  clear M5 k5 v5 HM4
  clear y0 y1 y2 y3 y4 y5 y6
  obtain ⟨y0, y1, y2, y3, y4, y5, y6⟩ := (HT.out.2.2.2.1.below HM5.out.1.bel).cells
  go_wp2_with fail
  refine (xrem HM5.out.1 (Nat.le_refl _) HM5.out.2.1 (by have := HM5.out.2.2; have := H.out.2.2.2.1; omega) [98] (by simp)).mono ?_
  rintro e w6 ⟨r6, rfl, M6⟩
  obtain ⟨d6, M6, k6, v6⟩ := M6.out
  have HM6 : Hid (Below W.heap.size W w6) := M6.bel
  clear M6 k6 v6 HM5
  clear x0 x1 x2 x3 x4 x5
  obtain ⟨x0, x1, x2, x3, x4, x5⟩ := (HT.out.2.2.1.below HM6.out).cells
  obtain ⟨z0, z1, z2, z3, z4, z5⟩ := (HT.out.2.2.2.2.below HM6.out).cells
  obtain ⟨g0, g1, g2, g3, g4, g5⟩ := (HT.out.2.2.2.2.below HM6.out).thaw
  have s2 : w.heap.size + 2 < w6.heap.size := (HT.out.2.2.2.2.below HM6.out).lt
  have ne : w.heap.size ≠ w.heap.size + 2 := by omega
  have ne' : w.heap.size + 2 ≠ w.heap.size := by omega
  have HE : Hid (DiskAt w6 b d S ∧ RVS (Upto S Z w W.heap.size) w6 (rv ao L c d) d ∧ Turned S w w6) := by
    have tw : Turned S w w6 := Turned.ofBelow (HT.out.1.trans (HM6.out.mono HT.out.1.size))
    exact ⟨H.out.2.1.below HM6.out, H.out.2.2.2.2.1.into HZ.out.1 tw (fun i hi q => by
      rcases q with q | q | q
      · exact HZ.out.1 _ q
      · exact q
      · omega), tw⟩
  go_wp2_with fail
  go_region
  go_wp2
  refine bodyPost_ret (v := .tuple #[.pointer (some ⟨b, 0, none⟩), rv ao L c d, .bool true]) ?_ rfl ⟨_, _, rfl, ?_⟩
  · simp [results, Try.f9]
    go_simp
  · have hA : W.heap.size = w.heap.size + 3 := HT.out.2.1
    exact play_close H.out.1 (fun i q => .inl q) (by omega) HE.out.1 HE.out.2.1 H.out.2.2.1 (Nat.le_succ _) HE.out.2.2 (laid_one (by omega) _ _ _ _ _ _).drew

end
end Go.Proofs.Ytlhlipjbcapidaa
