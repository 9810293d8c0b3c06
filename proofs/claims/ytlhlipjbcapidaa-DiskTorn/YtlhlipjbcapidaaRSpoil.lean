/-
  The reference's Spoil, by a contract over the document's disk. No condition but that what is handed in is no longer than any memory holds.
-/
import Derived.Test.YtlhlipjbcapidaaRAny
import Derived.Test.YtlhlipjbcapidaaTalk
import Derived.Laws.IdiomStrings
namespace Go.Proofs.Ytlhlipjbcapidaa
open Go.RowKit

/-- Block g begins with bytes, and may be written there. -/
structure Raw (w : World) (g : Nat) (bs : Bs) : Prop where
  lt : g < w.heap.size
  cell : ∀ j x, bs[j]? = some x → w.cell? ⟨g, j, none⟩ = some (.int .u8 (x.toNat : Int))
  thaw : ∀ j, j < bs.length → w.frozen? ⟨g, j, none⟩ = false

theorem Raw.at {w : World} {g c : Nat} {bs : Bs} (h : Raw w g bs) (h1 : bs.length ≤ c) (h2 : c ≤ 9223372036854775807) : BAt w (.slice (some ⟨g, 0, none⟩) bs.length c) bs := by
  refine ⟨_, c, rfl, h1, h2, fun _ => ⟨g, 0, rfl, h.lt, fun i x hx j u hu => ?_⟩⟩
  have hj : j = 0 := by
    rcases Nat.eq_zero_or_pos j with q | q
    · exact q
    · rw [List.getElem?_eq_none (by show ([_] : List Value).length ≤ j; simp; omega)] at hu; cases hu
  subst hj
  have e : 0 + (i * encB.size + 0) = i := by show 0 + (i * 1 + 0) = i; omega
  rw [e, h.cell i x hx]
  exact hu

theorem Raw.put {w : World} {g z : Nat} {bs : Bs} (h : Raw w g bs) (hz : z < bs.length) (y : UInt8) : Raw (w.setCell ⟨g, z, none⟩ (.int .u8 (y.toNat : Int))) g (bs.set z y) := by
  have hb : ∃ cs t fr, w.heap[g]? = some (.cells cs t fr) := by
    have := h.cell z bs[z] (List.getElem?_eq_getElem hz)
    unfold World.cell? at this
    split at this
    · rename_i c t fr e
      exact ⟨c, t, fr, e⟩
    · cases this
  obtain ⟨cs, t, fr, hb⟩ := hb
  have hc : ∀ (j : Nat) (x : UInt8), bs[j]? = some x → cs[j]? = some (Value.int .u8 (x.toNat : Int)) := fun j x hx => by have := h.cell j x hx; simpa [World.cell?, hb] using this
  refine ⟨by simp [World.setCell]; exact h.lt, fun j x hx => ?_, fun j hj => ?_⟩
  · have hzs : z < cs.size := by
      have := hc z bs[z] (List.getElem?_eq_getElem hz)
      exact (Array.getElem?_eq_some_iff.1 this).1
    rw [List.getElem?_set] at hx
    simp only [World.cell?, World.setCell, Array.getElem?_modify, hb, if_true, Option.map_some, Option.isSome_none, Bool.false_eq_true, if_false, Array.getElem?_setIfInBounds]
    by_cases e : z = j
    · rw [if_pos e, if_pos hz] at hx
      cases hx
      rw [if_pos e, if_pos hzs]
    · rw [if_neg e] at hx
      rw [if_neg e]
      exact hc j x hx
  · have := h.thaw j (by simpa using hj)
    simpa [World.frozen?, World.setCell, Array.getElem?_modify, hb] using this

/-- []byte(s). -/
theorem bytes_of (w : World) (bs : Bs) : ∃ W' c, (convert 9 31 (tx bs)).run Try.prog w = .ok (.slice (some ⟨w.heap.size, 0, none⟩) bs.length c) W' ∧ Below w.heap.size w W' ∧ W'.heap.size = w.heap.size + 1 ∧ Raw W' w.heap.size bs ∧ bs.length ≤ c ∧ (bs.length ≤ maxLen → c ≤ 9223372036854775807) := by
  refine ⟨_, _, run_bytes_of_string (P := Try.prog) w 9 31 5 ⟨bs.toArray⟩ Try.underlying9 Try.underlying31 Try.underlying5, ?_, ?_, ⟨?_, ?_, ?_⟩, ?_, ?_⟩
  · exact below_drew (bz1 w.drew _)
  · show (w.heap.push _).size = _; simp
  · show w.heap.size < (w.heap.push _).size; simp
  · intro j x hx
    have hj : j < bs.length := by
      rcases Nat.lt_or_ge j bs.length with q | q
      · exact q
      · rw [List.getElem?_eq_none q] at hx; cases hx
    have hb := bytesRow_at ⟨bs.toArray⟩ (grownCap w (⟨bs.toArray⟩ : ByteArray).size 0 5) j (by simpa using hj)
    refine ((World.cell?_alloc_mark w.drew _ 5 _ j).trans hb).trans ?_
    rw [List.getElem?_eq_getElem hj] at hx
    cases hx
    simp
  · intro j hj
    have hs : j < (bytesRow ⟨bs.toArray⟩ (grownCap w (⟨bs.toArray⟩ : ByteArray).size 0 5)).size := by
      have hb := bytesRow_at ⟨bs.toArray⟩ (grownCap w (⟨bs.toArray⟩ : ByteArray).size 0 5) j (by simpa using hj)
      exact (Array.getElem?_eq_some_iff.1 hb).1
    obtain ⟨C, hC⟩ : ∃ C, bytesRow ⟨bs.toArray⟩ (grownCap w (⟨bs.toArray⟩ : ByteArray).size 0 5) = C := ⟨_, rfl⟩
    rw [hC] at hs ⊢
    have hh : (w.drew.alloc (.cells C 5 (C.size, C.size + 1))).heap[w.heap.size]? = some (.cells C 5 (C.size, C.size + 1)) := by
      show (w.heap.push _)[w.heap.size]? = _
      simp
    simp only [World.frozen?, hh]
    simp
    omega
  · exact grownCap_ge _ _ _ _
  · intro h
    have := grownCap_le_maxLen w (⟨bs.toArray⟩ : ByteArray).size 0 5 h
    simp only [maxLen] at this
    omega

section
variable {S : Nat → Prop} {ao : Option Addr} {L c : Nat} {d : Dk} {w : World}

set_option maxHeartbeats 1600000 in
set_option maxRecDepth 100000 in
theorem rspoil_none (hR : RdG encF w ao d.files) (hL : d.files.length = L) (hl : L ≤ 1000) (n : Bs) (z : Int) (x : UInt8) (hf : fget d.files n = none) :
    Calls Try.prog 33 #[rv ao L c d, tx n, .int .i64 z, .int .u8 (x.toNat : Int)] w fun e w' => e = .returned (.tuple #[rv ao L c d, .int .i64 5]) ∧ Below w.heap.size w w' := by
  obtain ⟨W, hW⟩ : ∃ W, (w.alloc (.cells #[.slice ao L c, .int .i64 (d.writes : Int), .bool d.armed, .bool d.dead, .int .i64 (d.after : Int), .int .i64 (d.keep : Int)] 28)).alloc (.cells #[.slice none 0 0, .int .i64 0, .bool false, .bool false, .int .i64 0, .int .i64 0] 28) = W := ⟨_, rfl⟩
  have T := two_blocks w (.slice ao L c) (.int .i64 (d.writes : Int)) (.bool d.armed) (.bool d.dead) (.int .i64 (d.after : Int)) (.int .i64 (d.keep : Int)) (.slice none 0 0) (.int .i64 0) (.bool false) (.bool false) (.int .i64 0) (.int .i64 0)
  rw [hW] at T
  have B0 : Below w.heap.size w W := by rw [← hW]; exact bz2 _ _ _
  obtain ⟨x0, x1, x2, x3, x4, x5⟩ := T.1.cells
  have H : Hid (Below w.heap.size w W ∧ Six W w.heap.size (.slice ao L c) (.int .i64 (d.writes : Int)) (.bool d.armed) (.bool d.dead) (.int .i64 (d.after : Int)) (.int .i64 (d.keep : Int)) ∧ Six W (w.heap.size + 1) (.slice none 0 0) (.int .i64 0) (.bool false) (.bool false) (.int .i64 0) (.int .i64 0) ∧ RdG encF w ao d.files ∧ d.files.length = L) := ⟨B0, T.1, T.2, hR, hL⟩
  have hat := at_none (c := c) d n W (hR.below B0) hL hl hf
  clear hR hL hf T B0
  go_enter Try.func33, Try.ntmps33
  go_wp2_with fail
  refine hat.mono ?_
  rintro e w1 ⟨rfl, B1⟩
  clear x0 x1 x2 x3 x4 x5
  obtain ⟨x0, x1, x2, x3, x4, x5⟩ := (H.out.2.1.below B1).cells
  obtain ⟨y0, y1, y2, y3, y4, y5⟩ := (H.out.2.2.1.below B1).cells
  obtain ⟨f0, f1, f2, f3, f4, f5⟩ := (H.out.2.2.1.below B1).thaw
  have BB : Hid (Below w.heap.size w w1) := H.out.1.trans (B1.mono H.out.1.size)
  clear B1 hat
  go_wp2
  refine bodyPost_ret (v := .tuple #[rv ao L c d, .int .i64 5]) ?_ rfl ⟨rfl, close_one BB.out (by omega) _ _ _ _ _ _⟩
  simp [results, Try.f33]
  go_simp

set_option maxHeartbeats 1600000 in
set_option maxRecDepth 100000 in
theorem rspoil_low (hR : RdG encF w ao d.files) (hL : d.files.length = L) (hl : L ≤ 1000) (n : Bs) (z : Int) (x : UInt8) {v : Bs} (hf : fget d.files n = some v) (hz : z < 0) :
    Calls Try.prog 33 #[rv ao L c d, tx n, .int .i64 z, .int .u8 (x.toNat : Int)] w fun e w' => e = .returned (.tuple #[rv ao L c d, .int .i64 3]) ∧ Below w.heap.size w w' := by
  have q1 : decide (z < 0) = true := by simpa using hz
  obtain ⟨W, hW⟩ : ∃ W, (w.alloc (.cells #[.slice ao L c, .int .i64 (d.writes : Int), .bool d.armed, .bool d.dead, .int .i64 (d.after : Int), .int .i64 (d.keep : Int)] 28)).alloc (.cells #[.slice none 0 0, .int .i64 0, .bool false, .bool false, .int .i64 0, .int .i64 0] 28) = W := ⟨_, rfl⟩
  have T := two_blocks w (.slice ao L c) (.int .i64 (d.writes : Int)) (.bool d.armed) (.bool d.dead) (.int .i64 (d.after : Int)) (.int .i64 (d.keep : Int)) (.slice none 0 0) (.int .i64 0) (.bool false) (.bool false) (.int .i64 0) (.int .i64 0)
  rw [hW] at T
  have B0 : Below w.heap.size w W := by rw [← hW]; exact bz2 _ _ _
  obtain ⟨x0, x1, x2, x3, x4, x5⟩ := T.1.cells
  have H : Hid (Below w.heap.size w W ∧ Six W w.heap.size (.slice ao L c) (.int .i64 (d.writes : Int)) (.bool d.armed) (.bool d.dead) (.int .i64 (d.after : Int)) (.int .i64 (d.keep : Int)) ∧ Six W (w.heap.size + 1) (.slice none 0 0) (.int .i64 0) (.bool false) (.bool false) (.int .i64 0) (.int .i64 0) ∧ RdG encF w ao d.files ∧ d.files.length = L) := ⟨B0, T.1, T.2, hR, hL⟩
  have hat := at_some (c := c) d n W (hR.below B0) hL hl hf
  have hdata := fun (W' : World) (hB : Below W.heap.size W W') => data_some (c := c) d n W' ((hR.below B0).below hB) hL hl hf
  clear hR hL hf T B0
  go_enter Try.func33, Try.ntmps33
  go_wp2_with fail
  refine hat.mono ?_
  rintro e w1 ⟨i, rfl, hi, hx, B1⟩
  have i0 : decide ((i : Int) < 0) = false := by rw [decide_eq_false_iff_not]; omega
  clear x0 x1 x2 x3 x4 x5
  obtain ⟨x0, x1, x2, x3, x4, x5⟩ := (H.out.2.1.below B1).cells
  have HB1 : Hid (Below W.heap.size W w1) := B1
  clear B1 hat
  go_wp2_with fail
  refine (hdata w1 HB1.out).mono ?_
  rintro e w1' ⟨rfl, B1'⟩
  have HB1' : Hid (Below W.heap.size W w1') := HB1.out.trans (B1'.mono HB1.out.size)
  clear x0 x1 x2 x3 x4 x5
  obtain ⟨x0, x1, x2, x3, x4, x5⟩ := (H.out.2.1.below HB1'.out).cells
  clear B1' HB1 hdata
  obtain ⟨y0, y1, y2, y3, y4, y5⟩ := (H.out.2.2.1.below HB1'.out).cells
  obtain ⟨f0, f1, f2, f3, f4, f5⟩ := (H.out.2.2.1.below HB1'.out).thaw
  have BB : Hid (Below w.heap.size w w1') := H.out.1.trans (HB1'.out.mono H.out.1.size)
  go_wp2
  refine bodyPost_ret (v := .tuple #[rv ao L c d, .int .i64 3]) ?_ rfl ⟨rfl, close_one BB.out (by omega) _ _ _ _ _ _⟩
  simp [results, Try.f33]
  go_simp

set_option maxHeartbeats 1600000 in
set_option maxRecDepth 100000 in
theorem rspoil_high (hR : RdG encF w ao d.files) (hL : d.files.length = L) (hl : L ≤ 1000) (n : Bs) (z : Int) (x : UInt8) {v : Bs} (hf : fget d.files n = some v) (h0 : 0 ≤ z) (hz : (v.length : Int) ≤ z) :
    Calls Try.prog 33 #[rv ao L c d, tx n, .int .i64 z, .int .u8 (x.toNat : Int)] w fun e w' => e = .returned (.tuple #[rv ao L c d, .int .i64 3]) ∧ Below w.heap.size w w' := by
  have q1 : decide (z < 0) = false := by simpa using h0
  have q2 : decide (((v.length : Nat) : Int) ≤ z) = true := by simpa using hz
  obtain ⟨W, hW⟩ : ∃ W, (w.alloc (.cells #[.slice ao L c, .int .i64 (d.writes : Int), .bool d.armed, .bool d.dead, .int .i64 (d.after : Int), .int .i64 (d.keep : Int)] 28)).alloc (.cells #[.slice none 0 0, .int .i64 0, .bool false, .bool false, .int .i64 0, .int .i64 0] 28) = W := ⟨_, rfl⟩
  have T := two_blocks w (.slice ao L c) (.int .i64 (d.writes : Int)) (.bool d.armed) (.bool d.dead) (.int .i64 (d.after : Int)) (.int .i64 (d.keep : Int)) (.slice none 0 0) (.int .i64 0) (.bool false) (.bool false) (.int .i64 0) (.int .i64 0)
  rw [hW] at T
  have B0 : Below w.heap.size w W := by rw [← hW]; exact bz2 _ _ _
  obtain ⟨x0, x1, x2, x3, x4, x5⟩ := T.1.cells
  have H : Hid (Below w.heap.size w W ∧ Six W w.heap.size (.slice ao L c) (.int .i64 (d.writes : Int)) (.bool d.armed) (.bool d.dead) (.int .i64 (d.after : Int)) (.int .i64 (d.keep : Int)) ∧ Six W (w.heap.size + 1) (.slice none 0 0) (.int .i64 0) (.bool false) (.bool false) (.int .i64 0) (.int .i64 0) ∧ RdG encF w ao d.files ∧ d.files.length = L) := ⟨B0, T.1, T.2, hR, hL⟩
  have hat := at_some (c := c) d n W (hR.below B0) hL hl hf
  have hdata := fun (W' : World) (hB : Below W.heap.size W W') => data_some (c := c) d n W' ((hR.below B0).below hB) hL hl hf
  clear hR hL hf T B0
  go_enter Try.func33, Try.ntmps33
  go_wp2_with fail
  refine hat.mono ?_
  rintro e w1 ⟨i, rfl, hi, hx, B1⟩
  have i0 : decide ((i : Int) < 0) = false := by rw [decide_eq_false_iff_not]; omega
  clear x0 x1 x2 x3 x4 x5
  obtain ⟨x0, x1, x2, x3, x4, x5⟩ := (H.out.2.1.below B1).cells
  have HB1 : Hid (Below W.heap.size W w1) := B1
  clear B1 hat
  go_wp2_with fail
  refine (hdata w1 HB1.out).mono ?_
  rintro e w1' ⟨rfl, B1'⟩
  have HB1' : Hid (Below W.heap.size W w1') := HB1.out.trans (B1'.mono HB1.out.size)
  clear x0 x1 x2 x3 x4 x5
  obtain ⟨x0, x1, x2, x3, x4, x5⟩ := (H.out.2.1.below HB1'.out).cells
  clear B1' HB1 hdata
  obtain ⟨y0, y1, y2, y3, y4, y5⟩ := (H.out.2.2.1.below HB1'.out).cells
  obtain ⟨f0, f1, f2, f3, f4, f5⟩ := (H.out.2.2.1.below HB1'.out).thaw
  have BB : Hid (Below w.heap.size w w1') := H.out.1.trans (HB1'.out.mono H.out.1.size)
  go_wp2
  refine bodyPost_ret (v := .tuple #[rv ao L c d, .int .i64 3]) ?_ rfl ⟨rfl, close_one BB.out (by omega) _ _ _ _ _ _⟩
  simp [results, Try.f33]
  go_simp

set_option maxHeartbeats 3200000 in
set_option maxRecDepth 100000 in
theorem rspoil_done (hS : ∀ i, S i → i < w.heap.size) (hR : RdG encF w ao d.files) (hL : d.files.length = L) (hl : L ≤ 1000) (hr : FRise d.files) (n : Bs) (z : Nat) (x : UInt8) {v : Bs} (hf : fget d.files n = some v) (hz : z < v.length) (hvl : v.length ≤ 262144) :
    Calls Try.prog 33 #[rv ao L c d, tx n, .int .i64 (z : Int), .int .u8 (x.toNat : Int)] w fun e w' => ∃ v', e = .returned (.tuple #[v', .int .i64 0]) ∧ RVS S w' v' { d with files := fwith d.files n (v.set z (v.getD z 0 ^^^ x)) } ∧ Below w.heap.size w w' := by
  obtain ⟨W, hW⟩ : ∃ W, (w.alloc (.cells #[.slice ao L c, .int .i64 (d.writes : Int), .bool d.armed, .bool d.dead, .int .i64 (d.after : Int), .int .i64 (d.keep : Int)] 28)).alloc (.cells #[.slice none 0 0, .int .i64 0, .bool false, .bool false, .int .i64 0, .int .i64 0] 28) = W := ⟨_, rfl⟩
  have T := two_blocks w (.slice ao L c) (.int .i64 (d.writes : Int)) (.bool d.armed) (.bool d.dead) (.int .i64 (d.after : Int)) (.int .i64 (d.keep : Int)) (.slice none 0 0) (.int .i64 0) (.bool false) (.bool false) (.int .i64 0) (.int .i64 0)
  rw [hW] at T
  have B0 : Below w.heap.size w W := by rw [← hW]; exact bz2 _ _ _
  obtain ⟨x0, x1, x2, x3, x4, x5⟩ := T.1.cells
  have H : Hid (Below w.heap.size w W ∧ Six W w.heap.size (.slice ao L c) (.int .i64 (d.writes : Int)) (.bool d.armed) (.bool d.dead) (.int .i64 (d.after : Int)) (.int .i64 (d.keep : Int)) ∧ Six W (w.heap.size + 1) (.slice none 0 0) (.int .i64 0) (.bool false) (.bool false) (.int .i64 0) (.int .i64 0) ∧ RdG encF w ao d.files ∧ d.files.length = L) := ⟨B0, T.1, T.2, hR, hL⟩
  have hat := at_some (c := c) d n W (hR.below B0) hL hl hf
  have hdata := fun (W' : World) (hB : Below W.heap.size W W') => data_some (c := c) d n W' ((hR.below B0).below hB) hL hl hf
  have q1 : decide ((z : Int) < 0) = false := by rw [decide_eq_false_iff_not]; omega
  have q2 : decide (((v.length : Nat) : Int) ≤ (z : Int)) = false := by rw [decide_eq_false_iff_not]; omega
  have q3 : decide (v.length ≤ z) = false := by rw [decide_eq_false_iff_not]; omega
  obtain ⟨y, hy⟩ : ∃ y, v.getD z 0 = y := ⟨_, rfl⟩
  have hvz : v[z]? = some y := by rw [← hy]; simp [List.getD, List.getElem?_eq_getElem hz]
  have hxb := xor_byte y x
  rw [hy]
  obtain ⟨v2, hv2⟩ : ∃ v2, v.set z (y ^^^ x) = v2 := ⟨_, rfl⟩
  rw [hv2]
  have hwi : ∀ W', RdG encF W' ao d.files → Calls Try.prog 48 #[.slice ao L c, .agg #[tx n, tx v2]] W' fun e w' => ∃ u, e = .returned u ∧ OwnG encF 70 w' W'.heap.size u (fwith d.files n v2) ∧ Below W'.heap.size W' w' := fun W' hR' => with_any (c := c) d.files n v2 W' hR' hL hl hr
  have HWI : Hid _ := hwi
  clear hwi
  have HS : Hid ((∀ i, S i → i < w.heap.size) ∧ FRise d.files ∧ v[z]? = some y ∧ v.set z (y ^^^ x) = v2 ∧ z < v.length ∧ v.length ≤ 262144) := ⟨hS, hr, hvz, hv2, hz, hvl⟩
  clear hR hL hf T B0 hS hr hy hv2 hvz
  go_enter Try.func33, Try.ntmps33
  go_wp2_with fail
  refine hat.mono ?_
  rintro e w1 ⟨i, rfl, hi, hx, B1⟩
  have i0 : decide ((i : Int) < 0) = false := by rw [decide_eq_false_iff_not]; omega
  clear x0 x1 x2 x3 x4 x5
  obtain ⟨x0, x1, x2, x3, x4, x5⟩ := (H.out.2.1.below B1).cells
  have HB1 : Hid (Below W.heap.size W w1) := B1
  clear B1 hat
  go_wp2_with fail
  refine (hdata w1 HB1.out).mono ?_
  rintro e w1' ⟨rfl, B1'⟩
  have HB1' : Hid (Below W.heap.size W w1') := HB1.out.trans (B1'.mono HB1.out.size)
  clear x0 x1 x2 x3 x4 x5
  obtain ⟨x0, x1, x2, x3, x4, x5⟩ := (H.out.2.1.below HB1'.out).cells
  clear B1' HB1 hdata
  obtain ⟨W4, c4, hcv, b4, s4, R4⟩ := bytes_of w1' v
  have HB4 : Hid (Below w1'.heap.size w1' W4 ∧ W4.heap.size = w1'.heap.size + 1 ∧ Raw W4 w1'.heap.size v ∧ v.length ≤ c4 ∧ c4 ≤ 9223372036854775807) := ⟨b4, s4, R4.1, R4.2.1, R4.2.2 (by have := HS.out.2.2.2.2.2; simp only [maxLen]; omega)⟩
  obtain ⟨g, hg⟩ : ∃ g, w1'.heap.size = g := ⟨_, rfl⟩
  have hgW : W.heap.size ≤ g := by rw [← hg]; exact HB1'.out.size
  rw [hg] at hcv HB4
  have z0 := HB4.out.2.2.1.cell z y HS.out.2.2.1
  have z1 := HB4.out.2.2.1.thaw z HS.out.2.2.2.2.1
  have iz : (0 : Int) ≤ (z : Int) := by omega
  have iz2 : (z : Int) < ((v.length : Nat) : Int) := by omega
  clear b4 s4 R4
  have BW4 : Hid (Below W.heap.size W W4) := HB1'.out.trans (by rw [← hg] at HB4; exact HB4.out.1.mono HB1'.out.size)
  have sW : W.heap.size = w.heap.size + 2 := by rw [← hW]; simp
  have hne : g ≠ w.heap.size := by omega
  have hne' : w.heap.size ≠ g := by omega
  obtain ⟨W5, hW5⟩ : ∃ W5, W4.setCell ⟨g, z, none⟩ (.int .u8 (((y.toNat ^^^ x.toNat : Nat)) : Int)) = W5 := ⟨_, rfl⟩
  have R5 : Raw W5 g v2 := by
    rw [← hW5, ← HS.out.2.2.2.1, ← UInt8.toNat_xor]
    exact HB4.out.2.2.1.put HS.out.2.2.2.2.1 (y ^^^ x)
  have t5 : Turned (fun i => i = g) W4 W5 := by rw [← hW5]; exact turned_set _ _
  have B5 : Below W.heap.size W W5 := BW4.out.trans (t5.below BW4.out.size (fun i hi q => by omega))
  have l2 : v2.length = v.length := by rw [← HS.out.2.2.2.1]; simp
  have hcs := conv_str (R5.at (c := c4) (by rw [l2]; exact HB4.out.2.2.2.1) HB4.out.2.2.2.2)
  rw [l2] at hcs
  have X5 := H.out.2.1.below B5
  have HB5 : Hid (Below W.heap.size W W5) := B5
  clear x0 x1 x2 x3 x4 x5
  obtain ⟨x0, x1, x2, x3, x4, x5⟩ := X5.cells
  clear R5 t5 B5 l2 X5
  go_wp2_with fail
  refine (HWI.out W5 ((H.out.2.2.2.1.below H.out.1).below HB5.out)).mono ?_
  rintro e w3 ⟨v3, rfl, O3, B3⟩
  obtain ⟨a3, c3, rfl, hc3, R3, F3⟩ := own_files O3
  have Y := (H.out.2.2.1.below HB5.out).below B3
  obtain ⟨y0, y1, y2, y3, y4, y5⟩ := Y.cells
  obtain ⟨f0, f1, f2, f3, f4, f5⟩ := Y.thaw
  have Z3 := (H.out.2.1.below HB5.out).below B3
  obtain ⟨u0, u1, u2, u3, u4, u5⟩ := Z3.cells
  have g0 := Z3.thaw.1
  obtain ⟨M, hM⟩ : ∃ M, (fwith d.files n v2).length = M := ⟨_, rfl⟩
  have HB3 : Hid (M ≤ c3 ∧ RdG encF w3 a3 (fwith d.files n v2) ∧ (0 < M → ∀ p, a3 = some p → w.heap.size + 1 < p.block) ∧ Below w.heap.size w w3) := ⟨by rw [← hM]; exact hc3, R3, fun h0 p hp => by have := F3 (by rw [hM]; exact h0) p hp; have := HB5.out.size; omega, by
    have b1 := H.out.1.trans (HB5.out.mono H.out.1.size)
    exact b1.trans (B3.mono b1.size)⟩
  rw [hM]
  clear B3 O3 hc3 R3 F3 Y Z3
  go_wp2
  have CL := close_at HB3.out.2.2.2 (b1 := w.heap.size) (b2 := w.heap.size + 1) (by omega) (by omega) (.slice a3 M c3) (.slice a3 M c3) (.int .i64 (d.writes : Int)) (.bool d.armed) (.bool d.dead) (.int .i64 (d.after : Int)) (.int .i64 (d.keep : Int))
  have RR : RVS S _ (rv a3 M c3 { d with files := fwith d.files n v2 }) { d with files := fwith d.files n v2 } :=
    ⟨a3, M, c3, rfl, hM, HB3.out.1, HB3.out.2.1.turned CL.2 (fun h0 p hp q => by have := HB3.out.2.2.1 (by rw [← hM]; exact h0) p hp; omega), fun h0 p hp q => by have := HB3.out.2.2.1 h0 p hp; have := HS.out.1 _ q; omega⟩
  refine bodyPost_ret (v := .tuple #[rv a3 M c3 { d with files := fwith d.files n v2 }, .int .i64 0]) ?_ rfl ⟨_, rfl, RR, CL.1⟩
  simp [results, Try.f33]
  go_simp

/-- The reference's Spoil. -/
theorem rspoil_any (hS : ∀ i, S i → i < w.heap.size) {v : Value} (h : RVS S w v d) (hk : d.ok) (n : Bs) (z : Int) (x : UInt8) :
    Calls Try.prog 33 #[v, tx n, .int .i64 z, .int .u8 (x.toNat : Int)] w fun e w' => ∃ v', e = .returned (.tuple #[v', .int .i64 (dspoil d n z x).2]) ∧ RVS S w' v' (dspoil d n z x).1 ∧ Below w.heap.size w w' := by
  obtain ⟨ao, L, c, rfl, hL, hc, hR, hF⟩ := h
  have same : ∀ {w' : World}, Below w.heap.size w w' → RVS S w' (rv ao L c d) d := fun hb => ⟨ao, L, c, rfl, hL, hc, hR.below hb, hF⟩
  have hl : L ≤ 1000 := by have := hk.few; omega
  unfold dspoil
  cases e : fget d.files n with
  | none =>
    refine (rspoil_none hR hL hl n z x e).mono ?_
    rintro e w' ⟨rfl, hb⟩
    exact ⟨_, rfl, same hb, hb⟩
  | some s =>
    by_cases hz : z < 0 ∨ (s.length : Int) ≤ z
    · simp only [hz, if_true]
      by_cases h0 : z < 0
      · refine (rspoil_low hR hL hl n z x e h0).mono ?_
        rintro e w' ⟨rfl, hb⟩
        exact ⟨_, rfl, same hb, hb⟩
      · refine (rspoil_high hR hL hl n z x e (by omega) (hz.elim (fun q => absurd q h0) id)).mono ?_
        rintro e w' ⟨rfl, hb⟩
        exact ⟨_, rfl, same hb, hb⟩
    · obtain ⟨q, rfl⟩ : ∃ q : Nat, z = (q : Int) := ⟨z.toNat, by omega⟩
      simp only [hz, if_false, Int.toNat_natCast]
      exact rspoil_done hS hR hL hl hk.rise n q x e (by omega) (hk.get e)

end
end Go.Proofs.Ytlhlipjbcapidaa
