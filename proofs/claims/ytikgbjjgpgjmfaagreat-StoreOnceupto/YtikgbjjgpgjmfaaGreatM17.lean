/-
  Several texts, laid together.
-/
import Derived.Test.YtikgbjjgpgjmfaaGreatM16
import Derived.Test.YtikgbjjgpgjmfaaGreatM15
import Derived.Test.YtikgbjjgpgjmfaaGreatM07
import Derived.Test.YtikgbjjgpgjmfaaGreatM08
import Derived.Test.YtikgbjjgpgjmfaaGreatM10

/-
  The reference's Rename, by a contract over the document's disk. No condition but that what is handed in is no longer than any memory holds.
-/
namespace Go.Proofs.YtikgbjjgpgjmfaaGreat
open Go.RowKit

section
variable {S : Nat → Prop} {ao : Option Addr} {L c : Nat} {d : Dk} {w : World}

end

end Go.Proofs.YtikgbjjgpgjmfaaGreat

/-
  The reference's Trim, by a contract over the document's disk. No condition but that what is handed in is no longer than any memory holds.
-/
namespace Go.Proofs.YtikgbjjgpgjmfaaGreat
open Go.RowKit

section
variable {S : Nat → Prop} {ao : Option Addr} {L c : Nat} {d : Dk} {w : World}

set_option maxHeartbeats 1600000 in
set_option maxRecDepth 100000 in
theorem rtrim_bad (n : Bs) (z : Int) (hn : isName n = false) (hnl : n.length ≤ 140737488355328) :
    Calls Tryz.prog 79 #[rv ao L c d, tx n, .int .i64 z] w fun e w' => e = .returned (.tuple #[rv ao L c d, .int .i64 2]) ∧ Below w.heap.size w w' := by
  have hnmn := fun W => rname_any ⟨n.toArray⟩ (by rw [str_size]; omega) W
  rw [show (⟨n.toArray⟩ : ByteArray).data.toList = n from rfl, hn] at hnmn
  unfold rv
  go_enter Tryz.func79, Tryz.ntmps79
  go_wp2_with fail
  refine (hnmn _).mono ?_
  rintro e w1 ⟨rfl, hw1⟩
  rw [hw1]
  clear hw1 w1 hnmn
  go_wp2
  refine bodyPost_ret (v := .tuple #[.agg #[.slice ao L c, .int .i64 (d.writes : Int), .bool d.armed, .bool d.dead, .int .i64 (d.after : Int), .int .i64 (d.keep : Int)], .int .i64 2]) ?_ rfl ⟨rfl, bz2 _ _ _⟩
  simp [results, Tryz.f79]
  go_simp

set_option maxHeartbeats 1600000 in
set_option maxRecDepth 100000 in
theorem rtrim_none (hR : RdG encF w ao d.files) (hL : d.files.length = L) (hl : L ≤ 1000) (n : Bs) (z : Int) (hn : isName n = true) (hnl : n.length ≤ 140737488355328) (hf : fget d.files n = none) :
    Calls Tryz.prog 79 #[rv ao L c d, tx n, .int .i64 z] w fun e w' => e = .returned (.tuple #[rv ao L c d, .int .i64 5]) ∧ Below w.heap.size w w' := by
  have hnmn := fun W => rname_any ⟨n.toArray⟩ (by rw [str_size]; omega) W
  rw [show (⟨n.toArray⟩ : ByteArray).data.toList = n from rfl, hn] at hnmn
  obtain ⟨W, hW⟩ : ∃ W, (w.alloc (.cells #[.slice ao L c, .int .i64 (d.writes : Int), .bool d.armed, .bool d.dead, .int .i64 (d.after : Int), .int .i64 (d.keep : Int)] 28)).alloc (.cells #[.slice none 0 0, .int .i64 0, .bool false, .bool false, .int .i64 0, .int .i64 0] 28) = W := ⟨_, rfl⟩
  have T := two_blocks w (.slice ao L c) (.int .i64 (d.writes : Int)) (.bool d.armed) (.bool d.dead) (.int .i64 (d.after : Int)) (.int .i64 (d.keep : Int)) (.slice none 0 0) (.int .i64 0) (.bool false) (.bool false) (.int .i64 0) (.int .i64 0)
  rw [hW] at T
  have B0 : Below w.heap.size w W := by rw [← hW]; exact bz2 _ _ _
  obtain ⟨x0, x1, x2, x3, x4, x5⟩ := T.1.cells
  have H : Hid (Below w.heap.size w W ∧ Six W w.heap.size (.slice ao L c) (.int .i64 (d.writes : Int)) (.bool d.armed) (.bool d.dead) (.int .i64 (d.after : Int)) (.int .i64 (d.keep : Int)) ∧ Six W (w.heap.size + 1) (.slice none 0 0) (.int .i64 0) (.bool false) (.bool false) (.int .i64 0) (.int .i64 0) ∧ RdG encF w ao d.files ∧ d.files.length = L) := ⟨B0, T.1, T.2, hR, hL⟩
  have hat := at_none (c := c) d n W (hR.below B0) hL hl hf
  clear hR hL hf T B0
  go_enter Tryz.func79, Tryz.ntmps79
  go_wp2_with fail
  refine (hnmn _).mono ?_
  rintro e w1 ⟨rfl, hw1⟩
  rw [hw1]
  clear hw1 w1 hnmn
  go_wp2_with fail
  refine hat.mono ?_
  rintro e w1 ⟨rfl, B1⟩
  clear x0 x1 x2 x3 x4 x5
  obtain ⟨x0, x1, x2, x3, x4, x5⟩ := (H.out.2.1.below B1).cells
  obtain ⟨y0, y1, y2, y3, y4, y5⟩ := (H.out.2.2.1.below B1).cells
  obtain ⟨f0, f1, f2, f3, f4, f5⟩ := (H.out.2.2.1.below B1).thaw
  have BB : Hid (Below w.heap.size w w1) := H.out.1.trans (B1.mono H.out.1.size)
  clear B1 hat
  go_wp2
  refine bodyPost_ret (v := .tuple #[rv ao L c d, .int .i64 5]) ?_ rfl ⟨rfl, close_one BB.out (by omega) _ _ _ _ _ _⟩
  simp [results, Tryz.f79]
  go_simp

set_option maxHeartbeats 1600000 in
set_option maxRecDepth 100000 in
theorem rtrim_low (hR : RdG encF w ao d.files) (hL : d.files.length = L) (hl : L ≤ 1000) (n : Bs) (z : Int) (hn : isName n = true) (hnl : n.length ≤ 140737488355328) {v : Bs} (hf : fget d.files n = some v) (hz : z < 0) :
    Calls Tryz.prog 79 #[rv ao L c d, tx n, .int .i64 z] w fun e w' => e = .returned (.tuple #[rv ao L c d, .int .i64 3]) ∧ Below w.heap.size w w' := by
  have hnmn := fun W => rname_any ⟨n.toArray⟩ (by rw [str_size]; omega) W
  rw [show (⟨n.toArray⟩ : ByteArray).data.toList = n from rfl, hn] at hnmn
  have q1 : decide (z < 0) = true := by simpa using hz
  obtain ⟨W, hW⟩ : ∃ W, (w.alloc (.cells #[.slice ao L c, .int .i64 (d.writes : Int), .bool d.armed, .bool d.dead, .int .i64 (d.after : Int), .int .i64 (d.keep : Int)] 28)).alloc (.cells #[.slice none 0 0, .int .i64 0, .bool false, .bool false, .int .i64 0, .int .i64 0] 28) = W := ⟨_, rfl⟩
  have T := two_blocks w (.slice ao L c) (.int .i64 (d.writes : Int)) (.bool d.armed) (.bool d.dead) (.int .i64 (d.after : Int)) (.int .i64 (d.keep : Int)) (.slice none 0 0) (.int .i64 0) (.bool false) (.bool false) (.int .i64 0) (.int .i64 0)
  rw [hW] at T
  have B0 : Below w.heap.size w W := by rw [← hW]; exact bz2 _ _ _
  obtain ⟨x0, x1, x2, x3, x4, x5⟩ := T.1.cells
  have H : Hid (Below w.heap.size w W ∧ Six W w.heap.size (.slice ao L c) (.int .i64 (d.writes : Int)) (.bool d.armed) (.bool d.dead) (.int .i64 (d.after : Int)) (.int .i64 (d.keep : Int)) ∧ Six W (w.heap.size + 1) (.slice none 0 0) (.int .i64 0) (.bool false) (.bool false) (.int .i64 0) (.int .i64 0) ∧ RdG encF w ao d.files ∧ d.files.length = L) := ⟨B0, T.1, T.2, hR, hL⟩
  have hat := at_some (c := c) d n W (hR.below B0) hL hl hf
  have hdata := fun (W' : World) (hB : Below W.heap.size W W') => data_some (c := c) d n W' ((hR.below B0).below hB) hL hl hf
  clear hR hL hf T B0
  go_enter Tryz.func79, Tryz.ntmps79
  go_wp2_with fail
  refine (hnmn _).mono ?_
  rintro e w1 ⟨rfl, hw1⟩
  rw [hw1]
  clear hw1 w1 hnmn
  go_wp2_with fail
  refine hat.mono ?_
  rintro e w1 ⟨i, rfl, hi, hx, B1⟩
  have i0 : decide ((i : Int) < 0) = false := by rw [decide_eq_false_iff_not]; omega
  clear x0 x1 x2 x3 x4 x5
  obtain ⟨x0, x1, x2, x3, x4, x5⟩ := (H.out.2.1.below B1).cells
  have HB1 : Hid (Below W.heap.size W w1) := B1
  clear B1 hat
  go_wp2_with fail
  refine (hdata w1 HB1.out).mono ?_
  rintro e w1' ⟨rfl, B1'⟩
  have HB1' : Hid (Below W.heap.size W w1') := HB1.out.trans (B1'.mono HB1.out.size)
  clear x0 x1 x2 x3 x4 x5
  obtain ⟨x0, x1, x2, x3, x4, x5⟩ := (H.out.2.1.below HB1'.out).cells
  clear B1' HB1 hdata
  obtain ⟨y0, y1, y2, y3, y4, y5⟩ := (H.out.2.2.1.below HB1'.out).cells
  obtain ⟨f0, f1, f2, f3, f4, f5⟩ := (H.out.2.2.1.below HB1'.out).thaw
  have BB : Hid (Below w.heap.size w w1') := H.out.1.trans (HB1'.out.mono H.out.1.size)
  go_wp2
  refine bodyPost_ret (v := .tuple #[rv ao L c d, .int .i64 3]) ?_ rfl ⟨rfl, close_one BB.out (by omega) _ _ _ _ _ _⟩
  simp [results, Tryz.f79]
  go_simp

set_option maxHeartbeats 1600000 in
set_option maxRecDepth 100000 in
theorem rtrim_high (hR : RdG encF w ao d.files) (hL : d.files.length = L) (hl : L ≤ 1000) (n : Bs) (z : Int) (hn : isName n = true) (hnl : n.length ≤ 140737488355328) {v : Bs} (hf : fget d.files n = some v) (h0 : 0 ≤ z) (hz : (v.length : Int) < z) :
    Calls Tryz.prog 79 #[rv ao L c d, tx n, .int .i64 z] w fun e w' => e = .returned (.tuple #[rv ao L c d, .int .i64 3]) ∧ Below w.heap.size w w' := by
  have hnmn := fun W => rname_any ⟨n.toArray⟩ (by rw [str_size]; omega) W
  rw [show (⟨n.toArray⟩ : ByteArray).data.toList = n from rfl, hn] at hnmn
  have q1 : decide (z < 0) = false := by simpa using h0
  have q2 : decide (((v.length : Nat) : Int) < z) = true := by simpa using hz
  obtain ⟨W, hW⟩ : ∃ W, (w.alloc (.cells #[.slice ao L c, .int .i64 (d.writes : Int), .bool d.armed, .bool d.dead, .int .i64 (d.after : Int), .int .i64 (d.keep : Int)] 28)).alloc (.cells #[.slice none 0 0, .int .i64 0, .bool false, .bool false, .int .i64 0, .int .i64 0] 28) = W := ⟨_, rfl⟩
  have T := two_blocks w (.slice ao L c) (.int .i64 (d.writes : Int)) (.bool d.armed) (.bool d.dead) (.int .i64 (d.after : Int)) (.int .i64 (d.keep : Int)) (.slice none 0 0) (.int .i64 0) (.bool false) (.bool false) (.int .i64 0) (.int .i64 0)
  rw [hW] at T
  have B0 : Below w.heap.size w W := by rw [← hW]; exact bz2 _ _ _
  obtain ⟨x0, x1, x2, x3, x4, x5⟩ := T.1.cells
  have H : Hid (Below w.heap.size w W ∧ Six W w.heap.size (.slice ao L c) (.int .i64 (d.writes : Int)) (.bool d.armed) (.bool d.dead) (.int .i64 (d.after : Int)) (.int .i64 (d.keep : Int)) ∧ Six W (w.heap.size + 1) (.slice none 0 0) (.int .i64 0) (.bool false) (.bool false) (.int .i64 0) (.int .i64 0) ∧ RdG encF w ao d.files ∧ d.files.length = L) := ⟨B0, T.1, T.2, hR, hL⟩
  have hat := at_some (c := c) d n W (hR.below B0) hL hl hf
  have hdata := fun (W' : World) (hB : Below W.heap.size W W') => data_some (c := c) d n W' ((hR.below B0).below hB) hL hl hf
  clear hR hL hf T B0
  go_enter Tryz.func79, Tryz.ntmps79
  go_wp2_with fail
  refine (hnmn _).mono ?_
  rintro e w1 ⟨rfl, hw1⟩
  rw [hw1]
  clear hw1 w1 hnmn
  go_wp2_with fail
  refine hat.mono ?_
  rintro e w1 ⟨i, rfl, hi, hx, B1⟩
  have i0 : decide ((i : Int) < 0) = false := by rw [decide_eq_false_iff_not]; omega
  clear x0 x1 x2 x3 x4 x5
  obtain ⟨x0, x1, x2, x3, x4, x5⟩ := (H.out.2.1.below B1).cells
  have HB1 : Hid (Below W.heap.size W w1) := B1
  clear B1 hat
  go_wp2_with fail
  refine (hdata w1 HB1.out).mono ?_
  rintro e w1' ⟨rfl, B1'⟩
  have HB1' : Hid (Below W.heap.size W w1') := HB1.out.trans (B1'.mono HB1.out.size)
  clear x0 x1 x2 x3 x4 x5
  obtain ⟨x0, x1, x2, x3, x4, x5⟩ := (H.out.2.1.below HB1'.out).cells
  clear B1' HB1 hdata
  obtain ⟨y0, y1, y2, y3, y4, y5⟩ := (H.out.2.2.1.below HB1'.out).cells
  obtain ⟨f0, f1, f2, f3, f4, f5⟩ := (H.out.2.2.1.below HB1'.out).thaw
  have BB : Hid (Below w.heap.size w w1') := H.out.1.trans (HB1'.out.mono H.out.1.size)
  go_wp2
  refine bodyPost_ret (v := .tuple #[rv ao L c d, .int .i64 3]) ?_ rfl ⟨rfl, close_one BB.out (by omega) _ _ _ _ _ _⟩
  simp [results, Tryz.f79]
  go_simp

set_option maxHeartbeats 1600000 in
set_option maxRecDepth 100000 in
theorem rtrim_off (hR : RdG encF w ao d.files) (hL : d.files.length = L) (hl : L ≤ 1000) (n : Bs) (z : Int) (hn : isName n = true) (hnl : n.length ≤ 140737488355328) {v : Bs} (hf : fget d.files n = some v) (h0 : 0 ≤ z) (hz : z ≤ (v.length : Int)) (hb : d.after < 9223372036854775808) (hw : d.writes < 4611686018427387904) (hdo : (dnext d).2.1 = false) :
    Calls Tryz.prog 79 #[rv ao L c d, tx n, .int .i64 z] w fun e w' => e = .returned (.tuple #[rv ao L c (dnext d).1, .int .i64 8]) ∧ Below w.heap.size w w' := by
  have hnmn := fun W => rname_any ⟨n.toArray⟩ (by rw [str_size]; omega) W
  rw [show (⟨n.toArray⟩ : ByteArray).data.toList = n from rfl, hn] at hnmn
  obtain ⟨W, hW⟩ : ∃ W, (w.alloc (.cells #[.slice ao L c, .int .i64 (d.writes : Int), .bool d.armed, .bool d.dead, .int .i64 (d.after : Int), .int .i64 (d.keep : Int)] 28)).alloc (.cells #[.slice none 0 0, .int .i64 0, .bool false, .bool false, .int .i64 0, .int .i64 0] 28) = W := ⟨_, rfl⟩
  have T := two_blocks w (.slice ao L c) (.int .i64 (d.writes : Int)) (.bool d.armed) (.bool d.dead) (.int .i64 (d.after : Int)) (.int .i64 (d.keep : Int)) (.slice none 0 0) (.int .i64 0) (.bool false) (.bool false) (.int .i64 0) (.int .i64 0)
  rw [hW] at T
  have B0 : Below w.heap.size w W := by rw [← hW]; exact bz2 _ _ _
  obtain ⟨x0, x1, x2, x3, x4, x5⟩ := T.1.cells
  have H : Hid (Below w.heap.size w W ∧ Six W w.heap.size (.slice ao L c) (.int .i64 (d.writes : Int)) (.bool d.armed) (.bool d.dead) (.int .i64 (d.after : Int)) (.int .i64 (d.keep : Int)) ∧ Six W (w.heap.size + 1) (.slice none 0 0) (.int .i64 0) (.bool false) (.bool false) (.int .i64 0) (.int .i64 0) ∧ RdG encF w ao d.files ∧ d.files.length = L) := ⟨B0, T.1, T.2, hR, hL⟩
  have q1 : decide (z < 0) = false := by simpa using h0
  have q2 : decide (((v.length : Nat) : Int) < z) = false := by rw [decide_eq_false_iff_not]; omega
  have hat := at_some (c := c) d n W (hR.below B0) hL hl hf
  have hdata := fun (W' : World) (hB : Below W.heap.size W W') => data_some (c := c) d n W' ((hR.below B0).below hB) hL hl hf
  have hnx := fun w1 => rnext_any (ao := ao) (L := L) (c := c) (d := d) (w := w1) hb hw
  obtain ⟨D, hD⟩ : ∃ D, (dnext d).1 = D := ⟨_, rfl⟩
  obtain ⟨tt, htt⟩ : ∃ tt, (dnext d).2.2 = tt := ⟨_, rfl⟩
  rw [hdo, hD, htt] at hnx
  rw [hD]
  clear hR hL hf T B0 hdo hD htt
  go_enter Tryz.func79, Tryz.ntmps79
  go_wp2_with fail
  refine (hnmn _).mono ?_
  rintro e w1 ⟨rfl, hw1⟩
  rw [hw1]
  clear hw1 w1 hnmn
  go_wp2_with fail
  refine hat.mono ?_
  rintro e w1 ⟨i, rfl, hi, hx, B1⟩
  have i0 : decide ((i : Int) < 0) = false := by rw [decide_eq_false_iff_not]; omega
  clear x0 x1 x2 x3 x4 x5
  obtain ⟨x0, x1, x2, x3, x4, x5⟩ := (H.out.2.1.below B1).cells
  have HB1 : Hid (Below W.heap.size W w1) := B1
  clear B1 hat
  go_wp2_with fail
  refine (hdata w1 HB1.out).mono ?_
  rintro e w1' ⟨rfl, B1'⟩
  have HB1' : Hid (Below W.heap.size W w1') := HB1.out.trans (B1'.mono HB1.out.size)
  clear x0 x1 x2 x3 x4 x5
  obtain ⟨x0, x1, x2, x3, x4, x5⟩ := (H.out.2.1.below HB1'.out).cells
  clear B1' HB1 hdata
  go_wp2_with fail
  refine (hnx w1').mono ?_
  rintro e w2 ⟨rfl, B2⟩
  have Y := (H.out.2.2.1.below HB1'.out).below B2
  obtain ⟨y0, y1, y2, y3, y4, y5⟩ := Y.cells
  obtain ⟨f0, f1, f2, f3, f4, f5⟩ := Y.thaw
  have s2 : w.heap.size + 1 < w2.heap.size := Y.lt
  have ne : w2.heap.size ≠ w.heap.size + 1 := by omega
  have ne' : w.heap.size + 1 ≠ w2.heap.size := by omega
  have BB : Hid (Below w.heap.size w w2) := by
    have b1 := H.out.1.trans (HB1'.out.mono H.out.1.size)
    exact b1.trans (B2.mono b1.size)
  clear B2 Y
  go_wp2
  have CL := close_one BB.out (b2 := w.heap.size + 1) (by omega) (.slice ao L c) (.int .i64 (D.writes : Int)) (.bool D.armed) (.bool D.dead) (.int .i64 (D.after : Int)) (.int .i64 (D.keep : Int))
  refine bodyPost_ret (v := .tuple #[rv ao L c D, .int .i64 8]) ?_ rfl ⟨rfl, CL.trans ((bz1 _ _).mono CL.size)⟩
  simp [results, Tryz.f79]
  go_simp

set_option maxHeartbeats 3200000 in
set_option maxRecDepth 100000 in
theorem rtrim_done (hS : ∀ i, S i → i < w.heap.size) (hR : RdG encF w ao d.files) (hL : d.files.length = L) (hl : L ≤ 1000) (hr : FRise d.files) (n : Bs) (z : Nat) (hn : isName n = true) (hnl : n.length ≤ 140737488355328) {v : Bs} (hf : fget d.files n = some v) (hz : z ≤ v.length) (hb : d.after < 9223372036854775808) (hw : d.writes < 4611686018427387904) (hdo : (dnext d).2.1 = true) :
    Calls Tryz.prog 79 #[rv ao L c d, tx n, .int .i64 (z : Int)] w fun e w' => ∃ v', e = .returned (.tuple #[v', .int .i64 0]) ∧ RVS S w' v' { (dnext d).1 with files := fwith d.files n (v.take z) } ∧ Below w.heap.size w w' := by
  have hnmn := fun W => rname_any ⟨n.toArray⟩ (by rw [str_size]; omega) W
  rw [show (⟨n.toArray⟩ : ByteArray).data.toList = n from rfl, hn] at hnmn
  obtain ⟨W, hW⟩ : ∃ W, (w.alloc (.cells #[.slice ao L c, .int .i64 (d.writes : Int), .bool d.armed, .bool d.dead, .int .i64 (d.after : Int), .int .i64 (d.keep : Int)] 28)).alloc (.cells #[.slice none 0 0, .int .i64 0, .bool false, .bool false, .int .i64 0, .int .i64 0] 28) = W := ⟨_, rfl⟩
  have T := two_blocks w (.slice ao L c) (.int .i64 (d.writes : Int)) (.bool d.armed) (.bool d.dead) (.int .i64 (d.after : Int)) (.int .i64 (d.keep : Int)) (.slice none 0 0) (.int .i64 0) (.bool false) (.bool false) (.int .i64 0) (.int .i64 0)
  rw [hW] at T
  have B0 : Below w.heap.size w W := by rw [← hW]; exact bz2 _ _ _
  obtain ⟨x0, x1, x2, x3, x4, x5⟩ := T.1.cells
  have H : Hid (Below w.heap.size w W ∧ Six W w.heap.size (.slice ao L c) (.int .i64 (d.writes : Int)) (.bool d.armed) (.bool d.dead) (.int .i64 (d.after : Int)) (.int .i64 (d.keep : Int)) ∧ Six W (w.heap.size + 1) (.slice none 0 0) (.int .i64 0) (.bool false) (.bool false) (.int .i64 0) (.int .i64 0) ∧ RdG encF w ao d.files ∧ d.files.length = L) := ⟨B0, T.1, T.2, hR, hL⟩
  have hat := at_some (c := c) d n W (hR.below B0) hL hl hf
  have hdata := fun (W' : World) (hB : Below W.heap.size W W') => data_some (c := c) d n W' ((hR.below B0).below hB) hL hl hf
  have q1 : decide ((z : Int) < 0) = false := by rw [decide_eq_false_iff_not]; omega
  have q2 : decide (((v.length : Nat) : Int) < (z : Int)) = false := by rw [decide_eq_false_iff_not]; omega
  have hwi : ∀ W', RdG encF W' ao d.files → Calls Tryz.prog 130 #[.slice ao L c, .agg #[tx n, .string ((⟨v.toArray⟩ : ByteArray).extract 0 z)]] W' fun e w' => ∃ u, e = .returned u ∧ OwnG encF 107 w' W'.heap.size u (fwith d.files n (v.take z)) ∧ Below W'.heap.size W' w' := by
    intro W' hR'
    have := with_any (c := c) d.files n (v.take z) W' hR' hL hl hr
    rw [show tx (v.take z) = Value.string ((⟨v.toArray⟩ : ByteArray).extract 0 z) by rw [ext_take]] at this
    exact this
  have HWI : Hid _ := hwi
  clear hwi
  have hnx := fun w1 => rnext_any (ao := ao) (L := L) (c := c) (d := d) (w := w1) hb hw
  obtain ⟨D, hD⟩ : ∃ D, (dnext d).1 = D := ⟨_, rfl⟩
  obtain ⟨tt, htt⟩ : ∃ tt, (dnext d).2.2 = tt := ⟨_, rfl⟩
  rw [hdo, hD, htt] at hnx
  rw [hD]
  have HS : Hid ((∀ i, S i → i < w.heap.size) ∧ FRise d.files) := ⟨hS, hr⟩
  clear hR hL hf T B0 hdo hD htt hS hr
  go_enter Tryz.func79, Tryz.ntmps79
  go_wp2_with fail
  refine (hnmn _).mono ?_
  rintro e w1 ⟨rfl, hw1⟩
  rw [hw1]
  clear hw1 w1 hnmn
  go_wp2_with fail
  refine hat.mono ?_
  rintro e w1 ⟨i, rfl, hi, hx, B1⟩
  have i0 : decide ((i : Int) < 0) = false := by rw [decide_eq_false_iff_not]; omega
  clear x0 x1 x2 x3 x4 x5
  obtain ⟨x0, x1, x2, x3, x4, x5⟩ := (H.out.2.1.below B1).cells
  have HB1 : Hid (Below W.heap.size W w1) := B1
  clear B1 hat
  go_wp2_with fail
  refine (hdata w1 HB1.out).mono ?_
  rintro e w1' ⟨rfl, B1'⟩
  have HB1' : Hid (Below W.heap.size W w1') := HB1.out.trans (B1'.mono HB1.out.size)
  clear x0 x1 x2 x3 x4 x5
  obtain ⟨x0, x1, x2, x3, x4, x5⟩ := (H.out.2.1.below HB1'.out).cells
  clear B1' HB1 hdata
  go_wp2_with fail
  refine (hnx w1').mono ?_
  rintro e w2 ⟨rfl, B2⟩
  have HB2 : Hid (Below w1'.heap.size w1' w2) := B2
  clear B2
  obtain ⟨W2, hW2⟩ : ∃ W2, w2.alloc (.cells #[.slice ao L c, .int .i64 (D.writes : Int), .bool D.armed, .bool D.dead, .int .i64 (D.after : Int), .int .i64 (D.keep : Int)] 28) = W2 := ⟨_, rfl⟩
  have b2 : Below w2.heap.size w2 W2 := by rw [← hW2]; exact bz1 _ _
  have X2 : Six W2 w2.heap.size (.slice ao L c) (.int .i64 (D.writes : Int)) (.bool D.armed) (.bool D.dead) (.int .i64 (D.after : Int)) (.int .i64 (D.keep : Int)) := by rw [← hW2]; exact Six.new w2 _ _ _ _ _ _
  have RW : Hid (RdG encF W2 ao d.files ∧ Below w2.heap.size w2 W2 ∧ Six W2 w2.heap.size (.slice ao L c) (.int .i64 (D.writes : Int)) (.bool D.armed) (.bool D.dead) (.int .i64 (D.after : Int)) (.int .i64 (D.keep : Int)) ∧ W2.heap.size = w2.heap.size + 1) := ⟨(((H.out.2.2.2.1.below H.out.1).below HB1'.out).below HB2.out).below b2, b2, X2, by rw [← hW2]; simp⟩
  obtain ⟨u0, u1, u2, u3, u4, u5⟩ := X2.cells
  clear b2 X2
  have iz : (0 : Int) ≤ (z : Int) := by omega
  have iz2 : (z : Int) ≤ ((v.length : Nat) : Int) := by omega
  have s2 : w.heap.size + 1 < w2.heap.size := ((H.out.2.2.1.below HB1'.out).below HB2.out).lt
  have ne : w2.heap.size ≠ w.heap.size + 1 := by omega
  have ne' : w.heap.size + 1 ≠ w2.heap.size := by omega
  go_wp2_with fail
  go_region_with
    (first | (go_at_call 130; refine (HWI.out W2.drew RW.out.1).mono ?_; rintro e w3 ⟨v3, rfl, O3, B3d⟩; obtain ⟨a3, c3, rfl, hc3, R3, F3⟩ := own_files O3; have B3 := below_drew B3d; have Y := (((H.out.2.2.1.below HB1'.out).below HB2.out).below RW.out.2.1).below B3; obtain ⟨y0, y1, y2, y3, y4, y5⟩ := Y.cells; obtain ⟨f0, f1, f2, f3, f4, f5⟩ := Y.thaw; have Z3 := RW.out.2.2.1.below B3; obtain ⟨z0, z1, z2, z3, z4, z5⟩ := Z3.cells; have g0 := Z3.thaw.1; clear Y Z3))
  obtain ⟨M, hM⟩ : ∃ M, (fwith d.files n (v.take z)).length = M := ⟨_, rfl⟩
  have HB3 : Hid (M ≤ c3 ∧ RdG encF w3 a3 (fwith d.files n (v.take z)) ∧ (0 < M → ∀ p, a3 = some p → w2.heap.size < p.block) ∧ Below w.heap.size w w3) := ⟨by rw [← hM]; exact hc3, R3, fun h0 p hp => by have : W2.heap.size ≤ p.block := F3 (by rw [hM]; exact h0) p hp; have := RW.out.2.2.2; omega, by
    have b1 := H.out.1.trans (HB1'.out.mono H.out.1.size)
    have b2 := b1.trans (HB2.out.mono b1.size)
    have b3 := b2.trans (RW.out.2.1.mono b2.size)
    exact b3.trans (B3.mono b3.size)⟩
  rw [hM]
  clear B3 B3d O3 hc3 R3 F3
  go_wp2
  have CL := close_at HB3.out.2.2.2 (b1 := w2.heap.size) (b2 := w.heap.size + 1) (by omega) (by omega) (.slice a3 M c3) (.slice a3 M c3) (.int .i64 (D.writes : Int)) (.bool D.armed) (.bool D.dead) (.int .i64 (D.after : Int)) (.int .i64 (D.keep : Int))
  have RR : RVS S _ (rv a3 M c3 { D with files := fwith d.files n (v.take z) }) { D with files := fwith d.files n (v.take z) } := RVS.close HS.out.1 (by omega) hM HB3.out.1 HB3.out.2.1 HB3.out.2.2.1 (by omega) CL.2
  refine bodyPost_ret (v := .tuple #[rv a3 M c3 { D with files := fwith d.files n (v.take z) }, .int .i64 0]) ?_ rfl ⟨_, rfl, RR, CL.1⟩
  simp [results, Tryz.f79]
  go_simp

end

end Go.Proofs.YtikgbjjgpgjmfaaGreat

/-
  The reference's Remove, Rename and Trim, each by one contract over the document's disk. No condition but that what is handed in is no longer than any memory holds.
-/
namespace Go.Proofs.YtikgbjjgpgjmfaaGreat
open Go.RowKit

section
variable {S : Nat → Prop} {d : Dk} {w : World}

/-- A disk whose next raw write was asked for, its files as they were. -/
theorem RVS.next {w' : World} {ao : Option Addr} {L c : Nat} (hL : d.files.length = L) (hc : L ≤ c) (hR : RdG encF w ao d.files) (hF : 0 < L → ∀ p, ao = some p → ¬ S p.block) (hb : Below w.heap.size w w') : RVS S w' (rv ao L c (dnext d).1) (dnext d).1 :=
  ⟨ao, L, c, rfl, by rw [dnext_files]; exact hL, hc, by rw [dnext_files]; exact hR.below hb, hF⟩

/-- The reference's Trim. -/
theorem rtrim_any (hS : ∀ i, S i → i < w.heap.size) {v : Value} (h : RVS S w v d) (hk : d.ok) (hw : d.writes < 4611686018427387904) (n : Bs) (z : Int) (hnl : n.length ≤ 140737488355328) :
    Calls Tryz.prog 79 #[v, tx n, .int .i64 z] w fun e w' => ∃ v', e = .returned (.tuple #[v', .int .i64 (dtrim d n z).2]) ∧ RVS S w' v' (dtrim d n z).1 ∧ Below w.heap.size w w' := by
  obtain ⟨ao, L, c, rfl, hL, hc, hR, hF⟩ := h
  have same : ∀ {w' : World}, Below w.heap.size w w' → RVS S w' (rv ao L c d) d := fun hb => ⟨ao, L, c, rfl, hL, hc, hR.below hb, hF⟩
  have hl : L ≤ 1000 := by have := hk.few; omega
  unfold dtrim
  by_cases hn : isName n = false
  · rw [if_pos hn]
    refine (rtrim_bad n z hn hnl).mono ?_
    rintro e w' ⟨rfl, hb⟩
    exact ⟨_, rfl, same hb, hb⟩
  · rw [if_neg hn]
    have hn : isName n = true := by simpa using hn
    cases e : fget d.files n with
    | none =>
      refine (rtrim_none hR hL hl n z hn hnl e).mono ?_
      rintro e w' ⟨rfl, hb⟩
      exact ⟨_, rfl, same hb, hb⟩
    | some s =>
      by_cases hz : z < 0 ∨ (s.length : Int) < z
      · simp only [hz, if_true]
        by_cases h0 : z < 0
        · refine (rtrim_low hR hL hl n z hn hnl e h0).mono ?_
          rintro e w' ⟨rfl, hb⟩
          exact ⟨_, rfl, same hb, hb⟩
        · refine (rtrim_high hR hL hl n z hn hnl e (by omega) (hz.elim (fun q => absurd q h0) id)).mono ?_
          rintro e w' ⟨rfl, hb⟩
          exact ⟨_, rfl, same hb, hb⟩
      · obtain ⟨q, rfl⟩ : ∃ q : Nat, z = (q : Int) := ⟨z.toNat, by omega⟩
        by_cases hdo : (dnext d).2.1 = true
        · simp only [hz, hdo, if_true, if_false, Int.toNat_natCast]
          exact rtrim_done hS hR hL hl hk.rise n q hn hnl e (by omega) hk.after hw hdo
        · have hdo' : (dnext d).2.1 = false := by simpa using hdo
          simp only [hz, hdo', Bool.false_eq_true, if_false]
          refine (rtrim_off hR hL hl n q hn hnl e (by omega) (by omega) hk.after hw hdo').mono ?_
          rintro e w' ⟨rfl, hb⟩
          exact ⟨_, rfl, RVS.next hL hc hR hF hb, hb⟩

end

end Go.Proofs.YtikgbjjgpgjmfaaGreat

/-
  The reference's store as a value; its At, Has, blobs, above and Find, each by a contract. No condition but that lists are no longer than any memory holds.
-/
namespace Go.Proofs.YtikgbjjgpgjmfaaGreat
open Go.RowKit

/-- Objects: a number, an ID, a text. Names: a text, an ID. -/
def encO : Enc Ob := ⟨fun o => [.int .i64 o.kind, .int .u64 (o.id.toNat : Int), tx o.body], 3, fun _ => rfl, by decide, by intro x u h; simp at h; rcases h with rfl | rfl | rfl <;> rfl⟩
def encN : Enc (Nm UInt64) := ⟨fun f => [tx f.1, .int .u64 (f.2.toNat : Int)], 2, fun _ => rfl, by decide, by intro x u h; simp at h; rcases h with rfl | rfl <;> rfl⟩

theorem RdG.obs {w : World} {b off : Nat} {os : List Ob} (h : RdG encO w (some ⟨b, off, none⟩) os) {i : Nat} {o : Ob} (hx : os[i]? = some o) : b < w.heap.size ∧ w.cell? ⟨b, off + i * 3, none⟩ = some (.int .i64 o.kind) ∧ w.cell? ⟨b, off + i * 3 + 1, none⟩ = some (.int .u64 (o.id.toNat : Int)) ∧ w.cell? ⟨b, off + i * 3 + 2, none⟩ = some (tx o.body) := by
  obtain ⟨b', off', e, hlt, hc⟩ := h (by rcases Nat.lt_or_ge i os.length with q | q
                                         · omega
                                         · rw [List.getElem?_eq_none q] at hx; cases hx)
  obtain ⟨rfl, rfl⟩ : b = b' ∧ off = off' := by simpa using e
  have h0 := hc i o hx 0 _ rfl
  have h1 := hc i o hx 1 _ rfl
  have h2 := hc i o hx 2 _ rfl
  exact ⟨hlt, by simpa [encO] using h0, by simpa [encO, Nat.add_assoc] using h1, by simpa [encO, Nat.add_assoc] using h2⟩

theorem RdG.named {w : World} {b off : Nat} {ns : List (Nm UInt64)} (h : RdG encN w (some ⟨b, off, none⟩) ns) {i : Nat} {n : Bs} {x : UInt64} (hx : ns[i]? = some (n, x)) : b < w.heap.size ∧ w.cell? ⟨b, off + i * 2, none⟩ = some (tx n) ∧ w.cell? ⟨b, off + i * 2 + 1, none⟩ = some (.int .u64 (x.toNat : Int)) := by
  obtain ⟨b', off', e, hlt, hc⟩ := h (by rcases Nat.lt_or_ge i ns.length with q | q
                                         · omega
                                         · rw [List.getElem?_eq_none q] at hx; cases hx)
  obtain ⟨rfl, rfl⟩ : b = b' ∧ off = off' := by simpa using e
  have h0 := hc i (n, x) hx 0 _ rfl
  have h1 := hc i (n, x) hx 1 _ rfl
  exact ⟨hlt, by simpa [encN] using h0, by simpa [encN, Nat.add_assoc] using h1⟩

/-- A list that can be read, apart from blocks of Z. -/
structure LG {α : Type} (E : Enc α) (Z : Nat → Prop) (w : World) (a : Option Addr) (n c : Nat) (xs : List α) : Prop where
  len : xs.length = n
  cap : n ≤ c
  rd : RdG E w a xs
  far : 0 < n → ∀ p, a = some p → ¬ Z p.block

section
variable {α : Type} {E : Enc α} {Z Z' T : Nat → Prop} {w w' : World} {a : Option Addr} {n c : Nat} {xs : List α}
theorem LG.below (h : LG E Z w a n c xs) (hb : Below w.heap.size w w') : LG E Z w' a n c xs := ⟨h.len, h.cap, h.rd.below hb, h.far⟩
theorem LG.mono (h : LG E Z w a n c xs) (hz : ∀ i, Z' i → Z i) : LG E Z' w a n c xs := ⟨h.len, h.cap, h.rd, fun h0 p hp q => h.far h0 p hp (hz _ q)⟩
theorem LG.turned (h : LG E Z w a n c xs) (ht : Turned T w w') (hT : ∀ i, T i → Z i) : LG E Z w' a n c xs := ⟨h.len, h.cap, h.rd.turned ht (fun h0 p hp q => h.far (by rw [← h.len]; exact h0) p hp (hT _ q)), h.far⟩
/-- Apart from other blocks, all of which are new or were told of. -/
theorem LG.into (h : LG E Z w a n c xs) (hz : ∀ i, i < w.heap.size → Z' i → Z i) : LG E Z' w a n c xs := ⟨h.len, h.cap, h.rd, fun h0 p hp q => by
  obtain ⟨b, off, e, hlt, _⟩ := h.rd (by rw [h.len]; exact h0)
  rw [e] at hp
  cases hp
  exact h.far h0 _ e (hz _ hlt q)⟩
theorem LG.nil (E : Enc α) (Z : Nat → Prop) (w : World) : LG E Z w none 0 0 [] := ⟨rfl, Nat.le_refl _, RdG.nil _ _ _, fun h => absurd h (by omega)⟩
/-- A new list. -/
theorem LG.ofOwn {e : TypeId} {B : Nat} {v : Value} (h : OwnG E e w B v xs) (hZ : ∀ i, Z i → i < B) : ∃ a c, v = .slice a xs.length c ∧ LG E Z w a xs.length c xs := by
  obtain ⟨a, c, rfl, h1, h2, h3, h4⟩ := OwnG.form h
  refine ⟨a, c, rfl, rfl, h1, h3, fun h0 p hp q => ?_⟩
  obtain ⟨g, eg⟩ := h4 h0
  rw [hp] at eg
  cases eg
  have := (h.lt g (by rw [hp]; rfl)).1
  have := hZ _ q
  have e : ((⟨g, 0, none⟩ : Addr)).block = g := rfl
  omega
end

/-- Nine cells in a block of their own. -/
def Nine (w : World) (B : Nat) (a0 a1 a2 a3 a4 a5 a6 a7 a8 : Value) : Prop := w.heap[B]? = some (.cells #[a0, a1, a2, a3, a4, a5, a6, a7, a8] 32 (0, 0))
section
variable {w w' : World} {B : Nat} {a0 a1 a2 a3 a4 a5 a6 a7 a8 : Value}
theorem Nine.lt (h : Nine w B a0 a1 a2 a3 a4 a5 a6 a7 a8) : B < w.heap.size := (Array.getElem?_eq_some_iff.1 h).1
theorem Nine.below {K : Nat} (h : Nine w B a0 a1 a2 a3 a4 a5 a6 a7 a8) (hb : Below K w w') (hK : B < K) : Nine w' B a0 a1 a2 a3 a4 a5 a6 a7 a8 := (hb.block B hK).trans h
theorem Nine.turned {S : Nat → Prop} (h : Nine w B a0 a1 a2 a3 a4 a5 a6 a7 a8) (ht : Turned S w w') (hS : ¬ S B) : Nine w' B a0 a1 a2 a3 a4 a5 a6 a7 a8 := (ht.block B h.lt hS).trans h
theorem Nine.cells (h : Nine w B a0 a1 a2 a3 a4 a5 a6 a7 a8) : w.cell? ⟨B, 0, none⟩ = some a0 ∧ w.cell? ⟨B, 1, none⟩ = some a1 ∧ w.cell? ⟨B, 2, none⟩ = some a2 ∧ w.cell? ⟨B, 3, none⟩ = some a3 ∧ w.cell? ⟨B, 4, none⟩ = some a4 ∧ w.cell? ⟨B, 5, none⟩ = some a5 ∧ w.cell? ⟨B, 6, none⟩ = some a6 ∧ w.cell? ⟨B, 7, none⟩ = some a7 ∧ w.cell? ⟨B, 8, none⟩ = some a8 := by
  unfold Nine at h
  simp [World.cell?, h]
theorem Nine.thaw (h : Nine w B a0 a1 a2 a3 a4 a5 a6 a7 a8) : ∀ j, w.frozen? ⟨B, j, none⟩ = false := by
  unfold Nine at h
  simp [World.frozen?, h]
theorem Nine.new (w : World) (a0 a1 a2 a3 a4 a5 a6 a7 a8 : Value) : Nine (w.alloc (.cells #[a0, a1, a2, a3, a4, a5, a6, a7, a8] 32)) w.heap.size a0 a1 a2 a3 a4 a5 a6 a7 a8 := heap_alloc_new w _
end

/-- The reference's store, as a value. -/
abbrev rm (d : Dk) (vf vo vr vt : Value) : Value := .agg #[vf, .int .i64 (d.writes : Int), .bool d.armed, .bool d.dead, .int .i64 (d.after : Int), .int .i64 (d.keep : Int), vo, vr, vt]
/-- .. and in a block. -/
abbrev NineM (w : World) (B : Nat) (d : Dk) (vf vo vr vt : Value) : Prop := Nine w B vf (.int .i64 (d.writes : Int)) (.bool d.armed) (.bool d.dead) (.int .i64 (d.after : Int)) (.int .i64 (d.keep : Int)) vo vr vt
abbrev nineC (d : Dk) (vf vo vr vt : Value) : Obj := .cells #[vf, .int .i64 (d.writes : Int), .bool d.armed, .bool d.dead, .int .i64 (d.after : Int), .int .i64 (d.keep : Int), vo, vr, vt] 32

theorem oget_skip {l : List Ob} {k : Int} {x : UInt64} : ∀ {i : Nat}, (∀ j, j < i → ∀ o, l[j]? = some o → ¬ (o.kind = k ∧ o.id = x)) → oget l k x = oget (l.drop i) k x := by
  induction l with
  | nil => intro i _; simp
  | cons f t ih =>
    intro i h
    cases i with
    | zero => rfl
    | succ i =>
      have h0 : ¬ (f.kind = k ∧ f.id = x) := h 0 (by omega) f rfl
      simp only [oget, if_neg h0, List.drop_succ_cons]
      exact ih (i := i) (fun j hj o ho => h (j + 1) (by omega) o ho)

theorem oget_first {l : List Ob} {k : Int} {x : UInt64} {b : Bs} {i : Nat} (h : ∀ j, j < i → ∀ o, l[j]? = some o → ¬ (o.kind = k ∧ o.id = x)) (hi : l[i]? = some ⟨k, x, b⟩) : oget l k x = some b := by
  obtain ⟨hlt, e⟩ := List.getElem?_eq_some_iff.1 hi
  rw [oget_skip h, List.drop_eq_getElem_cons hlt, e]
  simp [oget]

section
variable {w : World} {d : Dk} {st : St} {oa : Option Addr} {on oc : Nat} {vf vr vt : Value}

set_option maxHeartbeats 1600000 in
set_option maxRecDepth 100000 in
/-- At. -/
theorem at_obj (h : RdG encO w oa st.objs) (hl : st.objs.length = on) (hn : on ≤ 1000000) (k : Int) (x : UInt64) :
    Calls Tryz.prog 96 #[rm d vf (.slice oa on oc) vr vt, .int .i64 k, .int .u64 (x.toNat : Int)] w fun e w' => ∃ r, e = .returned (.int .i64 r) ∧ Hid ((oget st.objs k x = none ∧ r = -1) ∨ ∃ i : Nat, r = (i : Int) ∧ ∃ bs : Bs, st.objs[i]? = some ⟨k, x, bs⟩ ∧ oget st.objs k x = some bs) ∧ Below w.heap.size w w' := by
  have H : Hid (RdG encO w oa st.objs ∧ st.objs.length = on) := ⟨h, hl⟩
  obtain ⟨W, hW⟩ : ∃ W, w.alloc (nineC d vf (.slice oa on oc) vr vt) = W := ⟨_, rfl⟩
  have k6 : W.cell? ⟨w.heap.size, 6, none⟩ = some (.slice oa on oc) := by rw [← hW]; exact (Nine.new w _ _ _ _ _ _ _ _ _).cells.2.2.2.2.2.2.1
  have HW : Hid (Below w.heap.size w W) := by rw [← hW]; exact bz1 _ _
  obtain ⟨xi, hxi⟩ : ∃ xi : Int, (x.toNat : Int) = xi := ⟨_, rfl⟩
  rw [hxi]
  have HX : Hid ((x.toNat : Int) = xi) := hxi
  clear h hl hxi
  go_enter Tryz.func96, Tryz.ntmps96
  go_wp2_with fail
  go_loopg [7] on (fun m iv wr => wr = W ∧ ∃ i : Nat, iv = .int .i64 i ∧ i + m = on ∧ Hid (∀ j, j < i → ∀ o, st.objs[j]? = some o → ¬ (o.kind = k ∧ o.id = x)))
  case atStart => exact ⟨rfl, 0, rfl, by omega, fun j hj => by omega⟩
  case round =>
    obtain ⟨hwr, i, rfl, hi, HT⟩ := hrel
    subst hwr
    by_cases hin : i < on
    · have id : (i : Int) < (on : Int) := by omega
      obtain ⟨o, ho⟩ := get_some H.out.2 hin
      have R := H.out.1.below HW.out
      obtain ⟨b1, o1, rfl, hlt⟩ := R.some_of ho
      obtain ⟨_, cc0, cc1, cc2⟩ := R.obs ho
      obtain ⟨ok, oi, ob⟩ := o
      simp only at cc0 cc1 cc2
      have X : Hid (st.objs[i]? = some ⟨ok, oi, ob⟩) := ho
      obtain ⟨oii, hoi⟩ : ∃ oii : Int, (oi.toNat : Int) = oii := ⟨_, rfl⟩
      rw [hoi] at cc1
      have HO : Hid ((oi.toNat : Int) = oii) := hoi
      clear R ho hoi
      have stop : ¬ (ok = k ∧ oi = x) → Hid (∀ j, j < i + 1 → ∀ o, st.objs[j]? = some o → ¬ (o.kind = k ∧ o.id = x)) := by
        intro hne j hj o hoj
        rcases Nat.lt_or_ge j i with q | q
        · exact HT.out j q o hoj
        · obtain rfl : j = i := by omega
          rw [X.out] at hoj
          cases hoj
          exact hne
      have inj : oii = xi → oi = x := fun q => UInt64.toNat_inj.1 (by have := HO.out; have := HX.out; omega)
      have inj2 : oi = x → oii = xi := fun q => by rw [← HO.out, ← HX.out, q]
      by_cases hk : ok = k
      · by_cases hx : oii = xi
        · subst hk hx
          have ex := inj rfl
          go_wp2
          go_ret
          refine ⟨_, rfl, .inr ⟨i, rfl, ob, by rw [← ex]; exact X.out, ?_⟩, HW.out⟩
          exact oget_first HT.out (by rw [← ex]; exact X.out)
        · have ST : Hid _ := stop (fun q => hx (inj2 q.2))
          subst hk
          have m1 : (oii == xi) = false := by simpa using hx
          clear stop inj inj2
          go_wp2
          go_roundg (gk - 1)
          case measure => omega
          case rel => exact ⟨rfl, i + 1, by go_num, by omega, ST⟩
      · have ST : Hid _ := stop (fun q => hk q.1)
        have m1 : (ok == k) = false := by simpa using hk
        clear stop inj inj2
        go_wp2
        go_roundg (gk - 1)
        case measure => omega
        case rel => exact ⟨rfl, i + 1, by go_num, by omega, ST⟩
    · obtain rfl : i = on := by omega
      go_wp2
      go_ret
      refine ⟨_, rfl, .inl ⟨?_, rfl⟩, HW.out⟩
      rw [oget_skip HT.out, List.drop_of_length_le (by rw [H.out.2]; exact Nat.le_refl _)]
      rfl

set_option maxHeartbeats 800000 in
set_option maxRecDepth 100000 in
/-- Has. -/
theorem rhas_any (h : RdG encO w oa st.objs) (hl : st.objs.length = on) (hn : on ≤ 1000000) (k : Int) (x : UInt64) (g : Bool) (hg : st.has k x = g) :
    Calls Tryz.prog 52 #[rm d vf (.slice oa on oc) vr vt, .int .i64 k, .int .u64 (x.toNat : Int)] w fun e w' => e = .returned (.bool g) ∧ Below w.heap.size w w' := by
  obtain ⟨W, hW⟩ : ∃ W, w.alloc (nineC d vf (.slice oa on oc) vr vt) = W := ⟨_, rfl⟩
  have bW : Below w.heap.size w W := by rw [← hW]; exact bz1 _ _
  have n9 : NineM W w.heap.size d vf (.slice oa on oc) vr vt := by rw [← hW]; exact Nine.new w _ _ _ _ _ _ _ _ _
  obtain ⟨k0, k1, k2, k3, k4, k5, k6, k7, k8⟩ := n9.cells
  have hat := at_obj (d := d) (oc := oc) (vf := vf) (vr := vr) (vt := vt) (h.below bW) hl hn k x
  have HW : Hid (Below w.heap.size w W ∧ st.has k x = g) := ⟨bW, hg⟩
  obtain ⟨xi, hxi⟩ : ∃ xi : Int, (x.toNat : Int) = xi := ⟨_, rfl⟩
  rw [hxi] at hat ⊢
  clear h hl hg hxi bW n9
  go_enter Tryz.func52, Tryz.ntmps52
  go_wp2_with fail
  refine hat.mono ?_
  rintro e w1 ⟨r, rfl, R1, B1⟩
  have HB : Hid (Below w.heap.size w w1) := HW.out.1.trans (B1.mono HW.out.1.size)
  clear B1 hat
  rcases R1.out with ⟨q1, q2⟩ | ⟨i, q2, bs, _, q1⟩
  · have eg : g = false := by rw [← HW.out.2]; unfold St.has; rw [q1]; rfl
    subst q2 eg
    clear q1
    go_wp2
    go_ret
    exact ⟨rfl, HB.out⟩
  · have eg : g = true := by rw [← HW.out.2]; unfold St.has; rw [q1]; rfl
    subst q2 eg
    have i0 : (0 : Int) ≤ (i : Int) := by omega
    clear q1
    go_wp2
    go_ret
    exact ⟨by simp, HB.out⟩

end

end Go.Proofs.YtikgbjjgpgjmfaaGreat
