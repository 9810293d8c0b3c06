/-
  TextLines' walk: of whatever text of at most 2,000,000 bytes it returns true and turns nothing that was there.
-/
import Derived.Test.YtnodkpnbfklmhaaDoorAwake
namespace Go.Proofs.YtnodkpnbfklmhaaDoor
open Go.RowKit

set_option maxHeartbeats 3200000 in
set_option maxRecDepth 100000 in
theorem lines_walk (s : ByteArray) (hs : s.size ≤ 2000000) (w : World) :
    Calls Tryd.prog 3 #[.string s] w fun e w' => e = .returned (.bool true) ∧ Below w.heap.size w w' := by
  have hlen : (lines s.data.toList).length ≤ 2000000 := by
    have := lines_len s.data.toList
    rw [← Lib.size_eq] at this
    omega
  have h1 := fun w => lines_any s (by omega) w
  have h2 := fun w => rlines_any s hs w
  obtain ⟨L, hL⟩ : ∃ L, lines s.data.toList = L := ⟨_, rfl⟩
  rw [hL] at h1 h2 hlen
  clear hL
  go_enter Tryd.func3, Tryd.ntmps3
  go_wp2_with fail
  refine (awake_walk w).mono ?_
  rintro e w1 ⟨rfl, hb1⟩
  have B1 : Hid (Below w.heap.size w w1) := hb1
  clear hb1
  go_wp2_with fail
  refine (h1 _).mono ?_
  rintro e w2 ⟨n, c, rfl, hn, _, _, R2, hb2⟩
  have B2 : Hid (Below w.heap.size w w2 ∧ Rd w2 (some ⟨w1.heap.size, 0, none⟩) L ∧ L.length = n) := ⟨B1.out.trans (hb2.mono B1.out.size), R2, hn⟩
  have hnn : n ≤ 2000000 := by omega
  clear hb2 R2 hn
  go_wp2_with fail
  refine (h2 _).mono ?_
  rintro e w3 ⟨v3, rfl, ho3, hb3⟩
  obtain ⟨a3, c3, rfl, _, _, R3⟩ := ho3.form
  have h3 := same_any (c := c) (d := c3) w3 (B2.out.2.1.below hb3) R3 B2.out.2.2 rfl (by omega) true (by simp)
  have B3 : Hid (Below w.heap.size w w3) := B2.out.1.trans (hb3.mono B2.out.1.size)
  clear hb3 R3 ho3
  go_wp2_with fail
  refine h3.mono ?_
  rintro e w4 ⟨rfl, q, rfl⟩
  clear h3
  go_wp2
  go_ret
  exact ⟨rfl, ⟨B3.out.os, B3.out.tape, B3.out.output, B3.out.size, B3.out.block⟩⟩

end Go.Proofs.YtnodkpnbfklmhaaDoor
