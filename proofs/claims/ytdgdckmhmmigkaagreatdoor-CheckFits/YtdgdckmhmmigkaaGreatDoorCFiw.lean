/-
  CheckFits by a contract. Its condition: the list of types is no longer than a form's reach, and the program's variables hold what its text lays there.
-/
import Derived.Test.YtdgdckmhmmigkaaGreatDoorCFit
import Derived.Test.YtdgdckmhmmigkaaGreatDoorCFts
import Derived.Test.YtdgdckmhmmigkaaGreatDoorJBck
import Derived.Test.YtdgdckmhmmigkaaGreatDoorPSame
namespace Go.Proofs.YtdgdckmhmmigkaaGreatDoor
open Go.RowKit

theorem infoTy : (Tryz.prog.info? 25).map (fun i => (i.zero, i.size, i.bytes)) = some (some (.int .i64 0), 1, 8) := by kernel_rfl

theorem own_base_le {w : World} {base g n cap : Nat} {ss : List Bs} (h : Own w base (.slice (some ⟨g, 0, none⟩) n cap) ss) : base ≤ g := by
  rcases h.2 with ⟨h0, _⟩ | ⟨g', cap', cur, hv, hbase, _⟩
  · cases h0
  cases hv
  exact hbase

set_option maxHeartbeats 3200000 in
set_option maxRecDepth 100000 in
theorem fits_walk (name : ByteArray) (zs : List Int) (ao : Option Addr) (n c : Nat) (hl : zs.length = n) (hn : n ≤ 17592186044416) (w : World) (hr : RdG encI w ao zs) (hg : Gl w) (hi : Inf w) (hf : Fns w) :
    Calls Tryz.prog 3 #[.string name, .slice ao n c] w fun e w' => e = .returned (.bool true) ∧ Below w.heap.size w w' := by
  have ha := awake24 w hg hi hf
  have H : Hid (RdG encI w ao zs ∧ zs.length = n ∧ Fns w ∧ ∃ ns : Bs, name = ⟨ns.toArray⟩) := ⟨hr, hl, hf, name.data.toList, rfl⟩
  clear hr hl hg hi hf
  go_enter Tryz.func3, Tryz.ntmps3
  go_wp2_with fail
  refine ha.mono ?_
  rintro e w1 ⟨rfl, b1⟩
  have B1 : Hid (Below w.heap.size w w1) := b1
  clear ha b1
  go_wp2_with fail
  go_loopg [5, 6] n (fun g sv iv wr => ∃ (i : Nat) (lo : Option Addr) (lc : Nat), sv = .slice lo i lc ∧ iv = .int .i64 i ∧ i + g = n ∧ Hid (OwnG encI 25 wr w.heap.size (.slice lo i lc) (zs.take i) ∧ Below w.heap.size w wr))
  case atStart => exact ⟨0, none, 0, rfl, rfl, by omega, OwnG.nil _ _ _ _, B1.out⟩
  case round =>
    obtain ⟨i, lo, lc, rfl, rfl, hi, HI⟩ := hrel
    by_cases hin : i < n
    · have hii : (i : Int) < (n : Int) := by omega
      obtain ⟨z, hz⟩ : ∃ z, zs[i]? = some z := ⟨_, List.getElem?_eq_getElem (by have := H.out.2.1; omega)⟩
      obtain ⟨b, off, rfl, hblt⟩ := H.out.1.some_of hz
      have hce := (H.out.1.below HI.out.2).ints hz
      have HT : Hid (zs.take (i + 1) = zs.take i ++ [z] ∧ (zs.take i).length = i) := by
        refine ⟨?_, by rw [List.length_take]; have := H.out.2.1; omega⟩
        rw [List.take_add_one, hz]
        rfl
      clear hz
      go_wp2_with (at_builtin; refine appG_one encI 25 24 8 (.int .i64 0) rfl infoTy Tryz.underlying24 rfl (.tmp 18) (.tmp 23) rfl w.heap.size _ (zs.take i) z _ rfl HI.out.1 rfl (by rw [HT.out.2]; omega) (by rw [HT.out.2]; simp only [maxLen]; omega) HI.out.2.size _ rfl ?_; intro v4 w4 ho4 hb4 hm4 ht4)
      rw [← HT.out.1] at ho4
      obtain ⟨a4, c4, e4, q4, _, r4, _⟩ := OwnG.form ho4
      rw [HT.out.1, List.length_append, HT.out.2] at e4
      subst e4
      go_roundg (gk - 1)
      case measure => omega
      case rel => exact ⟨i + 1, a4, c4, rfl, by go_num, by omega, ho4, HI.out.2.trans hb4⟩
    · obtain rfl : i = n := by omega
      clear hi hin
      obtain ⟨a4, c4, e4, q4, _, r4, _⟩ := OwnG.form HI.out.1
      have hlt : (zs.take i).length = i := by rw [List.length_take]; have := H.out.2.1; omega
      rw [hlt] at e4 q4
      obtain ⟨rfl, rfl⟩ : lo = a4 ∧ lc = c4 := by simpa using e4
      rw [List.take_of_length_le (by have := H.out.2.1; omega)] at r4
      obtain ⟨B, hB⟩ : ∃ u, wr = u := ⟨_, rfl⟩
      rw [hB] at r4 HI
      have HL : Hid (RdG encI B lo zs ∧ Below w.heap.size w B) := ⟨r4, HI.out.2⟩
      clear e4 r4 hlt HI q4
      rw [hB]
      clear hB
      go_wp2_with fail
      refine (functions_any B (H.out.2.2.1.below HL.out.2)).mono ?_
      rintro e w5 ⟨g5, c5, rfl, ho5, b5⟩
      have H5 : Hid (Own w5 B.heap.size (.slice (some ⟨g5, 0, none⟩) 21 c5) rnames ∧ Below B.heap.size B w5) := ⟨ho5, b5⟩
      clear ho5 b5
      go_wp2_with fail
      refine (rnames_any w5).mono ?_
      rintro e w6 ⟨rfl, hrd6, b6⟩
      obtain ⟨_, _, e5, _, _, hrd5⟩ := Own.form H5.out.1
      cases e5
      have hsm := same_any (c := c5) (d := 21) (n := 21) (m := 21) (xs := rnames) (ys := rnames) w6 (hrd5.below b6) hrd6 rfl rfl (by decide) true (by simp)
      have H6 : Hid (Own w6 B.heap.size (.slice (some ⟨g5, 0, none⟩) 21 c5) rnames ∧ Below B.heap.size B w6) := ⟨H5.out.1.below b6, H5.out.2.trans (b6.mono H5.out.2.size)⟩
      clear hrd6 b6 hrd5
      go_wp2_with fail
      refine hsm.mono ?_
      rintro e w7 ⟨rfl, q7, rfl⟩
      have H7 : Hid (Own (w6.drewN q7) B.heap.size (.slice (some ⟨g5, 0, none⟩) 21 c5) rnames ∧ Below B.heap.size B (w6.drewN q7)) := ⟨H6.out.1.below (belowD w6 q7), H6.out.2.trans ((belowD w6 q7).mono H6.out.2.size)⟩
      obtain ⟨w7, hw7⟩ : ∃ u, w6.drewN q7 = u := ⟨_, rfl⟩
      rw [hw7] at H7 ⊢
      have H8 : Hid (Below w.heap.size w w7) := HL.out.2.trans (H7.out.2.mono HL.out.2.size)
      have hR7 := H.out.1.below H8.out
      have hF7 := H.out.2.2.1.below H8.out
      have HS : Hid (Fns w7 ∧ RdG encI w7 ao zs ∧ RdG encI w7 lo zs) := ⟨hF7, hR7, HL.out.1.below H7.out.2⟩
      clear hsm hw7 hR7 hF7 H5 H6
      go_wp2_with fail
      go_loopg [9] 21 (fun g jv wr => ∃ (j : Nat) (ss : List Bs), jv = .int .i64 j ∧ j + g = 21 ∧ Hid (Own wr B.heap.size (.slice (some ⟨g5, 0, none⟩) 21 c5) ss ∧ ss.length = 21 ∧ Below B.heap.size B wr))
      case atStart => exact ⟨0, rnames, rfl, rfl, H7.out.1, rfl, H7.out.2⟩
      case round =>
        obtain ⟨j, ss, rfl, hj, HJ⟩ := hrel
        by_cases hjn : j < 21
        · have hjj : (j : Int) < 21 := by omega
          obtain ⟨k1, k2⟩ := own_at HJ.out.1 (i := j) (by have := HJ.out.2.1; omega)
          go_wp2_with fail
          go_roundg (gk - 1)
          case measure => omega
          case rel => exact ⟨j + 1, ss.set j [109, 97, 114, 107, 101, 100], by go_num, by omega, own_put HJ.out.1 j [109, 97, 114, 107, 101, 100], by rw [List.length_set]; exact HJ.out.2.1, HJ.out.2.2.setCell (own_base_le HJ.out.1) _⟩
        · obtain rfl : j = 21 := by omega
          clear hj hjn
          obtain ⟨w8, hw8⟩ : ∃ u, wr = u := ⟨_, rfl⟩
          rw [hw8] at HJ
          have HB8 : Hid (Below B.heap.size B w8 ∧ Below w.heap.size w w8) := ⟨HJ.out.2.2, HL.out.2.trans (HJ.out.2.2.mono HL.out.2.size)⟩
          clear HJ
          rw [hw8]
          clear hw8
          obtain ⟨ns, rfl⟩ := H.out.2.2.2
          have hm := fits_any ns zs lo i lc H.out.2.1 hn w8 (H.out.2.2.1.below HB8.out.2) (HL.out.1.below HB8.out.1)
          obtain ⟨R, hR⟩ : ∃ R, fitR ns zs = R := ⟨_, rfl⟩
          rw [hR] at hm
          go_upto_region 14 with fail
          go_wp2_with fail
          refine hm.mono ?_
          rintro e w9 ⟨rfl, b9⟩
          have HB9 : Hid (Below w.heap.size w w9) := HB8.out.2.trans (b9.mono HB8.out.2.size)
          have hm2 := rfits_any ns zs ao i c H.out.2.1 hn w9 (H.out.1.below HB9.out)
          rw [hR] at hm2
          clear hm b9
          go_wp2_with fail
          refine hm2.mono ?_
          rintro e w10 ⟨rfl, b10⟩
          have HB10 : Hid (Below w.heap.size w w10) := HB9.out.trans (b10.mono HB9.out.size)
          clear hm2 b10
          go_wp2_with fail
          refine (functions_any w10 (H.out.2.2.1.below HB10.out)).mono ?_
          rintro e w11 ⟨g6, c6, rfl, ho11, b11⟩
          obtain ⟨_, _, e11, _, _, hrd11⟩ := Own.form ho11
          cases e11
          have HB11 : Hid (Below w.heap.size w w11 ∧ Rd w11 (some ⟨g6, 0, none⟩) rnames) := ⟨HB10.out.trans (b11.mono HB10.out.size), hrd11⟩
          clear ho11 b11 hrd11
          go_wp2_with fail
          refine (rnames_any w11).mono ?_
          rintro e w12 ⟨rfl, hrd12, b12⟩
          have hsm := same_any (c := c6) (d := 21) (n := 21) (m := 21) (xs := rnames) (ys := rnames) w12 (HB11.out.2.below b12) hrd12 rfl rfl (by decide) true (by simp)
          have HB12 : Hid (Below w.heap.size w w12) := HB11.out.1.trans (b12.mono HB11.out.1.size)
          clear hrd12 b12
          go_wp2_with fail
          refine hsm.mono ?_
          rintro e w13 ⟨rfl, q13, rfl⟩
          go_wp2_with fail
          go_ret
          exact ⟨by simp, HB12.out.trans ((belowD w12 q13).mono HB12.out.size)⟩

end Go.Proofs.YtdgdckmhmmigkaaGreatDoor
