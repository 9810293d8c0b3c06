/-
  The reference's Touched by a contract, and the law TreeTouches, walked: of whatever changes it returns true, and what was there when it was called is as it was.
-/
import Derived.Test.YtbclmpjcfddlcaaYAwake
import Derived.Test.YtbclmpjcfddlcaaPRParts
import Derived.Test.YtbclmpjcfddlcaaPRSort
namespace Go.Proofs.Ytbclmpjcfddlcaa
open Go.RowKit

theorem Try.info48 : (Try.prog.info? 48).map (fun i => (i.zero, i.size, i.bytes)) = some (some (.agg #[.string ⟨#[]⟩, .int .u64 0, .int .u64 0]), 3, 32) := by kernel_rfl

theorem srt_snoc (l : List Bs) (s : Bs) : srt (l ++ [s]) = withB (srt l) s := by
  rw [srt, List.foldl_append]
  rfl

set_option maxHeartbeats 1600000 in
set_option maxRecDepth 100000 in
/-- The reference's Touched. -/
theorem rtouched_any {ao : Option Addr} {c n : Nat} {cs : List Chg} (w : World) (ha : RdG encC w ao cs) (hl : cs.length = n) (hn : n ≤ 9000) :
    Calls Try.prog 18 #[.slice ao n c] w fun e w' => ∃ ao' c', e = .returned (.slice ao' (touchL cs).length c') ∧ Rd w' ao' (touchL cs) ∧ Below w.heap.size w w' := by
  have H : Hid (RdG encC w ao cs ∧ cs.length = n) := ⟨ha, hl⟩
  clear ha hl
  go_enter Try.func18, Try.ntmps18
  go_wp2_with fail
  go_loopg [3, 4] n (fun k av v wr => ∃ (i : Nat) (aa : Option Addr) (an ac : Nat), v = .int .i64 i ∧ av = .slice aa an ac ∧ i + k = n ∧ Hid ((srt ((cs.take i).flatMap cparts)).length = an ∧ Rd wr aa (srt ((cs.take i).flatMap cparts)) ∧ Below w.heap.size w wr))
  case atStart => exact ⟨0, none, 0, 0, rfl, rfl, by omega, rfl, Rd.nil _ _, Below.refl _ _⟩
  case round =>
    obtain ⟨i, aa, an, ac, rfl, rfl, hi, HR⟩ := hrel
    obtain ⟨go, hgo⟩ : ∃ go, go = gk := ⟨_, rfl⟩
    rw [← hgo] at hi
    have GO : Hid (go = gk) := hgo
    clear hgo
    by_cases hin : i < n
    · have id : (i : Int) < (n : Int) := by omega
      obtain ⟨e, he⟩ := get_some H.out.2 hin
      obtain ⟨b, off, rfl, hlt⟩ := H.out.1.some_of he
      obtain ⟨c0, _, _⟩ := (H.out.1.below HR.out.2.2).chg3 he
      have hst := tflat_snoc he
      have hfl : ((cs.take i).flatMap cparts).length ≤ 927000 := by
        have h1 := tflat_len (cs.take i)
        have h2 := List.length_take_le i cs
        omega
      obtain ⟨x, o, o2⟩ := e
      simp only at c0 hst
      obtain ⟨ds, hds⟩ : ∃ ds, (cs.take i).flatMap cparts = ds := ⟨_, rfl⟩
      rw [hds] at HR hst hfl
      have hpa := rparts_any ⟨x.toArray⟩ wr
      have epx : parts (⟨x.toArray⟩ : ByteArray).data.toList = parts x := rfl
      rw [epx] at hpa
      have hpl := tparts_len x
      obtain ⟨qs, hqs⟩ : ∃ qs, parts x = qs := ⟨_, rfl⟩
      rw [hqs] at hpa hpl hst
      have ST : Hid ((cs.take (i + 1)).flatMap cparts = ds ++ qs) := hst
      clear he hst hds epx hqs hlt
      go_wp2_with fail
      refine hpa.mono ?_
      rintro e w2 ⟨v2, rfl, O2, B2⟩
      obtain ⟨a2, c2, rfl, _, _, R2⟩ := O2.form
      obtain ⟨qn, hqn⟩ : ∃ qn, qs.length = qn := ⟨_, rfl⟩
      rw [hqn] at hpl ⊢
      have G3 : Hid (Rd w2 a2 qs ∧ qs.length = qn ∧ Rd w2 aa (srt ds) ∧ (srt ds).length = an ∧ Below w.heap.size w w2) := ⟨R2, hqn, HR.out.2.1.below B2, HR.out.1, HR.out.2.2.trans (B2.mono HR.out.2.2.size)⟩
      clear O2 B2 R2 hpa hqn c0
      go_wp2_with fail
      go_loopg [3, 6] qn (fun k av v wr => ∃ (j : Nat) (aa4 : Option Addr) (an4 ac4 : Nat), v = .int .i64 j ∧ av = .slice aa4 an4 ac4 ∧ j + k = qn ∧ Hid ((srt (ds ++ qs.take j)).length = an4 ∧ Rd wr aa4 (srt (ds ++ qs.take j)) ∧ Below w2.heap.size w2 wr))
      case atStart => exact ⟨0, aa, an, ac, rfl, rfl, by omega, by simpa using G3.out.2.2.2.1, by simpa using G3.out.2.2.1, Below.refl _ _⟩
      case round =>
        obtain ⟨j, aa4, an4, ac4, rfl, rfl, hj, HJ⟩ := hrel
        by_cases hjn : j < qn
        · have jd : (j : Int) < (qn : Int) := by omega
          obtain ⟨b2, o2', rfl, hlt2, hc2⟩ := G3.out.1 (by rw [G3.out.2.1]; omega)
          obtain ⟨y, hy⟩ : ∃ y, el qs j = y := ⟨_, rfl⟩
          have cy := hc2 j (by rw [G3.out.2.1]; omega)
          rw [hy] at cy
          have cy2 : wr.cell? ⟨b2, o2' + j, none⟩ = some (.string ⟨y.toArray⟩) := (HJ.out.2.2.cell hlt2).trans cy
          have hst : qs.take (j + 1) = qs.take j ++ [y] := by
            have hj2 : j < qs.length := by rw [G3.out.2.1]; exact hjn
            rw [List.take_succ_eq_append_getElem hj2, ← hy, el_get hj2]
          have hal : an4 ≤ 927103 := by
            rw [← HJ.out.1]
            have h1 := srt_len (ds ++ qs.take j)
            have h2 := List.length_take_le j qs
            rw [List.length_append] at h1
            omega
          have hwi := with_any (c := ac4) y wr HJ.out.2.1 HJ.out.1 (by omega)
          rw [← srt_snoc, List.append_assoc, ← hst] at hwi
          clear hc2 cy hy hst
          go_wp2_with fail
          refine hwi.mono ?_
          rintro e w5 ⟨aa5, ac5, rfl, R5, B5⟩
          have G5 : Hid (Rd w5 aa5 (srt (ds ++ qs.take (j + 1))) ∧ Below w2.heap.size w2 w5) := ⟨R5, HJ.out.2.2.trans (B5.mono HJ.out.2.2.size)⟩
          clear R5 B5 hwi
          go_wp2
          go_roundg (gk - 1)
          case measure => omega
          case rel => exact ⟨j + 1, aa5, _, ac5, by go_num, rfl, by omega, rfl, G5.out.1, G5.out.2⟩
        · obtain rfl : j = qn := by omega
          have e : qs.take j = qs := List.take_of_length_le (by rw [G3.out.2.1]; omega)
          rw [e] at HJ
          clear e
          go_wp2
          go_roundg (go - 1)
          case measure => have := GO.out; omega
          case rel =>
            refine ⟨i + 1, aa4, an4, ac4, by go_num, rfl, by omega, ?_⟩
            rw [ST.out]
            exact ⟨HJ.out.1, HJ.out.2.1, G3.out.2.2.2.2.trans (HJ.out.2.2.mono G3.out.2.2.2.2.size)⟩
    · obtain rfl : i = n := by omega
      have e : cs.take i = cs := List.take_of_length_le (by rw [H.out.2]; omega)
      rw [e] at HR
      clear e
      go_wp2
      go_ret
      refine ⟨aa, ac, ?_, HR.out.2.1, HR.out.2.2⟩
      have h1 := HR.out.1
      unfold touchL
      rw [h1]
      rfl

/-- A change of which the path alone is told. -/
def bareC (c : Chg) : Chg := (c.1, 0, 0)
theorem bare_touch (cs : List Chg) : touchL (cs.map bareC) = touchL cs := by
  unfold touchL
  rw [List.flatMap_map]
  rfl
theorem touch_len (cs : List Chg) : (touchL cs).length ≤ 103 * cs.length := by
  unfold touchL
  have h1 := srt_len (cs.flatMap cparts)
  have h2 := tflat_len cs
  omega

set_option maxHeartbeats 1600000 in
set_option maxRecDepth 100000 in
theorem touches_walk (ao : Option Addr) (n c : Nat) (cs : List Chg) (W : World) (hl : cs.length = n) (hcn : n ≤ 9223372036854775807) (hr : RdG encC W ao cs) (hf : FineC cs) :
    Calls Try.prog 5 #[.slice ao n c] W fun e w' => e = .returned (.bool true) ∧ Below W.heap.size W w' := by
  have H : Hid (cs.length = n ∧ RdG encC W ao cs ∧ FineC cs) := ⟨hl, hr, hf⟩
  clear hl hr hf
  go_enter Try.func5, Try.ntmps5
  go_wp2_with fail
  refine (awake_walk _).mono ?_
  rintro e w1 ⟨rfl, B1⟩
  have G1 : Hid (Below W.heap.size W w1) := B1
  clear B1
  by_cases hbig : 200 < n
  · have hb' : (200 : Int) < (n : Int) := by omega
    go_wp2
    go_ret
    exact ⟨rfl, G1.out⟩
  · have hb' : ¬ (200 : Int) < (n : Int) := by omega
    have hb2 : decide ((200 : Int) < (n : Int)) = false := decide_eq_false hb'
    go_wp2_with fail
    go_loopg [3, 4] n (fun k ov v wr => ∃ i : Nat, v = .int .i64 i ∧ i + k = n ∧ Hid (OwnG encC 48 wr W.heap.size ov ((cs.take i).map bareC) ∧ Below W.heap.size W wr))
    case atStart => exact ⟨0, rfl, by omega, OwnG.nil _ _ _ _, G1.out⟩
    case round =>
      obtain ⟨i, rfl, hi, HR⟩ := hrel
      by_cases hin : i < n
      · have id : (i : Int) < (n : Int) := by omega
        obtain ⟨e, he⟩ := get_some H.out.1 hin
        obtain ⟨b, off, rfl, hlt⟩ := H.out.2.1.some_of he
        obtain ⟨c0, _, _⟩ := (H.out.2.1.below HR.out.2).chg3 he
        obtain ⟨d0, _, _⟩ := H.out.2.1.chg3 he
        have hst : (cs.take (i + 1)).map bareC = (cs.take i).map bareC ++ [(e.1, 0, 0)] := by rw [takeE_snoc he, List.map_append]; rfl
        obtain ⟨x, o, o2⟩ := e
        simp only at c0 d0 hst
        have hll : ((cs.take i).map bareC).length ≤ 200 := by rw [List.length_map]; have := List.length_take_le i cs; omega
        have ST : Hid _ := hst
        have D0 : Hid (W.cell? ⟨b, off + i * 3, none⟩ = some (tx x) ∧ b < W.heap.size) := ⟨d0, hlt⟩
        obtain ⟨f, hf⟩ : ∃ f, isPath x = f := ⟨_, rfl⟩
        have hris := fun w => ris_at x f hf w
        clear he hst d0 hlt hf
        go_wp2_with (at_builtin; refine appG_one encC 48 46 32 (.agg #[.string ⟨#[]⟩, .int .u64 0, .int .u64 0]) rfl Try.info48 Try.underlying46 rfl (.tmp 16) (.tmp 23) rfl W.heap.size _ ((cs.take i).map bareC) (x, 0, 0) _ rfl HR.out.1 rfl (by omega) (by simp only [maxLen]; omega) HR.out.2.size _ rfl ?_; intro v8 w8 hown8 hbel8 _ _; have G8 : Hid (OwnG encC 48 w8 W.heap.size v8 ((cs.take i).map bareC ++ [(x, 0, 0)]) ∧ Below W.heap.size W w8) := ⟨hown8, HR.out.2.trans hbel8⟩; have c8 : w8.cell? ⟨b, off + i * 3, none⟩ = some (tx x) := (G8.out.2.cell (p := ⟨b, off + i * 3, none⟩) D0.out.2).trans D0.out.1; clear hown8 hbel8)
        refine (hris _).mono ?_
        rintro e w9 ⟨rfl, B9⟩
        have G9 : Hid (OwnG encC 48 w9 W.heap.size v8 ((cs.take i).map bareC ++ [(x, 0, 0)]) ∧ Below W.heap.size W w9) := ⟨G8.out.1.below B9, G8.out.2.trans (B9.mono G8.out.2.size)⟩
        clear B9 hris c8 c0
        cases f with
        | true =>
          go_wp2
          go_roundg (gk - 1)
          case measure => omega
          case rel => exact ⟨i + 1, by go_num, by omega, by rw [ST.out]; exact G9.out.1, G9.out.2⟩
        | false =>
          go_wp2
          go_ret
          exact ⟨rfl, G9.out.2⟩
      · obtain rfl : i = n := by omega
        have e : cs.take i = cs := List.take_of_length_le (by rw [H.out.1]; omega)
        rw [e] at HR
        clear e
        obtain ⟨a3, c3, rfl, _, _, _, _⟩ := HR.out.1.form
        have hlm : (cs.map bareC).length = i := by rw [List.length_map]; exact H.out.1
        rw [hlm]
        have hto := touched_any (c := c) wr (H.out.2.1.below HR.out.2) H.out.1 (by omega) H.out.2.2
        have htl := touch_len cs
        rw [H.out.1] at htl
        obtain ⟨L, hL⟩ : ∃ L, touchL cs = L := ⟨_, rfl⟩
        have hrt := fun u h => rtouched_any (ao := a3) (c := c3) (n := i) (cs := cs.map bareC) u h hlm (by omega)
        rw [bare_touch, hL] at hrt
        rw [hL] at hto htl
        obtain ⟨ln, hln⟩ : ∃ ln, L.length = ln := ⟨_, rfl⟩
        rw [hln] at hrt htl
        have HH : Hid (L.length = ln ∧ RdG encC wr a3 (cs.map bareC)) := ⟨hln, (OwnG.rdc HR.out.1).1⟩
        clear hL hln hlm
        go_wp2_with fail
        refine hto.mono ?_
        rintro e w2 ⟨v2, rfl, O2, B2⟩
        obtain ⟨a2, c2, rfl, _, _, R2⟩ := O2.form
        rw [HH.out.1]
        have G2 : Hid (Rd w2 a2 L ∧ Below W.heap.size W w2) := ⟨R2, HR.out.2.trans (B2.mono HR.out.2.size)⟩
        have hrt2 := hrt w2 (HH.out.2.below B2)
        clear O2 B2 R2 hto hrt
        go_wp2_with fail
        refine hrt2.mono ?_
        rintro e w4 ⟨a4, c4, rfl, R4, B4⟩
        have G4 : Hid (Rd w4 a2 L ∧ Rd w4 a4 L ∧ Below W.heap.size W w4) := ⟨G2.out.1.below B4, R4, G2.out.2.trans (B4.mono G2.out.2.size)⟩
        clear B4 R4 hrt2
        go_wp2_with fail
        refine (same_any w4 G4.out.1 G4.out.2.1 HH.out.1 HH.out.1 (by omega) true (by simp)).mono ?_
        rintro e w5 ⟨rfl, m5, rfl⟩
        go_wp2
        go_ret
        exact ⟨rfl, below_drewN G4.out.2.2 m5⟩

end Go.Proofs.Ytbclmpjcfddlcaa
