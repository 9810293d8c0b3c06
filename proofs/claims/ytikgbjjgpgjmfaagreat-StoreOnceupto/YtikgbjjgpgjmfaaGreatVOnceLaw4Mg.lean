/-
  The walk of StoreOnce.
-/
import Derived.Test.YtikgbjjgpgjmfaaGreatVOnceBMg
import Derived.Test.YtikgbjjgpgjmfaaGreatVOnceB2Mg
import Derived.Test.YtikgbjjgpgjmfaaGreatVOnceCMg
import Derived.Test.YtikgbjjgpgjmfaaGreatVOnceDMg
namespace Go.Proofs.YtikgbjjgpgjmfaaGreat
open Go.RowKit

set_option maxHeartbeats 6400000 in
set_option maxRecDepth 100000 in
theorem once_walk {w : World} {ao : Option Addr} {n c : Nat} {l : List AV} (hA : Acts w ao n l) (hn : n ≤ 4000000000000000000) (at_ : Int) (mask : UInt8) :
    Calls Tryz.prog 6 #[.slice ao n c, .int .i64 at_, .int .u8 (mask.toNat : Int)] w fun e w' => e = .returned (.bool true) ∧ Below w.heap.size w w' := by
  have HA : Hid (Acts w ao n l) := hA
  clear hA
  go_enter Tryz.func6, Tryz.ntmps6
  go_wp2_with fail
  refine (awake_any w).mono ?_
  rintro e w1 ⟨rfl, b1⟩
  have B1 : Hid (Below w.heap.size w w1) := b1
  clear b1
  go_wp2_with fail
  refine (fresh_any w1).mono ?_
  rintro e w2 ⟨s, b, rfl, H2⟩
  obtain ⟨R, hR⟩ : ∃ R, w2.heap.size = R := ⟨_, rfl⟩
  have L0 : Hid (LI w.heap.size R 0 w (w2.alloc (.cells (wdV s b dk0 nilV nilV nilV nilV nilV nilV nilV) 35))) := by rw [← hR]; exact LI.start B1.out H2.out.1 H2.out.2
  clear H2
  go_wp2_with fail
  clear hR
  go_loopg [8, 9] (min n 40) (fun m ov iv wr => ov = .bool true ∧ ∃ i : Nat, iv = .int .i64 i ∧ i + m = min n 40 ∧ Hid (LI w.heap.size R i w wr))
  case atStart => exact ⟨rfl, 0, rfl, by omega, L0.out⟩
  case round =>
    obtain ⟨rfl, i, rfl, hi, HR⟩ := hrel
    by_cases hin : i < min n 40
    · have id : (i : Int) < (n : Int) := by omega
      have id0 : (0 : Int) ≤ (i : Int) := by omega
      have id4 : (i : Int) < 40 := by omega
      have hb0 : Below w.heap.size w wr := HR.out.world
      obtain ⟨a, ha⟩ := get_some HA.out.len (show i < n by omega)
      obtain ⟨g, off, rfl, hlt⟩ := HA.out.rd.some_of ha
      obtain ⟨hbw, c0, c1, c2, c3, c4, c5, c6⟩ := (HA.out.rd.below hb0).acts ha
      have HB0 := hid hb0
      clear hb0
      by_cases h3 : 3 ≤ a.k
      · obtain ⟨ak, hak⟩ : ∃ ak, a.k = ak := ⟨_, rfl⟩
        rw [hak] at h3 c0
        clear c1 c2 c3 c4 c5 c6 ha
        as_aux_lemma =>
          go_wp2
          go_roundg (gk - 1)
          case measure => omega
          case rel => exact ⟨rfl, i + 1, by go_num, by omega, HR.out.next⟩
      · obtain ⟨data, ps, qs, hAt⟩ := HA.out.each a (List.mem_of_getElem? ha)
        obtain ⟨s, b, fa, fl, fc, oa, on, oc, ra, rn, rc, ta, tn, tc, xa, xn, xc, ya, yn, yc, za, zn, zc, U, st, d, bl, tl, cl, h1, h2, h4, h5, h5', h6, h7, h8, h9, h10, h11⟩ := HR.out
        obtain ⟨O, hO⟩ : ∃ O, wr.heap.size = O := ⟨_, rfl⟩
        have p0 := h2.cell (j := 0) rfl
        have p1 := h2.cell (j := 1) rfl
        have p2 := h2.cell (j := 2) rfl
        have p3 := h2.cell (j := 3) rfl
        have p4 := h2.cell (j := 4) rfl
        have p5 := h2.cell (j := 5) rfl
        have p6 := h2.cell (j := 6) rfl
        have p7 := h2.cell (j := 7) rfl
        have p8 := h2.cell (j := 8) rfl
        have p9 := h2.cell (j := 9) rfl
        have p10 := h2.cell (j := 10) rfl
        have p11 := h2.cell (j := 11) rfl
        have p12 := h2.cell (j := 12) rfl
        have p13 := h2.cell (j := 13) rfl
        obtain ⟨W, hW⟩ : ∃ W, wr.alloc (.cells (wdV s b d (.slice fa fl fc) (.slice oa on oc) (.slice ra rn rc) (.slice ta tn tc) (.slice xa xn xc) (.slice ya yn yc) (.slice za zn zc)) 35) = W := ⟨_, rfl⟩
        have bW : Below wr.heap.size wr W := by rw [← hW]; exact bz1 _ _
        have sW : W.heap.size = wr.heap.size + 1 := by rw [← hW]; simp
        have WI1 : WI w.heap.size (fun j => j = R ∨ j = O) W s b (.slice fa fl fc) (.slice oa on oc) (.slice ra rn rc) (.slice ta tn tc) (.slice xa xn xc) (.slice ya yn yc) (.slice za zn zc) U st d bl tl cl := h1.more bW (fun i q => by have q' : i = O := q; omega)
        have BW : Below w.heap.size w W := h4.trans (bW.mono h4.size)
        have bO : BoxA W O 35 (wdV s b d (.slice fa fl fc) (.slice oa on oc) (.slice ra rn rc) (.slice ta tn tc) (.slice xa xn xc) (.slice ya yn yc) (.slice za zn zc)) := by rw [← hW, ← hO]; exact BoxA.new _ _ _
        have bR : BoxA W R 35 (wdV s b d (.slice fa fl fc) (.slice oa on oc) (.slice ra rn rc) (.slice ta tn tc) (.slice xa xn xc) (.slice ya yn yc) (.slice za zn zc)) := h2.below bW h2.lt
        have hak3 : ¬ 3 ≤ a.k := h3
        have PA := hid (play_all (w0 := w) (a := a) (WI1.below (Below.refl _ _).drew) BW.drew rfl (Nat.le_trans BW.size (Nat.le_refl _)) hAt (by omega) h5 (by omega) (by omega) (by omega) (by omega) (by omega))
        obtain ⟨k, da, dn, dc, pa, pn, pc, qa, qn, qc, nm, dt, kp⟩ := a
        simp only at c0 c1 c2 c3 c4 c5 c6 hak3
        have HB := hid (And.intro bR (And.intro bO BW))
        have HS := hid (And.intro h5 (And.intro h5' (And.intro h6 (And.intro h7 (And.intro h8 (And.intro h9 (And.intro h10 h11)))))))
        have HACT := hid ((HA.out.rd.below BW).acts ha)
        have HHA := hid ha
        have HAT := hid hAt
        have HSZ := hid (show R < O by have := h2.lt; omega)
        have HRB := hid (show w.heap.size ≤ R by omega)
        have HW1 := hid WI1
        clear HR h1 h2 h4 h5 h5' h6 h7 h8 h9 h10 h11 WI1 bW sW hAt ha h3
        go_upto_region 11 with fail
        clear p0 p1 p2 p3 p4 p5 p6 p7 p8 p9 p10 p11 p12 p13 c0 c1 c2 c3 c4 c5 c6 hW
        have p0 := bR.cell (j := 0) rfl
        have p1 := bR.cell (j := 1) rfl
        have p2 := bR.cell (j := 2) rfl
        have p3 := bR.cell (j := 3) rfl
        have p4 := bR.cell (j := 4) rfl
        have p5 := bR.cell (j := 5) rfl
        have p6 := bR.cell (j := 6) rfl
        have p7 := bR.cell (j := 7) rfl
        have p8 := bR.cell (j := 8) rfl
        have p9 := bR.cell (j := 9) rfl
        have p10 := bR.cell (j := 10) rfl
        have p11 := bR.cell (j := 11) rfl
        have p12 := bR.cell (j := 12) rfl
        have p13 := bR.cell (j := 13) rfl
        obtain ⟨hbW, c0, c1, c2, c3, c4, c5, c6⟩ := HACT.out
        have ne : O ≠ R := by have := bR.lt; have := HSZ.out; omega
        clear bR bO BW
        go_cut [8] from 21 to 253 (fun ov u => ∃ v fa' fl' fc' oa' on' oc' ra' rn' rc' ta' tn' tc' xa' xn' xc' ya' yn' yc' za' zn' zc' U' st' d' bl' tl' cl', v = u ∧ ov = .bool true ∧ Hid (WI w.heap.size (fun j => j = R ∨ j = O) v s b (.slice fa' fl' fc') (.slice oa' on' oc') (.slice ra' rn' rc') (.slice ta' tn' tc') (.slice xa' xn' xc') (.slice ya' yn' yc') (.slice za' zn' zc') U' st' d' bl' tl' cl' ∧ BoxA v R 35 (wdV s b d' (.slice fa' fl' fc') (.slice oa' on' oc') (.slice ra' rn' rc') (.slice ta' tn' tc') (.slice xa' xn' xc') (.slice ya' yn' yc') (.slice za' zn' zc')) ∧ BoxA v O 35 (wdV s b d (.slice fa fl fc) (.slice oa on oc) (.slice ra rn rc) (.slice ta tn tc) (.slice xa xn xc) (.slice ya yn yc) (.slice za zn zc)) ∧ Below w.heap.size w v ∧ OwnG encU 56 v w.heap.size (.slice xa xn xc) bl ∧ OwnG encU 56 v w.heap.size (.slice ya yn yc) tl ∧ OwnG encU 56 v w.heap.size (.slice za zn zc) cl ∧ Rel k data ps qs dt st d bl tl cl st' d' bl' tl' cl'))
        case first =>
          refine wp_code (c' := once11) (by kernel_rfl) ?_
          refine once_first (J := ?J) id id0 HRB ne HACT HB HW1 PA ?hJ ?hK
          case hK => assumption
          case hJ => assumption
        case rest =>
          obtain ⟨X, fa', fl', fc', oa', on', oc', ra', rn', rc', ta', tn', tc', xa', xn', xc', ya', yn', yc', za', zn', zc', U', st', d', bl', tl', cl', rfl, rfl, HX⟩ := hcut
          clear p0 p1 p2 p3 p4 p5 p6 p7 p8 p9 p10 p11 p12 p13 c0 c1 c2 c3 c4 c5 c6 hbW PA HW1 HACT HB
          obtain ⟨_, _, _, _, _, _, _, x8⟩ := HX.out
          go_step
          refine wp_code (c' := onceRest) (by kernel_rfl) ?_
          rcases x8 with ⟨hk, _, _, _, _, _⟩ | ⟨hk, Q, hQ, e1, e2, e3, _, _⟩ | ⟨hk, Q, hQ, e1, e2, _, e3, _⟩ | ⟨hk, Q, hQ, e1, e2, _, _, e3⟩
          · refine once_none (J := ?J1) HA hi hin id id0 HHA HAT HSZ HRB HS HX hk ?hJ1 ?hK21 ?hK11 rfl
            case hK21 => assumption
            case hJ1 =>
              unfold OnceJ
              assumption
            case hK11 =>
              intro a1 wa hwa
              go_step
              exact wp_code (by kernel_rfl) hwa
          · by_cases hz : Q.2.2 = 0
            · refine once_blob_ok (J := ?J2) HA hi hin id id0 HHA HAT HSZ HRB HS HX hk hQ e1 e2 e3 hz ?hJ2 ?hK22 ?hK12 rfl
              case hK22 => assumption
              case hJ2 =>
                unfold OnceJ
                assumption
              case hK12 =>
                intro a1 wa hwa
                go_step
                exact wp_code (by kernel_rfl) hwa
            · refine once_blob_no (J := ?J3) HA hi hin id id0 HHA HAT HSZ HRB HS HX hk hQ e1 e2 e3 hz ?hJ3 ?hK23 ?hK13 rfl
              case hK23 => assumption
              case hJ3 =>
                unfold OnceJ
                assumption
              case hK13 =>
                intro a1 wa hwa
                go_step
                exact wp_code (by kernel_rfl) hwa
          · by_cases hz : Q.2.2 = 0
            · refine once_tree_ok (J := ?J4) HA hi hin id id0 HHA HAT HSZ HRB HS HX hk hQ e1 e2 e3 hz ?hJ4 ?hK24 ?hK14 rfl
              case hK24 => assumption
              case hJ4 =>
                unfold OnceJ
                assumption
              case hK14 =>
                intro a1 wa hwa
                go_step
                exact wp_code (by kernel_rfl) hwa
            · refine once_tree_no (J := ?J5) HA hi hin id id0 HHA HAT HSZ HRB HS HX hk hQ e1 e2 e3 hz ?hJ5 ?hK25 ?hK15 rfl
              case hK25 => assumption
              case hJ5 =>
                unfold OnceJ
                assumption
              case hK15 =>
                intro a1 wa hwa
                go_step
                exact wp_code (by kernel_rfl) hwa
          · by_cases hz : Q.2.2 = 0
            · refine once_com_ok (J := ?J6) HA hi hin id id0 HHA HAT HSZ HRB HS HX hk hQ e1 e2 e3 hz ?hJ6 ?hK26 ?hK16 rfl
              case hK26 => assumption
              case hJ6 =>
                unfold OnceJ
                assumption
              case hK16 =>
                intro a1 wa hwa
                go_step
                exact wp_code (by kernel_rfl) hwa
            · refine once_com_no (J := ?J7) HA hi hin id id0 HHA HAT HSZ HRB HS HX hk hQ e1 e2 e3 hz ?hJ7 ?hK27 ?hK17 rfl
              case hK27 => assumption
              case hJ7 =>
                unfold OnceJ
                assumption
              case hK17 =>
                intro a1 wa hwa
                go_step
                exact wp_code (by kernel_rfl) hwa
    · have id4 : ¬ ((i : Int) < (n : Int) ∧ (i : Int) < 40) := by omega
      have HE := hid HR.out.world
      by_cases hni : (i : Int) < (n : Int)
      · have h40 : ¬ (i : Int) < 40 := by omega
        as_aux_lemma =>
          go_wp2
          go_ret
          exact ⟨rfl, HE.out⟩
      · as_aux_lemma =>
          go_wp2
          go_ret
          exact ⟨rfl, HE.out⟩

end Go.Proofs.YtikgbjjgpgjmfaaGreat
