/-
  The law TreeMoves, walked: of every two lists of entries within the form's reach, and of every text, it is true.
-/
import Derived.Test.YtofbphmdkhocdaaGreatYRMovesMg
import Derived.Test.YtofbphmdkhocdaaGreatYRightMg
import Derived.Test.YtofbphmdkhocdaaGreatYAwakeMg
import Derived.Deep.RegionHeld3
namespace Go.Proofs.YtofbphmdkhocdaaGreat
open Go.RowKit

theorem own_text (w : World) (p : Bs) : Own (w.alloc (.cells #[.string ⟨p.toArray⟩] 9)) w.heap.size (.slice (some ⟨w.heap.size, 0, none⟩) 1 1) [p] := by
  refine ⟨by simp, .inr ⟨w.heap.size, 1, _, rfl, Nat.le_refl _, heap_alloc_new w _, Nat.le_refl _, by decide, ?_, ?_⟩⟩
  · rfl
  · rfl

def askL (p : Bs) (B : List En) (j : Nat) : List Bs := p :: names1 (B.take j)
theorem ask_snoc {B : List En} {j : Nat} {e : En} (p : Bs) (h : B[j]? = some e) : askL p B (j + 1) = askL p B j ++ [e.1] := by
  unfold askL
  rw [nam1_snoc h]
  rfl

set_option maxHeartbeats 6400000 in
set_option maxRecDepth 100000 in
theorem movesl_walk (ao bo : Option Addr) (n c m d : Nat) (A B : List En) (p : Bs) (W : World) (hl : A.length = n) (hk : B.length = m) (hn : n * 24 ≤ 140737488355328) (hm : m * 24 ≤ 140737488355328) (hnc : n ≤ c) (hmd : m ≤ d) (ha : RdG encE W ao A) (hb : RdG encE W bo B) :
    Calls Tryz.prog 4 #[.slice ao n c, .slice bo m d, .string ⟨p.toArray⟩] W fun e w' => e = .returned (.bool true) ∧ Below W.heap.size W w' := by
  have H : Hid (A.length = n ∧ B.length = m ∧ RdG encE W ao A ∧ RdG encE W bo B) := ⟨hl, hk, ha, hb⟩
  clear hl hk ha hb
  go_enter Tryz.func4, Tryz.ntmps4
  go_wp2_with fail
  refine (awake_walk _).mono ?_
  rintro e w1 ⟨rfl, B1⟩
  have G1 : Hid (Below W.heap.size W w1) := B1
  clear B1
  obtain ⟨f, hf⟩ : ∃ f, isTree A = f := ⟨_, rfl⟩
  obtain ⟨g, hg⟩ : ∃ g, isTree B = g := ⟨_, rfl⟩
  have hri := right_any (c := c) (d := d) w1 (H.out.2.2.1.below G1.out) (H.out.2.2.2.below G1.out) H.out.1 H.out.2.1 hn hm f g hf hg
  have FG : Hid (isTree A = f ∧ isTree B = g) := ⟨hf, hg⟩
  clear hf hg
  go_wp2_with fail
  refine hri.mono ?_
  rintro e w5 ⟨rfl, B5⟩
  have G5 : Hid (Below W.heap.size W w5) := G1.out.trans (B5.mono G1.out.size)
  clear B5 hri
  by_cases hfg : f = true ∧ g = true
  · obtain ⟨rfl, rfl⟩ := hfg
    obtain ⟨zA, _, rA, lA, fA, _⟩ := isTree_ok FG.out.1
    obtain ⟨zB, _, rB, lB, fB, _⟩ := isTree_ok FG.out.2
    have hn64 : n ≤ 64 := by rw [← H.out.1]; exact lA
    have hm64 : m ≤ 64 := by rw [← H.out.2.1]; exact lB
    have hme := moves_eq FG.out.1 FG.out.2
    have hcl : (fdiff (hasS []) A B).length ≤ 200000 := by
      have h1 := fdiff_len (hasS []) A B
      omega
    have hml : (rmoves A B).length ≤ 100 := by
      have h1 := rmoves_len A B B []
      simp only [List.length_nil] at h1
      unfold rmoves
      omega
    have HF : Hid (Rise A ∧ Rise B ∧ Fine A ∧ Fine B ∧ NZ A ∧ NZ B) := ⟨rA, rB, fA, fB, zA, zB⟩
    have mv := fun (u : World) (hb : Below W.heap.size W u) => moves_cap (c := c) (d := d) u (H.out.2.2.1.below hb) (H.out.2.2.2.below hb) H.out.1 H.out.2.1 hnc hmd (by omega) (by omega) rA rB fA fB _ rfl hcl
    have og := fun (u : World) (hb : Below W.heap.size W u) (x : Bs) (r : Option Bs) (hr : forigin A B (rmoves A B) x = r) => origin_cap (c := c) (d := d) x u (H.out.2.2.1.below hb) (H.out.2.2.2.below hb) H.out.1 H.out.2.1 hnc hmd (by omega) (by omega) rA rB fA fB _ rfl hcl r (by rw [hme]; exact hr)
    rw [hme] at mv
    obtain ⟨ms, hms⟩ : ∃ ms, rmoves A B = ms := ⟨_, rfl⟩
    rw [hms] at mv hml
    have OG : Hid (∀ (u : World), Below W.heap.size W u → ∀ (x : Bs) (r : Option Bs), forigin A B (rmoves A B) x = r → Calls Tryz.prog 18 #[.slice ao n c, .slice bo m d, tx x] u fun e w' => e = .returned (orV r) ∧ Below u.heap.size u w') := og
    have HMS : Hid (rmoves A B = ms) := hms
    clear zA rA lA fA zB rB lB fB FG hme hcl og hms
    have mv5 := mv w5 G5.out
    clear mv
    go_wp2_with fail
    refine mv5.mono ?_
    rintro e w6 ⟨v6, rfl, O6, B6⟩
    obtain ⟨a6, c6, rfl, _, _, R6, _⟩ := O6.form
    obtain ⟨k, hk⟩ : ∃ k, ms.length = k := ⟨_, rfl⟩
    rw [hk] at hml ⊢
    have G6 : Hid (RdG encM w6 a6 ms ∧ Below W.heap.size W w6) := ⟨R6, G5.out.trans (B6.mono G5.out.size)⟩
    have KN : Hid (ms.length = k) := hk
    clear O6 B6 R6 mv5 hk
    go_wp2_with fail
    refine (entries_any w6 (H.out.2.2.1.below G6.out.2) H.out.1 hn).mono ?_
    rintro e w7 ⟨v7, rfl, O7⟩
    obtain ⟨a7, c7, rfl, _, _, R7, _⟩ := O7.out.1.form
    rw [H.out.1]
    have G7 : Hid (RdG encM w7 a6 ms ∧ RdG encE w7 a7 A ∧ Below W.heap.size W w7) := ⟨G6.out.1.below O7.out.2, R7, G6.out.2.trans (O7.out.2.mono G6.out.2.size)⟩
    clear O7 R7
    go_wp2_with fail
    refine (entries_any w7 (H.out.2.2.2.below G7.out.2.2) H.out.2.1 hm).mono ?_
    rintro e w8 ⟨v8, rfl, O8⟩
    obtain ⟨a8, c8, rfl, _, _, R8, _⟩ := O8.out.1.form
    rw [H.out.2.1]
    have G8 : Hid (RdG encM w8 a6 ms ∧ RdG encE w8 a7 A ∧ RdG encE w8 a8 B ∧ Below W.heap.size W w8) := ⟨G7.out.1.below O8.out.2, G7.out.2.1.below O8.out.2, R8, G7.out.2.2.trans (O8.out.2.mono G7.out.2.2.size)⟩
    clear O8 R8
    have hrm := rmoves_any (c := c7) (d := c8) w8 G8.out.2.1 G8.out.2.2.1 H.out.1 H.out.2.1 (by omega) (by omega)
    rw [HMS.out] at hrm
    go_wp2_with fail
    refine hrm.mono ?_
    rintro e w9 ⟨v9, rfl, O9, B9⟩
    obtain ⟨a9, c9, rfl, _, _, R9, _⟩ := O9.form
    rw [KN.out]
    have G9 : Hid (RdG encM w9 a6 ms ∧ RdG encM w9 a9 ms ∧ Below W.heap.size W w9) := ⟨G8.out.1.below B9, R9, G8.out.2.2.2.trans (B9.mono G8.out.2.2.2.size)⟩
    clear O9 B9 R9 hrm
    go_wp2_with fail
    go_loopg [9] k (fun t v wr => ∃ i : Nat, v = .int .i64 i ∧ i + t = k ∧ Hid (Below w9.heap.size w9 wr))
    case atStart => exact ⟨0, rfl, by omega, Below.refl _ _⟩
    case round =>
      obtain ⟨i, rfl, hi, HR⟩ := hrel
      by_cases hin : i < k
      · have id : (i : Int) < (k : Int) := by omega
        have id0 : (0 : Int) ≤ (i : Int) := by omega
        obtain ⟨x, hx⟩ := get_some KN.out hin
        obtain ⟨b, off, rfl, _⟩ := G9.out.1.some_of hx
        obtain ⟨b2, off2, rfl, _⟩ := G9.out.2.1.some_of hx
        obtain ⟨c0, c1⟩ := (G9.out.1.below HR.out).mvs hx
        obtain ⟨d0, d1⟩ := (G9.out.2.1.below HR.out).mvs hx
        obtain ⟨x1, x2⟩ := x
        simp only at c0 c1 d0 d1
        clear hx
        go_wp2_with fail
        go_quiet (fail)
        go_wp2
        go_roundg (gk - 1)
        case measure => omega
        case rel => exact ⟨i + 1, by go_num, by omega, below_drewN HR.out _⟩
      · obtain rfl : k = i := by omega
        have G10 : Hid (Below W.heap.size W wr) := G9.out.2.2.trans (HR.out.mono G9.out.2.2.size)
        obtain ⟨wa, hwa⟩ : ∃ wa, wa = wr := ⟨_, rfl⟩
        subst hwa
        clear HR hi
        go_upto_region 15 with fail
        have O0 := own_text wa p
        have e0 : [p] = askL p B 0 := by unfold askL names1; simp
        rw [e0] at O0
        have O1 : Hid (Own (wa.alloc (.cells #[.string ⟨p.toArray⟩] 9)) wa.heap.size (.slice (some ⟨wa.heap.size, 0, none⟩) 1 1) (askL p B 0) ∧ Below wa.heap.size wa (wa.alloc (.cells #[.string ⟨p.toArray⟩] 9))) := ⟨O0, bz1 _ _⟩
        obtain ⟨wb, hwb⟩ : ∃ wb, wb = wa.alloc (.cells #[.string ⟨p.toArray⟩] 9) := ⟨_, rfl⟩
        rw [← hwb] at O1 ⊢
        clear O0 e0 hwb
        go_wp2_with fail
        go_loopg [10, 11] m (fun t qv v wr => ∃ j : Nat, v = .int .i64 j ∧ j + t = m ∧ Hid (Own wr wa.heap.size qv (askL p B j) ∧ Below wa.heap.size wa wr))
        case atStart => exact ⟨0, rfl, by omega, O1⟩
        case round =>
          obtain ⟨j, rfl, hj, HJ⟩ := hrel
          have hal : (askL p B j).length ≤ 1000 := by
            unfold askL
            rw [List.length_cons, nam1_len]
            have h1 := List.length_take_le j B
            omega
          have WJ : Below W.heap.size W wr := G10.out.trans (HJ.out.2.mono G10.out.size)
          by_cases hjm : j < m
          · have jd : (j : Int) < (m : Int) := by omega
            obtain ⟨e, he⟩ := get_some H.out.2.1 hjm
            obtain ⟨b, off, rfl, hlt⟩ := H.out.2.2.2.some_of he
            obtain ⟨_, c0, c1⟩ := (H.out.2.2.2.below WJ).ents he
            have hst := ask_snoc p he
            obtain ⟨x, o⟩ := e
            simp only at c0 c1 hst
            have ST : Hid (askL p B (j + 1) = askL p B j ++ [x]) := hst
            clear he hst hlt WJ
            go_wp2_with (at_builtin; refine app_one rfl (.tmp 74) (.tmp 80) rfl wa.heap.size _ (askL p B j) x _ rfl HJ.out.1 rfl (by omega) HJ.out.2.size ?_; intro v5 w5' hown5 hbel5)
            go_roundg (gk - 1)
            case measure => omega
            case rel => exact ⟨j + 1, by go_num, by omega, by rw [ST.out]; exact hown5, HJ.out.2.trans hbel5⟩
          · obtain rfl : m = j := by omega
            obtain ⟨qs, hqs⟩ : ∃ qs, askL p B m = qs := ⟨_, rfl⟩
            rw [hqs] at HJ hal
            obtain ⟨aq, cq, rfl, _, _, Rq⟩ := HJ.out.1.form
            obtain ⟨qn, hqn⟩ : ∃ qn, qs.length = qn := ⟨_, rfl⟩
            rw [hqn] at hal ⊢
            have QN : Hid (qs.length = qn) := hqn
            have G11 : Hid (Rd wr aq qs ∧ Below W.heap.size W wr) := ⟨Rq, WJ⟩
            obtain ⟨wd, hwd⟩ : ∃ wd, wd = wr := ⟨_, rfl⟩
            subst hwd
            clear hqs hqn Rq HJ WJ hj
            go_wp2_with fail
            go_loopg [12] qn (fun t v wr => ∃ i : Nat, v = .int .i64 i ∧ i + t = qn ∧ Hid (Below wd.heap.size wd wr))
            case atStart => exact ⟨0, rfl, by omega, Below.refl _ _⟩
            case round =>
              obtain ⟨i, rfl, hi, HR⟩ := hrel
              by_cases hin : i < qn
              · have id : (i : Int) < (qn : Int) := by omega
                have id0 : (0 : Int) ≤ (i : Int) := by omega
                obtain ⟨bq, oq, rfl, hltq, hcq⟩ := G11.out.1 (by rw [QN.out]; omega)
                have cx := hcq i (by rw [QN.out]; omega)
                obtain ⟨x, hx⟩ : ∃ x, el qs i = x := ⟨_, rfl⟩
                rw [hx] at cx
                have CX : Hid (∀ u : World, Below wd.heap.size wd u → u.cell? ⟨bq, oq + i, none⟩ = some (.string ⟨x.toArray⟩) ∧ Below W.heap.size W u) := fun u hu => ⟨(hu.cell (p := ⟨bq, oq + i, none⟩) hltq).trans cx, G11.out.2.trans (hu.mono G11.out.2.size)⟩
                obtain ⟨r, hr⟩ : ∃ r, forigin A B (rmoves A B) x = r := ⟨_, rfl⟩
                have hor := OG.out wr (CX.out wr HR.out).2 x r hr
                have hro := fun (u : World) (a2 a3 : Option Addr) (c2 c3 : Nat) (h1 : RdG encE u a2 A) (h2 : RdG encE u a3 B) => rorigin_any (c := c2) (d := c3) x u h1 h2 H.out.1 H.out.2.1 (by omega) (by omega) HF.out.2.2.2.2.1 HF.out.2.2.2.2.2 r hr
                unfold orV at hor hro
                obtain ⟨sr, hsr⟩ : ∃ sr, r.getD [] = sr := ⟨_, rfl⟩
                obtain ⟨fr, hfr⟩ : ∃ fr, r.isSome = fr := ⟨_, rfl⟩
                rw [hsr, hfr] at hor hro
                have k1 := (CX.out wr HR.out).1
                have HRO : Hid (∀ (u : World) (a2 a3 : Option Addr) (c2 c3 : Nat) (_ : RdG encE u a2 A) (_ : RdG encE u a3 B), Calls Tryz.prog 19 #[.slice a2 n c2, .slice a3 m c3, tx x] u fun e w' => e = .returned (.tuple #[tx sr, .bool fr]) ∧ Below u.heap.size u w') := hro
                clear cx hcq hltq hx hr hsr hfr hro
                go_wp2_with fail
                refine hor.mono ?_
                rintro e w10 ⟨rfl, B10⟩
                have G12 : Hid (Below wd.heap.size wd w10) := HR.out.trans (B10.mono HR.out.size)
                clear B10 hor k1
                have k10 := (CX.out w10 G12.out).1
                have W0 : Hid (Below w10.heap.size w10 w10.drew) := (Below.refl _ w10).drew
                have BD : Hid (∀ u : World, Below w10.heap.size w10 u → Below wd.heap.size wd u) := fun u hu => G12.out.trans (hu.mono G12.out.size)
                have hea := fun (u : World) (hb : Below w10.heap.size w10 u) => entries_any (c := c) u (H.out.2.2.1.below (CX.out u (BD.out u hb)).2) H.out.1 hn
                have heb := fun (u : World) (hb : Below w10.heap.size w10 u) => entries_any (c := d) u (H.out.2.2.2.below (CX.out u (BD.out u hb)).2) H.out.2.1 hm
                go_upto_region 23 with fail
                go_cut [15, 16] (fun sv iv u => sv = tx sr ∧ iv = .bool fr ∧ Hid (Below w10.heap.size w10 u))
                case first =>
                  go_region_held3 (fun u => u.cell? ⟨bq, oq + i, none⟩ = some (.string ⟨x.toArray⟩)) (first | with_reducible exact kS3 | with_reducible exact kS2 | with_reducible exact kS1 | go_keep)
                    (first
                      | (go_at_call 19; (with_reducible refine (HRO.out _ _ _ _ _ G2.out.1 G2.out.2.1).mono ?_); rintro e w13 ⟨rfl, B13⟩; have G3 : Hid (Below w10.heap.size w10 w13) := G2.out.2.2.trans (B13.mono G2.out.2.2.size); have kS3 := (CX.out _ (BD.out _ G3.out)).1; clear B13)
                      | (go_at_call 10; (with_reducible refine (heb _ G1'.out.2).mono ?_); rintro e w12 ⟨v12, rfl, O12⟩; obtain ⟨a12, c12, rfl, _, _, R12, _⟩ := O12.out.1.form; rw [H.out.2.1]; have G2 : Hid (RdG encE w12 a11 A ∧ RdG encE w12 a12 B ∧ Below w10.heap.size w10 w12) := ⟨G1'.out.1.below O12.out.2, R12, G1'.out.2.trans (O12.out.2.mono G1'.out.2.size)⟩; have kS2 := (CX.out _ (BD.out _ G2.out.2.2)).1; clear O12 R12)
                      | (go_at_call 10; (with_reducible refine (hea _ W0.out).mono ?_); rintro e w11 ⟨v11, rfl, O11⟩; obtain ⟨a11, c11, rfl, _, _, R11, _⟩ := O11.out.1.form; rw [H.out.1]; have G1' : Hid (RdG encE w11 a11 A ∧ Below w10.heap.size w10 w11) := ⟨R11, W0.out.trans (O11.out.2.mono W0.out.size)⟩; have kS1 := (CX.out _ (BD.out _ G1'.out.2)).1; clear O11 R11))
                  all_goals
                    go_wp2_with fail
                    go_meet
                    exact ⟨rfl, rfl, G3⟩
                case rest =>
                  obtain ⟨e1, e2, HB⟩ := hcut
                  subst e1 e2
                  have GF : Hid (Below wd.heap.size wd wc) := BD.out _ HB.out
                  clear hea heb k10
                  go_wp2
                  go_roundg (gk - 1)
                  case measure => omega
                  case rel => exact ⟨i + 1, by go_num, by omega, GF⟩
              · obtain rfl : qn = i := by omega
                have GF : Hid (Below W.heap.size W wr) := G11.out.2.trans (HR.out.mono G11.out.2.size)
                go_wp2
                go_ret
                exact ⟨rfl, GF.out⟩
  · have hfg' : (f && g) = false := by
      cases f <;> cases g <;> first | rfl | exact absurd ⟨rfl, rfl⟩ hfg
    rw [hfg']
    go_wp2
    go_ret
    exact ⟨rfl, G5.out⟩

end Go.Proofs.YtofbphmdkhocdaaGreat
