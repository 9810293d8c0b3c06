/-
  The law TreeParts, walked: of whatever lists, texts and number it returns true, and what was there when it was called is as it was.
-/
import Derived.Test.YtbclmpjcfddlcaaYPartsL
namespace Go.Proofs.Ytbclmpjcfddlcaa
open Go.RowKit

theorem has_class {W : World} {ao : Option Addr} {c n : Nat} {ss : List Bs} (x : Bs) (ha : Rd W ao ss) (hl : ss.length = n) (hn : n ≤ 4000000000000000000) (hx : x.length ≤ 9223372036854775807) (f : Bool) (hf : hasS ss x = f) (u : SW (Grew W)) :
    Calls Try.prog 14 #[.agg #[.slice ao n c], .string ⟨x.toArray⟩] u.w fun e w' => e = .returned (.bool f) ∧ ∃ u' : SW (Grew W), w' = u'.w := by
  refine (has_any x u.w (ha.below u.ok) hl hn hx f hf).mono ?_
  rintro e w' ⟨rfl, hb⟩
  exact ⟨rfl, ⟨w', Below.trans u.ok (hb.mono (Below.size u.ok))⟩, rfl⟩

set_option maxHeartbeats 3200000 in
set_option maxRecDepth 100000 in
theorem parts_walk (ao bo po : Option Addr) (n c m d pn pc : Nat) (z : Int) (A B : List En) (ps : List Bs) (W : World) (hl : A.length = n) (hk : B.length = m) (hpl : ps.length = pn) (hn : n * 24 ≤ 140737488355328) (hm : m * 24 ≤ 140737488355328) (hnc : n ≤ c) (hmd : m ≤ d) (ha : RdG encE W ao A) (hb : RdG encE W bo B) (hp : Rd W po ps) (hps : ∀ x ∈ ps, x.length ≤ 9223372036854775807) :
    Calls Try.prog 4 #[.slice ao n c, .slice bo m d, .slice po pn pc, .int .i64 z] W fun e w' => e = .returned (.bool true) ∧ Below W.heap.size W w' := by
  have H : Hid (A.length = n ∧ B.length = m ∧ RdG encE W ao A ∧ RdG encE W bo B ∧ n ≤ c ∧ m ≤ d) := ⟨hl, hk, ha, hb, hnc, hmd⟩
  have HP : Hid (ps.length = pn ∧ Rd W po ps ∧ ∀ x ∈ ps, x.length ≤ 9223372036854775807) := ⟨hpl, hp, hps⟩
  have hli := fun (u : World) (h : Rd u po ps) => limit_any (c := pc) u h hpl hps
  have LI := lim_is ps
  obtain ⟨L, hL⟩ : ∃ L, limS ps = L := ⟨_, rfl⟩
  obtain ⟨ee, hee⟩ : ∃ ee, limE ps = ee := ⟨_, rfl⟩
  rw [hL] at LI
  rw [hL, hee] at hli
  obtain ⟨ln, hln⟩ : ∃ ln, L.length = ln := ⟨_, rfl⟩
  have l16 : ln ≤ 16 := by rw [← hln]; exact LI.2.1
  have HL : Hid (LimL L ∧ L.length = ln) := ⟨LI, hln⟩
  clear hl hk ha hb hnc hmd hpl hp hps LI hln hL hee
  go_enter Try.func4, Try.ntmps4
  go_wp2_with fail
  refine (awake_walk _).mono ?_
  rintro e w1 ⟨rfl, B1⟩
  have G1 : Hid (Below W.heap.size W w1) := B1
  clear B1
  have hli1 := hli w1 (HP.out.2.1.below G1.out)
  go_wp2_with fail
  refine hli1.mono ?_
  rintro e w2 ⟨v2, rfl, O2, B2⟩
  obtain ⟨a2, c2, rfl, _, _, R2⟩ := O2.form
  rw [HL.out.2]
  have hb2 : Below w2.heap.size w2 (w2.alloc (.cells #[.slice a2 ln c2] 29)) := (Below.refl _ w2).alloc (Nat.le_refl _) _
  have B2' : Below W.heap.size W w2 := G1.out.trans (B2.mono G1.out.size)
  have G2 : Hid (Rd (w2.alloc (.cells #[.slice a2 ln c2] 29)) a2 L ∧ Below W.heap.size W (w2.alloc (.cells #[.slice a2 ln c2] 29)) ∧ (w2.alloc (.cells #[.slice a2 ln c2] 29)).cell? ⟨w2.heap.size, 0, none⟩ = some (.slice a2 ln c2) ∧ w2.heap.size < (w2.alloc (.cells #[.slice a2 ln c2] 29)).heap.size ∧ W.heap.size ≤ w2.heap.size) := ⟨R2.below hb2, B2'.trans (hb2.mono B2'.size), by simp, by simp, B2'.size⟩
  clear O2 B2 R2 hb2 B2' hli1
  go_wp2_with fail
  obtain ⟨w3, hw3⟩ : ∃ w3, w3 = w2.alloc (.cells #[.slice a2 ln c2] 29) := ⟨_, rfl⟩
  obtain ⟨P1, hP1⟩ : ∃ P1, w2.heap.size = P1 := ⟨_, rfl⟩
  rw [← hw3, hP1] at G2
  rw [← hw3, hP1]
  clear hw3 hP1
  refine (paths_any w3 G2.out.1 HL.out.2 (by omega)).mono ?_
  rintro e w4 ⟨v4, rfl, O4, B4⟩
  obtain ⟨a4, c4, rfl, hc4, _, R4⟩ := O4.form
  rw [HL.out.2] at hc4
  rw [HL.out.2]
  have G4 : Hid (w4.cell? ⟨P1, 0, none⟩ = some (.slice a2 ln c2) ∧ Rd w4 a2 L ∧ Rd w4 a4 L ∧ Below W.heap.size W w4 ∧ P1 < w4.heap.size ∧ W.heap.size ≤ P1) := ⟨(B4.cell (p := ⟨P1, 0, none⟩) G2.out.2.2.2.1).trans G2.out.2.2.1, G2.out.1.below B4, R4, G2.out.2.1.trans (B4.mono G2.out.2.1.size), Nat.lt_of_lt_of_le G2.out.2.2.2.1 B4.size, G2.out.2.2.2.2⟩
  clear O4 B4 R4
  by_cases he : ee = 0
  · subst he
    obtain ⟨f, hf⟩ : ∃ f, isTree A = f := ⟨_, rfl⟩
    obtain ⟨g, hg⟩ : ∃ g, isTree B = g := ⟨_, rfl⟩
    have hri := right_any (c := c) (d := d) w4 (H.out.2.2.1.below G4.out.2.2.2.1) (H.out.2.2.2.1.below G4.out.2.2.2.1) H.out.1 H.out.2.1 hn hm f g hf hg
    have FG : Hid (isTree A = f ∧ isTree B = g) := ⟨hf, hg⟩
    clear hf hg
    go_wp2_with fail
    refine hri.mono ?_
    rintro e w5 ⟨rfl, B5⟩
    have G5 : Hid (w5.cell? ⟨P1, 0, none⟩ = some (.slice a2 ln c2) ∧ Rd w5 a2 L ∧ Rd w5 a4 L ∧ Below W.heap.size W w5 ∧ P1 < w5.heap.size ∧ W.heap.size ≤ P1) := ⟨(B5.cell (p := ⟨P1, 0, none⟩) G4.out.2.2.2.2.1).trans G4.out.1, G4.out.2.1.below B5, G4.out.2.2.1.below B5, G4.out.2.2.2.1.trans (B5.mono G4.out.2.2.2.1.size), Nat.lt_of_lt_of_le G4.out.2.2.2.2.1 B5.size, G4.out.2.2.2.2.2⟩
    clear B5 hri
    cases f with
    | false =>
      go_wp2
      go_ret
      exact ⟨rfl, G5.out.2.2.2.1⟩
    | true =>
      cases g with
      | false =>
        go_wp2
        go_ret
        exact ⟨rfl, G5.out.2.2.2.1⟩
      | true =>
        by_cases h2 : ln < 2
        · have h2' : (ln : Int) < 2 := by omega
          go_wp2
          go_ret
          exact ⟨rfl, G5.out.2.2.2.1⟩
        · have h2' : ¬ (ln : Int) < 2 := by omega
          have h2d : decide ((ln : Int) < 2) = false := decide_eq_false h2'
          go_upto_region 8 with fail
          obtain ⟨k, hk, hk0, hk1⟩ := cut_val z (ln := ln) (by omega) l16
          rw [hk]
          clear hk
          have L1 : LimL (L.take k) := HL.out.1.sub (List.take_sublist k L)
          have L2 : LimL (L.drop k) := HL.out.1.sub (List.drop_sublist k L)
          obtain ⟨a6, k6, c6, hs6, hl6, rfl, _, hr6⟩ := slice_j (ao := a4) (n := ln) (c := c4) (j := k) HL.out.2 hc4 (by omega)
          obtain ⟨a7, k7, c7, hs7, hl7, _, _, hr7⟩ := slice_i (ao := a4) (n := ln) (c := c4) (i := k6) HL.out.2 hc4 (by omega)
          have sm : ∀ l : List Bs, LimL l → ∀ x ∈ l, x.length ≤ 9223372036854775807 := by
            intro l h x hx
            have := path_len (List.all_eq_true.1 h.2.2.1 x hx)
            omega
          have hli6 := limit_any (c := c6) w5 (hr6 w5 G5.out.2.2.1) hl6 (sm _ L1)
          have hli7 := fun (u : World) (h : Rd u a7 (L.drop k6)) => limit_any (c := c7) u h hl7 (sm _ L2)
          rw [L1.own.1, L1.own.2] at hli6
          rw [L2.own.1, L2.own.2] at hli7
          have PF := parts_fact HL.out.1 hk0 (by rw [HL.out.2]; exact hk1) A B
          have HH : Hid (LimL (L.take k6) ∧ LimL (L.drop k6) ∧ (L.take k6).length = k6 ∧ (L.drop k6).length = k7 ∧ (∀ w, Rd w a4 L → Rd w a7 (L.drop k6))) := ⟨L1, L2, hl6, hl7, hr7⟩
          have PFH : Hid ((fdiff (hasS (L.take k6)) A B ++ fdiff (hasS (L.drop k6)) A B).length = (fdiff (hasS L) A B).length ∧ ∀ c ∈ fdiff (hasS L) A B, c ∈ fdiff (hasS (L.take k6)) A B ++ fdiff (hasS (L.drop k6)) A B ∧ hasS L c.1 = true ∧ hasS (L.take k6) c.1 = !(hasS (L.drop k6) c.1)) := PF
          have hk7 : k7 ≤ 16 := by rw [← hl7, List.length_drop, HL.out.2]; omega
          clear L1 L2 hr6 hr7 sm hl6 hl7 PF
          go_wp2_with fail
          refine hli6.mono ?_
          rintro e w6 ⟨v6, rfl, O6, B6⟩
          obtain ⟨a8, c8, rfl, _, _, R6⟩ := O6.form
          rw [HH.out.2.2.1]
          have hb6 : Below w6.heap.size w6 (w6.alloc (.cells #[.slice a8 k6 c8] 29)) := (Below.refl _ w6).alloc (Nat.le_refl _) _
          have B6' : Below w5.heap.size w5 (w6.alloc (.cells #[.slice a8 k6 c8] 29)) := B6.trans (hb6.mono B6.size)
          have G6 : Hid ((w6.alloc (.cells #[.slice a8 k6 c8] 29)).cell? ⟨P1, 0, none⟩ = some (.slice a2 ln c2) ∧ (w6.alloc (.cells #[.slice a8 k6 c8] 29)).cell? ⟨w6.heap.size, 0, none⟩ = some (.slice a8 k6 c8) ∧ Rd (w6.alloc (.cells #[.slice a8 k6 c8] 29)) a2 L ∧ Rd (w6.alloc (.cells #[.slice a8 k6 c8] 29)) a4 L ∧ Rd (w6.alloc (.cells #[.slice a8 k6 c8] 29)) a8 (L.take k6) ∧ Below W.heap.size W (w6.alloc (.cells #[.slice a8 k6 c8] 29)) ∧ P1 < (w6.alloc (.cells #[.slice a8 k6 c8] 29)).heap.size ∧ w6.heap.size < (w6.alloc (.cells #[.slice a8 k6 c8] 29)).heap.size) :=
            ⟨(B6'.cell (p := ⟨P1, 0, none⟩) G5.out.2.2.2.2.1).trans G5.out.1, by simp, G5.out.2.1.below B6', G5.out.2.2.1.below B6', R6.below hb6, G5.out.2.2.2.1.trans (B6'.mono G5.out.2.2.2.1.size), Nat.lt_of_lt_of_le G5.out.2.2.2.2.1 B6'.size, by simp⟩
          clear O6 B6 R6 hb6 B6' hli6
          go_wp2_with fail
          obtain ⟨w7, hw7⟩ : ∃ w7, w7 = w6.alloc (.cells #[.slice a8 k6 c8] 29) := ⟨_, rfl⟩
          obtain ⟨P2, hP2⟩ : ∃ P2, w6.heap.size = P2 := ⟨_, rfl⟩
          rw [← hw7, hP2] at G6
          rw [← hw7, hP2]
          clear hw7 hP2
          refine (hli7 w7 (HH.out.2.2.2.2 _ G6.out.2.2.2.1)).mono ?_
          rintro e w8 ⟨v8, rfl, O8, B8⟩
          obtain ⟨a9, c9, rfl, _, _, R8⟩ := O8.form
          rw [HH.out.2.2.2.1]
          have hb8 : Below w8.heap.size w8 (w8.alloc (.cells #[.slice a9 k7 c9] 29)) := (Below.refl _ w8).alloc (Nat.le_refl _) _
          have B8' : Below w7.heap.size w7 (w8.alloc (.cells #[.slice a9 k7 c9] 29)) := B8.trans (hb8.mono B8.size)
          have T8 : Hid (Tri W (w8.alloc (.cells #[.slice a9 k7 c9] 29)) P1 P2 w8.heap.size a2 a8 a9 ln k6 k7 c2 c8 c9 L (L.take k6) (L.drop k6)) :=
            ⟨(B8'.cell (p := ⟨P1, 0, none⟩) G6.out.2.2.2.2.2.2.1).trans G6.out.1, (B8'.cell (p := ⟨P2, 0, none⟩) G6.out.2.2.2.2.2.2.2).trans G6.out.2.1, by simp, G6.out.2.2.1.below B8', G6.out.2.2.2.2.1.below B8', R8.below hb8, G6.out.2.2.2.2.2.1.trans (B8'.mono G6.out.2.2.2.2.2.1.size), Nat.lt_of_lt_of_le G6.out.2.2.2.2.2.2.1 B8'.size, Nat.lt_of_lt_of_le G6.out.2.2.2.2.2.2.2 B8'.size, by simp⟩
          clear O8 B8 R8 hb8 B8' hli7
          go_upto_region 12 with fail
          obtain ⟨w9, hw9⟩ : ∃ w9, w9 = w8.alloc (.cells #[.slice a9 k7 c9] 29) := ⟨_, rfl⟩
          obtain ⟨P3, hP3⟩ : ∃ P3, w8.heap.size = P3 := ⟨_, rfl⟩
          rw [← hw9, hP3] at T8
          rw [← hw9, hP3]
          clear hw9 hP3 hs6 hs7 G5 G6
          have y1 := T8.out.x1
          obtain ⟨_, _, rA, lA, fA, _⟩ := isTree_ok FG.out.1
          obtain ⟨_, _, rB, lB, fB, _⟩ := isTree_ok FG.out.2
          have hn64 : n ≤ 64 := by rw [← H.out.1]; exact lA
          have hm64 : m ≤ 64 := by rw [← H.out.2.1]; exact lB
          have hdi := fun (u : World) (hb : Below W.heap.size W u) (lo : Option Addr) (ls : List Bs) (lnn lc : Nat) (hL : Rd u lo ls) (hll : ls.length = lnn) (h16 : lnn ≤ 16) => diff_cap (K := max c d) (c := c) (d := d) (lc := lc) (lo := lo) (ln := lnn) (ls := ls) u (H.out.2.2.1.below hb) (H.out.2.2.2.1.below hb) H.out.1 H.out.2.1 H.out.2.2.2.2.1 H.out.2.2.2.2.2 (Nat.le_max_left _ _) (Nat.le_max_right _ _) (by omega) (by omega) rA rB fA fB hL hll (by omega)
          have hkl := fdiff_len (hasS L) A B
          have hkl1 := fdiff_len (hasS (L.take k6)) A B
          have hkl2 := fdiff_len (hasS (L.drop k6)) A B
          have fC := fdiff_fine (hasS L) fA fB
          obtain ⟨cs, hcs⟩ : ∃ cs, fdiff (hasS L) A B = cs := ⟨_, rfl⟩
          obtain ⟨d1, hd1⟩ : ∃ d1, fdiff (hasS (L.take k6)) A B = d1 := ⟨_, rfl⟩
          obtain ⟨d2, hd2⟩ : ∃ d2, fdiff (hasS (L.drop k6)) A B = d2 := ⟨_, rfl⟩
          have hdi1 := hdi w9 T8.out.b a2 L ln c2 T8.out.r1 HL.out.2 l16
          have hdi2 := fun (u : World) (h : Tri W u P1 P2 P3 a2 a8 a9 ln k6 k7 c2 c8 c9 L (L.take k6) (L.drop k6)) => hdi u h.b a8 (L.take k6) k6 c8 h.r2 HH.out.2.2.1 (by omega)
          have hdi3 := fun (u : World) (h : Tri W u P1 P2 P3 a2 a8 a9 ln k6 k7 c2 c8 c9 L (L.take k6) (L.drop k6)) => hdi u h.b a9 (L.drop k6) k7 c9 h.r3 HH.out.2.2.2.1 hk7
          rw [hcs] at hdi1 PFH hkl fC
          rw [hd1] at PFH hkl1 hdi2
          rw [hd2] at PFH hkl2 hdi3
          obtain ⟨kn, hkn⟩ : ∃ kn, cs.length = kn := ⟨_, rfl⟩
          have hk128 : kn ≤ 128 := by rw [← hkn]; omega
          have PP : Hid (cs.length = kn ∧ d1.length ≤ 128 ∧ d2.length ≤ 128 ∧ FineC cs) := ⟨hkn, by omega, by omega, fC⟩
          clear hdi hkl hkl1 hkl2 fC hcs hd1 hd2 hkn rA lA fA rB lB fB FG
          go_wp2_with fail
          refine hdi1.mono ?_
          rintro e w10 ⟨v10, rfl, O10, B10⟩
          obtain ⟨a10, c10, rfl, _, _, R10, _⟩ := O10.form
          rw [PP.out.1]
          have G10 : Hid (RdG encC w10 a10 cs ∧ Tri W w10 P1 P2 P3 a2 a8 a9 ln k6 k7 c2 c8 c9 L (L.take k6) (L.drop k6)) := ⟨R10, T8.out.below B10⟩
          clear O10 B10 R10 hdi1 y1 T8
          go_upto_region 13 with fail
          go_cut [17] (fun pv u => Hid (OwnG encC 36 u w10.heap.size pv (d1 ++ d2) ∧ Below w10.heap.size w10 u))
          case first =>
            have y2 := G10.out.2.x2
            have y3 := G10.out.2.x3
            have TD : Hid (Tri W w10.drew P1 P2 P3 a2 a8 a9 ln k6 k7 c2 c8 c9 L (L.take k6) (L.drop k6)) := G10.out.2.below (Below.refl _ w10).drew
            go_region_held3 (fun u => u.cell? ⟨P2, 0, none⟩ = some (.slice a8 k6 c8) ∧ u.cell? ⟨P3, 0, none⟩ = some (.slice a9 k7 c9)) (first | with_reducible exact kS13 | with_reducible exact kS12 | with_reducible exact kS11 | go_keep)
              (first
                | (refine stepG_list encC 36 25 32 (.agg #[.string ⟨#[]⟩, .int .u64 0, .int .u64 0]) rfl Try.info36 Try.underlying25 (by rfl) (.tmp 79) (.tmp 83) (by rfl) w10.heap.size v11 d1 d2 a12 d2.length c12 (by rfl) G12.out.1 (by rfl) G12.out.2.1 rfl (by have := PP.out.2; omega) (by have := PP.out.2; simp only [maxLen]; omega) G12.out.2.2.2.size ?_; intro v13 w13 O13 B13 T13; have G13 : Hid (OwnG encC 36 w13 w10.heap.size v13 (d1 ++ d2) ∧ Below w10.heap.size w10 w13) := ⟨O13, G12.out.2.2.2.trans B13⟩; have kS13 : w13.cell? ⟨P2, 0, none⟩ = some (.slice a8 k6 c8) ∧ w13.cell? ⟨P3, 0, none⟩ = some (.slice a9 k7 c9) := ⟨(G13.out.2.cell (p := ⟨P2, 0, none⟩) G10.out.2.l2).trans G10.out.2.x2, (G13.out.2.cell (p := ⟨P3, 0, none⟩) G10.out.2.l3).trans G10.out.2.x3⟩; clear O13 B13 T13)
                | (go_at_call 8; refine (hdi3 _ G11.out.2.1).mono ?_; rintro e w12 ⟨v12, rfl, O12, B12⟩; obtain ⟨a12, c12, rfl, _, _, R12, _⟩ := O12.form; have G12 : Hid (OwnG encC 36 w12 w10.heap.size v11 d1 ∧ RdG encC w12 a12 d2 ∧ Tri W w12 P1 P2 P3 a2 a8 a9 ln k6 k7 c2 c8 c9 L (L.take k6) (L.drop k6) ∧ Below w10.heap.size w10 w12) := ⟨G11.out.1.below B12, R12, G11.out.2.1.below B12, G11.out.2.2.trans (B12.mono G11.out.2.2.size)⟩; have kS12 := And.intro G12.out.2.2.1.x2 G12.out.2.2.1.x3; clear O12 B12 R12)
                | (go_at_call 8; refine (hdi2 _ TD.out).mono ?_; rintro e w11 ⟨v11, rfl, O11, B11⟩; have G11 : Hid (OwnG encC 36 w11 w10.heap.size v11 d1 ∧ Tri W w11 P1 P2 P3 a2 a8 a9 ln k6 k7 c2 c8 c9 L (L.take k6) (L.drop k6) ∧ Below w10.heap.size w10 w11) := ⟨O11, TD.out.below B11, (Below.refl _ w10).drew.trans B11⟩; have kS11 := And.intro G11.out.2.1.x2 G11.out.2.1.x3; clear O11 B11))
            all_goals
              go_wp2_with fail
              go_meet
              exact G13
          case rest =>
            obtain ⟨a13, c13, e13, _, _, R13, _⟩ := OwnG.form hcut.out.1
            obtain ⟨ds, hds⟩ : ∃ ds, d1 ++ d2 = ds := ⟨_, rfl⟩
            rw [hds] at PFH R13 e13
            have hdl : ds.length = kn := PFH.out.1.trans PP.out.1
            rw [hdl] at e13
            subst e13
            have G13 : Hid (RdG encC wc a13 ds ∧ RdG encC wc a10 cs ∧ Tri W wc P1 P2 P3 a2 a8 a9 ln k6 k7 c2 c8 c9 L (L.take k6) (L.drop k6) ∧ ds.length = kn) := ⟨R13, G10.out.1.below hcut.out.2, G10.out.2.below hcut.out.2, hdl⟩
            clear R13 hdl hcut hds hdi2 hdi3
            go_wp2_with fail
            go_loopg [18] kn (fun k v wr => ∃ i : Nat, v = .int .i64 i ∧ i + k = kn ∧ Hid (Below wc.heap.size wc wr))
            case atStart => exact ⟨0, rfl, by omega, Below.refl _ _⟩
            case round =>
              obtain ⟨i, rfl, hi, HR⟩ := hrel
              obtain ⟨go, hgo⟩ : ∃ go, go = gk := ⟨_, rfl⟩
              rw [← hgo] at hi
              have GO : Hid (go = gk) := hgo
              clear hgo
              by_cases hin : i < kn
              · have id : (i : Int) < (kn : Int) := by omega
                have id0 : (0 : Int) ≤ (i : Int) := by omega
                obtain ⟨e, he⟩ := get_some PP.out.1 hin
                obtain ⟨b, off, rfl, hlt⟩ := G13.out.2.1.some_of he
                obtain ⟨c0, c1, cc2⟩ := G13.out.2.1.chgs he
                have hpf := PFH.out.2 e (List.mem_of_getElem? he)
                have hxl := PP.out.2.2.2 e (List.mem_of_getElem? he)
                obtain ⟨x, o, o2⟩ := e
                simp only at c0 c1 cc2 hpf hxl
                have E : Hid (wc.cell? ⟨b, off + i * 3, none⟩ = some (tx x) ∧ wc.cell? ⟨b, off + i * 3 + 1, none⟩ = some (.int .u64 (o.toNat : Int)) ∧ wc.cell? ⟨b, off + i * 3 + 2, none⟩ = some (.int .u64 (o2.toNat : Int)) ∧ b < wc.heap.size) := ⟨c0, c1, cc2, hlt⟩
                have F : Hid (((x, o, o2) : Chg) ∈ ds ∧ hasS L x = true ∧ hasS (L.take k6) x = !(hasS (L.drop k6) x)) := hpf
                clear he c0 c1 cc2 hlt hpf
                go_wp2_with fail
                go_loopg [19, 20] kn (fun k fv v wq => ∃ j : Nat, v = .int .i64 j ∧ fv = .bool ((ds.take j).any (fun y => decide (y = (x, o, o2)))) ∧ j + k = kn ∧ Hid (Below wc.heap.size wc wq))
                case atStart => exact ⟨0, rfl, rfl, by omega, HR⟩
                case round =>
                  obtain ⟨j, rfl, rfl, hj, HJ⟩ := hrel
                  by_cases hjn : j < kn
                  · have jd : (j : Int) < (kn : Int) := by omega
                    have jd0 : (0 : Int) ≤ (j : Int) := by omega
                    obtain ⟨y, hy⟩ := get_some G13.out.2.2.2 hjn
                    obtain ⟨b2, off2, rfl, hlt2⟩ := G13.out.1.some_of hy
                    obtain ⟨z0, z1, z2⟩ := (G13.out.1.below HJ.out).chgs hy
                    have hst := takeE_snoc hy
                    obtain ⟨x', p, p2⟩ := y
                    simp only at z0 z1 z2
                    have c0 : wr.cell? ⟨b, off + i * 3, none⟩ = some (tx x) := (HJ.out.cell (p := ⟨b, off + i * 3, none⟩) E.out.2.2.2).trans E.out.1
                    have c1 : wr.cell? ⟨b, off + i * 3 + 1, none⟩ = some (.int .u64 (o.toNat : Int)) := (HJ.out.cell (p := ⟨b, off + i * 3 + 1, none⟩) E.out.2.2.2).trans E.out.2.1
                    have cc2 : wr.cell? ⟨b, off + i * 3 + 2, none⟩ = some (.int .u64 (o2.toNat : Int)) := (HJ.out.cell (p := ⟨b, off + i * 3 + 2, none⟩) E.out.2.2.2).trans E.out.2.2.1
                    obtain ⟨fo, hfo⟩ : ∃ fo, (ds.take j).any (fun y => decide (y = (x, o, o2))) = fo := ⟨_, rfl⟩
                    obtain ⟨fe, hfe⟩ : ∃ fe, decide (((x', p, p2) : Chg) = (x, o, o2)) = fe := ⟨_, rfl⟩
                    have heq := eql36 x' x p p2 o o2 fe hfe
                    have ST : Hid ((ds.take (j + 1)).any (fun y => decide (y = (x, o, o2))) = (fo || fe)) := by
                      show _ = _
                      rw [hst, List.any_append, hfo]
                      simp [← hfe]
                    rw [hfo]
                    clear hy hlt2 hst hfo hfe
                    cases fo with
                    | true =>
                      go_wp2_with fail
                      go_quiet (fail)
                      go_wp2
                      go_roundg (gk - 1)
                      case measure => omega
                      case rel => exact ⟨j + 1, by go_num, by rw [ST.out]; rfl, by omega, below_drewN HJ.out _⟩
                    | false =>
                      go_wp2_with fail
                      go_quiet (fail)
                      go_wp2
                      go_roundg (gk - 1)
                      case measure => omega
                      case rel => exact ⟨j + 1, by go_num, by rw [ST.out]; rfl, by omega, below_drewN HJ.out _⟩
                  · obtain rfl : j = kn := by omega
                    have e2 : ds.take j = ds := List.take_of_length_le (by rw [G13.out.2.2.2]; omega)
                    have e3 : (ds.take j).any (fun y => decide (y = (x, o, o2))) = true := by
                      rw [e2, List.any_eq_true]
                      exact ⟨_, F.out.1, by simp⟩
                    rw [e3]
                    clear e2 e3
                    obtain ⟨h2, hh2⟩ : ∃ h2, hasS (L.drop k6) x = h2 := ⟨_, rfl⟩
                    have hA := fun u => has_class (c := c2) x G13.out.2.2.1.r1 HL.out.2 (by omega) hxl true F.out.2.1 u
                    have hB := fun u => has_class (c := c8) x G13.out.2.2.1.r2 HH.out.2.2.1 (by omega) hxl (!h2) (by rw [F.out.2.2, hh2]) u
                    have hC := fun u => has_class (c := c9) x G13.out.2.2.1.r3 HH.out.2.2.2.1 (by omega) hxl h2 hh2 u
                    have q1 : ∀ u : SW (Grew wc), u.w.cell? ⟨P1, 0, none⟩ = some (.slice a2 ln c2) := fun u => (Below.cell (p := ⟨P1, 0, none⟩) u.ok G13.out.2.2.1.l1).trans G13.out.2.2.1.x1
                    have q2 : ∀ u : SW (Grew wc), u.w.cell? ⟨P2, 0, none⟩ = some (.slice a8 k6 c8) := fun u => (Below.cell (p := ⟨P2, 0, none⟩) u.ok G13.out.2.2.1.l2).trans G13.out.2.2.1.x2
                    have q3 : ∀ u : SW (Grew wc), u.w.cell? ⟨P3, 0, none⟩ = some (.slice a9 k7 c9) := fun u => (Below.cell (p := ⟨P3, 0, none⟩) u.ok G13.out.2.2.1.l3).trans G13.out.2.2.1.x3
                    have q4 : ∀ u : SW (Grew wc), u.w.cell? ⟨b, off + i * 3, none⟩ = some (.string ⟨x.toArray⟩) := fun u => (Below.cell (p := ⟨b, off + i * 3, none⟩) u.ok E.out.2.2.2).trans E.out.1
                    have NE : Nonempty (SW (Grew wc)) := ⟨⟨wc, Below.refl _ wc⟩⟩
                    clear hh2
                    cases h2 with
                    | true =>
                      have hB' := hB
                      simp only [Bool.not_true] at hB'
                      clear hB
                      go_upto_region 24 with fail
                      refine wp_region_class (S := Grew wc) (by kernel_rfl) (by kernel_rfl) (Below.drew HJ.out) ?_
                      repeat (go_big_quiet_step (first | with_reducible exact hA _ | with_reducible exact hB' _ | with_reducible exact hC _))
                      refine wpQuiet_nil ?_
                      intro _ hw'
                      obtain ⟨u, hw''⟩ := hw'
                      subst hw''
                      have BU : Hid (Below wc.heap.size wc u.w) := u.ok
                      clear hA hB' hC q1 q2 q3 q4 NE
                      go_wp2
                      go_roundg (go - 1)
                      case measure => have := GO.out; omega
                      case rel => exact ⟨i + 1, by go_num, by omega, BU⟩
                    | false =>
                      have hB' := hB
                      simp only [Bool.not_false] at hB'
                      clear hB
                      go_upto_region 24 with fail
                      refine wp_region_class (S := Grew wc) (by kernel_rfl) (by kernel_rfl) (Below.drew HJ.out) ?_
                      repeat (go_big_quiet_step (first | with_reducible exact hA _ | with_reducible exact hB' _ | with_reducible exact hC _))
                      refine wpQuiet_nil ?_
                      intro _ hw'
                      obtain ⟨u, hw''⟩ := hw'
                      subst hw''
                      have BU : Hid (Below wc.heap.size wc u.w) := u.ok
                      clear hA hB' hC q1 q2 q3 q4 NE
                      go_wp2
                      go_roundg (go - 1)
                      case measure => have := GO.out; omega
                      case rel => exact ⟨i + 1, by go_num, by omega, BU⟩
              · obtain rfl : i = kn := by omega
                go_wp2
                go_ret
                exact ⟨rfl, G13.out.2.2.1.b.trans (HR.out.mono G13.out.2.2.1.b.size)⟩
  · have he' : (ee == 0) = false := by simpa using he
    go_wp2
    go_ret
    exact ⟨rfl, G4.out.2.2.2.1⟩

end Go.Proofs.Ytbclmpjcfddlcaa
