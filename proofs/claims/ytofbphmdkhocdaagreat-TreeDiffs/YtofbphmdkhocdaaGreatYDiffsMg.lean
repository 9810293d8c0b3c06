/-
  The law TreeDiffs, walked: of whatever lists and texts it returns true, and what was there when it was called is as it was.
-/
import Derived.Test.YtofbphmdkhocdaaGreatYRDiffsMg
import Derived.Test.YtofbphmdkhocdaaGreatM44
import Derived.Test.YtofbphmdkhocdaaGreatYRightMg
import Derived.Test.YtofbphmdkhocdaaGreatYAwakeMg
namespace Go.Proofs.YtofbphmdkhocdaaGreat
open Go.RowKit

set_option maxHeartbeats 3200000 in
set_option maxRecDepth 100000 in
theorem diffs_walk (ao bo po : Option Addr) (n c m d pn pc : Nat) (A B : List En) (ps : List Bs) (W : World) (hl : A.length = n) (hk : B.length = m) (hpl : ps.length = pn) (hn : n * 24 ≤ 140737488355328) (hm : m * 24 ≤ 140737488355328) (ha : RdG encE W ao A) (hb : RdG encE W bo B) (hp : Rd W po ps) (hps : ∀ x ∈ ps, x.length ≤ 9223372036854775807) :
    Calls Tryz.prog 3 #[.slice ao n c, .slice bo m d, .slice po pn pc] W fun e w' => e = .returned (.bool true) ∧ Below W.heap.size W w' := by
  have H : Hid (A.length = n ∧ B.length = m ∧ RdG encE W ao A ∧ RdG encE W bo B) := ⟨hl, hk, ha, hb⟩
  have HP : Hid (ps.length = pn ∧ Rd W po ps) := ⟨hpl, hp⟩
  have hli := fun (u : World) (h : Rd u po ps) => limit_any (c := pc) u h hpl hps
  have L16 := lim_le ps
  obtain ⟨L, hL⟩ : ∃ L, limS ps = L := ⟨_, rfl⟩
  obtain ⟨ee, hee⟩ : ∃ ee, limE ps = ee := ⟨_, rfl⟩
  rw [hL] at L16
  rw [hL, hee] at hli
  obtain ⟨ln, hln⟩ : ∃ ln, L.length = ln := ⟨_, rfl⟩
  have l16 : ln ≤ 16 := by rw [← hln]; exact L16
  have HL : Hid (L.length = ln) := hln
  clear hl hk ha hb hpl hp hps L16 hln hL hee
  go_enter Tryz.func3, Tryz.ntmps3
  go_wp2_with fail
  refine (awake_walk _).mono ?_
  rintro e w1 ⟨rfl, B1⟩
  have G1 : Hid (Below W.heap.size W w1) := B1
  clear B1
  have hli1 := hli w1 (HP.out.2.below G1.out)
  go_wp2_with fail
  refine hli1.mono ?_
  rintro e w2 ⟨v2, rfl, O2, B2⟩
  obtain ⟨a2, c2, rfl, _, _, R2⟩ := O2.form
  rw [HL.out]
  have hb2 : Below w2.heap.size w2 (w2.alloc (.cells #[.slice a2 ln c2] 26)) := (Below.refl _ w2).alloc (Nat.le_refl _) _
  have B2' : Below W.heap.size W w2 := G1.out.trans (B2.mono G1.out.size)
  have G2 : Hid (Rd (w2.alloc (.cells #[.slice a2 ln c2] 26)) a2 L ∧ Below W.heap.size W (w2.alloc (.cells #[.slice a2 ln c2] 26)) ∧ (w2.alloc (.cells #[.slice a2 ln c2] 26)).cell? ⟨w2.heap.size, 0, none⟩ = some (.slice a2 ln c2) ∧ w2.heap.size < (w2.alloc (.cells #[.slice a2 ln c2] 26)).heap.size) := ⟨R2.below hb2, B2'.trans (hb2.mono B2'.size), by simp, by simp⟩
  clear O2 B2 R2 hb2 B2' hli1
  go_upto_region 4 with fail
  obtain ⟨w3, hw3⟩ : ∃ w3, w3 = w2.alloc (.cells #[.slice a2 ln c2] 26) := ⟨_, rfl⟩
  obtain ⟨P1, hP1⟩ : ∃ P1, w2.heap.size = P1 := ⟨_, rfl⟩
  rw [← hw3, hP1] at G2
  rw [← hw3, hP1]
  clear hw3 hP1 hli
  by_cases he : ee = 0
  · subst he
    obtain ⟨f, hf⟩ : ∃ f, isTree A = f := ⟨_, rfl⟩
    obtain ⟨g, hg⟩ : ∃ g, isTree B = g := ⟨_, rfl⟩
    have hri := right_any (c := c) (d := d) w3 (H.out.2.2.1.below G2.out.2.1) (H.out.2.2.2.below G2.out.2.1) H.out.1 H.out.2.1 hn hm f g hf hg
    have FG : Hid (isTree A = f ∧ isTree B = g) := ⟨hf, hg⟩
    clear hf hg
    go_wp2_with fail
    refine hri.mono ?_
    rintro e w5 ⟨rfl, B5⟩
    have G5 : Hid (w5.cell? ⟨P1, 0, none⟩ = some (.slice a2 ln c2) ∧ Rd w5 a2 L ∧ Below W.heap.size W w5 ∧ P1 < w5.heap.size) := ⟨(B5.cell (p := ⟨P1, 0, none⟩) G2.out.2.2.2).trans G2.out.2.2.1, G2.out.1.below B5, G2.out.2.1.trans (B5.mono G2.out.2.1.size), Nat.lt_of_lt_of_le G2.out.2.2.2 B5.size⟩
    clear B5 hri
    cases f with
    | false =>
      go_wp2
      go_ret
      exact ⟨rfl, G5.out.2.2.1⟩
    | true =>
      cases g with
      | false =>
        go_wp2
        go_ret
        exact ⟨rfl, G5.out.2.2.1⟩
      | true =>
        obtain ⟨_, _, rA, lA, fA, _⟩ := isTree_ok FG.out.1
        obtain ⟨_, _, rB, lB, fB, _⟩ := isTree_ok FG.out.2
        have hn64 : n ≤ 64 := by rw [← H.out.1]; exact lA
        have hm64 : m ≤ 64 := by rw [← H.out.2.1]; exact lB
        have HF : Hid (Rise A ∧ Rise B ∧ Fine A ∧ Fine B) := ⟨rA, rB, fA, fB⟩
        clear rA lA fA rB lB fB FG
        go_upto_region 7 with (at_builtin; (refine appG_list encE 52 22 24 _ rfl Tryz.info52 Tryz.underlying22 rfl (.tmp 27) (.tmp 28) rfl w5.heap.size _ [] A ao n c rfl (ownE_zero w5) rfl ((H.out.2.2.1.below G5.out.2.2.1).below (bz1 w5 _)) H.out.1 (by simp; omega) (by simp [maxLen]; omega) (by simp) ?_; intro v6 w6 hown6 hbel6 _ _; have G6 : Hid (OwnG encE 52 w6 w5.heap.size v6 A ∧ Below w5.heap.size w5 w6) := ⟨hown6, (bz1 w5 _).trans hbel6⟩; clear hown6 hbel6))
        have W6 : Hid (Below W.heap.size W w6) := G5.out.2.2.1.trans (G6.out.2.mono G5.out.2.2.1.size)
        go_upto_region 8 with (at_builtin; (refine appG_list encE 52 22 24 _ rfl Tryz.info52 Tryz.underlying22 rfl (.tmp 30) (.tmp 31) rfl w6.heap.size _ [] B bo m d rfl (ownE_zero w6) rfl ((H.out.2.2.2.below W6.out).below (bz1 w6 _)) H.out.2.1 (by simp; omega) (by simp [maxLen]; omega) (by simp) ?_; intro v7 w7 hown7 hbel7 _ _; have G7 : Hid (OwnG encE 52 w7 w6.heap.size v7 B ∧ Below w6.heap.size w6 w7) := ⟨hown7, (bz1 w6 _).trans hbel7⟩; clear hown7 hbel7))
        obtain ⟨ax, cx, rfl, hcx, _, Rx, _⟩ := G6.out.1.form
        obtain ⟨ay, cy, rfl, hcy, _, Ry, _⟩ := G7.out.1.form
        rw [H.out.1] at hcx
        rw [H.out.2.1] at hcy
        rw [H.out.1, H.out.2.1]
        have B57 : Below w5.heap.size w5 w7 := G6.out.2.trans (G7.out.2.mono G6.out.2.size)
        have T7 : Hid (RdG encE w7 ax A ∧ RdG encE w7 ay B ∧ w7.cell? ⟨P1, 0, none⟩ = some (.slice a2 ln c2) ∧ Rd w7 a2 L ∧ Below W.heap.size W w7 ∧ P1 < w7.heap.size ∧ n ≤ cx ∧ m ≤ cy) := ⟨Rx.below G7.out.2, Ry, (B57.cell (p := ⟨P1, 0, none⟩) G5.out.2.2.2).trans G5.out.1, G5.out.2.1.below B57, G5.out.2.2.1.trans (B57.mono G5.out.2.2.1.size), Nat.lt_of_lt_of_le G5.out.2.2.2 B57.size, hcx, hcy⟩
        clear Rx Ry B57 hcx hcy G6 G7 W6 G5
        have BA : Hid (∀ u : World, Below w7.heap.size w7 u → Below W.heap.size W u ∧ u.cell? ⟨P1, 0, none⟩ = some (.slice a2 ln c2) ∧ Rd u a2 L) := fun u hu => ⟨T7.out.2.2.2.2.1.trans (hu.mono T7.out.2.2.2.2.1.size), (hu.cell (p := ⟨P1, 0, none⟩) T7.out.2.2.2.2.2.1).trans T7.out.2.2.1, T7.out.2.2.2.1.below hu⟩
        have y1 := T7.out.2.2.1
        go_cut [11] (fun dv u => Hid (OwnG encC 60 u w7.heap.size dv (fdiff (hasS L) A B) ∧ Below w7.heap.size w7 u))
        case first =>
          have hea := fun (u : World) (hb : Below w7.heap.size w7 u) => entries_any (c := c) u (H.out.2.2.1.below (BA.out u hb).1) H.out.1 hn
          have heb := fun (u : World) (hb : Below w7.heap.size w7 u) => entries_any (c := d) u (H.out.2.2.2.below (BA.out u hb).1) H.out.2.1 hm
          have hpa := fun (u : World) (hb : Below w7.heap.size w7 u) => paths_any (c := c2) u (BA.out u hb).2.2 HL.out (by omega)
          have lens : Hid (A.length ≤ 100000 ∧ B.length ≤ 100000 ∧ L.length ≤ 100000) := ⟨by rw [H.out.1]; omega, by rw [H.out.2.1]; omega, by rw [HL.out]; omega⟩
          have W0 : Hid (Below w7.heap.size w7 w7.drew) := (Below.refl _ w7).drew
          go_region_held3 (fun u => u.cell? ⟨P1, 0, none⟩ = some (.slice a2 ln c2)) (first | with_reducible exact kS11 | with_reducible exact kS10 | with_reducible exact kS9 | with_reducible exact kS8 | go_keep)
            (first
              | (go_at_call 9; (with_reducible refine (rdiff_any _ G10.out.1 G10.out.2.1 rfl rfl lens.out.1 lens.out.2.1 G10.out.2.2.1 rfl lens.out.2.2).mono ?_); rintro e w11 ⟨v11, rfl, O11, B11⟩; have G11 : Hid (OwnG encC 60 w11 w7.heap.size v11 (fdiff (hasS L) A B) ∧ Below w7.heap.size w7 w11) := ⟨OwnG.low O11 G10.out.2.2.2.size, G10.out.2.2.2.trans (B11.mono G10.out.2.2.2.size)⟩; have kS11 := (BA.out _ G11.out.2).2.1; clear O11 B11)
              | (go_at_call 11; (with_reducible refine (hpa _ G9.out.2.2).mono ?_); rintro e w10 ⟨v10, rfl, O10, B10⟩; obtain ⟨a10, c10, rfl, _, _, R10⟩ := O10.form; have G10 : Hid (RdG encE w10 a8 A ∧ RdG encE w10 a9 B ∧ Rd w10 a10 L ∧ Below w7.heap.size w7 w10) := ⟨G9.out.1.below B10, G9.out.2.1.below B10, R10, G9.out.2.2.trans (B10.mono G9.out.2.2.size)⟩; have kS10 := (BA.out _ G10.out.2.2.2).2.1; clear O10 B10 R10)
              | (go_at_call 10; (with_reducible refine (heb _ G8.out.2).mono ?_); rintro e w9 ⟨v9, rfl, O9⟩; obtain ⟨a9, c9, rfl, _, _, R9, _⟩ := O9.out.1.form; have G9 : Hid (RdG encE w9 a8 A ∧ RdG encE w9 a9 B ∧ Below w7.heap.size w7 w9) := ⟨G8.out.1.below O9.out.2, R9, G8.out.2.trans (O9.out.2.mono G8.out.2.size)⟩; have kS9 := (BA.out _ G9.out.2.2).2.1; clear O9 R9)
              | (go_at_call 10; (with_reducible refine (hea _ W0.out).mono ?_); rintro e w8 ⟨v8, rfl, O8⟩; obtain ⟨a8, c8, rfl, _, _, R8, _⟩ := O8.out.1.form; have G8 : Hid (RdG encE w8 a8 A ∧ Below w7.heap.size w7 w8) := ⟨R8, W0.out.trans (O8.out.2.mono W0.out.size)⟩; have kS8 := (BA.out _ G8.out.2).2.1; clear O8 R8))
          all_goals
            go_wp2_with fail
            go_meet
            exact G11
        case rest =>
          obtain ⟨a11, c11, e11, _, _, R11, _⟩ := OwnG.form hcut.out.1
          subst e11
          have BB := hcut.out.2
          have TC : Hid (RdG encC wc a11 (fdiff (hasS L) A B) ∧ RdG encE wc ax A ∧ RdG encE wc ay B ∧ Rd wc a2 L ∧ Below W.heap.size W wc) := ⟨R11, T7.out.1.below BB, T7.out.2.1.below BB, (BA.out _ BB).2.2, (BA.out _ BB).1⟩
          have z1 := (BA.out _ BB).2.1
          have Z1 : Hid (P1 < wc.heap.size ∧ wc.cell? ⟨P1, 0, none⟩ = some (.slice a2 ln c2)) := ⟨Nat.lt_of_lt_of_le T7.out.2.2.2.2.2.1 BB.size, z1⟩
          have hdi := diff_cap (K := max cx cy) (c := cx) (d := cy) (lc := c2) (lo := a2) (ln := ln) (ls := L) wc TC.out.2.1 TC.out.2.2.1 H.out.1 H.out.2.1 T7.out.2.2.2.2.2.2.1 T7.out.2.2.2.2.2.2.2 (Nat.le_max_left _ _) (Nat.le_max_right _ _) (by omega) (by omega) HF.out.1 HF.out.2.1 HF.out.2.2.1 HF.out.2.2.2 TC.out.2.2.2.1 HL.out (by omega)
          have hsa := fun (f : Bool) (hf : (fdiff (hasS L) A B).isEmpty = f) (u : World) (h1 : RdG encE u ax A) (h2 : RdG encE u ay B) (h3 : Rd u a2 L) => tsame_cap (K := max cx cy) (c := cx) (d := cy) (lc := c2) (lo := a2) (ln := ln) (ls := L) u h1 h2 H.out.1 H.out.2.1 T7.out.2.2.2.2.2.2.1 T7.out.2.2.2.2.2.2.2 (Nat.le_max_left _ _) (Nat.le_max_right _ _) (by omega) (by omega) HF.out.1 HF.out.2.1 HF.out.2.2.1 HF.out.2.2.2 h3 HL.out (by omega) f hf
          obtain ⟨cs, hcs⟩ : ∃ cs, fdiff (hasS L) A B = cs := ⟨_, rfl⟩
          have hkl := fdiff_len (hasS L) A B
          rw [hcs] at hdi hsa TC hkl
          rw [hcs]
          obtain ⟨kn, hkn⟩ : ∃ kn, cs.length = kn := ⟨_, rfl⟩
          have KN : Hid (cs.length = kn ∧ kn ≤ 4000000000000000000) := ⟨hkn, by rw [← hkn]; have h1 := H.out.1; have h2 := H.out.2.1; omega⟩
          rw [hkn]
          clear hcut R11 BB hcs hkn y1 hkl
          go_wp2_with fail
          refine hdi.mono ?_
          rintro e w12 ⟨v12, rfl, O12, B12⟩
          obtain ⟨a12, c12, rfl, _, _, R12, _⟩ := O12.form
          rw [KN.out.1]
          have T12 : Hid (RdG encC w12 a12 cs ∧ RdG encC w12 a11 cs ∧ RdG encE w12 ax A ∧ RdG encE w12 ay B ∧ Rd w12 a2 L ∧ Below W.heap.size W w12) := ⟨R12, TC.out.1.below B12, TC.out.2.1.below B12, TC.out.2.2.1.below B12, TC.out.2.2.2.1.below B12, TC.out.2.2.2.2.trans (B12.mono TC.out.2.2.2.2.size)⟩
          have Z2 : Hid (P1 < w12.heap.size ∧ w12.cell? ⟨P1, 0, none⟩ = some (.slice a2 ln c2)) := ⟨Nat.lt_of_lt_of_le Z1.out.1 B12.size, (B12.cell (p := ⟨P1, 0, none⟩) Z1.out.1).trans Z1.out.2⟩
          clear O12 B12 R12 hdi z1
          go_wp2_with fail
          refine (csame_any w12 T12.out.1 T12.out.2.1 KN.out.1 KN.out.2).mono ?_
          rintro e w13 ⟨rfl, B13⟩
          have T13 : Hid (RdG encE w13 ax A ∧ RdG encE w13 ay B ∧ Rd w13 a2 L ∧ Below W.heap.size W w13) := ⟨T12.out.2.2.1.below B13, T12.out.2.2.2.1.below B13, T12.out.2.2.2.2.1.below B13, T12.out.2.2.2.2.2.trans (B13.mono T12.out.2.2.2.2.2.size)⟩
          have z3 : w13.cell? ⟨P1, 0, none⟩ = some (.slice a2 ln c2) := (B13.cell (p := ⟨P1, 0, none⟩) Z2.out.1).trans Z2.out.2
          clear B13
          obtain ⟨f, hf⟩ : ∃ f, cs.isEmpty = f := ⟨_, rfl⟩
          have F : f = ((kn : Int) == 0) := by
            rw [← hf, ← KN.out.1]
            cases cs with
            | nil => rfl
            | cons _ _ => simp; omega
          have hsa1 := hsa f hf w13 T13.out.1 T13.out.2.1 T13.out.2.2.1
          have FH : Hid (f = ((kn : Int) == 0)) := F
          clear hf F hsa
          go_wp2_with fail
          refine hsa1.mono ?_
          rintro e w14 ⟨rfl, B14⟩
          have T14 : Hid (RdG encE w14 ax A ∧ RdG encE w14 ay B ∧ Below W.heap.size W w14) := ⟨T13.out.1.below B14, T13.out.2.1.below B14, T13.out.2.2.2.trans (B14.mono T13.out.2.2.2.size)⟩
          clear B14 hsa1 z3
          rw [FH.out]
          go_wp2_with fail
          refine (entries_any w14 T14.out.1 H.out.1 hn).mono ?_
          rintro e w15 ⟨v15, rfl, O15⟩
          obtain ⟨a15, c15, rfl, _, _, R15, _⟩ := O15.out.1.form
          rw [H.out.1]
          have G15 : Hid (RdG encE w15 a15 A ∧ RdG encE w15 ay B ∧ Below W.heap.size W w15) := ⟨R15, T14.out.2.1.below O15.out.2, T14.out.2.2.trans (O15.out.2.mono T14.out.2.2.size)⟩
          clear O15 R15
          go_wp2_with fail
          refine (entries_any w15 (H.out.2.2.1.below G15.out.2.2) H.out.1 hn).mono ?_
          rintro e w16 ⟨v16, rfl, O16⟩
          obtain ⟨a16, c16, rfl, _, _, R16, _⟩ := O16.out.1.form
          rw [H.out.1]
          have G16 : Hid (RdG encE w16 a15 A ∧ RdG encE w16 a16 A ∧ RdG encE w16 ay B ∧ Below W.heap.size W w16) := ⟨G15.out.1.below O16.out.2, R16, G15.out.2.1.below O16.out.2, G15.out.2.2.trans (O16.out.2.mono G15.out.2.2.size)⟩
          clear O16 R16
          go_wp2_with fail
          refine (sameTree_any w16 G16.out.1 G16.out.2.1 H.out.1 (by omega)).mono ?_
          rintro e w17 ⟨rfl, B17⟩
          have G17 : Hid (RdG encE w17 ay B ∧ Below W.heap.size W w17) := ⟨G16.out.2.2.1.below B17, G16.out.2.2.2.trans (B17.mono G16.out.2.2.2.size)⟩
          clear B17
          go_wp2_with fail
          refine (entries_any w17 G17.out.1 H.out.2.1 hm).mono ?_
          rintro e w18 ⟨v18, rfl, O18⟩
          obtain ⟨a18, c18, rfl, _, _, R18, _⟩ := O18.out.1.form
          rw [H.out.2.1]
          have G18 : Hid (RdG encE w18 a18 B ∧ Below W.heap.size W w18) := ⟨R18, G17.out.2.trans (O18.out.2.mono G17.out.2.size)⟩
          clear O18 R18
          go_wp2_with fail
          refine (entries_any w18 (H.out.2.2.2.below G18.out.2) H.out.2.1 hm).mono ?_
          rintro e w19 ⟨v19, rfl, O19⟩
          obtain ⟨a19, c19, rfl, _, _, R19, _⟩ := O19.out.1.form
          rw [H.out.2.1]
          have G19 : Hid (RdG encE w19 a18 B ∧ RdG encE w19 a19 B ∧ Below W.heap.size W w19) := ⟨G18.out.1.below O19.out.2, R19, G18.out.2.trans (O19.out.2.mono G18.out.2.size)⟩
          clear O19 R19
          go_wp2_with fail
          refine (sameTree_any w19 G19.out.1 G19.out.2.1 H.out.2.1 (by omega)).mono ?_
          rintro e w20 ⟨rfl, B20⟩
          have G20 : Hid (Below W.heap.size W w20) := G19.out.2.2.trans (B20.mono G19.out.2.2.size)
          clear B20
          go_wp2
          go_ret
          exact ⟨rfl, G20.out⟩
  · have he' : (ee == 0) = false := by simpa using he
    go_wp2
    go_ret
    exact ⟨rfl, G2.out.2.1⟩

end Go.Proofs.YtofbphmdkhocdaaGreat
