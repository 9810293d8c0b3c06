/-
  diff.Hunks by a contract: the document's hunks, in a new row, their texts in new rows; ErrLong where a list has more than 256 lines. No condition.
-/
import Derived.Test.YtmblkkmfbgngdaaHMem
import Derived.Test.YtmblkkmfbgngdaaMatch
namespace Go.Proofs.Ytmblkkmfbgngdaa
open Go.RowKit

set_option maxHeartbeats 400000 in
theorem hunks_long {ao bo : Option Addr} {c d n m : Nat} (w : World) (h : 256 < n ∨ 256 < m) :
    Calls Try.prog 11 #[.slice ao n c, .slice bo m d] w fun e w' => e = .returned (.tuple #[.slice none 0 0, .int .i64 4]) ∧ w' = w := by
  have hm := match_long (ao := ao) (bo := bo) (c := c) (d := d) w h
  clear h
  go_enter Try.func11, Try.ntmps11
  go_wp2_with fail
  refine hm.mono ?_
  rintro e w' ⟨rfl, rfl⟩
  go_wp2
  refine bodyPost_ret (results_tmp2 rfl _ _ _) rfl ?_
  exact ⟨rfl, rfl⟩

/-- What is told of the hunks so far. -/
structure HI (xs ys : List Bs) (E : List (Nat × Nat)) (i bi bj : Nat) (Hs : List Hk) : Prop where
  split : Hs ++ hunksFrom xs ys bi bj (E.drop i) = hunksL xs ys
  fit : Fit xs ys bi bj (E.drop i)
  len : Hs.length ≤ i

theorem HI.skip {xs ys : List Bs} {E : List (Nat × Nat)} {i bi bj : Nat} {Hs : List Hk} (h : HI xs ys E i bi bj Hs) (hd : E.drop i = (bi, bj) :: E.drop (i + 1)) : HI xs ys E (i + 1) (bi + 1) (bj + 1) Hs := by
  refine ⟨?_, ?_, by have := h.len; omega⟩
  · have := h.split
    rw [hd] at this
    simpa [hunksFrom] using this
  · have := h.fit
    rw [hd] at this
    exact this.2.2.2.2.2.2

theorem HI.more {xs ys : List Bs} {E : List (Nat × Nat)} {i bi bj ei ej : Nat} {Hs : List Hk} (h : HI xs ys E i bi bj Hs) (hd : E.drop i = (ei, ej) :: E.drop (i + 1)) (hz : ¬ (bi = ei ∧ bj = ej)) : HI xs ys E (i + 1) (ei + 1) (ej + 1) (Hs ++ [⟨bi, bj, cutL xs bi ei, cutL ys bj ej⟩]) := by
  refine ⟨?_, ?_, by have := h.len; simp; omega⟩
  · have := h.split
    rw [hd] at this
    simp only [hunksFrom, if_neg hz] at this
    rw [← this]
    simp
  · have := h.fit
    rw [hd] at this
    exact this.2.2.2.2.2.2

/-- The place where the next hunk may begin is stored. -/
theorem HJ.put {te t : TypeId} {W w5 wr : World} {vs : List HV} {Hs : List Hk} {hv : Value} {Bb : Nat} {i j : Int} (h : HJ te (fun k => k = Bb) W w5 wr vs Hs hv) (hp : PairAt wr Bb t i j) (hB : W.heap.size ≤ Bb) (x y : Int) :
    HJ te (fun k => k = Bb) W w5 ((wr.setCell ⟨Bb, 0, none⟩ (.int .i64 x)).setCell ⟨Bb, 1, none⟩ (.int .i64 y)) vs Hs hv ∧ PairAt ((wr.setCell ⟨Bb, 0, none⟩ (.int .i64 x)).setCell ⟨Bb, 1, none⟩ (.int .i64 y)) Bb t x y :=
  ⟨h.turn (((Turned.refl (fun k => k = Bb) wr).setCell (p := ⟨Bb, 0, none⟩) (.inl rfl) _).setCell (p := ⟨Bb, 1, none⟩) (.inl rfl) _) (fun k q => by omega), hp.put x y⟩

set_option maxHeartbeats 3200000 in
set_option maxRecDepth 100000 in
theorem hunks_any {ao bo : Option Addr} {c d n m : Nat} {xs ys : List Bs} (w : World) (ha : Rd w ao xs) (hb : Rd w bo ys) (hl : xs.length = n) (hk : ys.length = m) (hn : n ≤ 256) (hm : m ≤ 256) (hc : n ≤ c) (hd : m ≤ d) :
    Calls Try.prog 11 #[.slice ao n c, .slice bo m d] w fun e w' => ∃ v' vs, e = .returned (.tuple #[v', .int .i64 0]) ∧ OwnG encH 46 w' w.heap.size v' vs ∧ Hks w' vs (hunksL xs ys) ∧ Below w.heap.size w w' := by
  have hma := match_any (c := c) (d := d) w ha hb hl hk hn hm
  have H : Hid (Rd w ao xs ∧ Rd w bo ys ∧ xs.length = n ∧ ys.length = m) := ⟨ha, hb, hl, hk⟩
  have hml : (matchL xs ys).length ≤ 256 := by
    have := match_len 0 0 xs ys
    have := (lcs_len xs ys).1
    unfold matchL
    omega
  clear ha hb hl hk
  go_enter Try.func11, Try.ntmps11
  go_wp2_with fail
  refine hma.mono ?_
  rintro e w1 ⟨v1, rfl, ho1, hb1⟩
  obtain ⟨a1, c1, rfl, _, _, _, _⟩ := ho1.form
  have G1 : Hid (OwnG encP 39 w1 w.heap.size (.slice a1 (matchL xs ys).length c1) (matchL xs ys) ∧ Below w.heap.size w w1) := ⟨ho1, hb1⟩
  obtain ⟨q1, hq1⟩ : ∃ q, (matchL xs ys).length = q := ⟨_, rfl⟩
  rw [hq1] at G1 hml ⊢
  have Q1 : Hid ((matchL xs ys).length = q1) := hq1
  clear hma ho1 hb1 hq1
  go_upto_region 6 with fail
  obtain ⟨w2, hw2⟩ : ∃ w2, w2 = w1.alloc (.cells #[.int .i64 0, .int .i64 0] 39) := ⟨_, rfl⟩
  obtain ⟨Bb, hBb⟩ : ∃ Bb, w1.heap.size = Bb := ⟨_, rfl⟩
  have b12 : Below w1.heap.size w1 w2 := by rw [hw2]; exact (Below.refl _ w1).alloc (Nat.le_refl _) _
  have G2 : Hid (OwnG encP 39 w2 w.heap.size (.slice a1 q1 c1) (matchL xs ys) ∧ Below w.heap.size w w2 ∧ PairAt w2 Bb 39 0 0 ∧ ∀ k, (Value.slice a1 q1 c1).ownBlock = some k → k < Bb) := by
    refine ⟨G1.out.1.below b12, G1.out.2.trans (b12.mono G1.out.2.size), by rw [hw2, ← hBb]; exact PairAt.new w1 39 0 0, fun k hk => ?_⟩
    rw [← hBb]
    exact (G1.out.1.lt k hk).2
  have BW : Hid (w.heap.size ≤ Bb) := by rw [← hBb]; exact G1.out.2.size
  rw [← hw2, hBb]
  clear hw2 hBb b12 G1
  obtain ⟨E, hE⟩ : ∃ E, endsN xs ys = E := ⟨_, rfl⟩
  obtain ⟨NE, hNE⟩ : ∃ NE, E.length = NE := ⟨_, rfl⟩
  have EE : Hid (endsN xs ys = E ∧ E.length = NE ∧ matchL xs ys ++ [((n : Int), (m : Int))] = E.map zz) := by
    refine ⟨hE, hNE, ?_⟩
    rw [← hE, ← matchN_back]
    simp [endsN, zz, H.out.2.2.1, H.out.2.2.2]
  have hNE2 : NE ≤ 257 := by have := ends_len xs ys; rw [hE, hNE, Q1.out] at this; omega
  have hNE3 : 0 < NE := by have := ends_len xs ys; rw [hE, hNE, Q1.out] at this; omega
  clear hE hNE
  go_wp2_with (at_builtin; refine appG_one encP 39 24 16 _ rfl info39 Try.underlying24 rfl (.tmp 22) (.tmp 28) rfl w.heap.size _ (matchL xs ys) ((n : Int), (m : Int)) _ rfl G2.out.1 rfl (by rw [Q1.out]; omega) (by rw [Q1.out]; simp only [maxLen]; omega) G2.out.2.1.size _ rfl ?_; intro v4 w4 hown4 hbel4 hmov4 htur4; rw [EE.out.2.2] at hown4; obtain ⟨a4, c4, e4, _, _, R4, h4⟩ := hown4.form; obtain ⟨g4, rfl⟩ := h4 (by rw [List.length_map, EE.out.2.1]; omega); rw [List.length_map, EE.out.2.1] at e4; subst e4)
  have hg4 : g4 ≠ Bb := by
    rcases hmov4 with h | h
    · have := G2.out.2.2.2 g4 h.symm
      omega
    · have := h g4 rfl
      have := G2.out.2.2.1.lt
      omega
  have G4 : Hid (RdG encP w4 (some ⟨g4, 0, none⟩) (E.map zz) ∧ g4 ≠ Bb ∧ Below w.heap.size w w4 ∧ PairAt w4 Bb 39 0 0 ∧ w.heap.size ≤ w4.heap.size ∧ g4 < w4.heap.size) := by
    refine ⟨R4, hg4, G2.out.2.1.trans hbel4, G2.out.2.2.1.turned htur4 (fun q => ?_), Nat.le_trans G2.out.2.1.size hbel4.size, (hown4.lt g4 rfl).2⟩
    have := G2.out.2.2.2 Bb q
    omega
  clear hown4 hbel4 hmov4 htur4 h4 R4 hg4
  go_loopg [8, 11, 31] NE (fun k hv _ iv wr => ∃ (i bi bj : Nat) (vs : List HV) (Hs : List Hk), iv = .int .i64 i ∧ i + k = NE ∧ bi ≤ 257 ∧ bj ≤ 257 ∧ Hid (HI xs ys E i bi bj Hs ∧ HJ 46 (fun k => k = Bb) w w4 wr vs Hs hv ∧ PairAt wr Bb 39 bi bj))
  case atStart =>
    refine ⟨0, 0, 0, [], [], rfl, by omega, by omega, by omega, ?_, HJ.start G4.out.2.2.1 (fun k q => by rw [q]; exact G4.out.2.2.2.1.lt), G4.out.2.2.2.1⟩
    exact ⟨by rw [← EE.out.1]; rfl, by rw [← EE.out.1]; exact fit_ends xs ys, Nat.le_refl _⟩
  case round =>
    obtain ⟨i, bi, bj, vs, Hs, rfl, hi, hbi, hbj, HR⟩ := hrel
    by_cases hin : i < NE
    · have id : (i : Int) < (NE : Int) := by omega
      obtain ⟨⟨ei, ej⟩, he⟩ : ∃ e, E[i]? = some e := ⟨_, List.getElem?_eq_getElem (by rw [EE.out.2.1]; exact hin)⟩
      have hdrop : E.drop i = (ei, ej) :: E.drop (i + 1) := by
        obtain ⟨h1, h2⟩ := List.getElem?_eq_some_iff.1 he
        rw [List.drop_eq_getElem_cons h1, h2]
      have hfit := HR.out.1.fit
      rw [hdrop] at hfit
      obtain ⟨f1, f2, f3, f4, f5, f6, f7⟩ := hfit
      rw [H.out.2.2.1] at f2
      rw [H.out.2.2.2] at f4
      have D : Hid (E.drop i = (ei, ej) :: E.drop (i + 1)) := hdrop
      have hpr := G4.out.1.pairs (i := i) (x := ((ei : Int), (ej : Int))) (by rw [List.getElem?_map, he]; rfl)
      rw [Nat.zero_add] at hpr
      have p1 := (HR.out.2.1.tur.cell (p := ⟨g4, i * 2, none⟩) G4.out.2.2.2.2.2 G4.out.2.1).trans hpr.1
      have p2 := (HR.out.2.1.tur.cell (p := ⟨g4, i * 2 + 1, none⟩) G4.out.2.2.2.2.2 G4.out.2.1).trans hpr.2
      obtain ⟨k1, k2, k3, k4⟩ := HR.out.2.2.cells
      have hlt := HR.out.2.2.lt
      clear hpr he hdrop f5 f6 f7
      simp only at f1 f3
      by_cases hz : bi = ei ∧ bj = ej
      · obtain ⟨rfl, rfl⟩ := hz
        go_wp2
        go_roundg (gk - 1)
        case measure => omega
        case rel =>
          obtain ⟨z1, z2⟩ := HR.out.2.1.put HR.out.2.2 BW.out ((bi : Int) + 1) ((bj : Int) + 1)
          have ba := (Below.refl _ ((wr.setCell ⟨Bb, 0, none⟩ (.int .i64 ((bi : Int) + 1))).setCell ⟨Bb, 1, none⟩ (.int .i64 ((bj : Int) + 1)))).alloc (Nat.le_refl _) (.cells #[.int .i64 (bi : Int), .int .i64 (bj : Int)] 39)
          exact ⟨i + 1, bi + 1, bj + 1, vs, Hs, by go_num, by omega, by omega, by omega, HR.out.1.skip D.out, z1.below ba, z2.below ba⟩
      · obtain ⟨sa, sk, sc, sl1, sl2, sl3, sl4, sl5⟩ := slice_ij (ao := ao) (c := c) H.out.2.2.1 hc f1 f2
        obtain ⟨ta, tk, tc, tl1, tl2, tl3, tl4, tl5⟩ := slice_ij (ao := bo) (c := d) H.out.2.2.2 hd f3 f4
        have SL : Hid ((cutL xs bi ei).length = sk ∧ (cutL ys bj ej).length = tk ∧ (∀ u, Rd u ao xs → Rd u sa (cutL xs bi ei)) ∧ (∀ u, Rd u bo ys → Rd u ta (cutL ys bj ej))) := ⟨sl2, tl2, sl5, tl5⟩
        have F : Hid (bi ≤ ei ∧ bj ≤ ej ∧ ei ≤ n ∧ ej ≤ m) := ⟨f1, f3, f2, f4⟩
        have hsk : sk ≤ 256 := by omega
        have htk : tk ≤ 256 := by omega
        have hei : (ei : Int) ≤ 256 := by omega
        have hej : (ej : Int) ≤ 256 := by omega
        have Z : Hid (¬ (bi = ei ∧ bj = ej)) := hz
        clear sl2 tl2 sl5 tl5 f1 f2 f3 f4 hc hd hz sl3 tl3 sl4 tl4
        go_upto_region 9 with fail
        obtain ⟨wE, hwE⟩ : ∃ wE, wE = wr.alloc (.cells #[.int .i64 (ei : Int), .int .i64 (ej : Int)] 39) := ⟨_, rfl⟩
        obtain ⟨Be, hBe⟩ : ∃ Be, wr.heap.size = Be := ⟨_, rfl⟩
        have bE : Below wr.heap.size wr wE := by rw [hwE]; exact (Below.refl _ wr).alloc (Nat.le_refl _) _
        have J : Hid (HJ 46 (fun k => k = Bb) w w4 wE vs Hs u8 ∧ PairAt wE Bb 39 bi bj ∧ PairAt wE Be 39 ei ej ∧ ∀ k, u8.ownBlock = some k → k ≠ Bb ∧ k ≠ Be) := by
          refine ⟨HR.out.2.1.below bE, HR.out.2.2.below bE, by rw [hwE, ← hBe]; exact PairAt.new wr 39 ei ej, fun k hk => ?_⟩
          have h1 := HR.out.2.1.own.lt k hk
          have h2 := HR.out.2.1.old Bb rfl
          omega
        rw [← hwE, hBe]
        clear hwE hBe bE p1 p2 k1 k2 k3 k4 hlt
        obtain ⟨k1, k2, k3, k4⟩ := J.out.2.1.cells
        obtain ⟨j1, j2, j3, j4⟩ := J.out.2.2.1.cells
        go_cut [37] (fun s w => s = .bool true ∧ w = wE)
        case first =>
          by_cases q : bi = ei
          · have q1 : (bi : Int) = (ei : Int) := by omega
            have q2 : ¬ (bj : Int) = (ej : Int) := by have := Z.out; omega
            go_wp2
            go_meet
            exact ⟨rfl, rfl⟩
          · have q1 : ¬ (bi : Int) = (ei : Int) := by omega
            go_wp2
            go_meet
            exact ⟨rfl, rfl⟩
        case rest =>
          obtain ⟨rfl, rfl⟩ := hcut
          have J0 : Hid (HJ 46 (fun k => k = Bb) w w4 wc.drew vs Hs u8 ∧ PairAt wc.drew Bb 39 bi bj ∧ PairAt wc.drew Be 39 ei ej) := ⟨J.out.1.below (Below.refl _ wc).drew, J.out.2.1.below (Below.refl _ wc).drew, J.out.2.2.1.below (Below.refl _ wc).drew⟩
          clear k3 k4 j3 j4
          go_wp2_with fail
          go_region_held3 (fun u => u.cell? ⟨Bb, 0, none⟩ = some (.int .i64 (bi : Int)) ∧ u.cell? ⟨Bb, 1, none⟩ = some (.int .i64 (bj : Int)) ∧ u.cell? ⟨Be, 0, none⟩ = some (.int .i64 (ei : Int)) ∧ u.cell? ⟨Be, 1, none⟩ = some (.int .i64 (ej : Int))) (go_keep)
            (first
              | (refine stepG_at encH 46 31 64 _ rfl info46 Try.underlying31 rfl (.tmp 38) (.tmp 58) rfl w4.heap.size _ vs ⟨bi, bj, a6, sk, c6, a7, tk, c7⟩ rfl (J7.out.1.own.below ((Below.refl _ w7).alloc (Nat.le_refl _) _)) w7.heap.size rfl (cells_new encH w7 ⟨bi, bj, a6, sk, c6, a7, tk, c7⟩ 46) (by have := HR.out.1.len; have := HR.out.2.1.hks.len; omega) (by have := HR.out.1.len; have := HR.out.2.1.hks.len; simp only [maxLen]; omega) (Nat.le_trans J7.out.1.tur.size (by simp)) ?_; intro v8 w8 ho8 hb8 hm8 ht8; have J8 : Hid _ := And.intro ho8 (And.intro hb8 (And.intro hm8 ht8)); clear ho8 hb8 hm8 ht8; have P8 : Hid (PairAt w8 Bb 39 bi bj ∧ PairAt w8 Be 39 ei ej) := ⟨(J7.out.2.1.below ((Below.refl _ w7).alloc (Nat.le_refl _) _)).turned J8.out.2.2.2 (fun q => (J.out.2.2.2 _ q).1 rfl), (J7.out.2.2.below ((Below.refl _ w7).alloc (Nat.le_refl _) _)).turned J8.out.2.2.2 (fun q => (J.out.2.2.2 _ q).2 rfl)⟩; have k8 := P8.out.1.cells; have i8 := P8.out.2.cells)
              | (go_at_call 19; refine (clone_any w6 (SL.out.2.2.2 _ (H.out.2.1.below J6.out.1.bel)) SL.out.2.1 (by omega)).mono ?_; rintro e w7 ⟨a7, c7, rfl, _, R7, n7, b7⟩; have J7 : Hid (HJ 46 (fun k => k = Bb) w w4 w7 vs Hs u8 ∧ PairAt w7 Bb 39 bi bj ∧ PairAt w7 Be 39 ei ej) := ⟨J6.out.1.below b7, J6.out.2.1.below b7, J6.out.2.2.below b7⟩; have C7 : Hid _ := And.intro R7 (And.intro n7 b7); have k7 := J7.out.2.1.cells; have i7 := J7.out.2.2.cells; have l7 := J7.out.2.1.lt; have m7 := J7.out.2.2.lt; clear R7 n7 b7)
              | (go_at_call 19; refine (clone_any wc.drew (SL.out.2.2.1 _ (H.out.1.below J0.out.1.bel)) SL.out.1 (by omega)).mono ?_; rintro e w6 ⟨a6, c6, rfl, _, R6, n6, b6⟩; have J6 : Hid (HJ 46 (fun k => k = Bb) w w4 w6 vs Hs u8 ∧ PairAt w6 Bb 39 bi bj ∧ PairAt w6 Be 39 ei ej) := ⟨J0.out.1.below b6, J0.out.2.1.below b6, J0.out.2.2.below b6⟩; have C6 : Hid _ := And.intro R6 (And.intro n6 b6); have k6 := J6.out.2.1.cells; have i6 := J6.out.2.2.cells; clear R6 n6 b6))
          clear k1 k2 j1 j2 k6 i6 k7 i7 l7 m7
          obtain ⟨k1, k2, k3, k4⟩ := k8
          obtain ⟨j1, j2, j3, j4⟩ := i8
          go_wp2
          go_roundg (gk - 1)
          case measure => omega
          case rel =>
            have A8 := HJ.add (v := ⟨bi, bj, a6, sk, c6, a7, tk, c7⟩) (g := ⟨bi, bj, cutL xs bi ei, cutL ys bj ej⟩) J0.out.1 (C6.out.2.2.trans (C7.out.2.2.mono C6.out.2.2.size)) ⟨rfl, rfl, SL.out.1, SL.out.2.1, C6.out.1.below C7.out.2.2, C7.out.1⟩
              (fun _ a ha q => ?_) (fun _ a ha q => ?_) J8.out.1 J8.out.2.2.1 J8.out.2.2.2
            · obtain ⟨z1, z2⟩ := A8.put P8.out.1 BW.out ((ei : Int) + 1) ((ej : Int) + 1)
              exact ⟨i + 1, ei + 1, ej + 1, _, _, by go_num, by omega, by omega, by omega, HR.out.1.more D.out Z.out, z1, z2⟩
            · have h1 := C6.out.2.1 a ha
              rcases q with q | q
              · have := (J0.out.1.own.lt _ q).2
                omega
              · have := J0.out.2.1.lt
                rw [q] at h1
                omega
            · have h1 := C7.out.2.1 a ha
              have h2 := C6.out.2.2.size
              rcases q with q | q
              · have := (J0.out.1.own.lt _ q).2
                omega
              · have := J0.out.2.1.lt
                rw [q] at h1
                omega
    · obtain rfl : i = NE := by omega
      go_wp2
      refine bodyPost_ret (results_tmp2 rfl _ _ _) rfl ?_
      refine ⟨_, vs, rfl, HR.out.2.1.own.low G4.out.2.2.2.2.1, ?_, HR.out.2.1.bel⟩
      have := HR.out.1.split
      rw [List.drop_eq_nil_of_le (by rw [EE.out.2.1]; omega)] at this
      simp only [hunksFrom, List.append_nil] at this
      rw [← this]
      exact HR.out.2.1.hks

end Go.Proofs.Ytmblkkmfbgngdaa
