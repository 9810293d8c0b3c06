/-
  The reference's Hunks by a contract: the document's hunks, in a new row; ErrLong where a list has more than 256 lines. No condition.
-/
import Derived.Test.YtmblkkmfbgngdaaHunks
import Derived.Test.YtmblkkmfbgngdaaRMatch
namespace Go.Proofs.Ytmblkkmfbgngdaa
open Go.RowKit

set_option maxHeartbeats 400000 in
theorem rhunks_long {ao bo : Option Addr} {c d n m : Nat} (w : World) (h : 256 < n ∨ 256 < m) :
    Calls Try.prog 12 #[.slice ao n c, .slice bo m d] w fun e w' => e = .returned (.tuple #[.slice none 0 0, .int .i64 4]) ∧ w' = w := by
  have hm := rmatch_long (ao := ao) (bo := bo) (c := c) (d := d) w h
  clear h
  go_enter Try.func12, Try.ntmps12
  go_wp2_with fail
  refine hm.mono ?_
  rintro e w' ⟨rfl, rfl⟩
  go_wp2
  refine bodyPost_ret (results_tmp2 rfl _ _ _) rfl ?_
  exact ⟨rfl, rfl⟩

/-- Where the next hunk may begin: at the beginning, or behind the pair ahead. -/
def Behind (E : List (Nat × Nat)) (i bi bj : Nat) : Prop := (i = 0 → bi = 0 ∧ bj = 0) ∧ (0 < i → ∃ pi pj, E[i - 1]? = some (pi, pj) ∧ bi = pi + 1 ∧ bj = pj + 1)

theorem ends_pair {xs ys : List Bs} {i : Nat} {e : Nat × Nat} (h : (endsN xs ys)[i]? = some e) (hi : i < (matchL xs ys).length) : (matchL xs ys)[i]? = some (zz e) := by
  rw [← matchN_back] at hi ⊢
  rw [List.length_map] at hi
  unfold endsN at h
  rw [List.getElem?_append_left hi] at h
  rw [List.getElem?_map, h]
  rfl

theorem ends_last {xs ys : List Bs} {i : Nat} {e : Nat × Nat} (h : (endsN xs ys)[i]? = some e) (hi : ¬ i < (matchL xs ys).length) : e = (xs.length, ys.length) := by
  have hl := (List.getElem?_eq_some_iff.1 h).1
  rw [ends_len] at hl
  have e1 : i = (matchN 0 0 xs ys).length := by
    have := congrArg List.length (matchN_back xs ys)
    rw [List.length_map] at this
    omega
  unfold endsN at h
  rw [e1, List.getElem?_concat_length] at h
  simpa using h.symm

set_option maxHeartbeats 3200000 in
set_option maxRecDepth 100000 in
theorem rhunks_any {ao bo : Option Addr} {c d n m : Nat} {xs ys : List Bs} (w : World) (ha : Rd w ao xs) (hb : Rd w bo ys) (hl : xs.length = n) (hk : ys.length = m) (hn : n ≤ 256) (hm : m ≤ 256) (hc : n ≤ c) (hd : m ≤ d) :
    Calls Try.prog 12 #[.slice ao n c, .slice bo m d] w fun e w' => ∃ v' vs, e = .returned (.tuple #[v', .int .i64 0]) ∧ OwnG encH 47 w' w.heap.size v' vs ∧ Hks w' vs (hunksL xs ys) ∧ Below w.heap.size w w' := by
  have hma := rmatch_any (c := c) (d := d) w ha hb hl hk hn hm
  have H : Hid (Rd w ao xs ∧ Rd w bo ys ∧ xs.length = n ∧ ys.length = m) := ⟨ha, hb, hl, hk⟩
  have hml : (matchL xs ys).length ≤ 256 := by
    have := match_len 0 0 xs ys
    have := (lcs_len xs ys).1
    unfold matchL
    omega
  clear ha hb hl hk
  go_enter Try.func12, Try.ntmps12
  go_wp2_with fail
  refine hma.mono ?_
  rintro e w1 ⟨v1, rfl, ho1, hb1⟩
  obtain ⟨a1, c1, rfl, _, _, R1, h1⟩ := ho1.form
  obtain ⟨q1, hq1⟩ : ∃ q, (matchL xs ys).length = q := ⟨_, rfl⟩
  rw [hq1] at hml ⊢
  obtain ⟨E, hE⟩ : ∃ E, endsN xs ys = E := ⟨_, rfl⟩
  have G1 : Hid ((matchL xs ys).length = q1 ∧ RdG encP w1 a1 (matchL xs ys) ∧ (0 < q1 → ∃ g, a1 = some ⟨g, 0, none⟩) ∧ Below w.heap.size w w1 ∧ endsN xs ys = E ∧ E.length = q1 + 1) := ⟨hq1, R1, by rw [← hq1]; exact h1, hb1, hE, by rw [← hE, ends_len, hq1]⟩
  clear hma ho1 hb1 hq1 R1 h1 hE
  go_wp2_with fail
  go_loopg [8, 9, 10, 11] (q1 + 1) (fun k hv iv _ _ wr => ∃ (i bi bj : Nat) (vs : List HV) (Hs : List Hk), iv = .int .i64 i ∧ i + k = q1 + 1 ∧ bi ≤ 257 ∧ bj ≤ 257 ∧ Hid (HI xs ys E i bi bj Hs ∧ HJ 47 (fun _ => False) w w1 wr vs Hs hv ∧ Behind E i bi bj))
  case atStart =>
    refine ⟨0, 0, 0, [], [], rfl, by omega, by omega, by omega, ?_, HJ.start G1.out.2.2.2.1 (fun k q => q.elim), fun _ => ⟨rfl, rfl⟩, fun h => by omega⟩
    exact ⟨by rw [← G1.out.2.2.2.2.1]; rfl, by rw [← G1.out.2.2.2.2.1]; exact fit_ends xs ys, Nat.le_refl _⟩
  case round =>
    obtain ⟨i, bi, bj, vs, Hs, rfl, hi, hbi, hbj, HR⟩ := hrel
    by_cases hin : i ≤ q1
    · have id : (i : Int) ≤ (q1 : Int) := by omega
      obtain ⟨⟨ei, ej⟩, he⟩ : ∃ e, E[i]? = some e := ⟨_, List.getElem?_eq_getElem (by rw [G1.out.2.2.2.2.2]; omega)⟩
      have hdrop : E.drop i = (ei, ej) :: E.drop (i + 1) := by
        obtain ⟨h1, h2⟩ := List.getElem?_eq_some_iff.1 he
        rw [List.drop_eq_getElem_cons h1, h2]
      have hfit := HR.out.1.fit
      rw [hdrop] at hfit
      obtain ⟨f1, f2, f3, f4, f5, f6, f7⟩ := hfit
      rw [H.out.2.2.1] at f2
      rw [H.out.2.2.2] at f4
      have D : Hid (E.drop i = (ei, ej) :: E.drop (i + 1) ∧ E[i]? = some (ei, ej)) := ⟨hdrop, he⟩
      have hbel := HR.out.2.1.tur.below (B := w1.heap.size) (Nat.le_refl _) (fun k _ q => q)
      have RP : Hid (RdG encP wr a1 (matchL xs ys)) := G1.out.2.1.below hbel
      clear he hdrop f5 f6 f7 hbel
      simp only at f1 f3
      have F : Hid (bi ≤ ei ∧ bj ≤ ej ∧ ei ≤ n ∧ ej ≤ m) := ⟨f1, f3, f2, f4⟩
      go_upto_if 34 with fail
      obtain ⟨wA, hwA⟩ : ∃ wA, wA = (wr.alloc (.cells #[.int .i64 0, .int .i64 0] 40)).alloc (.cells #[.int .i64 (n : Int), .int .i64 (m : Int)] 40) := ⟨_, rfl⟩
      obtain ⟨Bt, hBt⟩ : ∃ Bt, wr.heap.size + 1 = Bt := ⟨_, rfl⟩
      obtain ⟨Bf, hBf⟩ : ∃ Bf, wr.heap.size = Bf := ⟨_, rfl⟩
      have A0 : Hid (Below wr.heap.size wr wA ∧ PairAt wA Bf 40 0 0 ∧ PairAt wA Bt 40 n m ∧ wr.heap.size ≤ Bf ∧ wr.heap.size ≤ Bt ∧ Bf ≠ Bt) := by
        have q1 := PairAt.new wr 40 0 0
        have q2 := PairAt.new (wr.alloc (.cells #[.int .i64 0, .int .i64 0] 40)) 40 n m
        have q3 : (wr.alloc (.cells #[.int .i64 0, .int .i64 0] 40)).heap.size = Bt := by rw [← hBt]; simp
        rw [q3] at q2
        rw [hBf] at q1
        subst hwA
        refine ⟨((Below.refl _ wr).alloc (Nat.le_refl _) _).alloc (by simp) _, q1.below ((Below.refl _ _).alloc (Nat.le_refl _) _), q2, by omega, by omega, by omega⟩
      rw [← hwA, hBt, hBf]
      clear hwA hBt hBf
      clear f1 f2 f3 f4
      go_cut [] (fun u => Below wr.heap.size wr u ∧ PairAt u Bf 40 bi bj ∧ PairAt u Bt 40 n m)
      case first =>
        by_cases h0 : 0 < i
        · obtain ⟨i', rfl⟩ : ∃ i', i = i' + 1 := ⟨i - 1, by omega⟩
          obtain ⟨pi, pj, he, r1, r2⟩ := HR.out.2.2.2 h0
          obtain ⟨g1, rfl⟩ := G1.out.2.2.1 (by omega)
          have hp := RP.out.pairs (i := i') (x := ((pi : Int), (pj : Int))) (by
            have := G1.out.2.2.2.2.1
            subst this
            exact ends_pair (by simpa using he) (by rw [G1.out.1]; omega))
          rw [Nat.zero_add] at hp
          have hlt := RP.out.some_of (i := i') (x := ((pi : Int), (pj : Int))) (by
            have := G1.out.2.2.2.2.1
            subst this
            exact ends_pair (by simpa using he) (by rw [G1.out.1]; omega))
          obtain ⟨b', o', e', hlt⟩ := hlt
          obtain ⟨rfl, rfl⟩ : g1 = b' ∧ 0 = o' := by simpa using e'
          have k1 := (A0.out.1.cell (p := ⟨g1, i' * 2, none⟩) hlt).trans hp.1
          have k2 := (A0.out.1.cell (p := ⟨g1, i' * 2 + 1, none⟩) hlt).trans hp.2
          obtain ⟨j1, j2, j3, j4⟩ := A0.out.2.1.cells
          have iq : (i' : Int) < (q1 : Int) := by omega
          have hpi : pi ≤ 257 := by omega
          have hpj : pj ≤ 257 := by omega
          have hd0 : decide (0 < i' + 1) = true := decide_eq_true h0
          have RR : Hid (bi = pi + 1 ∧ bj = pj + 1) := ⟨r1, r2⟩
          clear hp he e' r1 r2
          go_wp2_with fail
          go_big_region
          go_wp2
          go_meet
          refine ⟨?_, ?_, ?_⟩
          · exact (A0.out.1.trans (((Turned.refl (fun k => k = Bf) wA).setCell (p := ⟨Bf, 0, none⟩) (.inl rfl) _).setCell (p := ⟨Bf, 1, none⟩) (.inl rfl) _ |>.below A0.out.1.size (fun k hk q => by have := A0.out.2.2.2.1; omega))).drew
          · have := (A0.out.2.1.put ((pi : Int) + 1) ((pj : Int) + 1)).below (Below.refl _ _).drew
            rw [show (bi : Int) = (pi : Int) + 1 by have := RR.out.1; omega, show (bj : Int) = (pj : Int) + 1 by have := RR.out.2; omega]
            exact this
          · exact (A0.out.2.2.1.turned (((Turned.refl (fun k => k = Bf) wA).setCell (p := ⟨Bf, 0, none⟩) (.inl rfl) _).setCell (p := ⟨Bf, 1, none⟩) (.inl rfl) _) (fun q => A0.out.2.2.2.2.2 q.symm)).below (Below.refl _ _).drew
        · have hd0 : decide (0 < i) = false := decide_eq_false h0
          obtain ⟨r1, r2⟩ := HR.out.2.2.1 (by omega)
          subst r1 r2
          go_wp2
          go_meet
          exact ⟨A0.out.1, A0.out.2.1, A0.out.2.2.1⟩
      case rest =>
        have A1 : Hid (Below wr.heap.size wr wc ∧ PairAt wc Bf 40 bi bj ∧ PairAt wc Bt 40 n m) := hcut
        clear hcut
        go_upto_if 53 with fail
        go_cut [] (fun u => Below wr.heap.size wr u ∧ PairAt u Bf 40 bi bj ∧ PairAt u Bt 40 ei ej)
        case first =>
          by_cases h0 : i < q1
          · have iq : (i : Int) < (q1 : Int) := by omega
            obtain ⟨g1, rfl⟩ := G1.out.2.2.1 (by omega)
            have hx : (matchL xs ys)[i]? = some ((ei : Int), (ej : Int)) := by
              have := G1.out.2.2.2.2.1
              subst this
              exact ends_pair D.out.2 (by rw [G1.out.1]; omega)
            have hp := RP.out.pairs hx
            rw [Nat.zero_add] at hp
            obtain ⟨b', o', e', hlt⟩ := RP.out.some_of hx
            obtain ⟨rfl, rfl⟩ : g1 = b' ∧ 0 = o' := by simpa using e'
            have k1 := (A1.out.1.cell (p := ⟨g1, i * 2, none⟩) hlt).trans hp.1
            have k2 := (A1.out.1.cell (p := ⟨g1, i * 2 + 1, none⟩) hlt).trans hp.2
            obtain ⟨j1, j2, j3, j4⟩ := A1.out.2.2.cells
            clear hp hx e'
            go_wp2
            go_meet
            refine ⟨?_, ?_, ?_⟩
            · exact A1.out.1.trans (((Turned.refl (fun k => k = Bt) wc).setCell (p := ⟨Bt, 0, none⟩) (.inl rfl) _).setCell (p := ⟨Bt, 1, none⟩) (.inl rfl) _ |>.below A1.out.1.size (fun k hk q => by have := A0.out.2.2.2.2.1; omega))
            · exact A1.out.2.1.turned (((Turned.refl (fun k => k = Bt) wc).setCell (p := ⟨Bt, 0, none⟩) (.inl rfl) _).setCell (p := ⟨Bt, 1, none⟩) (.inl rfl) _) (fun q => A0.out.2.2.2.2.2 q)
            · exact A1.out.2.2.put (ei : Int) (ej : Int)
          · have iq : decide ((i : Int) < (q1 : Int)) = false := decide_eq_false (by omega)
            have hx : (ei, ej) = (xs.length, ys.length) := by
              have := G1.out.2.2.2.2.1
              subst this
              exact ends_last D.out.2 (by rw [G1.out.1]; omega)
            rw [H.out.2.2.1, H.out.2.2.2] at hx
            obtain ⟨rfl, rfl⟩ : ei = n ∧ ej = m := by simpa using hx
            clear hx
            go_wp2
            go_meet
            exact A1.out
        case rest =>
          have A2 : Hid (Below wr.heap.size wr wc ∧ PairAt wc Bf 40 bi bj ∧ PairAt wc Bt 40 ei ej) := hcut
          clear hcut A1
          obtain ⟨k1, k2, k3, k4⟩ := A2.out.2.1.cells
          obtain ⟨j1, j2, j3, j4⟩ := A2.out.2.2.cells
          have J0 : Hid (HJ 47 (fun _ => False) w w1 wc vs Hs u8) := HR.out.2.1.below A2.out.1
          by_cases hz : bi = ei ∧ bj = ej
          · obtain ⟨rfl, rfl⟩ := hz
            go_wp2
            go_roundg (gk - 1)
            case measure => omega
            case rel => exact ⟨i + 1, bi + 1, bj + 1, vs, Hs, by go_num, by omega, by have := F.out; omega, by have := F.out; omega, HR.out.1.skip D.out.1, J0.out, fun h => by omega, fun _ => ⟨bi, bj, by simpa using D.out.2, rfl, rfl⟩⟩
          · have Z : Hid (¬ (bi = ei ∧ bj = ej)) := hz
            obtain ⟨sa, sk, sc, sl1, sl2, sl3, sl4, sl5⟩ := slice_ij (ao := ao) (c := c) H.out.2.2.1 hc F.out.1 F.out.2.2.1
            obtain ⟨ta, tk, tc, tl1, tl2, tl3, tl4, tl5⟩ := slice_ij (ao := bo) (c := d) H.out.2.2.2 hd F.out.2.1 F.out.2.2.2
            have SL : Hid ((cutL xs bi ei).length = sk ∧ (cutL ys bj ej).length = tk ∧ (∀ u, Rd u ao xs → Rd u sa (cutL xs bi ei)) ∧ (∀ u, Rd u bo ys → Rd u ta (cutL ys bj ej))) := ⟨sl2, tl2, sl5, tl5⟩
            clear sl2 tl2 sl5 tl5 hc hd hz sl3 tl3 sl4 tl4
            go_upto_region 14 with fail
            go_cut [69] (fun s u => s = .bool true ∧ u = wc)
            case first =>
              by_cases q : bi < ei
              · have q1 : (bi : Int) < (ei : Int) := by omega
                have q2 : decide ((bi : Int) < (ei : Int)) = true := decide_eq_true q1
                go_wp2
                go_meet
                exact ⟨rfl, rfl⟩
              · have q1 : decide ((bi : Int) < (ei : Int)) = false := decide_eq_false (by omega)
                have q2 : decide ((bj : Int) < (ej : Int)) = true := decide_eq_true (by have := Z.out; have := F.out; omega)
                go_wp2
                go_meet
                exact ⟨by rw [decide_eq_true (show bj < ej by have := Z.out; have := F.out; omega)], rfl⟩
            case rest =>
              obtain ⟨rfl, rfl⟩ := hcut
              have OB : Hid (∀ k, u8.ownBlock = some k → k ≠ Bf ∧ k ≠ Bt) := by
                intro k hk
                have h1 := HR.out.2.1.own.lt k hk
                have h2 := A0.out.2.2.2
                omega
              have J1 : Hid (HJ 47 (fun _ => False) w w1 wc.drew vs Hs u8 ∧ PairAt wc.drew Bf 40 bi bj ∧ PairAt wc.drew Bt 40 ei ej) := ⟨J0.out.below (Below.refl _ wc).drew, A2.out.2.1.below (Below.refl _ wc).drew, A2.out.2.2.below (Below.refl _ wc).drew⟩
              clear k3 k4 j3 j4
              go_wp2_with fail
              go_region_held3 (fun u => u.cell? ⟨Bf, 0, none⟩ = some (.int .i64 (bi : Int)) ∧ u.cell? ⟨Bf, 1, none⟩ = some (.int .i64 (bj : Int)) ∧ u.cell? ⟨Bt, 0, none⟩ = some (.int .i64 (ei : Int)) ∧ u.cell? ⟨Bt, 1, none⟩ = some (.int .i64 (ej : Int))) (go_keep)
                (first
                  | (refine stepG_at encH 47 34 64 _ rfl info47 Try.underlying34 rfl (.tmp 70) (.tmp 88) rfl w1.heap.size _ vs ⟨bi, bj, sa, sk, sc, ta, tk, tc⟩ rfl (J1.out.1.own.below ((Below.refl _ wc.drew).alloc (Nat.le_refl _) _)) wc.drew.heap.size rfl (cells_new encH wc.drew ⟨bi, bj, sa, sk, sc, ta, tk, tc⟩ 47) (by have := HR.out.1.len; have := HR.out.2.1.hks.len; omega) (by have := HR.out.1.len; have := HR.out.2.1.hks.len; simp only [maxLen]; omega) (Nat.le_trans J1.out.1.tur.size (by simp)) ?_; intro v8 w8 ho8 hb8 hm8 ht8; have J8 : Hid _ := And.intro ho8 (And.intro hb8 (And.intro hm8 ht8)); clear ho8 hb8 hm8 ht8; have P8 : Hid (PairAt w8 Bf 40 bi bj ∧ PairAt w8 Bt 40 ei ej) := ⟨(J1.out.2.1.below ((Below.refl _ wc.drew).alloc (Nat.le_refl _) _)).turned J8.out.2.2.2 (fun q => (OB.out _ q).1 rfl), (J1.out.2.2.below ((Below.refl _ wc.drew).alloc (Nat.le_refl _) _)).turned J8.out.2.2.2 (fun q => (OB.out _ q).2 rfl)⟩; have k8 := P8.out.1.cells; have i8 := P8.out.2.cells)
                  | fail)
              clear k1 k2 j1 j2 k8 i8
              go_wp2
              go_roundg (gk - 1)
              case measure => omega
              case rel =>
                have A8 := HJ.add (v := ⟨bi, bj, sa, sk, sc, ta, tk, tc⟩) (g := ⟨bi, bj, cutL xs bi ei, cutL ys bj ej⟩) J1.out.1 (Below.refl _ _) ⟨rfl, rfl, SL.out.1, SL.out.2.1, SL.out.2.2.1 _ (H.out.1.below J1.out.1.bel), SL.out.2.2.2 _ (H.out.2.1.below J1.out.1.bel)⟩
                  (fun h0 a ha q => ?_) (fun h0 a ha q => ?_) J8.out.1 J8.out.2.2.1 J8.out.2.2.2
                · exact ⟨i + 1, ei + 1, ej + 1, _, _, by go_num, by omega, by have := F.out; omega, by have := F.out; omega, HR.out.1.more D.out.1 Z.out, A8, fun h => by omega, fun _ => ⟨ei, ej, by simpa using D.out.2, rfl, rfl⟩⟩
                · rcases q with q | q
                  · obtain ⟨b, off, e, hlt, _⟩ := SL.out.2.2.1 w H.out.1 h0
                    simp only at ha
                    rw [ha] at e
                    cases e
                    have h3 : w1.heap.size ≤ b := (J1.out.1.own.lt _ q).1
                    have := J1.out.1.low
                    omega
                  · exact q
                · rcases q with q | q
                  · obtain ⟨b, off, e, hlt, _⟩ := SL.out.2.2.2 w H.out.2.1 h0
                    simp only at ha
                    rw [ha] at e
                    cases e
                    have h3 : w1.heap.size ≤ b := (J1.out.1.own.lt _ q).1
                    have := J1.out.1.low
                    omega
                  · exact q
    · have id : decide ((i : Int) ≤ (q1 : Int)) = false := decide_eq_false (by omega)
      go_wp2
      refine bodyPost_ret (results_tmp2 rfl _ _ _) rfl ?_
      refine ⟨_, vs, rfl, HR.out.2.1.own.low G1.out.2.2.2.1.size, ?_, HR.out.2.1.bel⟩
      have := HR.out.1.split
      rw [List.drop_eq_nil_of_le (by rw [G1.out.2.2.2.2.2]; omega)] at this
      simp only [hunksFrom, List.append_nil] at this
      rw [← this]
      exact HR.out.2.1.hks

end Go.Proofs.Ytmblkkmfbgngdaa
