/-
  The reader's unary by a contract, over that of postfix and its own further on. No condition.
-/
import Derived.Test.YtdgdckmhmmigkaaGreatDoorBRow
namespace Go.Proofs.YtdgdckmhmmigkaaGreatDoor
open Go.RowKit

set_option maxHeartbeats 1600000 in
set_option maxRecDepth 100000 in
theorem punary_any {E : Int} {b : Nat} {ao : Option Addr} {n c k : Nat} {ts : List Tk} (hP : hd (sB [33]) (ts.drop k) = false → Pt E .post 76 b ao n c ts k) (hN : k < n → Pt E .unary 66 b ao n c ts (k + 1)) : Pt E .unary 66 b ao n c ts k := by
  intro w h
  obtain ⟨W0, m0, hW0, hm0, hx0, bW0, _, hB0, hlt0⟩ := lay6 (Below.refl _ w) (Nat.le_refl _) 50 (.int .i64 0) (.string ⟨#[]⟩) (.int .i64 0) (.int .u64 0) (.slice none 0 0) (.int .i64 0)
  have hlb := h.box.lt
  have H : Hid (Rst W0 b ao n c ts k ∧ Below w.heap.size w W0 ∧ w.heap.size = m0) := ⟨h.below bW0, bW0, hm0⟩
  have HX : Hid (Box6 W0 m0 50 (.int .i64 0) (.string ⟨#[]⟩) (.int .i64 0) (.int .u64 0) (.slice none 0 0) (.int .i64 0)) := hx0
  have hm0b : ¬ m0 = b := by omega
  have h0b : b < m0 := by omega
  clear h bW0 hx0
  by_cases h3 : hd (sB [33]) (ts.drop k) = true
  · have hkn : k < n := by have := (drop_pk h3).1; have := H.out.1.len; omega
    have hmy := made_yes 11 [33] W0 H.out.1 h3
    have HN : Hid (Pt E .unary 66 b ao n c ts (k + 1)) := hN hkn
    have H3 : Hid (hd (sB [33]) (ts.drop k) = true) := h3
    clear hP hN h3
    generalize hpp : (pk (ts.drop k)).pos = pp at hmy
    have HP : Hid ((pk (ts.drop k)).pos = pp) := hpp
    clear hpp
    go_enter Tryz.func66, Tryz.ntmps66
    go_upto_region 1 with fail
    clear hW0 hm0
    go_wp2_with fail
    refine hmy.mono ?_
    rintro e w2 ⟨rfl, hR2, hT2⟩
    obtain ⟨W4, m4, hW4, hm4, hx4, bW4, b4, hB4, hlt4⟩ := lay6 (Below.refl _ w2) (Nat.le_refl _) 50 (.int .i64 11) (.string ⟨#[]⟩) (.int .i64 0) (.int .u64 0) (.slice none 0 0) (.int .i64 pp)
    have hs2 := hT2.size
    have hm4b : ¬ m4 = b := by omega
    have h04 : m0 < m4 := by omega
    have HX4 : Hid (Box6 W4 m4 50 (.int .i64 11) (.string ⟨#[]⟩) (.int .i64 0) (.int .u64 0) (.slice none 0 0) (.int .i64 pp) ∧ Box6 W4 m0 50 (.int .i64 0) (.string ⟨#[]⟩) (.int .i64 0) (.int .u64 0) (.slice none 0 0) (.int .i64 0)) := ⟨hx4, (HX.out.turned hT2 hm0b).below bW4⟩
    have H4 : Hid (Rst W4 b ao n c ts (k + 1) ∧ Tn b w W4 ∧ m4 < W4.heap.size) := ⟨hR2.below bW4, ((Tn.of H.out.2.1).trans hT2).trans (Tn.of bW4), hlt4⟩
    clear hR2 hT2 hx4 b4 bW4 hmy
    go_upto_region 2 with fail
    clear hW4 hm4
    go_wp2_with fail
    refine (HN.out W4 H4.out.1).mono ?_
    rintro e w5 ⟨o, y, i, j, a, l, q, p, f, k2, rfl, hk2, hR5, hT5, hO5⟩
    have hs5 := hT5.size
    obtain ⟨W6, m6, hW6, hm6, hx6, bW6, b6, hB6, hlt6⟩ := lay6 (Below.refl _ w5) (Nat.le_refl _) 50 (.int .i64 o) (.string y) (.int .i64 i) (.int .u64 j) (.slice a l q) (.int .i64 p)
    have h46 : m4 < m6 := by omega
    obtain ⟨W7, m7, hW7, hm7, bW7, hs7⟩ := layR W6 50 #[.int .i64 o, .string y, .int .i64 i, .int .u64 j, .slice a l q, .int .i64 p]
    have hx7 := ((HX4.out.1.turned hT5 hm4b).below bW6).below bW7
    have hy7 := ((HX4.out.2.turned hT5 hm0b).below bW6).below bW7
    obtain ⟨d0, d1, d2, d3, d4, d5⟩ := hx6.cells
    obtain ⟨g0, g1, g2, g3, g4, g5⟩ := hx7.cells
    obtain ⟨v0, v1, v2, v3, v4, v5⟩ := hx7.thaw
    obtain ⟨p0, p1, p2, p3, p4, p5⟩ := hy7.cells
    obtain ⟨r0, r1, r2, r3, r4, r5⟩ := hy7.thaw
    have hm40 : ¬ m4 = m0 := by omega
    have hm04 : ¬ m0 = m4 := by omega
    have KID : Hid (∀ x2, NdIn (Bt W4.heap.size w5.heap.size) w5 ⟨o, y.data.toList, i, j, a, l, q, p⟩ x2 → NdIn (fun g => m0 < g ∧ g ≠ m4 ∧ g < m7 + 1) W7 ⟨11, [], 0, 0, some ⟨m7, 0, none⟩, 1, 1, pp⟩ ⟨11, [], 0, 0, foOf [x2], pp⟩) := by
      intro x2 hx2
      rw [← hW7, ← hm7]
      have e4 := H4.out.2.2
      exact (hx2.below bW6).kid1 _ _ (by simp [encN]) ⟨by omega, by omega, by omega⟩ (fun g hg => by have := hg.1; have := hg.2; exact ⟨by omega, by omega, by omega⟩)
    have H7 : Hid (Rst W7 b ao n c ts k2 ∧ Tn b w W7 ∧ W7.heap.size = m7 + 1 ∧ Oc E .unary ts (k + 1) (Bt W4.heap.size w5.heap.size) ⟨o, y.data.toList, i, j, a, l, q, p⟩ f k2 w5) := ⟨(hR5.below bW6).below bW7, ((H4.out.2.1.trans hT5).trans (Tn.of bW6)).trans (Tn.of bW7), hs7, hO5⟩
    clear hx6 hx7 hy7 hR5 hT5 hO5 b6 bW6 bW7 hs7
    go_upto_region 5 with fail
    clear hW6 hm6
    go_wp2_with fail
    clear hW7 hm7
    refine bodyPost_ret (v := .tuple #[.agg #[.int .i64 11, .string ⟨#[]⟩, .int .i64 0, .int .u64 0, .slice (some ⟨m7, 0, none⟩) 1 1, .int .i64 pp], .bool f]) ?_ rfl ⟨11, ByteArray.empty, 0, 0, some ⟨m7, 0, none⟩, 1, 1, pp, f, k2, rfl, by omega, ?_, ?_, ?_⟩
    · simp [results, Tryz.f66]
      go_simp
    · exact (H7.out.1.one (by omega) _ _).six (by omega) _ _ _ _ _ _
    · exact (H7.out.2.1.one (by have := H.out.2.2; omega) _ _).six (by have := H.out.2.2; omega) _ _ _ _ _ _
    · have hdr := drop_hd H3.out
      have hsb := hd_of_pk (by simp [sB, tk0]) H3.out
      rcases H7.out.2.2.2 with ⟨x2, rfl, g2, n2⟩ | ⟨g2, n2⟩
      · refine .inl ⟨notN (pk (ts.drop k)) x2, rfl, by rw [hdr]; exact .nots hsb g2, ?_⟩
        have hk := ((KID.out x2 n2).one (g := m4) (fun q => q.2.1 rfl) 4 (.slice (some ⟨m7, 0, none⟩) 1 1)).six (g := m0) (fun q => by have := q.1; omega) (.int .i64 11) (.string ⟨#[]⟩) (.int .i64 0) (.int .u64 0) (.slice (some ⟨m7, 0, none⟩) 1 1) (.int .i64 pp)
        unfold notN
        rw [HP.out]
        refine hk.mono (fun g hg => ⟨?_, ?_⟩)
        · have := H.out.2.2; have := hg.1; omega
        · have := H7.out.2.2.1
          have := hg.2.2
          rw [six_size]
          simp [World.size_setCell]
          omega
      · exact .inr ⟨by rw [hdr]; exact .notsE hsb g2, n2⟩
  · have h3' : hd (sB [33]) (ts.drop k) = false := by simpa using h3
    have hmn := made_no 11 [33] W0 H.out.1 h3'
    have HN : Hid (Pt E .post 76 b ao n c ts k) := hP h3'
    have H3 : Hid (hd (sB [33]) (ts.drop k) = false) := h3'
    clear hP hN h3 h3'
    generalize hpp : (pk (ts.drop k)).pos = pp at hmn
    clear hpp
    go_enter Tryz.func66, Tryz.ntmps66
    go_upto_region 1 with fail
    clear hW0 hm0
    go_wp2_with fail
    refine hmn.mono ?_
    rintro e w2 ⟨rfl, b2⟩
    obtain ⟨W4, m4, hW4, hm4, hx4, bW4, b4, hB4, hlt4⟩ := lay6 (Below.refl _ w2) (Nat.le_refl _) 50 (.int .i64 11) (.string ⟨#[]⟩) (.int .i64 0) (.int .u64 0) (.slice none 0 0) (.int .i64 pp)
    have b7 := b2.trans (bW4.mono b2.size)
    have hs7 := b7.size
    have HX4 : Hid (Box6 W4 m0 50 (.int .i64 0) (.string ⟨#[]⟩) (.int .i64 0) (.int .u64 0) (.slice none 0 0) (.int .i64 0)) := HX.out.below b7
    have H4 : Hid (Rst W4 b ao n c ts k ∧ Tn b w W4 ∧ m0 < W4.heap.size) := ⟨H.out.1.below b7, (Tn.of H.out.2.1).trans (Tn.of b7), by omega⟩
    clear hx4 b4 bW4 b2 b7 hmn
    go_upto_region 2 with fail
    clear hW4 hm4
    go_wp2_with fail
    refine (HN.out W4 H4.out.1).mono ?_
    rintro e w5 ⟨o, y, i, j, a, l, q, p, f, k2, rfl, hk2, hR5, hT5, hO5⟩
    have hs5 := hT5.size
    have x5 := HX4.out.turned hT5 hm0b
    obtain ⟨p0, p1, p2, p3, p4, p5⟩ := x5.cells
    obtain ⟨r0, r1, r2, r3, r4, r5⟩ := x5.thaw
    have H7 : Hid (Rst w5 b ao n c ts k2 ∧ Tn b w w5 ∧ Oc E .post ts k (Bt W4.heap.size w5.heap.size) ⟨o, y.data.toList, i, j, a, l, q, p⟩ f k2 w5) := ⟨hR5, H4.out.2.1.trans hT5, hO5⟩
    clear x5 hR5 hT5 hO5
    go_wp2_with fail
    refine bodyPost_ret (v := .tuple #[.agg #[.int .i64 o, .string y, .int .i64 i, .int .u64 j, .slice a l q, .int .i64 p], .bool f]) ?_ rfl ⟨o, y, i, j, a, l, q, p, f, k2, rfl, hk2, ?_, ?_, ?_⟩
    · simp [results, Tryz.f66]
      go_simp
    · exact H7.out.1.six (by omega) _ _ _ _ _ _
    · exact H7.out.2.1.six (by have := H.out.2.2; omega) _ _ _ _ _ _
    · rcases H7.out.2.2 with ⟨nd, h1, h2, h3⟩ | h1
      · refine .inl ⟨nd, h1, .unary H3.out h2, (h3.six (g := m0) (fun q => by have := q.1; have := H4.out.2.2; omega) _ _ _ _ _ _).mono (fun g hg => ⟨by have := hg.1; have := H.out.2.2; have := H4.out.2.2; omega, by rw [six_size]; exact hg.2⟩)⟩
      · exact .inr ⟨.unary H3.out h1.1, h1.2⟩

end Go.Proofs.YtdgdckmhmmigkaaGreatDoor
