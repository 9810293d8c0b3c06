import Derived.Test.YtijchmcajhdcoaaGreatDoorJRow
/-!
  The reader's span by a contract, over unary's. No condition.
-/
namespace Go.Proofs.YtijchmcajhdcoaaGreatDoor
open Go.RowKit

set_option maxHeartbeats 3200000 in
set_option maxRecDepth 100000 in
theorem pspan_any {E : Int} {b : Nat} {ao : Option Addr} {n c k : Nat} {ts : List Tk} (hU : ∀ k', k ≤ k' → Pt E .unary 62 b ao n c ts k') : Pt E .range 49 b ao n c ts k := by
  intro w h
  have HU : Hid (∀ k', k ≤ k' → Pt E .unary 62 b ao n c ts k') := hU
  obtain ⟨W0, m0, hW0, hm0, hx0, bW0, _, hB0, hlt0⟩ := lay6 (Below.refl _ w) (Nat.le_refl _) 28 (.int .i64 0) (.string ⟨#[]⟩) (.int .i64 0) (.int .u64 0) (.slice none 0 0) (.int .i64 0)
  have hlb := h.box.lt
  have H : Hid (Rst W0 b ao n c ts k ∧ Below w.heap.size w W0) := ⟨h.below bW0, bW0⟩
  have HX : Hid (Box6 W0 m0 28 (.int .i64 0) (.string ⟨#[]⟩) (.int .i64 0) (.int .u64 0) (.slice none 0 0) (.int .i64 0)) := hx0
  have hm0b : ¬ m0 = b := by omega
  have hm00 : w.heap.size = m0 := hm0
  have HZ : Hid (w.heap.size = m0) := hm00
  clear h hU bW0 hx0 hm00
  go_enter Tryz.func49, Tryz.ntmps49
  go_upto_region 1 with fail
  clear hW0 hm0
  go_wp2_with fail
  refine (HU.out k (Nat.le_refl _) W0 H.out.1).mono ?_
  rintro e w2 ⟨o, y, i, j, a, l, q, p, f, k2, rfl, hk2, hR2, hT2, hO2⟩
  obtain ⟨W4, m4, hW4, hm4, hx4, bW4, b4, hB4, hlt4⟩ := lay6 (Below.refl _ w2) (Nat.le_refl _) 28 (.int .i64 o) (.string y) (.int .i64 i) (.int .u64 j) (.slice a l q) (.int .i64 p)
  have hs2 := hT2.size
  have hm4b : ¬ m4 = b := by omega
  have hm04 : ¬ m0 = m4 := by omega
  have hm40 : ¬ m4 = m0 := by omega
  have HX4 : Hid (Box6 W4 m4 28 (.int .i64 o) (.string y) (.int .i64 i) (.int .u64 j) (.slice a l q) (.int .i64 p) ∧ Box6 W4 m0 28 (.int .i64 0) (.string ⟨#[]⟩) (.int .i64 0) (.int .u64 0) (.slice none 0 0) (.int .i64 0)) := ⟨hx4, (HX.out.turned hT2 hm0b).below bW4⟩
  have H4 : Hid (Rst W4 b ao n c ts k2 ∧ Tn b w W4 ∧ k ≤ k2 ∧ Oc E .unary ts k (Bt W0.heap.size w2.heap.size) ⟨o, y.data.toList, i, j, a, l, q, p⟩ f k2 w2 ∧ Below w2.heap.size w2 W4 ∧ w2.heap.size = m4 ∧ m0 < W0.heap.size ∧ W0.heap.size ≤ m4) := ⟨hR2.below bW4, ((Tn.of H.out.2).trans hT2).trans (Tn.of bW4), hk2, hO2, bW4, hm4, hlt0, by omega⟩
  clear hR2 hT2 hO2 hx4 b4
  go_upto_region 2 with fail
  clear hW4 hm4
  cases f with
  | false =>
    obtain ⟨p0, p1, p2, p3, p4, p5⟩ := HX4.out.2.cells
    obtain ⟨q0, q1, q2, q3, q4, q5⟩ := HX4.out.2.thaw
    go_wp2_with fail
    refine bodyPost_ret (v := .tuple #[.agg #[.int .i64 0, .string ⟨#[]⟩, .int .i64 0, .int .u64 0, .slice none 0 0, .int .i64 0], .bool false]) ?_ rfl ⟨0, ByteArray.empty, 0, 0, none, 0, 0, 0, false, k2, rfl, hk2, ?_, ?_, ?_⟩
    · simp [results, Tryz.f49]
      go_simp
    · exact H4.out.1.six (by omega) _ _ _ _ _ _
    · exact H4.out.2.1.six (by omega) _ _ _ _ _ _
    · rcases H4.out.2.2.2.1 with ⟨nd, q, _⟩ | ⟨h1, h2⟩
      · cases q
      · exact .inr ⟨.rangeF h1, fun q => by cases q⟩
  | true =>
    by_cases h3 : hd (lB 3) (ts.drop k2) = true
    · obtain ⟨nd, hg1, hn1⟩ : ∃ nd, Gm E .unary (ts.drop k) (.ok nd (ts.drop k2)) ∧ NdIn (Bt W0.heap.size w2.heap.size) w2 ⟨o, y.data.toList, i, j, a, l, q, p⟩ nd := by
        rcases H4.out.2.2.2.1 with ⟨nd, _, h1, h2⟩ | ⟨_, h2⟩
        · exact ⟨nd, h1, h2⟩
        · rw [num_no (by decide) (h2 rfl)] at h3
          cases h3
      have hjy := joined_yes 3 (by decide) W4 H4.out.1 h3
      have HG : Hid (Gm E .unary (ts.drop k) (.ok nd (ts.drop k2)) ∧ NdIn (Bt W0.heap.size w2.heap.size) W4 ⟨o, y.data.toList, i, j, a, l, q, p⟩ nd ∧ hd (lB 3) (ts.drop k2) = true ∧ w2.heap.size = m4) := ⟨hg1, hn1.below H4.out.2.2.2.2.1, h3, H4.out.2.2.2.2.2.1⟩
      clear hg1 hn1 h3
      generalize hop : opOf (pk (ts.drop k2)).text = po at hjy
      generalize hpp : (pk (ts.drop k2)).pos = pp at hjy
      have HP : Hid (opOf (pk (ts.drop k2)).text = po ∧ (pk (ts.drop k2)).pos = pp) := ⟨hop, hpp⟩
      clear hop hpp
      go_wp2_with fail
      refine hjy.mono ?_
      rintro e w5 ⟨rfl, h5, t5⟩
      obtain ⟨W6, m6, hW6, hm6, hx6, bW6, b6, hB6, hlt6⟩ := lay6 (Below.refl _ w5) (Nat.le_refl _) 28 (.int .i64 po) (.string ⟨#[]⟩) (.int .i64 0) (.int .u64 0) (.slice none 0 0) (.int .i64 pp)
      have hs5 := t5.size
      have hm6b : ¬ m6 = b := by omega
      have HX6 : Hid (Box6 W6 m6 28 (.int .i64 po) (.string ⟨#[]⟩) (.int .i64 0) (.int .u64 0) (.slice none 0 0) (.int .i64 pp) ∧ Box6 W6 m4 28 (.int .i64 o) (.string y) (.int .i64 i) (.int .u64 j) (.slice a l q) (.int .i64 p) ∧ Box6 W6 m0 28 (.int .i64 0) (.string ⟨#[]⟩) (.int .i64 0) (.int .u64 0) (.slice none 0 0) (.int .i64 0)) :=
        ⟨hx6, (HX4.out.1.turned t5 hm4b).below bW6, (HX4.out.2.turned t5 hm0b).below bW6⟩
      have H6 : Hid (Rst W6 b ao n c ts (k2 + 1) ∧ Tn b w W6 ∧ NdIn (Bt W0.heap.size w2.heap.size) W6 ⟨o, y.data.toList, i, j, a, l, q, p⟩ nd ∧ m4 < m6 ∧ w5.heap.size = m6) :=
        ⟨h5.below bW6, (H4.out.2.1.trans t5).trans (Tn.of bW6), (HG.out.2.1.turned t5 (fun g hg e => by have := hg.1; omega)).below bW6, by omega, hm6⟩
      clear h5 t5 hx6 b6 hjy
      go_upto_region 5 with fail
      clear hW6 hm6
      go_wp2_with fail
      refine (HU.out (k2 + 1) (by omega) W6 H6.out.1).mono ?_
      rintro e w7 ⟨o2, y2, i2, j2, a2, l2, q2, p2, f2, k3, rfl, hk3, hR3, hT3, hO3⟩
      have hs7 := hT3.size
      obtain ⟨W8, m8, hW8, hm8, hx8, bW8, b8, hB8, hlt8⟩ := lay6 (Below.refl _ w7) (Nat.le_refl _) 28 (.int .i64 o2) (.string y2) (.int .i64 i2) (.int .u64 j2) (.slice a2 l2 q2) (.int .i64 p2)
      have HX8 : Hid (Box6 W8 m8 28 (.int .i64 o2) (.string y2) (.int .i64 i2) (.int .u64 j2) (.slice a2 l2 q2) (.int .i64 p2) ∧ Box6 W8 m6 28 (.int .i64 po) (.string ⟨#[]⟩) (.int .i64 0) (.int .u64 0) (.slice none 0 0) (.int .i64 pp) ∧ Box6 W8 m4 28 (.int .i64 o) (.string y) (.int .i64 i) (.int .u64 j) (.slice a l q) (.int .i64 p) ∧ Box6 W8 m0 28 (.int .i64 0) (.string ⟨#[]⟩) (.int .i64 0) (.int .u64 0) (.slice none 0 0) (.int .i64 0)) :=
        ⟨hx8, (HX6.out.1.turned hT3 hm6b).below bW8, (HX6.out.2.1.turned hT3 hm4b).below bW8, (HX6.out.2.2.turned hT3 hm0b).below bW8⟩
      have H8 : Hid (Rst W8 b ao n c ts k3 ∧ Tn b w W8 ∧ NdIn (Bt W0.heap.size w2.heap.size) W8 ⟨o, y.data.toList, i, j, a, l, q, p⟩ nd ∧ k2 + 1 ≤ k3 ∧ Oc E .unary ts (k2 + 1) (Bt W6.heap.size w7.heap.size) ⟨o2, y2.data.toList, i2, j2, a2, l2, q2, p2⟩ f2 k3 w7 ∧ Below w7.heap.size w7 W8 ∧ w7.heap.size = m8 ∧ m6 < m8) :=
        ⟨hR3.below bW8, (H6.out.2.1.trans hT3).trans (Tn.of bW8), (H6.out.2.2.1.turned hT3 (fun g hg e => by have := hg.1; omega)).below bW8, hk3, hO3, bW8, hm8, by omega⟩
      clear hR3 hT3 hO3 hx8 b8
      obtain ⟨d0, d1, d2, d3, d4, d5⟩ := HX8.out.1.cells
      obtain ⟨s0, s1, s2, s3, s4, s5⟩ := HX8.out.2.2.1.cells
      obtain ⟨W9, m9, hW9, hm9, bW9, hs9⟩ := layR W8 28 #[.int .i64 o, .string y, .int .i64 i, .int .u64 j, .slice a l q, .int .i64 p, .int .i64 o2, .string y2, .int .i64 i2, .int .u64 j2, .slice a2 l2 q2, .int .i64 p2]
      have hx9 := HX8.out.2.1.below bW9
      have hy9 := HX8.out.2.2.2.below bW9
      obtain ⟨g0, g1, g2, g3, g4, g5⟩ := hx9.cells
      obtain ⟨v0, v1, v2, v3, v4, v5⟩ := hx9.thaw
      obtain ⟨p0, p1, p2', p3, p4, p5⟩ := hy9.cells
      obtain ⟨r0, r1, r2, r3, r4, r5⟩ := hy9.thaw
      have hm60 : ¬ m6 = m0 := by omega
      have hm06 : ¬ m0 = m6 := by omega
      have KID : Hid (∀ x2, NdIn (Bt W6.heap.size w7.heap.size) w7 ⟨o2, y2.data.toList, i2, j2, a2, l2, q2, p2⟩ x2 → NdIn (fun g => m0 < g ∧ g ≠ m6 ∧ g < m9 + 1) W9 ⟨po, [], 0, 0, some ⟨m9, 0, none⟩, 2, 2, pp⟩ ⟨po, [], 0, 0, foOf [nd, x2], pp⟩) := by
        intro x2 hx2
        rw [← hW9, ← hm9]
        have e3 := H4.out.2.2.2.2.2.2
        have e4 := HG.out.2.2.2
        have e6 := H8.out.2.2.2.2.2.2
        exact H8.out.2.2.1.kid2 (hx2.below H8.out.2.2.2.2.2.1) _ _ (by simp [encN]) ⟨by omega, by omega, by omega⟩ (fun g hg => by have := hg.1; have := hg.2; exact ⟨by omega, by omega, by omega⟩) (fun g hg => by have := hg.1; have := hg.2; exact ⟨by omega, by omega, by omega⟩)
      have H9 : Hid (Rst W9 b ao n c ts k3 ∧ Tn b w W9 ∧ W9.heap.size = m9 + 1 ∧ m8 < m9) := ⟨H8.out.1.below bW9, H8.out.2.1.trans (Tn.of bW9), hs9, by omega⟩
      clear hx9 hy9 bW9 hs9
      go_upto_region 8 with fail
      clear hW8 hm8
      go_wp2_with fail
      clear hW9 hm9
      refine bodyPost_ret (v := .tuple #[.agg #[.int .i64 po, .string ⟨#[]⟩, .int .i64 0, .int .u64 0, .slice (some ⟨m9, 0, none⟩) 2 2, .int .i64 pp], .bool f2]) ?_ rfl ⟨po, ByteArray.empty, 0, 0, some ⟨m9, 0, none⟩, 2, 2, pp, f2, k3, rfl, ?_, ?_, ?_, ?_⟩
      · simp [results, Tryz.f49]
        go_simp
      · have := H8.out.2.2.2.1; omega
      · exact (H9.out.1.one (by omega) _ _).six (by omega) _ _ _ _ _ _
      · exact (H9.out.2.1.one (by omega) _ _).six (by omega) _ _ _ _ _ _
      · have hg1 := HG.out.1
        rw [drop_hd HG.out.2.2.1] at hg1
        have hs3 := sgl_of_hd (by decide) HG.out.2.2.1
        rcases H8.out.2.2.2.2.1 with ⟨x2, rfl, g2, n2⟩ | ⟨g2, n2⟩
        · refine .inl ⟨binN (pk (ts.drop k2)) nd x2, rfl, .range hg1 hs3 g2, ?_⟩
          have hk := ((KID.out x2 n2).one (g := m6) (fun q => q.2.1 rfl) 4 (.slice (some ⟨m9, 0, none⟩) 2 2)).six (g := m0) (fun q => by have := q.1; omega) (.int .i64 po) (.string ⟨#[]⟩) (.int .i64 0) (.int .u64 0) (.slice (some ⟨m9, 0, none⟩) 2 2) (.int .i64 pp)
          unfold binN
          rw [HP.out.1, HP.out.2]
          refine hk.mono (fun g hg => ⟨?_, ?_⟩)
          · have := HZ.out; have := hg.1; omega
          · have := H9.out.2.2.1; have := hg.2.2; simp [World.size_setCell]; omega
        · exact .inr ⟨.rangeE hg1 hs3 g2, n2⟩
    · have h3' : hd (lB 3) (ts.drop k2) = false := by simpa using h3
      have hjn := joined_no 3 (by decide) W4 H4.out.1 h3'
      have H3 : Hid (hd (lB 3) (ts.drop k2) = false) := h3'
      clear h3 h3'
      go_wp2_with fail
      refine hjn.mono ?_
      rintro e w5 ⟨rfl, b5⟩
      clear hjn
      go_upto_region 5 with fail
      obtain ⟨W6, m6, hW6, hm6, hx6, bW6, b6, hB6, hlt6⟩ := lay6 (Below.refl _ w5) (Nat.le_refl _) 28 (.int .i64 0) (.string ⟨#[]⟩) (.int .i64 0) (.int .u64 0) (.slice none 0 0) (.int .i64 0)
      rw [hW6, hm6]
      have b7 := b5.trans (bW6.mono b5.size)
      have hx4' := HX4.out.1.below b7
      have hy4' := HX4.out.2.below b7
      obtain ⟨s0, s1, s2, s3, s4, s5⟩ := hx4'.cells
      obtain ⟨p0, p1, p2', p3, p4, p5⟩ := hy4'.cells
      obtain ⟨r0, r1, r2, r3, r4, r5⟩ := hy4'.thaw
      have H6 : Hid (Rst W6 b ao n c ts k2 ∧ Tn b w W6 ∧ Below w2.heap.size w2 W6) := ⟨H4.out.1.below b7, H4.out.2.1.trans (Tn.of b7), H4.out.2.2.2.2.1.trans (b7.mono H4.out.2.2.2.2.1.size)⟩
      clear hx4' hy4' hx6 bW6 b6 b5 b7
      clear hW6 hm6
      go_wp2_with fail
      refine bodyPost_ret (v := .tuple #[.agg #[.int .i64 o, .string y, .int .i64 i, .int .u64 j, .slice a l q, .int .i64 p], .bool true]) ?_ rfl ⟨o, y, i, j, a, l, q, p, true, k2, rfl, hk2, ?_, ?_, ?_⟩
      · simp [results, Tryz.f49]
        go_simp
      · exact H6.out.1.six (by omega) _ _ _ _ _ _
      · exact H6.out.2.1.six (by omega) _ _ _ _ _ _
      · rcases H4.out.2.2.2.1 with ⟨nd, _, h1, h2⟩ | ⟨h1, h2⟩
        · refine .inl ⟨nd, rfl, .range1 h1 H3.out, ?_⟩
          have e4 := H4.out.2.2.2.2.2
          refine ((h2.below H6.out.2.2).six (g := m0) (fun q => by have := q.1; omega) _ _ _ _ _ _).mono (fun g hg => ⟨?_, ?_⟩)
          · have := HZ.out; have := hg.1; omega
          · have := H6.out.2.2.size; have := hg.2; simp [World.size_setCell]; omega
        · exact .inr ⟨.rangeF h1, h2⟩

end Go.Proofs.YtijchmcajhdcoaaGreatDoor

/-!
  The reader's expr and inter by contracts, over those of their parts. No condition.
-/
namespace Go.Proofs.YtijchmcajhdcoaaGreatDoor
open Go.RowKit

theorem en_inter : ∀ args w, (callFunc 32 args).run Tryz.prog w = .ok (.enter 32 args) w := enters_of Tryz.func32 (by kernel_rfl) rfl
theorem en_span : ∀ args w, (callFunc 49 args).run Tryz.prog w = .ok (.enter 49 args) w := enters_of Tryz.func49 (by kernel_rfl) rfl

set_option maxHeartbeats 1600000 in
set_option maxRecDepth 100000 in
theorem pexpr_any {E : Int} {b : Nat} {ao : Option Addr} {n c k : Nat} {ts : List Tk} (hU : ∀ k', k ≤ k' → Pt E (.row 2) 32 b ao n c ts k') : Pt E (.row 1) 12 b ao n c ts k := by
  intro w h
  obtain ⟨W0, m0, hW0, hm0, hx0, bW0, _, hB0, hlt0⟩ := lay6 (Below.refl _ w) (Nat.le_refl _) 28 (.int .i64 0) (.string ⟨#[]⟩) (.int .i64 0) (.int .u64 0) (.slice none 0 0) (.int .i64 0)
  have hr := prow_any (E := E) (L := 1) (F := 32) (.inl rfl) en_inter (fun k' hk => hU k' hk) W0 (h.below bW0)
  have hlb := h.box.lt
  have H : Hid (Below w.heap.size w W0 ∧ w.heap.size = m0) := ⟨bW0, hm0⟩
  have HX : Hid (Box6 W0 m0 28 (.int .i64 0) (.string ⟨#[]⟩) (.int .i64 0) (.int .u64 0) (.slice none 0 0) (.int .i64 0)) := hx0
  have hm0b : ¬ m0 = b := by omega
  clear h hU bW0 hx0
  go_enter Tryz.func12, Tryz.ntmps12
  go_upto_region 1 with fail
  clear hW0 hm0
  go_wp2_with fail
  refine hr.mono ?_
  rintro e w2 ⟨o, y, i, j, a, l, q, p, f, k2, rfl, hk2, hR2, hT2, hO2⟩
  have hs2 := hT2.size
  have x2 := HX.out.turned hT2 hm0b
  obtain ⟨p0, p1, p2, p3, p4, p5⟩ := x2.cells
  obtain ⟨q0, q1, q2, q3, q4, q5⟩ := x2.thaw
  have H2 : Hid (Rst w2 b ao n c ts k2 ∧ Tn b w w2 ∧ Oc E (.row 1) ts k (Bt W0.heap.size w2.heap.size) ⟨o, y.data.toList, i, j, a, l, q, p⟩ f k2 w2) := ⟨hR2, (Tn.of H.out.1).trans hT2, hO2⟩
  clear hR2 hT2 hO2 x2 hr
  go_wp2_with fail
  refine bodyPost_ret (v := .tuple #[.agg #[.int .i64 o, .string y, .int .i64 i, .int .u64 j, .slice a l q, .int .i64 p], .bool f]) ?_ rfl ⟨o, y, i, j, a, l, q, p, f, k2, rfl, hk2, ?_, ?_, ?_⟩
  · simp [results, Tryz.f12]
    go_simp
  · exact H2.out.1.six (by omega) _ _ _ _ _ _
  · exact H2.out.2.1.six (by omega) _ _ _ _ _ _
  · rcases H2.out.2.2 with ⟨nd, h1, h2, h3⟩ | h1
    · refine .inl ⟨nd, h1, h2, (h3.six (g := m0) (fun q => by have := q.1; omega) _ _ _ _ _ _).mono (fun g hg => ⟨by have := hg.1; have := H.out.2; omega, by rw [six_size]; exact hg.2⟩)⟩
    · exact .inr h1

set_option maxHeartbeats 1600000 in
set_option maxRecDepth 100000 in
theorem pinter_any {E : Int} {b : Nat} {ao : Option Addr} {n c k : Nat} {ts : List Tk} (hU : ∀ k', k ≤ k' → Pt E .range 49 b ao n c ts k') : Pt E (.row 2) 32 b ao n c ts k := by
  intro w h
  obtain ⟨W0, m0, hW0, hm0, hx0, bW0, _, hB0, hlt0⟩ := lay6 (Below.refl _ w) (Nat.le_refl _) 28 (.int .i64 0) (.string ⟨#[]⟩) (.int .i64 0) (.int .u64 0) (.slice none 0 0) (.int .i64 0)
  have hr := prow_any (E := E) (L := 2) (F := 49) (.inr rfl) en_span (fun k' hk => hU k' hk) W0 (h.below bW0)
  have hlb := h.box.lt
  have H : Hid (Below w.heap.size w W0 ∧ w.heap.size = m0) := ⟨bW0, hm0⟩
  have HX : Hid (Box6 W0 m0 28 (.int .i64 0) (.string ⟨#[]⟩) (.int .i64 0) (.int .u64 0) (.slice none 0 0) (.int .i64 0)) := hx0
  have hm0b : ¬ m0 = b := by omega
  clear h hU bW0 hx0
  go_enter Tryz.func32, Tryz.ntmps32
  go_upto_region 1 with fail
  clear hW0 hm0
  go_wp2_with fail
  refine hr.mono ?_
  rintro e w2 ⟨o, y, i, j, a, l, q, p, f, k2, rfl, hk2, hR2, hT2, hO2⟩
  have hs2 := hT2.size
  have x2 := HX.out.turned hT2 hm0b
  obtain ⟨p0, p1, p2, p3, p4, p5⟩ := x2.cells
  obtain ⟨q0, q1, q2, q3, q4, q5⟩ := x2.thaw
  have H2 : Hid (Rst w2 b ao n c ts k2 ∧ Tn b w w2 ∧ Oc E (.row 2) ts k (Bt W0.heap.size w2.heap.size) ⟨o, y.data.toList, i, j, a, l, q, p⟩ f k2 w2) := ⟨hR2, (Tn.of H.out.1).trans hT2, hO2⟩
  clear hR2 hT2 hO2 x2 hr
  go_wp2_with fail
  refine bodyPost_ret (v := .tuple #[.agg #[.int .i64 o, .string y, .int .i64 i, .int .u64 j, .slice a l q, .int .i64 p], .bool f]) ?_ rfl ⟨o, y, i, j, a, l, q, p, f, k2, rfl, hk2, ?_, ?_, ?_⟩
  · simp [results, Tryz.f32]
    go_simp
  · exact H2.out.1.six (by omega) _ _ _ _ _ _
  · exact H2.out.2.1.six (by omega) _ _ _ _ _ _
  · rcases H2.out.2.2 with ⟨nd, h1, h2, h3⟩ | h1
    · refine .inl ⟨nd, h1, h2, (h3.six (g := m0) (fun q => by have := q.1; omega) _ _ _ _ _ _).mono (fun g hg => ⟨by have := hg.1; have := H.out.2; omega, by rw [six_size]; exact hg.2⟩)⟩
    · exact .inr h1

end Go.Proofs.YtijchmcajhdcoaaGreatDoor
