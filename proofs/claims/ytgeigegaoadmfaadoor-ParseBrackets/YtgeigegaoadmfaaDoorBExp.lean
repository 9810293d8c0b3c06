/-
  The reader's expr and inter by contracts, over those of their parts. No condition.
-/
import Derived.Test.YtgeigegaoadmfaaDoorBRow
namespace Go.Proofs.YtgeigegaoadmfaaDoor
open Go.RowKit

theorem en_inter : ∀ args w, (callFunc 23 args).run Tryd.prog w = .ok (.enter 23 args) w := enters_of Tryd.func23 (by kernel_rfl) rfl
theorem en_span : ∀ args w, (callFunc 36 args).run Tryd.prog w = .ok (.enter 36 args) w := enters_of Tryd.func36 (by kernel_rfl) rfl

set_option maxHeartbeats 1600000 in
set_option maxRecDepth 100000 in
theorem pexpr_any {E : Int} {b : Nat} {ao : Option Addr} {n c k : Nat} {ts : List Tk} (hU : ∀ k', k ≤ k' → Pt E (.row 2) 23 b ao n c ts k') : Pt E (.row 1) 14 b ao n c ts k := by
  intro w h
  obtain ⟨W0, m0, hW0, hm0, hx0, bW0, _, hB0, hlt0⟩ := lay6 (Below.refl _ w) (Nat.le_refl _) 28 (.int .i64 0) (.string ⟨#[]⟩) (.int .i64 0) (.int .u64 0) (.slice none 0 0) (.int .i64 0)
  have hr := prow_any (E := E) (L := 1) (F := 23) (.inl rfl) en_inter (fun k' hk => hU k' hk) W0 (h.below bW0)
  have hlb := h.box.lt
  have H : Hid (Below w.heap.size w W0 ∧ w.heap.size = m0) := ⟨bW0, hm0⟩
  have HX : Hid (Box6 W0 m0 28 (.int .i64 0) (.string ⟨#[]⟩) (.int .i64 0) (.int .u64 0) (.slice none 0 0) (.int .i64 0)) := hx0
  have hm0b : ¬ m0 = b := by omega
  clear h hU bW0 hx0
  go_enter Tryd.func14, Tryd.ntmps14
  go_upto_region 1 with fail
  clear hW0 hm0
  go_wp2_with fail
  refine hr.mono ?_
  rintro e w2 ⟨o, y, i, j, a, l, q, p, f, k2, rfl, hk2, hR2, hT2, hO2⟩
  have hs2 := hT2.size
  have x2 := HX.out.turned hT2 hm0b
  obtain ⟨p0, p1, p2, p3, p4, p5⟩ := x2.cells
  obtain ⟨q0, q1, q2, q3, q4, q5⟩ := x2.thaw
  have H2 : Hid (Rst w2 b ao n c ts k2 ∧ Tn b w w2 ∧ Oc E (.row 1) ts k (Bt W0.heap.size w2.heap.size) ⟨o, y.data.toList, i, j, a, l, q, p⟩ f k2 w2) := ⟨hR2, (Tn.of H.out.1).trans hT2, hO2⟩
  clear hR2 hT2 hO2 x2 hr
  go_wp2_with fail
  refine bodyPost_ret (v := .tuple #[.agg #[.int .i64 o, .string y, .int .i64 i, .int .u64 j, .slice a l q, .int .i64 p], .bool f]) ?_ rfl ⟨o, y, i, j, a, l, q, p, f, k2, rfl, hk2, ?_, ?_, ?_⟩
  · simp [results, Tryd.f14]
    go_simp
  · exact H2.out.1.six (by omega) _ _ _ _ _ _
  · exact H2.out.2.1.six (by omega) _ _ _ _ _ _
  · rcases H2.out.2.2 with ⟨nd, h1, h2, h3⟩ | h1
    · refine .inl ⟨nd, h1, h2, (h3.six (g := m0) (fun q => by have := q.1; omega) _ _ _ _ _ _).mono (fun g hg => ⟨by have := hg.1; have := H.out.2; omega, by rw [six_size]; exact hg.2⟩)⟩
    · exact .inr h1

set_option maxHeartbeats 1600000 in
set_option maxRecDepth 100000 in
theorem pinter_any {E : Int} {b : Nat} {ao : Option Addr} {n c k : Nat} {ts : List Tk} (hU : ∀ k', k ≤ k' → Pt E .range 36 b ao n c ts k') : Pt E (.row 2) 23 b ao n c ts k := by
  intro w h
  obtain ⟨W0, m0, hW0, hm0, hx0, bW0, _, hB0, hlt0⟩ := lay6 (Below.refl _ w) (Nat.le_refl _) 28 (.int .i64 0) (.string ⟨#[]⟩) (.int .i64 0) (.int .u64 0) (.slice none 0 0) (.int .i64 0)
  have hr := prow_any (E := E) (L := 2) (F := 36) (.inr rfl) en_span (fun k' hk => hU k' hk) W0 (h.below bW0)
  have hlb := h.box.lt
  have H : Hid (Below w.heap.size w W0 ∧ w.heap.size = m0) := ⟨bW0, hm0⟩
  have HX : Hid (Box6 W0 m0 28 (.int .i64 0) (.string ⟨#[]⟩) (.int .i64 0) (.int .u64 0) (.slice none 0 0) (.int .i64 0)) := hx0
  have hm0b : ¬ m0 = b := by omega
  clear h hU bW0 hx0
  go_enter Tryd.func23, Tryd.ntmps23
  go_upto_region 1 with fail
  clear hW0 hm0
  go_wp2_with fail
  refine hr.mono ?_
  rintro e w2 ⟨o, y, i, j, a, l, q, p, f, k2, rfl, hk2, hR2, hT2, hO2⟩
  have hs2 := hT2.size
  have x2 := HX.out.turned hT2 hm0b
  obtain ⟨p0, p1, p2, p3, p4, p5⟩ := x2.cells
  obtain ⟨q0, q1, q2, q3, q4, q5⟩ := x2.thaw
  have H2 : Hid (Rst w2 b ao n c ts k2 ∧ Tn b w w2 ∧ Oc E (.row 2) ts k (Bt W0.heap.size w2.heap.size) ⟨o, y.data.toList, i, j, a, l, q, p⟩ f k2 w2) := ⟨hR2, (Tn.of H.out.1).trans hT2, hO2⟩
  clear hR2 hT2 hO2 x2 hr
  go_wp2_with fail
  refine bodyPost_ret (v := .tuple #[.agg #[.int .i64 o, .string y, .int .i64 i, .int .u64 j, .slice a l q, .int .i64 p], .bool f]) ?_ rfl ⟨o, y, i, j, a, l, q, p, f, k2, rfl, hk2, ?_, ?_, ?_⟩
  · simp [results, Tryd.f23]
    go_simp
  · exact H2.out.1.six (by omega) _ _ _ _ _ _
  · exact H2.out.2.1.six (by omega) _ _ _ _ _ _
  · rcases H2.out.2.2 with ⟨nd, h1, h2, h3⟩ | h1
    · refine .inl ⟨nd, h1, h2, (h3.six (g := m0) (fun q => by have := q.1; omega) _ _ _ _ _ _).mono (fun g hg => ⟨by have := hg.1; have := H.out.2; omega, by rw [six_size]; exact hg.2⟩)⟩
    · exact .inr h1

end Go.Proofs.YtgeigegaoadmfaaDoor
