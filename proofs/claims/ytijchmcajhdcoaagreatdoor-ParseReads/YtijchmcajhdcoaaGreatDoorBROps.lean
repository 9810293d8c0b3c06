/-
  The reference's Level, op and leaf by contracts. No condition.
-/
import Derived.Test.YtijchmcajhdcoaaGreatDoorBRVal
import Derived.Test.YtijchmcajhdcoaaGreatDoorJNod
namespace Go.Proofs.YtijchmcajhdcoaaGreatDoor
open Go.RowKit

set_option maxHeartbeats 800000 in
set_option maxRecDepth 100000 in
theorem rlevel_any (o : Int) (w : World) : Calls Tryz.prog 18 #[.int .i64 o] w fun e w' => e = .returned (.int .i64 (lvl o)) ∧ w' = w := by
  obtain rfl | rfl | rfl | rfl | rfl | rfl | rfl | ⟨h6, h7, h8, h9, h10, h11, h12⟩ : o = 6 ∨ o = 7 ∨ o = 8 ∨ o = 9 ∨ o = 10 ∨ o = 11 ∨ o = 12 ∨ (o ≠ 6 ∧ o ≠ 7 ∧ o ≠ 8 ∧ o ≠ 9 ∧ o ≠ 10 ∧ o ≠ 11 ∧ o ≠ 12) := by omega
  rotate_right
  · have hl : lvl o = 6 := by simp [lvl, h6, h7, h8, h9, h10, h11, h12]
    rw [hl]
    clear hl
    rw [← beq_eq_false_iff_ne] at h6 h7 h8 h9 h10 h11 h12
    go_enter Tryz.func18, Tryz.ntmps18
    go_wp2_with fail
    go_ret
    exact ⟨rfl, rfl⟩
  all_goals
    go_enter Tryz.func18, Tryz.ntmps18
    go_wp2_with fail
    go_ret
    exact ⟨rfl, rfl⟩

set_option maxHeartbeats 800000 in
set_option maxRecDepth 100000 in
theorem rop_any (l : Bs) (w : World) : Calls Tryz.prog 17 #[.string ⟨l.toArray⟩] w fun e w' => e = .returned (.int .i64 (opOf l)) ∧ w' = w := by
  obtain rfl | rfl | rfl | rfl | rfl | ⟨h1, h2, h3, h4, h5⟩ : l = [124] ∨ l = [45] ∨ l = [38] ∨ l = [46, 46] ∨ l = [58, 58] ∨ (l ≠ [124] ∧ l ≠ [45] ∧ l ≠ [38] ∧ l ≠ [46, 46] ∧ l ≠ [58, 58]) := by
    by_cases h1 : l = [124]
    · exact .inl h1
    by_cases h2 : l = [45]
    · exact .inr (.inl h2)
    by_cases h3 : l = [38]
    · exact .inr (.inr (.inl h3))
    by_cases h4 : l = [46, 46]
    · exact .inr (.inr (.inr (.inl h4)))
    by_cases h5 : l = [58, 58]
    · exact .inr (.inr (.inr (.inr (.inl h5))))
    exact .inr (.inr (.inr (.inr (.inr ⟨h1, h2, h3, h4, h5⟩))))
  rotate_right
  · have hl : opOf l = 0 := by simp [opOf, h1, h2, h3, h4, h5]
    rw [hl]
    clear hl
    rw [← beq_eq_false_iff_ne] at h1 h2 h3 h4 h5
    go_enter Tryz.func17, Tryz.ntmps17
    go_wp2_with fail
    go_ret
    exact ⟨rfl, rfl⟩
  all_goals
    go_enter Tryz.func17, Tryz.ntmps17
    go_wp2_with fail
    go_ret
    exact ⟨rfl, rfl⟩

set_option maxHeartbeats 1600000 in
set_option maxRecDepth 100000 in
theorem rleaf_any (t : Tk) (w : World) : Calls Tryz.prog 16 #[.agg #[.int .i64 t.kind, .string ⟨t.text.toArray⟩, .int .i64 t.num, .int .u64 t.id, .int .i64 t.pos]] w fun e w' =>
    e = .returned (⟨leafOp t.kind, t.text, t.num, t.id, none, 0, 0, t.pos⟩ : NV).val ∧ Below w.heap.size w w' := by
  obtain ⟨k, tx, n, i, p⟩ := t
  simp only
  obtain ⟨W1, m1, hW1, hm1, hx1, bW1, _, hB1, hlt1⟩ := lay5 (Below.refl _ w) (Nat.le_refl _) 60 (.int .i64 k) (.string ⟨tx.toArray⟩) (.int .i64 n) (.int .u64 i) (.int .i64 p)
  obtain ⟨W2, m2, hW2, hm2, hx2, bW2, c2, hB2, hlt2⟩ := lay6 bW1 bW1.size 34 (.int .i64 0) (.string ⟨#[]⟩) (.int .i64 0) (.int .u64 0) (.slice none 0 0) (.int .i64 0)
  obtain ⟨W3, m3, hW3, hm3, hx3, bW3, c3, hB3, hlt3⟩ := lay6 bW2 bW2.size 34 (.int .i64 0) (.string ⟨tx.toArray⟩) (.int .i64 n) (.int .u64 i) (.slice none 0 0) (.int .i64 p)
  obtain ⟨s0, s1, s2, s3, s4⟩ := (hx1.below c2).cells
  have HX : Hid (Box5 W3 m1 60 (.int .i64 k) (.string ⟨tx.toArray⟩) (.int .i64 n) (.int .u64 i) (.int .i64 p) ∧ Box6 W3 m2 34 (.int .i64 0) (.string ⟨#[]⟩) (.int .i64 0) (.int .u64 0) (.slice none 0 0) (.int .i64 0) ∧ Box6 W3 m3 34 (.int .i64 0) (.string ⟨tx.toArray⟩) (.int .i64 n) (.int .u64 i) (.slice none 0 0) (.int .i64 p) ∧ Below w.heap.size w W3) :=
    ⟨(hx1.below c2).below c3, hx2.below c3, hx3, bW3⟩
  have hm12 : ¬ m1 = m2 := by omega
  have hm13 : ¬ m1 = m3 := by omega
  have hm23 : ¬ m2 = m3 := by omega
  have hm32 : ¬ m3 = m2 := by omega
  have HM : Hid (w.heap.size ≤ m2 ∧ w.heap.size ≤ m3) := ⟨hB2, hB3⟩
  clear hx1 hx2 hx3 bW1 bW2 bW3 c2 c3
  obtain rfl | rfl | rfl | ⟨h4, h2, h3⟩ : k = 4 ∨ k = 2 ∨ k = 3 ∨ (k ≠ 4 ∧ k ≠ 2 ∧ k ≠ 3) := by omega
  rotate_right
  · have hl : leafOp k = 1 := by simp [leafOp, h2, h3, h4]
    rw [hl]
    clear hl
    rw [← beq_eq_false_iff_ne] at h2 h3 h4
    go_enter Tryz.func16, Tryz.ntmps16
    go_upto_region 1 with fail
    clear hW1 hm1 hW2 hm2
    go_upto_region 2 with fail
    clear hW3 hm3 s0 s1 s2 s3 s4
    obtain ⟨s0, s1, s2, s3, s4⟩ := HX.out.1.cells
    obtain ⟨a0, a1, a2, a3, a4, a5⟩ := HX.out.2.1.cells
    obtain ⟨b0, b1, b2, b3, b4, b5⟩ := HX.out.2.1.thaw
    obtain ⟨c0, c1, c2, c3, c4, c5⟩ := HX.out.2.2.1.cells
    obtain ⟨d0, d1, d2, d3, d4, d5⟩ := HX.out.2.2.1.thaw
    go_wp2_with fail
    refine bodyPost_ret (v := .agg #[.int .i64 1, .string ⟨tx.toArray⟩, .int .i64 n, .int .u64 i, .slice none 0 0, .int .i64 p]) ?_ rfl ⟨rfl, ?_⟩
    · simp [results, Tryz.f16]
      go_simp
    · exact belowS6 (HX.out.2.2.2.trans (((Turned.refl (fun g => g = m3) W3).setCell (p := ⟨m3, 0, none⟩) (.inl rfl) _).below HX.out.2.2.2.size (fun g hg e => by have := HM.out; omega))) HM.out.1 _ _ _ _ _ _
  all_goals
    go_enter Tryz.func16, Tryz.ntmps16
    go_upto_region 1 with fail
    clear hW1 hm1 hW2 hm2
    go_upto_region 2 with fail
    clear hW3 hm3 s0 s1 s2 s3 s4
    obtain ⟨s0, s1, s2, s3, s4⟩ := HX.out.1.cells
    obtain ⟨a0, a1, a2, a3, a4, a5⟩ := HX.out.2.1.cells
    obtain ⟨b0, b1, b2, b3, b4, b5⟩ := HX.out.2.1.thaw
    obtain ⟨c0, c1, c2, c3, c4, c5⟩ := HX.out.2.2.1.cells
    obtain ⟨d0, d1, d2, d3, d4, d5⟩ := HX.out.2.2.1.thaw
    go_wp2_with fail
    first
      | refine bodyPost_ret (v := .agg #[.int .i64 2, .string ⟨tx.toArray⟩, .int .i64 n, .int .u64 i, .slice none 0 0, .int .i64 p]) ?_ rfl ⟨rfl, ?_⟩
      | refine bodyPost_ret (v := .agg #[.int .i64 3, .string ⟨tx.toArray⟩, .int .i64 n, .int .u64 i, .slice none 0 0, .int .i64 p]) ?_ rfl ⟨rfl, ?_⟩
      | refine bodyPost_ret (v := .agg #[.int .i64 4, .string ⟨tx.toArray⟩, .int .i64 n, .int .u64 i, .slice none 0 0, .int .i64 p]) ?_ rfl ⟨rfl, ?_⟩
    · simp [results, Tryz.f16]
      go_simp
    · exact belowS6 (HX.out.2.2.2.trans (((Turned.refl (fun g => g = m3) W3).setCell (p := ⟨m3, 0, none⟩) (.inl rfl) _).below HX.out.2.2.2.size (fun g hg e => by have := HM.out; omega))) HM.out.1 _ _ _ _ _ _

end Go.Proofs.YtijchmcajhdcoaaGreatDoor
