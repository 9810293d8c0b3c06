/-
  Proved: for every kind and every list of parts the law SumParts of layer 1 returns true and leaves the parts as they were: however bytes are cut into parts, sum.ID and sum.Check are the same. No condition.
-/
import Derived.Test.YtdnoeeghmfbcbaaParts
import Derived.Deep.Matrix
import Derived.ProofKit
import Derived.OpenShut
import Derived.ChangeOld
import Derived.Below
namespace Go.Proofs.Ytdnoeeghmfbcbaa
open Go.ChangeShapes Go.WideShapes Go.ChangeAt Go.RowKit

set_option maxHeartbeats 1600000 in
/-- No parts at all. -/
theorem parts_none (kind : Int) (a : Option Addr) (cap : Nat) (w : World) :
    Calls Try.prog 4 #[.int .i64 kind, .slice a 0 cap] w fun e w' => e = .returned (.bool true) ∧ Below w.heap.size w w' := by
  have hB : ∀ W : World, BytesAt W (.slice none 0 0) [] := fun W => ⟨none, 0, rfl, by decide, .inl rfl⟩
  have hP : ∀ W : World, PartsAt W (.slice a 0 cap) [] := fun W => ⟨a, cap, rfl, by decide, .inl rfl⟩
  have HB : Hid (∀ W : World, BytesAt W (.slice none 0 0) []) := hB
  have HP : Hid (∀ W : World, PartsAt W (.slice a 0 cap) []) := hP
  clear hB hP
  go_enter Try.func4, Try.ntmps4
  go_wp2_with fail
  refine (awake_any _).mono ?_
  rintro e w1 ⟨rfl, hb1⟩
  have hb13 := hb1.alloc hb1.size (.cells #[.slice none 0 0] 22)
  have hb14 := hb13.alloc hb13.size (.cells #[.slice none 0 0] 22)
  go_wp2_with fail
  refine wp_loop_rounds 1 ?_
  rw [rounds_succ]
  go_wp2_with fail
  refine (id_flat kind _ [] w1 (HP.out w1)).mono ?_
  rintro e w2 ⟨rfl, hw2⟩
  subst hw2
  go_wp2_with fail
  refine (id_one kind _ [] _ (HB.out _)).mono ?_
  rintro e w3 ⟨rfl, hw3⟩
  subst hw3
  go_wp2_with fail
  refine (chk_flat _ [] _ (HP.out _)).mono ?_
  rintro e w3 ⟨rfl, hw3⟩
  subst hw3
  go_wp2_with fail
  refine (chk_one (.slice none 0 0) [] _ _ (World.size_alloc _ _).symm (HB.out _)).mono ?_
  rintro e w3 ⟨rfl, hw3⟩
  subst hw3
  go_wp2_with fail
  go_ret
  exact ⟨rfl, hb14⟩

theorem parts_own : ownKnob Try.prog.godebug = none := by kernel_rfl
theorem parts_laidOut : laidOutB Try.prog = true := by kernel_rfl

set_option maxRecDepth 100000 in
theorem parts_lifted (os : Os) (started : os.Started) (H : Type) (enc : TypeId × Value → H) :
    ReturnsInHanded {} Try.checked os 4 .any (Rows.sumPartsSpec.pre6 enc Try.prog Try.f4 Rows.sumPartsRow.domain false) (Rows.sumPartsSpec.post enc Try.prog Try.f4 false true false false) := by
  refine returnsInHanded_of_change (C := Try.checked) parts_own started (by kernel_rfl) Try.func4
    (ChangeSpec.witness6 (enc := enc) (C := Try.checked) false ⟨#[], #[.int .i64 0, .slice none 0 0], []⟩ 8 (by kernel_rfl) (by kernel_rfl) (by kernel_rfl) (by kernel_rfl)) ?_
  intro W base args ds gs before hval0 hW hcnd _
  have hval : ∀ (j : Nat) t v, Try.f4.params[j]? = some t → args[j]? = some v → Value.okWide Try.prog W .any base t v := hval0
  have hW' := hW
  obtain ⟨p, q, hA0, hV, rfl, hfz, hnd⟩ := hW
  have hA : DataW.TrodAll enc Try.prog W 0 (fun _ => true) true Try.f4.params.toList args.toList ds p := hA0
  rw [Try.params4] at hA hval
  obtain ⟨v0, vs0, d0, ds0, p0, q0, hargs, rfl, rfl, h0, r0⟩ := trodAll_cons hA
  obtain ⟨v1, vs1, d1, ds1, p1, q1, rfl, rfl, rfl, h1, r1⟩ := trodAll_cons r0
  obtain ⟨rfl, rfl, rfl⟩ := trodAll_nil r1
  obtain rfl : args = #[v0, v1] := by cases args; simp_all
  obtain ⟨rfl, rfl⟩ := trodVars_none hV
  obtain ⟨a0, rfl, rfl, rfl, w0⟩ := open_int Try.underlying3 (hval 0 3 v0 rfl rfl) h0
  obtain ⟨a1, len1, cap1, rfl⟩ := okWide_slice Try.underlying32 (hval 1 32 v1 rfl rfl)
  have k1 := h1
  have lt1 : ∀ x ∈ p1, x.block < W.heap.size := by obtain ⟨m, hm⟩ := k1; exact DataW.trod_lt m _ _ _ hm
  have hwalk : Calls Try.prog 4 #[.int .i64 a0, .slice a1 len1 cap1] W fun e w' => e = .returned (.bool true) ∧ Below W.heap.size W w' := by
    obtain ⟨fuel, hf⟩ := h1
    rcases Go.Deep.open_int_rows Try.underlying32 Try.underlying22 Try.underlying5 (by kernel_rfl) (by kernel_rfl) hf with ⟨hcs, _⟩ | ⟨x, l, c, A, L, C, Z, hcs, _, hl, hm, _, hrow⟩
    · simp [Value.cells] at hcs
      obtain ⟨rfl, rfl, rfl⟩ := hcs
      exact parts_none a0 none 0 W
    · simp [Value.cells] at hcs
      obtain ⟨rfl, rfl, rfl⟩ := hcs
      by_cases h0 : len1 = 0
      · subst h0
        exact parts_none a0 _ _ W
      · have hm' : cap1 ≤ 9223372036854775807 := by unfold maxLen at hm; omega
        obtain ⟨b, off, rfl⟩ : ∃ b off, x = ⟨b, off, none⟩ := by
          obtain ⟨b, off, spot⟩ := x
          have hspot : spot = none := by simpa [Addr.add] using World.cell?_spot (hrow 0 (by omega)).1
          subst hspot
          exact ⟨b, off, rfl⟩
        have hlen : ((List.range len1).map fun r => (Z r).take (L r)).length = len1 := by simp
        have hget : ∀ j, j < len1 → ((List.range len1).map fun r => (Z r).take (L r)).getD j [] = (Z j).take (L j) := by
          intro j hj
          simp [List.getD, hj]
        have hw := parts_walk a0 b off cap1 ((List.range len1).map fun r => (Z r).take (L r)) W (by rw [hlen]; omega)
          (by
            intro j hj
            rw [hlen] at hj
            rw [hget j hj]
            obtain ⟨g1, g2, g3, g4, g5, g6, g7⟩ := hrow j (by omega)
            rw [add_plain] at g1
            have hl2 : ((Z j).take (L j)).length = L j := by rw [List.length_take]; omega
            refine ⟨_, g1, A j, C j, by rw [hl2], by rw [hl2]; unfold maxLen at g3; omega, ?_⟩
            by_cases hL : L j = 0
            · left
              rw [hL, List.take_zero]
            · right
              cases hA : A j with
              | none => have := g6 hA; omega
              | some y =>
                obtain ⟨_, hy⟩ := g7 y hA
                obtain ⟨b2, off2, spot⟩ := y
                have hspot : spot = none := by simpa [Addr.add] using World.cell?_spot (hy 0 (by omega))
                subst hspot
                refine ⟨b2, off2, rfl, ?_⟩
                intro i hi
                rw [hl2] at hi
                have := hy i (by omega)
                rw [add_plain] at this
                rw [this]
                simp [List.getD, hi])
          (by
            intro j c hj hcell
            rw [hlen] at hj
            obtain ⟨g1, g2, g3, g4, g5, g6, g7⟩ := hrow j (by omega)
            rw [add_plain, hcell] at g1
            simp at g1
            obtain ⟨e1, e2, e3⟩ := g1
            rw [e3]
            exact g6 e1.symm)
        rw [hlen] at hw
        exact hw
  clear hA0 hval0
  refine hwalk.mono fun e W' ⟨he, bel⟩ => ?_
  subst he
  exact ⟨_, rfl, _, _, _, [], _, [], hW', trodAll_mk1 (shut_bool Try.underlying4 _), (trodAll_cons_mk (shut_int Try.underlying3 w0) (trodAll_cons_mk (Below.trod parts_laidOut (by kernel_rfl) (of_decide_eq_true (by kernel_rfl)) k1 bel lt1) trodAll_mk0)), rfl, bel.frame _, fun h => by cases h⟩

theorem parts_over : Rows.sumPartsRow.holds Try.pinned (OpenSpec.ofChange Rows.sumPartsSpec) :=
  OpenClaim.holds_of_wide 4 Try.f4 rfl rfl rfl rfl rfl rfl rfl ⟨rfl, rfl, rfl, rfl, rfl⟩ rfl rfl rfl rfl rfl (by kernel_rfl) Try.func4 (by kernel_rfl)
    (of_decide_eq_true (by kernel_rfl)) (by unfold Func.isWrapper; first | (rw [if_pos (by decide +kernel)]; kernel_rfl) | (rw [if_neg (by decide +kernel)]; exact ⟨rfl, rfl⟩))
    (fun os started H enc _ => parts_lifted os started H enc)

theorem sumParts_holds : Rows.SumPartsSaid := parts_over
#print axioms sumParts_holds
end Go.Proofs.Ytdnoeeghmfbcbaa
