/-
  Proved: for every list of entries, every commit and all bytes the law ObjectBack of layer 8 returns true and leaves all as it was: what is written is read back as it was, and what is read is written as it stood. No condition.
-/
import Derived.Test.YtadjcmekpcimjaaBackLaw
import Derived.Test.YtadjcmekpcimjaaArgs
namespace Go.Proofs.Ytadjcmekpcimjaa
open Go.ChangeShapes Go.WideShapes Go.ChangeAt Go.RowKit

set_option maxRecDepth 100000 in
theorem back_lifted (os : Os) (started : os.Started) (H : Type) (enc : TypeId × Value → H) :
    ReturnsInHanded {} Try.checked os 5 .any (Rows.objectBackSpec.pre6 enc Try.prog Try.f5 Rows.objectBackRow.domain false) (Rows.objectBackSpec.post enc Try.prog Try.f5 false true false false) := by
  refine returnsInHanded_of_change_sized (C := Try.checked) own_knob started (by kernel_rfl) Try.func5
    (ChangeSpec.witness6 (enc := enc) (C := Try.checked) false ⟨#[], #[.slice none 0 0, .agg #[.int .u64 0, .slice none 0 0, .int .i64 0, .string ⟨#[]⟩], .slice none 0 0], []⟩ 8 (by kernel_rfl) (by kernel_rfl) (by kernel_rfl) (by kernel_rfl)) ?_
  intro W base args ds gs before hval0 hW hcnd hsz0 _
  have hval : ∀ (j : Nat) t v, Try.f5.params[j]? = some t → args[j]? = some v → Value.okWide Try.prog W .any base t v := hval0
  have hsz : (DataW.weightsEach Try.prog (Try.f5.params.toList ++ Rows.objectBackSpec.plain.varTypes Try.prog) (ds ++ gs)).all (· ≤ reachBytes) = true := hsz0
  have hW' := hW
  obtain ⟨p, q, hA0, hV, rfl, hfz, hnd⟩ := hW
  have hA : DataW.TrodAll enc Try.prog W 0 (fun _ => true) true Try.f5.params.toList args.toList ds p := hA0
  rw [Try.params5] at hA hval hsz
  obtain ⟨v0, vs0, d0, ds0, p0, q0, hargs, rfl, rfl, h0, r0⟩ := trodAll_cons hA
  obtain ⟨v1, vs1, d1, ds1, p1, q1, rfl, rfl, rfl, h1, r1⟩ := trodAll_cons r0
  obtain ⟨v2, vs2, d2, ds2, p2, q2, rfl, rfl, rfl, h2, r2⟩ := trodAll_cons r1
  obtain ⟨rfl, rfl, rfl⟩ := trodAll_nil r2
  obtain rfl : args = #[v0, v1, v2] := by cases args; simp_all
  obtain ⟨rfl, rfl⟩ := trodVars_none hV
  have near := fun m hm => of_decide_eq_true (List.all_eq_true.1 hsz m hm)
  obtain ⟨a0, len0, cap0, rfl⟩ := okWide_slice Try.underlying22 (hval 0 22 v0 rfl rfl)
  obtain ⟨cs1, rfl, hz1⟩ := okWide_struct Try.underlying44 (hval 1 44 v1 rfl rfl)
  have c44 : Try.prog.cellsOf 44 = 4 := by kernel_rfl
  rw [c44] at hz1
  obtain ⟨e0, e1, e2, e3, rfl⟩ : ∃ x y z t, cs1 = #[x, y, z, t] := by
    rcases cs1 with ⟨_ | ⟨x, _ | ⟨y, _ | ⟨z, _ | ⟨t, _ | ⟨r, l⟩⟩⟩⟩⟩⟩ <;> simp at hz1
    exact ⟨x, y, z, t, rfl⟩
  obtain ⟨a2, len2, cap2, rfl⟩ := okWide_slice Try.underlying23 (hval 2 23 v2 rfl rfl)
  have k0 := h0
  have lt0 : ∀ x ∈ p0, x.block < W.heap.size := by obtain ⟨m, hm⟩ := k0; exact DataW.trod_lt m _ _ _ hm
  have k1 := h1
  have lt1 : ∀ x ∈ p1, x.block < W.heap.size := by obtain ⟨m, hm⟩ := k1; exact DataW.trod_lt m _ _ _ hm
  have k2 := h2
  have lt2 : ∀ x ∈ p2, x.block < W.heap.size := by obtain ⟨m, hm⟩ := k2; exact DataW.trod_lt m _ _ _ hm
  have hwalk : Calls Try.prog 5 #[.slice a0 len0 cap0, .agg #[e0, e1, e2, e3], .slice a2 len2 cap2] W fun e w' => e = .returned (.bool true) ∧ Below W.heap.size W w' := by
    obtain ⟨fuel0, hf0⟩ := h0
    obtain ⟨es0, l0, m0, o0, rd0, fi0⟩ := ents_view (by simpa [Value.cells] using hf0) (near_each near (j := 0) rfl rfl)
    obtain ⟨fuel1, hf1⟩ := h1
    obtain ⟨cc1, pa1, pn1, pk1, rfl, rfl, rfl, rfl, pl1, pm1, po1, pr1, pt1⟩ := com_view (by simpa [Value.cells] using hf1) (near_each near (j := 1) rfl rfl)
    obtain ⟨fuel2, hf2⟩ := h2
    obtain ⟨a'2, l'2, c'2, bs2, e2, l2, m2, o2, u2, rd2⟩ := bytes_view (v := .slice a2 len2 cap2) (by simpa [Value.cells] using hf2) (near_each near (j := 2) rfl rfl)
    cases e2
    exact back_walk a0 len0 cap0 es0 cc1 pa1 pn1 pk1 a2 len2 cap2 bs2 W rd0 l0 fi0 o0 m0 pr1 pl1 pm1 po1 ⟨a2, cap2, by rw [l2], by rw [l2]; exact m2, o2, rd2⟩ l2
  clear hA0 hval0
  simp only [List.append_nil] at hW'
  refine hwalk.mono fun e W' ⟨he, bel⟩ => ?_
  subst he
  exact ⟨_, rfl, _, _, _, [], _, [], hW', trodAll_mk1 (shut_bool Try.underlying4 _), (trodAll_cons_mk (Below.trod laidOut (by kernel_rfl) (of_decide_eq_true (by kernel_rfl)) k0 bel lt0) (trodAll_cons_mk (Below.trod laidOut (by kernel_rfl) (of_decide_eq_true (by kernel_rfl)) k1 bel lt1) (trodAll_cons_mk (Below.trod laidOut (by kernel_rfl) (of_decide_eq_true (by kernel_rfl)) k2 bel lt2) trodAll_mk0))), rfl, bel.frame _, fun h => by cases h⟩

theorem back_over : Rows.objectBackRow.holds Try.pinned (OpenSpec.ofChange Rows.objectBackSpec) :=
  OpenClaim.holds_of_wide 5 Try.f5 rfl rfl rfl rfl rfl rfl rfl ⟨rfl, rfl, rfl, rfl, rfl⟩ rfl rfl rfl rfl rfl (by kernel_rfl) Try.func5 (by kernel_rfl)
    (of_decide_eq_true (by kernel_rfl)) (by unfold Func.isWrapper; first | (rw [if_pos (by decide +kernel)]; kernel_rfl) | (rw [if_neg (by decide +kernel)]; exact ⟨rfl, rfl⟩))
    (fun os started H enc _ => back_lifted os started H enc)

theorem objectBack_holds : Rows.ObjectBackSaid := back_over
#print axioms objectBack_holds
end Go.Proofs.Ytadjcmekpcimjaa
