/-
  Proved: for every commit and all bytes the law ObjectCommits of layer 8 returns true and leaves all as it was: commits are written as the document says, or refused, and bytes are read as its commit, or as none. No condition.
-/
import Derived.Test.YtadjcmekpcimjaaCommitsLaw
import Derived.Test.YtadjcmekpcimjaaArgs
namespace Go.Proofs.Ytadjcmekpcimjaa
open Go.ChangeShapes Go.WideShapes Go.ChangeAt Go.RowKit

set_option maxRecDepth 100000 in
theorem commits_lifted (os : Os) (started : os.Started) (H : Type) (enc : TypeId × Value → H) :
    ReturnsInHanded {} Try.checked os 4 .any (Rows.objectCommitsSpec.pre6 enc Try.prog Try.f4 Rows.objectCommitsRow.domain false) (Rows.objectCommitsSpec.post enc Try.prog Try.f4 false true false false) := by
  refine returnsInHanded_of_change_sized (C := Try.checked) own_knob started (by kernel_rfl) Try.func4
    (ChangeSpec.witness6 (enc := enc) (C := Try.checked) false ⟨#[], #[.agg #[.int .u64 0, .slice none 0 0, .int .i64 0, .string ⟨#[]⟩], .slice none 0 0], []⟩ 8 (by kernel_rfl) (by kernel_rfl) (by kernel_rfl) (by kernel_rfl)) ?_
  intro W base args ds gs before hval0 hW hcnd hsz0 _
  have hval : ∀ (j : Nat) t v, Try.f4.params[j]? = some t → args[j]? = some v → Value.okWide Try.prog W .any base t v := hval0
  have hsz : (DataW.weightsEach Try.prog (Try.f4.params.toList ++ Rows.objectCommitsSpec.plain.varTypes Try.prog) (ds ++ gs)).all (· ≤ reachBytes) = true := hsz0
  have hW' := hW
  obtain ⟨p, q, hA0, hV, rfl, hfz, hnd⟩ := hW
  have hA : DataW.TrodAll enc Try.prog W 0 (fun _ => true) true Try.f4.params.toList args.toList ds p := hA0
  rw [Try.params4] at hA hval hsz
  obtain ⟨v0, vs0, d0, ds0, p0, q0, hargs, rfl, rfl, h0, r0⟩ := trodAll_cons hA
  obtain ⟨v1, vs1, d1, ds1, p1, q1, rfl, rfl, rfl, h1, r1⟩ := trodAll_cons r0
  obtain ⟨rfl, rfl, rfl⟩ := trodAll_nil r1
  obtain rfl : args = #[v0, v1] := by cases args; simp_all
  obtain ⟨rfl, rfl⟩ := trodVars_none hV
  have near := fun m hm => of_decide_eq_true (List.all_eq_true.1 hsz m hm)
  obtain ⟨cs0, rfl, hz0⟩ := okWide_struct Try.underlying44 (hval 0 44 v0 rfl rfl)
  have c44 : Try.prog.cellsOf 44 = 4 := by kernel_rfl
  rw [c44] at hz0
  obtain ⟨e0, e1, e2, e3, rfl⟩ : ∃ x y z t, cs0 = #[x, y, z, t] := by
    rcases cs0 with ⟨_ | ⟨x, _ | ⟨y, _ | ⟨z, _ | ⟨t, _ | ⟨r, l⟩⟩⟩⟩⟩⟩ <;> simp at hz0
    exact ⟨x, y, z, t, rfl⟩
  obtain ⟨a1, len1, cap1, rfl⟩ := okWide_slice Try.underlying23 (hval 1 23 v1 rfl rfl)
  have k0 := h0
  have lt0 : ∀ x ∈ p0, x.block < W.heap.size := by obtain ⟨m, hm⟩ := k0; exact DataW.trod_lt m _ _ _ hm
  have k1 := h1
  have lt1 : ∀ x ∈ p1, x.block < W.heap.size := by obtain ⟨m, hm⟩ := k1; exact DataW.trod_lt m _ _ _ hm
  have hwalk : Calls Try.prog 4 #[.agg #[e0, e1, e2, e3], .slice a1 len1 cap1] W fun e w' => e = .returned (.bool true) ∧ Below W.heap.size W w' := by
    obtain ⟨fuel0, hf0⟩ := h0
    obtain ⟨cc0, pa0, pn0, pk0, rfl, rfl, rfl, rfl, pl0, pm0, po0, pr0, pt0⟩ := com_view (by simpa [Value.cells] using hf0) (near_each near (j := 0) rfl rfl)
    obtain ⟨fuel1, hf1⟩ := h1
    obtain ⟨a'1, l'1, c'1, bs1, e1, l1, m1, o1, u1, rd1⟩ := bytes_view (v := .slice a1 len1 cap1) (by simpa [Value.cells] using hf1) (near_each near (j := 1) rfl rfl)
    cases e1
    exact commits_walk cc0 pa0 pn0 pk0 a1 len1 cap1 bs1 W pr0 pl0 pm0 po0 ⟨a1, cap1, by rw [l1], by rw [l1]; exact m1, o1, rd1⟩ l1 u1
  clear hA0 hval0
  simp only [List.append_nil] at hW'
  refine hwalk.mono fun e W' ⟨he, bel⟩ => ?_
  subst he
  exact ⟨_, rfl, _, _, _, [], _, [], hW', trodAll_mk1 (shut_bool Try.underlying4 _), (trodAll_cons_mk (Below.trod laidOut (by kernel_rfl) (of_decide_eq_true (by kernel_rfl)) k0 bel lt0) (trodAll_cons_mk (Below.trod laidOut (by kernel_rfl) (of_decide_eq_true (by kernel_rfl)) k1 bel lt1) trodAll_mk0)), rfl, bel.frame _, fun h => by cases h⟩

theorem commits_over : Rows.objectCommitsRow.holds Try.pinned (OpenSpec.ofChange Rows.objectCommitsSpec) :=
  OpenClaim.holds_of_wide 4 Try.f4 rfl rfl rfl rfl rfl rfl rfl ⟨rfl, rfl, rfl, rfl, rfl⟩ rfl rfl rfl rfl rfl (by kernel_rfl) Try.func4 (by kernel_rfl)
    (of_decide_eq_true (by kernel_rfl)) (by unfold Func.isWrapper; first | (rw [if_pos (by decide +kernel)]; kernel_rfl) | (rw [if_neg (by decide +kernel)]; exact ⟨rfl, rfl⟩))
    (fun os started H enc _ => commits_lifted os started H enc)

theorem objectCommits_holds : Rows.ObjectCommitsSaid := commits_over
#print axioms objectCommits_holds
end Go.Proofs.Ytadjcmekpcimjaa
