/-
  Proved: for every list of lines and every list of hunks that hold together at most 1,048,576 values and letters (the second form's bound on what came in) the law DiffApplies of layer 5 returns true and leaves both as they were: diff.Apply makes just the document's lines, or refuses as it says, and nothing that is handed in is changed.
-/
import Derived.Test.YtmblkkmfbgngdaaAppliesLaw
import Derived.Test.YtmblkkmfbgngdaaHArgs
namespace Go.Proofs.Ytmblkkmfbgngdaa
open Go.ChangeShapes Go.WideShapes Go.ChangeAt Go.RowKit

theorem applies_contract (H : Type) (enc : TypeId × Value → H) (W : World) (base : Nat) (args : Array Value) (ds gs : List (DataW H)) (before : List MemPlace)
    (hval : ∀ (j : Nat) t v, Try.f6.params[j]? = some t → args[j]? = some v → Value.okWide Try.prog W .any base t v)
    (hW : DataW.Whole enc Try.prog Try.f6.params.toList Rows.diffAppliesSpec.vars false W args.toList ds gs before)
    (hk : Rows.uptoSmall H (ds ++ gs) = true) :
    Calls Try.prog 6 args W fun e W' => ∃ v, e = .returned v ∧ Rows.diffAppliesSpec.post enc Try.prog Try.f6 false true false false W args v W' := by
  have hW' := hW
  obtain ⟨p, q, hA0, hV, rfl, hfz, hnd⟩ := hW
  have hA : DataW.TrodAll enc Try.prog W 0 (fun _ => true) true Try.f6.params.toList args.toList ds p := hA0
  rw [Try.params6] at hA hval
  obtain ⟨v0, vs0, d0, ds0, p0, q0, hargs, rfl, rfl, h0, r0⟩ := trodAll_cons hA
  obtain ⟨v1, vs1, d1, ds1, p1, q1, rfl, rfl, rfl, h1, r1⟩ := trodAll_cons r0
  obtain ⟨rfl, rfl, rfl⟩ := trodAll_nil r1
  obtain rfl : args = #[v0, v1] := by cases args; simp_all
  obtain ⟨rfl, rfl⟩ := trodVars_none hV
  obtain ⟨a0, len0, cap0, rfl⟩ := okWide_slice Try.underlying22 (hval 0 22 v0 rfl rfl)
  obtain ⟨a1, len1, cap1, rfl⟩ := okWide_slice Try.underlying31 (hval 1 31 v1 rfl rfl)
  have k0 := h0
  have k1 := h1
  have lt0 : ∀ x ∈ p0, x.block < W.heap.size := by obtain ⟨m, hm⟩ := k0; exact DataW.trod_lt m _ _ _ hm
  have lt1 : ∀ x ∈ p1, x.block < W.heap.size := by obtain ⟨m, hm⟩ := k1; exact DataW.trod_lt m _ _ _ hm
  have hb := of_decide_eq_true hk
  simp only [Rows.uptoBulkAll, List.append_nil, Nat.add_zero] at hb
  have hwalk : Calls Try.prog 6 #[.slice a0 len0 cap0, .slice a1 len1 cap1] W fun e w' => e = .returned (.bool true) ∧ Below W.heap.size W w' := by
    obtain ⟨fuel0, hf0⟩ := h0
    obtain ⟨fuel1, hf1⟩ := h1
    obtain ⟨xs, hl, hm, hc, hi⟩ := texts_view (by simpa [Value.cells] using hf0)
    obtain ⟨vs, hs, hl1, hm1, hv, hh, hn1, hn2⟩ := hunks_view (by simpa [Value.cells] using hf1)
    have hn0 : len0 ≤ Rows.uptoBulk d0 := by
      rcases texts_datum (by simpa [Value.cells] using hf0) with h | ⟨es, sp, he, hlen⟩
      · omega
      · have hd : d0 = .slice es sp := he
        subst hd
        have := bulk_many es
        simp only [Rows.uptoBulk]
        omega
    have hn1' : len1 ≤ Rows.uptoBulk d1 := hn1
    have hn2' : lines hs ≤ Rows.uptoBulk d1 := hn2
    have ht := tot_lines hs
    exact applies_walk a0 a1 len0 cap0 len1 cap1 xs vs hs W hl hc hi hv hh hl1 (by omega) (by omega) (fun h hm => by have := mem_lines hs h hm; omega)
  clear hA0 hk hb
  simp only [List.append_nil] at hW'
  refine hwalk.mono fun e W' ⟨he, bel⟩ => ?_
  subst he
  exact ⟨_, rfl, _, _, _, [], _, [], hW', trodAll_mk1 (shut_bool Try.underlying4 _), (trodAll_cons_mk (Below.trod laidOut (by kernel_rfl) (of_decide_eq_true (by kernel_rfl)) k0 bel lt0) (trodAll_cons_mk (Below.trod laidOut (by kernel_rfl) (of_decide_eq_true (by kernel_rfl)) k1 bel lt1) trodAll_mk0)), rfl, bel.frame _, fun h => by cases h⟩

set_option maxRecDepth 100000 in
theorem applies_lifted (os : Os) (started : os.Started) (H : Type) (enc : TypeId × Value → H) (F : Stop.Interp) :
    ReturnsInHanded {} Try.checked os 6 .any ((Rows.OpenSpec.upto Rows.diffAppliesSpec).pre6 enc Try.prog Try.f6 Rows.diffAppliesUptoRow.domain false) (((Rows.OpenSpec.upto Rows.diffAppliesSpec).at F).post enc Try.prog Try.f6 false true false false) := by
  refine returnsInHanded_of_cond (C := Try.checked) (s := Rows.OpenSpec.upto Rows.diffAppliesSpec) (k := Rows.uptoSmall) rfl own_knob started (by kernel_rfl) Try.func6
    (OpenSpec.witness (enc := enc) (C := Try.checked) (s := Rows.OpenSpec.upto Rows.diffAppliesSpec) (k := Rows.uptoSmall) rfl false ⟨#[], #[.slice none 0 0, .slice none 0 0], []⟩ 8 (by kernel_rfl) (by kernel_rfl) (by kernel_rfl)
      (x := ([.nil, .nil], [], [])) (by kernel_rfl) rfl (by kernel_rfl)) ?_
  intro W base args ds gs before hval hW _ hk _
  exact applies_contract H enc W base args ds gs before hval hW hk

theorem applies_over : Rows.diffAppliesUptoRow.holds Try.pinned (Rows.OpenSpec.upto Rows.diffAppliesSpec) :=
  OpenClaim.holds_of_cond 6 Try.f6 rfl rfl rfl rfl rfl rfl rfl ⟨rfl, rfl, rfl, rfl, rfl⟩ rfl rfl rfl rfl rfl (by kernel_rfl) Try.func6 (by kernel_rfl)
    (of_decide_eq_true (by kernel_rfl)) (by unfold Func.isWrapper; first | (rw [if_pos (by decide +kernel)]; kernel_rfl) | (rw [if_neg (by decide +kernel)]; exact ⟨rfl, rfl⟩))
    (fun os started H enc _ F => applies_lifted os started H enc F)

theorem diffAppliesUpto_holds : Rows.DiffAppliesUptoSaid := applies_over
#print axioms diffAppliesUpto_holds
end Go.Proofs.Ytmblkkmfbgngdaa
