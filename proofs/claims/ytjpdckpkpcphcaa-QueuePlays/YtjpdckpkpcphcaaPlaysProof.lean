/-
  Proved: for every list of items and every script of acts the law QueuePlays of layer 2 returns true and leaves both as they were: what is popped and seen, call by call, is what the document says. No condition.
-/
import Derived.Test.YtjpdckpkpcphcaaPlays
import Derived.Test.YtjpdckpkpcphcaaActs
namespace Go.Proofs.Ytjpdckpkpcphcaa
open Go.ChangeShapes Go.WideShapes Go.ChangeAt Go.RowKit

theorem acts_in {H : Type} {enc : TypeId × Value → H} {W : World} {spare : Nat → Bool} {held : Bool} {fuel len cap : Nat} {a : Option Addr} {x : DataW H × List MemPlace}
    (h : DataW.trod enc Try.prog W 0 spare held fuel 23 [.slice a len cap] = some x) : len ≤ 9223372036854775807 ∧ ∃ K A Ln C X, ActsIn W a len K A Ln C X := by
  obtain ⟨h1, h2⟩ := acts_view h
  refine ⟨h1, ?_⟩
  by_cases h0 : 0 < len
  · obtain ⟨b, off, rfl, hb, hc⟩ := h2 h0
    have hall : ∀ i, ∃ q : Int × Option Addr × Nat × Nat × List It, i < len → W.cell? ⟨b, off + i * 2, none⟩ = some (.int .i64 q.1) ∧ W.cell? ⟨b, off + i * 2 + 1, none⟩ = some (.slice q.2.1 q.2.2.1 q.2.2.2.1) ∧ q.2.2.2.2.length = q.2.2.1 ∧ q.2.2.1 ≤ 9223372036854775807 ∧ ItemsIn W q.2.1 q.2.2.2.2 := by
      intro i
      by_cases hi : i < len
      · obtain ⟨q, hq⟩ := hc i hi
        exact ⟨q, fun _ => hq⟩
      · exact ⟨(0, none, 0, 0, []), fun h => absurd h hi⟩
    refine ⟨fun i => (Classical.choose (hall i)).1, fun i => (Classical.choose (hall i)).2.1, fun i => (Classical.choose (hall i)).2.2.1, fun i => (Classical.choose (hall i)).2.2.2.1, fun i => (Classical.choose (hall i)).2.2.2.2, fun _ => ⟨b, off, rfl, hb, fun i hi => ?_⟩⟩
    exact Classical.choose_spec (hall i) hi
  · exact ⟨fun _ => 0, fun _ => none, fun _ => 0, fun _ => 0, fun _ => [], fun h => absurd h h0⟩

theorem plays_own : ownKnob Try.prog.godebug = none := by kernel_rfl
theorem plays_laidOut : laidOutB Try.prog = true := by kernel_rfl

set_option maxRecDepth 100000 in
theorem plays_lifted (os : Os) (started : os.Started) (H : Type) (enc : TypeId × Value → H) :
    ReturnsInHanded {} Try.checked os 3 .any (Rows.queuePlaysSpec.pre6 enc Try.prog Try.f3 Rows.queuePlaysRow.domain false) (Rows.queuePlaysSpec.post enc Try.prog Try.f3 false true false false) := by
  refine returnsInHanded_of_change (C := Try.checked) plays_own started (by kernel_rfl) Try.func3
    (ChangeSpec.witness6 (enc := enc) (C := Try.checked) false ⟨#[], #[.slice none 0 0, .slice none 0 0], []⟩ 8 (by kernel_rfl) (by kernel_rfl) (by kernel_rfl) (by kernel_rfl)) ?_
  intro W base args ds gs before hval0 hW hcnd _
  have hval : ∀ (j : Nat) t v, Try.f3.params[j]? = some t → args[j]? = some v → Value.okWide Try.prog W .any base t v := hval0
  have hW' := hW
  obtain ⟨p, q, hA0, hV, rfl, hfz, hnd⟩ := hW
  have hA : DataW.TrodAll enc Try.prog W 0 (fun _ => true) true Try.f3.params.toList args.toList ds p := hA0
  rw [Try.params3] at hA hval
  obtain ⟨v0, vs0, d0, ds0, p0, q0, hargs, rfl, rfl, h0, r0⟩ := trodAll_cons hA
  obtain ⟨v1, vs1, d1, ds1, p1, q1, rfl, rfl, rfl, h1, r1⟩ := trodAll_cons r0
  obtain ⟨rfl, rfl, rfl⟩ := trodAll_nil r1
  obtain rfl : args = #[v0, v1] := by cases args; simp_all
  obtain ⟨rfl, rfl⟩ := trodVars_none hV
  obtain ⟨a0, len0, cap0, rfl⟩ := okWide_slice Try.underlying22 (hval 0 22 v0 rfl rfl)
  obtain ⟨a1, len1, cap1, rfl⟩ := okWide_slice Try.underlying23 (hval 1 23 v1 rfl rfl)
  have k0 := h0
  have k1 := h1
  have lt0 : ∀ x ∈ p0, x.block < W.heap.size := by obtain ⟨m, hm⟩ := k0; exact DataW.trod_lt m _ _ _ hm
  have lt1 : ∀ x ∈ p1, x.block < W.heap.size := by obtain ⟨m, hm⟩ := k1; exact DataW.trod_lt m _ _ _ hm
  have hwalk : Calls Try.prog 3 #[.slice a0 len0 cap0, .slice a1 len1 cap1] W fun e w' => e = .returned (.bool true) ∧ Below W.heap.size W w' := by
    obtain ⟨fuel, hf⟩ := h0
    obtain ⟨fuel1, hf1⟩ := h1
    obtain ⟨xs, hl, hm, hi⟩ := items_view (by simpa [Value.cells] using hf)
    obtain ⟨hm1, K, A, Ln, C, X, hac⟩ := acts_in (by simpa [Value.cells] using hf1)
    exact plays_walk a0 a1 len0 cap0 len1 cap1 xs K A Ln C X W hl hm hm1 hi hac
  clear hA0 hval0
  refine hwalk.mono fun e W' ⟨he, bel⟩ => ?_
  subst he
  exact ⟨_, rfl, _, _, _, [], _, [], hW', trodAll_mk1 (shut_bool Try.underlying4 _), (trodAll_cons_mk (Below.trod plays_laidOut (by kernel_rfl) (of_decide_eq_true (by kernel_rfl)) k0 bel lt0) (trodAll_cons_mk (Below.trod plays_laidOut (by kernel_rfl) (of_decide_eq_true (by kernel_rfl)) k1 bel lt1) trodAll_mk0)), rfl, bel.frame _, fun h => by cases h⟩

theorem plays_over : Rows.queuePlaysRow.holds Try.pinned (OpenSpec.ofChange Rows.queuePlaysSpec) :=
  OpenClaim.holds_of_wide 3 Try.f3 rfl rfl rfl rfl rfl rfl rfl ⟨rfl, rfl, rfl, rfl, rfl⟩ rfl rfl rfl rfl rfl (by kernel_rfl) Try.func3 (by kernel_rfl)
    (of_decide_eq_true (by kernel_rfl)) (by unfold Func.isWrapper; first | (rw [if_pos (by decide +kernel)]; kernel_rfl) | (rw [if_neg (by decide +kernel)]; exact ⟨rfl, rfl⟩))
    (fun os started H enc _ => plays_lifted os started H enc)

theorem queuePlays_holds : Rows.QueuePlaysSaid := plays_over
#print axioms queuePlays_holds
end Go.Proofs.Ytjpdckpkpcphcaa
