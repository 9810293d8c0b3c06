/-
  parse.Show by a contract. No condition but that the program's variables hold what its text lays there, and that a tree isn't too great.
-/
import Derived.Test.YtijchmcajhdcoaaGreatDoorJWri
namespace Go.Proofs.YtijchmcajhdcoaaGreatDoor
open Go.RowKit

theorem FoIn.low {Q : Nat → Prop} {w : World} : ∀ {f : Fo} {vs : List NV}, FoIn Q w f vs → FoIn (fun g => g < w.heap.size) w f vs
  | .nil, vs, h => h
  | .cons op text num id kids pos next, vs, h => by
    obtain ⟨v, r, rfl, h2, ⟨us, h3, h4, h5⟩, h6⟩ := h
    refine ⟨v, r, rfl, h2, ⟨us, h3, fun q a e => ?_, FoIn.low h5⟩, FoIn.low h6⟩
    obtain ⟨b, off, e2, hlt, _⟩ := h3 q
    rw [e2] at e
    cases e
    exact hlt
/-- A tree's rows lie in blocks that there are. -/
theorem NdIn.low {Q : Nat → Prop} {w : World} {v : NV} {n : Nd} (h : NdIn Q w v n) : NdIn (fun g => g < w.heap.size) w v n := by
  obtain ⟨us, a, b, c⟩ := h.kids
  refine ⟨h.op, h.text, h.num, h.id, h.pos, h.kl, h.kc, us, a, fun q x e => ?_, c.low⟩
  obtain ⟨bb, off, e2, hlt, _⟩ := a q
  rw [e2] at e
  cases e
  exact hlt

set_option maxHeartbeats 1600000 in
set_option maxRecDepth 100000 in
theorem show_any (nd : Nd) (hw : WfT nd) (hwt : nd.wt ≤ 90000) {Q : Nat → Prop} (w : World) (v : NV) (hv : NdIn Q w v nd) (hg : Gl w) (hi : Inf w) :
    Calls Tryz.prog 9 #[v.val] w fun e w' => e = .returned (.string ⟨(txt nd.ps).toArray⟩) ∧ Below w.heap.size w w' := by
  have hsz := nd.wt_sz
  obtain ⟨W1, m1, hW1, hm1, hx1, bW1, _, hB1, hlt1⟩ := lay6 (Below.refl _ w) (Nat.le_refl _) 28 (.int .i64 v.op) (.string ⟨v.text.toArray⟩) (.int .i64 v.num) (.int .u64 v.id) (.slice v.ka v.kl v.kc) (.int .i64 v.pos)
  have hsp := spare_any nd 65536 (by omega) (by omega) Q W1 v (hv.below bW1)
  have hss : ¬ (((65536 - nd.sz : Nat) : Int)) < 0 := by omega
  obtain ⟨S, hS⟩ : ∃ S, 65536 - nd.sz = S := ⟨_, rfl⟩
  rw [hS] at hsp hss
  have H : Hid (NdIn Q w v nd ∧ Gl w ∧ Inf w ∧ WfT nd ∧ Below w.heap.size w W1 ∧ Box6 W1 m1 28 (.int .i64 v.op) (.string ⟨v.text.toArray⟩) (.int .i64 v.num) (.int .u64 v.id) (.slice v.ka v.kl v.kc) (.int .i64 v.pos)) := ⟨hv, hg, hi, hw, bW1, hx1⟩
  obtain ⟨e0, e1, e2, e3, e4, e5⟩ := hx1.cells
  clear hv hg hi hw bW1 hx1 hS hsz
  obtain ⟨vo, vt, vn, vi, va, vl, vc, vp⟩ := v
  simp only at H e0 e1 e2 e3 e4 e5 hsp hW1 ⊢
  go_enter Tryz.func9, Tryz.ntmps9
  go_upto_region 1 with fail
  clear hW1 hm1
  go_wp2_with fail
  refine hsp.mono ?_
  rintro e w2 ⟨rfl, b2⟩
  clear hsp e0 e1 e2 e3 e4 e5
  have hs1 := H.out.2.2.2.2.1.size
  have hs2 := b2.size
  obtain ⟨W3, B, hW3, hB, bW3, hs3⟩ := layR w2 74 #[.pointer none, .slice none 0 0]
  have hbd := Bd.new w2
  rw [hW3, hB] at hbd
  have h23 : Below W1.heap.size W1 W3 := b2.trans (bW3.mono hs2)
  have h03 : Below w.heap.size w W3 := H.out.2.2.2.2.1.trans (h23.mono hs1)
  have x3 := H.out.2.2.2.2.2.below h23
  obtain ⟨e0, e1, e2, e3, e4, e5⟩ := x3.cells
  have H3 : Hid (Bd B B [] W3 ∧ Below w.heap.size w W3 ∧ NdIn (fun g => g < B) W3 ⟨vo, vt, vn, vi, va, vl, vc, vp⟩ nd ∧ Gb B W3 ∧ B ≤ W3.heap.size ∧ w.heap.size ≤ B) :=
    ⟨hbd, h03, ((H.out.1.low).below h03).mono (fun g hg => by omega), Gb.of H.out.2.1 H.out.2.2.1 (by omega) h03, by omega, by omega⟩
  clear hbd h23 h03 x3 b2 bW3
  go_wp2_with fail
  clear hW3 hB
  refine (write_any2 nd H.out.2.2.2.1 B B [] W3 ⟨vo, vt, vn, vi, va, vl, vc, vp⟩ H3.out.1 H3.out.2.2.2.2.1 H3.out.2.2.1 H3.out.2.2.2.1 (by simp; omega) hwt).mono ?_
  rintro e w4 ⟨rfl, hB4, hb4, _⟩
  rw [List.nil_append] at hB4
  have H4 : Hid (Bd B B (txt nd.ps) w4 ∧ Below B W3 w4) := ⟨hB4, hb4⟩
  clear hB4 hb4 e0 e1 e2 e3 e4 e5
  go_wp2_with fail
  refine (string_any B B _ w4 H4.out.1 (by have := H3.out.2.2.2.2.1; have := H4.out.2.size; omega)).mono ?_
  rintro e w5 ⟨rfl, hb5⟩
  go_wp2_with fail
  go_ret
  exact ⟨rfl, (H3.out.2.1.trans (H4.out.2.mono H3.out.2.2.2.2.2)).trans (hb5.mono H3.out.2.2.2.2.2)⟩

end Go.Proofs.YtijchmcajhdcoaaGreatDoor
