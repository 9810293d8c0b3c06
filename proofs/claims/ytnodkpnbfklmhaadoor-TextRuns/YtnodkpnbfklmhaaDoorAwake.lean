/-
  The law's own look at answers that the document fixes returns true, by a contract. No condition.
-/
import Derived.Test.YtnodkpnbfklmhaaDoorRCut
import Derived.Test.YtnodkpnbfklmhaaDoorMRuns
namespace Go.Proofs.YtnodkpnbfklmhaaDoor
open Go.RowKit

theorem lines_fixed : lines [97, 10, 10, 98] = [[97, 10], [10], [98]] := by rfl

theorem runs_fixed {R : List Pr} (h : Made (sortI [4, 1, 2, 1]) R) : R = [(1, 2), (4, 4)] := by
  have h1 : Made [1] [(1, 1)] := Made.nil.add (n := 1) (by simp) (by simp [isInt]) (by simp)
  have h2 : Made [1, 1] [(1, 1)] := h1.add (n := 1) (by simp) (by simp [isInt]) (by simp [isInt])
  have h3 : Made [1, 1, 2] [(1, 2)] := by
    have := h2.add (n := 2) (by simp) (by simp [isInt]) (by simp [isInt])
    rw [show addRun [(1, 1)] 2 = [(1, 2)] from by simp [addRun, wrap64]] at this
    exact this
  have h4 : Made [1, 1, 2, 4] [(1, 2), (4, 4)] := by
    have := h3.add (n := 4) (by simp) (by simp [isInt]) (by simp [isInt])
    rw [show addRun [(1, 2)] 4 = [(1, 2), (4, 4)] from by simp [addRun, wrap64]] at this
    exact this
  refine h.runs.uniq (h4.runs.of_mem (fun x => ?_))
  rw [sortI_mem]
  simp only [List.mem_cons, List.not_mem_nil, or_false]
  omega

set_option maxHeartbeats 3200000 in
set_option maxRecDepth 100000 in
theorem awake_walk (w : World) : Calls Tryd.prog 8 #[] w fun e w' => e = .returned (.bool true) ∧ Below w.heap.size w w' := by
  have hli := lines_any ⟨#[97, 10, 10, 98]⟩ (by decide) w
  rw [show (⟨#[97, 10, 10, 98]⟩ : ByteArray).data.toList = [97, 10, 10, 98] from rfl, lines_fixed] at hli
  go_enter Tryd.func8, Tryd.ntmps8
  go_wp2_with fail
  refine hli.mono ?_
  rintro e w1 ⟨n, c, rfl, hn, hnc, hc, hr, hb⟩
  obtain rfl : n = 3 := hn.symm
  have L : Hid (Rd w1 (some ⟨w.heap.size, 0, none⟩) [[97, 10], [10], [98]] ∧ Below w.heap.size w w1) := ⟨hr, hb⟩
  clear hli hr hb hn
  have hb2 : Below w1.heap.size w1 (w1.alloc (.cells #[.int .i64 4, .int .i64 1, .int .i64 2, .int .i64 1] 3)) := (Below.refl _ w1).alloc (Nat.le_refl _) _
  have hrd : RdG encI (w1.alloc (.cells #[.int .i64 4, .int .i64 1, .int .i64 2, .int .i64 1] 3)) (some ⟨w1.heap.size, 0, none⟩) [4, 1, 2, 1] := by
    intro _
    refine ⟨w1.heap.size, 0, rfl, by simp, ?_⟩
    intro i x hx j u hu
    have hj : j = 0 := by
      cases j with
      | zero => rfl
      | succ j => simp [encI] at hu
    subst hj
    simp [encI] at hu
    rw [Nat.zero_add, World.cell?_alloc_new]
    match i, hx with
    | 0, hx => simp at hx; subst hx hu; rfl
    | 1, hx => simp at hx; subst hx hu; rfl
    | 2, hx => simp at hx; subst hx hu; rfl
    | 3, hx => simp at hx; subst hx hu; rfl
  have hru := runs_any (c := 4) (n := 4) _ hrd rfl (by omega) (by simp [isInt])
  have B2 : Hid _ := hb2
  clear hrd hb2
  go_wp2_with fail
  refine hru.mono ?_
  rintro e w2 ⟨v, R, rfl, ho, hM, hRl, hb⟩
  obtain rfl := runs_fixed hM
  obtain ⟨g, cap, rfl, hc1, hc2, hbg⟩ := own_some ho (by simp) (m := 2) rfl
  obtain ⟨k1, k2, k3, k4⟩ := pair_cells ho (i := 0) (x := (1, 2)) rfl
  obtain ⟨ao, cap', e', _, _, R2, _⟩ := ho.form
  have e2 : some ⟨g, 0, none⟩ = ao := by simp at e'; exact e'.1
  subst e2
  have hbl : Below w.heap.size w w2 := L.out.2.trans ((B2.out.trans (hb.mono B2.out.size)).mono L.out.2.size)
  have L2 := L.out.1.below (B2.out.trans (hb.mono B2.out.size))
  obtain ⟨b0, off0, e0, hlt0, hcell⟩ := L2 (by decide)
  obtain ⟨rfl, rfl⟩ : w.heap.size = b0 ∧ 0 = off0 := by simpa using e0
  have c0 := hcell 0 (by decide)
  have c1 := hcell 1 (by decide)
  have c2 := hcell 2 (by decide)
  simp only [el, Nat.zero_add, List.getD_cons_zero, List.getD_cons_succ] at c0 c1 c2
  have G : Hid (RdG encP w2 (some ⟨g, 0, none⟩) [(1, 2), (4, 4)] ∧ Below w.heap.size w w2) := ⟨R2, hbl⟩
  clear hru hM hRl hb L2 hcell e0 e' R2 ho hbl
  have hin := in_any (c := cap) (n := 2) 2 w2 G.out.1 rfl (by omega) true (by decide)
  go_wp2_with (go_at_call 15; refine hin.mono ?_; rintro e w3 ⟨rfl, hb3⟩; have B3 : Hid (Below w.heap.size w w3) := G.out.2.trans (hb3.mono G.out.2.size); clear hb3)
  have ha : Below w3.heap.size w3 (w3.alloc (.cells #[.string ⟨#[97]⟩, .string ⟨#[98]⟩] 9)) := (Below.refl _ w3).alloc (Nat.le_refl _) _
  refine (join_any (n := 2) (xs := [[97], [98]]) _ ?q1 rfl (by omega) (by omega) ⟨#[97, 98]⟩ rfl (by decide)).mono ?_
  case q1 =>
    intro _
    refine ⟨w3.heap.size, 0, rfl, by simp, fun i hi => ?_⟩
    rw [Nat.zero_add, World.cell?_alloc_new]
    match i, hi with
    | 0, _ => rfl
    | 1, _ => rfl
  rintro e w4 ⟨rfl, hb4⟩
  have B4 : Hid (Below w.heap.size w w4) := B3.out.trans ((ha.trans (hb4.mono ha.size)).mono B3.out.size)
  clear hb4 ha
  go_wp2
  go_ret
  exact ⟨rfl, B4.out⟩

end Go.Proofs.YtnodkpnbfklmhaaDoor
