/-
  Pop, by its contract: a queue of at most 1,000,000 items that is a heap: the first item goes, and what is left is a heap again.
-/
import Derived.Test.YtjpdckpkpcphcaaSink
namespace Go.Proofs.Ytjpdckpkpcphcaa
open Go.RowKit

/-- The queue's slice is cut at its end. -/
theorem QAt.cut {w : World} {base b g n cap : Nat} {xs : List It} (h : QAt w base b (.slice (some ⟨g, 0, none⟩) n cap) xs) {m : Nat} (hm : m ≤ n) :
    QAt (w.setCell ⟨b, 0, none⟩ (.slice (some ⟨g, 0, none⟩) m cap)) base b (.slice (some ⟨g, 0, none⟩) m cap) (xs.take m) := by
  have hn : xs.length = n := own_len h.own
  have hne : g ≠ b := fun e => h.apart (by rw [← e]; rfl)
  refine ⟨one_setCell h.struct, ?_⟩
  have hl : (xs.take m).length = m := by rw [List.length_take]; omega
  refine ⟨by rw [flat_length], .inr ?_⟩
  rcases h.own.2 with ⟨e, _⟩ | ⟨g', cap', cur, e, hb, hg, h1, h2, h3, h4⟩
  · cases e
  · cases e
    refine ⟨g, cap, cur, by rw [hl], hb, by rw [Below.heap_setCell _ _ _ _ hne]; exact hg, by omega, h2, h3, ?_⟩
    rw [← flat_take, ← h4, List.take_take, hl]
    congr 1
    omega

/-- Two stores into one block. -/
theorem turned_two (w : World) (g i j : Nat) (p q : Value) : Turned (fun k => k = g) w ((w.setCell ⟨g, i, none⟩ p).setCell ⟨g, j, none⟩ q) := by
  have h : Turned (fun k => k = g) w (w.setCell ⟨g, i, none⟩ p) := (Turned.refl (fun k => k = g) w).setCell (p := ⟨g, i, none⟩) (.inl (show g = g from rfl)) p
  exact h.setCell (p := ⟨g, j, none⟩) (.inl (show g = g from rfl)) q

set_option maxHeartbeats 4000000 in
set_option maxRecDepth 1000000 in
theorem pop_none {base b cap : Nat} {ao : Option Addr} (w : World) (hq : QAt w base b (.slice ao 0 cap) []) :
    Calls Try.prog 11 #[.pointer (some ⟨b, 0, none⟩)] w fun e w' => e = .returned (.tuple #[itV (0, 0), .bool false]) ∧ Below w.heap.size w w' := by
  have H : Hid (QAt w base b (.slice ao 0 cap) []) := hq
  clear hq
  go_enter Try.func11, Try.ntmps11
  go_wp2_with fail
  refine (peek_any _ (H.out.below ((Below.refl _ w).alloc (Nat.le_refl _) _))).mono ?_
  rintro e w1 ⟨rfl, hbel⟩
  have hbl : Below w.heap.size w w1 := ((Below.refl _ w).alloc (Nat.le_refl _) _).trans (hbel.mono (by simp))
  have hr : w1.heap[w.heap.size]? = some (.cells #[.int .i64 0, .int .u64 0] 31 (0, 0)) := (hbel.block _ (by simp)).trans (heap_alloc_new w _)
  have hrl : w.heap.size < w1.heap.size := by have := hbel.size; simp at this; omega
  have r0 : w1.cell? ⟨w.heap.size, 0, none⟩ = some (.int .i64 0) := by rw [cell_of_row w1 _ 0 _ 31 (0, 0) hr]; rfl
  have r1 : w1.cell? ⟨w.heap.size, 1, none⟩ = some (.int .u64 0) := by rw [cell_of_row w1 _ 1 _ 31 (0, 0) hr]; rfl
  have q0 : w1.frozen? ⟨w.heap.size, 0, none⟩ = false := frozen_of_row w1 _ 0 _ 31 hr
  have q1 : w1.frozen? ⟨w.heap.size, 1, none⟩ = false := frozen_of_row w1 _ 1 _ 31 hr
  have B : Hid (Below w.heap.size w w1) := hbl
  clear hbel hbl hr
  have e0 : el [] 0 = (0, 0) := rfl
  rw [e0]
  unfold itV
  go_wp2
  refine bodyPost_ret (v := .tuple #[.agg #[.int .i64 0, .int .u64 0], .bool false]) ?_ rfl ⟨rfl, ?_⟩
  · simp [results, Try.f11]
    go_simp
  · exact ((B.out.setCell (Nat.le_refl _) _).setCell (Nat.le_refl _) _).alloc (by simp; omega) _

set_option maxHeartbeats 4000000 in
set_option maxRecDepth 1000000 in
theorem pop_row {base b g n cap : Nat} {xs : List It} (w : World) (hq : QAt w base b (.slice (some ⟨g, 0, none⟩) n cap) xs) (h0 : 0 < n) (hm : n ≤ 1000000) (hp : Pile xs) :
    Calls Try.prog 11 #[.pointer (some ⟨b, 0, none⟩)] w fun e w' => e = .returned (.tuple #[itV (el xs 0), .bool true]) ∧
      ∃ zs, QAt w' base b (.slice (some ⟨g, 0, none⟩) (n - 1) cap) zs ∧ zs.Perm xs.tail ∧ Pile zs ∧ Turned (fun k => k = b ∨ k = g) w w' := by
  have H : Hid (QAt w base b (.slice (some ⟨g, 0, none⟩) n cap) xs ∧ Pile xs) := ⟨hq, hp⟩
  have hl : xs.length = n := own_len hq.own
  have hne : xs.isEmpty = false := by cases xs with | nil => simp at hl; omega | cons _ _ => rfl
  clear hq hp
  go_enter Try.func11, Try.ntmps11
  go_wp2_with fail
  refine (peek_any _ (H.out.1.below ((Below.refl _ w).alloc (Nat.le_refl _) _))).mono ?_
  rintro e w1 ⟨rfl, hbel⟩
  rw [hne]
  have hbl : Below w.heap.size w w1 := ((Below.refl _ w).alloc (Nat.le_refl _) _).trans (hbel.mono (by simp))
  have hr : w1.heap[w.heap.size]? = some (.cells #[.int .i64 0, .int .u64 0] 31 (0, 0)) := (hbel.block _ (by simp)).trans (heap_alloc_new w _)
  obtain ⟨x, hx⟩ : ∃ x, el xs 0 = x := ⟨_, rfl⟩
  rw [hx]
  unfold itV
  have R : Hid (QAt w1 base b (.slice (some ⟨g, 0, none⟩) n cap) xs ∧ el xs 0 = x ∧ Below w.heap.size w w1 ∧ w1.heap[w.heap.size]? = some (.cells #[.int .i64 0, .int .u64 0] 31 (0, 0))) := ⟨H.out.1.below hbl, hx, hbl, hr⟩
  have hrl : w.heap.size < w1.heap.size := by have := hbel.size; simp at this; omega
  have hb : b < w1.heap.size := R.out.1.lt
  have hg : g < w1.heap.size := own_lt R.out.1.own
  clear hbel hbl hr hx
  obtain ⟨l, hll⟩ : ∃ l, n = l + 1 := ⟨n - 1, by omega⟩
  have e0 : (n : Int) - 1 = (l : Int) := by omega
  have li : (l : Int) < (n : Int) := by omega
  have L : Hid (n = l + 1) := hll
  have hc := R.out.1.cell
  clear hll
  go_wp2_with fail
  obtain ⟨wq, hwq⟩ : ∃ wq, wq = (w1.alloc (Obj.cells #[Value.int IntKind.i64 x.fst, Value.int IntKind.u64 x.snd] 31)) := ⟨_, rfl⟩
  rw [← hwq]
  have hbq : Below w1.heap.size w1 wq := by rw [hwq]; exact (Below.refl _ w1).alloc (Nat.le_refl _) _
  have HQ : Hid (QAt wq base b (.slice (some ⟨g, 0, none⟩) n cap) xs ∧ wq.heap[w1.heap.size]? = some (.cells #[.int .i64 x.1, .int .u64 x.2] 31 (0, 0)) ∧ wq.heap[w.heap.size]? = some (.cells #[.int .i64 0, .int .u64 0] 31 (0, 0)) ∧ Turned (fun k => k = b ∨ k = g) w wq) :=
    ⟨R.out.1.below hbq, by rw [hwq]; exact heap_alloc_new w1 _, (hbq.block _ hrl).trans R.out.2.2.2, (Turned.ofBelow R.out.2.2.1).trans (Turned.ofBelow (S := fun _ => False) hbq) (fun _ _ q => q.elim)⟩
  have hbg : b ≠ g := fun e => R.out.1.apart (by rw [e]; rfl)
  obtain ⟨y, hy⟩ : ∃ y, el xs l = y := ⟨_, rfl⟩
  obtain ⟨x0, x1, x2, x3⟩ := own_cells (i := 0) HQ.out.1.own (by omega)
  obtain ⟨y0, y1, y2, y3⟩ := own_cells (i := l) HQ.out.1.own (by have := L.out; omega)
  rw [R.out.2.1] at x0 x1
  rw [hy] at y0 y1
  have hcq := HQ.out.1.cell
  have fq := HQ.out.1.free
  clear hwq hc hb hg hbq
  have hcap : (l : Int) ≤ (cap : Int) := by
    obtain ⟨_, _, e, h1, _, _⟩ := own_form HQ.out.1.own
    cases e
    omega
  go_region
  obtain ⟨we, hwe⟩ : ∃ we, we = ((wq.setCell { block := g, off := 0 } (Value.int IntKind.i64 y.fst)).setCell { block := g, off := 1 } (Value.int IntKind.u64 y.snd)).drew := ⟨_, rfl⟩
  rw [← hwe]
  have HE : Hid (QAt we base b (.slice (some ⟨g, 0, none⟩) n cap) (xs.set 0 y) ∧ we.heap[w1.heap.size]? = some (.cells #[.int .i64 x.1, .int .u64 x.2] 31 (0, 0)) ∧ we.heap[w.heap.size]? = some (.cells #[.int .i64 0, .int .u64 0] 31 (0, 0)) ∧ Turned (fun k => k = b ∨ k = g) w we) := by
    obtain ⟨h1, h2, h3, h4⟩ := HQ.out
    have hgb := own_lt H.out.1.own
    have T : Turned (fun k => k = g) wq we := by rw [hwe]; exact (turned_two wq g 0 1 _ _).drew
    have hgw : g < w1.heap.size := by omega
    have hpt := h1.put 0 y
    simp only [Nat.zero_mul, Nat.zero_add] at hpt
    refine ⟨by rw [hwe]; exact hpt.drew, ?_, ?_, h4.trans T (fun _ _ e => .inr e)⟩
    · rw [T.block _ (Array.getElem?_eq_some_iff.1 h2).1 (by omega)]; exact h2
    · rw [T.block _ (Array.getElem?_eq_some_iff.1 h3).1 (by omega)]; exact h3
  have hce := HE.out.1.cell
  have fe := HE.out.1.free
  clear hwe x0 x1 x2 x3 y0 y1 y2 y3 hcq fq
  go_wp2_with fail
  have hle : (xs.set 0 y).take l = left xs := by
    have := L.out
    unfold left
    rw [show xs.length - 1 = l by omega, hy]
  have hcut := HE.out.1.cut (m := l) (by omega)
  rw [hle] at hcut
  refine (sink_row _ hcut (by omega) (down_start H.out.2)).mono ?_
  rintro e w2 ⟨rfl, zs, z1, z2, z3, z4⟩
  have hgw := own_lt H.out.1.own
  have hbw := H.out.1.lt
  have T : Turned (fun k => k = b ∨ k = g) we w2 := ((Turned.refl _ we).setCell (.inl (.inl rfl)) _).trans z4 (fun _ _ e => .inr e)
  have hfirst : w2.heap[w1.heap.size]? = some (.cells #[.int .i64 x.1, .int .u64 x.2] 31 (0, 0)) := (T.block _ (Array.getElem?_eq_some_iff.1 HE.out.2.1).1 (by omega)).trans HE.out.2.1
  have hres : w2.heap[w.heap.size]? = some (.cells #[.int .i64 0, .int .u64 0] 31 (0, 0)) := (T.block _ (Array.getElem?_eq_some_iff.1 HE.out.2.2.1).1 (by omega)).trans HE.out.2.2.1
  have Z : Hid (QAt w2 base b (.slice (some ⟨g, 0, none⟩) l cap) zs ∧ zs.Perm (left xs) ∧ Pile zs ∧ Turned (fun k => k = b ∨ k = g) w w2) := ⟨z1, z2, z3, HE.out.2.2.2.trans T (fun _ _ e => e)⟩
  have f0 : w2.cell? ⟨w1.heap.size, 0, none⟩ = some (.int .i64 x.1) := by rw [cell_of_row w2 _ 0 _ 31 (0, 0) hfirst]; rfl
  have f1 : w2.cell? ⟨w1.heap.size, 1, none⟩ = some (.int .u64 x.2) := by rw [cell_of_row w2 _ 1 _ 31 (0, 0) hfirst]; rfl
  have r0 : w2.cell? ⟨w.heap.size, 0, none⟩ = some (.int .i64 0) := by rw [cell_of_row w2 _ 0 _ 31 (0, 0) hres]; rfl
  have r1 : w2.cell? ⟨w.heap.size, 1, none⟩ = some (.int .u64 0) := by rw [cell_of_row w2 _ 1 _ 31 (0, 0) hres]; rfl
  have q0 : w2.frozen? ⟨w.heap.size, 0, none⟩ = false := frozen_of_row w2 _ 0 _ 31 hres
  have q1 : w2.frozen? ⟨w.heap.size, 1, none⟩ = false := frozen_of_row w2 _ 1 _ 31 hres
  clear z1 z2 z3 z4 T hfirst hres hce fe hle hcut
  go_wp2
  refine bodyPost_ret (v := .tuple #[.agg #[.int .i64 x.1, .int .u64 x.2], .bool true]) ?_ rfl ⟨?_, zs, ?_⟩
  · simp [results, Try.f11]
    go_simp
  · rw [R.out.2.1]; rfl
  · obtain ⟨z1, z2, z3, z4⟩ := Z.out
    have hl1 : n - 1 = l := by have := L.out; omega
    have T2 : Turned (fun k => k = w.heap.size) w2 ((w2.setCell ⟨w.heap.size, 0, none⟩ (.int .i64 x.1)).setCell ⟨w.heap.size, 1, none⟩ (.int .u64 x.2)) := turned_two w2 _ 0 1 _ _
    refine ⟨?_, z2.trans (left_perm xs), z3, z4.trans T2 (fun i hi e => by omega)⟩
    rw [hl1]
    refine z1.turned T2 ?_
    rintro k (rfl | e)
    · omega
    · simp only [Value.ownBlock, Option.some.injEq] at e
      omega

/-- Pop of whatever queue. -/
theorem pop_any {base b : Nat} {v : Value} {xs : List It} (w : World) (hq : QAt w base b v xs) (hm : xs.length ≤ 1000000) (hp : Pile xs) :
    Calls Try.prog 11 #[.pointer (some ⟨b, 0, none⟩)] w fun e w' => e = .returned (.tuple #[itV (el xs 0), .bool (!xs.isEmpty)]) ∧
      ∃ v' zs, QAt w' base b v' zs ∧ zs.Perm xs.tail ∧ Pile zs ∧ Turned (QSet b v) w w' ∧ v'.ownBlock = v.ownBlock := by
  obtain ⟨ao, cap, rfl, h1, h2, h3⟩ := own_form hq.own
  cases xs with
  | nil =>
    refine (pop_none w hq).mono ?_
    rintro e w' ⟨rfl, hb⟩
    exact ⟨rfl, _, [], hq.below hb, List.Perm.refl _, pile_nil, Turned.ofBelow hb, rfl⟩
  | cons x t =>
    obtain ⟨g, rfl⟩ := h3 (by simp)
    refine (pop_row w hq (by simp) hm hp).mono ?_
    rintro e w' ⟨rfl, zs, z1, z2, z3, z4⟩
    exact ⟨rfl, _, zs, z1, z2, z3, z4.mono (fun i _ h => h.imp id (fun e => by rw [e]; rfl)), rfl⟩

end Go.Proofs.Ytjpdckpkpcphcaa
