/-
  slices.Clone and slices.Sort of whole numbers, each by a contract over rows of the call's own. No condition but that a list is no longer than any list can be.
-/
import Derived.Test.YtnodkpnbfklmhaaDoorShelf
import Derived.Sort.Grow
import Derived.Lib.OwnBridge
namespace Go.Proofs.YtnodkpnbfklmhaaDoor
open Go.RowKit Go.Sort

theorem encI_all (zs : List Int) : encI.all zs = zs.map (Value.int .i64) := by
  induction zs with
  | nil => rfl
  | cons x t ih => simp only [Enc.all, List.flatMap_cons, List.map_cons] at ih ⊢; rw [ih]; rfl

theorem ownI {w : World} {base : Nat} {v : Value} {zs : List Int} : OwnG encI 3 w base v zs ↔ w.ownsRow base 3 1 v zs.length (zs.map (Value.int .i64)) := by
  unfold OwnG
  rw [encI_all]
  exact Iff.rfl

/-- slices.Clone. -/
theorem clone_int {ao : Option Addr} {c n : Nat} {zs : List Int} (w : World) (ha : RdG encI w ao zs) (hl : zs.length = n) (hn : n ≤ 17592186044416) :
    Calls Tryd.prog 19 #[.slice ao n c] w fun e w' => ∃ v', e = .returned v' ∧ OwnG encI 3 w' w.heap.size v' zs ∧ Below w.heap.size w w' := by
  by_cases h0 : 0 < zs.length
  · obtain ⟨x, hx⟩ := get_at h0
    obtain ⟨b, off, rfl, hlt⟩ := ha.some_of hx
    have h := Any.slices_Clone_int layCloneInt b off n c zs w (by omega) (by omega) (fun j hj => by
      rw [ha.ints (x := zs[j]) (List.getElem?_eq_getElem hj)]
      simp [List.getD, hj])
    rw [List.take_of_length_le (by omega)] at h
    refine h.mono ?_
    rintro e w' ⟨v', rfl, h1, _, h2⟩
    refine ⟨v', rfl, ownI.2 ?_, h2⟩
    rw [hl]
    exact h1
  · obtain rfl : zs = [] := List.eq_nil_of_length_eq_zero (by omega)
    obtain rfl : n = 0 := hl.symm
    cases ao with
    | none =>
      refine (Any.slices_Clone_int_nil layCloneInt 0 c w).mono ?_
      rintro e w' ⟨rfl, rfl⟩
      exact ⟨_, rfl, OwnG.nil _ _ _ _, Below.refl _ _⟩
    | some a =>
      refine (Any.slices_Clone_int_zero layCloneInt a c w).mono ?_
      rintro e w' ⟨v', rfl, h1, _, h2⟩
      exact ⟨v', rfl, ownI.2 h1, h2⟩

/-- The numbers in rising order. -/
def sortI (zs : List Int) : List Int := zs.mergeSort (fun x y => decide (x ≤ y))
theorem sortI_len (zs : List Int) : (sortI zs).length = zs.length := List.length_mergeSort zs
theorem sortI_mem (zs : List Int) (x : Int) : x ∈ sortI zs ↔ x ∈ zs := (List.mergeSort_perm zs _).mem_iff
theorem sortI_up (zs : List Int) : (sortI zs).Pairwise (fun x y => x ≤ y) := by
  have := List.pairwise_mergeSort (le := fun x y : Int => decide (x ≤ y)) (by intro a b c h1 h2; simp at h1 h2 ⊢; omega) (by intro a b; simp; omega) zs
  exact this.imp (fun h => by simpa using h)

theorem int_row_turned {w : World} {g n : Nat} {os : Array Obj} (d : Array Int) : Turned (fun k => some g = some k) w (grow (putRow (Value.int .i64) (Sort.ahead w n) g 0 d) os) := by
  refine ⟨rfl, rfl, rfl, by simp, fun k hk hne => ?_⟩
  have hgk : g ≠ k := fun e => hne (by rw [e])
  rw [heap_grow_old _ _ (by simpa using hk)]
  simp [putRow, mapBlock, Sort.ahead, Array.getElem?_modify, hgk]

theorem int_row_cells (cur : Array Value) (ts : List Int) (h : ts.length ≤ cur.size) : (putCells (Value.int .i64) 0 ts.toArray cur).toList.take ts.length = ts.map (Value.int .i64) := by
  refine List.ext_getElem? (fun j => ?_)
  rcases Nat.lt_or_ge j ts.length with q | q
  · have q2 : j < cur.size := by omega
    rw [List.getElem?_take_of_lt q, Array.getElem?_toList]
    simp [putCells, q, q2]
  · rw [List.getElem?_take_eq_none q, List.getElem?_eq_none (by simpa using q)]

/-- slices.Sort of a row of the call's own. -/
theorem sort_int {base : Nat} {v : Value} {zs : List Int} (w : World) (h : OwnG encI 3 w base v zs) (hn : zs.length < 4611686018427387904) :
    Calls Tryd.prog 20 #[v] w fun e w' => e = .returned (.tuple #[]) ∧ OwnG encI 3 w' base v (sortI zs) ∧ Turned (fun k => v.ownBlock = some k) w w' := by
  have h' := ownI.1 h
  rcases h'.2 with ⟨rfl, h0⟩ | ⟨g, cap, cur, rfl, hbase, hb, h1, h2, h3, h4⟩
  · obtain rfl : zs = [] := List.eq_nil_of_length_eq_zero h0
    refine (Any.slices_Sort_int_none laySortInt none 0 w).mono ?_
    rintro e w' ⟨rfl, rfl⟩
    have e : sortI [] = [] := by simp [sortI]
    exact ⟨rfl, by rw [e]; exact OwnG.nil _ _ _ _, Turned.refl _ _⟩
  · obtain ⟨g', cap', hv, _, hgl, _, _, _, hH⟩ := Lib.holds_of_ownsRow h' (by simp)
    obtain ⟨rfl, rfl⟩ : g = g' ∧ cap = cap' := by simpa using hv
    refine (Any.slices_Sort_int laySortInt g 0 cap zs w hH hgl hn).mono ?_
    rintro e w' ⟨rfl, n, os, rfl⟩
    refine ⟨rfl, ownI.2 ⟨by simp, .inr ⟨g, cap, putCells (Value.int .i64) 0 (sortI zs).toArray cur, by rw [sortI_len], hbase, ?_, by rw [sortI_len]; exact h1, h2, by simp [putCells, h3], ?_⟩⟩, int_row_turned _⟩
    · rw [heap_grow_old _ _ (by simpa using hgl)]
      simp [putRow, mapBlock, Sort.ahead, Array.getElem?_modify, hb, onCells, sortI]
    · rw [Nat.mul_one]
      exact int_row_cells cur (sortI zs) (by rw [sortI_len]; omega)

end Go.Proofs.YtnodkpnbfklmhaaDoor
