/-
  append of one text, and of a whole list of texts, behind a row of the call's own, each as one step. No condition but that the lists are short enough for any memory.
-/
import Derived.Test.YtdgdckmhmmigkaaGreatDoorPRoom
import Derived.Shelf.Abstract
namespace Go.Proofs.YtdgdckmhmmigkaaGreatDoor
open Go.RowKit

theorem Tryz.info9 : (Tryz.prog.info? 9).map (fun i => (i.zero, i.size, i.bytes)) = some (some (.string ⟨#[]⟩), 1, 16) := by kernel_rfl

theorem Own.turn {w w' : World} {base : Nat} {v : Value} {ss : List Bs} (h : Own w base v ss) (hb : base ≤ w.heap.size) (ht : Turned (fun k => v.ownBlock = some k) w w') : Below base w w' :=
  ht.below hb (fun k hk q => by have := (h.lt k q).1; omega)

theorem cell_one_new (w : World) (y : Value) (t : TypeId) : ∀ j u, [y][j]? = some u → (w.alloc (.cells #[y] t)).cell? ((⟨w.heap.size, 0, none⟩ : Addr).add j) = some u := by
  intro j u h
  match j, h with
  | 0, h =>
    rw [addr_at, World.cell?_alloc_new]
    simpa using h
  | j + 1, h => simp at h

/-- One text more behind a row of the call's own. -/
theorem app_one {ops : Array Oper} {rest : List Oper} {o : Oper} {a : Act} {w : World} {Q : Exit → Act → World → Prop} (hgd : o.guard = none) (s x : Operand)
    (hop : o.op = .call { callee := .builtin .append, args := #[s, x], argTypes := #[26, 26] }) (base : Nat) (v : Value) (ss : List Bs) (y : Bs) (ty : TypeId) (hs : a.eval s = v) (hown : Own w base v ss)
    (hx : a.eval x = .slice (some ⟨w.heap.size, 0, none⟩) 1 1) (hlen : ss.length ≤ 4000000) (hb : base ≤ w.heap.size)
    (h : ∀ v' w', Own w' base v' (ss ++ [y]) → Below base w w' → wpList Tryz.prog ops Q rest (a.put o.dst v') w') :
    wpList Tryz.prog ops Q (o :: rest) a (w.alloc (.cells #[.string ⟨y.toArray⟩] ty)) := by
  obtain ⟨i0, hi0, hz0, hz1, hz2⟩ := info_parts Tryz.info9
  refine wpList_append_moved hgd s x 26 hop base 9 i0 _ 1 16 Tryz.underlying26 hi0 hz0 hz1 hz2 rfl (by decide) v ss.length (ss.map encStr) hs (hown.below ((Below.refl _ w).alloc (Nat.le_refl _) _)) ⟨w.heap.size, 0, none⟩ 1 1 [encStr y] hx rfl (cell_one_new w _ ty)
    (by simp [Value.oneCell']) (by simp only [maxLen]; omega) (by omega) (by simp; omega) ?_
  intro v' w' h1 h2 _
  refine h v' w' ?_ ?_
  · unfold Own
    rw [List.length_append, List.map_append]
    exact h1
  · have hb0 : Below base w (w.alloc (.cells #[.string ⟨y.toArray⟩] ty)) := (Below.refl _ w).alloc (by omega) _
    have ht : Turned (fun k => v.ownBlock = some k) (w.alloc (.cells #[.string ⟨y.toArray⟩] ty)) w' := (Turned.refl _ _).grown h2 (fun k _ e => e)
    exact hb0.trans (Own.turn (hown.below ((Below.refl _ w).alloc (Nat.le_refl _) _)) (by simp; omega) ht)

theorem run_append_none (t ty e : TypeId) (i : TypeInfo) (ht : Tryz.prog.underlying t = some (.slice e)) (hi : Tryz.prog.info? e = some i) (base : Option Addr) (sLen sCap : Nat) (hle : sLen ≤ sCap) (ao : Option Addr) (c : Nat) (w : World) :
    (Builtin.append_ #[t, t] ty #[.slice base sLen sCap, .slice ao 0 c]).run Tryz.prog w = .ok (.slice base sLen sCap) w := by
  have hfc : (Builtin.firstCells i.size 0 (.slice ao 0 c)).run Tryz.prog w = .ok #[] w := by
    cases ao with
    | none => exact run_firstCells_none (P := Tryz.prog) w i.size 0 0 c
    | some a => exact run_firstCells_some (P := Tryz.prog) w i.size 0 a 0 c [] (by simp) (by simp)
  cases base <;> simp [Builtin.append_, run_underlying ht, sizeOf, typeInfo, hi, Builtin.lenOf, hle, hfc, storeCells]

/-- A whole list more behind a row of the call's own. -/
theorem app_list {ops : Array Oper} {rest : List Oper} {o : Oper} {a : Act} {w : World} {Q : Exit → Act → World → Prop} (hgd : o.guard = none) (s x : Operand)
    (hop : o.op = .call { callee := .builtin .append, args := #[s, x], argTypes := #[26, 26] }) (base : Nat) (v : Value) (ss xs : List Bs) (ao : Option Addr) (n c : Nat) (hs : a.eval s = v) (hown : Own w base v ss)
    (hx : a.eval x = .slice ao n c) (hr : Rd w ao xs) (hl : xs.length = n) (hlen : ss.length + n ≤ 8796093022208) (hb : base ≤ w.heap.size)
    (h : ∀ v' w', Own w' base v' (ss ++ xs) → Below base w w' → wpList Tryz.prog ops Q rest (a.put o.dst v') w') :
    wpList Tryz.prog ops Q (o :: rest) a w := by
  obtain ⟨i0, hi0, hz0, hz1, hz2⟩ := info_parts Tryz.info9
  by_cases h0 : 0 < xs.length
  · obtain ⟨b, off, rfl, hlt, hc⟩ := hr h0
    have hadd : ∀ j, (⟨b, off, none⟩ : Addr).add j = ⟨b, off + j, none⟩ := by
      intro j
      unfold Addr.add
      split <;> simp_all
    refine wpList_append_moved hgd s x 26 hop base 9 i0 _ 1 16 Tryz.underlying26 hi0 hz0 hz1 hz2 rfl (by decide) v ss.length (ss.map encStr) hs hown ⟨b, off, none⟩ n c (xs.map encStr) hx (by simp [hl]) (by
      intro j u hu
      rw [List.getElem?_map] at hu
      have hj : j < xs.length := by
        rcases Nat.lt_or_ge j xs.length with q | q
        · exact q
        · rw [List.getElem?_eq_none q] at hu; simp at hu
      rw [List.getElem?_eq_getElem hj] at hu
      rw [hadd, hc j hj, el_get hj, ← hu]
      rfl) (by intro u hu; obtain ⟨y, _, rfl⟩ := List.mem_map.1 hu; rfl) (by simp only [maxLen]; omega) (by omega) hb ?_
    intro v' w' h1 h2 _
    refine h v' w' ?_ ?_
    · unfold Own
      rw [List.length_append, List.map_append, hl]
      exact h1
    · exact Own.turn hown hb ((Turned.refl _ _).grown h2 (fun k _ e => e))
  · obtain rfl : xs = [] := List.eq_nil_of_length_eq_zero (by omega)
    obtain rfl : n = 0 := hl.symm
    obtain ⟨ao2, cap, rfl, hle, _, _⟩ := hown.form
    refine wpList_plain hgd fun K hK => ?_
    have hrun := run_append_none 26 o.type 9 i0 Tryz.underlying26 hi0 ao2 ss.length cap hle ao c w
    unfold Oper.wp
    simp [execOp, hop, resolve, invoke, builtin, hs, hx, hrun, Result.andThen]
    exact hK _ _ (h _ w (by rw [List.append_nil]; exact hown) (Below.refl _ _))

end Go.Proofs.YtdgdckmhmmigkaaGreatDoor
