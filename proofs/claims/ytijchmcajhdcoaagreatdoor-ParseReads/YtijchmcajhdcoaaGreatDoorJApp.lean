import Derived.Test.YtijchmcajhdcoaaGreatDoorPRoom
import Derived.Shelf.Abstract
import Derived.Laws.Strings3
import Derived.Laws.DeepStrings4
import Derived.Deep.LoopGhost
import Derived.Deep.RegionHeld3
import Derived.Deep.DeepCutAuto
import Derived.BigRegion
import Derived.BigQuiet
/-!
  append of one text, and of a whole list of texts, behind a row of the call's own, each as one step. No condition but that the lists are short enough for any memory.
-/
namespace Go.Proofs.YtijchmcajhdcoaaGreatDoor
open Go.RowKit

theorem Tryz.info9 : (Tryz.prog.info? 9).map (fun i => (i.zero, i.size, i.bytes)) = some (some (.string ⟨#[]⟩), 1, 16) := by kernel_rfl

theorem Own.turn {w w' : World} {base : Nat} {v : Value} {ss : List Bs} (h : Own w base v ss) (hb : base ≤ w.heap.size) (ht : Turned (fun k => v.ownBlock = some k) w w') : Below base w w' :=
  ht.below hb (fun k hk q => by have := (h.lt k q).1; omega)

theorem cell_one_new (w : World) (y : Value) (t : TypeId) : ∀ j u, [y][j]? = some u → (w.alloc (.cells #[y] t)).cell? ((⟨w.heap.size, 0, none⟩ : Addr).add j) = some u := by
  intro j u h
  match j, h with
  | 0, h =>
    rw [addr_at, World.cell?_alloc_new]
    simpa using h
  | j + 1, h => simp at h

/-- One text more behind a row of the call's own. -/
theorem app_one {ops : Array Oper} {rest : List Oper} {o : Oper} {a : Act} {w : World} {Q : Exit → Act → World → Prop} (hgd : o.guard = none) (s x : Operand)
    (hop : o.op = .call { callee := .builtin .append, args := #[s, x], argTypes := #[87, 87] }) (base : Nat) (v : Value) (ss : List Bs) (y : Bs) (ty : TypeId) (hs : a.eval s = v) (hown : Own w base v ss)
    (hx : a.eval x = .slice (some ⟨w.heap.size, 0, none⟩) 1 1) (hlen : ss.length ≤ 4000000) (hb : base ≤ w.heap.size)
    (h : ∀ v' w', Own w' base v' (ss ++ [y]) → Below base w w' → wpList Tryz.prog ops Q rest (a.put o.dst v') w') :
    wpList Tryz.prog ops Q (o :: rest) a (w.alloc (.cells #[.string ⟨y.toArray⟩] ty)) := by
  obtain ⟨i0, hi0, hz0, hz1, hz2⟩ := info_parts Tryz.info9
  refine wpList_append_moved hgd s x 87 hop base 9 i0 _ 1 16 Tryz.underlying87 hi0 hz0 hz1 hz2 rfl (by decide) v ss.length (ss.map encStr) hs (hown.below ((Below.refl _ w).alloc (Nat.le_refl _) _)) ⟨w.heap.size, 0, none⟩ 1 1 [encStr y] hx rfl (cell_one_new w _ ty)
    (by simp [Value.oneCell']) (by simp only [maxLen]; omega) (by omega) (by simp; omega) ?_
  intro v' w' h1 h2 _
  refine h v' w' ?_ ?_
  · unfold Own
    rw [List.length_append, List.map_append]
    exact h1
  · have hb0 : Below base w (w.alloc (.cells #[.string ⟨y.toArray⟩] ty)) := (Below.refl _ w).alloc (by omega) _
    have ht : Turned (fun k => v.ownBlock = some k) (w.alloc (.cells #[.string ⟨y.toArray⟩] ty)) w' := (Turned.refl _ _).grown h2 (fun k _ e => e)
    exact hb0.trans (Own.turn (hown.below ((Below.refl _ w).alloc (Nat.le_refl _) _)) (by simp; omega) ht)

theorem run_append_none (t ty e : TypeId) (i : TypeInfo) (ht : Tryz.prog.underlying t = some (.slice e)) (hi : Tryz.prog.info? e = some i) (base : Option Addr) (sLen sCap : Nat) (hle : sLen ≤ sCap) (ao : Option Addr) (c : Nat) (w : World) :
    (Builtin.append_ #[t, t] ty #[.slice base sLen sCap, .slice ao 0 c]).run Tryz.prog w = .ok (.slice base sLen sCap) w := by
  have hfc : (Builtin.firstCells i.size 0 (.slice ao 0 c)).run Tryz.prog w = .ok #[] w := by
    cases ao with
    | none => exact run_firstCells_none (P := Tryz.prog) w i.size 0 0 c
    | some a => exact run_firstCells_some (P := Tryz.prog) w i.size 0 a 0 c [] (by simp) (by simp)
  cases base <;> simp [Builtin.append_, run_underlying ht, sizeOf, typeInfo, hi, Builtin.lenOf, hle, hfc, storeCells]

/-- A whole list more behind a row of the call's own. -/
theorem app_list {ops : Array Oper} {rest : List Oper} {o : Oper} {a : Act} {w : World} {Q : Exit → Act → World → Prop} (hgd : o.guard = none) (s x : Operand)
    (hop : o.op = .call { callee := .builtin .append, args := #[s, x], argTypes := #[87, 87] }) (base : Nat) (v : Value) (ss xs : List Bs) (ao : Option Addr) (n c : Nat) (hs : a.eval s = v) (hown : Own w base v ss)
    (hx : a.eval x = .slice ao n c) (hr : Rd w ao xs) (hl : xs.length = n) (hlen : ss.length + n ≤ 8796093022208) (hb : base ≤ w.heap.size)
    (h : ∀ v' w', Own w' base v' (ss ++ xs) → Below base w w' → wpList Tryz.prog ops Q rest (a.put o.dst v') w') :
    wpList Tryz.prog ops Q (o :: rest) a w := by
  obtain ⟨i0, hi0, hz0, hz1, hz2⟩ := info_parts Tryz.info9
  by_cases h0 : 0 < xs.length
  · obtain ⟨b, off, rfl, hlt, hc⟩ := hr h0
    have hadd : ∀ j, (⟨b, off, none⟩ : Addr).add j = ⟨b, off + j, none⟩ := by
      intro j
      unfold Addr.add
      split <;> simp_all
    refine wpList_append_moved hgd s x 87 hop base 9 i0 _ 1 16 Tryz.underlying87 hi0 hz0 hz1 hz2 rfl (by decide) v ss.length (ss.map encStr) hs hown ⟨b, off, none⟩ n c (xs.map encStr) hx (by simp [hl]) (by
      intro j u hu
      rw [List.getElem?_map] at hu
      have hj : j < xs.length := by
        rcases Nat.lt_or_ge j xs.length with q | q
        · exact q
        · rw [List.getElem?_eq_none q] at hu; simp at hu
      rw [List.getElem?_eq_getElem hj] at hu
      rw [hadd, hc j hj, el_get hj, ← hu]
      rfl) (by intro u hu; obtain ⟨y, _, rfl⟩ := List.mem_map.1 hu; rfl) (by simp only [maxLen]; omega) (by omega) hb ?_
    intro v' w' h1 h2 _
    refine h v' w' ?_ ?_
    · unfold Own
      rw [List.length_append, List.map_append, hl]
      exact h1
    · exact Own.turn hown hb ((Turned.refl _ _).grown h2 (fun k _ e => e))
  · obtain rfl : xs = [] := List.eq_nil_of_length_eq_zero (by omega)
    obtain rfl : n = 0 := hl.symm
    obtain ⟨ao2, cap, rfl, hle, _, _⟩ := hown.form
    refine wpList_plain hgd fun K hK => ?_
    have hrun := run_append_none 87 o.type 9 i0 Tryz.underlying87 hi0 ao2 ss.length cap hle ao c w
    unfold Oper.wp
    simp [execOp, hop, resolve, invoke, builtin, hs, hx, hrun, Result.andThen]
    exact hK _ _ (h _ w (by rw [List.append_nil]; exact hown) (Below.refl _ _))

end Go.Proofs.YtijchmcajhdcoaaGreatDoor

/-!
  Lists of things of any kind in memory (each of so many cells): those that can be read, those that lie in a row of the call's own; append of one and of many. No program but the numbers of types that are handed in; no condition.
-/
namespace Go.Proofs.YtijchmcajhdcoaaGreatDoor
open Go.RowKit

/-- How a kind of things lies in memory. -/
structure Enc (α : Type) where
  cells : α → List Value
  size : Nat
  len : ∀ x, (cells x).length = size
  pos : 0 < size
  one : ∀ x, ∀ u ∈ cells x, u.oneCell' = true

variable {α : Type} {E : Enc α}

/-- The cells of a list. -/
def Enc.all (E : Enc α) (xs : List α) : List Value := xs.flatMap E.cells

theorem Enc.all_length (E : Enc α) : ∀ xs : List α, (E.all xs).length = xs.length * E.size
  | [] => by simp [Enc.all]
  | x :: t => by
    have := Enc.all_length E t
    simp only [Enc.all, List.flatMap_cons, List.length_append, E.len, List.length_cons] at this ⊢
    rw [this, Nat.add_mul, Nat.one_mul, Nat.add_comm]

theorem Enc.all_append (E : Enc α) (xs ys : List α) : E.all (xs ++ ys) = E.all xs ++ E.all ys := by simp [Enc.all]

theorem Enc.all_one (E : Enc α) (xs : List α) : ∀ u ∈ E.all xs, u.oneCell' = true := by
  intro u h
  simp only [Enc.all, List.mem_flatMap] at h
  obtain ⟨x, _, hx⟩ := h
  exact E.one x u hx

theorem Enc.all_get (E : Enc α) : ∀ (xs : List α) (i j : Nat) (x : α), xs[i]? = some x → j < E.size → (E.all xs)[i * E.size + j]? = (E.cells x)[j]?
  | [], i, j, x, h, _ => by simp at h
  | y :: t, 0, j, x, h, hj => by
    have e : y = x := by simpa using h
    subst e
    simp only [Enc.all, List.flatMap_cons, Nat.zero_mul, Nat.zero_add]
    rw [List.getElem?_append_left (by rw [E.len]; exact hj)]
  | y :: t, i + 1, j, x, h, hj => by
    have := Enc.all_get E t i j x (by simpa using h) hj
    simp only [Enc.all, List.flatMap_cons] at this ⊢
    rw [List.getElem?_append_right (by rw [E.len, Nat.add_mul, Nat.one_mul]; omega), E.len, ← this]
    congr 1
    rw [Nat.add_mul, Nat.one_mul]
    omega

theorem Enc.all_split (E : Enc α) (xs : List α) (k : Nat) (u : Value) (h : (E.all xs)[k]? = some u) : ∃ i j x, k = i * E.size + j ∧ j < E.size ∧ xs[i]? = some x ∧ (E.cells x)[j]? = some u := by
  have hk : k < xs.length * E.size := by
    rcases Nat.lt_or_ge k (E.all xs).length with q | q
    · rw [E.all_length] at q; exact q
    · rw [List.getElem?_eq_none q] at h; cases h
  have hi : k / E.size < xs.length := Nat.div_lt_of_lt_mul (by rw [Nat.mul_comm]; exact hk)
  have hj : k % E.size < E.size := Nat.mod_lt _ E.pos
  have hx : xs[k / E.size]? = some xs[k / E.size] := List.getElem?_eq_getElem hi
  have e : k = k / E.size * E.size + k % E.size := by rw [Nat.mul_comm]; exact (Nat.div_add_mod k E.size).symm
  refine ⟨k / E.size, k % E.size, xs[k / E.size], e, hj, hx, ?_⟩
  rw [← E.all_get xs _ _ _ hx hj, ← e]
  exact h

theorem Enc.all_set (E : Enc α) : ∀ (xs : List α) (i j : Nat) (x y : α) (u : Value), xs[i]? = some x → j < E.size → E.cells y = (E.cells x).set j u → (E.all xs).set (i * E.size + j) u = E.all (xs.set i y)
  | [], i, j, x, y, u, h, _, _ => by simp at h
  | z :: t, 0, j, x, y, u, h, hj, hy => by
    have e : z = x := by simpa using h
    subst e
    simp only [Enc.all, List.flatMap_cons, Nat.zero_mul, Nat.zero_add, List.set_cons_zero]
    rw [List.set_append_left _ _ (by rw [E.len]; exact hj), hy]
  | z :: t, i + 1, j, x, y, u, h, hj, hy => by
    have := Enc.all_set E t i j x y u (by simpa using h) hj hy
    simp only [Enc.all, List.flatMap_cons, List.set_cons_succ] at this ⊢
    rw [List.set_append_right _ _ (by rw [E.len, Nat.add_mul, Nat.one_mul]; omega), E.len, ← this]
    congr 2
    rw [Nat.add_mul, Nat.one_mul]
    omega

/-- A list that can be read: nothing is asked of an empty one's address. -/
def RdG (E : Enc α) (w : World) (ao : Option Addr) (xs : List α) : Prop := 0 < xs.length → ∃ b off, ao = some ⟨b, off, none⟩ ∧ b < w.heap.size ∧
  ∀ i x, xs[i]? = some x → ∀ j u, (E.cells x)[j]? = some u → w.cell? ⟨b, off + (i * E.size + j), none⟩ = some u

theorem RdG.below {w w' : World} {ao : Option Addr} {xs : List α} (h : RdG E w ao xs) (hb : Below w.heap.size w w') : RdG E w' ao xs := by
  intro h0
  obtain ⟨b, off, rfl, hlt, hc⟩ := h h0
  exact ⟨b, off, rfl, Nat.lt_of_lt_of_le hlt hb.size, fun i x hx j u hu => (hb.cell hlt).trans (hc i x hx j u hu)⟩

theorem RdG.nil (E : Enc α) (w : World) (ao : Option Addr) : RdG E w ao [] := fun h => absurd h (by simp)

/-- The first n of a list. -/
theorem RdG.take {w : World} {ao : Option Addr} {xs : List α} (h : RdG E w ao xs) (n : Nat) : RdG E w ao (xs.take n) := by
  intro h0
  obtain ⟨b, off, rfl, hlt, hc⟩ := h (by simp at h0; omega)
  refine ⟨b, off, rfl, hlt, fun i x hx => hc i x ?_⟩
  rw [List.getElem?_take] at hx
  split at hx
  · exact hx
  · cases hx

/-- A list without its first n. -/
theorem RdG.drop {w : World} {b off : Nat} {xs : List α} (h : RdG E w (some ⟨b, off, none⟩) xs) (n : Nat) : RdG E w (some ⟨b, off + n * E.size, none⟩) (xs.drop n) := by
  intro h0
  obtain ⟨b', off', e, hlt, hc⟩ := h (by simp at h0; omega)
  obtain ⟨rfl, rfl⟩ : b = b' ∧ off = off' := by simpa using e
  refine ⟨b, off + n * E.size, rfl, hlt, fun i x hx j u hu => ?_⟩
  rw [List.getElem?_drop] at hx
  have := hc (n + i) x hx j u hu
  rw [Nat.add_mul] at this
  rw [← this]
  congr 2
  omega

/-- A list that lies in a row of the call's own. -/
def OwnG (E : Enc α) (e : TypeId) (w : World) (base : Nat) (v : Value) (xs : List α) : Prop := w.ownsRow base e E.size v xs.length (E.all xs)

theorem OwnG.nil (E : Enc α) (e : TypeId) (w : World) (base : Nat) : OwnG E e w base (.slice none 0 0) [] := World.ownsRow_nil w _ _ _

theorem OwnG.form {e : TypeId} {w : World} {base : Nat} {v : Value} {xs : List α} (h : OwnG E e w base v xs) :
    ∃ ao cap, v = .slice ao xs.length cap ∧ xs.length ≤ cap ∧ cap ≤ 9223372036854775807 ∧ RdG E w ao xs ∧ (0 < xs.length → ∃ g, ao = some ⟨g, 0, none⟩) := by
  obtain ⟨ao, cap, rfl, h1, h2, h3⟩ := own_form h
  refine ⟨ao, cap, rfl, h1, h2, ?_, h3⟩
  intro h0
  obtain ⟨g, rfl⟩ := h3 h0
  refine ⟨g, 0, rfl, (h.lt g rfl).2, ?_⟩
  intro i x hx j u hu
  have hj : j < E.size := by
    rw [← E.len x]
    rcases Nat.lt_or_ge j (E.cells x).length with q | q
    · exact q
    · rw [List.getElem?_eq_none q] at hu; cases hu
  have := h.cells rfl (i * E.size + j) u (by rw [E.all_get xs i j x hx hj]; exact hu)
  rw [Nat.zero_add, ← addr_at]
  exact this

theorem OwnG.below {e : TypeId} {w w' : World} {base : Nat} {v : Value} {xs : List α} (h : OwnG E e w base v xs) (hb : Below w.heap.size w w') : OwnG E e w' base v xs :=
  ownsRow_turned (S := fun _ => False) h (Turned.ofBelow hb) (fun _ _ q => q)

theorem OwnG.low {e : TypeId} {w : World} {B B' : Nat} {v : Value} {xs : List α} (h : OwnG E e w B v xs) (hb : B' ≤ B) : OwnG E e w B' v xs := own_base h hb

theorem OwnG.turn {e : TypeId} {w w' : World} {base : Nat} {v : Value} {xs : List α} (h : OwnG E e w base v xs) (hb : base ≤ w.heap.size) (ht : Turned (fun k => v.ownBlock = some k) w w') : Below base w w' :=
  ht.below hb (fun k hk q => by have := (h.lt k q).1; omega)

/-- One cell of a thing of the row is stored anew. -/
theorem OwnG.put {e : TypeId} {w : World} {base g n cap : Nat} {xs : List α} (h : OwnG E e w base (.slice (some ⟨g, 0, none⟩) n cap) xs) {i j : Nat} {x : α} (hx : xs[i]? = some x) (hj : j < E.size) (y : α) (u : Value) (hy : E.cells y = (E.cells x).set j u) :
    OwnG E e (w.setCell ⟨g, i * E.size + j, none⟩ u) base (.slice (some ⟨g, 0, none⟩) n cap) (xs.set i y) := by
  have hn : xs.length = n := own_len h
  subst hn
  unfold OwnG
  rw [List.length_set, ← E.all_set xs i j x y u hx hj hy]
  exact (h.stored (i * E.size + j) u).1

theorem addr_plus (b off j : Nat) : (⟨b, off, none⟩ : Addr).add j = ⟨b, off + j, none⟩ := by
  unfold Addr.add
  split <;> simp_all

theorem cells_new (E : Enc α) (w : World) (y : α) (t : TypeId) : ∀ j u, (E.cells y)[j]? = some u → (w.alloc (.cells (E.cells y).toArray t)).cell? ((⟨w.heap.size, 0, none⟩ : Addr).add j) = some u := by
  intro j u h
  rw [addr_at, World.cell?_alloc_new]
  simpa using h

/-- One thing more behind a row of the call's own. -/
theorem appG_one {ops : Array Oper} {rest : List Oper} {o : Oper} {a : Act} {w : World} {Q : Exit → Act → World → Prop} (E : Enc α) (e t : TypeId) (bytes : Nat) (z : Value) (hz : z.cells.size = E.size)
    (hinfo : (Tryz.prog.info? e).map (fun i => (i.zero, i.size, i.bytes)) = some (some z, E.size, bytes)) (hu : Tryz.prog.underlying t = some (.slice e)) (hgd : o.guard = none) (s x : Operand)
    (hop : o.op = .call { callee := .builtin .append, args := #[s, x], argTypes := #[t, t] }) (base : Nat) (v : Value) (ss : List α) (y : α) (ty : TypeId) (hs : a.eval s = v) (hown : OwnG E e w base v ss)
    (hx : a.eval x = .slice (some ⟨w.heap.size, 0, none⟩) 1 1) (hlen : (ss.length + 1) * bytes ≤ 140737488355328) (hmax : ss.length + 1 ≤ maxLen) (hb : base ≤ w.heap.size) (c : Array Value) (hc : c = (E.cells y).toArray)
    (h : ∀ v' w', OwnG E e w' base v' (ss ++ [y]) → Below base w w' → Moved w v v' → Turned (fun k => v.ownBlock = some k) w w' → wpList Tryz.prog ops Q rest (a.put o.dst v') w') :
    wpList Tryz.prog ops Q (o :: rest) a (w.alloc (.cells c ty)) := by
  subst hc
  obtain ⟨i0, hi0, hz0, hz1, hz2⟩ := info_parts hinfo
  refine wpList_append_moved hgd s x t hop base e i0 _ E.size bytes hu hi0 hz0 hz1 hz2 hz E.pos v ss.length (E.all ss) hs (hown.below ((Below.refl _ w).alloc (Nat.le_refl _) _)) ⟨w.heap.size, 0, none⟩ 1 1 (E.cells y) hx (by rw [E.len, Nat.one_mul]) (cells_new E w y ty)
    (E.one y) hmax hlen (by simp; omega) ?_
  intro v' w' h1 h2 h3
  have ha : Turned (fun k => v.ownBlock = some k) w (w.alloc (.cells (E.cells y).toArray ty)) := (Turned.refl _ _).alloc _
  have ht : Turned (fun k => v.ownBlock = some k) (w.alloc (.cells (E.cells y).toArray ty)) w' := (Turned.refl _ _).grown h2 (fun k _ e => e)
  refine h v' w' ?_ ?_ ?_ (ha.trans ht (fun _ _ q => q))
  · unfold OwnG
    rw [List.length_append, E.all_append]
    simpa [Enc.all] using h1
  · exact OwnG.turn hown hb (ha.trans ht (fun _ _ q => q))
  · refine h3.imp id (fun q g hg => ?_)
    have := q g hg
    simp at this
    omega

/-- The same within a region whose operations are taken in a drawn order: the world at the append is whatever it is. -/
theorem stepG_one {ops : Array Oper} {o : Oper} {a : Act} {w : World} {K : Act → World → Prop} {Q : Exit → Act → World → Prop} {X : Prop} (E : Enc α) (e t : TypeId) (bytes : Nat) (z : Value) (hz : z.cells.size = E.size)
    (hinfo : (Tryz.prog.info? e).map (fun i => (i.zero, i.size, i.bytes)) = some (some z, E.size, bytes)) (hu : Tryz.prog.underlying t = some (.slice e)) (hgd : o.guard = none) (s x : Operand)
    (hop : o.op = .call { callee := .builtin .append, args := #[s, x], argTypes := #[t, t] }) (base : Nat) (v : Value) (ss : List α) (y : α) (hs : a.eval s = v) (hown : OwnG E e w base v ss)
    (b : Nat) (hx : a.eval x = .slice (some ⟨b, 0, none⟩) 1 1) (hc : ∀ j u, (E.cells y)[j]? = some u → w.cell? ((⟨b, 0, none⟩ : Addr).add j) = some u) (hlen : (ss.length + 1) * bytes ≤ 140737488355328) (hmax : ss.length + 1 ≤ maxLen) (hb : base ≤ w.heap.size)
    (h : ∀ v' w', OwnG E e w' base v' (ss ++ [y]) → Below base w w' → K (a.put o.dst v') w') :
    if Region.wanted o (yielded ops a.tmps) = true then Oper.wp Tryz.prog o a w K Q else X := by
  obtain ⟨i0, hi0, hz0, hz1, hz2⟩ := info_parts hinfo
  refine step_append_moved hgd s x t hop base e i0 _ E.size bytes hu hi0 hz0 hz1 hz2 hz E.pos v ss.length (E.all ss) hs hown ⟨b, 0, none⟩ 1 1 (E.cells y) hx (by rw [E.len, Nat.one_mul]) hc (E.one y) hmax hlen hb ?_
  intro v' w' h1 h2 _
  have ht : Turned (fun k => v.ownBlock = some k) w w' := (Turned.refl _ _).grown h2 (fun k _ e => e)
  refine h v' w' ?_ (OwnG.turn hown hb ht)
  unfold OwnG
  rw [List.length_append, E.all_append]
  simpa [Enc.all] using h1

/-- A whole list more behind a row of the call's own. -/
theorem appG_list {ops : Array Oper} {rest : List Oper} {o : Oper} {a : Act} {w : World} {Q : Exit → Act → World → Prop} (E : Enc α) (e t : TypeId) (bytes : Nat) (z : Value) (hz : z.cells.size = E.size)
    (hinfo : (Tryz.prog.info? e).map (fun i => (i.zero, i.size, i.bytes)) = some (some z, E.size, bytes)) (hu : Tryz.prog.underlying t = some (.slice e)) (hgd : o.guard = none) (s x : Operand)
    (hop : o.op = .call { callee := .builtin .append, args := #[s, x], argTypes := #[t, t] }) (base : Nat) (v : Value) (ss xs : List α) (ao : Option Addr) (n c : Nat) (hs : a.eval s = v) (hown : OwnG E e w base v ss)
    (hx : a.eval x = .slice ao n c) (hr : RdG E w ao xs) (hl : xs.length = n) (hlen : (ss.length + n) * bytes ≤ 140737488355328) (hmax : ss.length + n ≤ maxLen) (hb : base ≤ w.heap.size)
    (h : ∀ v' w', OwnG E e w' base v' (ss ++ xs) → Below base w w' → Moved w v v' → Turned (fun k => v.ownBlock = some k) w w' → wpList Tryz.prog ops Q rest (a.put o.dst v') w') :
    wpList Tryz.prog ops Q (o :: rest) a w := by
  obtain ⟨i0, hi0, hz0, hz1, hz2⟩ := info_parts hinfo
  by_cases h0 : 0 < xs.length
  · obtain ⟨b, off, rfl, hlt, hc⟩ := hr h0
    refine wpList_append_moved hgd s x t hop base e i0 _ E.size bytes hu hi0 hz0 hz1 hz2 hz E.pos v ss.length (E.all ss) hs hown ⟨b, off, none⟩ n c (E.all xs) hx (by rw [E.all_length, hl]) (by
      intro k u hk
      obtain ⟨i, j, y, rfl, hj, hy, hu⟩ := E.all_split xs k u hk
      rw [addr_plus]
      exact hc i y hy j u hu) (E.all_one xs) hmax hlen hb ?_
    intro v' w' h1 h2 h3
    have ht : Turned (fun k => v.ownBlock = some k) w w' := (Turned.refl _ _).grown h2 (fun k _ e => e)
    refine h v' w' ?_ (OwnG.turn hown hb ht) h3 ht
    unfold OwnG
    rw [List.length_append, E.all_append, hl]
    exact h1
  · obtain rfl : xs = [] := List.eq_nil_of_length_eq_zero (by omega)
    obtain rfl : n = 0 := hl.symm
    obtain ⟨ao2, cap, rfl, hle, _, _⟩ := hown.form
    refine wpList_plain hgd fun K hK => ?_
    have hrun := run_append_none t o.type e i0 hu hi0 ao2 ss.length cap hle ao c w
    unfold Oper.wp
    simp [execOp, hop, resolve, invoke, builtin, hs, hx, hrun, Result.andThen]
    exact hK _ _ (h _ w (by rw [List.append_nil]; exact hown) (Below.refl _ _) (.inl rfl) (Turned.refl _ _))

/-- Whole numbers. -/
def encI : Enc Int := ⟨fun z => [.int .i64 z], 1, fun _ => rfl, by decide, by intro x u h; simp at h; subst h; rfl⟩
/-- Pairs of whole numbers. -/
def encP : Enc (Int × Int) := ⟨fun p => [.int .i64 p.1, .int .i64 p.2], 2, fun _ => rfl, by decide, by intro x u h; simp at h; rcases h with rfl | rfl <;> rfl⟩

theorem RdG.ints {w : World} {b off : Nat} {xs : List Int} (h : RdG encI w (some ⟨b, off, none⟩) xs) {i : Nat} {x : Int} (hx : xs[i]? = some x) : w.cell? ⟨b, off + i, none⟩ = some (.int .i64 x) := by
  obtain ⟨b', off', e, hlt, hc⟩ := h (by rcases Nat.lt_or_ge i xs.length with q | q
                                         · omega
                                         · rw [List.getElem?_eq_none q] at hx; cases hx)
  obtain ⟨rfl, rfl⟩ : b = b' ∧ off = off' := by simpa using e
  have := hc i x hx 0 _ rfl
  simpa [encI] using this

theorem RdG.pairs {w : World} {b off : Nat} {xs : List (Int × Int)} (h : RdG encP w (some ⟨b, off, none⟩) xs) {i : Nat} {x : Int × Int} (hx : xs[i]? = some x) :
    w.cell? ⟨b, off + i * 2, none⟩ = some (.int .i64 x.1) ∧ w.cell? ⟨b, off + i * 2 + 1, none⟩ = some (.int .i64 x.2) := by
  obtain ⟨b', off', e, hlt, hc⟩ := h (by rcases Nat.lt_or_ge i xs.length with q | q
                                         · omega
                                         · rw [List.getElem?_eq_none q] at hx; cases hx)
  obtain ⟨rfl, rfl⟩ : b = b' ∧ off = off' := by simpa using e
  have h0 := hc i x hx 0 _ rfl
  have h1 := hc i x hx 1 _ rfl
  exact ⟨by simpa [encP] using h0, by simpa [encP, Nat.add_assoc] using h1⟩

theorem RdG.some_of {w : World} {ao : Option Addr} {xs : List α} (h : RdG E w ao xs) {i : Nat} {x : α} (hx : xs[i]? = some x) : ∃ b off, ao = some ⟨b, off, none⟩ ∧ b < w.heap.size := by
  obtain ⟨b, off, e, hlt, _⟩ := h (by rcases Nat.lt_or_ge i xs.length with q | q
                                      · omega
                                      · rw [List.getElem?_eq_none q] at hx; cases hx)
  exact ⟨b, off, e, hlt⟩

end Go.Proofs.YtijchmcajhdcoaaGreatDoor

/-!
  The reference's Same (two lists of texts, held against each other) by a contract. No condition but that the lists are shorter than any list can be.
-/
namespace Go.Proofs.YtijchmcajhdcoaaGreatDoor
open Go.RowKit

theorem same_step {xs ys : List Bs} {i : Nat} (h1 : i < xs.length) (h2 : i < ys.length) (ht : xs.take i = ys.take i) (he : el xs i = el ys i) : xs.take (i + 1) = ys.take (i + 1) := by
  rw [List.take_succ_eq_append_getElem h1, List.take_succ_eq_append_getElem h2, ht, ← el_get h1, ← el_get h2, he]

theorem same_ne {xs ys : List Bs} {i : Nat} (he : el xs i ≠ el ys i) : (xs == ys) = false := by
  rw [beq_eq_false_iff_ne]
  intro e
  exact he (by rw [e])

end Go.Proofs.YtijchmcajhdcoaaGreatDoor

/-!
  More on lists in memory: pieces of a list of texts, copies of it, what a step that turns some blocks leaves of it; append as one step, in a plain region and in one whose order is drawn, and what it turns; two numbers in a block of their own. No program but the numbers of types that are handed in, and slices.Clone where the cut has it.
-/
namespace Go.Proofs.YtijchmcajhdcoaaGreatDoor
open Go.RowKit

/-- The lines from i on, ahead of j. -/
def cutL (l : List Bs) (i j : Nat) : List Bs := (l.drop i).take (j - i)

theorem cutL_len {l : List Bs} {i j : Nat} (h : j ≤ l.length) : (cutL l i j).length = j - i := by
  simp [cutL]; omega
theorem cutL_none (l : List Bs) (i : Nat) : cutL l i i = [] := by simp [cutL]
theorem cutL_end (l : List Bs) (i : Nat) : cutL l i l.length = l.drop i := by
  rw [cutL, List.take_of_length_le (by simp)]
theorem cutL_front (l : List Bs) (j : Nat) : cutL l 0 j = l.take j := by simp [cutL]
theorem cutL_join {l : List Bs} {i j k : Nat} (h1 : i ≤ j) (h2 : j ≤ k) : cutL l i j ++ cutL l j k = cutL l i k := by
  unfold cutL
  have e : l.drop j = (l.drop i).drop (j - i) := by rw [List.drop_drop]; congr 1; omega
  rw [e]
  have : k - i = (j - i) + (k - j) := by omega
  rw [this, List.take_add]
theorem cutL_one {l : List Bs} {i : Nat} {x : Bs} (h : l[i]? = some x) : cutL l i (i + 1) = [x] := by
  obtain ⟨hlt, e⟩ := List.getElem?_eq_some_iff.1 h
  rw [cutL, List.drop_eq_getElem_cons hlt, e]
  have : i + 1 - i = 1 := by omega
  rw [this]
  rfl
theorem cutL_prefix (l : List Bs) (i j : Nat) : (cutL l i j).isPrefixOf (l.drop i) = true := by
  rw [List.isPrefixOf_iff_prefix]
  exact List.take_prefix _ _

theorem own_zero (w : World) (base : Nat) (hb : base ≤ w.heap.size) : Own (w.alloc (.cells #[] 9)) base (.slice (some ⟨w.heap.size, 0, none⟩) 0 0) [] :=
  own_base (World.ownsRow_made w #[] 0 (Nat.le_refl _) (Nat.zero_le _) rfl) hb

/-- A list that is empty by its length. -/
theorem rd_len0 {w : World} {ao : Option Addr} {xs : List Bs} (h : xs.length = 0) : Rd w ao xs := fun h0 => absurd h0 (by omega)

/-- The lines of a piece of a list that can be read. -/
theorem Rd.cut {w : World} {b off : Nat} {xs : List Bs} (h : Rd w (some ⟨b, off, none⟩) xs) (i j : Nat) : Rd w (some ⟨b, off + i, none⟩) (cutL xs i j) := by
  intro h0
  have hi : 0 < (xs.drop i).length ∧ 0 < j - i := by simp [cutL] at h0 ⊢; omega
  obtain ⟨b', off', e, hlt, hc⟩ := h (by simp at hi; omega)
  obtain ⟨rfl, rfl⟩ : b = b' ∧ off = off' := by simpa using e
  refine ⟨b, off + i, rfl, hlt, fun k hk => ?_⟩
  have hk' : k < j - i ∧ k < xs.length - i := by simp [cutL] at hk; omega
  have := hc (i + k) (by omega)
  rw [← Nat.add_assoc] at this
  rw [this]
  congr 4
  unfold el cutL
  simp only [List.getD_eq_getElem?_getD, List.getElem?_take, hk'.1, if_true, List.getElem?_drop]

set_option maxRecDepth 100000 in
/-- s[i:j], as one step: a value of this shape, which reads as the lines from i on, ahead of j. -/
theorem slice_ij {ao : Option Addr} {n c i j : Nat} {xs : List Bs} (hl : xs.length = n) (hc : n ≤ c) (hij : i ≤ j) (hj : j ≤ n) :
    ∃ a' k c', (∀ w, (Instr.slice 87 (.slice ao n c) (some (.int .i64 (i : Int))) (some (.int .i64 (j : Int))) none).run Tryz.prog w = .ok (.slice a' k c') w) ∧ (cutL xs i j).length = k ∧ k ≤ j ∧ k ≤ c' ∧ ∀ w, Rd w ao xs → Rd w a' (cutL xs i j) := by
  obtain ⟨i0, hi0, hz0, hz1, hz2⟩ := info_parts Tryz.info9
  refine ⟨if c = i then ao else ao.map (·.add i), j - i, c - i, fun w => ?_, ?_, ?_, ?_, ?_⟩
  · rw [run_slice_lh w 87 ao n c Tryz.underlying87 .i64 .i64 (i : Int) (j : Int) (by omega) (by omega) (by omega)]
    have : (sizeOf (Tryz.prog.elem 87)).run Tryz.prog w = .ok 1 w := by
      have he : Tryz.prog.elem 87 = 9 := by kernel_rfl
      rw [he]
      simp [sizeOf, typeInfo, hi0, hz1]
    rw [this]
    simp only [Result.andThen, sliced, Int.toNat_natCast, Nat.mul_one]
  · exact cutL_len (by omega)
  · omega
  · omega
  · intro w h
    split
    · refine rd_len0 ?_
      rw [cutL_len (by omega)]
      omega
    · by_cases h0 : 0 < xs.length
      · obtain ⟨b, off, rfl, hlt, hcc⟩ := h h0
        simp only [Option.map_some, addr_plus]
        exact Rd.cut (fun _ => ⟨b, off, rfl, hlt, hcc⟩) i j
      · refine rd_len0 ?_
        rw [cutL_len (by omega)]
        omega

set_option maxRecDepth 100000 in
/-- s[i:]. -/
theorem slice_i {ao : Option Addr} {n c i : Nat} {xs : List Bs} (hl : xs.length = n) (hc : n ≤ c) (hi : i ≤ n) :
    ∃ a' k c', (∀ w, (Instr.slice 87 (.slice ao n c) (some (.int .i64 (i : Int))) none none).run Tryz.prog w = .ok (.slice a' k c') w) ∧ (xs.drop i).length = k ∧ k ≤ n ∧ k ≤ c' ∧ ∀ w, Rd w ao xs → Rd w a' (xs.drop i) := by
  obtain ⟨a', k, c', h1, h2, h3, h4, h5⟩ := slice_ij (ao := ao) hl hc hi (Nat.le_refl n)
  have e : cutL xs i n = xs.drop i := by rw [← hl]; exact cutL_end xs i
  rw [e] at h2 h5
  refine ⟨a', k, c', fun w => ?_, h2, h3, h4, h5⟩
  rw [← h1 w, run_slice_l w 87 ao n c Tryz.underlying87 .i64 (i : Int) (by omega) (by omega), run_slice_lh w 87 ao n c Tryz.underlying87 .i64 .i64 (i : Int) (n : Int) (by omega) (by omega) (by omega)]
  simp only [Int.toNat_natCast]

set_option maxRecDepth 100000 in
/-- s[:j]. -/
theorem slice_j {ao : Option Addr} {n c j : Nat} {xs : List Bs} (hl : xs.length = n) (hc : n ≤ c) (hj : j ≤ n) :
    ∃ a' k c', (∀ w, (Instr.slice 87 (.slice ao n c) none (some (.int .i64 (j : Int))) none).run Tryz.prog w = .ok (.slice a' k c') w) ∧ (xs.take j).length = k ∧ k = j ∧ k ≤ c' ∧ ∀ w, Rd w ao xs → Rd w a' (xs.take j) := by
  obtain ⟨a', k, c', h1, h2, h3, h4, h5⟩ := slice_ij (ao := ao) hl hc (Nat.zero_le j) hj
  rw [cutL_front] at h2 h5
  refine ⟨a', k, c', fun w => ?_, h2, by rw [← h2, List.length_take]; omega, h4, h5⟩
  rw [← h1 w, run_slice_h w 87 ao n c Tryz.underlying87 .i64 (j : Int) (by omega) (by omega), run_slice_lh w 87 ao n c Tryz.underlying87 .i64 .i64 ((0 : Nat) : Int) (j : Int) (by omega) (by omega) (by omega)]
  simp only [Int.toNat_natCast]

/-- An owned slice's address is its block's head. -/
theorem own_at_head {w : World} {base : Nat} {e : TypeId} {size n cap m : Nat} {xs : List Value} {ao : Option Addr} (h : w.ownsRow base e size (.slice ao n cap) m xs) {a : Addr} (ha : ao = some a) : (Value.slice (some a) n cap).ownBlock = some a.block := by
  rcases h.2 with ⟨e, _⟩ | ⟨g, c, cur, e, _⟩
  · cases e; cases ha
  · cases e; cases ha; rfl

/-- A cell in a block that is not turned. -/
theorem Turned.cell {S : Nat → Prop} {w w' : World} (h : Turned S w w') {p : Addr} (hp : p.block < w.heap.size) (hS : ¬ S p.block) : w'.cell? p = w.cell? p :=
  World.cell?_of_block (w := w) (h.block _ hp hS)

theorem Rd.turned {S : Nat → Prop} {w w' : World} {ao : Option Addr} {ss : List Bs} (h : Rd w ao ss) (ht : Turned S w w') (hS : 0 < ss.length → ∀ a, ao = some a → ¬ S a.block) : Rd w' ao ss := by
  intro h0
  obtain ⟨b, off, rfl, hlt, hc⟩ := h h0
  exact ⟨b, off, rfl, Nat.lt_of_lt_of_le hlt ht.size, fun i hi => (ht.cell (p := ⟨b, off + i, none⟩) hlt (show ¬ S b from hS h0 ⟨b, off, none⟩ rfl)).trans (hc i hi)⟩

/-- Two numbers in a block of their own. -/
def PairAt (w : World) (B : Nat) (t : TypeId) (i j : Int) : Prop := w.heap[B]? = some (.cells #[.int .i64 i, .int .i64 j] t (0, 0))

theorem PairAt.lt {w : World} {B : Nat} {t : TypeId} {i j : Int} (h : PairAt w B t i j) : B < w.heap.size := (Array.getElem?_eq_some_iff.1 h).1
theorem PairAt.cells {w : World} {B : Nat} {t : TypeId} {i j : Int} (h : PairAt w B t i j) : w.cell? ⟨B, 0, none⟩ = some (.int .i64 i) ∧ w.cell? ⟨B, 1, none⟩ = some (.int .i64 j) ∧ w.frozen? ⟨B, 0, none⟩ = false ∧ w.frozen? ⟨B, 1, none⟩ = false := by
  unfold PairAt at h
  simp [World.cell?, World.frozen?, h]
theorem PairAt.turned {S : Nat → Prop} {w w' : World} {B : Nat} {t : TypeId} {i j : Int} (h : PairAt w B t i j) (ht : Turned S w w') (hS : ¬ S B) : PairAt w' B t i j := (ht.block B h.lt hS).trans h
theorem PairAt.below {w w' : World} {B : Nat} {t : TypeId} {i j : Int} (h : PairAt w B t i j) (hb : Below w.heap.size w w') : PairAt w' B t i j := (hb.block B h.lt).trans h
theorem PairAt.new (w : World) (t : TypeId) (i j : Int) : PairAt (w.alloc (.cells #[.int .i64 i, .int .i64 j] t)) w.heap.size t i j := by
  unfold PairAt World.alloc
  simp
theorem PairAt.put {w : World} {B : Nat} {t : TypeId} {i j : Int} (h : PairAt w B t i j) (x y : Int) : PairAt ((w.setCell ⟨B, 0, none⟩ (.int .i64 x)).setCell ⟨B, 1, none⟩ (.int .i64 y)) B t x y := by
  unfold PairAt at h ⊢
  simp [World.setCell, Array.getElem?_modify, h]

/-- One thing more behind a row of the call's own, within a region whose order is drawn: and what it turns. -/
theorem stepG_at {α : Type} {ops : Array Oper} {o : Oper} {a : Act} {w : World} {K : Act → World → Prop} {Q : Exit → Act → World → Prop} {X : Prop} (E : Enc α) (e t : TypeId) (bytes : Nat) (z : Value) (hz : z.cells.size = E.size)
    (hinfo : (Tryz.prog.info? e).map (fun i => (i.zero, i.size, i.bytes)) = some (some z, E.size, bytes)) (hu : Tryz.prog.underlying t = some (.slice e)) (hgd : o.guard = none) (s x : Operand)
    (hop : o.op = .call { callee := .builtin .append, args := #[s, x], argTypes := #[t, t] }) (base : Nat) (v : Value) (ss : List α) (y : α) (hs : a.eval s = v) (hown : OwnG E e w base v ss)
    (b : Nat) (hx : a.eval x = .slice (some ⟨b, 0, none⟩) 1 1) (hc : ∀ j u, (E.cells y)[j]? = some u → w.cell? ((⟨b, 0, none⟩ : Addr).add j) = some u) (hlen : (ss.length + 1) * bytes ≤ 140737488355328) (hmax : ss.length + 1 ≤ maxLen) (hb : base ≤ w.heap.size)
    (h : ∀ v' w', OwnG E e w' base v' (ss ++ [y]) → Below base w w' → Moved w v v' → Turned (fun k => v.ownBlock = some k) w w' → K (a.put o.dst v') w') :
    if Region.wanted o (yielded ops a.tmps) = true then Oper.wp Tryz.prog o a w K Q else X := by
  obtain ⟨i0, hi0, hz0, hz1, hz2⟩ := info_parts hinfo
  refine step_append_moved hgd s x t hop base e i0 _ E.size bytes hu hi0 hz0 hz1 hz2 hz E.pos v ss.length (E.all ss) hs hown ⟨b, 0, none⟩ 1 1 (E.cells y) hx (by rw [E.len, Nat.one_mul]) hc (E.one y) hmax hlen hb ?_
  intro v' w' h1 h2 h3
  have ht : Turned (fun k => v.ownBlock = some k) w w' := (Turned.refl _ _).grown h2 (fun k _ e => e)
  refine h v' w' ?_ (OwnG.turn hown hb ht) h3 ht
  unfold OwnG
  rw [List.length_append, E.all_append]
  simpa [Enc.all] using h1

/-- A whole list more behind a row of the call's own, and what it turns. -/
theorem app_list_at {ops : Array Oper} {rest : List Oper} {o : Oper} {a : Act} {w : World} {Q : Exit → Act → World → Prop} (hgd : o.guard = none) (s x : Operand)
    (hop : o.op = .call { callee := .builtin .append, args := #[s, x], argTypes := #[87, 87] }) (base : Nat) (v : Value) (ss xs : List Bs) (ao : Option Addr) (n c : Nat) (hs : a.eval s = v) (hown : Own w base v ss)
    (hx : a.eval x = .slice ao n c) (hr : Rd w ao xs) (hl : xs.length = n) (hlen : ss.length + n ≤ 8796093022208) (hb : base ≤ w.heap.size)
    (h : ∀ v' w', Own w' base v' (ss ++ xs) → Below base w w' → Moved w v v' → Turned (fun k => v.ownBlock = some k) w w' → wpList Tryz.prog ops Q rest (a.put o.dst v') w') :
    wpList Tryz.prog ops Q (o :: rest) a w := by
  obtain ⟨i0, hi0, hz0, hz1, hz2⟩ := info_parts Tryz.info9
  by_cases h0 : 0 < xs.length
  · obtain ⟨b, off, rfl, hlt, hc⟩ := hr h0
    refine wpList_append_moved hgd s x 87 hop base 9 i0 _ 1 16 Tryz.underlying87 hi0 hz0 hz1 hz2 rfl (by decide) v ss.length (ss.map encStr) hs hown ⟨b, off, none⟩ n c (xs.map encStr) hx (by simp [hl]) (by
      intro j u hu
      rw [List.getElem?_map] at hu
      have hj : j < xs.length := by
        rcases Nat.lt_or_ge j xs.length with q | q
        · exact q
        · rw [List.getElem?_eq_none q] at hu; simp at hu
      rw [List.getElem?_eq_getElem hj] at hu
      rw [addr_plus, hc j hj, el_get hj, ← hu]
      rfl) (by intro u hu; obtain ⟨y, _, rfl⟩ := List.mem_map.1 hu; rfl) (by simp only [maxLen]; omega) (by omega) hb ?_
    intro v' w' h1 h2 h3
    have ht : Turned (fun k => v.ownBlock = some k) w w' := (Turned.refl _ _).grown h2 (fun k _ e => e)
    refine h v' w' ?_ (Own.turn hown hb ht) h3 ht
    unfold Own
    rw [List.length_append, List.map_append, hl]
    exact h1
  · obtain rfl : xs = [] := List.eq_nil_of_length_eq_zero (by omega)
    obtain rfl : n = 0 := hl.symm
    obtain ⟨ao2, cap, rfl, hle, _, _⟩ := hown.form
    refine wpList_plain hgd fun K hK => ?_
    have hrun := run_append_none 87 o.type 9 i0 Tryz.underlying87 hi0 ao2 ss.length cap hle ao c w
    unfold Oper.wp
    simp [execOp, hop, resolve, invoke, builtin, hs, hx, hrun, Result.andThen]
    exact hK _ _ (h _ w (by rw [List.append_nil]; exact hown) (Below.refl _ _) (.inl rfl) (Turned.refl _ _))

/-- One text more behind a row of the call's own, and what it turns. -/
theorem app_one_at {ops : Array Oper} {rest : List Oper} {o : Oper} {a : Act} {w : World} {Q : Exit → Act → World → Prop} (hgd : o.guard = none) (s x : Operand)
    (hop : o.op = .call { callee := .builtin .append, args := #[s, x], argTypes := #[87, 87] }) (base : Nat) (v : Value) (ss : List Bs) (y : Bs) (ty : TypeId) (hs : a.eval s = v) (hown : Own w base v ss)
    (hx : a.eval x = .slice (some ⟨w.heap.size, 0, none⟩) 1 1) (hlen : ss.length ≤ 4000000) (hb : base ≤ w.heap.size)
    (h : ∀ v' w', Own w' base v' (ss ++ [y]) → Below base w w' → Moved w v v' → Turned (fun k => v.ownBlock = some k) w w' → wpList Tryz.prog ops Q rest (a.put o.dst v') w') :
    wpList Tryz.prog ops Q (o :: rest) a (w.alloc (.cells #[.string ⟨y.toArray⟩] ty)) := by
  obtain ⟨i0, hi0, hz0, hz1, hz2⟩ := info_parts Tryz.info9
  refine wpList_append_moved hgd s x 87 hop base 9 i0 _ 1 16 Tryz.underlying87 hi0 hz0 hz1 hz2 rfl (by decide) v ss.length (ss.map encStr) hs (hown.below ((Below.refl _ w).alloc (Nat.le_refl _) _)) ⟨w.heap.size, 0, none⟩ 1 1 [encStr y] hx rfl (cell_one_new w _ ty)
    (by simp [Value.oneCell']) (by simp only [maxLen]; omega) (by omega) (by simp; omega) ?_
  intro v' w' h1 h2 h3
  have ha : Turned (fun k => v.ownBlock = some k) w (w.alloc (.cells #[.string ⟨y.toArray⟩] ty)) := (Turned.refl _ _).alloc _
  have ht : Turned (fun k => v.ownBlock = some k) (w.alloc (.cells #[.string ⟨y.toArray⟩] ty)) w' := (Turned.refl _ _).grown h2 (fun k _ e => e)
  refine h v' w' ?_ (Own.turn hown hb (ha.trans ht (fun _ _ q => q))) ?_ (ha.trans ht (fun _ _ q => q))
  · unfold Own
    rw [List.length_append, List.map_append]
    exact h1
  · refine h3.imp id (fun q g hg => ?_)
    have := q g hg
    simp at this
    omega

/-- A whole list of texts more behind a row of the call's own, within a region whose order is drawn. -/
theorem stepL_at {ops : Array Oper} {o : Oper} {a : Act} {w : World} {K : Act → World → Prop} {Q : Exit → Act → World → Prop} {X : Prop} (hgd : o.guard = none) (s x : Operand)
    (hop : o.op = .call { callee := .builtin .append, args := #[s, x], argTypes := #[87, 87] }) (base : Nat) (v : Value) (ss xs : List Bs) (ao : Option Addr) (n c : Nat) (hs : a.eval s = v) (hown : Own w base v ss)
    (hx : a.eval x = .slice ao n c) (hr : Rd w ao xs) (hl : xs.length = n) (hlen : ss.length + n ≤ 8796093022208) (hb : base ≤ w.heap.size)
    (h : ∀ v' w', Own w' base v' (ss ++ xs) → Below base w w' → Moved w v v' → Turned (fun k => v.ownBlock = some k) w w' → K (a.put o.dst v') w') :
    if Region.wanted o (yielded ops a.tmps) = true then Oper.wp Tryz.prog o a w K Q else X := by
  obtain ⟨i0, hi0, hz0, hz1, hz2⟩ := info_parts Tryz.info9
  by_cases h0 : 0 < xs.length
  · obtain ⟨b, off, rfl, hlt, hc⟩ := hr h0
    refine step_append_moved hgd s x 87 hop base 9 i0 _ 1 16 Tryz.underlying87 hi0 hz0 hz1 hz2 rfl (by decide) v ss.length (ss.map encStr) hs hown ⟨b, off, none⟩ n c (xs.map encStr) hx (by simp [hl]) (by
      intro j u hu
      rw [List.getElem?_map] at hu
      have hj : j < xs.length := by
        rcases Nat.lt_or_ge j xs.length with q | q
        · exact q
        · rw [List.getElem?_eq_none q] at hu; simp at hu
      rw [List.getElem?_eq_getElem hj] at hu
      rw [addr_plus, hc j hj, el_get hj, ← hu]
      rfl) (by intro u hu; obtain ⟨y, _, rfl⟩ := List.mem_map.1 hu; rfl) (by simp only [maxLen]; omega) (by omega) hb ?_
    intro v' w' h1 h2 h3
    have ht : Turned (fun k => v.ownBlock = some k) w w' := (Turned.refl _ _).grown h2 (fun k _ e => e)
    refine h v' w' ?_ (Own.turn hown hb ht) h3 ht
    unfold Own
    rw [List.length_append, List.map_append, hl]
    exact h1
  · obtain rfl : xs = [] := List.eq_nil_of_length_eq_zero (by omega)
    obtain rfl : n = 0 := hl.symm
    obtain ⟨ao2, cap, rfl, hle, _, _⟩ := hown.form
    have hw : Region.wanted o (yielded ops a.tmps) = true := by simp [Region.wanted, hgd]
    rw [if_pos hw]
    have hrun := run_append_none 87 o.type 9 i0 Tryz.underlying87 hi0 ao2 ss.length cap hle ao c w
    unfold Oper.wp
    simp [execOp, hop, resolve, invoke, builtin, hs, hx, hrun, Result.andThen]
    exact h _ w (by rw [List.append_nil]; exact hown) (Below.refl _ _) (.inl rfl) (Turned.refl _ _)

theorem bz1 (u : World) (o : Obj) : Below u.heap.size u (u.alloc o) := (Below.refl _ u).alloc (Nat.le_refl _) o
theorem bz2 (u : World) (o o' : Obj) : Below u.heap.size u ((u.alloc o).alloc o') := (bz1 u o).trans ((bz1 (u.alloc o) o').mono (bz1 u o).size)
theorem oz1 (u : World) : Own (u.alloc (.cells #[] 9)) u.heap.size (.slice (some ⟨u.heap.size, 0, none⟩) 0 0) [] := own_zero u _ (Nat.le_refl _)
theorem oz2 (u : World) (o : Obj) : Own ((u.alloc (.cells #[] 9)).alloc o) u.heap.size (.slice (some ⟨u.heap.size, 0, none⟩) 0 0) [] := (oz1 u).below (bz1 _ _)
theorem oz3 (u : World) (o : Obj) : Own ((u.alloc o).alloc (.cells #[] 9)) u.heap.size (.slice (some ⟨u.heap.size + 1, 0, none⟩) 0 0) [] := by
  have := own_zero (u.alloc o) u.heap.size (by simp)
  have e : (u.alloc o).heap.size = u.heap.size + 1 := by simp
  rw [e] at this
  exact this

/-- A row that a step did not turn. -/
theorem Own.stays {S : Nat → Prop} {w w' : World} {base : Nat} {v : Value} {ss : List Bs} (h : Own w base v ss) (ht : Turned S w w') (hS : ∀ g, v.ownBlock = some g → ¬ S g) : Own w' base v ss := ownsRow_turned h ht hS

theorem own_at {w : World} {base g n cap : Nat} {ss : List Bs} (h : Own w base (.slice (some ⟨g, 0, none⟩) n cap) ss) {i : Nat} (hi : i < ss.length) :
    w.cell? ⟨g, i, none⟩ = some (.string ⟨(el ss i).toArray⟩) ∧ w.frozen? ⟨g, i, none⟩ = false := by
  have hn : ss.length = n := own_len h
  subst hn
  have h' : w.ownsRow base 9 1 (.slice (some ⟨g, 0, none⟩) ss.length cap) ss.length (ss.map encStr) := h
  refine ⟨?_, h'.frozenAt _⟩
  rw [h'.cellAt _ (by omega), List.getElem?_map, List.getElem?_eq_getElem hi, el_get hi]
  rfl

theorem own_put {w : World} {base g n cap : Nat} {ss : List Bs} (h : Own w base (.slice (some ⟨g, 0, none⟩) n cap) ss) (i : Nat) (y : Bs) :
    Own (w.setCell ⟨g, i, none⟩ (.string ⟨y.toArray⟩)) base (.slice (some ⟨g, 0, none⟩) n cap) (ss.set i y) := by
  have hn : ss.length = n := own_len h
  subst hn
  have h' : w.ownsRow base 9 1 (.slice (some ⟨g, 0, none⟩) ss.length cap) ss.length (ss.map encStr) := h
  unfold Own
  rw [List.length_set, List.map_set]
  exact (h'.stored i _).1

/-- A list of texts as it is written down. -/
theorem rd_lit (w : World) (ss : List Bs) (t : TypeId) (c : Array Value) (hc : c = (ss.map (fun s => Value.string ⟨s.toArray⟩)).toArray) : Rd (w.alloc (.cells c t)) (some ⟨w.heap.size, 0, none⟩) ss := by
  subst hc
  intro _
  refine ⟨w.heap.size, 0, rfl, by simp, ?_⟩
  intro i hi
  rw [Nat.zero_add, World.cell?_alloc_new]
  simp [hi, el_get hi]

end Go.Proofs.YtijchmcajhdcoaaGreatDoor
