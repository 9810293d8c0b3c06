/-
  Lists of things of any kind in memory (each of so many cells): those that can be read, those that lie in a row of the call's own; append of one and of many. No program but the numbers of types that are handed in; no condition.
-/
import Derived.Test.YtdgdckmhmmigkaaGreatDoorPApp
namespace Go.Proofs.YtdgdckmhmmigkaaGreatDoor
open Go.RowKit

/-- How a kind of things lies in memory. -/
structure Enc (α : Type) where
  cells : α → List Value
  size : Nat
  len : ∀ x, (cells x).length = size
  pos : 0 < size
  one : ∀ x, ∀ u ∈ cells x, u.oneCell' = true

variable {α : Type} {E : Enc α}

/-- The cells of a list. -/
def Enc.all (E : Enc α) (xs : List α) : List Value := xs.flatMap E.cells

theorem Enc.all_length (E : Enc α) : ∀ xs : List α, (E.all xs).length = xs.length * E.size
  | [] => by simp [Enc.all]
  | x :: t => by
    have := Enc.all_length E t
    simp only [Enc.all, List.flatMap_cons, List.length_append, E.len, List.length_cons] at this ⊢
    rw [this, Nat.add_mul, Nat.one_mul, Nat.add_comm]

theorem Enc.all_append (E : Enc α) (xs ys : List α) : E.all (xs ++ ys) = E.all xs ++ E.all ys := by simp [Enc.all]

theorem Enc.all_one (E : Enc α) (xs : List α) : ∀ u ∈ E.all xs, u.oneCell' = true := by
  intro u h
  simp only [Enc.all, List.mem_flatMap] at h
  obtain ⟨x, _, hx⟩ := h
  exact E.one x u hx

theorem Enc.all_get (E : Enc α) : ∀ (xs : List α) (i j : Nat) (x : α), xs[i]? = some x → j < E.size → (E.all xs)[i * E.size + j]? = (E.cells x)[j]?
  | [], i, j, x, h, _ => by simp at h
  | y :: t, 0, j, x, h, hj => by
    have e : y = x := by simpa using h
    subst e
    simp only [Enc.all, List.flatMap_cons, Nat.zero_mul, Nat.zero_add]
    rw [List.getElem?_append_left (by rw [E.len]; exact hj)]
  | y :: t, i + 1, j, x, h, hj => by
    have := Enc.all_get E t i j x (by simpa using h) hj
    simp only [Enc.all, List.flatMap_cons] at this ⊢
    rw [List.getElem?_append_right (by rw [E.len, Nat.add_mul, Nat.one_mul]; omega), E.len, ← this]
    congr 1
    rw [Nat.add_mul, Nat.one_mul]
    omega

theorem Enc.all_split (E : Enc α) (xs : List α) (k : Nat) (u : Value) (h : (E.all xs)[k]? = some u) : ∃ i j x, k = i * E.size + j ∧ j < E.size ∧ xs[i]? = some x ∧ (E.cells x)[j]? = some u := by
  have hk : k < xs.length * E.size := by
    rcases Nat.lt_or_ge k (E.all xs).length with q | q
    · rw [E.all_length] at q; exact q
    · rw [List.getElem?_eq_none q] at h; cases h
  have hi : k / E.size < xs.length := Nat.div_lt_of_lt_mul (by rw [Nat.mul_comm]; exact hk)
  have hj : k % E.size < E.size := Nat.mod_lt _ E.pos
  have hx : xs[k / E.size]? = some xs[k / E.size] := List.getElem?_eq_getElem hi
  have e : k = k / E.size * E.size + k % E.size := by rw [Nat.mul_comm]; exact (Nat.div_add_mod k E.size).symm
  refine ⟨k / E.size, k % E.size, xs[k / E.size], e, hj, hx, ?_⟩
  rw [← E.all_get xs _ _ _ hx hj, ← e]
  exact h

theorem Enc.all_set (E : Enc α) : ∀ (xs : List α) (i j : Nat) (x y : α) (u : Value), xs[i]? = some x → j < E.size → E.cells y = (E.cells x).set j u → (E.all xs).set (i * E.size + j) u = E.all (xs.set i y)
  | [], i, j, x, y, u, h, _, _ => by simp at h
  | z :: t, 0, j, x, y, u, h, hj, hy => by
    have e : z = x := by simpa using h
    subst e
    simp only [Enc.all, List.flatMap_cons, Nat.zero_mul, Nat.zero_add, List.set_cons_zero]
    rw [List.set_append_left _ _ (by rw [E.len]; exact hj), hy]
  | z :: t, i + 1, j, x, y, u, h, hj, hy => by
    have := Enc.all_set E t i j x y u (by simpa using h) hj hy
    simp only [Enc.all, List.flatMap_cons, List.set_cons_succ] at this ⊢
    rw [List.set_append_right _ _ (by rw [E.len, Nat.add_mul, Nat.one_mul]; omega), E.len, ← this]
    congr 2
    rw [Nat.add_mul, Nat.one_mul]
    omega

/-- A list that can be read: nothing is asked of an empty one's address. -/
def RdG (E : Enc α) (w : World) (ao : Option Addr) (xs : List α) : Prop := 0 < xs.length → ∃ b off, ao = some ⟨b, off, none⟩ ∧ b < w.heap.size ∧
  ∀ i x, xs[i]? = some x → ∀ j u, (E.cells x)[j]? = some u → w.cell? ⟨b, off + (i * E.size + j), none⟩ = some u

theorem RdG.below {w w' : World} {ao : Option Addr} {xs : List α} (h : RdG E w ao xs) (hb : Below w.heap.size w w') : RdG E w' ao xs := by
  intro h0
  obtain ⟨b, off, rfl, hlt, hc⟩ := h h0
  exact ⟨b, off, rfl, Nat.lt_of_lt_of_le hlt hb.size, fun i x hx j u hu => (hb.cell hlt).trans (hc i x hx j u hu)⟩

theorem RdG.nil (E : Enc α) (w : World) (ao : Option Addr) : RdG E w ao [] := fun h => absurd h (by simp)

/-- The first n of a list. -/
theorem RdG.take {w : World} {ao : Option Addr} {xs : List α} (h : RdG E w ao xs) (n : Nat) : RdG E w ao (xs.take n) := by
  intro h0
  obtain ⟨b, off, rfl, hlt, hc⟩ := h (by simp at h0; omega)
  refine ⟨b, off, rfl, hlt, fun i x hx => hc i x ?_⟩
  rw [List.getElem?_take] at hx
  split at hx
  · exact hx
  · cases hx

/-- A list without its first n. -/
theorem RdG.drop {w : World} {b off : Nat} {xs : List α} (h : RdG E w (some ⟨b, off, none⟩) xs) (n : Nat) : RdG E w (some ⟨b, off + n * E.size, none⟩) (xs.drop n) := by
  intro h0
  obtain ⟨b', off', e, hlt, hc⟩ := h (by simp at h0; omega)
  obtain ⟨rfl, rfl⟩ : b = b' ∧ off = off' := by simpa using e
  refine ⟨b, off + n * E.size, rfl, hlt, fun i x hx j u hu => ?_⟩
  rw [List.getElem?_drop] at hx
  have := hc (n + i) x hx j u hu
  rw [Nat.add_mul] at this
  rw [← this]
  congr 2
  omega

/-- A list that lies in a row of the call's own. -/
def OwnG (E : Enc α) (e : TypeId) (w : World) (base : Nat) (v : Value) (xs : List α) : Prop := w.ownsRow base e E.size v xs.length (E.all xs)

theorem OwnG.nil (E : Enc α) (e : TypeId) (w : World) (base : Nat) : OwnG E e w base (.slice none 0 0) [] := World.ownsRow_nil w _ _ _

theorem OwnG.form {e : TypeId} {w : World} {base : Nat} {v : Value} {xs : List α} (h : OwnG E e w base v xs) :
    ∃ ao cap, v = .slice ao xs.length cap ∧ xs.length ≤ cap ∧ cap ≤ 9223372036854775807 ∧ RdG E w ao xs ∧ (0 < xs.length → ∃ g, ao = some ⟨g, 0, none⟩) := by
  obtain ⟨ao, cap, rfl, h1, h2, h3⟩ := own_form h
  refine ⟨ao, cap, rfl, h1, h2, ?_, h3⟩
  intro h0
  obtain ⟨g, rfl⟩ := h3 h0
  refine ⟨g, 0, rfl, (h.lt g rfl).2, ?_⟩
  intro i x hx j u hu
  have hj : j < E.size := by
    rw [← E.len x]
    rcases Nat.lt_or_ge j (E.cells x).length with q | q
    · exact q
    · rw [List.getElem?_eq_none q] at hu; cases hu
  have := h.cells rfl (i * E.size + j) u (by rw [E.all_get xs i j x hx hj]; exact hu)
  rw [Nat.zero_add, ← addr_at]
  exact this

theorem OwnG.below {e : TypeId} {w w' : World} {base : Nat} {v : Value} {xs : List α} (h : OwnG E e w base v xs) (hb : Below w.heap.size w w') : OwnG E e w' base v xs :=
  ownsRow_turned (S := fun _ => False) h (Turned.ofBelow hb) (fun _ _ q => q)

theorem OwnG.low {e : TypeId} {w : World} {B B' : Nat} {v : Value} {xs : List α} (h : OwnG E e w B v xs) (hb : B' ≤ B) : OwnG E e w B' v xs := own_base h hb

theorem OwnG.turn {e : TypeId} {w w' : World} {base : Nat} {v : Value} {xs : List α} (h : OwnG E e w base v xs) (hb : base ≤ w.heap.size) (ht : Turned (fun k => v.ownBlock = some k) w w') : Below base w w' :=
  ht.below hb (fun k hk q => by have := (h.lt k q).1; omega)

/-- One cell of a thing of the row is stored anew. -/
theorem OwnG.put {e : TypeId} {w : World} {base g n cap : Nat} {xs : List α} (h : OwnG E e w base (.slice (some ⟨g, 0, none⟩) n cap) xs) {i j : Nat} {x : α} (hx : xs[i]? = some x) (hj : j < E.size) (y : α) (u : Value) (hy : E.cells y = (E.cells x).set j u) :
    OwnG E e (w.setCell ⟨g, i * E.size + j, none⟩ u) base (.slice (some ⟨g, 0, none⟩) n cap) (xs.set i y) := by
  have hn : xs.length = n := own_len h
  subst hn
  unfold OwnG
  rw [List.length_set, ← E.all_set xs i j x y u hx hj hy]
  exact (h.stored (i * E.size + j) u).1

theorem addr_plus (b off j : Nat) : (⟨b, off, none⟩ : Addr).add j = ⟨b, off + j, none⟩ := by
  unfold Addr.add
  split <;> simp_all

theorem cells_new (E : Enc α) (w : World) (y : α) (t : TypeId) : ∀ j u, (E.cells y)[j]? = some u → (w.alloc (.cells (E.cells y).toArray t)).cell? ((⟨w.heap.size, 0, none⟩ : Addr).add j) = some u := by
  intro j u h
  rw [addr_at, World.cell?_alloc_new]
  simpa using h

/-- One thing more behind a row of the call's own. -/
theorem appG_one {ops : Array Oper} {rest : List Oper} {o : Oper} {a : Act} {w : World} {Q : Exit → Act → World → Prop} (E : Enc α) (e t : TypeId) (bytes : Nat) (z : Value) (hz : z.cells.size = E.size)
    (hinfo : (Tryz.prog.info? e).map (fun i => (i.zero, i.size, i.bytes)) = some (some z, E.size, bytes)) (hu : Tryz.prog.underlying t = some (.slice e)) (hgd : o.guard = none) (s x : Operand)
    (hop : o.op = .call { callee := .builtin .append, args := #[s, x], argTypes := #[t, t] }) (base : Nat) (v : Value) (ss : List α) (y : α) (ty : TypeId) (hs : a.eval s = v) (hown : OwnG E e w base v ss)
    (hx : a.eval x = .slice (some ⟨w.heap.size, 0, none⟩) 1 1) (hlen : (ss.length + 1) * bytes ≤ 140737488355328) (hmax : ss.length + 1 ≤ maxLen) (hb : base ≤ w.heap.size) (c : Array Value) (hc : c = (E.cells y).toArray)
    (h : ∀ v' w', OwnG E e w' base v' (ss ++ [y]) → Below base w w' → Moved w v v' → Turned (fun k => v.ownBlock = some k) w w' → wpList Tryz.prog ops Q rest (a.put o.dst v') w') :
    wpList Tryz.prog ops Q (o :: rest) a (w.alloc (.cells c ty)) := by
  subst hc
  obtain ⟨i0, hi0, hz0, hz1, hz2⟩ := info_parts hinfo
  refine wpList_append_moved hgd s x t hop base e i0 _ E.size bytes hu hi0 hz0 hz1 hz2 hz E.pos v ss.length (E.all ss) hs (hown.below ((Below.refl _ w).alloc (Nat.le_refl _) _)) ⟨w.heap.size, 0, none⟩ 1 1 (E.cells y) hx (by rw [E.len, Nat.one_mul]) (cells_new E w y ty)
    (E.one y) hmax hlen (by simp; omega) ?_
  intro v' w' h1 h2 h3
  have ha : Turned (fun k => v.ownBlock = some k) w (w.alloc (.cells (E.cells y).toArray ty)) := (Turned.refl _ _).alloc _
  have ht : Turned (fun k => v.ownBlock = some k) (w.alloc (.cells (E.cells y).toArray ty)) w' := (Turned.refl _ _).grown h2 (fun k _ e => e)
  refine h v' w' ?_ ?_ ?_ (ha.trans ht (fun _ _ q => q))
  · unfold OwnG
    rw [List.length_append, E.all_append]
    simpa [Enc.all] using h1
  · exact OwnG.turn hown hb (ha.trans ht (fun _ _ q => q))
  · refine h3.imp id (fun q g hg => ?_)
    have := q g hg
    simp at this
    omega

/-- The same within a region whose operations are taken in a drawn order: the world at the append is whatever it is. -/
theorem stepG_one {ops : Array Oper} {o : Oper} {a : Act} {w : World} {K : Act → World → Prop} {Q : Exit → Act → World → Prop} {X : Prop} (E : Enc α) (e t : TypeId) (bytes : Nat) (z : Value) (hz : z.cells.size = E.size)
    (hinfo : (Tryz.prog.info? e).map (fun i => (i.zero, i.size, i.bytes)) = some (some z, E.size, bytes)) (hu : Tryz.prog.underlying t = some (.slice e)) (hgd : o.guard = none) (s x : Operand)
    (hop : o.op = .call { callee := .builtin .append, args := #[s, x], argTypes := #[t, t] }) (base : Nat) (v : Value) (ss : List α) (y : α) (hs : a.eval s = v) (hown : OwnG E e w base v ss)
    (b : Nat) (hx : a.eval x = .slice (some ⟨b, 0, none⟩) 1 1) (hc : ∀ j u, (E.cells y)[j]? = some u → w.cell? ((⟨b, 0, none⟩ : Addr).add j) = some u) (hlen : (ss.length + 1) * bytes ≤ 140737488355328) (hmax : ss.length + 1 ≤ maxLen) (hb : base ≤ w.heap.size)
    (h : ∀ v' w', OwnG E e w' base v' (ss ++ [y]) → Below base w w' → K (a.put o.dst v') w') :
    if Region.wanted o (yielded ops a.tmps) = true then Oper.wp Tryz.prog o a w K Q else X := by
  obtain ⟨i0, hi0, hz0, hz1, hz2⟩ := info_parts hinfo
  refine step_append_moved hgd s x t hop base e i0 _ E.size bytes hu hi0 hz0 hz1 hz2 hz E.pos v ss.length (E.all ss) hs hown ⟨b, 0, none⟩ 1 1 (E.cells y) hx (by rw [E.len, Nat.one_mul]) hc (E.one y) hmax hlen hb ?_
  intro v' w' h1 h2 _
  have ht : Turned (fun k => v.ownBlock = some k) w w' := (Turned.refl _ _).grown h2 (fun k _ e => e)
  refine h v' w' ?_ (OwnG.turn hown hb ht)
  unfold OwnG
  rw [List.length_append, E.all_append]
  simpa [Enc.all] using h1

/-- A whole list more behind a row of the call's own. -/
theorem appG_list {ops : Array Oper} {rest : List Oper} {o : Oper} {a : Act} {w : World} {Q : Exit → Act → World → Prop} (E : Enc α) (e t : TypeId) (bytes : Nat) (z : Value) (hz : z.cells.size = E.size)
    (hinfo : (Tryz.prog.info? e).map (fun i => (i.zero, i.size, i.bytes)) = some (some z, E.size, bytes)) (hu : Tryz.prog.underlying t = some (.slice e)) (hgd : o.guard = none) (s x : Operand)
    (hop : o.op = .call { callee := .builtin .append, args := #[s, x], argTypes := #[t, t] }) (base : Nat) (v : Value) (ss xs : List α) (ao : Option Addr) (n c : Nat) (hs : a.eval s = v) (hown : OwnG E e w base v ss)
    (hx : a.eval x = .slice ao n c) (hr : RdG E w ao xs) (hl : xs.length = n) (hlen : (ss.length + n) * bytes ≤ 140737488355328) (hmax : ss.length + n ≤ maxLen) (hb : base ≤ w.heap.size)
    (h : ∀ v' w', OwnG E e w' base v' (ss ++ xs) → Below base w w' → Moved w v v' → Turned (fun k => v.ownBlock = some k) w w' → wpList Tryz.prog ops Q rest (a.put o.dst v') w') :
    wpList Tryz.prog ops Q (o :: rest) a w := by
  obtain ⟨i0, hi0, hz0, hz1, hz2⟩ := info_parts hinfo
  by_cases h0 : 0 < xs.length
  · obtain ⟨b, off, rfl, hlt, hc⟩ := hr h0
    refine wpList_append_moved hgd s x t hop base e i0 _ E.size bytes hu hi0 hz0 hz1 hz2 hz E.pos v ss.length (E.all ss) hs hown ⟨b, off, none⟩ n c (E.all xs) hx (by rw [E.all_length, hl]) (by
      intro k u hk
      obtain ⟨i, j, y, rfl, hj, hy, hu⟩ := E.all_split xs k u hk
      rw [addr_plus]
      exact hc i y hy j u hu) (E.all_one xs) hmax hlen hb ?_
    intro v' w' h1 h2 h3
    have ht : Turned (fun k => v.ownBlock = some k) w w' := (Turned.refl _ _).grown h2 (fun k _ e => e)
    refine h v' w' ?_ (OwnG.turn hown hb ht) h3 ht
    unfold OwnG
    rw [List.length_append, E.all_append, hl]
    exact h1
  · obtain rfl : xs = [] := List.eq_nil_of_length_eq_zero (by omega)
    obtain rfl : n = 0 := hl.symm
    obtain ⟨ao2, cap, rfl, hle, _, _⟩ := hown.form
    refine wpList_plain hgd fun K hK => ?_
    have hrun := run_append_none t o.type e i0 hu hi0 ao2 ss.length cap hle ao c w
    unfold Oper.wp
    simp [execOp, hop, resolve, invoke, builtin, hs, hx, hrun, Result.andThen]
    exact hK _ _ (h _ w (by rw [List.append_nil]; exact hown) (Below.refl _ _) (.inl rfl) (Turned.refl _ _))

/-- Whole numbers. -/
def encI : Enc Int := ⟨fun z => [.int .i64 z], 1, fun _ => rfl, by decide, by intro x u h; simp at h; subst h; rfl⟩
/-- Pairs of whole numbers. -/
def encP : Enc (Int × Int) := ⟨fun p => [.int .i64 p.1, .int .i64 p.2], 2, fun _ => rfl, by decide, by intro x u h; simp at h; rcases h with rfl | rfl <;> rfl⟩

theorem RdG.ints {w : World} {b off : Nat} {xs : List Int} (h : RdG encI w (some ⟨b, off, none⟩) xs) {i : Nat} {x : Int} (hx : xs[i]? = some x) : w.cell? ⟨b, off + i, none⟩ = some (.int .i64 x) := by
  obtain ⟨b', off', e, hlt, hc⟩ := h (by rcases Nat.lt_or_ge i xs.length with q | q
                                         · omega
                                         · rw [List.getElem?_eq_none q] at hx; cases hx)
  obtain ⟨rfl, rfl⟩ : b = b' ∧ off = off' := by simpa using e
  have := hc i x hx 0 _ rfl
  simpa [encI] using this

theorem RdG.pairs {w : World} {b off : Nat} {xs : List (Int × Int)} (h : RdG encP w (some ⟨b, off, none⟩) xs) {i : Nat} {x : Int × Int} (hx : xs[i]? = some x) :
    w.cell? ⟨b, off + i * 2, none⟩ = some (.int .i64 x.1) ∧ w.cell? ⟨b, off + i * 2 + 1, none⟩ = some (.int .i64 x.2) := by
  obtain ⟨b', off', e, hlt, hc⟩ := h (by rcases Nat.lt_or_ge i xs.length with q | q
                                         · omega
                                         · rw [List.getElem?_eq_none q] at hx; cases hx)
  obtain ⟨rfl, rfl⟩ : b = b' ∧ off = off' := by simpa using e
  have h0 := hc i x hx 0 _ rfl
  have h1 := hc i x hx 1 _ rfl
  exact ⟨by simpa [encP] using h0, by simpa [encP, Nat.add_assoc] using h1⟩

theorem RdG.some_of {w : World} {ao : Option Addr} {xs : List α} (h : RdG E w ao xs) {i : Nat} {x : α} (hx : xs[i]? = some x) : ∃ b off, ao = some ⟨b, off, none⟩ ∧ b < w.heap.size := by
  obtain ⟨b, off, e, hlt, _⟩ := h (by rcases Nat.lt_or_ge i xs.length with q | q
                                      · omega
                                      · rw [List.getElem?_eq_none q] at hx; cases hx)
  exact ⟨b, off, e, hlt⟩

end Go.Proofs.YtdgdckmhmmigkaaGreatDoor
