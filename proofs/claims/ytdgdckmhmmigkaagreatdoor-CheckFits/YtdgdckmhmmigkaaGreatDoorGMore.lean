/-
  More on lists in memory: pieces of a list of texts, copies of it, what a step that turns some blocks leaves of it; append as one step, in a plain region and in one whose order is drawn, and what it turns; two numbers in a block of their own. No program but the numbers of types that are handed in, and slices.Clone where the cut has it.
-/
import Derived.Test.YtdgdckmhmmigkaaGreatDoorGRows
import Derived.Test.YtdgdckmhmmigkaaGreatDoorPSame
namespace Go.Proofs.YtdgdckmhmmigkaaGreatDoor
open Go.RowKit

/-- The lines from i on, ahead of j. -/
def cutL (l : List Bs) (i j : Nat) : List Bs := (l.drop i).take (j - i)

theorem cutL_len {l : List Bs} {i j : Nat} (h : j ≤ l.length) : (cutL l i j).length = j - i := by
  simp [cutL]; omega
theorem cutL_none (l : List Bs) (i : Nat) : cutL l i i = [] := by simp [cutL]
theorem cutL_end (l : List Bs) (i : Nat) : cutL l i l.length = l.drop i := by
  rw [cutL, List.take_of_length_le (by simp)]
theorem cutL_front (l : List Bs) (j : Nat) : cutL l 0 j = l.take j := by simp [cutL]
theorem cutL_join {l : List Bs} {i j k : Nat} (h1 : i ≤ j) (h2 : j ≤ k) : cutL l i j ++ cutL l j k = cutL l i k := by
  unfold cutL
  have e : l.drop j = (l.drop i).drop (j - i) := by rw [List.drop_drop]; congr 1; omega
  rw [e]
  have : k - i = (j - i) + (k - j) := by omega
  rw [this, List.take_add]
theorem cutL_one {l : List Bs} {i : Nat} {x : Bs} (h : l[i]? = some x) : cutL l i (i + 1) = [x] := by
  obtain ⟨hlt, e⟩ := List.getElem?_eq_some_iff.1 h
  rw [cutL, List.drop_eq_getElem_cons hlt, e]
  have : i + 1 - i = 1 := by omega
  rw [this]
  rfl
theorem cutL_prefix (l : List Bs) (i j : Nat) : (cutL l i j).isPrefixOf (l.drop i) = true := by
  rw [List.isPrefixOf_iff_prefix]
  exact List.take_prefix _ _

theorem own_zero (w : World) (base : Nat) (hb : base ≤ w.heap.size) : Own (w.alloc (.cells #[] 9)) base (.slice (some ⟨w.heap.size, 0, none⟩) 0 0) [] :=
  own_base (World.ownsRow_made w #[] 0 (Nat.le_refl _) (Nat.zero_le _) rfl) hb

/-- A list that is empty by its length. -/
theorem rd_len0 {w : World} {ao : Option Addr} {xs : List Bs} (h : xs.length = 0) : Rd w ao xs := fun h0 => absurd h0 (by omega)

/-- The lines of a piece of a list that can be read. -/
theorem Rd.cut {w : World} {b off : Nat} {xs : List Bs} (h : Rd w (some ⟨b, off, none⟩) xs) (i j : Nat) : Rd w (some ⟨b, off + i, none⟩) (cutL xs i j) := by
  intro h0
  have hi : 0 < (xs.drop i).length ∧ 0 < j - i := by simp [cutL] at h0 ⊢; omega
  obtain ⟨b', off', e, hlt, hc⟩ := h (by simp at hi; omega)
  obtain ⟨rfl, rfl⟩ : b = b' ∧ off = off' := by simpa using e
  refine ⟨b, off + i, rfl, hlt, fun k hk => ?_⟩
  have hk' : k < j - i ∧ k < xs.length - i := by simp [cutL] at hk; omega
  have := hc (i + k) (by omega)
  rw [← Nat.add_assoc] at this
  rw [this]
  congr 4
  unfold el cutL
  simp only [List.getD_eq_getElem?_getD, List.getElem?_take, hk'.1, if_true, List.getElem?_drop]

set_option maxRecDepth 100000 in
/-- s[i:j], as one step: a value of this shape, which reads as the lines from i on, ahead of j. -/
theorem slice_ij {ao : Option Addr} {n c i j : Nat} {xs : List Bs} (hl : xs.length = n) (hc : n ≤ c) (hij : i ≤ j) (hj : j ≤ n) :
    ∃ a' k c', (∀ w, (Instr.slice 26 (.slice ao n c) (some (.int .i64 (i : Int))) (some (.int .i64 (j : Int))) none).run Tryz.prog w = .ok (.slice a' k c') w) ∧ (cutL xs i j).length = k ∧ k ≤ j ∧ k ≤ c' ∧ ∀ w, Rd w ao xs → Rd w a' (cutL xs i j) := by
  obtain ⟨i0, hi0, hz0, hz1, hz2⟩ := info_parts Tryz.info9
  refine ⟨if c = i then ao else ao.map (·.add i), j - i, c - i, fun w => ?_, ?_, ?_, ?_, ?_⟩
  · rw [run_slice_lh w 26 ao n c Tryz.underlying26 .i64 .i64 (i : Int) (j : Int) (by omega) (by omega) (by omega)]
    have : (sizeOf (Tryz.prog.elem 26)).run Tryz.prog w = .ok 1 w := by
      have he : Tryz.prog.elem 26 = 9 := by kernel_rfl
      rw [he]
      simp [sizeOf, typeInfo, hi0, hz1]
    rw [this]
    simp only [Result.andThen, sliced, Int.toNat_natCast, Nat.mul_one]
  · exact cutL_len (by omega)
  · omega
  · omega
  · intro w h
    split
    · refine rd_len0 ?_
      rw [cutL_len (by omega)]
      omega
    · by_cases h0 : 0 < xs.length
      · obtain ⟨b, off, rfl, hlt, hcc⟩ := h h0
        simp only [Option.map_some, addr_plus]
        exact Rd.cut (fun _ => ⟨b, off, rfl, hlt, hcc⟩) i j
      · refine rd_len0 ?_
        rw [cutL_len (by omega)]
        omega

set_option maxRecDepth 100000 in
/-- s[i:]. -/
theorem slice_i {ao : Option Addr} {n c i : Nat} {xs : List Bs} (hl : xs.length = n) (hc : n ≤ c) (hi : i ≤ n) :
    ∃ a' k c', (∀ w, (Instr.slice 26 (.slice ao n c) (some (.int .i64 (i : Int))) none none).run Tryz.prog w = .ok (.slice a' k c') w) ∧ (xs.drop i).length = k ∧ k ≤ n ∧ k ≤ c' ∧ ∀ w, Rd w ao xs → Rd w a' (xs.drop i) := by
  obtain ⟨a', k, c', h1, h2, h3, h4, h5⟩ := slice_ij (ao := ao) hl hc hi (Nat.le_refl n)
  have e : cutL xs i n = xs.drop i := by rw [← hl]; exact cutL_end xs i
  rw [e] at h2 h5
  refine ⟨a', k, c', fun w => ?_, h2, h3, h4, h5⟩
  rw [← h1 w, run_slice_l w 26 ao n c Tryz.underlying26 .i64 (i : Int) (by omega) (by omega), run_slice_lh w 26 ao n c Tryz.underlying26 .i64 .i64 (i : Int) (n : Int) (by omega) (by omega) (by omega)]
  simp only [Int.toNat_natCast]

set_option maxRecDepth 100000 in
/-- s[:j]. -/
theorem slice_j {ao : Option Addr} {n c j : Nat} {xs : List Bs} (hl : xs.length = n) (hc : n ≤ c) (hj : j ≤ n) :
    ∃ a' k c', (∀ w, (Instr.slice 26 (.slice ao n c) none (some (.int .i64 (j : Int))) none).run Tryz.prog w = .ok (.slice a' k c') w) ∧ (xs.take j).length = k ∧ k = j ∧ k ≤ c' ∧ ∀ w, Rd w ao xs → Rd w a' (xs.take j) := by
  obtain ⟨a', k, c', h1, h2, h3, h4, h5⟩ := slice_ij (ao := ao) hl hc (Nat.zero_le j) hj
  rw [cutL_front] at h2 h5
  refine ⟨a', k, c', fun w => ?_, h2, by rw [← h2, List.length_take]; omega, h4, h5⟩
  rw [← h1 w, run_slice_h w 26 ao n c Tryz.underlying26 .i64 (j : Int) (by omega) (by omega), run_slice_lh w 26 ao n c Tryz.underlying26 .i64 .i64 ((0 : Nat) : Int) (j : Int) (by omega) (by omega) (by omega)]
  simp only [Int.toNat_natCast]

/-- An owned slice's address is its block's head. -/
theorem own_at_head {w : World} {base : Nat} {e : TypeId} {size n cap m : Nat} {xs : List Value} {ao : Option Addr} (h : w.ownsRow base e size (.slice ao n cap) m xs) {a : Addr} (ha : ao = some a) : (Value.slice (some a) n cap).ownBlock = some a.block := by
  rcases h.2 with ⟨e, _⟩ | ⟨g, c, cur, e, _⟩
  · cases e; cases ha
  · cases e; cases ha; rfl

/-- A cell in a block that is not turned. -/
theorem Turned.cell {S : Nat → Prop} {w w' : World} (h : Turned S w w') {p : Addr} (hp : p.block < w.heap.size) (hS : ¬ S p.block) : w'.cell? p = w.cell? p :=
  World.cell?_of_block (w := w) (h.block _ hp hS)

theorem Rd.turned {S : Nat → Prop} {w w' : World} {ao : Option Addr} {ss : List Bs} (h : Rd w ao ss) (ht : Turned S w w') (hS : 0 < ss.length → ∀ a, ao = some a → ¬ S a.block) : Rd w' ao ss := by
  intro h0
  obtain ⟨b, off, rfl, hlt, hc⟩ := h h0
  exact ⟨b, off, rfl, Nat.lt_of_lt_of_le hlt ht.size, fun i hi => (ht.cell (p := ⟨b, off + i, none⟩) hlt (show ¬ S b from hS h0 ⟨b, off, none⟩ rfl)).trans (hc i hi)⟩

/-- Two numbers in a block of their own. -/
def PairAt (w : World) (B : Nat) (t : TypeId) (i j : Int) : Prop := w.heap[B]? = some (.cells #[.int .i64 i, .int .i64 j] t (0, 0))

theorem PairAt.lt {w : World} {B : Nat} {t : TypeId} {i j : Int} (h : PairAt w B t i j) : B < w.heap.size := (Array.getElem?_eq_some_iff.1 h).1
theorem PairAt.cells {w : World} {B : Nat} {t : TypeId} {i j : Int} (h : PairAt w B t i j) : w.cell? ⟨B, 0, none⟩ = some (.int .i64 i) ∧ w.cell? ⟨B, 1, none⟩ = some (.int .i64 j) ∧ w.frozen? ⟨B, 0, none⟩ = false ∧ w.frozen? ⟨B, 1, none⟩ = false := by
  unfold PairAt at h
  simp [World.cell?, World.frozen?, h]
theorem PairAt.turned {S : Nat → Prop} {w w' : World} {B : Nat} {t : TypeId} {i j : Int} (h : PairAt w B t i j) (ht : Turned S w w') (hS : ¬ S B) : PairAt w' B t i j := (ht.block B h.lt hS).trans h
theorem PairAt.below {w w' : World} {B : Nat} {t : TypeId} {i j : Int} (h : PairAt w B t i j) (hb : Below w.heap.size w w') : PairAt w' B t i j := (hb.block B h.lt).trans h
theorem PairAt.new (w : World) (t : TypeId) (i j : Int) : PairAt (w.alloc (.cells #[.int .i64 i, .int .i64 j] t)) w.heap.size t i j := by
  unfold PairAt World.alloc
  simp
theorem PairAt.put {w : World} {B : Nat} {t : TypeId} {i j : Int} (h : PairAt w B t i j) (x y : Int) : PairAt ((w.setCell ⟨B, 0, none⟩ (.int .i64 x)).setCell ⟨B, 1, none⟩ (.int .i64 y)) B t x y := by
  unfold PairAt at h ⊢
  simp [World.setCell, Array.getElem?_modify, h]

/-- One thing more behind a row of the call's own, within a region whose order is drawn: and what it turns. -/
theorem stepG_at {α : Type} {ops : Array Oper} {o : Oper} {a : Act} {w : World} {K : Act → World → Prop} {Q : Exit → Act → World → Prop} {X : Prop} (E : Enc α) (e t : TypeId) (bytes : Nat) (z : Value) (hz : z.cells.size = E.size)
    (hinfo : (Tryz.prog.info? e).map (fun i => (i.zero, i.size, i.bytes)) = some (some z, E.size, bytes)) (hu : Tryz.prog.underlying t = some (.slice e)) (hgd : o.guard = none) (s x : Operand)
    (hop : o.op = .call { callee := .builtin .append, args := #[s, x], argTypes := #[t, t] }) (base : Nat) (v : Value) (ss : List α) (y : α) (hs : a.eval s = v) (hown : OwnG E e w base v ss)
    (b : Nat) (hx : a.eval x = .slice (some ⟨b, 0, none⟩) 1 1) (hc : ∀ j u, (E.cells y)[j]? = some u → w.cell? ((⟨b, 0, none⟩ : Addr).add j) = some u) (hlen : (ss.length + 1) * bytes ≤ 140737488355328) (hmax : ss.length + 1 ≤ maxLen) (hb : base ≤ w.heap.size)
    (h : ∀ v' w', OwnG E e w' base v' (ss ++ [y]) → Below base w w' → Moved w v v' → Turned (fun k => v.ownBlock = some k) w w' → K (a.put o.dst v') w') :
    if Region.wanted o (yielded ops a.tmps) = true then Oper.wp Tryz.prog o a w K Q else X := by
  obtain ⟨i0, hi0, hz0, hz1, hz2⟩ := info_parts hinfo
  refine step_append_moved hgd s x t hop base e i0 _ E.size bytes hu hi0 hz0 hz1 hz2 hz E.pos v ss.length (E.all ss) hs hown ⟨b, 0, none⟩ 1 1 (E.cells y) hx (by rw [E.len, Nat.one_mul]) hc (E.one y) hmax hlen hb ?_
  intro v' w' h1 h2 h3
  have ht : Turned (fun k => v.ownBlock = some k) w w' := (Turned.refl _ _).grown h2 (fun k _ e => e)
  refine h v' w' ?_ (OwnG.turn hown hb ht) h3 ht
  unfold OwnG
  rw [List.length_append, E.all_append]
  simpa [Enc.all] using h1

/-- A whole list more behind a row of the call's own, and what it turns. -/
theorem app_list_at {ops : Array Oper} {rest : List Oper} {o : Oper} {a : Act} {w : World} {Q : Exit → Act → World → Prop} (hgd : o.guard = none) (s x : Operand)
    (hop : o.op = .call { callee := .builtin .append, args := #[s, x], argTypes := #[26, 26] }) (base : Nat) (v : Value) (ss xs : List Bs) (ao : Option Addr) (n c : Nat) (hs : a.eval s = v) (hown : Own w base v ss)
    (hx : a.eval x = .slice ao n c) (hr : Rd w ao xs) (hl : xs.length = n) (hlen : ss.length + n ≤ 8796093022208) (hb : base ≤ w.heap.size)
    (h : ∀ v' w', Own w' base v' (ss ++ xs) → Below base w w' → Moved w v v' → Turned (fun k => v.ownBlock = some k) w w' → wpList Tryz.prog ops Q rest (a.put o.dst v') w') :
    wpList Tryz.prog ops Q (o :: rest) a w := by
  obtain ⟨i0, hi0, hz0, hz1, hz2⟩ := info_parts Tryz.info9
  by_cases h0 : 0 < xs.length
  · obtain ⟨b, off, rfl, hlt, hc⟩ := hr h0
    refine wpList_append_moved hgd s x 26 hop base 9 i0 _ 1 16 Tryz.underlying26 hi0 hz0 hz1 hz2 rfl (by decide) v ss.length (ss.map encStr) hs hown ⟨b, off, none⟩ n c (xs.map encStr) hx (by simp [hl]) (by
      intro j u hu
      rw [List.getElem?_map] at hu
      have hj : j < xs.length := by
        rcases Nat.lt_or_ge j xs.length with q | q
        · exact q
        · rw [List.getElem?_eq_none q] at hu; simp at hu
      rw [List.getElem?_eq_getElem hj] at hu
      rw [addr_plus, hc j hj, el_get hj, ← hu]
      rfl) (by intro u hu; obtain ⟨y, _, rfl⟩ := List.mem_map.1 hu; rfl) (by simp only [maxLen]; omega) (by omega) hb ?_
    intro v' w' h1 h2 h3
    have ht : Turned (fun k => v.ownBlock = some k) w w' := (Turned.refl _ _).grown h2 (fun k _ e => e)
    refine h v' w' ?_ (Own.turn hown hb ht) h3 ht
    unfold Own
    rw [List.length_append, List.map_append, hl]
    exact h1
  · obtain rfl : xs = [] := List.eq_nil_of_length_eq_zero (by omega)
    obtain rfl : n = 0 := hl.symm
    obtain ⟨ao2, cap, rfl, hle, _, _⟩ := hown.form
    refine wpList_plain hgd fun K hK => ?_
    have hrun := run_append_none 26 o.type 9 i0 Tryz.underlying26 hi0 ao2 ss.length cap hle ao c w
    unfold Oper.wp
    simp [execOp, hop, resolve, invoke, builtin, hs, hx, hrun, Result.andThen]
    exact hK _ _ (h _ w (by rw [List.append_nil]; exact hown) (Below.refl _ _) (.inl rfl) (Turned.refl _ _))

/-- One text more behind a row of the call's own, and what it turns. -/
theorem app_one_at {ops : Array Oper} {rest : List Oper} {o : Oper} {a : Act} {w : World} {Q : Exit → Act → World → Prop} (hgd : o.guard = none) (s x : Operand)
    (hop : o.op = .call { callee := .builtin .append, args := #[s, x], argTypes := #[26, 26] }) (base : Nat) (v : Value) (ss : List Bs) (y : Bs) (ty : TypeId) (hs : a.eval s = v) (hown : Own w base v ss)
    (hx : a.eval x = .slice (some ⟨w.heap.size, 0, none⟩) 1 1) (hlen : ss.length ≤ 4000000) (hb : base ≤ w.heap.size)
    (h : ∀ v' w', Own w' base v' (ss ++ [y]) → Below base w w' → Moved w v v' → Turned (fun k => v.ownBlock = some k) w w' → wpList Tryz.prog ops Q rest (a.put o.dst v') w') :
    wpList Tryz.prog ops Q (o :: rest) a (w.alloc (.cells #[.string ⟨y.toArray⟩] ty)) := by
  obtain ⟨i0, hi0, hz0, hz1, hz2⟩ := info_parts Tryz.info9
  refine wpList_append_moved hgd s x 26 hop base 9 i0 _ 1 16 Tryz.underlying26 hi0 hz0 hz1 hz2 rfl (by decide) v ss.length (ss.map encStr) hs (hown.below ((Below.refl _ w).alloc (Nat.le_refl _) _)) ⟨w.heap.size, 0, none⟩ 1 1 [encStr y] hx rfl (cell_one_new w _ ty)
    (by simp [Value.oneCell']) (by simp only [maxLen]; omega) (by omega) (by simp; omega) ?_
  intro v' w' h1 h2 h3
  have ha : Turned (fun k => v.ownBlock = some k) w (w.alloc (.cells #[.string ⟨y.toArray⟩] ty)) := (Turned.refl _ _).alloc _
  have ht : Turned (fun k => v.ownBlock = some k) (w.alloc (.cells #[.string ⟨y.toArray⟩] ty)) w' := (Turned.refl _ _).grown h2 (fun k _ e => e)
  refine h v' w' ?_ (Own.turn hown hb (ha.trans ht (fun _ _ q => q))) ?_ (ha.trans ht (fun _ _ q => q))
  · unfold Own
    rw [List.length_append, List.map_append]
    exact h1
  · refine h3.imp id (fun q g hg => ?_)
    have := q g hg
    simp at this
    omega

/-- A whole list of texts more behind a row of the call's own, within a region whose order is drawn. -/
theorem stepL_at {ops : Array Oper} {o : Oper} {a : Act} {w : World} {K : Act → World → Prop} {Q : Exit → Act → World → Prop} {X : Prop} (hgd : o.guard = none) (s x : Operand)
    (hop : o.op = .call { callee := .builtin .append, args := #[s, x], argTypes := #[26, 26] }) (base : Nat) (v : Value) (ss xs : List Bs) (ao : Option Addr) (n c : Nat) (hs : a.eval s = v) (hown : Own w base v ss)
    (hx : a.eval x = .slice ao n c) (hr : Rd w ao xs) (hl : xs.length = n) (hlen : ss.length + n ≤ 8796093022208) (hb : base ≤ w.heap.size)
    (h : ∀ v' w', Own w' base v' (ss ++ xs) → Below base w w' → Moved w v v' → Turned (fun k => v.ownBlock = some k) w w' → K (a.put o.dst v') w') :
    if Region.wanted o (yielded ops a.tmps) = true then Oper.wp Tryz.prog o a w K Q else X := by
  obtain ⟨i0, hi0, hz0, hz1, hz2⟩ := info_parts Tryz.info9
  by_cases h0 : 0 < xs.length
  · obtain ⟨b, off, rfl, hlt, hc⟩ := hr h0
    refine step_append_moved hgd s x 26 hop base 9 i0 _ 1 16 Tryz.underlying26 hi0 hz0 hz1 hz2 rfl (by decide) v ss.length (ss.map encStr) hs hown ⟨b, off, none⟩ n c (xs.map encStr) hx (by simp [hl]) (by
      intro j u hu
      rw [List.getElem?_map] at hu
      have hj : j < xs.length := by
        rcases Nat.lt_or_ge j xs.length with q | q
        · exact q
        · rw [List.getElem?_eq_none q] at hu; simp at hu
      rw [List.getElem?_eq_getElem hj] at hu
      rw [addr_plus, hc j hj, el_get hj, ← hu]
      rfl) (by intro u hu; obtain ⟨y, _, rfl⟩ := List.mem_map.1 hu; rfl) (by simp only [maxLen]; omega) (by omega) hb ?_
    intro v' w' h1 h2 h3
    have ht : Turned (fun k => v.ownBlock = some k) w w' := (Turned.refl _ _).grown h2 (fun k _ e => e)
    refine h v' w' ?_ (Own.turn hown hb ht) h3 ht
    unfold Own
    rw [List.length_append, List.map_append, hl]
    exact h1
  · obtain rfl : xs = [] := List.eq_nil_of_length_eq_zero (by omega)
    obtain rfl : n = 0 := hl.symm
    obtain ⟨ao2, cap, rfl, hle, _, _⟩ := hown.form
    have hw : Region.wanted o (yielded ops a.tmps) = true := by simp [Region.wanted, hgd]
    rw [if_pos hw]
    have hrun := run_append_none 26 o.type 9 i0 Tryz.underlying26 hi0 ao2 ss.length cap hle ao c w
    unfold Oper.wp
    simp [execOp, hop, resolve, invoke, builtin, hs, hx, hrun, Result.andThen]
    exact h _ w (by rw [List.append_nil]; exact hown) (Below.refl _ _) (.inl rfl) (Turned.refl _ _)

theorem bz1 (u : World) (o : Obj) : Below u.heap.size u (u.alloc o) := (Below.refl _ u).alloc (Nat.le_refl _) o
theorem bz2 (u : World) (o o' : Obj) : Below u.heap.size u ((u.alloc o).alloc o') := (bz1 u o).trans ((bz1 (u.alloc o) o').mono (bz1 u o).size)
theorem oz1 (u : World) : Own (u.alloc (.cells #[] 9)) u.heap.size (.slice (some ⟨u.heap.size, 0, none⟩) 0 0) [] := own_zero u _ (Nat.le_refl _)
theorem oz2 (u : World) (o : Obj) : Own ((u.alloc (.cells #[] 9)).alloc o) u.heap.size (.slice (some ⟨u.heap.size, 0, none⟩) 0 0) [] := (oz1 u).below (bz1 _ _)
theorem oz3 (u : World) (o : Obj) : Own ((u.alloc o).alloc (.cells #[] 9)) u.heap.size (.slice (some ⟨u.heap.size + 1, 0, none⟩) 0 0) [] := by
  have := own_zero (u.alloc o) u.heap.size (by simp)
  have e : (u.alloc o).heap.size = u.heap.size + 1 := by simp
  rw [e] at this
  exact this

/-- A row that a step did not turn. -/
theorem Own.stays {S : Nat → Prop} {w w' : World} {base : Nat} {v : Value} {ss : List Bs} (h : Own w base v ss) (ht : Turned S w w') (hS : ∀ g, v.ownBlock = some g → ¬ S g) : Own w' base v ss := ownsRow_turned h ht hS

theorem own_at {w : World} {base g n cap : Nat} {ss : List Bs} (h : Own w base (.slice (some ⟨g, 0, none⟩) n cap) ss) {i : Nat} (hi : i < ss.length) :
    w.cell? ⟨g, i, none⟩ = some (.string ⟨(el ss i).toArray⟩) ∧ w.frozen? ⟨g, i, none⟩ = false := by
  have hn : ss.length = n := own_len h
  subst hn
  have h' : w.ownsRow base 9 1 (.slice (some ⟨g, 0, none⟩) ss.length cap) ss.length (ss.map encStr) := h
  refine ⟨?_, h'.frozenAt _⟩
  rw [h'.cellAt _ (by omega), List.getElem?_map, List.getElem?_eq_getElem hi, el_get hi]
  rfl

theorem own_put {w : World} {base g n cap : Nat} {ss : List Bs} (h : Own w base (.slice (some ⟨g, 0, none⟩) n cap) ss) (i : Nat) (y : Bs) :
    Own (w.setCell ⟨g, i, none⟩ (.string ⟨y.toArray⟩)) base (.slice (some ⟨g, 0, none⟩) n cap) (ss.set i y) := by
  have hn : ss.length = n := own_len h
  subst hn
  have h' : w.ownsRow base 9 1 (.slice (some ⟨g, 0, none⟩) ss.length cap) ss.length (ss.map encStr) := h
  unfold Own
  rw [List.length_set, List.map_set]
  exact (h'.stored i _).1

/-- A list of texts as it is written down. -/
theorem rd_lit (w : World) (ss : List Bs) (t : TypeId) (c : Array Value) (hc : c = (ss.map (fun s => Value.string ⟨s.toArray⟩)).toArray) : Rd (w.alloc (.cells c t)) (some ⟨w.heap.size, 0, none⟩) ss := by
  subst hc
  intro _
  refine ⟨w.heap.size, 0, rfl, by simp, ?_⟩
  intro i hi
  rw [Nat.zero_add, World.cell?_alloc_new]
  simp [hi, el_get hi]

end Go.Proofs.YtdgdckmhmmigkaaGreatDoor
