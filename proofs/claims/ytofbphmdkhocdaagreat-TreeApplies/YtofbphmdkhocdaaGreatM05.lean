/-
  Several texts, laid together.
-/
import Derived.Test.YtofbphmdkhocdaaGreatM04
import Derived.Test.YtofbphmdkhocdaaGreatM03
import Derived.Deep.DeepCutAuto

/-
  Two and four cells in a block of their own; what stands behind a step that turns one block; lists and numbers in memory, pieces of them; a call in a region whose order is drawn. No program but the numbers of types that are handed in.
-/
namespace Go.Proofs.YtofbphmdkhocdaaGreat
open Go.RowKit

/-- Two cells in a block of their own. -/
def Box (w : World) (B : Nat) (t : TypeId) (x y : Value) : Prop := w.heap[B]? = some (.cells #[x, y] t (0, 0))
section
variable {w w' : World} {B : Nat} {t : TypeId} {x y : Value}
theorem Box.lt (h : Box w B t x y) : B < w.heap.size := (Array.getElem?_eq_some_iff.1 h).1
theorem Box.below (h : Box w B t x y) (hb : Below w.heap.size w w') : Box w' B t x y := (hb.block B h.lt).trans h
theorem Box.turned {S : Nat → Prop} (h : Box w B t x y) (ht : Turned S w w') (hS : ¬ S B) : Box w' B t x y := (ht.block B h.lt hS).trans h
theorem Box.cells (h : Box w B t x y) : w.cell? ⟨B, 0, none⟩ = some x ∧ w.cell? ⟨B, 1, none⟩ = some y := by
  unfold Box at h
  simp [World.cell?, h]
theorem Box.thaw (h : Box w B t x y) : w.frozen? ⟨B, 0, none⟩ = false ∧ w.frozen? ⟨B, 1, none⟩ = false := by
  unfold Box at h
  simp [World.frozen?, h]
theorem Box.new (w : World) (t : TypeId) (x y : Value) : Box (w.alloc (.cells #[x, y] t)) w.heap.size t x y := by
  unfold Box World.alloc
  simp
theorem Box.put (h : Box w B t x y) (x' y' : Value) : Box ((w.setCell ⟨B, 0, none⟩ x').setCell ⟨B, 1, none⟩ y') B t x' y' := by
  unfold Box at h ⊢
  simp [World.setCell, Array.getElem?_modify, h]
theorem Box.put0 (h : Box w B t x y) (x' : Value) : Box (w.setCell ⟨B, 0, none⟩ x') B t x' y := by
  unfold Box at h ⊢
  simp [World.setCell, Array.getElem?_modify, h]
end

/-- Four cells in a block of their own. -/
def Box4 (w : World) (B : Nat) (t : TypeId) (x y z v : Value) : Prop := w.heap[B]? = some (.cells #[x, y, z, v] t (0, 0))
section
variable {w w' : World} {B : Nat} {t : TypeId} {x y z v : Value}
theorem Box4.lt (h : Box4 w B t x y z v) : B < w.heap.size := (Array.getElem?_eq_some_iff.1 h).1
theorem Box4.below {K : Nat} (h : Box4 w B t x y z v) (hb : Below K w w') (hK : B < K) : Box4 w' B t x y z v := (hb.block B hK).trans h
theorem Box4.turned {S : Nat → Prop} (h : Box4 w B t x y z v) (ht : Turned S w w') (hS : ¬ S B) : Box4 w' B t x y z v := (ht.block B h.lt hS).trans h
theorem Box4.cells (h : Box4 w B t x y z v) : w.cell? ⟨B, 0, none⟩ = some x ∧ w.cell? ⟨B, 1, none⟩ = some y ∧ w.cell? ⟨B, 2, none⟩ = some z ∧ w.cell? ⟨B, 3, none⟩ = some v := by
  unfold Box4 at h
  simp [World.cell?, h]
theorem Box4.thaw (h : Box4 w B t x y z v) : w.frozen? ⟨B, 0, none⟩ = false ∧ w.frozen? ⟨B, 1, none⟩ = false ∧ w.frozen? ⟨B, 2, none⟩ = false ∧ w.frozen? ⟨B, 3, none⟩ = false := by
  unfold Box4 at h
  simp [World.frozen?, h]
theorem Box4.new (w : World) (t : TypeId) (x y z v : Value) : Box4 (w.alloc (.cells #[x, y, z, v] t)) w.heap.size t x y z v := by
  unfold Box4 World.alloc
  simp
theorem Box4.put1 (h : Box4 w B t x y z v) (y' : Value) : Box4 (w.setCell ⟨B, 1, none⟩ y') B t x y' z v := by
  unfold Box4 at h ⊢
  simp [World.setCell, Array.getElem?_modify, h]
theorem Box4.put2 (h : Box4 w B t x y z v) (z' : Value) : Box4 (w.setCell ⟨B, 2, none⟩ z') B t x y z' v := by
  unfold Box4 at h ⊢
  simp [World.setCell, Array.getElem?_modify, h]
theorem Box4.put3 (h : Box4 w B t x y z v) (v' : Value) : Box4 (w.setCell ⟨B, 3, none⟩ v') B t x y z v' := by
  unfold Box4 at h ⊢
  simp [World.setCell, Array.getElem?_modify, h]
end

/-- Two steps that each turn the row of what is handed on. -/
theorem Turned.chain {w w1 w2 : World} {v v1 : Value} (h : Turned (fun k => v.ownBlock = some k) w w1) (m : Moved w v v1) (k : Turned (fun k => v1.ownBlock = some k) w1 w2) : Turned (fun k => v.ownBlock = some k) w w2 :=
  h.trans k (fun i hi q => by
    rcases m with e | e
    · rw [← e]; exact q
    · have := e i q
      omega)
theorem Moved.refl (w : World) (v : Value) : Moved w v v := .inl rfl
theorem Moved.chain {w w1 : World} {v v1 v2 : Value} (h : Moved w v v1) (hs : w.heap.size ≤ w1.heap.size) (k : Moved w1 v1 v2) : Moved w v v2 := by
  rcases k with e | e
  · rcases h with f | f
    · exact .inl (e.trans f)
    · exact .inr (fun g hg => f g (by rw [← e]; exact hg))
  · exact .inr (fun g hg => Nat.le_trans hs (e g hg))

theorem BAt.turned {S : Nat → Prop} {w w' : World} {a : Option Addr} {n c : Nat} {bs : Bs} (h : BAt w (.slice a n c) bs) (ht : Turned S w w') (hS : 0 < n → ∀ p, a = some p → ¬ S p.block) : BAt w' (.slice a n c) bs := by
  obtain ⟨ao, c', e, h1, h2, h3⟩ := h
  cases e
  exact ⟨a, c, rfl, h1, h2, h3.turned ht hS⟩

theorem turn_at {w : World} {R : Nat} (h : R < w.heap.size) {w' : World} (ht : Turned (fun i => i = R) w w') : Below R w w' := ht.below (Nat.le_of_lt h) (fun k hk q => by have q' : k = R := q; omega)

/-- The program's order of texts. -/
theorem less_eq (x y : Bs) : Op.bytesLess x y = decide (x < y) := by
  induction x generalizing y with
  | nil => cases y <;> simp [Op.bytesLess]
  | cons a x ih =>
    cases y with
    | nil => simp [Op.bytesLess]
    | cons b y =>
      rw [Op.bytesLess, ih y, Bool.eq_iff_iff]
      by_cases h1 : a < b <;> by_cases h2 : a = b <;> by_cases h3 : x < y <;> simp [List.cons_lt_cons_iff, h1, h2, h3]

/-- Numbers of 64 bits. -/
def encU : Enc UInt64 := ⟨fun x => [.int .u64 (x.toNat : Int)], 1, fun _ => rfl, by decide, by intro x u h; simp at h; subst h; rfl⟩

theorem RdG.nums {w : World} {b off : Nat} {xs : List UInt64} (h : RdG encU w (some ⟨b, off, none⟩) xs) {i : Nat} {x : UInt64} (hx : xs[i]? = some x) : b < w.heap.size ∧ w.cell? ⟨b, off + i, none⟩ = some (.int .u64 (x.toNat : Int)) := by
  obtain ⟨b', off', e', hlt, hc⟩ := h (by rcases Nat.lt_or_ge i xs.length with q | q
                                          · omega
                                          · rw [List.getElem?_eq_none q] at hx; cases hx)
  obtain ⟨rfl, rfl⟩ : b = b' ∧ off = off' := by simpa using e'
  have h0 := hc i x hx 0 _ rfl
  exact ⟨hlt, by simpa [encU] using h0⟩

theorem anyE_step {α : Type} {es : List α} {p : α → Bool} {i : Nat} {e : α} (h : es[i]? = some e) (ht : (es.take i).any p = false) (hx : p e = false) : (es.take (i + 1)).any p = false := by
  rw [List.take_add_one, h, List.any_append, ht]
  simp [hx]
theorem anyE_hit {α : Type} {es : List α} {p : α → Bool} {i : Nat} {e : α} (h : es[i]? = some e) (hx : p e = true) : es.any p = true :=
  List.any_eq_true.2 ⟨e, List.mem_of_getElem? h, hx⟩

theorem bdrewN (w : World) (m : Nat) : Below w.heap.size w (w.drewN m) := ⟨rfl, rfl, rfl, Nat.le_refl _, fun _ _ => rfl⟩

set_option maxRecDepth 100000 in
/-- s[:k], of things of any kind. -/
theorem sliceG_h {α : Type} (E : Enc α) (e t bytes : Nat) (z : Value) (hinfo : (Tryz.prog.info? e).map (fun i => (i.zero, i.size, i.bytes)) = some (some z, E.size, bytes)) (hu : Tryz.prog.underlying t = some (.slice e)) (he : Tryz.prog.elem t = e)
    {ao : Option Addr} {n c k : Nat} (hc : n ≤ c) (hk : k ≤ n) :
    ∃ a' c', (∀ w, (Instr.slice t (.slice ao n c) none (some (.int .i64 (k : Int))) none).run Tryz.prog w = .ok (.slice a' k c') w) ∧ k ≤ c' ∧ c' ≤ c ∧ ∀ w (xs : List α), RdG E w ao xs → RdG E w a' (xs.take k) := by
  obtain ⟨i0, hi0, hz0, hz1, hz2⟩ := info_parts hinfo
  refine ⟨if c = 0 then ao else ao.map (·.add 0), c, fun w => ?_, by omega, Nat.le_refl _, ?_⟩
  · rw [run_slice_h w t ao n c (by rw [he]; exact hu) .i64 (k : Int) (by omega) (by omega)]
    have : (sizeOf (Tryz.prog.elem t)).run Tryz.prog w = .ok E.size w := by
      rw [he]
      simp [sizeOf, typeInfo, hi0, hz1]
    rw [this]
    simp only [Result.andThen, sliced, Int.toNat_natCast, Nat.zero_mul, Nat.sub_zero]
  · intro w xs h
    split
    · exact h.take k
    · intro h0
      obtain ⟨b, off, rfl, hlt, hcc⟩ := h (by simp at h0; omega)
      simp only [Option.map_some, addr_plus, Nat.add_zero]
      exact RdG.take (fun _ => ⟨b, off, rfl, hlt, hcc⟩) k h0

theorem three_boxes (w : World) (x y z v x' y' z' v' x'' y'' z'' v'' : Value) (t t' t'' : TypeId) :
    Box4 (((w.alloc (.cells #[x, y, z, v] t)).alloc (.cells #[x', y', z', v'] t')).alloc (.cells #[x'', y'', z'', v''] t'')) w.heap.size t x y z v ∧
    Box4 (((w.alloc (.cells #[x, y, z, v] t)).alloc (.cells #[x', y', z', v'] t')).alloc (.cells #[x'', y'', z'', v''] t'')) (w.heap.size + 1) t' x' y' z' v' ∧
    Box4 (((w.alloc (.cells #[x, y, z, v] t)).alloc (.cells #[x', y', z', v'] t')).alloc (.cells #[x'', y'', z'', v''] t'')) (w.heap.size + 2) t'' x'' y'' z'' v'' := by
  have s1 : (w.alloc (.cells #[x, y, z, v] t)).heap.size = w.heap.size + 1 := by simp
  have s2 : ((w.alloc (.cells #[x, y, z, v] t)).alloc (.cells #[x', y', z', v'] t')).heap.size = w.heap.size + 2 := by simp
  refine ⟨?_, ?_, ?_⟩
  · have h := Box4.new w t x y z v
    exact (h.below (bz1 _ (.cells #[x', y', z', v'] t')) (by rw [s1]; omega)).below (bz1 _ (.cells #[x'', y'', z'', v''] t'')) (by rw [s2]; omega)
  · have h := Box4.new (w.alloc (.cells #[x, y, z, v] t)) t' x' y' z' v'
    rw [s1] at h
    exact h.below (bz1 _ (.cells #[x'', y'', z'', v''] t'')) (by rw [s2]; omega)
  · have h := Box4.new ((w.alloc (.cells #[x, y, z, v] t)).alloc (.cells #[x', y', z', v'] t')) t'' x'' y'' z'' v''
    rw [s2] at h
    exact h

theorem OwnG.rdc {α : Type} {E : Enc α} {e : TypeId} {w : World} {base n cap : Nat} {ao : Option Addr} {xs : List α} (h : OwnG E e w base (.slice ao n cap) xs) : RdG E w ao xs ∧ n ≤ cap := by
  have hn : xs.length = n := own_len h
  obtain ⟨a, c, q, h1, _, r, _⟩ := OwnG.form h
  rw [hn] at q h1
  cases q
  exact ⟨r, h1⟩
theorem lay_four (w : World) (Q : Nat) (a b c d : Value) : Turned (fun i => i = Q) w ((((w.setCell ⟨Q, 0, none⟩ a).setCell ⟨Q, 1, none⟩ b).setCell ⟨Q, 2, none⟩ c).setCell ⟨Q, 3, none⟩ d) :=
  ((((Turned.refl (fun i => i = Q) w).setCell (p := ⟨Q, 0, none⟩) (.inl (show Q = Q from rfl)) a).setCell (p := ⟨Q, 1, none⟩) (.inl (show Q = Q from rfl)) b).setCell (p := ⟨Q, 2, none⟩) (.inl (show Q = Q from rfl)) c).setCell (p := ⟨Q, 3, none⟩) (.inl (show Q = Q from rfl)) d

theorem bz3 (u : World) (o1 o2 o3 : Obj) : Below u.heap.size u (((u.alloc o1).alloc o2).alloc o3) := (bz2 u o1 o2).trans ((bz1 _ o3).mono (bz2 u o1 o2).size)

theorem keepA {w1 u : World} {o : Obj} (h : Hid (Below w1.heap.size w1 u)) : Hid (Below w1.heap.size w1 (u.alloc o)) := h.out.trans ((bz1 u o).mono h.out.size)
theorem keepD {w1 u : World} (h : Hid (Below w1.heap.size w1 u)) : Hid (Below w1.heap.size w1 u.drew) := h.out.drew
theorem keepS {w1 u : World} {C j : Nat} {v : Value} (hC : w1.heap.size + 1 < C) (h : Hid (Below w1.heap.size w1 u)) : Hid (Below w1.heap.size w1 (u.setCell ⟨C, j, none⟩ v)) :=
  h.out.trans ((turned_set (b := C) j v).below h.out.size (fun k hk q => by have q' : k = C := q; omega))

/-- A call of a function that leaves the world as it is, within a region whose order is drawn. -/
theorem step_val {ops : Array Oper} {o : Oper} {a : Act} {w : World} {K : Act → World → Prop} {Q : Exit → Act → World → Prop} {X : Prop} (hg : o.guard = none) (x : Operand) (f : Nat) (ts : Array TypeId)
    (hop : o.op = .call { callee := .value (.func f), args := #[x], argTypes := ts }) (en : ∀ args w, (callFunc f args).run Tryz.prog w = .ok (.enter f args) w) (u v : Value) (hx : a.eval x = u)
    (hc : Calls Tryz.prog f #[u] w fun e w' => e = .returned v ∧ w' = w) (h : K (a.put o.dst v) w) :
    if Region.wanted o (yielded ops a.tmps) = true then Oper.wp Tryz.prog o a w K Q else X := by
  have hw : Region.wanted o (yielded ops a.tmps) = true := by simp [Region.wanted, hg]
  rw [if_pos hw]
  unfold Oper.wp
  have e : (execOp a.eval o).run Tryz.prog w = .ok (.enter f #[u]) w := by
    have hf : a.eval (.func f) = .func (.func f) #[] #[] := rfl
    simp [execOp, hop, resolve, invoke, hx, hf, Deferred.ofValue, en]
  rw [e, Oper.upon_enter]
  refine hc.mono ?_
  rintro e w' ⟨rfl, rfl⟩
  exact h

theorem two_boxes (w : World) (x y z v x' y' z' v' : Value) (t t' : TypeId) :
    Box4 ((w.alloc (.cells #[x, y, z, v] t)).alloc (.cells #[x', y', z', v'] t')).drew w.heap.size t x y z v ∧
    Box4 ((w.alloc (.cells #[x, y, z, v] t)).alloc (.cells #[x', y', z', v'] t')).drew (w.heap.size + 1) t' x' y' z' v' ∧
    Below w.heap.size w ((w.alloc (.cells #[x, y, z, v] t)).alloc (.cells #[x', y', z', v'] t')).drew := by
  have s1 : (w.alloc (.cells #[x, y, z, v] t)).heap.size = w.heap.size + 1 := by simp
  refine ⟨?_, ?_, (bz2 _ _ _).drew⟩
  · exact (Box4.new w t x y z v).below (bz1 _ (.cells #[x', y', z', v'] t')).drew (by rw [s1]; omega)
  · have h := Box4.new (w.alloc (.cells #[x, y, z, v] t)) t' x' y' z' v'
    rw [s1] at h
    exact h

theorem rd_one {α : Type} (E : Enc α) (w : World) (y : α) (t : TypeId) (c : Array Value) (hc : c = (E.cells y).toArray) : RdG E (w.alloc (.cells c t)) (some ⟨w.heap.size, 0, none⟩) [y] := by
  subst hc
  intro _
  refine ⟨w.heap.size, 0, rfl, by simp, ?_⟩
  intro i x hx j u hu
  have hi : i = 0 := by
    rcases Nat.eq_zero_or_pos i with q | q
    · exact q
    · rw [List.getElem?_eq_none (by simp; omega)] at hx; cases hx
  subst hi
  cases hx
  have := cells_new E w y t j u hu
  rw [addr_plus] at this
  rw [Nat.zero_mul, Nat.zero_add]
  exact this

theorem own_new {α : Type} (E : Enc α) (e : TypeId) (w : World) : OwnG E e (w.alloc (.cells #[] e)) w.heap.size (.slice (some ⟨w.heap.size, 0, none⟩) 0 0) [] :=
  World.ownsRow_made w #[] 0 (Nat.le_refl _) (Nat.zero_le _) (by simp)

theorem OwnG.whole {α : Type} {E : Enc α} {e : TypeId} {w : World} {base : Nat} {v : Value} {xs : List α} {n : Nat} (h : OwnG E e w base v xs) (hn : xs.length = n) : ∃ a c, v = .slice a n c ∧ n ≤ c ∧ RdG E w a xs := by
  obtain ⟨a, c, q, h1, _, r, _⟩ := OwnG.form h
  rw [hn] at q h1
  exact ⟨a, c, q, h1, r⟩

theorem ext_data (bs : Bs) (i j : Nat) : ((⟨bs.toArray⟩ : ByteArray).extract i j).data.toList = (bs.drop i).take (j - i) := by
  simp [ByteArray.data_extract, List.extract_eq_take_drop]

/-- The result is laid into its two cells. -/
theorem lay_box {w w3 : World} {b2 : Nat} (hb : Below w.heap.size w w3) (h2 : w.heap.size ≤ b2) (v0 v1 : Value) :
    Below w.heap.size w ((w3.setCell ⟨b2, 0, none⟩ v0).setCell ⟨b2, 1, none⟩ v1) ∧ Turned (fun i => i = b2) w3 ((w3.setCell ⟨b2, 0, none⟩ v0).setCell ⟨b2, 1, none⟩ v1) := by
  have t : Turned (fun i => i = b2) w3 ((w3.setCell ⟨b2, 0, none⟩ v0).setCell ⟨b2, 1, none⟩ v1) :=
    ((Turned.refl (fun i => i = b2) w3).setCell (p := ⟨b2, 0, none⟩) (.inl (show b2 = b2 from rfl)) v0).setCell (p := ⟨b2, 1, none⟩) (.inl (show b2 = b2 from rfl)) v1
  exact ⟨hb.trans (t.below hb.size (fun i hi q => by have q' : i = b2 := q; omega)), t⟩

/-- A row in new memory. -/
def NewRow (w : World) (pa : Option Addr) (n : Nat) : Prop := 0 < n → ∀ p, pa = some p → w.heap.size ≤ p.block
theorem NewRow.none (w : World) (n : Nat) : NewRow w none n := fun _ _ h => by cases h
theorem OwnG.newRow {α : Type} {E : Enc α} {e : TypeId} {w w' : World} {B n c : Nat} {la : Option Addr} {xs : List α} (h : OwnG E e w' B (.slice la n c) xs) (hB : w.heap.size ≤ B) : NewRow w la n := by
  intro h0 p hp
  obtain ⟨a1, c1, e1, _, _, _, h4⟩ := OwnG.form h
  simp only [Value.slice.injEq] at e1
  obtain ⟨g, eg⟩ := h4 (by omega)
  have e2 : la = some ⟨g, 0, Option.none⟩ := e1.1.trans eg
  have hl := (h.lt g (by rw [e2]; rfl)).1
  rw [e2] at hp
  cases hp
  exact Nat.le_trans hB hl

end Go.Proofs.YtofbphmdkhocdaaGreat

/-
  Trees and commits as bytes, without a program: numbers as bytes and back, what makes a tree, what makes a commit, their bytes, and how bytes are read; what is read is the one thing that was written. No program.
-/
namespace Go.Proofs.YtofbphmdkhocdaaGreat
open Go.RowKit

/-- A file of a tree. -/
abbrev En := Bs × UInt64

/-- One entry may stand ahead of another. -/
def Ahead (a b : En) : Prop := a.1 < b.1 ∧ under b.1 a.1 = false
def decAhead (a b : En) : Decidable (Ahead a b) := inferInstanceAs (Decidable (a.1 < b.1 ∧ under b.1 a.1 = false))

/-- Entries that make a tree, as far as their order goes. -/
def Tr (es : List En) : Prop := es.Pairwise Ahead
def decTr (es : List En) : Decidable (Tr es) :=
  haveI : DecidableRel Ahead := decAhead
  inferInstanceAs (Decidable (es.Pairwise Ahead))

theorem app_not_lt : ∀ (d t : Bs), ¬ (d ++ t < d)
  | [], t => by simp
  | x :: d, t => by
    intro h
    rw [List.cons_append, List.cons_lt_cons_iff] at h
    rcases h with h | ⟨_, h⟩
    · exact UInt8.lt_irrefl _ h
    · exact app_not_lt d t h

/-- What is under a text is not less. -/
theorem under_le {p d : Bs} (h : under p d = true) : ¬ p < d := by
  simp only [under, Bool.or_eq_true, beq_iff_eq, List.isPrefixOf_iff_prefix] at h
  rcases h with rfl | ⟨u, rfl⟩
  · exact List.lt_irrefl _
  · rw [List.append_assoc]
    exact app_not_lt d _

/-- May a path stand behind entries? -/
def fits (p : Bs) (es : List En) : Bool := (match es.getLast? with | none => true | some e => decide (e.1 < p)) && !(es.any (fun e => under p e.1))

theorem fits_iff {es : List En} {x : En} (h : Tr es) : fits x.1 es = true ↔ Tr (es ++ [x]) := by
  have hp : Tr (es ++ [x]) ↔ ∀ a ∈ es, Ahead a x := by
    unfold Tr
    rw [List.pairwise_append]
    simp [show es.Pairwise Ahead from h]
  rw [hp]
  unfold fits
  rcases List.eq_nil_or_concat es with rfl | ⟨t, y, rfl⟩
  · simp
  · rw [List.concat_eq_append] at h ⊢
    rw [List.getLast?_concat]
    simp only [Bool.and_eq_true, decide_eq_true_eq, Bool.not_eq_true', List.any_eq_false]
    constructor
    · rintro ⟨h1, h2⟩ a ha
      refine ⟨?_, by simpa using h2 a ha⟩
      rcases List.mem_append.1 ha with q | q
      · have := (List.pairwise_append.1 h).2.2 a q y (by simp)
        exact List.lt_trans this.1 h1
      · have : a = y := by simpa using q
        rw [this]; exact h1
    · intro hq
      exact ⟨(hq y (by simp)).1, fun a ha => by simpa using (hq a ha).2⟩

/-- What is wrong with a list of entries. -/
def ctree (es : List En) : Int := if 64 < es.length then 4 else if (es.all fun e => isPath e.1) = false then 2 else @ite Int (Tr es) (decTr es) 0 12

theorem ctree_ok {es : List En} (h : ctree es = 0) : es.length ≤ 64 ∧ (es.all fun e => isPath e.1) = true ∧ Tr es := by
  unfold ctree at h
  split at h
  · cases h
  · split at h
    · cases h
    · split at h
      · rename_i h1 h2 h3
        exact ⟨by omega, by simpa using h2, h3⟩
      · cases h
theorem ctree_mk {es : List En} (h1 : es.length ≤ 64) (h2 : (es.all fun e => isPath e.1) = true) (h3 : Tr es) : ctree es = 0 := by
  unfold ctree
  rw [if_neg (by omega), if_neg (by rw [h2]; decide), if_pos h3]

theorem path_short {l : Bs} (h : isPath l = true) : l.length ≤ 102 := by
  rw [← refIs_eq, refIs] at h
  simp only [Bool.and_eq_true, decide_eq_true_eq] at h
  exact h.1

/-- The bytes of an entry, of a tree. -/
def entB (e : En) : Bs := UInt8.ofNat e.1.length :: (e.1 ++ b8 e.2)
def treeB (es : List En) : Bs := es.flatMap entB
def ftree (es : List En) : Bs × Int := if ctree es = 0 then (treeB es, 0) else ([], ctree es)

theorem entB_len (e : En) : (entB e).length = e.1.length + 9 := by simp [entB, b8_len]

/-- Paths that a byte can count. -/
def Sm (es : List En) : Prop := ∀ e ∈ es, e.1.length ≤ 255
theorem ctree_sm {es : List En} (h : ctree es = 0) : Sm es := by
  intro e he
  have := (ctree_ok h).2.1
  rw [List.all_eq_true] at this
  have := path_short (this e he)
  omega

/-- One entry off bytes. -/
def one : Bs → Option (En × Bs)
  | [] => none
  | n :: t => if t.length < n.toNat + 8 then none else some ((t.take n.toNat, UInt64.ofNat (val ((t.drop n.toNat).take 8))), t.drop (n.toNat + 8))

theorem one_ent {e : En} (h : e.1.length ≤ 255) (r : Bs) : one (entB e ++ r) = some (e, r) := by
  have hn : (UInt8.ofNat e.1.length).toNat = e.1.length := by rw [UInt8.toNat_ofNat']; omega
  obtain ⟨p, b⟩ := e
  simp only at hn h
  show one (UInt8.ofNat p.length :: ((p ++ b8 b) ++ r)) = _
  have l8 := b8_len b
  simp only [one]
  rw [hn, if_neg (by simp [l8]), List.append_assoc, List.take_left, List.drop_left]
  have e1 : (b8 b ++ r).take 8 = b8 b := by rw [← l8, List.take_left]
  have e2 : (p ++ (b8 b ++ r)).drop (p.length + 8) = r := by
    rw [← List.append_assoc]
    have : p.length + 8 = (p ++ b8 b).length := by rw [List.length_append, l8]
    rw [this, List.drop_left]
  rw [e1, e2, ofNat_b8]

theorem one_some {b r : Bs} {e : En} (h : one b = some (e, r)) : b = entB e ++ r ∧ e.1.length ≤ 255 := by
  cases b with
  | nil => cases h
  | cons n t =>
    simp only [one] at h
    split at h
    · cases h
    · rename_i hl
      have hn := n.toNat_lt
      simp only [Option.some.injEq, Prod.mk.injEq] at h
      obtain ⟨rfl, rfl⟩ := h
      have hl1 : (t.take n.toNat).length = n.toNat := by rw [List.length_take]; omega
      refine ⟨?_, by show (t.take n.toNat).length ≤ 255; omega⟩
      show n :: t = UInt8.ofNat (t.take n.toNat).length :: ((t.take n.toNat ++ b8 (UInt64.ofNat (val ((t.drop n.toNat).take 8)))) ++ t.drop (n.toNat + 8))
      rw [hl1, b8_val (by rw [List.length_take, List.length_drop]; omega), List.append_assoc, ← List.drop_drop, List.take_append_drop, List.take_append_drop]
      congr 1
      apply UInt8.toNat_inj.1
      rw [UInt8.toNat_ofNat']
      omega

theorem tree_pre : ∀ (es es' : List En) (r : Bs), Sm es → Sm es' → treeB es' = treeB es ++ r → ∃ t, es' = es ++ t ∧ treeB t = r
  | [], es', r, _, _, h => ⟨es', rfl, h⟩
  | e :: es, [], r, _, _, h => by simp [treeB, entB] at h
  | e :: es, e' :: es', r, h1, h2, h => by
    have h3 : entB e' ++ treeB es' = entB e ++ (treeB es ++ r) := by
      simpa [treeB] using h
    have k1 := one_ent (h2 e' (by simp)) (treeB es')
    rw [h3, one_ent (h1 e (by simp))] at k1
    simp only [Option.some.injEq, Prod.mk.injEq] at k1
    obtain ⟨rfl, k2⟩ := k1
    obtain ⟨t, rfl, ht⟩ := tree_pre es es' r (fun x hx => h1 x (by simp [hx])) (fun x hx => h2 x (by simp [hx])) k2.symm
    exact ⟨t, rfl, ht⟩

theorem treeB_snoc (es : List En) (e : En) : treeB (es ++ [e]) = treeB es ++ entB e := by simp [treeB]
theorem Sm.snoc {es : List En} {e : En} (h : Sm es) (k : e.1.length ≤ 255) : Sm (es ++ [e]) := by
  intro x hx
  rcases List.mem_append.1 hx with q | q
  · exact h x q
  · have : x = e := by simpa using q
    rw [this]; exact k

/-- What bytes are read as. -/
def RT (b : Bs) (es : List En) (e : Int) : Prop := (e = 0 ∧ ctree es = 0 ∧ treeB es = b) ∨ (e = 9 ∧ es = [] ∧ ∀ es', ctree es' = 0 → treeB es' ≠ b)

theorem RT.uniq {b : Bs} {es es' : List En} {e e' : Int} (h : RT b es e) (k : RT b es' e') : es = es' ∧ e = e' := by
  rcases h with ⟨rfl, h1, h2⟩ | ⟨rfl, rfl, h1⟩
  · rcases k with ⟨rfl, k1, k2⟩ | ⟨rfl, rfl, k1⟩
    · obtain ⟨t, rfl, ht⟩ := tree_pre es es' [] (ctree_sm h1) (ctree_sm k1) (by rw [k2, h2, List.append_nil])
      cases t with
      | nil => simp
      | cons x t => simp [treeB, entB] at ht
    · exact absurd h2 (k1 es h1)
  · rcases k with ⟨rfl, k1, k2⟩ | ⟨rfl, rfl, k1⟩
    · exact absurd k2 (h1 es' k1)
    · exact ⟨rfl, rfl⟩

theorem rt_long {b r : Bs} {es : List En} (h1 : Sm es) (h2 : 64 < es.length) (h3 : b = treeB es ++ r) : RT b [] 9 := by
  refine .inr ⟨rfl, rfl, fun es' k1 k2 => ?_⟩
  obtain ⟨t, rfl, _⟩ := tree_pre es es' r h1 (ctree_sm k1) (by rw [k2, h3])
  have := (ctree_ok k1).1
  simp at this
  omega
theorem rt_none {b r : Bs} {es : List En} (h1 : Sm es) (h3 : b = treeB es ++ r) (h4 : r ≠ []) (h5 : one r = none) : RT b [] 9 := by
  refine .inr ⟨rfl, rfl, fun es' k1 k2 => ?_⟩
  obtain ⟨t, rfl, ht⟩ := tree_pre es es' r h1 (ctree_sm k1) (by rw [k2, h3])
  cases t with
  | nil => exact h4 (by rw [← ht]; rfl)
  | cons x t =>
    have := one_ent (ctree_sm k1 x (by simp)) (treeB t)
    rw [show entB x ++ treeB t = treeB (x :: t) by simp [treeB], ht, h5] at this
    cases this
theorem rt_bad {b : Bs} {es : List En} (h1 : Sm es) (h3 : treeB es = b) (h4 : ctree es ≠ 0) : RT b [] 9 := by
  refine .inr ⟨rfl, rfl, fun es' k1 k2 => ?_⟩
  obtain ⟨t, rfl, ht⟩ := tree_pre es es' [] h1 (ctree_sm k1) (by rw [k2, h3, List.append_nil])
  cases t with
  | nil => exact h4 (by simpa using k1)
  | cons x t => simp [treeB, entB] at ht

theorem ftree_rt {es : List En} (h : (ftree es).2 = 0) : RT (ftree es).1 es 0 := by
  unfold ftree at h ⊢
  split at h
  · rename_i q
    rw [if_pos q]
    exact .inl ⟨rfl, q, rfl⟩
  · rename_i q
    exact absurd h q
theorem RT.back {b : Bs} {es : List En} (h : RT b es 0) : ftree es = (b, 0) := by
  rcases h with ⟨_, h1, h2⟩ | ⟨h, _⟩
  · unfold ftree
    rw [if_pos h1, h2]
  · cases h

/-- A commit. -/
structure Cm where
  tree : UInt64
  ps : List UInt64
  date : Int
  note : Bs

/-- A date as eight bytes hold it, and back. -/
def dw (d : Int) : UInt64 := UInt64.ofNat (d % 18446744073709551616).toNat
def sgn (v : Nat) : Int := if v < 9223372036854775808 then (v : Int) else (v : Int) - 18446744073709551616

theorem dw_toNat (d : Int) : ((dw d).toNat : Int) = d % 18446744073709551616 := by
  unfold dw
  rw [UInt64.toNat_ofNat']
  omega
theorem dw_sgn {v : Nat} (h : v < 18446744073709551616) : dw (sgn v) = UInt64.ofNat v := by
  unfold dw sgn
  congr 1
  split <;> omega
theorem sgn_dw {d : Int} (h0 : 0 ≤ d) (h1 : d ≤ 1099511627776) : sgn (val (b8 (dw d))) = d := by
  have := dw_toNat d
  rw [val_b8]
  unfold sgn
  split <;> omega

def zcm : Cm := ⟨0, [], 0, []⟩

/-- What is wrong with a commit. -/
def ccom (c : Cm) : Int := if 8 < c.ps.length ∨ 64 < c.note.length then 4 else if ¬ c.ps.Nodup then 6 else if c.date < 0 ∨ 1099511627776 < c.date then 3 else 0

theorem ccom_ok {c : Cm} (h : ccom c = 0) : c.ps.length ≤ 8 ∧ c.note.length ≤ 64 ∧ c.ps.Nodup ∧ 0 ≤ c.date ∧ c.date ≤ 1099511627776 := by
  unfold ccom at h
  split at h
  · cases h
  · split at h
    · cases h
    · split at h
      · cases h
      · rename_i h1 h2 h3
        exact ⟨by omega, by omega, by simpa using h2, by omega, by omega⟩

/-- The bytes of a commit. -/
def psB (ps : List UInt64) : Bs := ps.flatMap b8
def comB (c : Cm) : Bs := b8 c.tree ++ (UInt8.ofNat c.ps.length :: (psB c.ps ++ (b8 (dw c.date) ++ (UInt8.ofNat c.note.length :: c.note))))
def fcom (c : Cm) : Bs × Int := if ccom c = 0 then (comB c, 0) else ([], ccom c)

theorem psB_snoc (ps : List UInt64) (x : UInt64) : psB (ps ++ [x]) = psB ps ++ b8 x := by simp [psB]
theorem psB_len : ∀ ps : List UInt64, (psB ps).length = 8 * ps.length
  | [] => rfl
  | x :: t => by
    have := psB_len t
    simp only [psB, List.flatMap_cons, List.length_append, b8_len, List.length_cons] at this ⊢
    omega

/-- A reader: what is left, and whether it was too short. -/
abbrev Rs := Bs × Bool
def rtake (k : Nat) (r : Rs) : Bs × Rs := if r.1.length < k then ([], ([], true)) else (r.1.take k, (r.1.drop k, r.2))
def rnum (r : Rs) : Nat × Rs := (val (rtake 8 r).1, (rtake 8 r).2)
def rcnt (r : Rs) : Nat × Rs := (val (rtake 1 r).1, (rtake 1 r).2)
def rtxt (r : Rs) : Bs × Rs := rtake (rcnt r).1 (rcnt r).2
def rnums : Nat → Rs → List UInt64 × Rs
  | 0, r => ([], r)
  | k + 1, r => ((rnums k r).1 ++ [UInt64.ofNat (rnum (rnums k r).2).1], (rnum (rnums k r).2).2)
def pcom (b : Bs) : Cm × Rs :=
  (⟨UInt64.ofNat (rnum (b, false)).1, (rnums (rcnt (rnum (b, false)).2).1 (rcnt (rnum (b, false)).2).2).1, sgn (rnum (rnums (rcnt (rnum (b, false)).2).1 (rcnt (rnum (b, false)).2).2).2).1,
      (rtxt (rnum (rnums (rcnt (rnum (b, false)).2).1 (rcnt (rnum (b, false)).2).2).2).2).1⟩,
    (rtxt (rnum (rnums (rcnt (rnum (b, false)).2).1 (rcnt (rnum (b, false)).2).2).2).2).2)

theorem rtake_len (k : Nat) (r : Rs) : (rtake k r).1.length ≤ k := by
  unfold rtake
  split
  · simp
  · rw [List.length_take]; omega
theorem rnum_lt (r : Rs) : (rnum r).1 < 18446744073709551616 := val_8 (rtake_len 8 r)
theorem rcnt_le (r : Rs) : (rcnt r).1 ≤ 255 := val_1 (rtake_len 1 r)
theorem rtxt_len (r : Rs) : (rtxt r).1.length ≤ 255 := Nat.le_trans (rtake_len _ _) (rcnt_le r)
theorem rnums_len : ∀ (k : Nat) (r : Rs), (rnums k r).1.length = k
  | 0, _ => rfl
  | k + 1, r => by simp [rnums, rnums_len k r]

theorem rtake_app {a t : Bs} {k : Nat} (s : Bool) (h : a.length = k) : rtake k (a ++ t, s) = (a, (t, s)) := by
  subst h
  unfold rtake
  rw [if_neg (by simp)]
  simp
theorem rnum_app (x : UInt64) (t : Bs) (s : Bool) : rnum (b8 x ++ t, s) = (x.toNat, (t, s)) := by
  unfold rnum
  rw [rtake_app s (b8_len x), val_b8]
theorem rcnt_app (n : Nat) (hn : n ≤ 255) (t : Bs) (s : Bool) : rcnt (UInt8.ofNat n :: t, s) = (n, (t, s)) := by
  have := rtake_app (a := [UInt8.ofNat n]) (t := t) (k := 1) s rfl
  rw [show [UInt8.ofNat n] ++ t = UInt8.ofNat n :: t from rfl] at this
  unfold rcnt
  rw [this]
  have e : (UInt8.ofNat n).toNat = n := by rw [UInt8.toNat_ofNat']; omega
  simp [val, e]
theorem rnums_app : ∀ (n : Nat) (ps : List UInt64) (t : Bs) (s : Bool), ps.length = n → rnums n (psB ps ++ t, s) = (ps, (t, s))
  | 0, ps, t, s, h => by rw [List.eq_nil_of_length_eq_zero h]; rfl
  | n + 1, ps, t, s, h => by
    have hne : ps ≠ [] := by intro e; rw [e] at h; simp at h
    obtain ⟨q, x, rfl⟩ : ∃ q x, ps = q ++ [x] := ⟨ps.dropLast, ps.getLast hne, (List.dropLast_concat_getLast hne).symm⟩
    have ih := rnums_app n q (b8 x ++ t) s (by simpa using h)
    rw [psB_snoc, List.append_assoc, rnums, ih]
    simp only
    rw [rnum_app]
    simp

theorem pcom_app {c : Cm} (h : ccom c = 0) : pcom (comB c) = (c, ([], false)) := by
  obtain ⟨h1, h2, _, h4, h5⟩ := ccom_ok h
  have e1 : rnum (comB c, false) = (c.tree.toNat, (UInt8.ofNat c.ps.length :: (psB c.ps ++ (b8 (dw c.date) ++ (UInt8.ofNat c.note.length :: c.note))), false)) := rnum_app _ _ _
  have e2 := rcnt_app c.ps.length (by omega) (psB c.ps ++ (b8 (dw c.date) ++ (UInt8.ofNat c.note.length :: c.note))) false
  have e3 := rnums_app _ c.ps (b8 (dw c.date) ++ (UInt8.ofNat c.note.length :: c.note)) false rfl
  have e4 := rnum_app (dw c.date) (UInt8.ofNat c.note.length :: c.note) false
  have e5 : rtxt (UInt8.ofNat c.note.length :: c.note, false) = (c.note, ([], false)) := by
    unfold rtxt
    rw [rcnt_app _ (by omega)]
    have := rtake_app (a := c.note) (t := []) false rfl
    rw [List.append_nil] at this
    exact this
  have e6 := sgn_dw h4 h5
  rw [val_b8] at e6
  unfold pcom
  rw [e1, e2, e3, e4, e5]
  simp [e6]

theorem rtake_snd {k : Nat} {r : Rs} (h : (rtake k r).2.2 = false) : r.2 = false ∧ r.1 = (rtake k r).1 ++ (rtake k r).2.1 ∧ (rtake k r).1.length = k := by
  unfold rtake at h ⊢
  split at h
  · cases h
  · rename_i q
    rw [if_neg q]
    exact ⟨h, by simp, by simp; omega⟩
theorem rnum_snd {r : Rs} (h : (rnum r).2.2 = false) : r.2 = false ∧ r.1 = b8 (UInt64.ofNat (rnum r).1) ++ (rnum r).2.1 := by
  obtain ⟨h1, h2, h3⟩ := rtake_snd (k := 8) (r := r) h
  refine ⟨h1, ?_⟩
  unfold rnum
  simp only
  rw [b8_val h3]
  exact h2
theorem rcnt_snd {r : Rs} (h : (rcnt r).2.2 = false) : r.2 = false ∧ r.1 = UInt8.ofNat (rcnt r).1 :: (rcnt r).2.1 := by
  obtain ⟨h1, h2, h3⟩ := rtake_snd (k := 1) (r := r) h
  refine ⟨h1, ?_⟩
  unfold rcnt
  simp only
  obtain ⟨x, hx⟩ := List.length_eq_one_iff.1 h3
  rw [hx] at h2 ⊢
  rw [h2]
  have : UInt8.ofNat (val [x]) = x := by simp [val]
  rw [this]
  rfl
theorem rnums_snd : ∀ {k : Nat} {r : Rs}, (rnums k r).2.2 = false → r.2 = false ∧ r.1 = psB (rnums k r).1 ++ (rnums k r).2.1
  | 0, r, h => ⟨h, rfl⟩
  | k + 1, r, h => by
    obtain ⟨h1, h2⟩ := rnum_snd (r := (rnums k r).2) h
    obtain ⟨h3, h4⟩ := rnums_snd h1
    refine ⟨h3, ?_⟩
    rw [h4, h2]
    simp only [rnums]
    rw [psB_snoc, List.append_assoc]

theorem pcom_snd {b : Bs} (h : (pcom b).2 = ([], false)) : comB (pcom b).1 = b := by
  obtain ⟨R1, e1⟩ : ∃ R1, rnum (b, false) = R1 := ⟨_, rfl⟩
  obtain ⟨R2, e2⟩ : ∃ R2, rcnt R1.2 = R2 := ⟨_, rfl⟩
  obtain ⟨R3, e3⟩ : ∃ R3, rnums R2.1 R2.2 = R3 := ⟨_, rfl⟩
  obtain ⟨R4, e4⟩ : ∃ R4, rnum R3.2 = R4 := ⟨_, rfl⟩
  obtain ⟨R5, e5⟩ : ∃ R5, rtxt R4.2 = R5 := ⟨_, rfl⟩
  have hp : pcom b = (⟨UInt64.ofNat R1.1, R3.1, sgn R4.1, R5.1⟩, R5.2) := by
    unfold pcom
    rw [e1, e2, e3, e4, e5]
  rw [hp] at h ⊢
  simp only at h
  have k5 := rtake_snd (k := (rcnt R4.2).1) (r := (rcnt R4.2).2) (by show (rtxt R4.2).2.2 = false; rw [e5, h])
  have k5' : (rcnt R4.2).2.1 = R5.1 := by
    have := k5.2.1
    rw [show rtake (rcnt R4.2).1 (rcnt R4.2).2 = R5 from e5, h, List.append_nil] at this
    exact this
  have k5l : R5.1.length = (rcnt R4.2).1 := by
    have := k5.2.2
    rw [show rtake (rcnt R4.2).1 (rcnt R4.2).2 = R5 from e5] at this
    exact this
  have k4c := rcnt_snd k5.1
  have k4 := rnum_snd (r := R3.2) (by rw [e4]; exact k4c.1)
  have k3 := rnums_snd (k := R2.1) (r := R2.2) (by rw [e3]; exact k4.1)
  have k2 := rcnt_snd (r := R1.2) (by rw [e2]; exact k3.1)
  have k1 := rnum_snd (r := (b, false)) (by rw [e1]; exact k2.1)
  have l3 : R3.1.length = R2.1 := by rw [← e3]; exact rnums_len _ _
  have hd : dw (sgn R4.1) = UInt64.ofNat R4.1 := dw_sgn (by rw [← e4]; exact rnum_lt _)
  rw [e4, k4c.2, k5', ← k5l] at k4
  rw [e3, k4.2] at k3
  rw [e2, k3.2] at k2
  rw [e1, k2.2] at k1
  show b8 (UInt64.ofNat R1.1) ++ (UInt8.ofNat R3.1.length :: (psB R3.1 ++ (b8 (dw (sgn R4.1)) ++ (UInt8.ofNat R5.1.length :: R5.1)))) = b
  rw [l3, hd]
  exact k1.2.symm

/-- What bytes are read as. -/
def RC (b : Bs) (c : Cm) (e : Int) : Prop := (e = 0 ∧ ccom c = 0 ∧ comB c = b) ∨ (e = 9 ∧ c = zcm ∧ ∀ c', ccom c' = 0 → comB c' ≠ b)

theorem com_inj {c c' : Cm} (h : ccom c = 0) (h' : ccom c' = 0) (he : comB c = comB c') : c = c' := by
  have k := pcom_app h
  rw [he, pcom_app h'] at k
  simpa using k.symm

theorem RC.uniq {b : Bs} {c c' : Cm} {e e' : Int} (h : RC b c e) (k : RC b c' e') : c = c' ∧ e = e' := by
  rcases h with ⟨rfl, h1, h2⟩ | ⟨rfl, rfl, h1⟩
  · rcases k with ⟨rfl, k1, k2⟩ | ⟨rfl, rfl, k1⟩
    · exact ⟨com_inj h1 k1 (h2.trans k2.symm), rfl⟩
    · exact absurd h2 (k1 c h1)
  · rcases k with ⟨rfl, k1, k2⟩ | ⟨rfl, rfl, k1⟩
    · exact absurd k2 (h1 c' k1)
    · exact ⟨rfl, rfl⟩

theorem rc_good {b : Bs} (h : (pcom b).2 = ([], false)) (k : ccom (pcom b).1 = 0) : RC b (pcom b).1 0 := .inl ⟨rfl, k, pcom_snd h⟩
theorem rc_bad {b : Bs} (h : (pcom b).2 ≠ ([], false) ∨ ccom (pcom b).1 ≠ 0) : RC b zcm 9 := by
  refine .inr ⟨rfl, rfl, fun c' k1 k2 => ?_⟩
  have := pcom_app k1
  rw [k2] at this
  rw [this] at h
  rcases h with h | h
  · exact h rfl
  · exact h k1

theorem fcom_rc {c : Cm} (h : (fcom c).2 = 0) : RC (fcom c).1 c 0 := by
  unfold fcom at h ⊢
  split at h
  · rename_i q
    rw [if_pos q]
    exact .inl ⟨rfl, q, rfl⟩
  · rename_i q
    exact absurd h q
theorem RC.back {b : Bs} {c : Cm} (h : RC b c 0) : fcom c = (b, 0) := by
  rcases h with ⟨_, h1, h2⟩ | ⟨h, _⟩
  · unfold fcom
    rw [if_pos h1, h2]
  · cases h

/-- The document's way of reading a commit of n parents. -/
def rpar (s : Bs) (i : Nat) : UInt64 := UInt64.ofNat (val ((s.drop (9 + 8 * i)).take 8))
def rcom (s : Bs) (n : Nat) : Cm := ⟨UInt64.ofNat (val (s.take 8)), (List.range n).map (rpar s), sgn (val ((s.drop (9 + 8 * n)).take 8)), s.drop (18 + 8 * n)⟩

theorem psB_drop : ∀ (ps : List UInt64) (i : Nat), (psB ps).drop (8 * i) = psB (ps.drop i)
  | ps, 0 => by simp
  | [], i + 1 => by simp [psB]
  | x :: t, i + 1 => by
    have := psB_drop t i
    rw [show 8 * (i + 1) = 8 + 8 * i by omega, ← List.drop_drop]
    show List.drop (8 * i) (List.drop 8 (b8 x ++ psB t)) = psB (t.drop i)
    have e : (b8 x ++ psB t).drop 8 = psB t := by
      have l := b8_len x
      rw [← l, List.drop_left]
    rw [e, this]

theorem com_read {c : Cm} (h : ccom c = 0) : rcom (comB c) c.ps.length = c ∧ (comB c).length = 18 + 8 * c.ps.length + c.note.length ∧ (comB c)[8]? = some (UInt8.ofNat c.ps.length) := by
  obtain ⟨h1, h2, _, h4, h5⟩ := ccom_ok h
  have lb := b8_len c.tree
  have ld := b8_len (dw c.date)
  have lp := psB_len c.ps
  have t8 : (comB c).take 8 = b8 c.tree := by unfold comB; rw [← lb, List.take_left]
  have d8 : (comB c).drop 8 = UInt8.ofNat c.ps.length :: (psB c.ps ++ (b8 (dw c.date) ++ (UInt8.ofNat c.note.length :: c.note))) := by unfold comB; rw [← lb, List.drop_left]
  have d9 : (comB c).drop 9 = psB c.ps ++ (b8 (dw c.date) ++ (UInt8.ofNat c.note.length :: c.note)) := by
    rw [show 9 = 8 + 1 from rfl, ← List.drop_drop, d8]; rfl
  have dn : (comB c).drop (9 + 8 * c.ps.length) = b8 (dw c.date) ++ (UInt8.ofNat c.note.length :: c.note) := by
    rw [← List.drop_drop, d9, ← lp, List.drop_left]
  have dq : (comB c).drop (18 + 8 * c.ps.length) = c.note := by
    rw [show 18 + 8 * c.ps.length = (9 + 8 * c.ps.length) + (8 + 1) by omega, ← List.drop_drop, dn, ← List.drop_drop]
    have : (b8 (dw c.date) ++ (UInt8.ofNat c.note.length :: c.note)).drop 8 = UInt8.ofNat c.note.length :: c.note := by rw [← ld, List.drop_left]
    rw [this]; rfl
  refine ⟨?_, ?_, ?_⟩
  · obtain ⟨ct, cp, cd, cn⟩ := c
    simp only at *
    unfold rcom
    rw [t8, dn, dq, ofNat_b8]
    have e1 : (b8 (dw cd) ++ (UInt8.ofNat cn.length :: cn)).take 8 = b8 (dw cd) := by rw [← ld, List.take_left]
    rw [e1, sgn_dw h4 h5]
    congr 1
    apply List.ext_getElem
    · simp
    · intro i hi hi'
      simp only [List.getElem_map, List.getElem_range]
      unfold rpar
      rw [← List.drop_drop, d9, List.drop_append_of_le_length (by rw [lp]; omega), psB_drop, List.drop_eq_getElem_cons hi']
      have e2 : ∀ t : Bs, (psB (cp[i] :: cp.drop (i + 1)) ++ t).take 8 = b8 cp[i] := by
        intro t
        show ((b8 cp[i] ++ psB (cp.drop (i + 1))) ++ t).take 8 = _
        rw [List.append_assoc, ← b8_len cp[i], List.take_left]
      rw [e2, ofNat_b8]
  · simp [comB, lb, ld, lp]; omega
  · have := congrArg (fun l => l[0]?) d8
    simpa [List.getElem?_drop] using this

/-- The document's reading: by the count that stands there, held against what it writes. -/
theorem rc_ref {s : Bs} {n : Nat} (h : fcom (rcom s n) = (s, 0)) : RC s (rcom s n) 0 := by
  unfold fcom at h
  split at h
  · rename_i q
    simp only [Prod.mk.injEq] at h
    exact .inl ⟨rfl, q, h.1⟩
  · rename_i q
    simp only [Prod.mk.injEq] at h
    exact absurd h.2 q
theorem rc_ref_bad {s : Bs} {n : Nat} (hn : s[8]? = some (UInt8.ofNat n)) (h8 : n ≤ 8) (h : fcom (rcom s n) ≠ (s, 0)) : RC s zcm 9 := by
  refine .inr ⟨rfl, rfl, fun c' k1 k2 => ?_⟩
  obtain ⟨q1, q2, q3⟩ := com_read k1
  rw [k2] at q1 q3
  rw [hn] at q3
  have e : n = c'.ps.length := by
    have h1 := (ccom_ok k1).1
    have h2 : UInt8.ofNat n = UInt8.ofNat c'.ps.length := by simpa using q3
    have h3 := congrArg UInt8.toNat h2
    rw [UInt8.toNat_ofNat', UInt8.toNat_ofNat'] at h3
    omega
  rw [e, q1] at h
  apply h
  unfold fcom
  rw [if_pos k1, k2]
theorem rc_ref_short {s : Bs} (h : s.length < 9 ∨ (∃ n : Nat, s[8]? = some (UInt8.ofNat n) ∧ n ≤ 255 ∧ (8 < n ∨ s.length < 18 + 8 * n))) : RC s zcm 9 := by
  refine .inr ⟨rfl, rfl, fun c' k1 k2 => ?_⟩
  obtain ⟨q1, q2, q3⟩ := com_read k1
  rw [k2] at q2 q3
  rcases h with h | ⟨n, hn, h255, h⟩
  · omega
  · rw [hn] at q3
    have h1 := (ccom_ok k1).1
    have h2 : UInt8.ofNat n = UInt8.ofNat c'.ps.length := by simpa using q3
    have h3 := congrArg UInt8.toNat h2
    rw [UInt8.toNat_ofNat', UInt8.toNat_ofNat'] at h3
    omega

end Go.Proofs.YtofbphmdkhocdaaGreat
