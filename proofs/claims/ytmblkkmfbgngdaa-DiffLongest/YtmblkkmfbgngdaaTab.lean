/-
  A table of whole numbers in memory: a row of rows, each in a block of its own; a new row, one number stored, and what a step that leaves old blocks alone leaves of it. No condition.
-/
import Derived.Test.YtmblkkmfbgngdaaGRows
import Derived.Test.YtmblkkmfbgngdaaDLcs
import Derived.Deep.OwnRows
namespace Go.Proofs.Ytmblkkmfbgngdaa
open Go.RowKit

/-- The rows of D are there, each in a block of its own, and hold T. -/
structure Tab (D : Nat → Prop) (w : World) (B g n m : Nat) (R : Nat → Nat) (T : Nat → Nat → Nat) : Prop where
  row : ∃ f, w.rowIs g 42 n f ∧ ∀ k, k < n → D k → f k = .slice (some ⟨R k, 0, none⟩) m m
  rows : ∀ k, k < n → D k → w.rowIs (R k) 3 m (fun j => .int .i64 (T k j))
  apart : ∀ k l, k < n → l < n → D k → D l → R k = R l → k = l
  ne : ∀ k, k < n → D k → R k ≠ g
  low : B ≤ g
  lows : ∀ k, k < n → D k → B ≤ R k

theorem Tab.lt {D : Nat → Prop} {w : World} {B g n m : Nat} {R : Nat → Nat} {T : Nat → Nat → Nat} (h : Tab D w B g n m R T) : g < w.heap.size := by
  obtain ⟨f, hf, _⟩ := h.row
  exact hf.lt

theorem Tab.below {D : Nat → Prop} {w w' : World} {B g n m : Nat} {R : Nat → Nat} {T : Nat → Nat → Nat} (h : Tab D w B g n m R T) (hb : Below w.heap.size w w') : Tab D w' B g n m R T := by
  obtain ⟨f, hf, hk⟩ := h.row
  exact ⟨⟨f, hf.of_block (hb.block _ hf.lt), hk⟩, fun k hk hd => (h.rows k hk hd).of_block (hb.block _ (h.rows k hk hd).lt), h.apart, h.ne, h.low, h.lows⟩

theorem Tab.drew {D : Nat → Prop} {w : World} {B g n m : Nat} {R : Nat → Nat} {T : Nat → Nat → Nat} (h : Tab D w B g n m R T) : Tab D w.drew B g n m R T :=
  h.below (Below.refl _ w).drew

theorem Tab.cell {D : Nat → Prop} {w : World} {B g n m : Nat} {R : Nat → Nat} {T : Nat → Nat → Nat} (h : Tab D w B g n m R T) {k : Nat} (hk : k < n) (hd : D k) : w.cell? ⟨g, k, none⟩ = some (.slice (some ⟨R k, 0, none⟩) m m) := by
  obtain ⟨f, hf, hr⟩ := h.row
  rw [hf.cell hk, hr k hk hd]

theorem Tab.num {D : Nat → Prop} {w : World} {B g n m : Nat} {R : Nat → Nat} {T : Nat → Nat → Nat} (h : Tab D w B g n m R T) {k j : Nat} (hk : k < n) (hd : D k) (hj : j < m) : w.cell? ⟨R k, j, none⟩ = some (.int .i64 (T k j)) :=
  (h.rows k hk hd).cell hj

/-- Said otherwise. -/
theorem Tab.say {D E : Nat → Prop} {w : World} {B g n m : Nat} {R : Nat → Nat} {T U : Nat → Nat → Nat} (h : Tab D w B g n m R T) (hD : ∀ k, k < n → E k → D k) (hT : ∀ k j, k < n → E k → j < m → T k j = U k j) : Tab E w B g n m R U := by
  obtain ⟨f, hf, hr⟩ := h.row
  refine ⟨⟨f, hf, fun k hk he => hr k hk (hD k hk he)⟩, fun k hk he => (h.rows k hk (hD k hk he)).congr (fun j hj => by rw [hT k j hk he hj]), fun k l hk hl hd he => h.apart k l hk hl (hD k hk hd) (hD l hl he), fun k hk he => h.ne k hk (hD k hk he), h.low, fun k hk he => h.lows k hk (hD k hk he)⟩

/-- A new table without rows. -/
theorem Tab.made (w : World) (n m : Nat) (R : Nat → Nat) (T : Nat → Nat → Nat) : Tab (fun _ => False) (w.alloc (.cells (madeCells #[.slice none 0 0] n) 42)) w.heap.size w.heap.size n m R T :=
  ⟨⟨_, World.rowIs_made w _ n 42, fun _ _ h => h.elim⟩, fun _ _ h => h.elim, fun _ _ _ _ h => h.elim, fun _ _ h => h.elim, Nat.le_refl _, fun _ _ h => h.elim⟩

/-- A new row of noughts. -/
theorem Tab.add {D : Nat → Prop} {w : World} {B g n m : Nat} {R : Nat → Nat} {T : Nat → Nat → Nat} (h : Tab D w B g n m R T) (i : Nat) (hB : B ≤ w.heap.size) :
    Tab (fun k => D k ∨ k = i) ((w.alloc (.cells (madeCells #[.int .i64 0] m) 3)).setCell ⟨g, i, none⟩ (.slice (some ⟨w.heap.size, 0, none⟩) m m)) B g n m (fun k => if k = i then w.heap.size else R k) (fun k j => if k = i then 0 else T k j) := by
  obtain ⟨f, hf, hr⟩ := h.row
  have hg := hf.lt
  have old : ∀ k, k < n → D k ∨ k = i → k ≠ i → D k := fun k _ h hne => h.resolve_right hne
  refine ⟨⟨_, (hf.alloc _).set i _, ?_⟩, ?_, ?_, ?_, h.low, ?_⟩
  · intro k hk hd
    by_cases e : k = i
    · simp [e]
    · simp only [if_neg e]
      exact hr k hk (old k hk hd e)
  · intro k hk hd
    by_cases e : k = i
    · simp only [if_pos e]
      exact (World.rowIs_made w _ m 3).setOther (a := ⟨g, i, none⟩) (show w.heap.size ≠ g by omega) _
    · simp only [if_neg e]
      exact ((h.rows k hk (old k hk hd e)).alloc _).setOther (a := ⟨g, i, none⟩) (h.ne k hk (old k hk hd e)) _
  · intro k l hk hl hd he
    by_cases e1 : k = i
    · by_cases e2 : l = i
      · intro _; omega
      · simp only [if_pos e1, if_neg e2]
        intro q
        have := (h.rows l hl (old l hl he e2)).lt
        omega
    · by_cases e2 : l = i
      · simp only [if_neg e1, if_pos e2]
        intro q
        have := (h.rows k hk (old k hk hd e1)).lt
        omega
      · simp only [if_neg e1, if_neg e2]
        exact h.apart k l hk hl (old k hk hd e1) (old l hl he e2)
  · intro k hk hd
    by_cases e : k = i
    · simp only [if_pos e]; omega
    · simp only [if_neg e]; exact h.ne k hk (old k hk hd e)
  · intro k hk hd
    by_cases e : k = i
    · simp only [if_pos e]; exact hB
    · simp only [if_neg e]; exact h.lows k hk (old k hk hd e)

/-- One number is stored. -/
theorem Tab.put {D : Nat → Prop} {w : World} {B g n m : Nat} {R : Nat → Nat} {T : Nat → Nat → Nat} (h : Tab D w B g n m R T) (i j v : Nat) (hi : i < n) (hd : D i) :
    Tab D (w.setCell ⟨R i, j, none⟩ (.int .i64 v)) B g n m R (fun k l => if k = i ∧ l = j then v else T k l) := by
  obtain ⟨f, hf, hr⟩ := h.row
  refine ⟨⟨f, hf.setOther (a := ⟨R i, j, none⟩) (fun e => h.ne i hi hd e.symm) _, hr⟩, ?_, h.apart, h.ne, h.low, h.lows⟩
  intro k hk he
  by_cases e : k = i
  · subst e
    refine ((h.rows k hk he).set j _).congr ?_
    intro l hl
    by_cases q : l = j <;> simp [q]
  · refine ((h.rows k hk he).setOther (a := ⟨R i, j, none⟩) (fun q => e (h.apart k i hk hi he hd q)) _).congr ?_
    intro l hl
    simp [e]

theorem Tab.put_below {D : Nat → Prop} {W w : World} {B g n m : Nat} {R : Nat → Nat} {T : Nat → Nat → Nat} (h : Tab D w B g n m R T) (hb : Below B W w) (hB : B ≤ W.heap.size) (i j : Nat) (hi : i < n) (hd : D i) (u : Value) : Below B W (w.setCell ⟨R i, j, none⟩ u) :=
  hb.trans ((Turned.refl (fun k => k = R i) w).setCell (.inl rfl) u |>.below (Nat.le_trans hB hb.size) (fun k hk q => by have := h.lows i hi hd; omega))

theorem Tab.add_below {D : Nat → Prop} {W w : World} {B g n m : Nat} {R : Nat → Nat} {T : Nat → Nat → Nat} (h : Tab D w B g n m R T) (hb : Below B W w) (hB : B ≤ W.heap.size) (i : Nat) (o : Obj) (u : Value) : Below B W ((w.alloc o).setCell ⟨g, i, none⟩ u) :=
  hb.trans (((Turned.refl (fun k => k = g) w).alloc o).setCell (.inl rfl) u |>.below (Nat.le_trans hB hb.size) (fun k hk q => by have := h.low; omega))

theorem info42 : (Try.prog.info? 42).map (fun i => (i.zero, i.size, i.bytes)) = some (some (.slice none 0 0), 1, 24) := by kernel_rfl
theorem info3 : (Try.prog.info? 3).map (fun i => (i.zero, i.size, i.bytes)) = some (some (.int .i64 0), 1, 8) := by kernel_rfl

/-- L at two places. -/
def Lat (xs ys : List Bs) (i j : Nat) : Nat := lcs (xs.drop i) (ys.drop j)

theorem drop_el {xs : List Bs} {i : Nat} (h : i < xs.length) : xs.drop i = el xs i :: xs.drop (i + 1) := by
  rw [List.drop_eq_getElem_cons h, el_get h]

theorem Lat_end {xs ys : List Bs} {i j : Nat} (h : xs.length ≤ i ∨ ys.length ≤ j) : Lat xs ys i j = 0 := by
  unfold Lat
  rcases h with h | h
  · rw [List.drop_eq_nil_of_le h, lcs_nil]
  · rw [List.drop_eq_nil_of_le h, lcs_nil']

theorem Lat_same {xs ys : List Bs} {i j : Nat} (h : i < xs.length) (k : j < ys.length) (e : el xs i = el ys j) : Lat xs ys i j = Lat xs ys (i + 1) (j + 1) + 1 := by
  unfold Lat
  rw [drop_el h, drop_el k, e, lcs_same]

theorem Lat_skip {xs ys : List Bs} {i j : Nat} (h : i < xs.length) (k : j < ys.length) (e : el xs i ≠ el ys j) : Lat xs ys i j = max (Lat xs ys (i + 1) j) (Lat xs ys i (j + 1)) := by
  unfold Lat
  rw [drop_el h, drop_el k, lcs_skip _ _ e]

theorem Lat_le (xs ys : List Bs) (i j : Nat) : Lat xs ys i j ≤ xs.length := by
  have := (lcs_len (xs.drop i) (ys.drop j)).1
  unfold Lat
  simp at this
  omega

end Go.Proofs.Ytmblkkmfbgngdaa
