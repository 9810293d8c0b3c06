/-
  What a part of the reader answers: a tree of the grammar, or where the reading ends. No condition.
-/
import Derived.Test.YtdgdckmhmmigkaaGreatDoorBJoi
namespace Go.Proofs.YtdgdckmhmmigkaaGreatDoor
open Go.RowKit

/-- The blocks from one number on, ahead of another. -/
abbrev Bt (lo hi : Nat) : Nat → Prop := fun g => lo ≤ g ∧ g < hi

/-- What is told of a part: a tree, and what is left; or where no more can stand. -/
def Oc (E : Int) (m : Mo) (ts : List Tk) (k : Nat) (Q : Nat → Prop) (v : NV) (f : Bool) (k' : Nat) (w' : World) : Prop :=
  (∃ nd, f = true ∧ Gm E m (ts.drop k) (.ok nd (ts.drop k')) ∧ NdIn Q w' v nd) ∨ (Gm E m (ts.drop k) (.err (nextP E (ts.drop k'))) ∧ (f = true → hd (kB 2) (ts.drop k') = true))

/-- What a part of the reader answers. -/
def Rp (E : Int) (m : Mo) (b : Nat) (ao : Option Addr) (n c : Nat) (ts : List Tk) (k : Nat) (w : World) (e : Ending) (w' : World) : Prop :=
  ∃ (o : Int) (y : ByteArray) (i j : Int) (a : Option Addr) (l q : Nat) (p : Int) (f : Bool) (k' : Nat), e = .returned (.tuple #[.agg #[.int .i64 o, .string y, .int .i64 i, .int .u64 j, .slice a l q, .int .i64 p], .bool f]) ∧
    k ≤ k' ∧ Rst w' b ao n c ts k' ∧ Tn b w w' ∧ Oc E m ts k (Bt w.heap.size w'.heap.size) ⟨o, y.data.toList, i, j, a, l, q, p⟩ f k' w'

theorem num_no {L : Int} {l : List Tk} (hL : L ≠ 0) (h : hd (kB 2) l = true) : hd (lB L) l = false := by
  cases l with
  | nil => cases h
  | cons t r =>
    have h2 : t.kind = 2 := by simpa [hd, kB] using h
    simp [hd, lB, sgl, h2]
    omega
theorem num_sB {s : Bs} {l : List Tk} (h : hd (kB 2) l = true) : hd (sB s) l = false := by
  cases l with
  | nil => cases h
  | cons t r =>
    have h2 : t.kind = 2 := by simpa [hd, kB] using h
    simp [hd, sB, h2]

section
variable {Q : Nat → Prop} {w : World}
theorem sixT (w : World) (g : Nat) (x0 x1 x2 x3 x4 x5 : Value) : Turned (fun q => q = g) w ((((((w.setCell ⟨g, 0, none⟩ x0).setCell ⟨g, 1, none⟩ x1).setCell ⟨g, 2, none⟩ x2).setCell ⟨g, 3, none⟩ x3).setCell ⟨g, 4, none⟩ x4).setCell ⟨g, 5, none⟩ x5) :=
  ((((((Turned.refl (fun q => q = g) w).setCell (p := ⟨g, 0, none⟩) (.inl rfl) x0).setCell (p := ⟨g, 1, none⟩) (.inl rfl) x1).setCell (p := ⟨g, 2, none⟩) (.inl rfl) x2).setCell (p := ⟨g, 3, none⟩) (.inl rfl) x3).setCell (p := ⟨g, 4, none⟩) (.inl rfl) x4).setCell (p := ⟨g, 5, none⟩) (.inl rfl) x5
theorem NdIn.six {v : NV} {nd : Nd} (h : NdIn Q w v nd) {g : Nat} (hg : ¬ Q g) (x0 x1 x2 x3 x4 x5 : Value) : NdIn Q ((((((w.setCell ⟨g, 0, none⟩ x0).setCell ⟨g, 1, none⟩ x1).setCell ⟨g, 2, none⟩ x2).setCell ⟨g, 3, none⟩ x3).setCell ⟨g, 4, none⟩ x4).setCell ⟨g, 5, none⟩ x5) v nd :=
  h.turned (sixT w g x0 x1 x2 x3 x4 x5) (fun _ hq e => hg (e ▸ hq))

/-- Things of a kind that are written down lie in a new row. -/
theorem rdG_new {α : Type} (E : Enc α) (w : World) (xs : List α) (t : TypeId) (cs : Array Value) (hc : cs = (E.all xs).toArray) : RdG E (w.alloc (.cells cs t)) (some ⟨w.heap.size, 0, none⟩) xs := by
  subst hc
  intro _
  refine ⟨w.heap.size, 0, rfl, by simp, fun i x hx j u hu => ?_⟩
  have hj : j < E.size := by
    rw [← E.len x]
    exact (List.getElem?_eq_some_iff.1 hu).1
  rw [Nat.zero_add, World.cell?_alloc_new]
  have := E.all_get xs i j x hx hj
  rw [hu] at this
  simpa using this

/-- A node of one kid, the kid's row laid anew. -/
theorem NdIn.kid1 {v : NV} {x : Nd} (h : NdIn Q w v x) {op num pos : Int} (t : TypeId) (cs : Array Value) (hc : cs = (encN.cells v).toArray) {R : Nat → Prop} (hR : R w.heap.size) (hQR : ∀ g, Q g → R g) :
    NdIn R (w.alloc (.cells cs t)) ⟨op, [], num, 0, some ⟨w.heap.size, 0, none⟩, 1, 1, pos⟩ ⟨op, [], num, 0, foOf [x], pos⟩ :=
  NdIn.made op [] num 0 pos (.cons ((h.below (bz1 w _)).mono hQR) .nil) (rdG_new encN w [v] t cs (by rw [hc]; simp [Enc.all])) (fun _ a e => by cases e; exact hR) (Nat.le_refl _)
/-- A node of two kids, their row laid anew. -/
theorem NdIn.kid2 {v u : NV} {x y : Nd} (h : NdIn Q w v x) {Q2 : Nat → Prop} (h2 : NdIn Q2 w u y) {op pos : Int} (t : TypeId) (cs : Array Value) (hc : cs = (encN.cells v ++ encN.cells u).toArray) {R : Nat → Prop} (hR : R w.heap.size) (hQR : ∀ g, Q g → R g) (hQR2 : ∀ g, Q2 g → R g) :
    NdIn R (w.alloc (.cells cs t)) ⟨op, [], 0, 0, some ⟨w.heap.size, 0, none⟩, 2, 2, pos⟩ ⟨op, [], 0, 0, foOf [x, y], pos⟩ :=
  NdIn.made op [] 0 0 pos (.cons ((h.below (bz1 w _)).mono hQR) (.cons ((h2.below (bz1 w _)).mono hQR2) .nil)) (rdG_new encN w [v, u] t cs (by rw [hc]; simp [Enc.all])) (fun _ a e => by cases e; exact hR) (Nat.le_refl _)
end

theorem Rst.one {w : World} {b : Nat} {ao : Option Addr} {n c k : Nat} {ts : List Tk} (h : Rst w b ao n c ts k) {g : Nat} (hg : b < g) (j : Nat) (x : Value) : Rst (w.setCell ⟨g, j, none⟩ x) b ao n c ts k :=
  h.above (S := fun q => q = g) ((Turned.refl (fun q => q = g) w).setCell (p := ⟨g, j, none⟩) (.inl rfl) x) (fun q e => by omega)
theorem Tn.one {b g : Nat} {a w : World} (h : Tn b a w) (hg : a.heap.size ≤ g) (j : Nat) (x : Value) : Tn b a (w.setCell ⟨g, j, none⟩ x) := h.setCell (p := ⟨g, j, none⟩) (.inr hg) _
theorem NdIn.one {Q : Nat → Prop} {w : World} {v : NV} {nd : Nd} (h : NdIn Q w v nd) {g : Nat} (hg : ¬ Q g) (j : Nat) (x : Value) : NdIn Q (w.setCell ⟨g, j, none⟩ x) v nd :=
  h.turned (S := fun q => q = g) ((Turned.refl (fun q => q = g) w).setCell (p := ⟨g, j, none⟩) (.inl rfl) x) (fun _ hq e => hg (e ▸ hq))
/-- All that lies from a number on may be turned. -/
theorem turnB {B : Nat} {w w' : World} (h : Below B w w') : Turned (fun g => B ≤ g) w w' := ⟨h.os, h.tape, h.output, h.size, fun k _ hk => h.block k (by omega)⟩
/-- A row in a block of its own. -/
theorem layR (w : World) (t : TypeId) (cs : Array Value) : ∃ W g, w.alloc (.cells cs t) = W ∧ w.heap.size = g ∧ Below w.heap.size w W ∧ W.heap.size = g + 1 := ⟨_, _, rfl, rfl, bz1 w _, by simp⟩

theorem drop_hd {ts : List Tk} {k : Nat} {q : Tk → Bool} (h : hd q (ts.drop k) = true) : ts.drop k = pk (ts.drop k) :: ts.drop (k + 1) := (drop_pk h).2
theorem hd_of_pk {ts : List Tk} {k : Nat} {q : Tk → Bool} (h0 : q tk0 = false) (h : hd q (ts.drop k) = true) : q (pk (ts.drop k)) = true := by rw [← hd_pk h0]; exact h
theorem lB0 {L : Int} (h : L ≠ 0) : lB L tk0 = false := by simp [lB, sgl, tk0]; omega
theorem sgl_of_hd {ts : List Tk} {k : Nat} {L : Int} (hL : L ≠ 0) (h : hd (lB L) (ts.drop k) = true) : sgl (pk (ts.drop k)) = L := by
  have := hd_of_pk (lB0 hL) h
  simpa [lB] using this

/-- A part of the reader at a place, wherever it stands. -/
def Pt (E : Int) (m : Mo) (F : Nat) (b : Nat) (ao : Option Addr) (n c : Nat) (ts : List Tk) (k : Nat) : Prop := ∀ u, Rst u b ao n c ts k → Calls Tryz.prog F #[.pointer (some ⟨b, 0, none⟩)] u (Rp E m b ao n c ts k u)

end Go.Proofs.YtdgdckmhmmigkaaGreatDoor
