import Derived.Test.YtijchmcajhdcoaaGreatDoorBLex
import Derived.Test.YtijchmcajhdcoaaGreatDoorJBld
import Derived.Test.YtijchmcajhdcoaaGreatDoorETre
import Derived.Test.YtijchmcajhdcoaaGreatDoorJGrm
import Derived.BigQuiet
import Derived.Deep.RegionHeld3
/-!
  The reader of tokens in memory: its two cells, the tokens that it reads, the table of signs between two; what is next. No condition.
-/
namespace Go.Proofs.YtijchmcajhdcoaaGreatDoor
open Go.RowKit

/-- The table of signs between two, cell for cell. -/
def infL : List (Int × Bs × Bs × Int × Int × Int) := [(6, [124], [32, 124, 32], 1, 1, 2), (7, [45], [32, 45, 32], 1, 1, 2), (8, [38], [32, 38, 32], 2, 2, 3), (9, [46, 46], [46, 46], 3, 4, 4), (10, [58, 58], [58, 58], 3, 4, 4)]
def infV : Array Value := #[.int .i64 6, .string ⟨#[124]⟩, .string ⟨#[32, 124, 32]⟩, .int .i64 1, .int .i64 1, .int .i64 2, .int .i64 7, .string ⟨#[45]⟩, .string ⟨#[32, 45, 32]⟩, .int .i64 1, .int .i64 1, .int .i64 2, .int .i64 8, .string ⟨#[38]⟩, .string ⟨#[32, 38, 32]⟩, .int .i64 2, .int .i64 2, .int .i64 3, .int .i64 9, .string ⟨#[46, 46]⟩, .string ⟨#[46, 46]⟩, .int .i64 3, .int .i64 4, .int .i64 4, .int .i64 10, .string ⟨#[58, 58]⟩, .string ⟨#[58, 58]⟩, .int .i64 3, .int .i64 4, .int .i64 4]
/-- The table lies there. -/
def Inf (w : World) : Prop := ∃ t fz, w.heap[0]? = some (.cells infV t fz)
theorem Inf.lt {w : World} (h : Inf w) : 0 < w.heap.size := by
  obtain ⟨t, fz, h⟩ := h
  exact (Array.getElem?_eq_some_iff.1 h).1
theorem Inf.turned {S : Nat → Prop} {w w' : World} (h : Inf w) (ht : Turned S w w') (hS : ¬ S 0) : Inf w' := by
  have hlt := h.lt
  obtain ⟨t, fz, h⟩ := h
  exact ⟨t, fz, (ht.block _ hlt hS).trans h⟩
theorem Inf.below {w w' : World} (h : Inf w) (hb : Below w.heap.size w w') : Inf w' := h.turned (S := fun _ => False) (Turned.ofBelow hb) id

/-- A block of two cells. -/
def Box2 (w : World) (B : Nat) (t : TypeId) (a b : Value) : Prop := w.heap[B]? = some (.cells #[a, b] t (0, 0))
section
variable {w w' : World} {B : Nat} {t : TypeId} {a b : Value}
theorem Box2.lt (h : Box2 w B t a b) : B < w.heap.size := (Array.getElem?_eq_some_iff.1 h).1
theorem Box2.below (h : Box2 w B t a b) (hb : Below w.heap.size w w') : Box2 w' B t a b := (hb.block B h.lt).trans h
theorem Box2.turned {S : Nat → Prop} (h : Box2 w B t a b) (ht : Turned S w w') (hS : ¬ S B) : Box2 w' B t a b := (ht.block B h.lt hS).trans h
theorem Box2.cells (h : Box2 w B t a b) : w.cell? ⟨B, 0, none⟩ = some a ∧ w.cell? ⟨B, 1, none⟩ = some b := by
  unfold Box2 at h
  simp [World.cell?, h]
theorem Box2.thaw (h : Box2 w B t a b) : w.frozen? ⟨B, 0, none⟩ = false ∧ w.frozen? ⟨B, 1, none⟩ = false := by
  unfold Box2 at h
  simp [World.frozen?, h]
theorem Box2.new (w : World) (t : TypeId) (a b : Value) : Box2 (w.alloc (.cells #[a, b] t)) w.heap.size t a b := by
  unfold Box2 World.alloc
  simp
theorem Box2.put1 (h : Box2 w B t a b) (x : Value) : Box2 (w.setCell ⟨B, 1, none⟩ x) B t a x := by
  unfold Box2 at h ⊢
  simp [World.setCell, Array.getElem?_modify, h]
end

/-- A block of six cells. -/
def Box6 (w : World) (B : Nat) (t : TypeId) (a b c d e f : Value) : Prop := w.heap[B]? = some (.cells #[a, b, c, d, e, f] t (0, 0))
section
variable {w w' : World} {B : Nat} {t : TypeId} {a b c d e f : Value}
theorem Box6.lt (h : Box6 w B t a b c d e f) : B < w.heap.size := (Array.getElem?_eq_some_iff.1 h).1
theorem Box6.below (h : Box6 w B t a b c d e f) (hb : Below w.heap.size w w') : Box6 w' B t a b c d e f := (hb.block B h.lt).trans h
theorem Box6.turned {S : Nat → Prop} (h : Box6 w B t a b c d e f) (ht : Turned S w w') (hS : ¬ S B) : Box6 w' B t a b c d e f := (ht.block B h.lt hS).trans h
theorem Box6.cells (h : Box6 w B t a b c d e f) : w.cell? ⟨B, 0, none⟩ = some a ∧ w.cell? ⟨B, 1, none⟩ = some b ∧ w.cell? ⟨B, 2, none⟩ = some c ∧ w.cell? ⟨B, 3, none⟩ = some d ∧ w.cell? ⟨B, 4, none⟩ = some e ∧ w.cell? ⟨B, 5, none⟩ = some f := by
  unfold Box6 at h
  simp [World.cell?, h]
theorem Box6.thaw (h : Box6 w B t a b c d e f) : w.frozen? ⟨B, 0, none⟩ = false ∧ w.frozen? ⟨B, 1, none⟩ = false ∧ w.frozen? ⟨B, 2, none⟩ = false ∧ w.frozen? ⟨B, 3, none⟩ = false ∧ w.frozen? ⟨B, 4, none⟩ = false ∧ w.frozen? ⟨B, 5, none⟩ = false := by
  unfold Box6 at h
  simp [World.frozen?, h]
theorem Box6.new (w : World) (t : TypeId) (a b c d e f : Value) : Box6 (w.alloc (.cells #[a, b, c, d, e, f] t)) w.heap.size t a b c d e f := by
  unfold Box6 World.alloc
  simp
end

/-- The reader at a block, k tokens on. -/
structure Rst (w : World) (b : Nat) (ao : Option Addr) (n c : Nat) (ts : List Tk) (k : Nat) : Prop where
  box : Box2 w b 46 (.slice ao n c) (.int .i64 k)
  rd : RdG encT w ao ts
  len : ts.length = n
  le : k ≤ n
  cap : n ≤ c
  few : n ≤ 1024
  far : 0 < n → ∀ a, ao = some a → a.block < b
  inf : Inf w
  ib : 0 < b
  good : ∀ t ∈ ts, Gd t

section
variable {w w' : World} {b : Nat} {ao : Option Addr} {n c k : Nat} {ts : List Tk}
theorem RdG.far {α : Type} {E : Enc α} {S : Nat → Prop} {xs : List α} (h : RdG E w ao xs) (ht : Turned S w w') (hS : 0 < xs.length → ∀ a, ao = some a → ¬ S a.block) : RdG E w' ao xs := h.turnN ht hS
theorem Rst.below (h : Rst w b ao n c ts k) (hb : Below w.heap.size w w') : Rst w' b ao n c ts k :=
  ⟨h.box.below hb, h.rd.below hb, h.len, h.le, h.cap, h.few, h.far, h.inf.below hb, h.ib, h.good⟩
/-- One token on. -/
theorem Rst.next (h : Rst w b ao n c ts k) (hk : k < n) : Rst (w.setCell ⟨b, 1, none⟩ (.int .i64 ((k + 1 : Nat) : Int))) b ao n c ts (k + 1) := by
  have ht : Turned (fun g => g = b) w (w.setCell ⟨b, 1, none⟩ (.int .i64 ((k + 1 : Nat) : Int))) := (Turned.refl (fun g => g = b) w).setCell (p := ⟨b, 1, none⟩) (.inl rfl) _
  refine ⟨h.box.put1 _, h.rd.turnN ht (fun q a e => ?_), h.len, hk, h.cap, h.few, h.far, h.inf.turned ht (by have := h.ib; omega), h.ib, h.good⟩
  have := h.far (by have := h.len; omega) a e
  omega
theorem Rst.cells (h : Rst w b ao n c ts k) : w.cell? ⟨b, 0, none⟩ = some (.slice ao n c) ∧ w.cell? ⟨b, 1, none⟩ = some (.int .i64 k) ∧ w.frozen? ⟨b, 1, none⟩ = false := ⟨h.box.cells.1, h.box.cells.2, h.box.thaw.2⟩
end

/-- What is next: a token of no kind behind the last. -/
def pk : List Tk → Tk
  | [] => tk0
  | t :: _ => t
theorem pk_at {ts : List Tk} {k : Nat} {t : Tk} (h : ts[k]? = some t) : pk (ts.drop k) = t := by
  obtain ⟨hlt, rfl⟩ := List.getElem?_eq_some_iff.1 h
  rw [List.drop_eq_getElem_cons hlt]
  rfl
theorem pk_end {ts : List Tk} {k : Nat} (h : ts.length ≤ k) : pk (ts.drop k) = tk0 := by
  rw [List.drop_eq_nil_of_le h]
  rfl

theorem ba_toList (y : ByteArray) : (⟨y.data.toList.toArray⟩ : ByteArray) = y := by
  cases y
  simp

/-- A struct of five cells stored into a block of the call's own, behind draws. -/
theorem belowS5 {B : Nat} {w W : World} (h : Below B w W) (m : Nat) {g : Nat} (hg : B ≤ g) (a b c d e : Value) : Below B w ((((((W.drewN m).setCell ⟨g, 0, none⟩ a).setCell ⟨g, 1, none⟩ b).setCell ⟨g, 2, none⟩ c).setCell ⟨g, 3, none⟩ d).setCell ⟨g, 4, none⟩ e) :=
  ((((((show Below B w (W.drewN m) from h.trans ⟨rfl, rfl, rfl, Nat.le_refl _, fun _ _ => rfl⟩)).setCell (p := ⟨g, 0, none⟩) hg _).setCell (p := ⟨g, 1, none⟩) hg _).setCell (p := ⟨g, 2, none⟩) hg _).setCell (p := ⟨g, 3, none⟩) hg _).setCell (p := ⟨g, 4, none⟩) hg _

set_option maxHeartbeats 1600000 in
set_option maxRecDepth 100000 in
theorem peek_any {b : Nat} {ao : Option Addr} {n c k : Nat} {ts : List Tk} (w : World) (h : Rst w b ao n c ts k) :
    Calls Tryz.prog 73 #[.pointer (some ⟨b, 0, none⟩)] w fun e w' => e = .returned (.agg #[.int .i64 (pk (ts.drop k)).kind, .string ⟨(pk (ts.drop k)).text.toArray⟩, .int .i64 (pk (ts.drop k)).num, .int .u64 (pk (ts.drop k)).id, .int .i64 (pk (ts.drop k)).pos]) ∧ Below w.heap.size w w' := by
  have hle := h.le
  have hcap := h.cap
  have hlb := h.box.lt
  have hrd := h.rd
  have b1 := Box5.new w 51 (.int .i64 0) (.string ⟨#[]⟩) (.int .i64 0) (.int .u64 0) (.int .i64 0)
  have hb := bz1 w (.cells #[.int .i64 0, .string ⟨#[]⟩, .int .i64 0, .int .u64 0, .int .i64 0] 51)
  obtain ⟨W, hW⟩ : ∃ W, w.alloc (.cells #[.int .i64 0, .string ⟨#[]⟩, .int .i64 0, .int .u64 0, .int .i64 0] 51) = W := ⟨_, rfl⟩
  obtain ⟨m0, hm⟩ : ∃ m0, w.heap.size = m0 := ⟨_, rfl⟩
  rw [hW, hm] at b1
  rw [hW] at hb
  obtain ⟨e0, e1, e2, e3, e4⟩ := b1.cells
  obtain ⟨g0, g1, g2, g3, g4⟩ := b1.thaw
  have h' := h.below hb
  obtain ⟨c0, c1, f1⟩ := h'.cells
  have H : Hid (Rst W b ao n c ts k ∧ Below w.heap.size w W ∧ w.heap.size = m0) := ⟨h', hb, hm⟩
  rw [hm] at hlb
  have m1 : ¬ b = m0 := by omega
  have m2 : ¬ m0 = b := by omega
  clear h b1 hb h'
  by_cases hk : k < n
  · obtain ⟨t, ht⟩ : ∃ t, ts[k]? = some t := ⟨_, List.getElem?_eq_getElem (by rw [H.out.1.len]; omega)⟩
    rw [pk_at ht]
    obtain ⟨tb, off, rfl, hlt⟩ := hrd.some_of ht
    rw [hm] at hlt
    have m3 : ¬ tb = m0 := by omega
    have m4 : ¬ m0 = tb := by omega
    obtain ⟨_, k0, k1, k2, k3, k4⟩ := H.out.1.rd.tok ht
    have d1 : (0 : Int) ≤ (k : Int) := by omega
    have d2 : (k : Int) < (n : Int) := by omega
    have d3 : ((k : Int) == (n : Int)) = false := by rw [beq_eq_false_iff_ne]; omega
    clear ht hlt hrd
    go_enter Tryz.func73, Tryz.ntmps73
    go_upto_region 1 with fail
    clear hW hm
    go_big_quiet (fail)
    go_wp2_with fail
    go_region_held3 (fun w' => w'.cell? ⟨b, 0, none⟩ = some (.slice (some ⟨tb, off, none⟩) n c) ∧ w'.cell? ⟨b, 1, none⟩ = some (.int .i64 k) ∧ w'.cell? ⟨tb, off + k * 5, none⟩ = some (.int .i64 t.kind) ∧ w'.cell? ⟨tb, off + k * 5 + 1, none⟩ = some (.string ⟨t.text.toArray⟩) ∧ w'.cell? ⟨tb, off + k * 5 + 2, none⟩ = some (.int .i64 t.num) ∧ w'.cell? ⟨tb, off + k * 5 + 3, none⟩ = some (.int .u64 t.id) ∧ w'.cell? ⟨tb, off + k * 5 + 4, none⟩ = some (.int .i64 t.pos)) (go_keep) (fail)
    go_wp2_with fail
    refine bodyPost_ret (v := .agg #[.int .i64 t.kind, .string ⟨t.text.toArray⟩, .int .i64 t.num, .int .u64 t.id, .int .i64 t.pos]) ?_ rfl ⟨rfl, ?_⟩
    · simp [results, Tryz.f73]
      go_simp
    · exact belowS5 H.out.2.1 _ (by have := H.out.2.2; omega) _ _ _ _ _
  · obtain rfl : k = n := by omega
    rw [pk_end (by rw [H.out.1.len]; exact Nat.le_refl _)]
    simp only [tk0]
    go_enter Tryz.func73, Tryz.ntmps73
    go_upto_region 1 with fail
    clear hW hm
    go_big_quiet (fail)
    go_wp2_with fail
    refine bodyPost_ret (v := .agg #[.int .i64 0, .string ⟨#[]⟩, .int .i64 0, .int .u64 0, .int .i64 0]) ?_ rfl ⟨rfl, ?_⟩
    · simp [results, Tryz.f73]
      go_simp
    · exact belowS5 H.out.2.1 _ (by have := H.out.2.2; omega) _ _ _ _ _

end Go.Proofs.YtijchmcajhdcoaaGreatDoor

/-!
  The reader's pass, made and joined, each by a contract. No condition.
-/
namespace Go.Proofs.YtijchmcajhdcoaaGreatDoor
open Go.RowKit

/-- All but the reader's own block is as it was. -/
abbrev Tn (b : Nat) (w w' : World) : Prop := Turned (fun g => g = b) w w'
theorem Tn.of {b : Nat} {w w' : World} (h : Below w.heap.size w w') : Tn b w w' := Turned.ofBelow h

theorem Tn.undrew {b : Nat} {w w' : World} (h : Tn b w.drew w') : Tn b w w' := ⟨h.os, h.tape, h.output, h.size, h.block⟩
/-- Six cells stored into a block that is not the reader's. -/
theorem Tn.six {b g : Nat} {a w : World} (h : Tn b a w) (hg : a.heap.size ≤ g) (x0 x1 x2 x3 x4 x5 : Value) : Tn b a ((((((w.setCell ⟨g, 0, none⟩ x0).setCell ⟨g, 1, none⟩ x1).setCell ⟨g, 2, none⟩ x2).setCell ⟨g, 3, none⟩ x3).setCell ⟨g, 4, none⟩ x4).setCell ⟨g, 5, none⟩ x5) :=
  (((((h.setCell (p := ⟨g, 0, none⟩) (.inr hg) _).setCell (p := ⟨g, 1, none⟩) (.inr hg) _).setCell (p := ⟨g, 2, none⟩) (.inr hg) _).setCell (p := ⟨g, 3, none⟩) (.inr hg) _).setCell (p := ⟨g, 4, none⟩) (.inr hg) _).setCell (p := ⟨g, 5, none⟩) (.inr hg) _

theorem Tn.trans {b : Nat} {u v w : World} (h : Tn b u v) (k : Tn b v w) : Tn b u w := Turned.trans h k (fun _ _ q => q)
/-- What is turned behind the reader. -/
theorem Rst.above {S : Nat → Prop} {w w' : World} {b : Nat} {ao : Option Addr} {n c k : Nat} {ts : List Tk} (h : Rst w b ao n c ts k) (ht : Turned S w w') (hS : ∀ g, S g → b < g) : Rst w' b ao n c ts k :=
  ⟨h.box.turned ht (fun q => by have := hS _ q; omega), h.rd.turnN ht (fun q a e s => by have := hS _ s; have := h.far (by have := h.len; omega) a e; omega), h.len, h.le, h.cap, h.few, h.far, h.inf.turned ht (fun q => by have := hS _ q; have := h.ib; omega), h.ib, h.good⟩
theorem Rst.six {w : World} {b : Nat} {ao : Option Addr} {n c k : Nat} {ts : List Tk} (h : Rst w b ao n c ts k) {g : Nat} (hg : b < g) (x0 x1 x2 x3 x4 x5 : Value) :
    Rst ((((((w.setCell ⟨g, 0, none⟩ x0).setCell ⟨g, 1, none⟩ x1).setCell ⟨g, 2, none⟩ x2).setCell ⟨g, 3, none⟩ x3).setCell ⟨g, 4, none⟩ x4).setCell ⟨g, 5, none⟩ x5) b ao n c ts k :=
  h.above (S := fun q => q = g) ((((((Turned.refl (fun q => q = g) w).setCell (p := ⟨g, 0, none⟩) (.inl rfl) x0).setCell (p := ⟨g, 1, none⟩) (.inl rfl) x1).setCell (p := ⟨g, 2, none⟩) (.inl rfl) x2).setCell (p := ⟨g, 3, none⟩) (.inl rfl) x3).setCell (p := ⟨g, 4, none⟩) (.inl rfl) x4 |>.setCell (p := ⟨g, 5, none⟩) (.inl rfl) x5) (fun q e => by omega)

theorem undrewB {w w' : World} (h : Below w.drew.heap.size w.drew w') : Below w.heap.size w w' := ⟨h.os, h.tape, h.output, h.size, h.block⟩

theorem hd_pk {q : Tk → Bool} (h0 : q tk0 = false) (l : List Tk) : hd q l = q (pk l) := by
  cases l with
  | nil => exact h0.symm
  | cons t r => rfl
theorem drop_pk {ts : List Tk} {k : Nat} {q : Tk → Bool} (h : hd q (ts.drop k) = true) : k < ts.length ∧ ts.drop k = pk (ts.drop k) :: ts.drop (k + 1) := by
  rcases Nat.lt_or_ge k ts.length with q | q
  · rw [List.drop_eq_getElem_cons q]
    exact ⟨q, rfl⟩
  · rw [List.drop_eq_nil_of_le q] at h
    cases h

/-- A token in a block of its own. -/
theorem lay5 {B : Nat} {w w2 : World} (hb : Below B w w2) (hB : B ≤ w2.heap.size) (t : TypeId) (a1 a2 a3 a4 a5 : Value) : ∃ W g, w2.alloc (.cells #[a1, a2, a3, a4, a5] t) = W ∧ w2.heap.size = g ∧ Box5 W g t a1 a2 a3 a4 a5 ∧ Below B w W ∧ Below w2.heap.size w2 W ∧ B ≤ g ∧ g < W.heap.size :=
  ⟨_, _, rfl, rfl, Box5.new w2 t a1 a2 a3 a4 a5, hb.trans ((bz1 w2 _).mono hB), bz1 w2 _, hB, by simp⟩
/-- A node in a block of its own. -/
theorem lay6 {B : Nat} {w w2 : World} (hb : Below B w w2) (hB : B ≤ w2.heap.size) (t : TypeId) (a1 a2 a3 a4 a5 a6 : Value) : ∃ W g, w2.alloc (.cells #[a1, a2, a3, a4, a5, a6] t) = W ∧ w2.heap.size = g ∧ Box6 W g t a1 a2 a3 a4 a5 a6 ∧ Below B w W ∧ Below w2.heap.size w2 W ∧ B ≤ g ∧ g < W.heap.size :=
  ⟨_, _, rfl, rfl, Box6.new w2 t a1 a2 a3 a4 a5 a6, hb.trans ((bz1 w2 _).mono hB), bz1 w2 _, hB, by simp⟩

set_option maxHeartbeats 800000 in
set_option maxRecDepth 100000 in
theorem pass_yes {b : Nat} {ao : Option Addr} {n c k : Nat} {ts : List Tk} (g : Bs) (w : World) (h : Rst w b ao n c ts k) (hg : hd (sB g) (ts.drop k) = true) :
    Calls Tryz.prog 74 #[.pointer (some ⟨b, 0, none⟩), .string ⟨g.toArray⟩] w fun e w' => e = .returned (.bool true) ∧ Rst w' b ao n c ts (k + 1) ∧ Tn b w w' := by
  have hp := peek_any w h
  have hk := (drop_pk hg).1
  rw [hd_pk (by simp [sB, tk0])] at hg
  obtain ⟨h5, hx⟩ := (sB_iff g _).1 hg
  rw [h5, hx] at hp
  have H : Hid (Rst w b ao n c ts k ∧ k < n) := ⟨h, by rw [← h.len]; exact hk⟩
  have hkn : (k : Int) ≤ 1024 := by have := h.le; have := h.few; omega
  have hlb := h.box.lt
  clear h hg h5 hx hk
  generalize (pk (ts.drop k)).num = tm at hp
  generalize (pk (ts.drop k)).id = ti at hp
  generalize (pk (ts.drop k)).pos = tp at hp
  go_enter Tryz.func74, Tryz.ntmps74
  go_wp2_with fail
  refine hp.mono ?_
  rintro e w2 ⟨rfl, hb⟩
  obtain ⟨W, m, hW, hm, hx, bW, b2, hB, hlt⟩ := lay5 hb hb.size 51 (.int .i64 5) (.string ⟨g.toArray⟩) (.int .i64 tm) (.int .u64 ti) (.int .i64 tp)
  have h2 := H.out.1.below bW
  obtain ⟨c0, c1, f1⟩ := h2.cells
  obtain ⟨d0, d1, d2, d3, d4⟩ := hx.cells
  have H2 : Hid (Rst W b ao n c ts k ∧ Below w.heap.size w W) := ⟨h2, bW⟩
  clear hp h2 hb hx b2 bW
  go_upto_region 2 with fail
  clear hW hm
  go_wp2_with fail
  go_ret
  exact ⟨rfl, H2.out.1.next H.out.2, (Tn.of H2.out.2).setCell (p := ⟨b, 1, none⟩) (.inl rfl) _⟩

set_option maxHeartbeats 800000 in
set_option maxRecDepth 100000 in
theorem pass_no {b : Nat} {ao : Option Addr} {n c k : Nat} {ts : List Tk} (g : Bs) (w : World) (h : Rst w b ao n c ts k) (hg : hd (sB g) (ts.drop k) = false) :
    Calls Tryz.prog 74 #[.pointer (some ⟨b, 0, none⟩), .string ⟨g.toArray⟩] w fun e w' => e = .returned (.bool false) ∧ Below w.heap.size w w' := by
  have hp := peek_any w h
  rw [hd_pk (by simp [sB, tk0])] at hg
  clear h
  generalize pk (ts.drop k) = t at hp hg
  obtain ⟨tk, tx, tm, ti, tp⟩ := t
  simp only at hp
  have hq : tk = 5 → (tx == g) = false := by
    intro e
    subst e
    rw [beq_eq_false_iff_ne]
    simpa [sB] using hg
  clear hg
  by_cases h5 : tk = 5
  · subst h5
    have hxg := hq rfl
    clear hq
    go_enter Tryz.func74, Tryz.ntmps74
    go_wp2_with fail
    refine hp.mono ?_
    rintro e w2 ⟨rfl, hb⟩
    clear hp
    have HB : Hid (Below w.heap.size w w2) := hb
    clear hb
    go_wp2_with fail
    go_ret
    exact ⟨rfl, HB.out.trans ((bz1 w2 _).mono HB.out.size)⟩
  · have e5 : (tk == 5) = false := by rw [beq_eq_false_iff_ne]; exact h5
    clear hq
    go_enter Tryz.func74, Tryz.ntmps74
    go_wp2_with fail
    refine hp.mono ?_
    rintro e w2 ⟨rfl, hb⟩
    clear hp
    have HB : Hid (Below w.heap.size w w2) := hb
    clear hb
    go_wp2_with fail
    go_ret
    exact ⟨rfl, HB.out.trans ((bz1 w2 _).mono HB.out.size)⟩

/-- A node as a value. -/
abbrev ndV (o : Int) (y : ByteArray) (m i : Int) (a : Option Addr) (l c : Nat) (p : Int) : Value := .agg #[.int .i64 o, .string y, .int .i64 m, .int .u64 i, .slice a l c, .int .i64 p]

theorem field_tok (a1 a2 a3 a4 a5 : Value) (w : World) : (Instr.field 51 (.agg #[a1, a2, a3, a4, a5]) 4).run Tryz.prog w = .ok a5 w := by kernel_rfl

set_option maxHeartbeats 800000 in
set_option maxRecDepth 100000 in
theorem made_yes {b : Nat} {ao : Option Addr} {n c k : Nat} {ts : List Tk} (o : Int) (g : Bs) (w : World) (h : Rst w b ao n c ts k) (hg : hd (sB g) (ts.drop k) = true) :
    Calls Tryz.prog 61 #[.pointer (some ⟨b, 0, none⟩), .int .i64 o, .string ⟨g.toArray⟩] w fun e w' => e = .returned (.tuple #[.agg #[.int .i64 o, .string ⟨#[]⟩, .int .i64 0, .int .u64 0, .slice none 0 0, .int .i64 (pk (ts.drop k)).pos], .bool true]) ∧ Rst w' b ao n c ts (k + 1) ∧ Tn b w w' := by
  obtain ⟨W0, m0, hW0, hm0, hx0, bW0, _, hB0, hlt0⟩ := lay6 (Below.refl _ w) (Nat.le_refl _) 28 (.int .i64 0) (.string ⟨#[]⟩) (.int .i64 0) (.int .u64 0) (.slice none 0 0) (.int .i64 0)
  have hp := peek_any W0 (h.below bW0)
  have hlb := h.box.lt
  have H : Hid (Rst w b ao n c ts k ∧ hd (sB g) (ts.drop k) = true) := ⟨h, hg⟩
  clear h hg
  generalize pk (ts.drop k) = t at hp
  obtain ⟨tk, tx, tm, ti, tp⟩ := t
  simp only at hp ⊢
  have hfd := field_tok
  go_enter Tryz.func61, Tryz.ntmps61
  go_wp2_with fail
  clear hW0 hm0
  refine hp.mono ?_
  rintro e w2 ⟨rfl, hb⟩
  obtain ⟨W, m, hW, hm, hx, bW, b2, hB, hlt⟩ := lay6 (bW0.trans (hb.mono bW0.size)) (by have := bW0.size; have := hb.size; omega) 28 (.int .i64 o) (.string ⟨#[]⟩) (.int .i64 0) (.int .u64 0) (.slice none 0 0) (.int .i64 tp)
  have HPS : Hid (∀ u, Below W.heap.size W u → Calls Tryz.prog 74 #[.pointer (some ⟨b, 0, none⟩), .string ⟨g.toArray⟩] u fun e w' => e = .returned (.bool true) ∧ Rst w' b ao n c ts (k + 1) ∧ Tn b u w') :=
    fun u hu => pass_yes g u ((H.out.1.below bW).below hu) H.out.2
  have hx0' := (hx0.below hb).below b2
  obtain ⟨d0, d1, d2, d3, d4, d5⟩ := hx.cells
  obtain ⟨f0, f1, f2, f3, f4, f5⟩ := hx0'.thaw
  have HX : Hid (Below w.heap.size w W ∧ Box6 W m 28 (.int .i64 o) (.string ⟨#[]⟩) (.int .i64 0) (.int .u64 0) (.slice none 0 0) (.int .i64 tp) ∧ Box6 W m0 28 (.int .i64 0) (.string ⟨#[]⟩) (.int .i64 0) (.int .u64 0) (.slice none 0 0) (.int .i64 0)) := ⟨bW, hx, hx0'⟩
  have hbm : ¬ b = m := by omega
  have hmm : ¬ m0 = m := by have := hb.size; omega
  have hmm' : ¬ m = m0 := by omega
  have hbm0 : ¬ b = m0 := by omega
  have hmb : ¬ m0 = b := by omega
  clear hp hx hx0 hx0' hb bW b2 bW0
  go_upto_region 2 with fail
  clear hW hm
  go_region_held3 (fun w' => w'.cell? ⟨m, 0, none⟩ = some (.int .i64 o) ∧ w'.cell? ⟨m, 1, none⟩ = some (.string ⟨#[]⟩) ∧ w'.cell? ⟨m, 2, none⟩ = some (.int .i64 0) ∧ w'.cell? ⟨m, 3, none⟩ = some (.int .u64 0) ∧ w'.cell? ⟨m, 4, none⟩ = some (.slice none 0 0) ∧ w'.cell? ⟨m, 5, none⟩ = some (.int .i64 tp)) (first | with_reducible exact kS | go_keep)
    (first
      | (go_at_call 74; (with_reducible refine (HPS.out _ (by first | exact Below.refl _ _ | exact (Below.refl _ _).drew)).mono ?_); rintro e w3 ⟨rfl, h3, t3⟩; have t4 := t3.undrew; have kS := (HX.out.2.1.turned t4 (by omega)).cells; have x4 := HX.out.2.2.turned t4 (by omega); obtain ⟨p0, p1, p2, p3, p4, p5⟩ := x4.cells; obtain ⟨q0, q1, q2, q3, q4, q5⟩ := x4.thaw; clear x4; have H3 : Hid (Rst w3 b ao n c ts (k + 1) ∧ Tn b W w3) := ⟨h3, t4⟩; clear h3 t3 t4))
  go_wp2_with fail
  refine bodyPost_ret (v := .tuple #[.agg #[.int .i64 o, .string ⟨#[]⟩, .int .i64 0, .int .u64 0, .slice none 0 0, .int .i64 tp], .bool true]) ?_ rfl ⟨rfl, ?_, ?_⟩
  · simp [results, Tryz.f61]
    go_simp
  · exact H3.out.1.six (by omega) _ _ _ _ _ _
  · exact ((Tn.of HX.out.1).trans H3.out.2).six (by omega) _ _ _ _ _ _

theorem belowS6 {B : Nat} {w W : World} (h : Below B w W) {g : Nat} (hg : B ≤ g) (a b c d e f : Value) : Below B w ((((((W.setCell ⟨g, 0, none⟩ a).setCell ⟨g, 1, none⟩ b).setCell ⟨g, 2, none⟩ c).setCell ⟨g, 3, none⟩ d).setCell ⟨g, 4, none⟩ e).setCell ⟨g, 5, none⟩ f) :=
  (((((h.setCell (p := ⟨g, 0, none⟩) hg _).setCell (p := ⟨g, 1, none⟩) hg _).setCell (p := ⟨g, 2, none⟩) hg _).setCell (p := ⟨g, 3, none⟩) hg _).setCell (p := ⟨g, 4, none⟩) hg _).setCell (p := ⟨g, 5, none⟩) hg _

set_option maxHeartbeats 800000 in
set_option maxRecDepth 100000 in
theorem made_no {b : Nat} {ao : Option Addr} {n c k : Nat} {ts : List Tk} (o : Int) (g : Bs) (w : World) (h : Rst w b ao n c ts k) (hg : hd (sB g) (ts.drop k) = false) :
    Calls Tryz.prog 61 #[.pointer (some ⟨b, 0, none⟩), .int .i64 o, .string ⟨g.toArray⟩] w fun e w' => e = .returned (.tuple #[.agg #[.int .i64 o, .string ⟨#[]⟩, .int .i64 0, .int .u64 0, .slice none 0 0, .int .i64 (pk (ts.drop k)).pos], .bool false]) ∧ Below w.heap.size w w' := by
  obtain ⟨W0, m0, hW0, hm0, hx0, bW0, _, hB0, hlt0⟩ := lay6 (Below.refl _ w) (Nat.le_refl _) 28 (.int .i64 0) (.string ⟨#[]⟩) (.int .i64 0) (.int .u64 0) (.slice none 0 0) (.int .i64 0)
  have hp := peek_any W0 (h.below bW0)
  have hlb := h.box.lt
  have H : Hid (Rst w b ao n c ts k ∧ hd (sB g) (ts.drop k) = false) := ⟨h, hg⟩
  clear h hg
  generalize pk (ts.drop k) = t at hp
  obtain ⟨tk, tx, tm, ti, tp⟩ := t
  simp only at hp ⊢
  have hfd := field_tok
  go_enter Tryz.func61, Tryz.ntmps61
  go_wp2_with fail
  clear hW0 hm0
  refine hp.mono ?_
  rintro e w2 ⟨rfl, hb⟩
  obtain ⟨W, m, hW, hm, hx, bW, b2, hB, hlt⟩ := lay6 (bW0.trans (hb.mono bW0.size)) (by have := bW0.size; have := hb.size; omega) 28 (.int .i64 o) (.string ⟨#[]⟩) (.int .i64 0) (.int .u64 0) (.slice none 0 0) (.int .i64 tp)
  have HPS : Hid (∀ u, Below W.heap.size W u → Calls Tryz.prog 74 #[.pointer (some ⟨b, 0, none⟩), .string ⟨g.toArray⟩] u fun e w' => e = .returned (.bool false) ∧ Below u.heap.size u w') :=
    fun u hu => pass_no g u ((H.out.1.below bW).below hu) H.out.2
  have hx0' := (hx0.below hb).below b2
  obtain ⟨d0, d1, d2, d3, d4, d5⟩ := hx.cells
  obtain ⟨f0, f1, f2, f3, f4, f5⟩ := hx0'.thaw
  have HX : Hid (Below w.heap.size w W ∧ Box6 W m 28 (.int .i64 o) (.string ⟨#[]⟩) (.int .i64 0) (.int .u64 0) (.slice none 0 0) (.int .i64 tp) ∧ Box6 W m0 28 (.int .i64 0) (.string ⟨#[]⟩) (.int .i64 0) (.int .u64 0) (.slice none 0 0) (.int .i64 0)) := ⟨bW, hx, hx0'⟩
  have hbm : ¬ b = m := by omega
  have hmm : ¬ m0 = m := by have := hb.size; omega
  have hmm' : ¬ m = m0 := by omega
  have hbm0 : ¬ b = m0 := by omega
  have hmb : ¬ m0 = b := by omega
  clear hp hx hx0 hx0' hb bW b2 bW0
  go_upto_region 2 with fail
  clear hW hm
  go_region_held3 (fun w' => w'.cell? ⟨m, 0, none⟩ = some (.int .i64 o) ∧ w'.cell? ⟨m, 1, none⟩ = some (.string ⟨#[]⟩) ∧ w'.cell? ⟨m, 2, none⟩ = some (.int .i64 0) ∧ w'.cell? ⟨m, 3, none⟩ = some (.int .u64 0) ∧ w'.cell? ⟨m, 4, none⟩ = some (.slice none 0 0) ∧ w'.cell? ⟨m, 5, none⟩ = some (.int .i64 tp)) (first | with_reducible exact kS | go_keep)
    (first
      | (go_at_call 74; (with_reducible refine (HPS.out _ (by first | exact Below.refl _ _ | exact (Below.refl _ _).drew)).mono ?_); rintro e w3 ⟨rfl, t3⟩; have t4 := undrewB t3; have kS := (HX.out.2.1.below t4).cells; have x4 := HX.out.2.2.below t4; obtain ⟨p0, p1, p2, p3, p4, p5⟩ := x4.cells; obtain ⟨q0, q1, q2, q3, q4, q5⟩ := x4.thaw; clear x4; have H3 : Hid (Below W.heap.size W w3) := t4; clear t3 t4))
  go_wp2_with fail
  refine bodyPost_ret (v := .tuple #[.agg #[.int .i64 o, .string ⟨#[]⟩, .int .i64 0, .int .u64 0, .slice none 0 0, .int .i64 tp], .bool false]) ?_ rfl ⟨rfl, ?_⟩
  · simp [results, Tryz.f61]
    go_simp
  · exact belowS6 (HX.out.1.trans (H3.out.mono HX.out.1.size)) (by omega) _ _ _ _ _ _

end Go.Proofs.YtijchmcajhdcoaaGreatDoor
