/-
  The reader of tokens in memory: its two cells, the tokens that it reads, the table of signs between two; what is next. No condition.
-/
import Derived.Test.YtgeigegaoadmfaaDoorBLex
import Derived.Test.YtgeigegaoadmfaaDoorELWrt
import Derived.Test.YtgeigegaoadmfaaDoorETre
import Derived.Test.YtgeigegaoadmfaaDoorJGrm
import Derived.BigQuiet
import Derived.Deep.RegionHeld3
namespace Go.Proofs.YtgeigegaoadmfaaDoor
open Go.RowKit

/-- The table of signs between two, cell for cell. -/
def infL : List (Int × Bs × Bs × Int × Int × Int) := [(6, [124], [32, 124, 32], 1, 1, 2), (7, [45], [32, 45, 32], 1, 1, 2), (8, [38], [32, 38, 32], 2, 2, 3), (9, [46, 46], [46, 46], 3, 4, 4), (10, [58, 58], [58, 58], 3, 4, 4)]
def infV : Array Value := #[.int .i64 6, .string ⟨#[124]⟩, .string ⟨#[32, 124, 32]⟩, .int .i64 1, .int .i64 1, .int .i64 2, .int .i64 7, .string ⟨#[45]⟩, .string ⟨#[32, 45, 32]⟩, .int .i64 1, .int .i64 1, .int .i64 2, .int .i64 8, .string ⟨#[38]⟩, .string ⟨#[32, 38, 32]⟩, .int .i64 2, .int .i64 2, .int .i64 3, .int .i64 9, .string ⟨#[46, 46]⟩, .string ⟨#[46, 46]⟩, .int .i64 3, .int .i64 4, .int .i64 4, .int .i64 10, .string ⟨#[58, 58]⟩, .string ⟨#[58, 58]⟩, .int .i64 3, .int .i64 4, .int .i64 4]
/-- The table lies there. -/
def Inf (w : World) : Prop := ∃ t fz, w.heap[0]? = some (.cells infV t fz)
theorem Inf.lt {w : World} (h : Inf w) : 0 < w.heap.size := by
  obtain ⟨t, fz, h⟩ := h
  exact (Array.getElem?_eq_some_iff.1 h).1
theorem Inf.turned {S : Nat → Prop} {w w' : World} (h : Inf w) (ht : Turned S w w') (hS : ¬ S 0) : Inf w' := by
  have hlt := h.lt
  obtain ⟨t, fz, h⟩ := h
  exact ⟨t, fz, (ht.block _ hlt hS).trans h⟩
theorem Inf.below {w w' : World} (h : Inf w) (hb : Below w.heap.size w w') : Inf w' := h.turned (S := fun _ => False) (Turned.ofBelow hb) id

/-- A block of two cells. -/
def Box2 (w : World) (B : Nat) (t : TypeId) (a b : Value) : Prop := w.heap[B]? = some (.cells #[a, b] t (0, 0))
section
variable {w w' : World} {B : Nat} {t : TypeId} {a b : Value}
theorem Box2.lt (h : Box2 w B t a b) : B < w.heap.size := (Array.getElem?_eq_some_iff.1 h).1
theorem Box2.below (h : Box2 w B t a b) (hb : Below w.heap.size w w') : Box2 w' B t a b := (hb.block B h.lt).trans h
theorem Box2.turned {S : Nat → Prop} (h : Box2 w B t a b) (ht : Turned S w w') (hS : ¬ S B) : Box2 w' B t a b := (ht.block B h.lt hS).trans h
theorem Box2.cells (h : Box2 w B t a b) : w.cell? ⟨B, 0, none⟩ = some a ∧ w.cell? ⟨B, 1, none⟩ = some b := by
  unfold Box2 at h
  simp [World.cell?, h]
theorem Box2.thaw (h : Box2 w B t a b) : w.frozen? ⟨B, 0, none⟩ = false ∧ w.frozen? ⟨B, 1, none⟩ = false := by
  unfold Box2 at h
  simp [World.frozen?, h]
theorem Box2.new (w : World) (t : TypeId) (a b : Value) : Box2 (w.alloc (.cells #[a, b] t)) w.heap.size t a b := by
  unfold Box2 World.alloc
  simp
theorem Box2.put1 (h : Box2 w B t a b) (x : Value) : Box2 (w.setCell ⟨B, 1, none⟩ x) B t a x := by
  unfold Box2 at h ⊢
  simp [World.setCell, Array.getElem?_modify, h]
end

/-- A block of six cells. -/
def Box6 (w : World) (B : Nat) (t : TypeId) (a b c d e f : Value) : Prop := w.heap[B]? = some (.cells #[a, b, c, d, e, f] t (0, 0))
section
variable {w w' : World} {B : Nat} {t : TypeId} {a b c d e f : Value}
theorem Box6.lt (h : Box6 w B t a b c d e f) : B < w.heap.size := (Array.getElem?_eq_some_iff.1 h).1
theorem Box6.below (h : Box6 w B t a b c d e f) (hb : Below w.heap.size w w') : Box6 w' B t a b c d e f := (hb.block B h.lt).trans h
theorem Box6.turned {S : Nat → Prop} (h : Box6 w B t a b c d e f) (ht : Turned S w w') (hS : ¬ S B) : Box6 w' B t a b c d e f := (ht.block B h.lt hS).trans h
theorem Box6.cells (h : Box6 w B t a b c d e f) : w.cell? ⟨B, 0, none⟩ = some a ∧ w.cell? ⟨B, 1, none⟩ = some b ∧ w.cell? ⟨B, 2, none⟩ = some c ∧ w.cell? ⟨B, 3, none⟩ = some d ∧ w.cell? ⟨B, 4, none⟩ = some e ∧ w.cell? ⟨B, 5, none⟩ = some f := by
  unfold Box6 at h
  simp [World.cell?, h]
theorem Box6.thaw (h : Box6 w B t a b c d e f) : w.frozen? ⟨B, 0, none⟩ = false ∧ w.frozen? ⟨B, 1, none⟩ = false ∧ w.frozen? ⟨B, 2, none⟩ = false ∧ w.frozen? ⟨B, 3, none⟩ = false ∧ w.frozen? ⟨B, 4, none⟩ = false ∧ w.frozen? ⟨B, 5, none⟩ = false := by
  unfold Box6 at h
  simp [World.frozen?, h]
theorem Box6.new (w : World) (t : TypeId) (a b c d e f : Value) : Box6 (w.alloc (.cells #[a, b, c, d, e, f] t)) w.heap.size t a b c d e f := by
  unfold Box6 World.alloc
  simp
end

/-- The reader at a block, k tokens on. -/
structure Rst (w : World) (b : Nat) (ao : Option Addr) (n c : Nat) (ts : List Tk) (k : Nat) : Prop where
  box : Box2 w b 49 (.slice ao n c) (.int .i64 k)
  rd : RdG encT w ao ts
  len : ts.length = n
  le : k ≤ n
  cap : n ≤ c
  few : n ≤ 1024
  far : 0 < n → ∀ a, ao = some a → a.block < b
  inf : Inf w
  ib : 0 < b
  good : ∀ t ∈ ts, Gd t

section
variable {w w' : World} {b : Nat} {ao : Option Addr} {n c k : Nat} {ts : List Tk}
theorem RdG.far {α : Type} {E : Enc α} {S : Nat → Prop} {xs : List α} (h : RdG E w ao xs) (ht : Turned S w w') (hS : 0 < xs.length → ∀ a, ao = some a → ¬ S a.block) : RdG E w' ao xs := h.turnN ht hS
theorem Rst.below (h : Rst w b ao n c ts k) (hb : Below w.heap.size w w') : Rst w' b ao n c ts k :=
  ⟨h.box.below hb, h.rd.below hb, h.len, h.le, h.cap, h.few, h.far, h.inf.below hb, h.ib, h.good⟩
/-- One token on. -/
theorem Rst.next (h : Rst w b ao n c ts k) (hk : k < n) : Rst (w.setCell ⟨b, 1, none⟩ (.int .i64 ((k + 1 : Nat) : Int))) b ao n c ts (k + 1) := by
  have ht : Turned (fun g => g = b) w (w.setCell ⟨b, 1, none⟩ (.int .i64 ((k + 1 : Nat) : Int))) := (Turned.refl (fun g => g = b) w).setCell (p := ⟨b, 1, none⟩) (.inl rfl) _
  refine ⟨h.box.put1 _, h.rd.turnN ht (fun q a e => ?_), h.len, hk, h.cap, h.few, h.far, h.inf.turned ht (by have := h.ib; omega), h.ib, h.good⟩
  have := h.far (by have := h.len; omega) a e
  omega
theorem Rst.cells (h : Rst w b ao n c ts k) : w.cell? ⟨b, 0, none⟩ = some (.slice ao n c) ∧ w.cell? ⟨b, 1, none⟩ = some (.int .i64 k) ∧ w.frozen? ⟨b, 1, none⟩ = false := ⟨h.box.cells.1, h.box.cells.2, h.box.thaw.2⟩
end

/-- What is next: a token of no kind behind the last. -/
def pk : List Tk → Tk
  | [] => tk0
  | t :: _ => t
theorem pk_at {ts : List Tk} {k : Nat} {t : Tk} (h : ts[k]? = some t) : pk (ts.drop k) = t := by
  obtain ⟨hlt, rfl⟩ := List.getElem?_eq_some_iff.1 h
  rw [List.drop_eq_getElem_cons hlt]
  rfl
theorem pk_end {ts : List Tk} {k : Nat} (h : ts.length ≤ k) : pk (ts.drop k) = tk0 := by
  rw [List.drop_eq_nil_of_le h]
  rfl

theorem ba_toList (y : ByteArray) : (⟨y.data.toList.toArray⟩ : ByteArray) = y := by
  cases y
  simp

/-- A struct of five cells stored into a block of the call's own, behind draws. -/
theorem belowS5 {B : Nat} {w W : World} (h : Below B w W) (m : Nat) {g : Nat} (hg : B ≤ g) (a b c d e : Value) : Below B w ((((((W.drewN m).setCell ⟨g, 0, none⟩ a).setCell ⟨g, 1, none⟩ b).setCell ⟨g, 2, none⟩ c).setCell ⟨g, 3, none⟩ d).setCell ⟨g, 4, none⟩ e) :=
  ((((((show Below B w (W.drewN m) from h.trans ⟨rfl, rfl, rfl, Nat.le_refl _, fun _ _ => rfl⟩)).setCell (p := ⟨g, 0, none⟩) hg _).setCell (p := ⟨g, 1, none⟩) hg _).setCell (p := ⟨g, 2, none⟩) hg _).setCell (p := ⟨g, 3, none⟩) hg _).setCell (p := ⟨g, 4, none⟩) hg _

set_option maxHeartbeats 1600000 in
set_option maxRecDepth 100000 in
theorem peek_any {b : Nat} {ao : Option Addr} {n c k : Nat} {ts : List Tk} (w : World) (h : Rst w b ao n c ts k) :
    Calls Tryd.prog 59 #[.pointer (some ⟨b, 0, none⟩)] w fun e w' => e = .returned (.agg #[.int .i64 (pk (ts.drop k)).kind, .string ⟨(pk (ts.drop k)).text.toArray⟩, .int .i64 (pk (ts.drop k)).num, .int .u64 (pk (ts.drop k)).id, .int .i64 (pk (ts.drop k)).pos]) ∧ Below w.heap.size w w' := by
  have hle := h.le
  have hcap := h.cap
  have hlb := h.box.lt
  have hrd := h.rd
  have b1 := Box5.new w 54 (.int .i64 0) (.string ⟨#[]⟩) (.int .i64 0) (.int .u64 0) (.int .i64 0)
  have hb := bz1 w (.cells #[.int .i64 0, .string ⟨#[]⟩, .int .i64 0, .int .u64 0, .int .i64 0] 54)
  obtain ⟨W, hW⟩ : ∃ W, w.alloc (.cells #[.int .i64 0, .string ⟨#[]⟩, .int .i64 0, .int .u64 0, .int .i64 0] 54) = W := ⟨_, rfl⟩
  obtain ⟨m0, hm⟩ : ∃ m0, w.heap.size = m0 := ⟨_, rfl⟩
  rw [hW, hm] at b1
  rw [hW] at hb
  obtain ⟨e0, e1, e2, e3, e4⟩ := b1.cells
  obtain ⟨g0, g1, g2, g3, g4⟩ := b1.thaw
  have h' := h.below hb
  obtain ⟨c0, c1, f1⟩ := h'.cells
  have H : Hid (Rst W b ao n c ts k ∧ Below w.heap.size w W ∧ w.heap.size = m0) := ⟨h', hb, hm⟩
  rw [hm] at hlb
  have m1 : ¬ b = m0 := by omega
  have m2 : ¬ m0 = b := by omega
  clear h b1 hb h'
  by_cases hk : k < n
  · obtain ⟨t, ht⟩ : ∃ t, ts[k]? = some t := ⟨_, List.getElem?_eq_getElem (by rw [H.out.1.len]; omega)⟩
    rw [pk_at ht]
    obtain ⟨tb, off, rfl, hlt⟩ := hrd.some_of ht
    rw [hm] at hlt
    have m3 : ¬ tb = m0 := by omega
    have m4 : ¬ m0 = tb := by omega
    obtain ⟨_, k0, k1, k2, k3, k4⟩ := H.out.1.rd.tok ht
    have d1 : (0 : Int) ≤ (k : Int) := by omega
    have d2 : (k : Int) < (n : Int) := by omega
    have d3 : ((k : Int) == (n : Int)) = false := by rw [beq_eq_false_iff_ne]; omega
    clear ht hlt hrd
    go_enter Tryd.func59, Tryd.ntmps59
    go_upto_region 1 with fail
    clear hW hm
    go_big_quiet (fail)
    go_wp2_with fail
    go_region_held3 (fun w' => w'.cell? ⟨b, 0, none⟩ = some (.slice (some ⟨tb, off, none⟩) n c) ∧ w'.cell? ⟨b, 1, none⟩ = some (.int .i64 k) ∧ w'.cell? ⟨tb, off + k * 5, none⟩ = some (.int .i64 t.kind) ∧ w'.cell? ⟨tb, off + k * 5 + 1, none⟩ = some (.string ⟨t.text.toArray⟩) ∧ w'.cell? ⟨tb, off + k * 5 + 2, none⟩ = some (.int .i64 t.num) ∧ w'.cell? ⟨tb, off + k * 5 + 3, none⟩ = some (.int .u64 t.id) ∧ w'.cell? ⟨tb, off + k * 5 + 4, none⟩ = some (.int .i64 t.pos)) (go_keep) (fail)
    go_wp2_with fail
    refine bodyPost_ret (v := .agg #[.int .i64 t.kind, .string ⟨t.text.toArray⟩, .int .i64 t.num, .int .u64 t.id, .int .i64 t.pos]) ?_ rfl ⟨rfl, ?_⟩
    · simp [results, Tryd.f59]
      go_simp
    · exact belowS5 H.out.2.1 _ (by have := H.out.2.2; omega) _ _ _ _ _
  · obtain rfl : k = n := by omega
    rw [pk_end (by rw [H.out.1.len]; exact Nat.le_refl _)]
    simp only [tk0]
    go_enter Tryd.func59, Tryd.ntmps59
    go_upto_region 1 with fail
    clear hW hm
    go_big_quiet (fail)
    go_wp2_with fail
    refine bodyPost_ret (v := .agg #[.int .i64 0, .string ⟨#[]⟩, .int .i64 0, .int .u64 0, .int .i64 0]) ?_ rfl ⟨rfl, ?_⟩
    · simp [results, Tryd.f59]
      go_simp
    · exact belowS5 H.out.2.1 _ (by have := H.out.2.2; omega) _ _ _ _ _

end Go.Proofs.YtgeigegaoadmfaaDoor
