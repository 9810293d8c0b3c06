/-
  The program's disk as one predicate: its six cells, its map, its files; what a step that turns some blocks alone leaves of it. No program but the numbers of types; no condition.
-/
import Derived.Test.YtlhlipjbcapidaaMem
namespace Go.Proofs.Ytlhlipjbcapidaa
open Go.RowKit

/-- The files of a disk: f tells the slice of each name; each but those of X holds its bytes, in a row of its own; no two lie in one row. -/
structure FilesX (w : World) (m : Nat) (S : Nat → Prop) (F : Fs) (f : Bs → Option Value) (X : Bs → Prop) : Prop where
  map : MapIs w m f F.length
  no : ∀ x, fget F x = none → f x = none
  yes : ∀ x bs, fget F x = some bs → ∃ v, f x = some v ∧ (X x ∨ OwnB w v bs)
  apart : ∀ x y u v g, x ≠ y → f x = some u → f y = some v → u.ownBlock = some g → v.ownBlock ≠ some g
  own : ∀ x v g, f x = some v → v.ownBlock = some g → S g

/-- A disk at block b. -/
structure DiskX (w : World) (b m : Nat) (f : Bs → Option Value) (a k : Int) (d : Dk) (S : Nat → Prop) (X : Bs → Prop) : Prop where
  cells : w.heap[b]? = some (.cells #[.map (some m), .int .i64 (d.writes : Int), .bool d.dead, .bool d.armed, .int .i64 a, .int .i64 k] 58 (0, 0))
  cut : d.armed = true → a = (d.after : Int) ∧ k = (d.keep : Int)
  files : FilesX w m S d.files f X
  mine : S b ∧ S m
  lt : ∀ i, S i → i < w.heap.size

abbrev DiskM (w : World) (b m : Nat) (f : Bs → Option Value) (a k : Int) (d : Dk) (S : Nat → Prop) : Prop := DiskX w b m f a k d S (fun _ => False)

/-- .. whatever its map is. -/
def DiskAt (w : World) (b : Nat) (d : Dk) (S : Nat → Prop) : Prop := ∃ m f a k, DiskM w b m f a k d S

theorem OwnB.block {w : World} {v : Value} {bs : Bs} (h : OwnB w v bs) {g : Nat} (hg : v.ownBlock = some g) : ∃ cur, w.heap[g]? = some (.cells cur 5 (0, 0)) := by
  rcases h.2 with ⟨rfl, _⟩ | ⟨g', cap, cur, rfl, _, hb, _⟩
  · simp [Value.ownBlock] at hg
  · have : g' = g := by simpa [Value.ownBlock] using hg
    subst this
    exact ⟨cur, hb⟩

theorem OwnB.turned {S : Nat → Prop} {w w' : World} {v : Value} {bs : Bs} (h : OwnB w v bs) (ht : Turned S w w') (hS : ∀ g, v.ownBlock = some g → ¬ S g) : OwnB w' v bs := ownsRow_turned h ht hS

theorem FilesX.turned {T S : Nat → Prop} {X : Bs → Prop} {w w' : World} {m : Nat} {F : Fs} {f : Bs → Option Value} (h : FilesX w m S F f X) (ht : Turned T w w') (hm : ¬ T m) (hf : ∀ x v g, f x = some v → ¬ X x → v.ownBlock = some g → ¬ T g) : FilesX w' m S F f X where
  map := h.map.turned ht hm
  no := h.no
  yes := fun x bs hx => by
    obtain ⟨v, hv, ho⟩ := h.yes x bs hx
    refine ⟨v, hv, ?_⟩
    rcases ho with q | q
    · exact .inl q
    · by_cases hX : X x
      · exact .inl hX
      · exact .inr (q.turned ht (fun g hg => hf x v g hv hX hg))
  apart := h.apart
  own := h.own

theorem FilesX.mono {S S' : Nat → Prop} {X X' : Bs → Prop} {w : World} {m : Nat} {F : Fs} {f : Bs → Option Value} (h : FilesX w m S F f X) (hS : ∀ i, S i → S' i) (hX : ∀ x, X x → X' x) : FilesX w m S' F f X' where
  map := h.map
  no := h.no
  yes := fun x bs hx => by
    obtain ⟨v, hv, ho⟩ := h.yes x bs hx
    exact ⟨v, hv, ho.imp (hX x) id⟩
  apart := h.apart
  own := fun x v g h1 h2 => hS g (h.own x v g h1 h2)

theorem DiskX.mono {S S' : Nat → Prop} {X X' : Bs → Prop} {w : World} {b m : Nat} {f : Bs → Option Value} {a k : Int} {d : Dk} (h : DiskX w b m f a k d S X) (hS : ∀ i, S i → S' i) (hX : ∀ x, X x → X' x) (hl : ∀ i, S' i → i < w.heap.size) : DiskX w b m f a k d S' X' :=
  ⟨h.cells, h.cut, h.files.mono hS hX, ⟨hS _ h.mine.1, hS _ h.mine.2⟩, hl⟩

section
variable {S : Nat → Prop} {X : Bs → Prop} {w w' : World} {b m : Nat} {f : Bs → Option Value} {a k : Int} {d : Dk}

theorem DiskX.lt_b (h : DiskX w b m f a k d S X) : b < w.heap.size := (Array.getElem?_eq_some_iff.1 h.cells).1

theorem DiskX.m_ne (h : DiskX w b m f a k d S X) : m ≠ b := by
  obtain ⟨es, c, hm⟩ := h.files.map.block
  intro e
  rw [e, h.cells] at hm
  cases hm

/-- The file of a name, its value and its bytes. -/
theorem DiskX.file (h : DiskX w b m f a k d S X) (x : Bs) : (fget d.files x = none ∧ f x = none) ∨ ∃ bs v, fget d.files x = some bs ∧ f x = some v ∧ (X x ∨ OwnB w v bs) := by
  cases e : fget d.files x with
  | none => exact .inl ⟨rfl, h.files.no x e⟩
  | some bs =>
    obtain ⟨v, h1, h2⟩ := h.files.yes x bs e
    exact .inr ⟨bs, v, rfl, h1, h2⟩

theorem DiskX.some_iff (h : DiskX w b m f a k d S X) (x : Bs) : (f x).isSome = (fget d.files x).isSome := by
  rcases h.file x with ⟨h1, h2⟩ | ⟨bs, v, h1, h2, _⟩ <;> rw [h1, h2] <;> rfl

/-- A file's row is neither the disk's own block nor its map. -/
theorem DiskM.row_ne (h : DiskM w b m f a k d S) {x : Bs} {v : Value} {g : Nat} (hx : f x = some v) (hg : v.ownBlock = some g) : g ≠ b ∧ g ≠ m := by
  rcases h.file x with ⟨_, h2⟩ | ⟨bs, u, _, h2, ho⟩
  · rw [h2] at hx; cases hx
  · rw [h2] at hx
    cases hx
    have ho : OwnB w v bs := ho.elim False.elim id
    obtain ⟨cur, hc⟩ := ho.block hg
    refine ⟨fun e => ?_, fun e => ?_⟩
    · rw [e, h.cells] at hc; cases hc
    · obtain ⟨es, c, hm⟩ := h.files.map.block
      rw [e, hm] at hc
      cases hc

theorem DiskX.cell (h : DiskX w b m f a k d S X) :
    w.cell? ⟨b, 0, none⟩ = some (.map (some m)) ∧ w.cell? ⟨b, 1, none⟩ = some (.int .i64 (d.writes : Int)) ∧ w.cell? ⟨b, 2, none⟩ = some (.bool d.dead) ∧ w.cell? ⟨b, 3, none⟩ = some (.bool d.armed) ∧
    w.cell? ⟨b, 4, none⟩ = some (.int .i64 a) ∧ w.cell? ⟨b, 5, none⟩ = some (.int .i64 k) ∧ ∀ i, w.frozen? ⟨b, i, none⟩ = false := by
  simp [World.cell?, World.frozen?, h.cells]

/-- A disk whose own block alone was written. -/
theorem DiskM.wrote (h : DiskM w b m f a k d S) (ht : Turned (fun i => i = b) w w') {d' : Dk} {a' k' : Int} (hf : d'.files = d.files)
    (hc : w'.heap[b]? = some (.cells #[.map (some m), .int .i64 (d'.writes : Int), .bool d'.dead, .bool d'.armed, .int .i64 a', .int .i64 k'] 58 (0, 0))) (hcut : d'.armed = true → a' = (d'.after : Int) ∧ k' = (d'.keep : Int)) : DiskM w' b m f a' k' d' S :=
  ⟨hc, hcut, by rw [hf]; exact h.files.turned ht h.m_ne (fun x v g h1 _ h2 => (h.row_ne h1 h2).1), h.mine, fun i hi => Nat.lt_of_lt_of_le (h.lt i hi) ht.size⟩

/-- A disk none of whose blocks was turned. -/
theorem DiskX.stays (h : DiskX w b m f a k d S X) {T : Nat → Prop} (ht : Turned T w w') (hT : ∀ i, S i → ¬ T i) : DiskX w' b m f a k d S X :=
  ⟨(ht.block b h.lt_b (hT b h.mine.1)).trans h.cells, h.cut, h.files.turned ht (hT m h.mine.2) (fun x v g h1 _ h2 => hT g (h.files.own x v g h1 h2)), h.mine, fun i hi => Nat.lt_of_lt_of_le (h.lt i hi) ht.size⟩

theorem DiskX.below (h : DiskX w b m f a k d S X) (hb : Below w.heap.size w w') : DiskX w' b m f a k d S X := h.stays (T := fun _ => False) (Turned.ofBelow hb) (fun _ _ q => q)

theorem DiskAt.stays (h : DiskAt w b d S) {T : Nat → Prop} (ht : Turned T w w') (hT : ∀ i, S i → ¬ T i) : DiskAt w' b d S := by
  obtain ⟨m, f, a, k, h⟩ := h
  exact ⟨m, f, a, k, DiskX.stays h ht hT⟩
theorem DiskAt.below (h : DiskAt w b d S) (hb : Below w.heap.size w w') : DiskAt w' b d S := h.stays (T := fun _ => False) (Turned.ofBelow hb) (fun _ _ q => q)
theorem DiskAt.mono {S' : Nat → Prop} (h : DiskAt w b d S) (hS : ∀ i, S i → S' i) (hl : ∀ i, S' i → i < w.heap.size) : DiskAt w b d S' := by
  obtain ⟨m, f, a, k, h⟩ := h
  exact ⟨m, f, a, k, DiskX.mono h hS (fun _ q => q) hl⟩
theorem DiskAt.lt (h : DiskAt w b d S) : ∀ i, S i → i < w.heap.size := by
  obtain ⟨m, f, a, k, h⟩ := h
  exact DiskX.lt h
theorem DiskAt.mine (h : DiskAt w b d S) : S b := by
  obtain ⟨m, f, a, k, h⟩ := h
  exact h.mine.1
end

/-- Blocks of S, and those made since. -/
def Since (S : Nat → Prop) (w w' : World) : Nat → Prop := fun i => S i ∨ (w.heap.size ≤ i ∧ i < w'.heap.size)

theorem set_block {w : World} {b : Nat} {c : Array Value} {t : TypeId} (h : w.heap[b]? = some (.cells c t (0, 0))) (i : Nat) (u : Value) : (w.setCell ⟨b, i, none⟩ u).heap[b]? = some (.cells (c.setIfInBounds i u) t (0, 0)) := by
  simp [World.setCell, Array.getElem?_modify, h]

theorem turned_set {w : World} {b : Nat} (i : Nat) (u : Value) : Turned (fun k => k = b) w (w.setCell ⟨b, i, none⟩ u) := (Turned.refl (fun k => k = b) w).setCell (p := ⟨b, i, none⟩) (.inl (show b = b from rfl)) u

end Go.Proofs.Ytlhlipjbcapidaa
