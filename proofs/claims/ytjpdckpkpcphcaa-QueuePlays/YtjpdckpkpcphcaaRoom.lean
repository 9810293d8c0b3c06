/-
  A queue in memory: the one cell of its struct, the row of its items; and what a step that turns these blocks alone leaves of all others. No condition.
-/
import Derived.Test.YtjpdckpkpcphcaaPile
import Derived.WalkSmall
namespace Go.Proofs.Ytjpdckpkpcphcaa
open Go.RowKit

/-- The cells of a list of items. -/
def flat : List It → List Value
  | [] => []
  | x :: t => .int .i64 x.1 :: .int .u64 x.2 :: flat t

theorem flat_length : ∀ xs : List It, (flat xs).length = xs.length * 2
  | [] => rfl
  | _ :: t => by simp only [flat, List.length_cons, flat_length t]; omega

theorem flat_append : ∀ xs ys : List It, flat (xs ++ ys) = flat xs ++ flat ys
  | [], _ => rfl
  | _ :: t, ys => by simp only [List.cons_append, flat, flat_append t ys]

theorem flat_get0 : ∀ (xs : List It) (i : Nat), i < xs.length → (flat xs)[i * 2]? = some (.int .i64 (el xs i).1)
  | x :: t, 0, _ => rfl
  | x :: t, i + 1, h => by
    have := flat_get0 t i (by simpa using h)
    have e : el (x :: t) (i + 1) = el t i := rfl
    rw [e, ← this, show (i + 1) * 2 = i * 2 + 1 + 1 by omega]
    rfl

theorem flat_get1 : ∀ (xs : List It) (i : Nat), i < xs.length → (flat xs)[i * 2 + 1]? = some (.int .u64 (el xs i).2)
  | x :: t, 0, _ => rfl
  | x :: t, i + 1, h => by
    have := flat_get1 t i (by simpa using h)
    have e : el (x :: t) (i + 1) = el t i := rfl
    rw [e, ← this, show (i + 1) * 2 + 1 = i * 2 + 1 + 1 + 1 by omega]
    rfl

theorem flat_set : ∀ (xs : List It) (i : Nat) (x : It), (((flat xs).set (i * 2) (.int .i64 x.1)).set (i * 2 + 1) (.int .u64 x.2)) = flat (xs.set i x)
  | [], _, _ => rfl
  | y :: t, 0, x => rfl
  | y :: t, i + 1, x => by
    have := flat_set t i x
    rw [show (i + 1) * 2 = i * 2 + 1 + 1 by omega]
    simp only [flat, List.set_cons_succ, this]

theorem flat_take : ∀ (xs : List It) (n : Nat), (flat xs).take (n * 2) = flat (xs.take n)
  | [], n => by simp [flat]
  | y :: t, 0 => by simp [flat]
  | y :: t, n + 1 => by
    have := flat_take t n
    rw [show (n + 1) * 2 = n * 2 + 1 + 1 by omega]
    simp only [flat, List.take_succ_cons, this]

theorem flat_drop : ∀ (xs : List It) (n : Nat), (flat xs).drop (n * 2) = flat (xs.drop n)
  | [], n => by simp [flat]
  | y :: t, 0 => by simp [flat]
  | y :: t, n + 1 => by
    have := flat_drop t n
    rw [show (n + 1) * 2 = n * 2 + 1 + 1 by omega]
    simp only [flat, List.drop_succ_cons, this]

theorem flat_one : ∀ (xs : List It), ∀ u ∈ flat xs, u.oneCell' = true
  | [], u, h => by simp [flat] at h
  | x :: t, u, h => by
    simp only [flat, List.mem_cons] at h
    rcases h with rfl | rfl | h
    · rfl
    · rfl
    · exact flat_one t u h

/-- All blocks but those of S are as they were; the streams too; no block has gone. -/
structure Turned (S : Nat → Prop) (w w' : World) : Prop where
  os : w'.os = w.os
  tape : w'.tape = w.tape
  output : w'.output = w.output
  size : w.heap.size ≤ w'.heap.size
  block : ∀ k, k < w.heap.size → ¬ S k → w'.heap[k]? = w.heap[k]?

theorem Turned.refl (S : Nat → Prop) (w : World) : Turned S w w := ⟨rfl, rfl, rfl, Nat.le_refl _, fun _ _ _ => rfl⟩

theorem Turned.trans {S T : Nat → Prop} {a b c : World} (h : Turned S a b) (k : Turned T b c) (hT : ∀ i, i < a.heap.size → T i → S i) : Turned S a c :=
  ⟨k.os.trans h.os, k.tape.trans h.tape, k.output.trans h.output, Nat.le_trans h.size k.size,
    fun i hi hS => (k.block i (Nat.lt_of_lt_of_le hi h.size) (fun q => hS (hT i hi q))).trans (h.block i hi hS)⟩

theorem Turned.mono {S T : Nat → Prop} {a b : World} (h : Turned S a b) (hT : ∀ i, i < a.heap.size → S i → T i) : Turned T a b :=
  ⟨h.os, h.tape, h.output, h.size, fun i hi hn => h.block i hi (fun q => hn (hT i hi q))⟩

theorem Turned.ofBelow {S : Nat → Prop} {w w' : World} (h : Below w.heap.size w w') : Turned S w w' :=
  ⟨h.os, h.tape, h.output, h.size, fun k hk _ => h.block k hk⟩

theorem Turned.below {S : Nat → Prop} {w w' : World} (h : Turned S w w') {B : Nat} (hB : B ≤ w.heap.size) (hS : ∀ k, k < B → ¬ S k) : Below B w w' :=
  ⟨h.os, h.tape, h.output, h.size, fun k hk => h.block k (by omega) (hS k hk)⟩

theorem Turned.alloc {S : Nat → Prop} {a w : World} (h : Turned S a w) (o : Obj) : Turned S a (w.alloc o) :=
  h.trans (Turned.ofBelow (S := S) ((Below.refl _ w).alloc (Nat.le_refl _) o)) (fun _ _ q => q)

theorem Turned.setCell {S : Nat → Prop} {a w : World} (h : Turned S a w) {p : Addr} (hp : S p.block ∨ a.heap.size ≤ p.block) (u : Value) : Turned S a (w.setCell p u) :=
  h.trans (T := fun k => k = p.block) ⟨rfl, rfl, rfl, by simp [World.setCell], fun k _ hk => Below.heap_setCell _ _ _ _ hk⟩ (fun i hi e => by rcases hp with hp | hp
                                                                                                                                              · rw [e]; exact hp
                                                                                                                                              · omega)

theorem Turned.drew {S : Nat → Prop} {a w : World} (h : Turned S a w) : Turned S a w.drew := ⟨h.os, h.tape, h.output, h.size, h.block⟩

theorem Turned.grown {S : Nat → Prop} {a w w' : World} {row : Option Nat} (h : Turned S a w) (hg : w.grownBy w' row) (hr : ∀ k, k < a.heap.size → row = some k → S k) : Turned S a w' :=
  h.trans (T := fun k => row = some k) ⟨hg.os, hg.tape, hg.output, hg.size, fun k hk hn => hg.block k hk (fun e => hn e.symm)⟩ (fun i hi e => hr i hi e)

theorem ownsRow_turned {S : Nat → Prop} {w w' : World} {base : Nat} {e : TypeId} {size : Nat} {v : Value} {n : Nat} {xs : List Value} (h : w.ownsRow base e size v n xs) (ht : Turned S w w') (hS : ∀ g, v.ownBlock = some g → ¬ S g) :
    w'.ownsRow base e size v n xs := by
  refine ⟨h.1, ?_⟩
  rcases h.2 with hn | ⟨g, cap, cur, rfl, hb, hg, rest⟩
  · exact .inl hn
  · refine .inr ⟨g, cap, cur, rfl, hb, ?_, rest⟩
    rw [ht.block g (Array.getElem?_eq_some_iff.1 hg).1 (hS g rfl)]
    exact hg

/-- What an owned slice looks like. -/
theorem own_form {w : World} {base : Nat} {e : TypeId} {size : Nat} {v : Value} {n : Nat} {xs : List Value} (h : w.ownsRow base e size v n xs) :
    ∃ ao cap, v = .slice ao n cap ∧ n ≤ cap ∧ cap ≤ 9223372036854775807 ∧ (0 < n → ∃ g, ao = some ⟨g, 0, none⟩) := by
  rcases h.2 with ⟨rfl, rfl⟩ | ⟨g, cap, cur, rfl, hb, hg, h1, h2, h3, h4⟩
  · exact ⟨none, 0, rfl, by omega, by omega, fun h => absurd h (by omega)⟩
  · exact ⟨some ⟨g, 0, none⟩, cap, rfl, h1, by simpa [maxLen] using h2, fun _ => ⟨g, rfl⟩⟩

/-- A slice that is owned has as many items as it says. -/
theorem own_len {w : World} {base : Nat} {e : TypeId} {size m n cap : Nat} {ao : Option Addr} {xs : List Value} (h : w.ownsRow base e size (.slice ao n cap) m xs) : m = n := by
  rcases h.2 with ⟨e, h0⟩ | ⟨_, _, _, e, _⟩
  · cases e; exact h0
  · cases e; rfl

/-- The items of a row: their cells. -/
theorem own_cells {w : World} {base : Nat} {e : TypeId} {g n m cap : Nat} {xs : List It} (h : w.ownsRow base e 2 (.slice (some ⟨g, 0, none⟩) n cap) m (flat xs)) {i : Nat} (hi : i < xs.length) :
    w.cell? ⟨g, i * 2, none⟩ = some (.int .i64 (el xs i).1) ∧ w.cell? ⟨g, i * 2 + 1, none⟩ = some (.int .u64 (el xs i).2) ∧ w.frozen? ⟨g, i * 2, none⟩ = false ∧ w.frozen? ⟨g, i * 2 + 1, none⟩ = false := by
  have hl := h.1
  rw [flat_length] at hl
  have hmn : m = n := own_len h
  subst hmn
  refine ⟨?_, ?_, h.frozenAt _, h.frozenAt _⟩
  · rw [h.cellAt _ (by omega)]; exact flat_get0 xs i hi
  · rw [h.cellAt _ (by omega)]; exact flat_get1 xs i hi

/-- A queue at block b: its one cell holds v, a row of its own with these items. -/
structure QAt (w : World) (base b : Nat) (v : Value) (xs : List It) : Prop where
  struct : w.heap[b]? = some (.cells #[v] 46 (0, 0))
  own : w.ownsRow base 31 2 v xs.length (flat xs)

/-- The blocks of a queue. -/
def QSet (b : Nat) (v : Value) : Nat → Prop := fun k => k = b ∨ v.ownBlock = some k

theorem QAt.lt {w : World} {base b : Nat} {v : Value} {xs : List It} (h : QAt w base b v xs) : b < w.heap.size := (Array.getElem?_eq_some_iff.1 h.struct).1

theorem QAt.turned {S : Nat → Prop} {w w' : World} {base b : Nat} {v : Value} {xs : List It} (h : QAt w base b v xs) (ht : Turned S w w') (hS : ∀ k, QSet b v k → ¬ S k) : QAt w' base b v xs :=
  ⟨by rw [ht.block b h.lt (hS b (.inl rfl))]; exact h.struct, ownsRow_turned h.own ht (fun g hg => hS g (.inr hg))⟩

theorem QAt.below {w w' : World} {base b : Nat} {v : Value} {xs : List It} (h : QAt w base b v xs) (ht : Below w.heap.size w w') : QAt w' base b v xs :=
  h.turned (S := fun _ => False) (Turned.ofBelow ht) (fun _ _ q => q)

theorem QAt.cell {w : World} {base b : Nat} {v : Value} {xs : List It} (h : QAt w base b v xs) : w.cell? ⟨b, 0, none⟩ = some v := cell_of_one h.struct

theorem QAt.free {w : World} {base b : Nat} {v : Value} {xs : List It} (h : QAt w base b v xs) : w.frozen? ⟨b, 0, none⟩ = false := free_of_one h.struct

/-- The struct is no row. -/
theorem QAt.apart {w : World} {base b : Nat} {v : Value} {xs : List It} (h : QAt w base b v xs) : v.ownBlock ≠ some b := by
  intro e
  rcases h.own.2 with ⟨rfl, _⟩ | ⟨g, cap, cur, rfl, hb, hg, _⟩
  · simp [Value.ownBlock] at e
  · simp only [Value.ownBlock, Option.some.injEq] at e
    subst e
    rw [h.struct] at hg
    simp at hg

theorem ownsRow_drew {w : World} {base : Nat} {e : TypeId} {size : Nat} {v : Value} {n : Nat} {xs : List Value} (h : w.ownsRow base e size v n xs) : w.drew.ownsRow base e size v n xs := h

theorem QAt.drew {w : World} {base b : Nat} {v : Value} {xs : List It} (h : QAt w base b v xs) : QAt w.drew base b v xs := ⟨h.struct, h.own⟩

theorem QAt.drewN {w : World} {base b : Nat} {v : Value} {xs : List It} (h : QAt w base b v xs) (n : Nat) : QAt (w.drewN n) base b v xs := ⟨h.struct, h.own⟩

theorem Turned.drewN {S : Nat → Prop} {a w : World} (h : Turned S a w) (n : Nat) : Turned S a (w.drewN n) := ⟨h.os, h.tape, h.output, h.size, h.block⟩

/-- An item is stored at a place of the queue's row. -/
theorem QAt.put {w : World} {base b g n cap : Nat} {xs : List It} (h : QAt w base b (.slice (some ⟨g, 0, none⟩) n cap) xs) (i : Nat) (x : It) :
    QAt ((w.setCell ⟨g, i * 2, none⟩ (.int .i64 x.1)).setCell ⟨g, i * 2 + 1, none⟩ (.int .u64 x.2)) base b (.slice (some ⟨g, 0, none⟩) n cap) (xs.set i x) := by
  have hn : xs.length = n := own_len h.own
  subst hn
  have hne : b ≠ g := fun e => h.apart (by rw [e]; rfl)
  refine ⟨?_, ?_⟩
  · rw [Below.heap_setCell _ _ _ _ hne, Below.heap_setCell _ _ _ _ hne]; exact h.struct
  · rw [List.length_set, ← flat_set]
    exact ((h.own.stored (i * 2) _).1.stored (i * 2 + 1) _).1

/-- Two items of the queue's row are exchanged. -/
theorem QAt.swap {w : World} {base b g n cap : Nat} {xs : List It} (h : QAt w base b (.slice (some ⟨g, 0, none⟩) n cap) xs) {i j : Nat} {x y : It} (hx : el xs i = x) (hy : el xs j = y) :
    QAt ((((w.setCell ⟨g, i * 2, none⟩ (.int .i64 y.1)).setCell ⟨g, i * 2 + 1, none⟩ (.int .u64 y.2)).setCell ⟨g, j * 2, none⟩ (.int .i64 x.1)).setCell ⟨g, j * 2 + 1, none⟩ (.int .u64 x.2)) base b (.slice (some ⟨g, 0, none⟩) n cap) (sw xs i j) := by
  subst hx hy
  exact (h.put i _).put j _

theorem Turned.swap {S : Nat → Prop} {a w : World} {g i j k l : Nat} (h : Turned S a w) (hg : S g) (p q r s : Value) :
    Turned S a ((((w.setCell ⟨g, i, none⟩ p).setCell ⟨g, j, none⟩ q).setCell ⟨g, k, none⟩ r).setCell ⟨g, l, none⟩ s) :=
  (((h.setCell (.inl hg) p).setCell (.inl hg) q).setCell (.inl hg) r).setCell (.inl hg) s

end Go.Proofs.Ytjpdckpkpcphcaa
