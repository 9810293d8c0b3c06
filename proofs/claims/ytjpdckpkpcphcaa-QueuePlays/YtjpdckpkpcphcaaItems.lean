/-
  A list of items that came in, as the laws of layer 2 read it; one item made for the program; one item put behind a row of the call's own. No condition but that the row is short.
-/
import Derived.Test.YtjpdckpkpcphcaaAwake
namespace Go.Proofs.Ytjpdckpkpcphcaa
open Go.RowKit

/-- The cells of a list of items that came in: nothing is asked of an empty one's address. -/
def ItemsIn (w : World) (ao : Option Addr) (xs : List It) : Prop := 0 < xs.length → ∃ b off, ao = some ⟨b, off, none⟩ ∧ b < w.heap.size ∧
  ∀ i, i < xs.length → w.cell? ⟨b, off + i * 2, none⟩ = some (.int .i64 (el xs i).1) ∧ w.cell? ⟨b, off + i * 2 + 1, none⟩ = some (.int .u64 (el xs i).2)

theorem ItemsIn.below {w w' : World} {ao : Option Addr} {xs : List It} (h : ItemsIn w ao xs) (hb : Below w.heap.size w w') : ItemsIn w' ao xs := by
  intro h0
  obtain ⟨b, off, rfl, hlt, hc⟩ := h h0
  exact ⟨b, off, rfl, Nat.lt_of_lt_of_le hlt hb.size, fun i hi => ⟨(hb.cell hlt).trans (hc i hi).1, (hb.cell hlt).trans (hc i hi).2⟩⟩

set_option maxHeartbeats 400000 in
theorem item_raw (a : It) (w : World) :
    Calls Try.prog 7 #[.agg #[.int .i64 a.1, .int .u64 a.2]] w fun e w' => e = .returned (.agg #[.int .i64 a.1, .int .u64 a.2]) ∧
      w' = (w.alloc (.cells #[.int .i64 a.1, .int .u64 a.2] 28)).alloc (.cells #[.int .i64 a.1, .int .u64 a.2] 31) := by
  go_enter Try.func7, Try.ntmps7
  go_wp2
  refine bodyPost_ret (v := .agg #[.int .i64 a.1, .int .u64 a.2]) ?_ rfl ⟨rfl, rfl⟩
  simp [results, Try.f7]
  go_simp

theorem item_below (a : It) (w : World) :
    Calls Try.prog 7 #[.agg #[.int .i64 a.1, .int .u64 a.2]] w fun e w' => e = .returned (.agg #[.int .i64 a.1, .int .u64 a.2]) ∧ Below w.heap.size w w' := by
  refine (item_raw a w).mono ?_
  rintro e w' ⟨rfl, rfl⟩
  exact ⟨rfl, below_alloc2 w _ _⟩

/-- A row of the call's own behind an append: it, and what it does not touch. -/
theorem row_grown {w w' : World} {base : Nat} {e : TypeId} {v v' : Value} {xs : List It} {x : It} {n : Nat} (o : Obj) (hn : xs.length = n) (hown : w'.ownsRow base e 2 v' (n + 1) (flat xs ++ flat [x])) (hgrow : (w.alloc o).grownBy w' v.ownBlock) (hmov : Moved (w.alloc o) v v') :
    w'.ownsRow base e 2 v' (xs ++ [x]).length (flat (xs ++ [x])) ∧ Turned (fun k => v.ownBlock = some k) w w' ∧ Moved w v v' := by
  subst hn
  refine ⟨?_, ?_, ?_⟩
  · have e1 : (xs ++ [x]).length = xs.length + 1 := by simp
    rw [e1, flat_append]
    exact hown
  · exact ((Turned.refl _ w).alloc o).grown hgrow (fun k _ e => e)
  · rcases hmov with hm | hm
    · exact .inl hm
    · exact .inr (fun g hg => by have := hm g hg; simp at this; omega)

theorem QAt.set_lt {w : World} {base b : Nat} {v : Value} {xs : List It} (h : QAt w base b v xs) : ∀ k, QSet b v k → k < w.heap.size := by
  rintro k (q | q)
  · rw [q]; exact h.lt
  · exact (h.own.lt k q).2

/-- A row of items and a queue, both of the call's own, apart from each other; all that was there when the call began is as it was. -/
structure RQ (W w : World) (base b : Nat) (e : TypeId) (iv : Value) (js : List It) (v : Value) (zs : List It) : Prop where
  row : w.ownsRow base e 2 iv js.length (flat js)
  que : QAt w base b v zs
  bel : Below base W w
  low : base ≤ b
  apart : ∀ g, iv.ownBlock = some g → ¬ QSet b v g

theorem RQ.big {W w : World} {base b : Nat} {e : TypeId} {iv : Value} {js : List It} {v : Value} {zs : List It} (h : RQ W w base b e iv js v zs) : base ≤ w.heap.size :=
  Nat.le_of_lt (Nat.lt_of_le_of_lt h.low h.que.lt)

theorem RQ.below {W w w' : World} {base b : Nat} {e : TypeId} {iv : Value} {js : List It} {v : Value} {zs : List It} (h : RQ W w base b e iv js v zs) (hb : Below w.heap.size w w') : RQ W w' base b e iv js v zs :=
  ⟨ownsRow_turned (S := fun _ => False) h.row (Turned.ofBelow hb) (fun _ _ q => q), h.que.below hb, h.bel.trans (hb.mono h.big), h.low, h.apart⟩

/-- One item more in the row. -/
theorem RQ.append {W w w' : World} {base b : Nat} {e : TypeId} {iv iv' : Value} {js : List It} {v : Value} {zs : List It} {x : It} {n : Nat} (h : RQ W w base b e iv js v zs) (o : Obj) (hn : js.length = n)
    (hown : w'.ownsRow base e 2 iv' (n + 1) (flat js ++ flat [x])) (hgrow : (w.alloc o).grownBy w' iv.ownBlock) (hmov : Moved (w.alloc o) iv iv') : RQ W w' base b e iv' (js ++ [x]) v zs := by
  obtain ⟨g1, g2, g3⟩ := row_grown o hn hown hgrow hmov
  refine ⟨g1, h.que.turned g2 (fun k hk q => h.apart k q hk), h.bel.trans (g2.below h.big (fun k hk q => ?_)), h.low, ?_⟩
  · have := (h.row.lt k q).1
    omega
  · intro g hg q
    rcases g3 with g3 | g3
    · exact h.apart g (by rw [← g3]; exact hg) q
    · have := g3 g hg
      have := h.que.set_lt g q
      omega

/-- The queue alone is turned. -/
theorem RQ.turn {W w w' : World} {base b : Nat} {e : TypeId} {iv : Value} {js : List It} {v v' : Value} {zs zs' : List It} (h : RQ W w base b e iv js v zs) (q1 : QAt w' base b v' zs') (q4 : Turned (QSet b v) w w') (q5 : Moved w v v') :
    RQ W w' base b e iv js v' zs' := by
  refine ⟨ownsRow_turned h.row q4 h.apart, q1, h.bel.trans (q4.below h.big (h.que.own_set h.low)), h.low, ?_⟩
  intro g hg q
  exact h.apart g hg (q5.set ((h.row.lt g hg).2) q)

/-- One item in a new row of its own, ahead of a Push. -/
theorem lit_own (w : World) (x : It) (base : Nat) (hb : base ≤ w.heap.size) : (w.alloc (.cells #[.int .i64 x.1, .int .u64 x.2] 31)).ownsRow base 31 2 (.slice (some ⟨w.heap.size, 0, none⟩) 1 1) [x].length (flat [x]) :=
  World.ownsRow_lit w _ 1 hb (by decide) rfl

end Go.Proofs.Ytjpdckpkpcphcaa
