/-
  What the walk of TreeParts wants besides: where the list of paths is cut; three path sets in memory; two changes held against each other; a list behind a row within a region whose order is drawn.
-/
import Derived.Test.YtbclmpjcfddlcaaYRight
import Derived.Test.YtbclmpjcfddlcaaYCap
import Derived.Test.YtbclmpjcfddlcaaYAwake
import Derived.Test.YtbclmpjcfddlcaaYPartsP
namespace Go.Proofs.Ytbclmpjcfddlcaa
open Go.RowKit

theorem cut_val (z : Int) {ln : Nat} (h2 : 2 ≤ ln) (h16 : ln ≤ 16) : ∃ k : Nat, wrap64 (1 + wrap64 ((IntKind.u64.wrap z).tmod ((ln : Int) - 1))) = (k : Int) ∧ 0 < k ∧ k < ln := by
  have h0 : 0 ≤ IntKind.u64.wrap z := by
    unfold IntKind.wrap
    simp [IntKind.signed]
    exact Int.emod_nonneg _ (by simp [IntKind.bits])
  obtain ⟨u, hu⟩ : ∃ u, IntKind.u64.wrap z = u := ⟨_, rfl⟩
  rw [hu] at h0 ⊢
  have h1 : 0 ≤ u.tmod ((ln : Int) - 1) := Int.tmod_nonneg _ h0
  have h3 : u.tmod ((ln : Int) - 1) < (ln : Int) - 1 := Int.tmod_lt_of_pos _ (by omega)
  obtain ⟨q, hq⟩ : ∃ q, u.tmod ((ln : Int) - 1) = q := ⟨_, rfl⟩
  rw [hq] at h1 h3 ⊢
  refine ⟨(1 + q).toNat, ?_, by omega, by omega⟩
  unfold wrap64
  omega

/-- Three path sets in memory, each in a block. -/
structure Tri (W u : World) (P1 P2 P3 : Nat) (a1 a2 a3 : Option Addr) (n1 n2 n3 c1 c2 c3 : Nat) (L L1 L2 : List Bs) : Prop where
  x1 : u.cell? ⟨P1, 0, none⟩ = some (.slice a1 n1 c1)
  x2 : u.cell? ⟨P2, 0, none⟩ = some (.slice a2 n2 c2)
  x3 : u.cell? ⟨P3, 0, none⟩ = some (.slice a3 n3 c3)
  r1 : Rd u a1 L
  r2 : Rd u a2 L1
  r3 : Rd u a3 L2
  b : Below W.heap.size W u
  l1 : P1 < u.heap.size
  l2 : P2 < u.heap.size
  l3 : P3 < u.heap.size

theorem Tri.below {W u u' : World} {P1 P2 P3 : Nat} {a1 a2 a3 : Option Addr} {n1 n2 n3 c1 c2 c3 : Nat} {L L1 L2 : List Bs} (h : Tri W u P1 P2 P3 a1 a2 a3 n1 n2 n3 c1 c2 c3 L L1 L2) (hb : Below u.heap.size u u') : Tri W u' P1 P2 P3 a1 a2 a3 n1 n2 n3 c1 c2 c3 L L1 L2 :=
  ⟨(hb.cell (p := ⟨P1, 0, none⟩) h.l1).trans h.x1, (hb.cell (p := ⟨P2, 0, none⟩) h.l2).trans h.x2, (hb.cell (p := ⟨P3, 0, none⟩) h.l3).trans h.x3, h.r1.below hb, h.r2.below hb, h.r3.below hb, h.b.trans (hb.mono h.b.size), Nat.lt_of_lt_of_le h.l1 hb.size, Nat.lt_of_lt_of_le h.l2 hb.size, Nat.lt_of_lt_of_le h.l3 hb.size⟩

theorem eql36 (x y : Bs) (o o2 p p2 : UInt64) (f : Bool) (hf : decide (((x, o, o2) : Chg) = (y, p, p2)) = f) (w : World) : (binOp .eql 36 (.agg #[.string ⟨x.toArray⟩, .int .u64 (o.toNat : Int), .int .u64 (o2.toNat : Int)]) (.agg #[.string ⟨y.toArray⟩, .int .u64 (p.toNat : Int), .int .u64 (p2.toNat : Int)])).run Try.prog w = .ok (.bool f) w := by
  go_simp
  rw [← hf]
  have i : ∀ a b : UInt64, ((a.toNat : Int) = (b.toNat : Int)) ↔ a = b := fun a b => by rw [Int.ofNat_inj, UInt64.toNat_inj]
  simp only [i]
  by_cases h1 : x = y
  · by_cases h2 : o = p
    · by_cases h3 : o2 = p2 <;> simp [h1, h2, h3]
    · simp [h1, h2]
  · simp [h1]

/-- A list behind a row of the call's own, within a region whose order is drawn. -/
theorem stepG_list {α : Type} {ops : Array Oper} {o : Oper} {a : Act} {w : World} {K : Act → World → Prop} {Q : Exit → Act → World → Prop} {X : Prop} (E : Enc α) (e t : TypeId) (bytes : Nat) (z : Value) (hz : z.cells.size = E.size)
    (hinfo : (Try.prog.info? e).map (fun i => (i.zero, i.size, i.bytes)) = some (some z, E.size, bytes)) (hu : Try.prog.underlying t = some (.slice e)) (hgd : o.guard = none) (s x : Operand)
    (hop : o.op = .call { callee := .builtin .append, args := #[s, x], argTypes := #[t, t] }) (base : Nat) (v : Value) (ss xs : List α) (ao : Option Addr) (n c : Nat) (hs : a.eval s = v) (hown : OwnG E e w base v ss)
    (hx : a.eval x = .slice ao n c) (hr : RdG E w ao xs) (hl : xs.length = n) (hlen : (ss.length + n) * bytes ≤ 140737488355328) (hmax : ss.length + n ≤ maxLen) (hb : base ≤ w.heap.size)
    (h : ∀ v' w', OwnG E e w' base v' (ss ++ xs) → Below base w w' → Turned (fun k => v.ownBlock = some k) w w' → K (a.put o.dst v') w') :
    if Region.wanted o (yielded ops a.tmps) = true then Oper.wp Try.prog o a w K Q else X := by
  obtain ⟨i0, hi0, hz0, hz1, hz2⟩ := info_parts hinfo
  by_cases h0 : 0 < xs.length
  · obtain ⟨b, off, rfl, hlt, hc⟩ := hr h0
    refine step_append_moved hgd s x t hop base e i0 _ E.size bytes hu hi0 hz0 hz1 hz2 hz E.pos v ss.length (E.all ss) hs hown ⟨b, off, none⟩ n c (E.all xs) hx (by rw [E.all_length, hl]) (by
      intro k u hk
      obtain ⟨i, j, y, rfl, hj, hy, hu⟩ := E.all_split xs k u hk
      rw [addr_plus]
      exact hc i y hy j u hu) (E.all_one xs) hmax hlen hb ?_
    intro v' w' h1 h2 h3
    have ht : Turned (fun k => v.ownBlock = some k) w w' := (Turned.refl _ _).grown h2 (fun k _ e => e)
    refine h v' w' ?_ (OwnG.turn hown hb ht) ht
    unfold OwnG
    rw [List.length_append, E.all_append, hl]
    exact h1
  · obtain rfl : xs = [] := List.eq_nil_of_length_eq_zero (by omega)
    obtain rfl : n = 0 := hl.symm
    obtain ⟨ao2, cap, rfl, hle, _, _⟩ := hown.form
    have hw : Region.wanted o (yielded ops a.tmps) = true := by simp [Region.wanted, hgd]
    rw [if_pos hw]
    have hrun := run_append_none t o.type e i0 hu hi0 ao2 ss.length cap hle ao c w
    unfold Oper.wp
    simp [execOp, hop, resolve, invoke, builtin, hs, hx, hrun, Result.andThen]
    exact h _ w (by rw [List.append_nil]; exact hown) (Below.refl _ _) (Turned.refl _ _)

end Go.Proofs.Ytbclmpjcfddlcaa
