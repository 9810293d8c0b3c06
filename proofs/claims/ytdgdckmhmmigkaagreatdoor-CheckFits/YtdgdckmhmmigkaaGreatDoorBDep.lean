/-
  How many nodes a tree has; parse.depth and the reference's Depth by contracts. No condition but that a tree has not too many nodes.
-/
import Derived.Test.YtdgdckmhmmigkaaGreatDoorJPas
namespace Go.Proofs.YtdgdckmhmmigkaaGreatDoor
open Go.RowKit

def sz : Fo → Nat
  | .nil => 0
  | .cons _ _ _ _ kids _ next => sz kids + sz next + 1
def Nd.sz (n : Nd) : Nat := Go.Proofs.YtdgdckmhmmigkaaGreatDoor.sz n.kids + 1
theorem len_sz : ∀ f : Fo, len f ≤ sz f
  | .nil => Nat.le_refl _
  | .cons _ _ _ _ kids _ next => by
    have := len_sz next
    simp only [len, sz]
    omega
theorem dep_sz : ∀ f : Fo, dep f ≤ sz f
  | .nil => Nat.le_refl _
  | .cons _ _ _ _ kids _ next => by
    have h1 := dep_sz kids
    have h2 := dep_sz next
    simp only [dep, sz]
    omega
theorem ndL_sz : ∀ (f : Fo) (k : Nd), k ∈ ndL f → k.sz ≤ sz f
  | .nil, k, h => by cases h
  | .cons op text num id kids pos next, k, h => by
    rcases List.mem_cons.1 h with rfl | h
    · simp only [Nd.sz, sz]
      omega
    · have := ndL_sz next k h
      simp only [sz]
      omega

/-- By the kids first. -/
theorem fo_all {P : Nd → Prop} (h : ∀ n, (∀ k ∈ ndL n.kids, P k) → P n) : ∀ (f : Fo) (k : Nd), k ∈ ndL f → P k
  | .nil, k, hk => by cases hk
  | .cons op text num id kids pos next, k, hk => by
    rcases List.mem_cons.1 hk with rfl | hk
    · exact h _ (fo_all h kids)
    · exact fo_all h next k hk
theorem Nd.ind {P : Nd → Prop} (h : ∀ n, (∀ k ∈ ndL n.kids, P k) → P n) (n : Nd) : P n := h n (fo_all h n.kids)

theorem dep_snoc (l : List Nd) (x : Nd) : dep (foOf (l ++ [x])) = max (dep (foOf l)) x.dep := by
  induction l with
  | nil => simp [foOf, Nd.onto, dep, Nd.dep]
  | cons a l ih =>
    have e1 : foOf ((a :: l) ++ [x]) = a.onto (foOf (l ++ [x])) := rfl
    have e2 : foOf (a :: l) = a.onto (foOf l) := rfl
    rw [e1, e2]
    simp only [Nd.onto, dep, ih]
    omega
theorem dep_take {f : Fo} {i : Nat} {x : Nd} (h : (ndL f)[i]? = some x) : dep (foOf ((ndL f).take (i + 1))) = max (dep (foOf ((ndL f).take i))) x.dep := by
  rw [List.take_add_one, h]
  exact dep_snoc _ _

/-- A node as a value. -/
abbrev NV.val (v : NV) : Value := .agg #[.int .i64 v.op, .string ⟨v.text.toArray⟩, .int .i64 v.num, .int .u64 v.id, .slice v.ka v.kl v.kc, .int .i64 v.pos]

set_option maxHeartbeats 1600000 in
set_option maxRecDepth 100000 in
theorem depth_any (nd : Nd) : nd.sz ≤ 100000 → ∀ (Q : Nat → Prop) (w : World) (v : NV), NdIn Q w v nd → Calls Tryz.prog 23 #[v.val] w fun e w' => e = .returned (.int .i64 (nd.dep : Nat)) ∧ Below w.heap.size w w' := by
  induction nd using Nd.ind with
  | h nd ih =>
    intro hsz Q w v hv
    obtain ⟨us, hrd, _, hns, hul⟩ := hv.rows
    have hlen := hns.len
    rw [hul] at hlen
    have hkc := hv.kc
    have hl1 : v.kl ≤ 100000 := by
      have := len_sz nd.kids
      have := hv.kl
      simp only [Nd.sz] at hsz
      omega
    have hdn : nd.dep = dep (foOf ((ndL nd.kids).take v.kl)) + 1 := by
      rw [List.take_of_length_le (by omega), fo_ndL]
      rfl
    have hdm : ∀ i, dep (foOf ((ndL nd.kids).take i)) ≤ 100000 := by
      intro i
      have h1 : ∀ j, dep (foOf ((ndL nd.kids).take j)) ≤ dep (foOf ((ndL nd.kids).take (j + 1))) := by
        intro j
        rcases hj : (ndL nd.kids)[j]? with _ | x
        · rw [List.take_add_one, hj]
          simp
        · rw [dep_take hj]
          omega
      have h2 : ∀ j, dep (foOf ((ndL nd.kids).take i)) ≤ dep (foOf ((ndL nd.kids).take (i + j))) := by
        intro j
        induction j with
        | zero => exact Nat.le_refl _
        | succ j ihj => exact Nat.le_trans ihj (h1 _)
      have h3 := h2 (ndL nd.kids).length
      rw [List.take_of_length_le (show (ndL nd.kids).length ≤ i + (ndL nd.kids).length by omega), fo_ndL] at h3
      have := dep_sz nd.kids
      simp only [Nd.sz] at hsz
      omega
    have hih : ∀ (i : Nat) (x : Nd), (ndL nd.kids)[i]? = some x → ∀ (u : World) (kv : NV), NdIn Q u kv x → Calls Tryz.prog 23 #[kv.val] u fun e w' => e = .returned (.int .i64 (x.dep : Nat)) ∧ Below u.heap.size u w' := by
      intro i x hx u kv hk
      have hm := List.mem_of_getElem? hx
      exact ih x hm (by have := ndL_sz _ x hm; simp only [Nd.sz] at hsz ⊢; simp only [Nd.sz] at this; omega) Q u kv hk
    have H : Hid (RdG encN w v.ka us ∧ NdsIn Q w us (ndL nd.kids) ∧ us.length = v.kl ∧ (∀ i, dep (foOf ((ndL nd.kids).take i)) ≤ 100000) ∧ nd.dep = dep (foOf ((ndL nd.kids).take v.kl)) + 1 ∧ v.kl = (ndL nd.kids).length) := ⟨hrd, hns, hul, hdm, hdn, hlen⟩
    have HI : Hid (∀ (i : Nat) (x : Nd), (ndL nd.kids)[i]? = some x → ∀ (u : World) (kv : NV), NdIn Q u kv x → Calls Tryz.prog 23 #[kv.val] u fun e w' => e = .returned (.int .i64 (x.dep : Nat)) ∧ Below u.heap.size u w') := hih
    clear hrd hns hul hdm hdn hih ih hv hlen hsz
    obtain ⟨vo, vt, vn, vi, va, vl, vc, vp⟩ := v
    simp only at H hl1 hkc ⊢
    go_enter Tryz.func23, Tryz.ntmps23
    go_wp2_with fail
    go_loopg [3, 9] vl (fun g bv iv wr => ∃ (i : Nat), iv = .int .i64 i ∧ i + g = vl ∧ bv = .int .i64 (dep (foOf ((ndL nd.kids).take i)) : Nat) ∧ Hid (Below w.heap.size w wr))
    case atStart => exact ⟨0, rfl, by omega, rfl, bz1 w _⟩
    case round =>
      obtain ⟨i, rfl, hi, rfl, HB⟩ := hrel
      by_cases hin : i < vl
      · have hii : (i : Int) < (vl : Int) := by omega
        have hi0 : (0 : Int) ≤ (i : Int) := by omega
        obtain ⟨x, hx⟩ : ∃ x, (ndL nd.kids)[i]? = some x := ⟨_, List.getElem?_eq_getElem (by have := H.out.2.2.2.2.2; omega)⟩
        obtain ⟨kv, hkv, hkn⟩ := H.out.2.1.get hx
        have hrd := H.out.1.below HB.out
        obtain ⟨kb, koff, rfl, _⟩ := hrd.some_of hkv
        obtain ⟨k0, k1, k2, k3, k4, k5⟩ := hrd.node hkv
        have hc := fun u hb => HI.out i x hx u kv (hkn.below hb)
        have HDT : Hid (dep (foOf ((ndL nd.kids).take (i + 1))) = max (dep (foOf ((ndL nd.kids).take i))) x.dep) := dep_take hx
        have hd1 := H.out.2.2.2.1 i
        have hd2 := H.out.2.2.2.1 (i + 1)
        rw [HDT.out] at hd2
        clear hrd hx hkv hkn
        obtain ⟨ko, kt, kn, ki, ka, kl, kc, kp⟩ := kv
        simp only at k0 k1 k2 k3 k4 k5 hc
        have HC : Hid (∀ u, Below w.heap.size w u → _) := hc
        clear hc
        obtain ⟨D, hD⟩ : ∃ D, dep (foOf ((ndL nd.kids).take i)) = D := ⟨_, rfl⟩
        obtain ⟨X, hX⟩ : ∃ X, x.dep = X := ⟨_, rfl⟩
        rw [hD, hX] at HDT hd2
        rw [hD] at hd1 ⊢
        rw [hX] at HC
        clear hD hX
        go_wp2_with fail
        refine (HC.out _ (HB.out.trans ((bz1 wr _).mono HB.out.size))).mono ?_
        rintro e w3 ⟨rfl, b3⟩
        have HB3 : Hid (Below w.heap.size w w3) := (HB.out.trans ((bz1 wr _).mono HB.out.size)).trans (b3.mono (by have := HB.out.size; simp; omega))
        clear b3
        go_wp2_with fail
        go_roundg (gk - 1)
        case measure => omega
        case rel => exact ⟨i + 1, by go_num, by omega, by rw [HDT.out]; exact congrArg (Value.int .i64) (by omega), HB3.out⟩
      · obtain rfl : i = vl := by omega
        have HE : Hid (nd.dep = dep (foOf ((ndL nd.kids).take i)) + 1) := H.out.2.2.2.2.1
        have hd1 := H.out.2.2.2.1 i
        obtain ⟨D, hD⟩ : ∃ D, dep (foOf ((ndL nd.kids).take i)) = D := ⟨_, rfl⟩
        rw [hD] at HE hd1 ⊢
        clear hD
        go_wp2_with fail
        go_ret
        exact ⟨by rw [HE.out]; go_num, HB.out⟩

end Go.Proofs.YtdgdckmhmmigkaaGreatDoor
