import Derived.Test.YtijchmcajhdcoaaGreatDoorJPas
import Derived.Test.YtijchmcajhdcoaaGreatDoorJShw
import Derived.Test.YtijchmcajhdcoaaGreatDoorJGrm
import Derived.Lib.ItoaLen
/-!
  How many nodes a tree has; parse.depth and the reference's Depth by contracts. No condition but that a tree has not too many nodes.
-/
namespace Go.Proofs.YtijchmcajhdcoaaGreatDoor
open Go.RowKit

def sz : Fo → Nat
  | .nil => 0
  | .cons _ _ _ _ kids _ next => sz kids + sz next + 1
def Nd.sz (n : Nd) : Nat := Go.Proofs.YtijchmcajhdcoaaGreatDoor.sz n.kids + 1
theorem len_sz : ∀ f : Fo, len f ≤ sz f
  | .nil => Nat.le_refl _
  | .cons _ _ _ _ kids _ next => by
    have := len_sz next
    simp only [len, sz]
    omega
theorem dep_sz : ∀ f : Fo, dep f ≤ sz f
  | .nil => Nat.le_refl _
  | .cons _ _ _ _ kids _ next => by
    have h1 := dep_sz kids
    have h2 := dep_sz next
    simp only [dep, sz]
    omega
theorem ndL_sz : ∀ (f : Fo) (k : Nd), k ∈ ndL f → k.sz ≤ sz f
  | .nil, k, h => by cases h
  | .cons op text num id kids pos next, k, h => by
    rcases List.mem_cons.1 h with rfl | h
    · simp only [Nd.sz, sz]
      omega
    · have := ndL_sz next k h
      simp only [sz]
      omega

/-- By the kids first. -/
theorem fo_all {P : Nd → Prop} (h : ∀ n, (∀ k ∈ ndL n.kids, P k) → P n) : ∀ (f : Fo) (k : Nd), k ∈ ndL f → P k
  | .nil, k, hk => by cases hk
  | .cons op text num id kids pos next, k, hk => by
    rcases List.mem_cons.1 hk with rfl | hk
    · exact h _ (fo_all h kids)
    · exact fo_all h next k hk
theorem Nd.ind {P : Nd → Prop} (h : ∀ n, (∀ k ∈ ndL n.kids, P k) → P n) (n : Nd) : P n := h n (fo_all h n.kids)

theorem dep_snoc (l : List Nd) (x : Nd) : dep (foOf (l ++ [x])) = max (dep (foOf l)) x.dep := by
  induction l with
  | nil => simp [foOf, Nd.onto, dep, Nd.dep]
  | cons a l ih =>
    have e1 : foOf ((a :: l) ++ [x]) = a.onto (foOf (l ++ [x])) := rfl
    have e2 : foOf (a :: l) = a.onto (foOf l) := rfl
    rw [e1, e2]
    simp only [Nd.onto, dep, ih]
    omega
theorem dep_take {f : Fo} {i : Nat} {x : Nd} (h : (ndL f)[i]? = some x) : dep (foOf ((ndL f).take (i + 1))) = max (dep (foOf ((ndL f).take i))) x.dep := by
  rw [List.take_add_one, h]
  exact dep_snoc _ _

/-- A node as a value. -/
abbrev NV.val (v : NV) : Value := .agg #[.int .i64 v.op, .string ⟨v.text.toArray⟩, .int .i64 v.num, .int .u64 v.id, .slice v.ka v.kl v.kc, .int .i64 v.pos]

set_option maxHeartbeats 1600000 in
set_option maxRecDepth 100000 in
theorem depth_any (nd : Nd) : nd.sz ≤ 100000 → ∀ (Q : Nat → Prop) (w : World) (v : NV), NdIn Q w v nd → Calls Tryz.prog 13 #[v.val] w fun e w' => e = .returned (.int .i64 (nd.dep : Nat)) ∧ Below w.heap.size w w' := by
  induction nd using Nd.ind with
  | h nd ih =>
    intro hsz Q w v hv
    obtain ⟨us, hrd, _, hns, hul⟩ := hv.rows
    have hlen := hns.len
    rw [hul] at hlen
    have hkc := hv.kc
    have hl1 : v.kl ≤ 100000 := by
      have := len_sz nd.kids
      have := hv.kl
      simp only [Nd.sz] at hsz
      omega
    have hdn : nd.dep = dep (foOf ((ndL nd.kids).take v.kl)) + 1 := by
      rw [List.take_of_length_le (by omega), fo_ndL]
      rfl
    have hdm : ∀ i, dep (foOf ((ndL nd.kids).take i)) ≤ 100000 := by
      intro i
      have h1 : ∀ j, dep (foOf ((ndL nd.kids).take j)) ≤ dep (foOf ((ndL nd.kids).take (j + 1))) := by
        intro j
        rcases hj : (ndL nd.kids)[j]? with _ | x
        · rw [List.take_add_one, hj]
          simp
        · rw [dep_take hj]
          omega
      have h2 : ∀ j, dep (foOf ((ndL nd.kids).take i)) ≤ dep (foOf ((ndL nd.kids).take (i + j))) := by
        intro j
        induction j with
        | zero => exact Nat.le_refl _
        | succ j ihj => exact Nat.le_trans ihj (h1 _)
      have h3 := h2 (ndL nd.kids).length
      rw [List.take_of_length_le (show (ndL nd.kids).length ≤ i + (ndL nd.kids).length by omega), fo_ndL] at h3
      have := dep_sz nd.kids
      simp only [Nd.sz] at hsz
      omega
    have hih : ∀ (i : Nat) (x : Nd), (ndL nd.kids)[i]? = some x → ∀ (u : World) (kv : NV), NdIn Q u kv x → Calls Tryz.prog 13 #[kv.val] u fun e w' => e = .returned (.int .i64 (x.dep : Nat)) ∧ Below u.heap.size u w' := by
      intro i x hx u kv hk
      have hm := List.mem_of_getElem? hx
      exact ih x hm (by have := ndL_sz _ x hm; simp only [Nd.sz] at hsz ⊢; simp only [Nd.sz] at this; omega) Q u kv hk
    have H : Hid (RdG encN w v.ka us ∧ NdsIn Q w us (ndL nd.kids) ∧ us.length = v.kl ∧ (∀ i, dep (foOf ((ndL nd.kids).take i)) ≤ 100000) ∧ nd.dep = dep (foOf ((ndL nd.kids).take v.kl)) + 1 ∧ v.kl = (ndL nd.kids).length) := ⟨hrd, hns, hul, hdm, hdn, hlen⟩
    have HI : Hid (∀ (i : Nat) (x : Nd), (ndL nd.kids)[i]? = some x → ∀ (u : World) (kv : NV), NdIn Q u kv x → Calls Tryz.prog 13 #[kv.val] u fun e w' => e = .returned (.int .i64 (x.dep : Nat)) ∧ Below u.heap.size u w') := hih
    clear hrd hns hul hdm hdn hih ih hv hlen hsz
    obtain ⟨vo, vt, vn, vi, va, vl, vc, vp⟩ := v
    simp only at H hl1 hkc ⊢
    go_enter Tryz.func13, Tryz.ntmps13
    go_wp2_with fail
    go_loopg [3, 9] vl (fun g bv iv wr => ∃ (i : Nat), iv = .int .i64 i ∧ i + g = vl ∧ bv = .int .i64 (dep (foOf ((ndL nd.kids).take i)) : Nat) ∧ Hid (Below w.heap.size w wr))
    case atStart => exact ⟨0, rfl, by omega, rfl, bz1 w _⟩
    case round =>
      obtain ⟨i, rfl, hi, rfl, HB⟩ := hrel
      by_cases hin : i < vl
      · have hii : (i : Int) < (vl : Int) := by omega
        have hi0 : (0 : Int) ≤ (i : Int) := by omega
        obtain ⟨x, hx⟩ : ∃ x, (ndL nd.kids)[i]? = some x := ⟨_, List.getElem?_eq_getElem (by have := H.out.2.2.2.2.2; omega)⟩
        obtain ⟨kv, hkv, hkn⟩ := H.out.2.1.get hx
        have hrd := H.out.1.below HB.out
        obtain ⟨kb, koff, rfl, _⟩ := hrd.some_of hkv
        obtain ⟨k0, k1, k2, k3, k4, k5⟩ := hrd.node hkv
        have hc := fun u hb => HI.out i x hx u kv (hkn.below hb)
        have HDT : Hid (dep (foOf ((ndL nd.kids).take (i + 1))) = max (dep (foOf ((ndL nd.kids).take i))) x.dep) := dep_take hx
        have hd1 := H.out.2.2.2.1 i
        have hd2 := H.out.2.2.2.1 (i + 1)
        rw [HDT.out] at hd2
        clear hrd hx hkv hkn
        obtain ⟨ko, kt, kn, ki, ka, kl, kc, kp⟩ := kv
        simp only at k0 k1 k2 k3 k4 k5 hc
        have HC : Hid (∀ u, Below w.heap.size w u → _) := hc
        clear hc
        obtain ⟨D, hD⟩ : ∃ D, dep (foOf ((ndL nd.kids).take i)) = D := ⟨_, rfl⟩
        obtain ⟨X, hX⟩ : ∃ X, x.dep = X := ⟨_, rfl⟩
        rw [hD, hX] at HDT hd2
        rw [hD] at hd1 ⊢
        rw [hX] at HC
        clear hD hX
        go_wp2_with fail
        refine (HC.out _ (HB.out.trans ((bz1 wr _).mono HB.out.size))).mono ?_
        rintro e w3 ⟨rfl, b3⟩
        have HB3 : Hid (Below w.heap.size w w3) := (HB.out.trans ((bz1 wr _).mono HB.out.size)).trans (b3.mono (by have := HB.out.size; simp; omega))
        clear b3
        go_wp2_with fail
        go_roundg (gk - 1)
        case measure => omega
        case rel => exact ⟨i + 1, by go_num, by omega, by rw [HDT.out]; exact congrArg (Value.int .i64) (by omega), HB3.out⟩
      · obtain rfl : i = vl := by omega
        have HE : Hid (nd.dep = dep (foOf ((ndL nd.kids).take i)) + 1) := H.out.2.2.2.2.1
        have hd1 := H.out.2.2.2.1 i
        obtain ⟨D, hD⟩ : ∃ D, dep (foOf ((ndL nd.kids).take i)) = D := ⟨_, rfl⟩
        rw [hD] at HE hd1 ⊢
        clear hD
        go_wp2_with fail
        go_ret
        exact ⟨by rw [HE.out]; go_num, HB.out⟩

set_option maxHeartbeats 1600000 in
set_option maxRecDepth 100000 in
theorem rdepth_any (nd : Nd) : nd.sz ≤ 100000 → ∀ (Q : Nat → Prop) (w : World) (v : NV), NdIn Q w v nd → Calls Tryz.prog 22 #[v.val] w fun e w' => e = .returned (.int .i64 (nd.dep : Nat)) ∧ Below w.heap.size w w' := by
  induction nd using Nd.ind with
  | h nd ih =>
    intro hsz Q w v hv
    obtain ⟨us, hrd, _, hns, hul⟩ := hv.rows
    have hlen := hns.len
    rw [hul] at hlen
    have hkc := hv.kc
    have hl1 : v.kl ≤ 100000 := by
      have := len_sz nd.kids
      have := hv.kl
      simp only [Nd.sz] at hsz
      omega
    have hdn : nd.dep = dep (foOf ((ndL nd.kids).take v.kl)) + 1 := by
      rw [List.take_of_length_le (by omega), fo_ndL]
      rfl
    have hdm : ∀ i, dep (foOf ((ndL nd.kids).take i)) ≤ 100000 := by
      intro i
      have h1 : ∀ j, dep (foOf ((ndL nd.kids).take j)) ≤ dep (foOf ((ndL nd.kids).take (j + 1))) := by
        intro j
        rcases hj : (ndL nd.kids)[j]? with _ | x
        · rw [List.take_add_one, hj]
          simp
        · rw [dep_take hj]
          omega
      have h2 : ∀ j, dep (foOf ((ndL nd.kids).take i)) ≤ dep (foOf ((ndL nd.kids).take (i + j))) := by
        intro j
        induction j with
        | zero => exact Nat.le_refl _
        | succ j ihj => exact Nat.le_trans ihj (h1 _)
      have h3 := h2 (ndL nd.kids).length
      rw [List.take_of_length_le (show (ndL nd.kids).length ≤ i + (ndL nd.kids).length by omega), fo_ndL] at h3
      have := dep_sz nd.kids
      simp only [Nd.sz] at hsz
      omega
    have hih : ∀ (i : Nat) (x : Nd), (ndL nd.kids)[i]? = some x → ∀ (u : World) (kv : NV), NdIn Q u kv x → Calls Tryz.prog 22 #[kv.val] u fun e w' => e = .returned (.int .i64 (x.dep : Nat)) ∧ Below u.heap.size u w' := by
      intro i x hx u kv hk
      have hm := List.mem_of_getElem? hx
      exact ih x hm (by have := ndL_sz _ x hm; simp only [Nd.sz] at hsz ⊢; simp only [Nd.sz] at this; omega) Q u kv hk
    have H : Hid (RdG encN w v.ka us ∧ NdsIn Q w us (ndL nd.kids) ∧ us.length = v.kl ∧ (∀ i, dep (foOf ((ndL nd.kids).take i)) ≤ 100000) ∧ nd.dep = dep (foOf ((ndL nd.kids).take v.kl)) + 1 ∧ v.kl = (ndL nd.kids).length) := ⟨hrd, hns, hul, hdm, hdn, hlen⟩
    have HI : Hid (∀ (i : Nat) (x : Nd), (ndL nd.kids)[i]? = some x → ∀ (u : World) (kv : NV), NdIn Q u kv x → Calls Tryz.prog 22 #[kv.val] u fun e w' => e = .returned (.int .i64 (x.dep : Nat)) ∧ Below u.heap.size u w') := hih
    clear hrd hns hul hdm hdn hih ih hv hlen hsz
    obtain ⟨vo, vt, vn, vi, va, vl, vc, vp⟩ := v
    simp only at H hl1 hkc ⊢
    obtain ⟨W1, m1, hW1, hm1, hx1, bW1, _, hB1, hlt1⟩ := lay6 (Below.refl _ w) (Nat.le_refl _) 34 (.int .i64 vo) (.string ⟨vt.toArray⟩) (.int .i64 vn) (.int .u64 vi) (.slice va vl vc) (.int .i64 vp)
    have HX : Hid (Box6 W1 m1 34 (.int .i64 vo) (.string ⟨vt.toArray⟩) (.int .i64 vn) (.int .u64 vi) (.slice va vl vc) (.int .i64 vp) ∧ Below w.heap.size w W1) := ⟨hx1, bW1⟩
    clear hx1 bW1
    go_enter Tryz.func22, Tryz.ntmps22
    go_upto_region 1 with fail
    clear hW1 hm1
    go_wp2_with fail
    go_loopg [3, 4] vl (fun g bv iv wr => ∃ (i : Nat), iv = .int .i64 i ∧ i + g = vl ∧ bv = .int .i64 (dep (foOf ((ndL nd.kids).take i)) : Nat) ∧ Hid (Below W1.heap.size W1 wr))
    case atStart => exact ⟨0, rfl, by omega, rfl, Below.refl _ _⟩
    case round =>
      obtain ⟨i, rfl, hi, rfl, HB1⟩ := hrel
      have HB : Hid (Below w.heap.size w wr) := HX.out.2.trans (HB1.out.mono HX.out.2.size)
      obtain ⟨s0, s1, s2, s3, s4, s5⟩ := (HX.out.1.below HB1.out).cells
      by_cases hin : i < vl
      · have hii : (i : Int) < (vl : Int) := by omega
        have hi0 : (0 : Int) ≤ (i : Int) := by omega
        obtain ⟨x, hx⟩ : ∃ x, (ndL nd.kids)[i]? = some x := ⟨_, List.getElem?_eq_getElem (by have := H.out.2.2.2.2.2; omega)⟩
        obtain ⟨kv, hkv, hkn⟩ := H.out.2.1.get hx
        have hrd := H.out.1.below HB.out
        obtain ⟨kb, koff, rfl, _⟩ := hrd.some_of hkv
        obtain ⟨k0, k1, k2, k3, k4, k5⟩ := hrd.node hkv
        have hc := fun u hb => HI.out i x hx u kv (hkn.below hb)
        have HDT : Hid (dep (foOf ((ndL nd.kids).take (i + 1))) = max (dep (foOf ((ndL nd.kids).take i))) x.dep) := dep_take hx
        have hd1 := H.out.2.2.2.1 i
        have hd2 := H.out.2.2.2.1 (i + 1)
        rw [HDT.out] at hd2
        clear hrd hx hkv hkn
        obtain ⟨ko, kt, kn, ki, ka, kl, kc, kp⟩ := kv
        simp only at k0 k1 k2 k3 k4 k5 hc
        have HC : Hid (∀ u, Below w.heap.size w u → _) := hc
        clear hc
        obtain ⟨D, hD⟩ : ∃ D, dep (foOf ((ndL nd.kids).take i)) = D := ⟨_, rfl⟩
        obtain ⟨X, hX⟩ : ∃ X, x.dep = X := ⟨_, rfl⟩
        rw [hD, hX] at HDT hd2
        rw [hD] at hd1 ⊢
        rw [hX] at HC
        clear hD hX
        go_wp2_with fail
        refine (HC.out _ HB.out).mono ?_
        rintro e w3 ⟨rfl, b3⟩
        have HB3 : Hid (Below W1.heap.size W1 w3) := HB1.out.trans (b3.mono HB1.out.size)
        clear b3
        by_cases hDX : D < X
        · have hq : (D : Int) < (X : Int) := by omega
          go_wp2_with fail
          go_roundg (gk - 1)
          case measure => omega
          case rel => exact ⟨i + 1, by go_num, by omega, by rw [HDT.out]; exact congrArg (Value.int .i64) (by omega), HB3.out⟩
        · have hq : ¬ (D : Int) < (X : Int) := by omega
          go_wp2_with fail
          go_roundg (gk - 1)
          case measure => omega
          case rel => exact ⟨i + 1, by go_num, by omega, by rw [HDT.out]; exact congrArg (Value.int .i64) (by omega), HB3.out⟩
      · obtain rfl : i = vl := by omega
        have HE : Hid (nd.dep = dep (foOf ((ndL nd.kids).take i)) + 1) := H.out.2.2.2.2.1
        have hd1 := H.out.2.2.2.1 i
        obtain ⟨D, hD⟩ : ∃ D, dep (foOf ((ndL nd.kids).take i)) = D := ⟨_, rfl⟩
        rw [hD] at HE hd1 ⊢
        clear hD
        go_wp2_with fail
        go_ret
        exact ⟨by rw [HE.out]; go_num, HB.out⟩

end Go.Proofs.YtijchmcajhdcoaaGreatDoor

/-!
  How long the text of a tree is, and how many nodes a tree has that was read of so many tokens; a tree's text by the texts of its kids. No program, no condition.
-/
namespace Go.Proofs.YtijchmcajhdcoaaGreatDoor
open Go.RowKit

/-- What a row of trees weighs. -/
def fw : Fo → Nat
  | .nil => 0
  | .cons _ text _ _ kids _ next => text.length + 36 + fw kids + fw next
def Nd.wt (n : Nd) : Nat := n.text.length + 32 + fw n.kids
theorem fw_sz : ∀ f : Fo, 32 * sz f ≤ fw f
  | .nil => Nat.le_refl _
  | .cons _ _ _ _ kids _ next => by
    have h1 := fw_sz kids
    have h2 := fw_sz next
    simp only [fw, sz]
    omega
theorem Nd.wt_sz (n : Nd) : 32 * n.sz ≤ n.wt := by
  have := fw_sz n.kids
  simp only [Nd.sz, Nd.wt]
  omega
theorem fw_one (x : Nd) : fw (foOf [x]) = x.wt + 4 := by
  simp [foOf, Nd.onto, fw, Nd.wt]
  omega
theorem fw_two (x y : Nd) : fw (foOf [x, y]) = x.wt + y.wt + 8 := by
  simp [foOf, Nd.onto, fw, Nd.wt]
  omega
theorem fw_snoc (l : List Nd) (x : Nd) : fw (foOf (l ++ [x])) = fw (foOf l) + x.wt + 4 := by
  induction l with
  | nil => simp [foOf, Nd.onto, fw, Nd.wt]; omega
  | cons a l ih =>
    have e1 : foOf ((a :: l) ++ [x]) = a.onto (foOf (l ++ [x])) := rfl
    have e2 : foOf (a :: l) = a.onto (foOf l) := rfl
    rw [e1, e2]
    simp only [Nd.onto, fw, ih]
    omega
/-- What a row of tokens weighs. -/
def tw (l : List Tk) : Nat := (l.map fun t => t.text.length + 40).sum
theorem tw_cons (t : Tk) (l : List Tk) : tw (t :: l) = t.text.length + 40 + tw l := by simp [tw]
def xw : Mo → Nat
  | .rows _ n => n.wt
  | .ups n => n.wt
  | .args t ks => (callN t ks).wt
  | _ => 0
theorem wt_bin (t : Tk) (x y : Nd) : (binN t x y).wt = x.wt + y.wt + 40 := by
  show 0 + 32 + fw (foOf [x, y]) = _
  rw [fw_two]
  omega
theorem wt_not (t : Tk) (x : Nd) : (notN t x).wt = x.wt + 36 := by
  show 0 + 32 + fw (foOf [x]) = _
  rw [fw_one]
  omega
theorem wt_up (t : Tk) (k : Int) (x : Nd) : (upN t k x).wt = x.wt + 36 := by
  show 0 + 32 + fw (foOf [x]) = _
  rw [fw_one]
  omega
theorem wt_call (t : Tk) (ks : List Nd) : (callN t ks).wt = t.text.length + 32 + fw (foOf ks) := rfl
theorem xw_low (L : Int) : xw (lowM L) = 0 := by
  unfold lowM
  split <;> rfl

/-- A tree weighs no more than its tokens. -/
theorem Gm.weight {E : Int} {m : Mo} {l : List Tk} {o : Out} (h : Gm E m l o) : ∀ n r, o = .ok n r → n.wt + tw r ≤ tw l + xw m := by
  induction h with
  | @row L l r n0 o hL h1 h2 ih1 ih2 =>
    intro n r ho
    have a := ih1 _ _ rfl
    have b := ih2 n r ho
    rw [xw_low] at a
    simp only [xw] at b ⊢
    omega
  | @more L t l r n0 m0 o ht h1 h2 ih1 ih2 =>
    intro n r ho
    have a := ih1 _ _ rfl
    have b := ih2 n r ho
    rw [xw_low] at a
    simp only [xw, wt_bin] at b ⊢
    rw [tw_cons]
    omega
  | done _ =>
    intro n r ho
    cases ho
    simp only [xw]
    omega
  | range h1 ht h2 ih1 ih2 =>
    intro n r ho
    cases ho
    have a := ih1 _ _ rfl
    have b := ih2 _ _ rfl
    rw [tw_cons] at a
    rw [wt_bin]
    simp only [xw] at a b ⊢
    omega
  | range1 _ _ ih => exact fun n r ho => ih n r ho
  | nots _ _ ih =>
    intro n r ho
    cases ho
    have a := ih _ _ rfl
    rw [wt_not, tw_cons]
    simp only [xw] at a ⊢
    omega
  | unary _ _ ih => exact fun n r ho => ih n r ho
  | post _ _ ih1 ih2 =>
    intro n r ho
    have a := ih1 _ _ rfl
    have b := ih2 n r ho
    simp only [xw] at a b ⊢
    omega
  | up _ _ _ ih =>
    intro n r ho
    have b := ih n r ho
    rw [tw_cons]
    simp only [xw, wt_up] at b ⊢
    omega
  | upK _ _ _ _ ih =>
    intro n r ho
    have b := ih n r ho
    rw [tw_cons, tw_cons]
    simp only [xw, wt_up] at b ⊢
    omega
  | upped _ =>
    intro n r ho
    cases ho
    simp only [xw]
    omega
  | leaf _ _ =>
    intro n r ho
    cases ho
    rw [tw_cons]
    simp only [xw, leafN, Nd.wt, fw]
    omega
  | brac _ _ _ ih =>
    intro n r ho
    cases ho
    have a := ih _ _ rfl
    rw [tw_cons] at a ⊢
    simp only [xw] at a ⊢
    omega
  | call0 _ _ _ _ =>
    intro n r ho
    cases ho
    rw [tw_cons, tw_cons, tw_cons, wt_call]
    simp only [xw, foOf, List.foldr_nil, fw]
    omega
  | call _ _ _ _ _ _ ih1 ih2 =>
    intro n r ho
    have a := ih1 _ _ rfl
    have b := ih2 n r ho
    rw [tw_cons, tw_cons]
    simp only [xw, wt_call, fw_one] at a b ⊢
    omega
  | arg _ _ _ ih1 ih2 =>
    intro n r ho
    have a := ih1 _ _ rfl
    have b := ih2 n r ho
    rw [tw_cons]
    simp only [xw, wt_call, fw_snoc] at a b ⊢
    omega
  | close _ =>
    intro n r ho
    cases ho
    rw [tw_cons]
    simp only [xw]
    omega
  | rowE _ _ _ | moreE _ _ _ | rangeE _ _ _ _ _ | rangeF _ _ | notsE _ _ _ | postE _ _ | upE _ _ _ | none | bracE _ _ _ _ | bracF _ _ _ | sign _ _ _ | callE _ _ _ _ _ _ | argE _ _ _ | closeE _ _ => intro n r ho; cases ho

/-! ### The text of a tree by those of its kids -/

/-- A kid's text, in brackets if its level is too low. -/
def brk (want : Int) (k : Int × Bs) : Bs := if lvl k.1 < want then 40 :: (k.2 ++ [41]) else k.2
/-- The texts of kids, one behind the other. -/
def wk (bt : Bs) (f o : Int) : List (Int × Bs) → Bs
  | [] => []
  | k :: r => brk f k ++ r.flatMap (fun m => bt ++ brk o m)
theorem wk_take (bt : Bs) (f o : Int) {l : List (Int × Bs)} {i : Nat} {k : Int × Bs} (h : l[i]? = some k) : wk bt f o (l.take (i + 1)) = wk bt f o (l.take i) ++ (if i = 0 then brk f k else bt ++ brk o k) := by
  rw [List.take_add_one, h]
  cases l with
  | nil => simp at h
  | cons a r =>
    cases i with
    | zero =>
      obtain rfl : a = k := by simpa using h
      simp [wk]
    | succ i =>
      simp [wk, List.append_assoc]
theorem fps_map : ∀ f : Fo, fps f = (ndL f).map (fun k => (k.op, k.ps))
  | .nil => rfl
  | .cons op text num id kids pos next => by
    simp only [fps, ndL, List.map_cons, fps_map next]
    rfl
/-- The kids' texts, each with its op. -/
def Nd.kt (n : Nd) : List (Int × Bs) := (ndL n.kids).map (fun k => (k.op, txt k.ps))
theorem txt_in (want : Int) (op : Int) (p : List Pc) : txt (inB want (op, p)) = brk want (op, txt p) := by
  unfold inB brk
  split
  · simp only [txt]
    rw [txt_glue]
    simp [txt, st, sgT]
  · rfl
theorem brk_one (k : Int × Bs) : brk 1 k = k.2 := by
  unfold brk
  rw [if_neg (by have := lvl_one k.1; omega)]
theorem txt_arg : ∀ ks : List (Int × List Pc), txt (argB ks) = wk [44, 32] 1 1 (ks.map fun p => (p.1, txt p.2))
  | [] => rfl
  | [k] => by simp [argB, wk, brk_one]
  | k :: m :: r => by
    have ih := txt_arg (m :: r)
    simp only [argB, txt_glue, txt, ih, List.map_cons, wk, brk_one, List.flatMap_cons, List.append_assoc]
    simp [st, sgT]
theorem txt_sg (g : Bs) (l : List Pc) : txt (some (sgT g) :: l) = g ++ txt l := by simp [txt, st, sgT]

section
variable {n : Nd}
theorem shown_name (h : n.op = 1) : txt n.ps = n.text := by simp [Nd.ps, pcs, h, txt, st, nmT]
theorem shown_hash (h : n.op = 2) : txt n.ps = st (haT n.id) := by simp [Nd.ps, pcs, h, txt]
theorem shown_num (h : n.op = 3) : txt n.ps = st (nuT n.num) := by simp [Nd.ps, pcs, h, txt]
theorem shown_text (h : n.op = 4) : txt n.ps = st (txT n.text) := by simp [Nd.ps, pcs, h, txt]
theorem shown_call (h : n.op = 5) : txt n.ps = n.text ++ [40] ++ wk [44, 32] 1 1 n.kt ++ [41] := by
  have e : txt n.ps = txt (pcs 5 n.text n.num n.id ((ndL n.kids).map fun k => (k.op, k.ps))) := by rw [← fps_map, ← h]; rfl
  rw [e]
  unfold Nd.kt
  have e2 : (ndL n.kids).map (fun k => (k.op, txt k.ps)) = ((ndL n.kids).map fun k => (k.op, k.ps)).map fun p => (p.1, txt p.2) := by rw [List.map_map]; rfl
  rw [e2]
  generalize (ndL n.kids).map (fun k => (k.op, k.ps)) = L
  simp [pcs, txt_glue, txt, st, nmT, sgT, txt_arg]
theorem kids_one (h : len n.kids = 1) : ∃ a : Nd, ndL n.kids = [a] := by
  rw [← ndL_len] at h
  match hl : ndL n.kids, h with
  | [a], _ => exact ⟨a, rfl⟩
theorem kids_two (h : len n.kids = 2) : ∃ a b : Nd, ndL n.kids = [a, b] := by
  rw [← ndL_len] at h
  match hl : ndL n.kids, h with
  | [a, b], _ => exact ⟨a, b, rfl⟩
theorem shown_not (h : n.op = 11) (hk : len n.kids = 1) : txt n.ps = [33] ++ wk [] 4 4 n.kt := by
  obtain ⟨a, ha⟩ := kids_one hk
  have e : txt n.ps = txt (pcs 11 n.text n.num n.id [(a.op, a.ps)]) := by
    show txt (pcs n.op n.text n.num n.id (fps n.kids)) = _
    rw [fps_map, ha, h]; rfl
  rw [e]
  unfold Nd.kt
  rw [ha]
  simp only [List.map_cons, List.map_nil]
  generalize a.ps = p
  simp [pcs, wk, txt_sg, txt_in]
theorem shown_up (h : n.op = 12) (hk : len n.kids = 1) : txt n.ps = wk [] 5 5 n.kt ++ [94] ++ (if n.num = 0 then [] else st (nuT n.num)) := by
  obtain ⟨a, ha⟩ := kids_one hk
  have e : txt n.ps = txt (pcs 12 n.text n.num n.id [(a.op, a.ps)]) := by
    show txt (pcs n.op n.text n.num n.id (fps n.kids)) = _
    rw [fps_map, ha, h]; rfl
  rw [e]
  unfold Nd.kt
  rw [ha]
  simp only [List.map_cons, List.map_nil]
  generalize a.ps = p
  by_cases h0 : n.num = 0
  · simp [pcs, wk, txt_glue, txt_in, h0, txt, st, sgT]
  · simp [pcs, wk, txt_glue, txt_in, h0, txt, st, sgT]
theorem shown_bin {i : Nat} {o : Int} {g wt : Bs} {lv f s : Int} (hx : infL[i]? = some (o, g, wt, lv, f, s)) (h : n.op = o) (hk : len n.kids = 2) : txt n.ps = wk wt f s n.kt := by
  obtain ⟨a, b, ha⟩ := kids_two hk
  have e : txt n.ps = txt (pcs o n.text n.num n.id [(a.op, a.ps), (b.op, b.ps)]) := by
    show txt (pcs n.op n.text n.num n.id (fps n.kids)) = _
    rw [fps_map, ha, h]; rfl
  rw [e]
  unfold Nd.kt
  rw [ha]
  simp only [List.map_cons, List.map_nil]
  generalize a.ps = p
  generalize b.ps = q
  match i, hx with
  | 0, hx => cases hx; simp [pcs, wk, txt_glue, txt, st, sgT, opT, txt_in]
  | 1, hx => cases hx; simp [pcs, wk, txt_glue, txt, st, sgT, opT, txt_in]
  | 2, hx => cases hx; simp [pcs, wk, txt_glue, txt, st, sgT, opT, txt_in]
  | 3, hx => cases hx; simp [pcs, wk, txt_glue, txt, st, sgT, opT, txt_in]
  | 4, hx => cases hx; simp [pcs, wk, txt_glue, txt, st, sgT, opT, txt_in]
end

/-! ### How long it is -/

theorem brk_len (want : Int) (k : Int × Bs) : (brk want k).length ≤ k.2.length + 2 := by
  unfold brk
  split <;> simp
theorem wk_len (bt : Bs) (f o : Int) (c : Nat) (hb : bt.length + 2 ≤ c) : ∀ l : List (Int × Bs), (wk bt f o l).length ≤ (l.map fun k => k.2.length + c).sum
  | [] => by simp [wk]
  | k :: r => by
    have h1 := brk_len f k
    have h2 : (r.flatMap fun m => bt ++ brk o m).length ≤ (r.map fun k => k.2.length + c).sum := by
      induction r with
      | nil => simp
      | cons a r ih =>
        have := brk_len o a
        simp only [List.flatMap_cons, List.length_append, List.map_cons, List.sum_cons]
        omega
    simp only [wk, List.length_append, List.map_cons, List.sum_cons]
    omega
theorem wf_kids : ∀ (f : Fo), Wf f → ∀ k ∈ ndL f, WfT k
  | .nil, _, k, hk => by cases hk
  | .cons op text num id kids pos next, h, k, hk => by
    rcases List.mem_cons.1 hk with rfl | hk
    · exact ⟨h.1, h.2.1⟩
    · exact wf_kids next h.2.2 k hk
theorem fw_kids : ∀ (f : Fo), fw f = ((ndL f).map fun k => k.wt + 4).sum
  | .nil => rfl
  | .cons op text num id kids pos next => by
    have := fw_kids next
    simp only [fw, ndL, List.map_cons, List.sum_cons, Nd.wt] at this ⊢
    omega
theorem sum_le {α : Type} (l : List α) (f g : α → Nat) (h : ∀ x ∈ l, f x ≤ g x) : (l.map f).sum ≤ (l.map g).sum := by
  induction l with
  | nil => simp
  | cons a l ih =>
    have h1 := h a List.mem_cons_self
    have h2 := ih (fun x hx => h x (List.mem_cons_of_mem _ hx))
    simp only [List.map_cons, List.sum_cons]
    omega
theorem sum_add (l : List Nd) (f : Nd → Nat) (c : Nat) : (l.map fun k => f k + c).sum = (l.map f).sum + c * l.length := by
  induction l with
  | nil => simp
  | cons a l ih =>
    simp only [List.map_cons, List.sum_cons, List.length_cons, ih, Nat.mul_add]
    omega
theorem num_len {k : Int} (h : Gd (nuT k)) : (st (nuT k)).length ≤ 21 := by
  have := h.num
  simp only [nuT] at this
  show (Lib.itoa k).length ≤ 21
  exact Lib.itoa_length_le k (by omega) (by omega)

/-- The text of a tree is no longer than it weighs. -/
theorem shown_len (n : Nd) : WfT n → (txt n.ps).length ≤ n.wt := by
  induction n using Nd.ind with
  | h n ih =>
    intro hw
    have hk : ∀ c, c ≤ 5 → ((n.kt).map fun k => k.2.length + c).sum ≤ ((ndL n.kids).map fun k => k.wt + c).sum := by
      intro c hc
      unfold Nd.kt
      rw [List.map_map]
      exact sum_le _ _ _ (fun x hx => by have := ih x hx (wf_kids _ hw.2 x hx); simp only [Function.comp]; omega)
    have hf := fw_kids n.kids
    have h4 := sum_add (ndL n.kids) Nd.wt 4
    have h5 := sum_add (ndL n.kids) Nd.wt 5
    have hl := ndL_len n.kids
    unfold Nd.wt
    rcases hw.1 with ⟨h, _⟩ | ⟨h, _, _, hg, _⟩ | ⟨h, _, hg, _⟩ | ⟨h, hg, _⟩ | ⟨h, _⟩ | ⟨h, ht, _, _, hkl⟩ | ⟨h, ht, _, _, hkl⟩ | ⟨h, ht, hg, _, hkl⟩
    · rw [shown_name h]; omega
    · rw [shown_hash h]
      have : (st (haT n.id)).length = 17 := by simp [st, haT, hexTail_length]
      omega
    · rw [shown_num h]
      have := num_len hg
      omega
    · rw [shown_text h]
      simp [st, txT]
      omega
    · rw [shown_call h]
      have h1 := wk_len [44, 32] 1 1 4 (by simp) n.kt
      have h2 := hk 4 (by omega)
      simp only [List.length_append, List.length_singleton]
      omega
    · obtain ⟨i, o, g, wt, lv, f, s, hx, ho, hb⟩ : ∃ (i : Nat) (o : Int) (g wt : Bs) (lv f s : Int), infL[i]? = some (o, g, wt, lv, f, s) ∧ n.op = o ∧ wt.length ≤ 3 := by
        rcases h with h | h | h | h | h
        · exact ⟨0, _, _, _, _, _, _, rfl, h, by decide⟩
        · exact ⟨1, _, _, _, _, _, _, rfl, h, by decide⟩
        · exact ⟨2, _, _, _, _, _, _, rfl, h, by decide⟩
        · exact ⟨3, _, _, _, _, _, _, rfl, h, by decide⟩
        · exact ⟨4, _, _, _, _, _, _, rfl, h, by decide⟩
      rw [shown_bin hx ho hkl]
      have h1 := wk_len wt f s 5 (by omega) n.kt
      have h2 := hk 5 (by omega)
      rw [hl, hkl] at h4 h5
      omega
    · rw [shown_not h hkl]
      have h1 := wk_len [] 4 4 4 (by simp) n.kt
      have h2 := hk 4 (by omega)
      simp only [List.length_append, List.length_singleton]
      omega
    · rw [shown_up h hkl]
      have h1 := wk_len [] 5 5 4 (by simp) n.kt
      have h2 := hk 4 (by omega)
      have h3 : (if n.num = 0 then [] else st (nuT n.num)).length ≤ 21 := by
        split
        · simp
        · rcases hg with q | q
          · exact absurd q ‹_›
          · exact num_len q.2
      simp only [List.length_append, List.length_singleton]
      omega

end Go.Proofs.YtijchmcajhdcoaaGreatDoor
