import Derived.Test.YtijchmcajhdcoaaGreatDoorBJoi
import Derived.Test.YtijchmcajhdcoaaGreatDoorJDep
/-!
  parse.level and parse.spare by contracts. No condition but that the program's table lies as its text lays it, and that a tree has not too many nodes.
-/
namespace Go.Proofs.YtijchmcajhdcoaaGreatDoor
open Go.RowKit

theorem inf_op {i j : Nat} {x y : Ifx} (hi : infL[i]? = some x) (hj : infL[j]? = some y) (h : x.1 = y.1) : i = j := by
  match i, j, hi, hj with
  | 0, 0, _, _ => rfl
  | 1, 1, _, _ => rfl
  | 2, 2, _, _ => rfl
  | 3, 3, _, _ => rfl
  | 4, 4, _, _ => rfl
  | 0, 1, hi, hj | 0, 2, hi, hj | 0, 3, hi, hj | 0, 4, hi, hj | 1, 0, hi, hj | 1, 2, hi, hj | 1, 3, hi, hj | 1, 4, hi, hj | 2, 0, hi, hj | 2, 1, hi, hj | 2, 3, hi, hj | 2, 4, hi, hj | 3, 0, hi, hj | 3, 1, hi, hj | 3, 2, hi, hj | 3, 4, hi, hj | 4, 0, hi, hj | 4, 1, hi, hj | 4, 2, hi, hj | 4, 3, hi, hj => cases hi; cases hj; exact absurd h (by decide)

set_option maxHeartbeats 1600000 in
set_option maxRecDepth 100000 in
theorem level_in {j : Nat} {x : Ifx} (hj : infL[j]? = some x) (w : World) (hi : Inf w) :
    Calls Tryz.prog 52 #[.int .i64 x.1] w fun e w' => e = .returned (.int .i64 (lvl x.1)) ∧ Below w.heap.size w w' := by
  obtain ⟨tt, fz, hinf⟩ := hi
  have hj5 : j < 5 := (List.getElem?_eq_some_iff.1 hj).1
  have HJ : Hid (infL[j]? = some x ∧ lvl x.1 = x.2.2.2.1) := ⟨hj, (inf_row hj).2.1⟩
  have hi30 : (Tryz.prog.info? 97).map (·.size) = some infV.size := by kernel_rfl
  have hV := infAt
  obtain ⟨V, hVe⟩ : ∃ V, infV = V := ⟨_, rfl⟩
  rw [hVe] at hinf hi30 hV
  clear hVe hj
  obtain ⟨op, hop⟩ : ∃ op, x.1 = op := ⟨_, rfl⟩
  rw [hop]
  have HO : Hid (x.1 = op) := hop
  clear hop
  go_enter Tryz.func52, Tryz.ntmps52
  go_wp2_with (refine wpList_load_row rfl 97 _ rfl 0 rfl tt _ fz _ hinf Tryz.underlying97 rfl hi30 ?_)
  go_loopg [6] 5 (fun g v wr => ∃ (i : Nat), v = .int .i64 i ∧ i + g = 5 ∧ i ≤ j ∧ Hid (Below w.heap.size w wr))
  case atStart => exact ⟨0, rfl, rfl, Nat.zero_le _, Below.refl _ _⟩
  case round =>
    obtain ⟨i, rfl, hi, hij, HB⟩ := hrel
    have h5 : i < 5 := by omega
    have hii : (i : Int) < 5 := by omega
    obtain ⟨z, hz, hidx⟩ := hV i h5
    by_cases hej : i = j
    · subst hej
      obtain rfl := Option.some.inj (hz.symm.trans HJ.out.1)
      obtain ⟨o, g, wt, lv, f, s⟩ := z
      have e1 : o = op := HO.out
      subst e1
      have HL : Hid (lvl o = lv) := HJ.out.2
      simp only at hidx
      clear hz
      obtain ⟨W1, m1, hW1, hm1, hx1, bW1, _, hB1, hlt1⟩ := lay6 HB.out HB.out.size 96 (.int .i64 o) (.string ⟨g.toArray⟩) (.string ⟨wt.toArray⟩) (.int .i64 lv) (.int .i64 f) (.int .i64 s)
      obtain ⟨d0, d1, d2, d3, d4, d5⟩ := hx1.cells
      have HB1 : Hid (Below w.heap.size w W1) := bW1
      clear hx1 bW1
      go_upto_region 4 with fail
      clear hW1 hm1
      go_wp2_with fail
      go_ret
      exact ⟨by rw [HL.out]; rfl, HB1.out⟩
    · have hne : ¬ z.1 = op := fun e => hej (inf_op hz HJ.out.1 (by rw [e, HO.out]))
      obtain ⟨o, g, wt, lv, f, s⟩ := z
      simp only at hidx hne
      have hne1 : (o == op) = false := by rw [beq_eq_false_iff_ne]; exact hne
      clear hz
      obtain ⟨W1, m1, hW1, hm1, hx1, bW1, _, hB1, hlt1⟩ := lay6 HB.out HB.out.size 96 (.int .i64 o) (.string ⟨g.toArray⟩) (.string ⟨wt.toArray⟩) (.int .i64 lv) (.int .i64 f) (.int .i64 s)
      obtain ⟨d0, d1, d2, d3, d4, d5⟩ := hx1.cells
      have HB1 : Hid (Below w.heap.size w W1) := bW1
      clear hx1 bW1
      go_upto_region 4 with fail
      clear hW1 hm1
      go_wp2_with fail
      go_roundg (gk - 1)
      case measure => omega
      case rel => exact ⟨i + 1, by go_num, by omega, by omega, HB1.out⟩

set_option maxHeartbeats 1600000 in
set_option maxRecDepth 100000 in
theorem level_out {op : Int} (ho : ¬ (op = 6 ∨ op = 7 ∨ op = 8 ∨ op = 9 ∨ op = 10)) (w : World) (hi : Inf w) :
    Calls Tryz.prog 52 #[.int .i64 op] w fun e w' => e = .returned (.int .i64 (lvl op)) ∧ Below w.heap.size w w' := by
  obtain ⟨tt, fz, hinf⟩ := hi
  have hi30 : (Tryz.prog.info? 97).map (·.size) = some infV.size := by kernel_rfl
  have hV := infAt
  obtain ⟨V, hVe⟩ : ∃ V, infV = V := ⟨_, rfl⟩
  rw [hVe] at hinf hi30 hV
  clear hVe
  have HO : Hid (¬ (op = 6 ∨ op = 7 ∨ op = 8 ∨ op = 9 ∨ op = 10)) := ho
  have HN : Hid (∀ (i : Nat) (x : Ifx), infL[i]? = some x → ¬ x.1 = op) := by
    intro i x hx e
    match i, hx with
    | 0, hx => cases hx; exact ho (.inl e.symm)
    | 1, hx => cases hx; exact ho (.inr (.inl e.symm))
    | 2, hx => cases hx; exact ho (.inr (.inr (.inl e.symm)))
    | 3, hx => cases hx; exact ho (.inr (.inr (.inr (.inl e.symm))))
    | 4, hx => cases hx; exact ho (.inr (.inr (.inr (.inr e.symm))))
  clear ho
  go_enter Tryz.func52, Tryz.ntmps52
  go_wp2_with (refine wpList_load_row rfl 97 _ rfl 0 rfl tt _ fz _ hinf Tryz.underlying97 rfl hi30 ?_)
  go_loopg [6] 5 (fun g v wr => ∃ (i : Nat), v = .int .i64 i ∧ i + g = 5 ∧ Hid (Below w.heap.size w wr))
  case atStart => exact ⟨0, rfl, rfl, Below.refl _ _⟩
  case round =>
    obtain ⟨i, rfl, hi, HB⟩ := hrel
    by_cases h5 : i < 5
    · have hii : (i : Int) < 5 := by omega
      obtain ⟨z, hz, hidx⟩ := hV i h5
      have hne : ¬ z.1 = op := HN.out i z hz
      obtain ⟨o, g, wt, lv, f, s⟩ := z
      simp only at hidx hne
      have hne1 : (o == op) = false := by rw [beq_eq_false_iff_ne]; exact hne
      clear hz
      obtain ⟨W1, m1, hW1, hm1, hx1, bW1, _, hB1, hlt1⟩ := lay6 HB.out HB.out.size 96 (.int .i64 o) (.string ⟨g.toArray⟩) (.string ⟨wt.toArray⟩) (.int .i64 lv) (.int .i64 f) (.int .i64 s)
      obtain ⟨d0, d1, d2, d3, d4, d5⟩ := hx1.cells
      have HB1 : Hid (Below w.heap.size w W1) := bW1
      clear hx1 bW1
      go_upto_region 4 with fail
      clear hW1 hm1
      go_wp2_with fail
      go_roundg (gk - 1)
      case measure => omega
      case rel => exact ⟨i + 1, by go_num, by omega, HB1.out⟩
    · obtain rfl : i = 5 := by omega
      by_cases h11 : op = 11
      · subst h11
        go_wp2_with fail
        go_ret
        exact ⟨rfl, HB.out⟩
      · have e11 : (op == 11) = false := by rw [beq_eq_false_iff_ne]; exact h11
        by_cases h12 : op = 12
        · subst h12
          go_wp2_with fail
          go_ret
          exact ⟨rfl, HB.out⟩
        · have e12 : (op == 12) = false := by rw [beq_eq_false_iff_ne]; exact h12
          have HL : Hid (lvl op = 6) := by
            have := HO.out
            show lvl op = 6
            unfold lvl
            rw [if_neg (by omega), if_neg (by omega), if_neg (by omega), if_neg h11, if_neg h12]
          go_wp2_with fail
          go_ret
          exact ⟨by rw [HL.out]; rfl, HB.out⟩

theorem level_any (op : Int) (w : World) (hi : Inf w) : Calls Tryz.prog 52 #[.int .i64 op] w fun e w' => e = .returned (.int .i64 (lvl op)) ∧ Below w.heap.size w w' := by
  by_cases ho : op = 6 ∨ op = 7 ∨ op = 8 ∨ op = 9 ∨ op = 10
  · rcases ho with h | h | h | h | h
    · subst h; exact level_in (j := 0) (x := (6, [124], [32, 124, 32], 1, 1, 2)) rfl w hi
    · subst h; exact level_in (j := 1) (x := (7, [45], [32, 45, 32], 1, 1, 2)) rfl w hi
    · subst h; exact level_in (j := 2) (x := (8, [38], [32, 38, 32], 2, 2, 3)) rfl w hi
    · subst h; exact level_in (j := 3) (x := (9, [46, 46], [46, 46], 3, 4, 4)) rfl w hi
    · subst h; exact level_in (j := 4) (x := (10, [58, 58], [58, 58], 3, 4, 4)) rfl w hi
  · exact level_out ho w hi

end Go.Proofs.YtijchmcajhdcoaaGreatDoor

/-!
  parse.spare by a contract. No condition but that a tree has no more nodes than are left.
-/
namespace Go.Proofs.YtijchmcajhdcoaaGreatDoor
open Go.RowKit

theorem sz_app (a b : List Nd) : sz (foOf (a ++ b)) = sz (foOf a) + sz (foOf b) := by
  induction a with
  | nil => simp [foOf, sz]
  | cons x a ih =>
    have e1 : foOf ((x :: a) ++ b) = x.onto (foOf (a ++ b)) := rfl
    have e2 : foOf (x :: a) = x.onto (foOf a) := rfl
    rw [e1, e2]
    simp only [Nd.onto, sz, ih]
    omega
theorem sz_one (x : Nd) : sz (foOf [x]) = x.sz := by simp [foOf, Nd.onto, sz, Nd.sz]
theorem sz_take {f : Fo} {i : Nat} {x : Nd} (h : (ndL f)[i]? = some x) : sz (foOf ((ndL f).take (i + 1))) = sz (foOf ((ndL f).take i)) + x.sz := by
  rw [List.take_add_one, h]
  show sz (foOf (_ ++ [x])) = _
  rw [sz_app, sz_one]
theorem sz_le (f : Fo) (i : Nat) : sz (foOf ((ndL f).take i)) ≤ sz f := by
  have := sz_app ((ndL f).take i) ((ndL f).drop i)
  rw [List.take_append_drop, fo_ndL] at this
  omega

set_option maxHeartbeats 1600000 in
set_option maxRecDepth 100000 in
theorem spare_any (nd : Nd) : ∀ (left : Nat), nd.sz ≤ left → left ≤ 100000 → ∀ (Q : Nat → Prop) (w : World) (v : NV), NdIn Q w v nd → Calls Tryz.prog 23 #[v.val, .int .i64 left] w fun e w' => e = .returned (.int .i64 ((left - nd.sz : Nat) : Int)) ∧ Below w.heap.size w w' := by
  induction nd using Nd.ind with
  | h nd ih =>
    intro left hsz hlf Q w v hv
    obtain ⟨us, hrd, _, hns, hul⟩ := hv.rows
    have hlen := hns.len
    rw [hul] at hlen
    have hkc := hv.kc
    have hse : nd.sz = sz nd.kids + 1 := rfl
    have hl1 : v.kl ≤ 100000 := by
      have := len_sz nd.kids
      have := hv.kl
      omega
    have hdn : nd.sz = sz (foOf ((ndL nd.kids).take v.kl)) + 1 := by
      rw [List.take_of_length_le (by omega), fo_ndL]
      rfl
    have hih : ∀ (i : Nat) (x : Nd), (ndL nd.kids)[i]? = some x → ∀ (u : World) (kv : NV) (lf : Nat), x.sz ≤ lf → lf ≤ 100000 → NdIn Q u kv x → Calls Tryz.prog 23 #[kv.val, .int .i64 lf] u fun e w' => e = .returned (.int .i64 ((lf - x.sz : Nat) : Int)) ∧ Below u.heap.size u w' := by
      intro i x hx u kv lf h1 h2 hk
      exact ih x (List.mem_of_getElem? hx) lf h1 h2 Q u kv hk
    have H : Hid (RdG encN w v.ka us ∧ NdsIn Q w us (ndL nd.kids) ∧ us.length = v.kl ∧ (∀ i, sz (foOf ((ndL nd.kids).take i)) + 1 ≤ left) ∧ nd.sz = sz (foOf ((ndL nd.kids).take v.kl)) + 1 ∧ v.kl = (ndL nd.kids).length) := ⟨hrd, hns, hul, fun i => by have := sz_le nd.kids i; omega, hdn, hlen⟩
    have HI : Hid (∀ (i : Nat) (x : Nd), (ndL nd.kids)[i]? = some x → ∀ (u : World) (kv : NV) (lf : Nat), x.sz ≤ lf → lf ≤ 100000 → NdIn Q u kv x → Calls Tryz.prog 23 #[kv.val, .int .i64 lf] u fun e w' => e = .returned (.int .i64 ((lf - x.sz : Nat) : Int)) ∧ Below u.heap.size u w') := hih
    have hl0 : 1 ≤ left := by omega
    clear hrd hns hul hdn hih ih hv hlen hsz hse
    obtain ⟨vo, vt, vn, vi, va, vl, vc, vp⟩ := v
    simp only at H hl1 hkc ⊢
    go_enter Tryz.func23, Tryz.ntmps23
    go_wp2_with fail
    go_loopg [1, 12] vl (fun g bv iv wr => ∃ (i L : Nat), iv = .int .i64 i ∧ i + g = vl ∧ bv = .int .i64 L ∧ L + sz (foOf ((ndL nd.kids).take i)) + 1 = left ∧ Hid (Below w.heap.size w wr))
    case atStart => exact ⟨0, left - 1, rfl, by omega, congrArg (Value.int .i64) (by omega), by simp [foOf, sz]; omega, bz1 w _⟩
    case round =>
      obtain ⟨i, L, rfl, hi, rfl, hL, HB⟩ := hrel
      by_cases hin : i < vl
      · have hii : (i : Int) < (vl : Int) := by omega
        have hi0 : (0 : Int) ≤ (i : Int) := by omega
        obtain ⟨x, hx⟩ : ∃ x, (ndL nd.kids)[i]? = some x := ⟨_, List.getElem?_eq_getElem (by have := H.out.2.2.2.2.2; omega)⟩
        obtain ⟨kv, hkv, hkn⟩ := H.out.2.1.get hx
        have hrd := H.out.1.below HB.out
        obtain ⟨kb, koff, rfl, _⟩ := hrd.some_of hkv
        obtain ⟨k0, k1, k2, k3, k4, k5⟩ := hrd.node hkv
        have hxs := sz_take hx
        have hx1 := H.out.2.2.2.1 (i + 1)
        have hc := fun u hb => HI.out i x hx u kv L (by omega) (by omega) (hkn.below hb)
        have HSX : Hid (sz (foOf ((ndL nd.kids).take (i + 1))) = sz (foOf ((ndL nd.kids).take i)) + x.sz ∧ x.sz ≤ L ∧ L + sz (foOf ((ndL nd.kids).take i)) + 1 = left) := ⟨hxs, by omega, hL⟩
        have hLn : ¬ (L : Int) < 0 := by omega
        have hL2 : L ≤ 100000 := by omega
        clear hrd hx hkv hkn hxs hx1 hL
        obtain ⟨ko, kt, kn, ki, ka, kl, kc, kp⟩ := kv
        simp only at k0 k1 k2 k3 k4 k5 hc
        have HC : Hid (∀ u, Below w.heap.size w u → _) := hc
        clear hc
        go_wp2_with fail
        refine (HC.out _ (HB.out.trans ((bz1 wr _).mono HB.out.size))).mono ?_
        rintro e w3 ⟨rfl, b3⟩
        have HB3 : Hid (Below w.heap.size w w3) := (HB.out.trans ((bz1 wr _).mono HB.out.size)).trans (b3.mono (by have := HB.out.size; simp; omega))
        clear b3
        go_wp2_with fail
        go_roundg (gk - 1)
        case measure => omega
        case rel => exact ⟨i + 1, L - x.sz, by go_num, by omega, rfl, by have := HSX.out; omega, HB3.out⟩
      · obtain rfl : i = vl := by omega
        have HE : Hid (nd.sz = sz (foOf ((ndL nd.kids).take i)) + 1 ∧ L + sz (foOf ((ndL nd.kids).take i)) + 1 = left) := ⟨H.out.2.2.2.2.1, hL⟩
        clear hL
        go_wp2_with fail
        go_ret
        exact ⟨by have := HE.out; exact congrArg (fun z => Ending.returned (Value.int .i64 z)) (by omega), HB.out⟩

end Go.Proofs.YtijchmcajhdcoaaGreatDoor
