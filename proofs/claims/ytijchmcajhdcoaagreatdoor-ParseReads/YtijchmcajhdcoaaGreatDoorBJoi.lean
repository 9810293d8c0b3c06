/-
  The reader's joined by a contract: a sign between two of a level. No condition.
-/
import Derived.Test.YtijchmcajhdcoaaGreatDoorJPas
namespace Go.Proofs.YtijchmcajhdcoaaGreatDoor
open Go.RowKit

abbrev Ifx := Int × Bs × Bs × Int × Int × Int
/-- A row of the table, as a value. -/
theorem infAt (i : Nat) (h : i < 5) : ∃ x : Ifx, infL[i]? = some x ∧ ∀ w, (Instr.index 97 (.agg infV) (.int .i64 (i : Int))).run Tryz.prog w = .ok (.agg #[.int .i64 x.1, .string ⟨x.2.1.toArray⟩, .string ⟨x.2.2.1.toArray⟩, .int .i64 x.2.2.2.1, .int .i64 x.2.2.2.2.1, .int .i64 x.2.2.2.2.2]) w := by
  match i, h with
  | 0, _ => exact ⟨_, rfl, fun _ => by kernel_rfl⟩
  | 1, _ => exact ⟨_, rfl, fun _ => by kernel_rfl⟩
  | 2, _ => exact ⟨_, rfl, fun _ => by kernel_rfl⟩
  | 3, _ => exact ⟨_, rfl, fun _ => by kernel_rfl⟩
  | 4, _ => exact ⟨_, rfl, fun _ => by kernel_rfl⟩
  | k + 5, h => omega

/-- What the table's rows say. -/
theorem inf_row {i : Nat} {x : Ifx} (h : infL[i]? = some x) : opOf x.2.1 = x.1 ∧ lvl x.1 = x.2.2.2.1 ∧ x.1 ≠ 0 := by
  match i, h with
  | 0, h => cases h; decide
  | 1, h => cases h; decide
  | 2, h => cases h; decide
  | 3, h => cases h; decide
  | 4, h => cases h; decide
theorem inf_find {s : Bs} (h : opOf s ≠ 0) : ∃ (i : Nat) (x : Ifx), infL[i]? = some x ∧ x.2.1 = s := by
  unfold opOf at h
  split at h
  · rename_i e; exact ⟨0, _, rfl, e.symm⟩
  split at h
  · rename_i e; exact ⟨1, _, rfl, e.symm⟩
  split at h
  · rename_i e; exact ⟨2, _, rfl, e.symm⟩
  split at h
  · rename_i e; exact ⟨3, _, rfl, e.symm⟩
  split at h
  · rename_i e; exact ⟨4, _, rfl, e.symm⟩
  · exact absurd rfl h
theorem inf_one {i j : Nat} {x y : Ifx} (hi : infL[i]? = some x) (hj : infL[j]? = some y) (h : x.2.1 = y.2.1) : i = j := by
  match i, j, hi, hj with
  | 0, 0, _, _ => rfl
  | 1, 1, _, _ => rfl
  | 2, 2, _, _ => rfl
  | 3, 3, _, _ => rfl
  | 4, 4, _, _ => rfl
  | 0, 1, hi, hj | 0, 2, hi, hj | 0, 3, hi, hj | 0, 4, hi, hj | 1, 0, hi, hj | 1, 2, hi, hj | 1, 3, hi, hj | 1, 4, hi, hj | 2, 0, hi, hj | 2, 1, hi, hj | 2, 3, hi, hj | 2, 4, hi, hj | 3, 0, hi, hj | 3, 1, hi, hj | 3, 2, hi, hj | 3, 4, hi, hj | 4, 0, hi, hj | 4, 1, hi, hj | 4, 2, hi, hj | 4, 3, hi, hj => cases hi; cases hj; exact absurd h (by decide)
/-- A sign of the table's row stands here only if one of its level does. -/
theorem inf_sgl {i : Nat} {x : Ifx} (h : infL[i]? = some x) {t : Tk} (ht : sB x.2.1 t = true) : sgl t = x.2.2.2.1 := by
  obtain ⟨a, b, c⟩ := inf_row h
  obtain ⟨p, q⟩ := (sB_iff _ t).1 ht
  rw [sgl_sign p (by rw [q, a]; exact c), q, a, b]

set_option maxHeartbeats 1600000 in
set_option maxRecDepth 100000 in
theorem joined_no {b : Nat} {ao : Option Addr} {n c k : Nat} {ts : List Tk} (L : Int) (hL : L ≠ 0) (w : World) (h : Rst w b ao n c ts k) (hl : hd (lB L) (ts.drop k) = false) :
    Calls Tryz.prog 48 #[.pointer (some ⟨b, 0, none⟩), .int .i64 L] w fun e w' => e = .returned (.tuple #[.agg #[.int .i64 0, .string ⟨#[]⟩, .int .i64 0, .int .u64 0, .slice none 0 0, .int .i64 0], .bool false]) ∧ Below w.heap.size w w' := by
  obtain ⟨W0, m0, hW0, hm0, hx0, bW0, _, hB0, hlt0⟩ := lay6 (Below.refl _ w) (Nat.le_refl _) 28 (.int .i64 0) (.string ⟨#[]⟩) (.int .i64 0) (.int .u64 0) (.slice none 0 0) (.int .i64 0)
  have h0 := h.below bW0
  obtain ⟨tt, fz, hinf⟩ := h0.inf
  have hlb := h.box.lt
  have hsg : ∀ (i : Nat) (x : Ifx), infL[i]? = some x → x.2.2.2.1 = L → hd (sB x.2.1) (ts.drop k) = false := by
    intro i x hx e
    rcases hq : hd (sB x.2.1) (ts.drop k) with _ | _
    · rfl
    · rw [hd_pk (by simp [sB, tk0])] at hq
      rw [hd_pk (by simp [lB, sgl, tk0]; omega)] at hl
      have := inf_sgl hx hq
      simp [lB] at hl
      omega
  have H : Hid (Rst W0 b ao n c ts k ∧ Below w.heap.size w W0 ∧ ∀ (i : Nat) (x : Ifx), infL[i]? = some x → x.2.2.2.1 = L → hd (sB x.2.1) (ts.drop k) = false) := ⟨h0, bW0, hsg⟩
  have HX : Hid (Box6 W0 m0 28 (.int .i64 0) (.string ⟨#[]⟩) (.int .i64 0) (.int .u64 0) (.slice none 0 0) (.int .i64 0)) := hx0
  clear h h0 hl hsg hx0 bW0
  have hi30 : (Tryz.prog.info? 97).map (·.size) = some infV.size := by kernel_rfl
  have hV := infAt
  obtain ⟨V, hVe⟩ : ∃ V, infV = V := ⟨_, rfl⟩
  rw [hVe] at hinf hi30 hV
  clear hVe
  go_enter Tryz.func48, Tryz.ntmps48
  go_upto_region 1 with fail
  clear hW0 hm0
  go_wp2_with (refine wpList_load_row rfl 97 _ rfl 0 rfl tt _ fz _ hinf Tryz.underlying97 rfl hi30 ?_)
  go_loopg [11] 5 (fun g v wr => ∃ (i : Nat), v = .int .i64 i ∧ i + g = 5 ∧ Hid (Below W0.heap.size W0 wr))
  case atStart => exact ⟨0, rfl, rfl, Below.refl _ _⟩
  case round =>
    obtain ⟨i, rfl, hi, HB⟩ := hrel
    by_cases h5 : i < 5
    · have hii : (i : Int) < 5 := by omega
      obtain ⟨x, hx, hidx⟩ := hV i h5
      have hno : x.2.2.2.1 = L → hd (sB x.2.1) (ts.drop k) = false := H.out.2.2 i x hx
      obtain ⟨o, g, wt, lv, f, s⟩ := x
      simp only at hidx hno
      clear hx
      by_cases hq : lv = L
      · subst hq
        have hmade := fun u hu => made_no (b := b) (ao := ao) (n := n) (c := c) (k := k) (ts := ts) o g u (H.out.1.below hu) (hno rfl)
        obtain ⟨W1, m1, hW1, hm1, hx1, bW1, _, hB1, hlt1⟩ := lay6 HB.out HB.out.size 96 (.int .i64 o) (.string ⟨g.toArray⟩) (.string ⟨wt.toArray⟩) (.int .i64 lv) (.int .i64 f) (.int .i64 s)
        obtain ⟨d0, d1, d2, d3, d4, d5⟩ := hx1.cells
        have HM : Hid (∀ u, Below W0.heap.size W0 u → _) := hmade
        have HB1 : Hid (Below W0.heap.size W0 W1) := bW1
        clear hno hmade hx1 bW1
        go_upto_region 4 with fail
        clear hW1 hm1
        go_wp2_with (go_at_call 61; refine (HM.out _ HB1.out).mono ?_; rintro e w3 ⟨rfl, b3⟩; have HB3 : Hid (Below W0.heap.size W0 w3) := HB1.out.trans (b3.mono HB1.out.size); clear b3)
        go_roundg (gk - 1)
        case measure => omega
        case rel => exact ⟨i + 1, by go_num, by omega, HB3.out.trans ((bz1 w3 _).mono HB3.out.size)⟩
      · have hq1 : (lv == L) = false := by rw [beq_eq_false_iff_ne]; exact hq
        obtain ⟨W1, m1, hW1, hm1, hx1, bW1, _, hB1, hlt1⟩ := lay6 HB.out HB.out.size 96 (.int .i64 o) (.string ⟨g.toArray⟩) (.string ⟨wt.toArray⟩) (.int .i64 lv) (.int .i64 f) (.int .i64 s)
        obtain ⟨d0, d1, d2, d3, d4, d5⟩ := hx1.cells
        have HB1 : Hid (Below W0.heap.size W0 W1) := bW1
        clear hno hx1 bW1
        go_upto_region 4 with fail
        clear hW1 hm1
        go_wp2_with fail
        go_roundg (gk - 1)
        case measure => omega
        case rel => exact ⟨i + 1, by go_num, by omega, HB1.out⟩
    · obtain rfl : i = 5 := by omega
      obtain ⟨p0, p1, p2, p3, p4, p5⟩ := (HX.out.below HB.out).cells
      obtain ⟨q0, q1, q2, q3, q4, q5⟩ := (HX.out.below HB.out).thaw
      go_wp2_with fail
      refine bodyPost_ret (v := .tuple #[.agg #[.int .i64 0, .string ⟨#[]⟩, .int .i64 0, .int .u64 0, .slice none 0 0, .int .i64 0], .bool false]) ?_ rfl ⟨rfl, ?_⟩
      · simp [results, Tryz.f48]
        go_simp
      · exact belowS6 (H.out.2.1.trans (HB.out.mono H.out.2.1.size)) (by omega) _ _ _ _ _ _

theorem sgl_pos2 {t : Tk} (h : sgl t ≠ 0) : t.kind = 5 ∧ opOf t.text ≠ 0 ∧ lvl (opOf t.text) = sgl t := by
  unfold sgl at h ⊢
  split at h
  · rename_i q
    exact ⟨q.1, q.2, by rw [if_pos q]⟩
  · exact absurd rfl h

set_option maxHeartbeats 1600000 in
set_option maxRecDepth 100000 in
theorem joined_yes {b : Nat} {ao : Option Addr} {n c k : Nat} {ts : List Tk} (L : Int) (hL : L ≠ 0) (w : World) (h : Rst w b ao n c ts k) (hl : hd (lB L) (ts.drop k) = true) :
    Calls Tryz.prog 48 #[.pointer (some ⟨b, 0, none⟩), .int .i64 L] w fun e w' => e = .returned (.tuple #[.agg #[.int .i64 (opOf (pk (ts.drop k)).text), .string ⟨#[]⟩, .int .i64 0, .int .u64 0, .slice none 0 0, .int .i64 (pk (ts.drop k)).pos], .bool true]) ∧ Rst w' b ao n c ts (k + 1) ∧ Tn b w w' := by
  obtain ⟨W0, m0, hW0, hm0, hx0, bW0, _, hB0, hlt0⟩ := lay6 (Below.refl _ w) (Nat.le_refl _) 28 (.int .i64 0) (.string ⟨#[]⟩) (.int .i64 0) (.int .u64 0) (.slice none 0 0) (.int .i64 0)
  have h0 := h.below bW0
  obtain ⟨tt, fz, hinf⟩ := h0.inf
  have hlb := h.box.lt
  rw [hd_pk (by simp [lB, sgl, tk0]; omega)] at hl
  have hs : sgl (pk (ts.drop k)) = L := by simpa [lB] using hl
  obtain ⟨r5, ro, _⟩ := sgl_pos2 (t := pk (ts.drop k)) (by omega)
  obtain ⟨j, y, hy, hyt⟩ := inf_find ro
  have hyL : y.2.2.2.1 = L := by
    have := inf_sgl hy (t := pk (ts.drop k)) ((sB_iff _ _).2 ⟨r5, hyt.symm⟩)
    omega
  have hsg : ∀ (i : Nat) (x : Ifx), infL[i]? = some x → (i = j → x.1 = opOf (pk (ts.drop k)).text ∧ x.2.2.2.1 = L ∧ hd (sB x.2.1) (ts.drop k) = true) ∧ (i ≠ j → hd (sB x.2.1) (ts.drop k) = false) := by
    intro i x hx
    constructor
    · rintro rfl
      obtain rfl := Option.some.inj (hx.symm.trans hy)
      refine ⟨by rw [← hyt]; exact (inf_row hx).1.symm, hyL, ?_⟩
      rw [hd_pk (by simp [sB, tk0])]
      exact (sB_iff _ _).2 ⟨r5, hyt.symm⟩
    · intro e
      rw [hd_pk (by simp [sB, tk0])]
      rcases hq : sB x.2.1 (pk (ts.drop k)) with _ | _
      · rfl
      · obtain ⟨_, q⟩ := (sB_iff _ _).1 hq
        exact absurd (inf_one hx hy (by rw [hyt, q])) e
  have hj5 : j < 5 := (List.getElem?_eq_some_iff.1 hy).1
  clear hyL hyt hy ro r5 hs
  have H : Hid (Rst W0 b ao n c ts k ∧ Below w.heap.size w W0 ∧ ∀ (i : Nat) (x : Ifx), infL[i]? = some x → (i = j → x.1 = opOf (pk (ts.drop k)).text ∧ x.2.2.2.1 = L ∧ hd (sB x.2.1) (ts.drop k) = true) ∧ (i ≠ j → hd (sB x.2.1) (ts.drop k) = false)) := ⟨h0, bW0, hsg⟩
  have HX : Hid (Box6 W0 m0 28 (.int .i64 0) (.string ⟨#[]⟩) (.int .i64 0) (.int .u64 0) (.slice none 0 0) (.int .i64 0)) := hx0
  clear h h0 hl hsg hx0 bW0
  generalize hop : opOf (pk (ts.drop k)).text = po at H ⊢
  generalize hpp : (pk (ts.drop k)).pos = pp
  have HP : Hid ((pk (ts.drop k)).pos = pp) := hpp
  clear hop hpp
  have hi30 : (Tryz.prog.info? 97).map (·.size) = some infV.size := by kernel_rfl
  have hV := infAt
  obtain ⟨V, hVe⟩ : ∃ V, infV = V := ⟨_, rfl⟩
  rw [hVe] at hinf hi30 hV
  clear hVe
  go_enter Tryz.func48, Tryz.ntmps48
  go_upto_region 1 with fail
  clear hW0 hm0
  go_wp2_with (refine wpList_load_row rfl 97 _ rfl 0 rfl tt _ fz _ hinf Tryz.underlying97 rfl hi30 ?_)
  go_loopg [11] 5 (fun g v wr => ∃ (i : Nat), v = .int .i64 i ∧ i + g = 5 ∧ i ≤ j ∧ Hid (Below W0.heap.size W0 wr))
  case atStart => exact ⟨0, rfl, rfl, Nat.zero_le _, Below.refl _ _⟩
  case round =>
    obtain ⟨i, rfl, hi, hij, HB⟩ := hrel
    have h5 : i < 5 := by omega
    by_cases hej : i = j
    · subst hej
      have hii : (i : Int) < 5 := by omega
      obtain ⟨x, hx, hidx⟩ := hV i h5
      obtain ⟨e1, e2, e3⟩ := (H.out.2.2 i x hx).1 rfl
      obtain ⟨o, g, wt, lv, f, s⟩ := x
      simp only at hidx e1 e2 e3
      subst e1
      subst e2
      clear hx
      have hmade := fun u hu => made_yes (b := b) (ao := ao) (n := n) (c := c) (k := k) (ts := ts) o g u (H.out.1.below hu) e3
      rw [HP.out] at hmade
      obtain ⟨W1, m1, hW1, hm1, hx1, bW1, _, hB1, hlt1⟩ := lay6 HB.out HB.out.size 96 (.int .i64 o) (.string ⟨g.toArray⟩) (.string ⟨wt.toArray⟩) (.int .i64 lv) (.int .i64 f) (.int .i64 s)
      obtain ⟨d0, d1, d2, d3, d4, d5⟩ := hx1.cells
      have HM : Hid (∀ u, Below W0.heap.size W0 u → _) := hmade
      have HB1 : Hid (Below W0.heap.size W0 W1) := bW1
      clear e3 hmade hx1 bW1
      go_upto_region 4 with fail
      clear hW1 hm1
      go_wp2_with fail
      refine (HM.out _ HB1.out).mono ?_
      rintro e w3 ⟨rfl, h3, t3⟩
      obtain ⟨W4, m4, hW4, hm4, hx4, bW4, b4, hB4, hlt4⟩ := lay6 (Below.refl _ w3) (Nat.le_refl _) 28 (.int .i64 o) (.string ⟨#[]⟩) (.int .i64 0) (.int .u64 0) (.slice none 0 0) (.int .i64 pp)
      obtain ⟨k0, k1, k2, k3, k4, k5⟩ := hx4.cells
      have hm0b : ¬ m0 = b := by omega
      have x4 := ((HX.out.below HB1.out).turned t3 hm0b).below bW4
      obtain ⟨p0, p1, p2, p3, p4, p5⟩ := x4.cells
      obtain ⟨q0, q1, q2, q3, q4, q5⟩ := x4.thaw
      have hmm : ¬ m0 = m4 := by have := t3.size; have := HB1.out.size; omega
      have hmm' : ¬ m4 = m0 := by omega
      have H4 : Hid (Rst W4 b ao n c ts (k + 1) ∧ Tn b w W4) := ⟨h3.below bW4, ((Tn.of (H.out.2.1.trans (HB1.out.mono H.out.2.1.size))).trans t3).trans (Tn.of bW4)⟩
      clear h3 t3 hx4 bW4 b4 x4
      go_upto_region 6 with fail
      clear hW4 hm4
      go_wp2_with fail
      refine bodyPost_ret (v := .tuple #[.agg #[.int .i64 o, .string ⟨#[]⟩, .int .i64 0, .int .u64 0, .slice none 0 0, .int .i64 pp], .bool true]) ?_ rfl ⟨rfl, ?_, ?_⟩
      · simp [results, Tryz.f48]
        go_simp
      · exact H4.out.1.six (by omega) _ _ _ _ _ _
      · exact H4.out.2.six (by omega) _ _ _ _ _ _
    · have hii : (i : Int) < 5 := by omega
      obtain ⟨x, hx, hidx⟩ := hV i h5
      have hno : hd (sB x.2.1) (ts.drop k) = false := (H.out.2.2 i x hx).2 hej
      obtain ⟨o, g, wt, lv, f, s⟩ := x
      simp only at hidx hno
      clear hx
      by_cases hq : lv = L
      · subst hq
        have hmade := fun u hu => made_no (b := b) (ao := ao) (n := n) (c := c) (k := k) (ts := ts) o g u (H.out.1.below hu) hno
        obtain ⟨W1, m1, hW1, hm1, hx1, bW1, _, hB1, hlt1⟩ := lay6 HB.out HB.out.size 96 (.int .i64 o) (.string ⟨g.toArray⟩) (.string ⟨wt.toArray⟩) (.int .i64 lv) (.int .i64 f) (.int .i64 s)
        obtain ⟨d0, d1, d2, d3, d4, d5⟩ := hx1.cells
        have HM : Hid (∀ u, Below W0.heap.size W0 u → _) := hmade
        have HB1 : Hid (Below W0.heap.size W0 W1) := bW1
        clear hno hmade hx1 bW1
        go_upto_region 4 with fail
        clear hW1 hm1
        go_wp2_with (go_at_call 61; refine (HM.out _ HB1.out).mono ?_; rintro e w3 ⟨rfl, b3⟩; have HB3 : Hid (Below W0.heap.size W0 w3) := HB1.out.trans (b3.mono HB1.out.size); clear b3)
        go_roundg (gk - 1)
        case measure => omega
        case rel => exact ⟨i + 1, by go_num, by omega, by omega, HB3.out.trans ((bz1 w3 _).mono HB3.out.size)⟩
      · have hq1 : (lv == L) = false := by rw [beq_eq_false_iff_ne]; exact hq
        obtain ⟨W1, m1, hW1, hm1, hx1, bW1, _, hB1, hlt1⟩ := lay6 HB.out HB.out.size 96 (.int .i64 o) (.string ⟨g.toArray⟩) (.string ⟨wt.toArray⟩) (.int .i64 lv) (.int .i64 f) (.int .i64 s)
        obtain ⟨d0, d1, d2, d3, d4, d5⟩ := hx1.cells
        have HB1 : Hid (Below W0.heap.size W0 W1) := bW1
        clear hno hx1 bW1
        go_upto_region 4 with fail
        clear hW1 hm1
        go_wp2_with fail
        go_roundg (gk - 1)
        case measure => omega
        case rel => exact ⟨i + 1, by go_num, by omega, by omega, HB1.out⟩

end Go.Proofs.YtijchmcajhdcoaaGreatDoor
