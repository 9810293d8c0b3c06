/-
  check.Functions by a contract: the names of all functions, rising, in a row of the call's own. No condition but that the table of functions lies as the program's text lays it.
-/
import Derived.Test.YtdgdckmhmmigkaaGreatDoorJRef
import Derived.Test.YtdgdckmhmmigkaaGreatDoorEShelf
import Derived.Sort.OwnSorted
import Derived.Lib.OwnBridge
namespace Go.Proofs.YtdgdckmhmmigkaaGreatDoor
open Go.RowKit Go.Sort

/-- The names of the first functions of the table. -/
def fall (i : Nat) : List Bs := (ftab.take i).flatMap FR.names
theorem fall_step {i : Nat} {f : FR} (h : ftab[i]? = some f) : fall (i + 1) = fall i ++ f.names := by
  unfold fall
  rw [List.take_add_one, h, List.flatMap_append]
  simp
theorem fall_few : ∀ i, i < 9 → (fall i).length ≤ 21 := by decide
theorem fall_perm : (fall 8).Perm rnames := by
  unfold fall rnames
  decide
theorem rnames_rise : rnames.Pairwise (fun x y => (decide (x ≤ y)) = true) := by decide
theorem fall_sorted : ((fall 8).mergeSort fun x y => decide (x ≤ y)) = rnames := by
  refine List.Perm.eq_of_pairwise (le := fun x y => (decide (x ≤ y)) = true) ?_ ?_ rnames_rise ((List.mergeSort_perm _ _).trans fall_perm)
  · intro a b _ _ h1 h2
    rw [decide_eq_true_eq] at h1 h2
    exact List.le_antisymm h1 h2
  · refine List.pairwise_mergeSort ?_ ?_ _
    · intro a b c h1 h2
      simp only [decide_eq_true_eq] at h1 h2 ⊢
      exact List.le_trans h1 h2
    · intro a b
      rw [Bool.or_eq_true, decide_eq_true_eq, decide_eq_true_eq]
      exact List.le_total a b

/-- A row of the call's own, sorted in its place. -/
theorem own_sorted {w w1 : World} {g cap n nn : Nat} {os : Array Obj} {ss rs : List Bs} (hr : (ss.mergeSort fun x y => decide (x ≤ y)) = rs) (hown : Own w1 w.heap.size (.slice (some ⟨g, 0, none⟩) n cap) ss) (hbel : Below w.heap.size w w1) (hlen : ss.length = n) :
    Own (grow (putRow encStr (Sort.ahead w1 nn) g 0 (ss.mergeSort fun x y => decide (x ≤ y)).toArray) os) w.heap.size (.slice (some ⟨g, 0, none⟩) n cap) rs ∧
    Below w.heap.size w (grow (putRow encStr (Sort.ahead w1 nn) g 0 (ss.mergeSort fun x y => decide (x ≤ y)).toArray) os) := by
  have hl2 : (ss.mergeSort fun x y => decide (x ≤ y)).length = ss.length := List.length_mergeSort ss
  subst hlen
  rcases hown.2 with ⟨h, _⟩ | ⟨g', cap', cur, hv, hbase, hb, h1, h2, h3, h4⟩
  · cases h
  cases hv
  have hs := ownsRow_sorted (n := nn) (os := os) (ts := ss.mergeSort fun x y => decide (x ≤ y)) hl2 hbase hb h1 h2 h3
  refine ⟨?_, hbel.grown (grownBy_sorted _) hbel.size (fun j hj => by cases hj; exact hbase)⟩
  unfold Own
  rw [← hr, hl2]
  exact hs

set_option maxHeartbeats 1600000 in
set_option maxRecDepth 100000 in
theorem functions_any (w : World) (h : Fns w) :
    Calls Tryz.prog 5 #[] w fun e w' => ∃ g c, e = .returned (.slice (some ⟨g, 0, none⟩) 21 c) ∧ Own w' w.heap.size (.slice (some ⟨g, 0, none⟩) 21 c) rnames ∧ Below w.heap.size w w' := by
  obtain ⟨v0, v1, v2, v3, v4, v5, v6, v7, hF⟩ := h
  obtain ⟨tt, fz, hat⟩ := hF.pos
  have hlt0 : 0 < w.heap.size := (Array.getElem?_eq_some_iff.1 hat).1
  have hget := hF.get
  have hidx := fnAt v0 v1 v2 v3 v4 v5 v6 v7
  have hsz : (Tryz.prog.info? 37).map (·.size) = some (encFv.all [v0, v1, v2, v3, v4, v5, v6, v7]).toArray.size := by kernel_rfl
  obtain ⟨vs, hvs⟩ : ∃ vs, [v0, v1, v2, v3, v4, v5, v6, v7] = vs := ⟨_, rfl⟩
  rw [hvs] at hat hget hidx hsz
  clear hvs hF
  obtain ⟨V, hV⟩ : ∃ V, (encFv.all vs).toArray = V := ⟨_, rfl⟩
  rw [hV] at hat hidx hsz
  clear hV
  have HG : Hid (∀ i, i < 8 → ∃ v f, vs[i]? = some v ∧ ftab[i]? = some f ∧ FvAt w v f) := hget
  clear hget
  go_enter Tryz.func5, Tryz.ntmps5
  go_wp2_with (refine wpList_load_row rfl 37 _ rfl 0 rfl tt _ fz _ hat Tryz.underlying37 rfl hsz ?_)
  clear hat
  go_loopg [1, 5] 8 (fun g sv u wr => ∃ (i : Nat) (ao : Option Addr) (n c : Nat), sv = .slice ao n c ∧ u = .int .i64 i ∧ i + g = 8 ∧ Hid (Own wr w.heap.size (.slice ao n c) (fall i) ∧ (fall i).length = n ∧ Below w.heap.size w wr))
  case atStart => exact ⟨0, none, 0, 0, rfl, rfl, rfl, Own.nil _ _, rfl, Below.refl _ _⟩
  case round =>
    obtain ⟨i, ao, n, c, rfl, rfl, hi, HB⟩ := hrel
    by_cases h8 : i < 8
    · have hii : (i : Int) < 8 := by omega
      obtain ⟨v, f, hv, hf, hvf⟩ := HG.out i h8
      have hix := hidx i v hv
      have hsm := ftab_small f (List.mem_of_getElem? hf)
      have hfs := fall_step hf
      obtain ⟨na, nl, nc, ta, tl, tc, least, most, comes⟩ := v
      obtain ⟨W1, m1, hW1, hm1, hx1, bW1, c1, hB1, hlt2⟩ := lay5 HB.out.2.2 HB.out.2.2.size 36 (.slice na nl nc) (.slice ta tl tc) (.int .i64 least) (.int .i64 most) (.int .i64 comes)
      obtain ⟨e0, e1, e2, e3, e4⟩ := hx1.cells
      have HF : Hid (Rd W1 na f.names ∧ f.names.length = nl ∧ nl ≤ 7 ∧ Own W1 w.heap.size (.slice ao n c) (fall i) ∧ Below w.heap.size w W1 ∧ fall (i + 1) = fall i ++ f.names ∧ (fall i).length ≤ 21) :=
        ⟨(hvf.below bW1).nm, hvf.nl.symm, by have := hvf.nl; simp only at this; omega, HB.out.1.below c1, bW1, hfs, fall_few i (by omega)⟩
      simp only [FvV.cells] at hix
      clear hsm hfs hx1 bW1 c1 hvf hv hf
      go_upto_region 5 with fail
      clear hW1 hm1 hix
      go_wp2_with (at_builtin; refine app_list rfl (.tmp 8) (.tmp 10) rfl w.heap.size _ (fall i) _ na nl nc rfl HF.out.2.2.2.1 rfl HF.out.1 HF.out.2.1 (by have := HF.out.2.2.1; have := HF.out.2.2.2.2.2.2; omega) HF.out.2.2.2.2.1.size ?_; intro v4 w4 ho4 hb4)
      rw [← HF.out.2.2.2.2.2.1] at ho4
      obtain ⟨a4, c4, e4, q4, _, r4⟩ := Own.form ho4
      subst e4
      go_roundg (gk - 1)
      case measure => omega
      case rel => exact ⟨i + 1, a4, _, c4, rfl, by go_num, by omega, ho4, rfl, HF.out.2.2.2.2.1.trans hb4⟩
    · obtain rfl : i = 8 := by omega
      clear hi h8
      have hn : (fall 8).length = n := HB.out.2.1
      rw [show (fall 8).length = 21 by decide] at hn
      subst hn
      have hnn : Value.slice ao 21 c ≠ .slice none 0 0 := by simp
      obtain ⟨g, cap, hg, hbg, hgl, hncap, hcm, hlen, hH⟩ := Lib.holds_of_ownsRow HB.out.1 hnn
      cases hg
      have hsort : Calls Tryz.prog 11 #[.slice (some ⟨g, 0, none⟩) (fall 8).length c] wr _ := Any.slices_Sort_string laySort g 0 c (fall 8) wr hH hgl (by decide)
      rw [show (fall 8).length = 21 by decide] at hsort
      have HO := HB
      clear hH hlen
      go_wp2_with fail
      refine hsort.mono ?_
      rintro e w2 ⟨rfl, nn, os, rfl⟩
      obtain ⟨l1, l2⟩ := own_sorted (nn := nn) (os := os) fall_sorted HO.out.1 HO.out.2.2 (by decide)
      have HL : Hid (Own _ w.heap.size (.slice (some ⟨g, 0, none⟩) 21 c) rnames ∧ Below w.heap.size w _) := ⟨l1, l2⟩
      clear l1 l2 hsort
      go_wp2_with fail
      go_ret
      exact ⟨g, c, rfl, HL.out.1, HL.out.2⟩

end Go.Proofs.YtdgdckmhmmigkaaGreatDoor
