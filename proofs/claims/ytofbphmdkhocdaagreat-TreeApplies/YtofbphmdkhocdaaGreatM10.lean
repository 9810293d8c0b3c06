/-
  Several texts, laid together.
-/
import Derived.Test.YtofbphmdkhocdaaGreatM02
import Derived.Test.YtofbphmdkhocdaaGreatM07
import Derived.Shelf.Abstract
import Derived.Test.YtofbphmdkhocdaaGreatM09
import Derived.Sort.OwnSorted
import Derived.Lib.OwnBridge

/-
  Functions that look at lists of texts, each by a contract: the reference's Same and Has; slices.IndexFunc and slices.ContainsFunc at a predicate that writes nothing that was there; underOne. No condition but that the lists are shorter than any list can be.
-/
namespace Go.Proofs.YtofbphmdkhocdaaGreat
open Go.RowKit

theorem any_step {ss : List Bs} {p : Bs → Bool} {i : Nat} (h : i < ss.length) (ht : (ss.take i).any p = false) (hx : p (el ss i) = false) : (ss.take (i + 1)).any p = false := by
  rw [List.take_succ_eq_append_getElem h, List.any_append, ht, ← el_get h]
  simp [hx]
theorem any_hit {ss : List Bs} {p : Bs → Bool} {i : Nat} (h : i < ss.length) (hx : p (el ss i) = true) : ss.any p = true :=
  List.any_eq_true.2 ⟨_, el_mem h, hx⟩

set_option maxHeartbeats 1600000 in
set_option maxRecDepth 100000 in
theorem rhas_any {ao : Option Addr} {c n : Nat} {ss : List Bs} (x : Bs) (w : World) (ha : Rd w ao ss) (hl : ss.length = n) (hn : n ≤ 4000000000000000000) (f : Bool) (hf : ss.any (· == x) = f) :
    Calls Tryz.prog 35 #[.slice ao n c, .string ⟨x.toArray⟩] w fun e w' => e = .returned (.bool f) ∧ w' = w := by
  have H : Hid (Rd w ao ss ∧ ss.length = n ∧ ss.any (· == x) = f) := ⟨ha, hl, hf⟩
  clear ha hl hf
  go_enter Tryz.func35, Tryz.ntmps35
  go_wp2_with fail
  go_loopg [5] n (fun k v wr => ∃ (i : Nat), v = .int .i64 i ∧ i + k = n ∧ wr = w ∧ Hid ((ss.take i).any (· == x) = false))
  case atStart => exact ⟨0, rfl, by omega, rfl, rfl⟩
  case round =>
    obtain ⟨i, rfl, hi, rfl, HT⟩ := hrel
    by_cases hin : i < n
    · have id : (i : Int) < (n : Int) := by omega
      obtain ⟨h1, h3, _⟩ := H.out
      obtain ⟨b1, o1, rfl, hlt1, hc1⟩ := h1 (by omega)
      obtain ⟨y, hy⟩ : ∃ y, el ss i = y := ⟨_, rfl⟩
      have c1 := hc1 i (by omega)
      rw [hy] at c1
      have X : Hid (el ss i = y) := hy
      clear h1 h3 hc1 hy
      cases hxy : y == x with
      | true =>
        go_wp2
        go_ret
        exact ⟨by rw [← H.out.2.2, any_hit (p := (· == x)) (i := i) (by rw [H.out.2.1]; exact hin) (by rw [X.out]; exact hxy)]; rfl, rfl⟩
      | false =>
        go_wp2
        go_roundg (gk - 1)
        case measure => omega
        case rel => exact ⟨i + 1, by go_num, by omega, rfl, any_step (p := (· == x)) (by rw [H.out.2.1]; exact hin) HT.out (by rw [X.out]; exact hxy)⟩
    · obtain rfl : i = n := by omega
      go_wp2
      go_ret
      refine ⟨?_, rfl⟩
      have e := HT.out
      rw [List.take_of_length_le (by rw [H.out.2.1]; omega)] at e
      rw [← H.out.2.2, e]
      rfl

set_option maxHeartbeats 1600000 in
set_option maxRecDepth 100000 in
/-- slices.IndexFunc at whatever predicate that leaves what was there as it was. -/
theorem idx_any {ao : Option Addr} {c n : Nat} {ss : List Bs} (g : Nat) (bd lb : Array Value) (p : Bs → Bool) (w : World) (eg : ∀ args w, (callFunc g args).run Tryz.prog w = .ok (.enter g args) w)
    (hp : ∀ (W : World) (x : Bs), x ∈ ss → Below w.heap.size w W → Calls Tryz.prog g (bd ++ #[.string ⟨x.toArray⟩] ++ lb) W fun e w' => e = .returned (.bool (p x)) ∧ Below W.heap.size W w')
    (ha : Rd w ao ss) (hl : ss.length = n) (hn : n ≤ 4000000000000000000) :
    Calls Tryz.prog 70 #[.slice ao n c, .func (.func g) bd lb] w fun e w' => ∃ r : Int, e = .returned (.int .i64 r) ∧ decide (0 ≤ r) = ss.any p ∧ Below w.heap.size w w' := by
  have H : Hid (Rd w ao ss ∧ ss.length = n) := ⟨ha, hl⟩
  clear ha hl
  go_enter Tryz.func70, Tryz.ntmps70
  go_wp2_with fail
  go_loopg [5, 8] n (fun k _ v wr => ∃ (i : Nat), v = .int .i64 i ∧ i + k = n ∧ Hid ((ss.take i).any p = false) ∧ Below w.heap.size w wr)
  case atStart => exact ⟨0, rfl, by omega, rfl, Below.refl _ _⟩
  case round =>
    obtain ⟨i, rfl, hi, HT, hb⟩ := hrel
    by_cases hin : i < n
    · have id : (i : Int) < (n : Int) := by omega
      obtain ⟨h1, h3⟩ := H.out
      have R := h1.below hb
      have hmem : el ss i ∈ ss := el_mem (by omega)
      obtain ⟨b1, o1, rfl, hlt1, hc1⟩ := R (by omega)
      obtain ⟨y, hy⟩ : ∃ y, el ss i = y := ⟨_, rfl⟩
      have c1 := hc1 i (by omega)
      rw [hy] at c1 hmem
      have X : Hid (el ss i = y) := hy
      have hcall := hp wr y hmem hb
      have B : Hid (Below w.heap.size w wr) := hb
      clear h1 h3 hc1 hy R hp hb
      cases hxy : p y with
      | true =>
        rw [hxy] at hcall
        go_wp2_with (go_at_fn g; refine hcall.mono ?_; rintro e w' ⟨rfl, hb'⟩)
        go_ret
        exact ⟨i, rfl, by rw [any_hit (p := p) (i := i) (by rw [H.out.2]; exact hin) (by rw [X.out]; exact hxy)]; simp, B.out.trans (hb'.mono B.out.size)⟩
      | false =>
        rw [hxy] at hcall
        go_wp2_with (go_at_fn g; refine hcall.mono ?_; rintro e w' ⟨rfl, hb'⟩)
        go_roundg (gk - 1)
        case measure => omega
        case rel => exact ⟨i + 1, by go_num, by omega, any_step (p := p) (by rw [H.out.2]; exact hin) HT.out (by rw [X.out]; exact hxy), B.out.trans (hb'.mono B.out.size)⟩
    · obtain rfl : i = n := by omega
      go_wp2
      go_ret
      refine ⟨-1, rfl, ?_, hb⟩
      have e := HT.out
      rw [List.take_of_length_le (by rw [H.out.2]; omega)] at e
      rw [e]
      rfl

set_option maxHeartbeats 800000 in
set_option maxRecDepth 100000 in
theorem contains_any {ao : Option Addr} {c n : Nat} {ss : List Bs} (g : Nat) (bd lb : Array Value) (p : Bs → Bool) (w : World) (eg : ∀ args w, (callFunc g args).run Tryz.prog w = .ok (.enter g args) w)
    (hp : ∀ (W : World) (x : Bs), x ∈ ss → Below w.heap.size w W → Calls Tryz.prog g (bd ++ #[.string ⟨x.toArray⟩] ++ lb) W fun e w' => e = .returned (.bool (p x)) ∧ Below W.heap.size W w')
    (ha : Rd w ao ss) (hl : ss.length = n) (hn : n ≤ 4000000000000000000) (f : Bool) (hf : ss.any p = f) :
    Calls Tryz.prog 52 #[.slice ao n c, .func (.func g) bd lb] w fun e w' => e = .returned (.bool f) ∧ Below w.heap.size w w' := by
  have h := idx_any (c := c) g bd lb p w eg hp ha hl hn
  rw [hf] at h
  clear hp ha hl eg hf
  go_enter Tryz.func52, Tryz.ntmps52
  go_wp2_with fail
  refine h.mono ?_
  rintro e w' ⟨r, rfl, hr, hb⟩
  have R : Hid (decide (0 ≤ r) = f) := hr
  clear hr
  go_wp2
  go_ret
  exact ⟨by rw [← R.out]; rfl, hb⟩

set_option maxHeartbeats 800000 in
set_option maxRecDepth 100000 in
theorem under_lit (p : Bs) (B : Nat) (d : Bs) (w : World) (hc : w.cell? ⟨B, 0, none⟩ = some (.string ⟨p.toArray⟩)) :
    Calls Tryz.prog 53 #[.string ⟨d.toArray⟩, .pointer (some ⟨B, 0, none⟩)] w fun e w' => e = .returned (.bool (under p d)) ∧ w' = w := by
  have h := under_any ⟨p.toArray⟩ ⟨d.toArray⟩ w
  obtain ⟨f, hf⟩ : ∃ f, under p d = f := ⟨_, rfl⟩
  change Calls Tryz.prog 54 #[.string ⟨p.toArray⟩, .string ⟨d.toArray⟩] w fun e w' => e = .returned (.bool (under p d)) ∧ w' = w at h
  rw [hf] at h ⊢
  clear hf
  go_enter Tryz.func53, Tryz.ntmps53
  go_wp2_with fail
  refine h.mono ?_
  rintro e w' ⟨rfl, rfl⟩
  go_wp2
  go_ret
  exact ⟨rfl, rfl⟩

theorem enters43 : ∀ args w, (callFunc 53 args).run Tryz.prog w = .ok (.enter 53 args) w := enters_of Tryz.func53 (by kernel_rfl) rfl

set_option maxHeartbeats 800000 in
set_option maxRecDepth 100000 in
theorem underOne_any {ao : Option Addr} {c n : Nat} {ss : List Bs} (p : Bs) (w : World) (ha : Rd w ao ss) (hl : ss.length = n) (hn : n ≤ 4000000000000000000) (f : Bool) (hf : ss.any (under p) = f) :
    Calls Tryz.prog 25 #[.string ⟨p.toArray⟩, .slice ao n c] w fun e w' => e = .returned (.bool f) ∧ Below w.heap.size w w' := by
  have hb0 : Below w.heap.size w (w.alloc (.cells #[.string ⟨p.toArray⟩] 9)) := (Below.refl _ w).alloc (Nat.le_refl _) _
  have h := contains_any (c := c) 53 #[] #[.pointer (some ⟨w.heap.size, 0, none⟩)] (under p) (w.alloc (.cells #[.string ⟨p.toArray⟩] 9)) enters43
    (fun W x _ hb => (under_lit p w.heap.size x W ((hb.cell (p := ⟨w.heap.size, 0, none⟩) (by simp)).trans (by simp))).mono fun e w' ⟨h1, h2⟩ => ⟨h1, h2 ▸ Below.refl _ _⟩) (ha.below hb0) hl hn f hf
  clear ha hl hf
  have B0 : Hid (Below w.heap.size w (w.alloc (.cells #[.string ⟨p.toArray⟩] 9))) := hb0
  clear hb0
  go_enter Tryz.func25, Tryz.ntmps25
  go_wp2_with fail
  refine h.mono ?_
  rintro e w' ⟨rfl, hb⟩
  go_wp2
  go_ret
  exact ⟨rfl, B0.out.trans (hb.mono B0.out.size)⟩

end Go.Proofs.YtofbphmdkhocdaaGreat

/-
  path.Sort by a contract: of whatever list of texts a new row that holds them rising, each once; nothing that was there is turned.
-/
namespace Go.Proofs.YtofbphmdkhocdaaGreat
open Go.RowKit Go.Sort

/-- From what the three callees leave to a row of the call's own. -/
theorem left_of {w w1 : World} {g cap n nn q : Nat} {os : Array Obj} {ss : List Bs} (hown : w1.ownsRow w.heap.size 9 1 (.slice (some ⟨g, 0, none⟩) n cap) n (ss.map encStr)) (hbel : Below w.heap.size w w1) (hbg : w.heap.size ≤ g) (hlen : ss.length = n) :
    Own (putRow encStr (Sort.ahead (grow (putRow encStr (Sort.ahead w1 nn) g 0 (ss.mergeSort fun x y => decide (x ≤ y)).toArray) os) q) g 0 (Lib.compact (ss.mergeSort fun x y => decide (x ≤ y)) ++ List.replicate (n - (Lib.compact (ss.mergeSort fun x y => decide (x ≤ y))).length) []).toArray)
      w.heap.size (.slice (some ⟨g, 0, none⟩) (Lib.compact (ss.mergeSort fun x y => decide (x ≤ y))).length cap) (srt ss) ∧
    Below w.heap.size w (putRow encStr (Sort.ahead (grow (putRow encStr (Sort.ahead w1 nn) g 0 (ss.mergeSort fun x y => decide (x ≤ y)).toArray) os) q) g 0 (Lib.compact (ss.mergeSort fun x y => decide (x ≤ y)) ++ List.replicate (n - (Lib.compact (ss.mergeSort fun x y => decide (x ≤ y))).length) []).toArray) := by
  have hl2 : (ss.mergeSort fun x y => decide (x ≤ y)).length = ss.length := List.length_mergeSort ss
  have hle := Lib.compact_length_le (ss.mergeSort fun x y => decide (x ≤ y))
  subst hlen
  rcases hown.2 with ⟨h0, _⟩ | ⟨g', cap', cur, hv, hbase, hb, h1, h2, h3, h4⟩
  · cases h0
  cases hv
  have hs := ownsRow_sorted (n := nn) (os := os) (ts := ss.mergeSort fun x y => decide (x ≤ y)) hl2 hbase hb h1 h2 h3
  have hc := Lib.ownsRow_putRow (q := q) (k := (Lib.compact (ss.mergeSort fun x y => decide (x ≤ y))).length) (ys := Lib.compact (ss.mergeSort fun x y => decide (x ≤ y)) ++ List.replicate (ss.length - (Lib.compact (ss.mergeSort fun x y => decide (x ≤ y))).length) []) hs (by simp; omega) (by omega)
  rw [List.take_left] at hc
  refine ⟨?_, Lib.below_putRow (hbel.grown (grownBy_sorted _) hbel.size (fun j hj => by cases hj; exact hbase)) hbg⟩
  unfold Own
  rw [← compact_sort]
  exact hc

set_option maxHeartbeats 2000000 in
set_option maxRecDepth 100000 in
theorem sort_tail (n : Nat) (arg : Value) (ss : List Bs) (w : World) (hn : n ≤ 4611686018427387903)
    (hclone : Calls Tryz.prog 30 #[arg] w fun e w' => ∃ v', e = .returned v' ∧ w'.ownsRow w.heap.size 9 1 v' n (ss.map encStr) ∧ v' ≠ .slice none 0 0 ∧ Below w.heap.size w w') :
    Calls Tryz.prog 24 #[arg] w fun e w' => ∃ v', e = .returned v' ∧ Own w' w.heap.size v' (srt ss) ∧ Below w.heap.size w w' := by
  go_enter Tryz.func24, Tryz.ntmps24
  go_wp2_with fail
  refine hclone.mono ?_
  rintro e w1 ⟨v1, rfl, hown, hnn, hbel⟩
  obtain ⟨g, cap, rfl, hbg, hgl, hncap, hcm, hlen, hH⟩ := Lib.holds_of_ownsRow hown hnn
  have hsort : Calls Tryz.prog 50 #[.slice (some ⟨g, 0, none⟩) ss.length cap] w1 _ := Any.slices_Sort_string laySort g 0 cap ss w1 hH hgl (by omega)
  rw [hlen] at hsort
  have X : Hid (w1.ownsRow w.heap.size 9 1 (.slice (some ⟨g, 0, none⟩) n cap) n (ss.map encStr) ∧ Below w.heap.size w w1 ∧ w.heap.size ≤ g ∧ g < w1.heap.size ∧ n ≤ cap ∧ ss.length = n ∧ Holds encStr w1 g 0 ss.toArray) := ⟨hown, hbel, hbg, hgl, hncap, hlen, hH⟩
  clear hown hbel hH hnn hclone
  go_wp2_with fail
  refine hsort.mono ?_
  rintro e w2 ⟨rfl, nn, os, rfl⟩
  have hl2 : (ss.mergeSort fun x y => decide (x ≤ y)).length = n := by rw [List.length_mergeSort]; exact X.out.2.2.2.2.2.1
  have hH2 : Holds encStr (grow (putRow encStr (Sort.ahead w1 nn) g 0 (ss.mergeSort fun x y => decide (x ≤ y)).toArray) os) g 0 (ss.mergeSort fun x y => decide (x ≤ y)).toArray :=
    holds_grow encStr _ os g 0 _ (by simpa [putRow, mapBlock, Sort.ahead] using X.out.2.2.2.1) (holds_putRow encStr _ g 0 _ _ (holds_ahead encStr w1 nn g 0 _ X.out.2.2.2.2.2.2) (by simp))
  have hcomp : Calls Tryz.prog 51 #[.slice (some ⟨g, 0, none⟩) (ss.mergeSort fun x y => decide (x ≤ y)).length cap] _ _ := Any.slices_Compact_string layCompact g 0 cap (ss.mergeSort fun x y => decide (x ≤ y)) _ hH2 (by omega) (by have := X.out.2.2.2.2.1; omega)
  rw [hl2] at hcomp
  have HL : Hid (ss.length = n) := hlen
  clear hH2 hsort hl2 hlen
  go_wp2_with fail
  refine hcomp.mono ?_
  rintro e w3 ⟨rfl, q, rfl⟩
  go_wp2
  go_ret
  obtain ⟨l1, l2⟩ := left_of (nn := nn) (q := q) (os := os) X.out.1 X.out.2.1 X.out.2.2.1 HL.out
  exact ⟨_, rfl, l1, l2⟩

theorem clone_row (b off n c : Nat) (ss : List Bs) (w : World) (hl : ss.length = n) (hn : n ≤ 8796093022208) (hc : ∀ i, i < ss.length → w.cell? ⟨b, off + i, none⟩ = some (.string ⟨(el ss i).toArray⟩)) :
    Calls Tryz.prog 30 #[.slice (some ⟨b, off, none⟩) n c] w fun e w' => ∃ v', e = .returned v' ∧ w'.ownsRow w.heap.size 9 1 v' n (ss.map encStr) ∧ v' ≠ .slice none 0 0 ∧ Below w.heap.size w w' := by
  have h := Any.slices_Clone_string layClone b off n c (ss.map fun l => ⟨l.toArray⟩) w (by simp [hl]) (by omega) (fun j hj => by
    rw [List.length_map] at hj
    rw [hc j hj, el_get hj]
    congr 2
    rw [List.getD_eq_getElem?_getD, List.getElem?_map, List.getElem?_eq_getElem hj]
    rfl)
  have e : ((ss.map fun l => (⟨l.toArray⟩ : ByteArray)).take n).map Value.string = ss.map encStr := by
    rw [List.take_of_length_le (by simp [hl]), List.map_map]
    rfl
  rw [e] at h
  exact h

/-- slices.Clone of whatever list. -/
theorem pclone_any {ao : Option Addr} {c n : Nat} {ss : List Bs} (w : World) (ha : Rd w ao ss) (hl : ss.length = n) (hn : n ≤ 8796093022208) :
    Calls Tryz.prog 30 #[.slice ao n c] w fun e w' => ∃ v', e = .returned v' ∧ Own w' w.heap.size v' ss ∧ Below w.heap.size w w' := by
  by_cases h0 : 0 < ss.length
  · obtain ⟨b, off, rfl, _, hc⟩ := ha h0
    refine (clone_row b off n c ss w hl hn hc).mono ?_
    rintro e w' ⟨v', he, ho, _, hb⟩
    exact ⟨v', he, by unfold Own; rw [hl]; exact ho, hb⟩
  · obtain rfl : ss = [] := List.eq_nil_of_length_eq_zero (by omega)
    obtain rfl : n = 0 := hl.symm
    cases ao with
    | none =>
      have h : Calls Tryz.prog 30 #[.slice none 0 c] w _ := Any.slices_Clone_string_nil layClone 0 c w
      refine h.mono ?_
      rintro e w' ⟨rfl, rfl⟩
      exact ⟨_, rfl, Own.nil _ _, Below.refl _ _⟩
    | some a =>
      have h : Calls Tryz.prog 30 #[.slice (some a) 0 c] w _ := Any.slices_Clone_string_zero layClone a c w
      refine h.mono ?_
      rintro e w' ⟨v', he, ho, _, hb⟩
      exact ⟨v', he, ho, hb⟩

set_option maxHeartbeats 800000 in
set_option maxRecDepth 100000 in
theorem sort_nil (c : Nat) (w : World) : Calls Tryz.prog 24 #[.slice none 0 c] w fun e w' => e = .returned (.slice none 0 0) ∧ w' = w := by
  have h1 : Calls Tryz.prog 30 #[.slice none 0 c] w _ := Any.slices_Clone_string_nil layClone 0 c w
  have h2 : Calls Tryz.prog 50 #[.slice none 0 0] w _ := Any.slices_Sort_string_none laySort none 0 w
  have h3 : Calls Tryz.prog 51 #[.slice none 0 0] w _ := Any.slices_Compact_string_empty layCompact none 0 w
  go_enter Tryz.func24, Tryz.ntmps24
  go_wp2_with fail
  refine h1.mono ?_
  rintro e w' ⟨rfl, rfl⟩
  go_wp2_with fail
  refine h2.mono ?_
  rintro e w' ⟨rfl, rfl⟩
  go_wp2_with fail
  refine h3.mono ?_
  rintro e w' ⟨rfl, rfl⟩
  go_wp2
  go_ret
  exact ⟨rfl, rfl⟩

theorem sort_any {ao : Option Addr} {c n : Nat} {ss : List Bs} (w : World) (ha : Rd w ao ss) (hl : ss.length = n) (hn : n ≤ 8796093022208) :
    Calls Tryz.prog 24 #[.slice ao n c] w fun e w' => ∃ v', e = .returned v' ∧ Own w' w.heap.size v' (srt ss) ∧ Below w.heap.size w w' := by
  by_cases h0 : 0 < ss.length
  · obtain ⟨b, off, rfl, _, hc⟩ := ha h0
    exact sort_tail n _ ss w (by omega) (clone_row b off n c ss w hl hn hc)
  · obtain rfl : ss = [] := List.eq_nil_of_length_eq_zero (by omega)
    obtain rfl : n = 0 := hl.symm
    cases ao with
    | none =>
      refine (sort_nil c w).mono ?_
      rintro e w' ⟨rfl, rfl⟩
      exact ⟨_, rfl, Own.nil _ _, Below.refl _ _⟩
    | some a =>
      exact sort_tail 0 _ [] w (by omega) (Any.slices_Clone_string_zero layClone a c w)

end Go.Proofs.YtofbphmdkhocdaaGreat
