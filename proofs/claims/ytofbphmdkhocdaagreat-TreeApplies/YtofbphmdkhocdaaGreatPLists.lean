/-
  Functions that look at lists of texts, each by a contract: the reference's Same and Has; slices.IndexFunc and slices.ContainsFunc at a predicate that writes nothing that was there; underOne. No condition but that the lists are shorter than any list can be.
-/
import Derived.Test.YtofbphmdkhocdaaGreatPSame
import Derived.Test.YtofbphmdkhocdaaGreatPUnders
import Derived.Shelf.Abstract
namespace Go.Proofs.YtofbphmdkhocdaaGreat
open Go.RowKit

theorem any_step {ss : List Bs} {p : Bs → Bool} {i : Nat} (h : i < ss.length) (ht : (ss.take i).any p = false) (hx : p (el ss i) = false) : (ss.take (i + 1)).any p = false := by
  rw [List.take_succ_eq_append_getElem h, List.any_append, ht, ← el_get h]
  simp [hx]
theorem any_hit {ss : List Bs} {p : Bs → Bool} {i : Nat} (h : i < ss.length) (hx : p (el ss i) = true) : ss.any p = true :=
  List.any_eq_true.2 ⟨_, el_mem h, hx⟩

set_option maxHeartbeats 1600000 in
set_option maxRecDepth 100000 in
theorem rhas_any {ao : Option Addr} {c n : Nat} {ss : List Bs} (x : Bs) (w : World) (ha : Rd w ao ss) (hl : ss.length = n) (hn : n ≤ 4000000000000000000) (f : Bool) (hf : ss.any (· == x) = f) :
    Calls Tryz.prog 35 #[.slice ao n c, .string ⟨x.toArray⟩] w fun e w' => e = .returned (.bool f) ∧ w' = w := by
  have H : Hid (Rd w ao ss ∧ ss.length = n ∧ ss.any (· == x) = f) := ⟨ha, hl, hf⟩
  clear ha hl hf
  go_enter Tryz.func35, Tryz.ntmps35
  go_wp2_with fail
  go_loopg [5] n (fun k v wr => ∃ (i : Nat), v = .int .i64 i ∧ i + k = n ∧ wr = w ∧ Hid ((ss.take i).any (· == x) = false))
  case atStart => exact ⟨0, rfl, by omega, rfl, rfl⟩
  case round =>
    obtain ⟨i, rfl, hi, rfl, HT⟩ := hrel
    by_cases hin : i < n
    · have id : (i : Int) < (n : Int) := by omega
      obtain ⟨h1, h3, _⟩ := H.out
      obtain ⟨b1, o1, rfl, hlt1, hc1⟩ := h1 (by omega)
      obtain ⟨y, hy⟩ : ∃ y, el ss i = y := ⟨_, rfl⟩
      have c1 := hc1 i (by omega)
      rw [hy] at c1
      have X : Hid (el ss i = y) := hy
      clear h1 h3 hc1 hy
      cases hxy : y == x with
      | true =>
        go_wp2
        go_ret
        exact ⟨by rw [← H.out.2.2, any_hit (p := (· == x)) (i := i) (by rw [H.out.2.1]; exact hin) (by rw [X.out]; exact hxy)]; rfl, rfl⟩
      | false =>
        go_wp2
        go_roundg (gk - 1)
        case measure => omega
        case rel => exact ⟨i + 1, by go_num, by omega, rfl, any_step (p := (· == x)) (by rw [H.out.2.1]; exact hin) HT.out (by rw [X.out]; exact hxy)⟩
    · obtain rfl : i = n := by omega
      go_wp2
      go_ret
      refine ⟨?_, rfl⟩
      have e := HT.out
      rw [List.take_of_length_le (by rw [H.out.2.1]; omega)] at e
      rw [← H.out.2.2, e]
      rfl

set_option maxHeartbeats 1600000 in
set_option maxRecDepth 100000 in
/-- slices.IndexFunc at whatever predicate that leaves what was there as it was. -/
theorem idx_any {ao : Option Addr} {c n : Nat} {ss : List Bs} (g : Nat) (bd lb : Array Value) (p : Bs → Bool) (w : World) (eg : ∀ args w, (callFunc g args).run Tryz.prog w = .ok (.enter g args) w)
    (hp : ∀ (W : World) (x : Bs), x ∈ ss → Below w.heap.size w W → Calls Tryz.prog g (bd ++ #[.string ⟨x.toArray⟩] ++ lb) W fun e w' => e = .returned (.bool (p x)) ∧ Below W.heap.size W w')
    (ha : Rd w ao ss) (hl : ss.length = n) (hn : n ≤ 4000000000000000000) :
    Calls Tryz.prog 70 #[.slice ao n c, .func (.func g) bd lb] w fun e w' => ∃ r : Int, e = .returned (.int .i64 r) ∧ decide (0 ≤ r) = ss.any p ∧ Below w.heap.size w w' := by
  have H : Hid (Rd w ao ss ∧ ss.length = n) := ⟨ha, hl⟩
  clear ha hl
  go_enter Tryz.func70, Tryz.ntmps70
  go_wp2_with fail
  go_loopg [5, 8] n (fun k _ v wr => ∃ (i : Nat), v = .int .i64 i ∧ i + k = n ∧ Hid ((ss.take i).any p = false) ∧ Below w.heap.size w wr)
  case atStart => exact ⟨0, rfl, by omega, rfl, Below.refl _ _⟩
  case round =>
    obtain ⟨i, rfl, hi, HT, hb⟩ := hrel
    by_cases hin : i < n
    · have id : (i : Int) < (n : Int) := by omega
      obtain ⟨h1, h3⟩ := H.out
      have R := h1.below hb
      have hmem : el ss i ∈ ss := el_mem (by omega)
      obtain ⟨b1, o1, rfl, hlt1, hc1⟩ := R (by omega)
      obtain ⟨y, hy⟩ : ∃ y, el ss i = y := ⟨_, rfl⟩
      have c1 := hc1 i (by omega)
      rw [hy] at c1 hmem
      have X : Hid (el ss i = y) := hy
      have hcall := hp wr y hmem hb
      have B : Hid (Below w.heap.size w wr) := hb
      clear h1 h3 hc1 hy R hp hb
      cases hxy : p y with
      | true =>
        rw [hxy] at hcall
        go_wp2_with (go_at_fn g; refine hcall.mono ?_; rintro e w' ⟨rfl, hb'⟩)
        go_ret
        exact ⟨i, rfl, by rw [any_hit (p := p) (i := i) (by rw [H.out.2]; exact hin) (by rw [X.out]; exact hxy)]; simp, B.out.trans (hb'.mono B.out.size)⟩
      | false =>
        rw [hxy] at hcall
        go_wp2_with (go_at_fn g; refine hcall.mono ?_; rintro e w' ⟨rfl, hb'⟩)
        go_roundg (gk - 1)
        case measure => omega
        case rel => exact ⟨i + 1, by go_num, by omega, any_step (p := p) (by rw [H.out.2]; exact hin) HT.out (by rw [X.out]; exact hxy), B.out.trans (hb'.mono B.out.size)⟩
    · obtain rfl : i = n := by omega
      go_wp2
      go_ret
      refine ⟨-1, rfl, ?_, hb⟩
      have e := HT.out
      rw [List.take_of_length_le (by rw [H.out.2]; omega)] at e
      rw [e]
      rfl

set_option maxHeartbeats 800000 in
set_option maxRecDepth 100000 in
theorem contains_any {ao : Option Addr} {c n : Nat} {ss : List Bs} (g : Nat) (bd lb : Array Value) (p : Bs → Bool) (w : World) (eg : ∀ args w, (callFunc g args).run Tryz.prog w = .ok (.enter g args) w)
    (hp : ∀ (W : World) (x : Bs), x ∈ ss → Below w.heap.size w W → Calls Tryz.prog g (bd ++ #[.string ⟨x.toArray⟩] ++ lb) W fun e w' => e = .returned (.bool (p x)) ∧ Below W.heap.size W w')
    (ha : Rd w ao ss) (hl : ss.length = n) (hn : n ≤ 4000000000000000000) (f : Bool) (hf : ss.any p = f) :
    Calls Tryz.prog 52 #[.slice ao n c, .func (.func g) bd lb] w fun e w' => e = .returned (.bool f) ∧ Below w.heap.size w w' := by
  have h := idx_any (c := c) g bd lb p w eg hp ha hl hn
  rw [hf] at h
  clear hp ha hl eg hf
  go_enter Tryz.func52, Tryz.ntmps52
  go_wp2_with fail
  refine h.mono ?_
  rintro e w' ⟨r, rfl, hr, hb⟩
  have R : Hid (decide (0 ≤ r) = f) := hr
  clear hr
  go_wp2
  go_ret
  exact ⟨by rw [← R.out]; rfl, hb⟩

set_option maxHeartbeats 800000 in
set_option maxRecDepth 100000 in
theorem under_lit (p : Bs) (B : Nat) (d : Bs) (w : World) (hc : w.cell? ⟨B, 0, none⟩ = some (.string ⟨p.toArray⟩)) :
    Calls Tryz.prog 53 #[.string ⟨d.toArray⟩, .pointer (some ⟨B, 0, none⟩)] w fun e w' => e = .returned (.bool (under p d)) ∧ w' = w := by
  have h := under_any ⟨p.toArray⟩ ⟨d.toArray⟩ w
  obtain ⟨f, hf⟩ : ∃ f, under p d = f := ⟨_, rfl⟩
  change Calls Tryz.prog 54 #[.string ⟨p.toArray⟩, .string ⟨d.toArray⟩] w fun e w' => e = .returned (.bool (under p d)) ∧ w' = w at h
  rw [hf] at h ⊢
  clear hf
  go_enter Tryz.func53, Tryz.ntmps53
  go_wp2_with fail
  refine h.mono ?_
  rintro e w' ⟨rfl, rfl⟩
  go_wp2
  go_ret
  exact ⟨rfl, rfl⟩

theorem enters43 : ∀ args w, (callFunc 53 args).run Tryz.prog w = .ok (.enter 53 args) w := enters_of Tryz.func53 (by kernel_rfl) rfl

set_option maxHeartbeats 800000 in
set_option maxRecDepth 100000 in
theorem underOne_any {ao : Option Addr} {c n : Nat} {ss : List Bs} (p : Bs) (w : World) (ha : Rd w ao ss) (hl : ss.length = n) (hn : n ≤ 4000000000000000000) (f : Bool) (hf : ss.any (under p) = f) :
    Calls Tryz.prog 25 #[.string ⟨p.toArray⟩, .slice ao n c] w fun e w' => e = .returned (.bool f) ∧ Below w.heap.size w w' := by
  have hb0 : Below w.heap.size w (w.alloc (.cells #[.string ⟨p.toArray⟩] 9)) := (Below.refl _ w).alloc (Nat.le_refl _) _
  have h := contains_any (c := c) 53 #[] #[.pointer (some ⟨w.heap.size, 0, none⟩)] (under p) (w.alloc (.cells #[.string ⟨p.toArray⟩] 9)) enters43
    (fun W x _ hb => (under_lit p w.heap.size x W ((hb.cell (p := ⟨w.heap.size, 0, none⟩) (by simp)).trans (by simp))).mono fun e w' ⟨h1, h2⟩ => ⟨h1, h2 ▸ Below.refl _ _⟩) (ha.below hb0) hl hn f hf
  clear ha hl hf
  have B0 : Hid (Below w.heap.size w (w.alloc (.cells #[.string ⟨p.toArray⟩] 9))) := hb0
  clear hb0
  go_enter Tryz.func25, Tryz.ntmps25
  go_wp2_with fail
  refine h.mono ?_
  rintro e w' ⟨rfl, hb⟩
  go_wp2
  go_ret
  exact ⟨rfl, B0.out.trans (hb.mono B0.out.size)⟩

end Go.Proofs.YtofbphmdkhocdaaGreat
