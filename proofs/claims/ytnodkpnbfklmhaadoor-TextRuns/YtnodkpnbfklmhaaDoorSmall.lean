/-
  The functions of layer 4 that look at numbers and runs, and their references, each by a contract: reaches, In (with slices.ContainsFunc and slices.IndexFunc at runs), the reference's In and has. No condition but that the lists are shorter than any list can be.
-/
import Derived.Test.YtnodkpnbfklmhaaDoorGRows
import Derived.Test.YtnodkpnbfklmhaaDoorPSame
namespace Go.Proofs.YtnodkpnbfklmhaaDoor
open Go.RowKit

abbrev Pr := Int × Int
/-- Is a number in a run? -/
def inRun (n : Int) (r : Pr) : Bool := decide (r.1 ≤ n) && decide (n ≤ r.2)

theorem anyG_step {α : Type} {ss : List α} {p : α → Bool} {i : Nat} {x : α} (h : ss[i]? = some x) (ht : (ss.take i).any p = false) (hx : p x = false) : (ss.take (i + 1)).any p = false := by
  rw [List.take_add_one, h, List.any_append, ht]
  simp [hx]
theorem anyG_hit {α : Type} {ss : List α} {p : α → Bool} {i : Nat} {x : α} (h : ss[i]? = some x) (hx : p x = true) : ss.any p = true :=
  List.any_eq_true.2 ⟨_, List.mem_of_getElem? h, hx⟩
theorem get_at {α : Type} {ss : List α} {i : Nat} (h : i < ss.length) : ∃ x, ss[i]? = some x := ⟨ss[i], List.getElem?_eq_getElem h⟩

set_option maxHeartbeats 400000 in
theorem reaches_any (a n : Int) (w : World) (f : Bool) (hf : (a == n || a == wrap64 (n - 1)) = f) :
    Calls Tryd.prog 21 #[.int .i64 a, .int .i64 n] w fun e w' => e = .returned (.bool f) ∧ w' = w := by
  have F : Hid _ := hf
  clear hf
  go_enter Tryd.func21, Tryd.ntmps21
  go_wp2
  all_goals go_ret
  all_goals exact ⟨by rw [← F.out]; simp_all, rfl⟩

set_option maxHeartbeats 400000 in
theorem lit_in (n : Int) (B : Nat) (r : Pr) (w : World) (hc : w.cell? ⟨B, 0, none⟩ = some (.int .i64 n)) (hB : B < w.heap.size) :
    Calls Tryd.prog 24 #[.agg #[.int .i64 r.1, .int .i64 r.2], .pointer (some ⟨B, 0, none⟩)] w fun e w' => e = .returned (.bool (inRun n r)) ∧ Below w.heap.size w w' := by
  obtain ⟨x, y⟩ := r
  have hne : B ≠ w.heap.size := by omega
  go_enter Tryd.func24, Tryd.ntmps24
  go_wp2
  all_goals go_ret
  all_goals exact ⟨by simp_all [inRun] <;> omega, (Below.refl _ w).alloc (Nat.le_refl _) _⟩

set_option maxHeartbeats 1600000 in
set_option maxRecDepth 100000 in
/-- slices.IndexFunc over runs, at whatever predicate that leaves what was there as it was. -/
theorem idx_any {ao : Option Addr} {c n : Nat} {ss : List Pr} (g : Nat) (bd lb : Array Value) (p : Pr → Bool) (w : World) (eg : ∀ args w, (callFunc g args).run Tryd.prog w = .ok (.enter g args) w)
    (hp : ∀ (W : World) (x : Pr), x ∈ ss → Below w.heap.size w W → Calls Tryd.prog g (bd ++ #[.agg #[.int .i64 x.1, .int .i64 x.2]] ++ lb) W fun e w' => e = .returned (.bool (p x)) ∧ Below W.heap.size W w')
    (ha : RdG encP w ao ss) (hl : ss.length = n) (hn : n ≤ 4000000000000000000) :
    Calls Tryd.prog 31 #[.slice ao n c, .func (.func g) bd lb] w fun e w' => ∃ r : Int, e = .returned (.int .i64 r) ∧ decide (0 ≤ r) = ss.any p ∧ Below w.heap.size w w' := by
  have H : Hid (RdG encP w ao ss ∧ ss.length = n) := ⟨ha, hl⟩
  clear ha hl
  go_enter Tryd.func31, Tryd.ntmps31
  go_wp2_with fail
  go_loopg [5, 8] n (fun k _ v wr => ∃ (i : Nat), v = .int .i64 i ∧ i + k = n ∧ Hid ((ss.take i).any p = false) ∧ Below w.heap.size w wr)
  case atStart => exact ⟨0, rfl, by omega, rfl, Below.refl _ _⟩
  case round =>
    obtain ⟨i, rfl, hi, HT, hb⟩ := hrel
    by_cases hin : i < n
    · have id : (i : Int) < (n : Int) := by omega
      obtain ⟨h1, h3⟩ := H.out
      have R := h1.below hb
      obtain ⟨y, hy⟩ := get_at (ss := ss) (i := i) (by omega)
      have hmem : y ∈ ss := List.mem_of_getElem? hy
      obtain ⟨b1, o1, rfl, hlt1⟩ := R.some_of hy
      obtain ⟨c1, c2⟩ := R.pairs hy
      have X : Hid (ss[i]? = some y) := hy
      have hcall := hp wr y hmem hb
      have B : Hid (Below w.heap.size w wr) := hb
      clear h1 h3 hy R hp hb hmem
      cases hxy : p y with
      | true =>
        rw [hxy] at hcall
        go_wp2_with (go_at_fn g; refine hcall.mono ?_; rintro e w' ⟨rfl, hb'⟩)
        go_ret
        exact ⟨i, rfl, by rw [anyG_hit (p := p) (i := i) X.out hxy]; simp, B.out.trans (hb'.mono B.out.size)⟩
      | false =>
        rw [hxy] at hcall
        go_wp2_with (go_at_fn g; refine hcall.mono ?_; rintro e w' ⟨rfl, hb'⟩)
        go_roundg (gk - 1)
        case measure => omega
        case rel => exact ⟨i + 1, by go_num, by omega, anyG_step (p := p) X.out HT.out hxy, B.out.trans (hb'.mono B.out.size)⟩
    · obtain rfl : i = n := by omega
      go_wp2
      go_ret
      refine ⟨-1, rfl, ?_, hb⟩
      have e := HT.out
      rw [List.take_of_length_le (by rw [H.out.2]; omega)] at e
      rw [e]
      rfl

theorem enters24 : ∀ args w, (callFunc 24 args).run Tryd.prog w = .ok (.enter 24 args) w := enters_of Tryd.func24 (by kernel_rfl) rfl

set_option maxHeartbeats 800000 in
theorem contains_any {ao : Option Addr} {c n : Nat} {ss : List Pr} (g : Nat) (bd lb : Array Value) (p : Pr → Bool) (w : World) (eg : ∀ args w, (callFunc g args).run Tryd.prog w = .ok (.enter g args) w)
    (hp : ∀ (W : World) (x : Pr), x ∈ ss → Below w.heap.size w W → Calls Tryd.prog g (bd ++ #[.agg #[.int .i64 x.1, .int .i64 x.2]] ++ lb) W fun e w' => e = .returned (.bool (p x)) ∧ Below W.heap.size W w')
    (ha : RdG encP w ao ss) (hl : ss.length = n) (hn : n ≤ 4000000000000000000) (f : Bool) (hf : ss.any p = f) :
    Calls Tryd.prog 23 #[.slice ao n c, .func (.func g) bd lb] w fun e w' => e = .returned (.bool f) ∧ Below w.heap.size w w' := by
  have h := idx_any (c := c) g bd lb p w eg hp ha hl hn
  rw [hf] at h
  clear hp ha hl eg hf
  go_enter Tryd.func23, Tryd.ntmps23
  go_wp2_with fail
  refine h.mono ?_
  rintro e w' ⟨r, rfl, hr, hb⟩
  have R : Hid (decide (0 ≤ r) = f) := hr
  clear hr
  go_wp2
  go_ret
  exact ⟨by rw [← R.out]; rfl, hb⟩

set_option maxHeartbeats 800000 in
/-- In. -/
theorem in_any {ao : Option Addr} {c n : Nat} {ss : List Pr} (z : Int) (w : World) (ha : RdG encP w ao ss) (hl : ss.length = n) (hn : n ≤ 4000000000000000000) (f : Bool) (hf : ss.any (inRun z) = f) :
    Calls Tryd.prog 15 #[.int .i64 z, .slice ao n c] w fun e w' => e = .returned (.bool f) ∧ Below w.heap.size w w' := by
  have hb0 : Below w.heap.size w (w.alloc (.cells #[.int .i64 z] 3)) := (Below.refl _ w).alloc (Nat.le_refl _) _
  have h := contains_any (c := c) 24 #[] #[.pointer (some ⟨w.heap.size, 0, none⟩)] (inRun z) (w.alloc (.cells #[.int .i64 z] 3)) enters24
    (fun W x _ hb => lit_in z w.heap.size x W ((hb.cell (p := ⟨w.heap.size, 0, none⟩) (by simp)).trans (by simp)) (Nat.lt_of_lt_of_le (by simp) hb.size)) (ha.below hb0) hl hn f hf
  clear ha hl hf
  have B0 : Hid (Below w.heap.size w (w.alloc (.cells #[.int .i64 z] 3))) := hb0
  clear hb0
  go_enter Tryd.func15, Tryd.ntmps15
  go_wp2_with fail
  refine h.mono ?_
  rintro e w' ⟨rfl, hb⟩
  go_wp2
  go_ret
  exact ⟨rfl, B0.out.trans (hb.mono B0.out.size)⟩

set_option maxHeartbeats 1600000 in
set_option maxRecDepth 100000 in
/-- The reference's In. -/
theorem rin_any {ao : Option Addr} {c n : Nat} {ss : List Pr} (z : Int) (w : World) (ha : RdG encP w ao ss) (hl : ss.length = n) (hn : n ≤ 4000000000000000000) (f : Bool) (hf : ss.any (inRun z) = f) :
    Calls Tryd.prog 16 #[.int .i64 z, .slice ao n c] w fun e w' => e = .returned (.bool f) ∧ w' = w := by
  have H : Hid (RdG encP w ao ss ∧ ss.length = n ∧ ss.any (inRun z) = f) := ⟨ha, hl, hf⟩
  clear ha hl hf
  go_enter Tryd.func16, Tryd.ntmps16
  go_wp2_with fail
  go_loopg [5] n (fun k v wr => ∃ (i : Nat), v = .int .i64 i ∧ i + k = n ∧ wr = w ∧ Hid ((ss.take i).any (inRun z) = false))
  case atStart => exact ⟨0, rfl, by omega, rfl, rfl⟩
  case round =>
    obtain ⟨i, rfl, hi, rfl, HT⟩ := hrel
    by_cases hin : i < n
    · have id : (i : Int) < (n : Int) := by omega
      obtain ⟨h1, h3, _⟩ := H.out
      obtain ⟨⟨x, y⟩, hy⟩ := get_at (ss := ss) (i := i) (by omega)
      obtain ⟨b1, o1, rfl, hlt1⟩ := h1.some_of hy
      obtain ⟨c1, c2⟩ := h1.pairs hy
      have X : Hid (ss[i]? = some (x, y)) := hy
      clear h1 h3 hy
      by_cases q1 : x ≤ z
      · by_cases q2 : z ≤ y
        · have e : inRun z (x, y) = true := by simp [inRun, q1, q2]
          go_wp2
          go_ret
          exact ⟨by rw [← H.out.2.2, anyG_hit (i := i) X.out e]; rfl, rfl⟩
        · have e : inRun z (x, y) = false := by simp [inRun, q2]
          go_wp2
          go_roundg (gk - 1)
          case measure => omega
          case rel => exact ⟨i + 1, by go_num, by omega, rfl, anyG_step X.out HT.out e⟩
      · have e : inRun z (x, y) = false := by simp [inRun, q1]
        go_wp2
        go_roundg (gk - 1)
        case measure => omega
        case rel => exact ⟨i + 1, by go_num, by omega, rfl, anyG_step X.out HT.out e⟩
    · obtain rfl : i = n := by omega
      go_wp2
      go_ret
      refine ⟨?_, rfl⟩
      have e := HT.out
      rw [List.take_of_length_le (by rw [H.out.2.1]; omega)] at e
      rw [← H.out.2.2, e]
      rfl

set_option maxHeartbeats 1600000 in
set_option maxRecDepth 100000 in
/-- The reference's has. -/
theorem has_any {ao : Option Addr} {c n : Nat} {ss : List Int} (z : Int) (w : World) (ha : RdG encI w ao ss) (hl : ss.length = n) (hn : n ≤ 4000000000000000000) (f : Bool) (hf : ss.any (· == z) = f) :
    Calls Tryd.prog 22 #[.slice ao n c, .int .i64 z] w fun e w' => e = .returned (.bool f) ∧ w' = w := by
  have H : Hid (RdG encI w ao ss ∧ ss.length = n ∧ ss.any (· == z) = f) := ⟨ha, hl, hf⟩
  clear ha hl hf
  go_enter Tryd.func22, Tryd.ntmps22
  go_wp2_with fail
  go_loopg [5] n (fun k v wr => ∃ (i : Nat), v = .int .i64 i ∧ i + k = n ∧ wr = w ∧ Hid ((ss.take i).any (· == z) = false))
  case atStart => exact ⟨0, rfl, by omega, rfl, rfl⟩
  case round =>
    obtain ⟨i, rfl, hi, rfl, HT⟩ := hrel
    by_cases hin : i < n
    · have id : (i : Int) < (n : Int) := by omega
      obtain ⟨h1, h3, _⟩ := H.out
      obtain ⟨y, hy⟩ := get_at (ss := ss) (i := i) (by omega)
      obtain ⟨b1, o1, rfl, hlt1⟩ := h1.some_of hy
      have c1 := h1.ints hy
      have X : Hid (ss[i]? = some y) := hy
      clear h1 h3 hy
      by_cases q1 : y = z
      · have e : (y == z) = true := by simp [q1]
        go_wp2
        go_ret
        exact ⟨by rw [← H.out.2.2, anyG_hit (p := (· == z)) (i := i) X.out e]; rfl, rfl⟩
      · have e : (y == z) = false := by simp [q1]
        go_wp2
        go_roundg (gk - 1)
        case measure => omega
        case rel => exact ⟨i + 1, by go_num, by omega, rfl, anyG_step (p := (· == z)) X.out HT.out e⟩
    · obtain rfl : i = n := by omega
      go_wp2
      go_ret
      refine ⟨?_, rfl⟩
      have e := HT.out
      rw [List.take_of_length_le (by rw [H.out.2.1]; omega)] at e
      rw [← H.out.2.2, e]
      rfl

end Go.Proofs.YtnodkpnbfklmhaaDoor
