/-
  The document's list: First and Without, each by a contract: a row of the call's own with at most 1,000,000 items.
-/
import Derived.Test.YtjpdckpkpcphcaaItems
namespace Go.Proofs.Ytjpdckpkpcphcaa
open Go.RowKit

theorem Try.info28 : (Try.prog.info? 28).map (fun i => (i.zero, i.size, i.bytes)) = some (some (.agg #[.int .i64 0, .int .u64 0]), 2, 16) := by kernel_rfl

/-- Of the first i items this is the place of one that no other is ahead of; -1: there is none. -/
def Best (xs : List It) (i : Nat) (a : Int) : Prop := (i = 0 ∧ a = -1) ∨ (0 < i ∧ ∃ k : Nat, k < i ∧ a = k ∧ ∀ j, j < i → ahd (el xs j) (el xs k) = false)

theorem Best.next {xs : List It} {i k : Nat} (hk : k < i) (h : ∀ j, j < i → ahd (el xs j) (el xs k) = false) :
    (ahd (el xs i) (el xs k) = true → Best xs (i + 1) (i : Int)) ∧ (ahd (el xs i) (el xs k) = false → Best xs (i + 1) (k : Int)) := by
  constructor
  · intro ha
    refine .inr ⟨by omega, i, by omega, rfl, ?_⟩
    intro j hj
    by_cases e : j = i
    · subst e; exact ahd_irrefl _
    · exact nahd_trans (h j (by omega)) (ahd_asymm ha)
  · intro ha
    refine .inr ⟨by omega, k, by omega, rfl, ?_⟩
    intro j hj
    by_cases e : j = i
    · subst e; exact ha
    · exact h j (by omega)

theorem Best.one (xs : List It) : Best xs 1 0 := by
  refine .inr ⟨by omega, 0, by omega, rfl, ?_⟩
  intro j hj
  obtain rfl : j = 0 := by omega
  exact ahd_irrefl _

set_option maxHeartbeats 4000000 in
set_option maxRecDepth 1000000 in
theorem first_row {base g n cap : Nat} {xs : List It} (w : World) (hr : w.ownsRow base 28 2 (.slice (some ⟨g, 0, none⟩) n cap) n (flat xs)) (hm : n ≤ 1000000) :
    Calls Try.prog 10 #[.slice (some ⟨g, 0, none⟩) n cap] w fun e w' => ∃ a : Int, e = .returned (.int .i64 a) ∧ Best xs n a ∧ Below w.heap.size w w' := by
  have hxl : xs.length = n := by have := hr.1; rw [flat_length] at this; omega
  have H : Hid (w.ownsRow base 28 2 (.slice (some ⟨g, 0, none⟩) n cap) n (flat xs) ∧ xs.length = n) := ⟨hr, hxl⟩
  clear hr hxl
  go_enter Try.func10, Try.ntmps10
  go_wp2
  go_loopg [3, 4] n (fun k sa s wr => ∃ (i : Nat) (a : Int), s = .int .i64 i ∧ sa = .int .i64 a ∧ i ≤ n ∧ n - i ≤ k ∧ Hid (Best xs i a ∧ Below w.heap.size w wr))
  case atStart => exact ⟨0, -1, rfl, rfl, by omega, by omega, ⟨.inl ⟨rfl, rfl⟩, Below.refl _ _⟩⟩
  case round =>
    obtain ⟨i, a, rfl, rfl, hi1, hi2, HR⟩ := hrel
    by_cases hin : i < n
    · have id : (i : Int) < (n : Int) := by omega
      rcases HR.out.1 with ⟨rfl, rfl⟩ | ⟨h0, k, hk, rfl, hbest⟩
      · go_wp2_with fail
        go_quiet (fail)
        go_wp2
        go_roundg (n - 1)
        case measure => omega
        case rel => exact ⟨1, 0, by go_num, rfl, by omega, by omega, ⟨Best.one xs, below_drewN HR.out.2 _⟩⟩
      · have kd : (k : Int) < (n : Int) := by omega
        have kn : decide ((k : Int) < 0) = false := decide_eq_false (by omega)
        have R := ownsRow_turned (S := fun _ => False) H.out.1 (Turned.ofBelow HR.out.2) (fun _ _ q => q)
        obtain ⟨x, hx⟩ : ∃ x, el xs k = x := ⟨_, rfl⟩
        obtain ⟨y, hy⟩ : ∃ y, el xs i = y := ⟨_, rfl⟩
        obtain ⟨x0, x1, _, _⟩ := own_cells (i := k) R (by rw [H.out.2]; omega)
        obtain ⟨y0, y1, _, _⟩ := own_cells (i := i) R (by rw [H.out.2]; omega)
        rw [hx] at x0 x1
        rw [hy] at y0 y1
        have N := Best.next hk hbest
        rw [hx, hy] at N
        have NH : Hid _ := N
        clear N hbest R hx hy
        go_wp2_with fail
        go_region_held3 (fun w' => w'.cell? ⟨g, k * 2, none⟩ = some (.int .i64 x.1) ∧ w'.cell? ⟨g, k * 2 + 1, none⟩ = some (.int .u64 x.2) ∧ w'.cell? ⟨g, i * 2, none⟩ = some (.int .i64 y.1) ∧ w'.cell? ⟨g, i * 2 + 1, none⟩ = some (.int .u64 y.2)) (go_keep)
          (first | (go_at_call 16; refine (rahead_raw y x _).mono ?_; rintro e w' ⟨rfl, rfl⟩))
        have hbl : Below w.heap.size w ((wr.alloc (.cells #[.int .i64 y.1, .int .u64 y.2] 28)).alloc (.cells #[.int .i64 x.1, .int .u64 x.2] 28)).drew := (HR.out.2.trans ((below_alloc2 wr _ _).mono HR.out.2.size)).drew
        have B : Hid (Below w.heap.size w ((wr.alloc (.cells #[.int .i64 y.1, .int .u64 y.2] 28)).alloc (.cells #[.int .i64 x.1, .int .u64 x.2] 28)).drew) := hbl
        clear hbl
        go_wp2
        · have hA : ahd y x = true := by assumption
          go_roundg (n - (i + 1))
          case measure => omega
          case rel => exact ⟨i + 1, i, by go_num, rfl, by omega, by omega, ⟨NH.out.1 hA, B.out⟩⟩
        · have hA : ahd y x = false := by assumption
          go_roundg (n - (i + 1))
          case measure => omega
          case rel => exact ⟨i + 1, k, by go_num, rfl, by omega, by omega, ⟨NH.out.2 hA, B.out⟩⟩
    · obtain rfl : i = n := by omega
      go_wp2
      go_ret
      exact ⟨a, rfl, HR.out.1, HR.out.2⟩

theorem first_empty {ao : Option Addr} {c : Nat} (w : World) : Calls Try.prog 10 #[.slice ao 0 c] w fun e w' => e = .returned (.int .i64 (-1)) ∧ w' = w := by
  go_enter Try.func10, Try.ntmps10
  go_wp2
  refine wp_loop_rounds 1 ?_
  rw [rounds_succ]
  go_wp2
  go_ret
  exact ⟨rfl, rfl⟩

/-- First of whatever row. -/
theorem first_any {base : Nat} {v : Value} {xs : List It} (w : World) (hr : w.ownsRow base 28 2 v xs.length (flat xs)) (hm : xs.length ≤ 1000000) :
    Calls Try.prog 10 #[v] w fun e w' => ∃ a : Int, e = .returned (.int .i64 a) ∧ Best xs xs.length a ∧ Below w.heap.size w w' := by
  obtain ⟨ao, cap, rfl, h1, h2, h3⟩ := own_form hr
  by_cases h0 : 0 < xs.length
  · obtain ⟨g, rfl⟩ := h3 h0
    exact first_row w hr hm
  · have hx : xs = [] := List.eq_nil_of_length_eq_zero (by omega)
    subst hx
    refine (first_empty w).mono ?_
    rintro e w' ⟨rfl, rfl⟩
    exact ⟨-1, rfl, .inl ⟨rfl, rfl⟩, Below.refl _ _⟩

theorem erase_flat (xs : List It) (i : Nat) : flat (xs.eraseIdx i) = flat (xs.take i) ++ flat (xs.drop (i + 1)) := by
  rw [List.eraseIdx_eq_take_drop_succ, flat_append]

theorem flat_take_get {xs : List It} {i j : Nat} {u : Value} (h : (flat (xs.take i))[j]? = some u) : (flat xs)[j]? = some u := by
  rw [← flat_take, List.getElem?_take] at h
  split at h
  · exact h
  · cases h

theorem flat_drop_get {xs : List It} {i j : Nat} {u : Value} (h : (flat (xs.drop i))[j]? = some u) : (flat xs)[i * 2 + j]? = some u := by
  rw [← flat_drop, List.getElem?_drop] at h
  exact h

set_option maxHeartbeats 1000000 in
theorem without_row {base g n cap i : Nat} {xs : List It} (w : World) (hr : w.ownsRow base 28 2 (.slice (some ⟨g, 0, none⟩) n cap) n (flat xs)) (hm : n ≤ 1000000) (hi : i < n) :
    Calls Try.prog 12 #[.slice (some ⟨g, 0, none⟩) n cap, .int .i64 i] w fun e w' => ∃ v', e = .returned v' ∧ w'.ownsRow w.heap.size 28 2 v' (xs.eraseIdx i).length (flat (xs.eraseIdx i)) ∧ Below w.heap.size w w' := by
  have hxl : xs.length = n := by have := hr.1; rw [flat_length] at this; omega
  obtain ⟨_, _, e, hnc, hcm, _⟩ := own_form hr
  cases e
  have H : Hid (w.ownsRow base 28 2 (.slice (some ⟨g, 0, none⟩) n cap) n (flat xs) ∧ xs.length = n) := ⟨hr, hxl⟩
  obtain ⟨i0, hi0, hz0, hz1, hz2⟩ := info_parts Try.info28
  have id : (i : Int) ≤ (cap : Int) := by omega
  have id1 : (i : Int) + 1 ≤ (n : Int) := by omega
  clear hr hxl
  go_enter Try.func12, Try.ntmps12
  have htl : (flat (xs.take i)).length = i * 2 := by rw [flat_length, List.length_take, H.out.2]; omega
  have TL : Hid ((flat (xs.take i)).length = i * 2) := htl
  clear htl
  have hgw : g < w.heap.size := (H.out.1.lt g rfl).2
  obtain ⟨A, hA, hnews⟩ : ∃ A : Addr, (if cap = i + 1 then some (⟨g, 0, none⟩ : Addr) else some ⟨g, (i + 1) * 2, none⟩) = some A ∧
      ∀ (W : World) (base' : Nat), W.ownsRow base' 28 2 (.slice (some ⟨g, 0, none⟩) n cap) n (flat xs) → ∀ j u, (flat (xs.drop (i + 1)))[j]? = some u → W.cell? (A.add j) = some u := by
    by_cases hc : cap = i + 1
    · refine ⟨⟨g, 0, none⟩, if_pos hc, fun W base' hW j u hj => ?_⟩
      have : xs.drop (i + 1) = [] := List.drop_eq_nil_of_le (by rw [H.out.2]; omega)
      rw [this] at hj
      simp [flat] at hj
    · refine ⟨⟨g, (i + 1) * 2, none⟩, if_neg hc, fun W base' hW j u hj => ?_⟩
      have h := hW.cells (g := g) rfl _ u (flat_drop_get hj)
      have e1 : (⟨g, 0, none⟩ : Addr).add ((i + 1) * 2 + j) = (⟨g, (i + 1) * 2, none⟩ : Addr).add j := by simp [Addr.add]
      rw [← e1]
      exact h
  have NW : Hid (∀ (W : World) (base' : Nat), W.ownsRow base' 28 2 (.slice (some ⟨g, 0, none⟩) n cap) n (flat xs) → ∀ j u, (flat (xs.drop (i + 1)))[j]? = some u → W.cell? (A.add j) = some u) := hnews
  have DL : Hid ((flat (xs.drop (i + 1))).length = (n - (i + 1)) * 2) := by show _ = _; rw [flat_length, List.length_drop, H.out.2]
  clear hnews
  go_wp2_with (first | (at_builtin; refine wpList_append_moved rfl (.tmp 6) (.tmp 9) 22 rfl w.heap.size 28 i0 _ 2 16 Try.underlying22 hi0 hz0 hz1 hz2 rfl (by decide) (.slice (some ⟨w.heap.size, 0, none⟩) 0 0) 0 [] rfl (World.ownsRow_lit w #[] 0 (Nat.le_refl _) (by decide) rfl) ⟨g, 0, none⟩ i cap (flat (xs.take i)) rfl TL.out (fun j u h => (H.out.1.alloc _).cells rfl j u (flat_take_get h)) (flat_one _) (by simp only [maxLen]; omega) (by omega) (by simp) ?_; intro v1 w1 hown hgrow hmov; have R1 : Hid (w1.ownsRow base 28 2 (.slice (some ⟨g, 0, none⟩) n cap) n (flat xs)) := (H.out.1.alloc _).kept hgrow (.inr (fun e => by simp [Value.ownBlock] at e; omega)); have B1 : Hid (Below w.heap.size w w1 ∧ w1.ownsRow w.heap.size 28 2 v1 i (flat (xs.take i))) := ⟨((Below.refl _ w).alloc (Nat.le_refl _) _).grown hgrow (by simp) (by intro k hk; simp only [Value.ownBlock, Option.some.injEq] at hk; omega), by simpa using hown⟩; clear hown hgrow hmov) | (at_builtin; refine wpList_append_moved rfl (.tmp 11) (.tmp 15) 22 rfl w.heap.size 28 i0 _ 2 16 Try.underlying22 hi0 hz0 hz1 hz2 rfl (by decide) v1 i (flat (xs.take i)) rfl B1.out.2 A (n - (i + 1)) (cap - (i + 1)) (flat (xs.drop (i + 1))) rfl DL.out (NW.out w1 base R1.out) (flat_one _) (by simp only [maxLen]; omega) (by omega) B1.out.1.size ?_; intro v2 w2 hown hgrow hmov; have R2 : Hid (w2.ownsRow w.heap.size 28 2 v2 (i + (n - (i + 1))) (flat (xs.take i) ++ flat (xs.drop (i + 1))) ∧ Below w.heap.size w w2) := ⟨hown, B1.out.1.grown hgrow B1.out.1.size (fun k hk => (B1.out.2.lt k hk).1)⟩; clear hown hgrow hmov))
  go_ret
  refine ⟨v2, rfl, ?_, R2.out.2⟩
  rw [erase_flat, List.length_eraseIdx_of_lt (by rw [H.out.2]; exact hi), H.out.2, show n - 1 = i + (n - (i + 1)) by omega]
  exact R2.out.1

/-- Without, at a place of whatever row. -/
theorem without_any {base i : Nat} {v : Value} {xs : List It} (w : World) (hr : w.ownsRow base 28 2 v xs.length (flat xs)) (hm : xs.length ≤ 1000000) (hi : i < xs.length) :
    Calls Try.prog 12 #[v, .int .i64 i] w fun e w' => ∃ v', e = .returned v' ∧ w'.ownsRow w.heap.size 28 2 v' (xs.eraseIdx i).length (flat (xs.eraseIdx i)) ∧ Below w.heap.size w w' := by
  obtain ⟨ao, cap, rfl, h1, h2, h3⟩ := own_form hr
  obtain ⟨g, rfl⟩ := h3 (by omega)
  exact without_row w hr hm hi

end Go.Proofs.Ytjpdckpkpcphcaa
