/-
  slices.Equal of two lists of texts, and diff.begins, by contracts. No condition but that the lists are shorter than any list can be.
-/
import Derived.Test.YtmblkkmfbgngdaaHMem
namespace Go.Proofs.Ytmblkkmfbgngdaa
open Go.RowKit

set_option maxHeartbeats 1600000 in
set_option maxRecDepth 100000 in
theorem equal_eq {ao bo : Option Addr} {c d n : Nat} {xs ys : List Bs} (w : World) (ha : Rd w ao xs) (hb : Rd w bo ys) (hl : xs.length = n) (hk : ys.length = n) (hn : n ≤ 4000000000000000000) :
    Calls Try.prog 22 #[.slice ao n c, .slice bo n d] w fun e w' => e = .returned (.bool (xs == ys)) ∧ ∃ m, w' = w.drewN m := by
  have H : Hid (Rd w ao xs ∧ Rd w bo ys ∧ xs.length = n ∧ ys.length = n) := ⟨ha, hb, hl, hk⟩
  clear ha hb hl hk
  go_enter Try.func22, Try.ntmps22
  go_wp2_with fail
  go_loopg [5, 13] n (fun k _ v wr => ∃ (i m : Nat), v = .int .i64 i ∧ i + k = n ∧ wr = w.drewN m ∧ Hid (xs.take i = ys.take i))
  case atStart => exact ⟨0, 0, rfl, by omega, rfl, rfl⟩
  case round =>
    obtain ⟨i, m, rfl, hi, rfl, HT⟩ := hrel
    by_cases hin : i < n
    · have id : (i : Int) < (n : Int) := by omega
      obtain ⟨h1, h2, h3, h4⟩ := H.out
      obtain ⟨b1, o1, rfl, hlt1, hc1⟩ := h1 (by omega)
      obtain ⟨b2, o2, rfl, hlt2, hc2⟩ := h2 (by omega)
      obtain ⟨x, hx⟩ : ∃ x, el xs i = x := ⟨_, rfl⟩
      obtain ⟨y, hy⟩ : ∃ y, el ys i = y := ⟨_, rfl⟩
      have c1 := hc1 i (by omega)
      have c2 := hc2 i (by omega)
      rw [hx] at c1
      rw [hy] at c2
      have X : Hid (el xs i = x ∧ el ys i = y) := ⟨hx, hy⟩
      clear h1 h2 h3 h4 hc1 hc2 hx hy
      cases hxy : x == y with
      | true =>
        have hxy2 : (!x == y) = false := by rw [hxy]; rfl
        go_wp2_with fail
        go_quiet (fail)
        go_wp2
        go_roundg (gk - 1)
        case measure => omega
        case rel => exact ⟨i + 1, _, by go_num, by omega, rfl, same_step (by rw [H.out.2.2.1]; exact hin) (by rw [H.out.2.2.2]; exact hin) HT.out (by rw [X.out.1, X.out.2]; simpa using hxy)⟩
      | false =>
        have hxy2 : (!x == y) = true := by rw [hxy]; rfl
        go_wp2_with fail
        go_quiet (fail)
        go_wp2
        go_ret
        exact ⟨by rw [same_ne (i := i) (by rw [X.out.1, X.out.2]; simpa using hxy)]; rfl, _, World.drewN_drewN ..⟩
    · obtain rfl : i = n := by omega
      go_wp2
      go_ret
      refine ⟨?_, _, rfl⟩
      have e := HT.out
      rw [List.take_of_length_le (by rw [H.out.2.2.1]; omega), List.take_of_length_le (by rw [H.out.2.2.2]; omega)] at e
      rw [e, beq_self_eq_true]
      rfl

set_option maxHeartbeats 400000 in
theorem equal_no {ao bo : Option Addr} {c d n m : Nat} (w : World) (h : n ≠ m) :
    Calls Try.prog 22 #[.slice ao n c, .slice bo m d] w fun e w' => e = .returned (.bool false) ∧ w' = w := by
  have h' : ¬ (n : Int) = (m : Int) := by omega
  go_enter Try.func22, Try.ntmps22
  go_wp2
  go_ret
  exact ⟨rfl, rfl⟩

theorem equal_any {ao bo : Option Addr} {c d n m : Nat} {xs ys : List Bs} (w : World) (ha : Rd w ao xs) (hb : Rd w bo ys) (hl : xs.length = n) (hk : ys.length = m) (hn : n ≤ 4000000000000000000) (f : Bool) (hf : (xs == ys) = f) :
    Calls Try.prog 22 #[.slice ao n c, .slice bo m d] w fun e w' => e = .returned (.bool f) ∧ ∃ q, w' = w.drewN q := by
  subst hf
  by_cases h : n = m
  · subst h
    exact equal_eq w ha hb hl hk hn
  · refine (equal_no w h).mono ?_
    rintro e w' ⟨rfl, rfl⟩
    refine ⟨?_, 0, rfl⟩
    have : (xs == ys) = false := by
      rw [beq_eq_false_iff_ne]
      intro e
      rw [e] at hl
      omega
    rw [this]

theorem prefix_take {first lines : List Bs} (h : first.length ≤ lines.length) : first.isPrefixOf lines = (lines.take first.length == first) := by
  rw [Bool.eq_iff_iff, List.isPrefixOf_iff_prefix, beq_iff_eq]
  constructor
  · rintro ⟨t, rfl⟩; simp
  · intro e; rw [← e]; exact List.take_prefix _ _

theorem prefix_long {first lines : List Bs} (h : ¬ first.length ≤ lines.length) : first.isPrefixOf lines = false := by
  rw [Bool.eq_false_iff]
  intro e
  rw [List.isPrefixOf_iff_prefix] at e
  exact h e.length_le

set_option maxHeartbeats 800000 in
/-- diff.begins. -/
theorem begins_any {lo fo : Option Addr} {ln lc fn fc : Nat} {lines first : List Bs} (w : World) (hL : Rd w lo lines) (hF : Rd w fo first) (hl : lines.length = ln) (hf : first.length = fn) (hc : ln ≤ lc) (hn : ln ≤ 4000000000000000000) (f : Bool) (hb : first.isPrefixOf lines = f) :
    Calls Try.prog 21 #[.slice lo ln lc, .slice fo fn fc] w fun e w' => e = .returned (.bool f) ∧ ∃ q, w' = w.drewN q := by
  by_cases h : fn ≤ ln
  · have hd : decide ((fn : Int) ≤ (ln : Int)) = true := decide_eq_true (by omega)
    obtain ⟨a', k, c', s1, s2, s3, s4, s5⟩ := slice_j (ao := lo) (c := lc) hl hc h
    subst s3
    have heq := equal_any (c := c') (d := fc) w (s5 w hL) hF s2 hf (by omega) f (by rw [← hb, prefix_take (by omega), hf])
    clear hL hF hl hf hb s2 s4 s5 hc
    go_enter Try.func21, Try.ntmps21
    go_wp2_with fail
    refine heq.mono ?_
    rintro e w' ⟨rfl, q, rfl⟩
    go_wp2
    go_ret
    exact ⟨rfl, q, rfl⟩
  · have hd : decide ((fn : Int) ≤ (ln : Int)) = false := decide_eq_false (by omega)
    have e : f = false := by rw [← hb, prefix_long (by omega)]
    subst e
    clear hL hF hl hf hb hc
    go_enter Try.func21, Try.ntmps21
    go_wp2
    go_ret
    exact ⟨rfl, 0, rfl⟩

end Go.Proofs.Ytmblkkmfbgngdaa
