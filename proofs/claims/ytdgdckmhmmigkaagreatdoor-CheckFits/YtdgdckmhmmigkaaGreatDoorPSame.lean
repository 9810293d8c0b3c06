/-
  The reference's Same (two lists of texts, held against each other) by a contract. No condition but that the lists are shorter than any list can be.
-/
import Derived.Test.YtdgdckmhmmigkaaGreatDoorPRoom
import Derived.Shelf.Abstract
import Derived.Laws.Strings3
import Derived.Laws.DeepStrings4
import Derived.Deep.LoopGhost
import Derived.Deep.RegionHeld3
import Derived.Deep.DeepCutAuto
import Derived.BigRegion
import Derived.BigQuiet
namespace Go.Proofs.YtdgdckmhmmigkaaGreatDoor
open Go.RowKit

theorem same_step {xs ys : List Bs} {i : Nat} (h1 : i < xs.length) (h2 : i < ys.length) (ht : xs.take i = ys.take i) (he : el xs i = el ys i) : xs.take (i + 1) = ys.take (i + 1) := by
  rw [List.take_succ_eq_append_getElem h1, List.take_succ_eq_append_getElem h2, ht, ← el_get h1, ← el_get h2, he]

theorem same_ne {xs ys : List Bs} {i : Nat} (he : el xs i ≠ el ys i) : (xs == ys) = false := by
  rw [beq_eq_false_iff_ne]
  intro e
  exact he (by rw [e])

set_option maxHeartbeats 1600000 in
set_option maxRecDepth 100000 in
theorem same_eq {ao bo : Option Addr} {c d n : Nat} {xs ys : List Bs} (w : World) (ha : Rd w ao xs) (hb : Rd w bo ys) (hl : xs.length = n) (hk : ys.length = n) (hn : n ≤ 4000000000000000000) :
    Calls Tryz.prog 6 #[.slice ao n c, .slice bo n d] w fun e w' => e = .returned (.bool (xs == ys)) ∧ ∃ m, w' = w.drewN m := by
  have H : Hid (Rd w ao xs ∧ Rd w bo ys ∧ xs.length = n ∧ ys.length = n) := ⟨ha, hb, hl, hk⟩
  clear ha hb hl hk
  go_enter Tryz.func6, Tryz.ntmps6
  go_wp2_with fail
  go_loopg [5] n (fun k v wr => ∃ (i m : Nat), v = .int .i64 i ∧ i + k = n ∧ wr = w.drewN m ∧ Hid (xs.take i = ys.take i))
  case atStart => exact ⟨0, 0, rfl, by omega, rfl, rfl⟩
  case round =>
    obtain ⟨i, m, rfl, hi, rfl, HT⟩ := hrel
    by_cases hin : i < n
    · have id : (i : Int) < (n : Int) := by omega
      obtain ⟨h1, h2, h3, h4⟩ := H.out
      obtain ⟨b1, o1, rfl, hlt1, hc1⟩ := h1 (by omega)
      obtain ⟨b2, o2, rfl, hlt2, hc2⟩ := h2 (by omega)
      obtain ⟨x, hx⟩ : ∃ x, el xs i = x := ⟨_, rfl⟩
      obtain ⟨y, hy⟩ : ∃ y, el ys i = y := ⟨_, rfl⟩
      have c1 := hc1 i (by omega)
      have c2 := hc2 i (by omega)
      rw [hx] at c1
      rw [hy] at c2
      have X : Hid (el xs i = x ∧ el ys i = y) := ⟨hx, hy⟩
      clear h1 h2 h3 h4 hc1 hc2 hx hy
      cases hxy : x == y with
      | true =>
        have hxy2 : (!x == y) = false := by rw [hxy]; rfl
        go_wp2_with fail
        go_quiet (fail)
        go_wp2
        go_roundg (gk - 1)
        case measure => omega
        case rel => exact ⟨i + 1, _, by go_num, by omega, rfl, same_step (by rw [H.out.2.2.1]; exact hin) (by rw [H.out.2.2.2]; exact hin) HT.out (by rw [X.out.1, X.out.2]; simpa using hxy)⟩
      | false =>
        have hxy2 : (!x == y) = true := by rw [hxy]; rfl
        go_wp2_with fail
        go_quiet (fail)
        go_wp2
        go_ret
        exact ⟨by rw [same_ne (i := i) (by rw [X.out.1, X.out.2]; simpa using hxy)]; rfl, _, World.drewN_drewN ..⟩
    · obtain rfl : i = n := by omega
      go_wp2
      go_ret
      refine ⟨?_, _, rfl⟩
      have e := HT.out
      rw [List.take_of_length_le (by rw [H.out.2.2.1]; omega), List.take_of_length_le (by rw [H.out.2.2.2]; omega)] at e
      rw [e, beq_self_eq_true]
      rfl

set_option maxHeartbeats 400000 in
set_option maxRecDepth 100000 in
theorem same_no {ao bo : Option Addr} {c d n m : Nat} (w : World) (h : n ≠ m) :
    Calls Tryz.prog 6 #[.slice ao n c, .slice bo m d] w fun e w' => e = .returned (.bool false) ∧ w' = w := by
  have h' : ¬ (n : Int) = (m : Int) := by omega
  go_enter Tryz.func6, Tryz.ntmps6
  go_wp2
  go_ret
  exact ⟨rfl, rfl⟩

theorem same_any {ao bo : Option Addr} {c d n m : Nat} {xs ys : List Bs} (w : World) (ha : Rd w ao xs) (hb : Rd w bo ys) (hl : xs.length = n) (hk : ys.length = m) (hn : n ≤ 4000000000000000000) (f : Bool) (hf : (xs == ys) = f) :
    Calls Tryz.prog 6 #[.slice ao n c, .slice bo m d] w fun e w' => e = .returned (.bool f) ∧ ∃ q, w' = w.drewN q := by
  subst hf
  by_cases h : n = m
  · subst h
    exact same_eq w ha hb hl hk hn
  · refine (same_no w h).mono ?_
    rintro e w' ⟨rfl, rfl⟩
    refine ⟨?_, 0, rfl⟩
    have : (xs == ys) = false := by
      rw [beq_eq_false_iff_ne]
      intro e
      rw [e] at hl
      omega
    rw [this]

end Go.Proofs.YtdgdckmhmmigkaaGreatDoor
