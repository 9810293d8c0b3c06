/-
  Functions that look at lists of texts, each by a contract: the reference's Same and Has; slices.IndexFunc and slices.ContainsFunc at a predicate that writes nothing that was there; underOne. No condition but that the lists are shorter than any list can be.
-/
import Derived.Test.YtkoelofjgceohaaPSame
import Derived.Test.YtkoelofjgceohaaPUnders
import Derived.Shelf.Abstract
namespace Go.Proofs.Ytkoelofjgceohaa
open Go.RowKit

theorem any_step {ss : List Bs} {p : Bs → Bool} {i : Nat} (h : i < ss.length) (ht : (ss.take i).any p = false) (hx : p (el ss i) = false) : (ss.take (i + 1)).any p = false := by
  rw [List.take_succ_eq_append_getElem h, List.any_append, ht, ← el_get h]
  simp [hx]
theorem any_hit {ss : List Bs} {p : Bs → Bool} {i : Nat} (h : i < ss.length) (hx : p (el ss i) = true) : ss.any p = true :=
  List.any_eq_true.2 ⟨_, el_mem h, hx⟩

set_option maxHeartbeats 1600000 in
set_option maxRecDepth 100000 in
theorem rhas_any {ao : Option Addr} {c n : Nat} {ss : List Bs} (x : Bs) (w : World) (ha : Rd w ao ss) (hl : ss.length = n) (hn : n ≤ 4000000000000000000) (f : Bool) (hf : ss.any (· == x) = f) :
    Calls Try.prog 40 #[.slice ao n c, .string ⟨x.toArray⟩] w fun e w' => e = .returned (.bool f) ∧ w' = w := by
  have H : Hid (Rd w ao ss ∧ ss.length = n ∧ ss.any (· == x) = f) := ⟨ha, hl, hf⟩
  clear ha hl hf
  go_enter Try.func40, Try.ntmps40
  go_wp2_with fail
  go_loopg [5] n (fun k v wr => ∃ (i : Nat), v = .int .i64 i ∧ i + k = n ∧ wr = w ∧ Hid ((ss.take i).any (· == x) = false))
  case atStart => exact ⟨0, rfl, by omega, rfl, rfl⟩
  case round =>
    obtain ⟨i, rfl, hi, rfl, HT⟩ := hrel
    by_cases hin : i < n
    · have id : (i : Int) < (n : Int) := by omega
      obtain ⟨h1, h3, _⟩ := H.out
      obtain ⟨b1, o1, rfl, hlt1, hc1⟩ := h1 (by omega)
      obtain ⟨y, hy⟩ : ∃ y, el ss i = y := ⟨_, rfl⟩
      have c1 := hc1 i (by omega)
      rw [hy] at c1
      have X : Hid (el ss i = y) := hy
      clear h1 h3 hc1 hy
      cases hxy : y == x with
      | true =>
        go_wp2
        go_ret
        exact ⟨by rw [← H.out.2.2, any_hit (p := (· == x)) (i := i) (by rw [H.out.2.1]; exact hin) (by rw [X.out]; exact hxy)]; rfl, rfl⟩
      | false =>
        go_wp2
        go_roundg (gk - 1)
        case measure => omega
        case rel => exact ⟨i + 1, by go_num, by omega, rfl, any_step (p := (· == x)) (by rw [H.out.2.1]; exact hin) HT.out (by rw [X.out]; exact hxy)⟩
    · obtain rfl : i = n := by omega
      go_wp2
      go_ret
      refine ⟨?_, rfl⟩
      have e := HT.out
      rw [List.take_of_length_le (by rw [H.out.2.1]; omega)] at e
      rw [← H.out.2.2, e]
      rfl

end Go.Proofs.Ytkoelofjgceohaa
