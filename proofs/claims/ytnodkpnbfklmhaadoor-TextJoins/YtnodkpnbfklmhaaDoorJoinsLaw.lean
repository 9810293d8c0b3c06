/-
  TextJoins' walk: of whatever list of texts it returns true and turns nothing that was there. No condition but that no list is longer than its room.
-/
import Derived.Test.YtnodkpnbfklmhaaDoorBackLaw
namespace Go.Proofs.YtnodkpnbfklmhaaDoor
open Go.RowKit

theorem plain_of {x : Bs} {n : Nat} (hn : x.length = n + 1) (h1 : noTen (x.take n)) (h2 : x[n]? = some 10) : plainB x := by
  refine ⟨x.take n, h1, ?_⟩
  have := List.take_add_one (l := x) (i := n)
  rw [h2, List.take_of_length_le (by omega)] at this
  exact this

theorem noTen_step {x : Bs} {k : Nat} {b : UInt8} (h : noTen (x.take k)) (hb : x[k]? = some b) (h1 : b ≠ 10) : noTen (x.take (k + 1)) := by
  rw [List.take_add_one, hb]
  intro y hy
  rcases List.mem_append.1 hy with q | q
  · exact h y q
  · simp at q; subst q; exact h1

theorem all_plain_step {xs : List Bs} {i : Nat} {x : Bs} (h : ∀ y ∈ xs.take i, plainB y) (hx : xs[i]? = some x) (hp : plainB x) : ∀ y ∈ xs.take (i + 1), plainB y := by
  rw [List.take_add_one, hx]
  intro y hy
  rcases List.mem_append.1 hy with q | q
  · exact h y q
  · simp at q; subst q; exact hp

theorem flat_step {xs : List Bs} {i : Nat} {x : Bs} {A X : ByteArray} (h : A.data.toList = (xs.take i).flatten) (hx : xs[i]? = some x) (hX : X.data.toList = x) : (A ++ X).data.toList = (xs.take (i + 1)).flatten := by
  rw [List.take_add_one, hx, ByteArray.data_append]
  simp [h, hX]

theorem plain_end {x : ByteArray} {j k : Nat} (hj : j + k = x.size) (hjn : ¬ j + 1 < x.size) (h0 : 0 < x.size) (h1 : x.data.toList[x.size - 1]? = some 10) (h2 : noTen (x.data.toList.take j)) : plainB x.data.toList := by
  have hs : x.data.toList.length = (x.size - 1) + 1 := by rw [← Lib.size_eq]; omega
  refine plain_of hs (fun y hy => ?_) h1
  refine h2 y ?_
  have : x.data.toList.take (x.size - 1) = (x.data.toList.take j).take (x.size - 1) := by rw [List.take_take]; congr 1; omega
  rw [this] at hy
  exact List.mem_of_mem_take hy

set_option maxHeartbeats 6400000 in
set_option maxRecDepth 100000 in
theorem joins_walk (ao : Option Addr) (n c : Nat) (xs : List Bs) (w : World) (hl : xs.length = n) (hnc : n ≤ c) (ha : Rd w ao xs) (hx9 : ∀ x ∈ xs, x.length ≤ 9223372036854775807) :
    Calls Tryd.prog 5 #[.slice ao n c] w fun e w' => e = .returned (.bool true) ∧ Below w.heap.size w w' := by
  have H : Hid (Rd w ao xs ∧ xs.length = n ∧ ∀ x ∈ xs, x.length ≤ 9223372036854775807) := ⟨ha, hl, hx9⟩
  clear ha hl hx9
  go_enter Tryd.func5, Tryd.ntmps5
  go_wp2_with fail
  refine (awake_walk w).mono ?_
  rintro e w1 ⟨rfl, hb1⟩
  have B1 : Hid (Below w.heap.size w w1) := hb1
  clear hb1
  by_cases h300 : 300 < n
  · have h' : (300 : Int) < n := by omega
    go_wp2
    go_ret
    exact ⟨rfl, B1.out⟩
  have h' : ¬ (300 : Int) < n := by omega
  go_wp2_with fail
  go_loopg [3, 4, 5, 6, 7] n (fun k av pv iv _ _ wr => ∃ (i : Nat) (A : ByteArray) (p : Bool), av = .string A ∧ pv = .bool p ∧ iv = .int .i64 i ∧ i + k = n ∧ A.size ≤ 100000 ∧ wr = w1 ∧ Hid (A.data.toList = (xs.take i).flatten ∧ (p = true → ∀ y ∈ xs.take i, plainB y)))
  case atStart => exact ⟨0, ⟨#[]⟩, true, rfl, rfl, rfl, by omega, by decide, rfl, rfl, by simp⟩
  case round =>
    obtain ⟨i, A, p, rfl, rfl, rfl, hi, hA, rfl, HA⟩ := hrel
    by_cases hin : i < n
    · have id : (i : Int) < (n : Int) := by omega
      have hil : i < xs.length := by rw [H.out.2.1]; exact hin
      have R1 := H.out.1.below B1.out
      obtain ⟨b1, o1, rfl, hlt, hc⟩ := R1 (by omega)
      have c1 := hc i hil
      obtain ⟨x, hx⟩ : ∃ x : ByteArray, (⟨(el xs i).toArray⟩ : ByteArray) = x := ⟨_, rfl⟩
      have hxl : xs[i]? = some x.data.toList := by rw [List.getElem?_eq_getElem hil, ← el_get hil, ← hx]
      have hxm : x.size ≤ 9223372036854775807 := by rw [Lib.size_eq]; exact H.out.2.2 _ (List.mem_of_getElem? hxl)
      rw [hx] at c1
      have X : Hid (xs[i]? = some x.data.toList) := hxl
      clear hc R1 hx hxl
      by_cases hbig : 100000 - A.size < x.size
      · have hb' : (100000 : Int) - A.size < x.size := by omega
        go_wp2
        go_ret
        exact ⟨rfl, B1.out⟩
      have hb' : ¬ (100000 : Int) - A.size < x.size := by omega
      cases hp : p with
      | false =>
        go_wp2_with fail
        go_loopg [4, 7] x.size (fun k pv kv wq => ∃ (j : Nat) (q : Bool), pv = .bool q ∧ kv = .int .i64 j ∧ j + k = x.size ∧ wq = wr ∧ Hid (q = true → p = true ∧ 0 < x.size ∧ x.data.toList[x.size - 1]? = some 10 ∧ noTen (x.data.toList.take j)))
        case atStart =>
          exact ⟨0, false, rfl, rfl, by omega, rfl, fun h => by cases h⟩
        case round =>
          obtain ⟨j, q, rfl, rfl, hj, rfl, HQ⟩ := hrel
          by_cases hjn : j + 1 < x.size
          · have jd : (j : Int) < (x.size : Int) - 1 := by omega
            have hjs : j < x.size := by omega
            cases q with
            | false =>
              go_wp2
              go_roundg (gk - 1)
              case measure => omega
              case rel => exact ⟨j + 1, false, rfl, by go_num, by omega, rfl, fun h => by cases h⟩
            | true =>
              have HT : Hid (p = true ∧ 0 < x.size ∧ x.data.toList[x.size - 1]? = some 10 ∧ noTen (x.data.toList.take j)) := HQ.out rfl
              clear HQ
              by_cases h10 : x[j] = 10
              · have h10' : (x[j].toNat : Int) = 10 := by rw [h10]; rfl
                go_wp2
                go_roundg (gk - 1)
                case measure => omega
                case rel => exact ⟨j + 1, false, rfl, by go_num, by omega, rfl, fun h => by cases h⟩
              · have h10' : ((x[j].toNat : Int) != 10) = true := by simpa using ten_no h10
                go_wp2
                go_roundg (gk - 1)
                case measure => omega
                case rel => exact ⟨j + 1, true, rfl, by go_num, by omega, rfl, fun _ => ⟨HT.out.1, HT.out.2.1, HT.out.2.2.1, noTen_step HT.out.2.2.2 (byte_at hjs) h10⟩⟩
          · have jd : ¬ (j : Int) < (x.size : Int) - 1 := by omega
            go_wp2
            go_roundg (n - (i + 1))
            case measure => omega
            case rel => exact ⟨i + 1, A ++ x, q, rfl, rfl, by go_num, by omega, by rw [ByteArray.size_append]; omega, rfl, flat_step HA.out.1 X.out rfl, fun hq => all_plain_step (HA.out.2 (HQ.out hq).1) X.out (plain_end hj hjn (HQ.out hq).2.1 (HQ.out hq).2.2.1 (HQ.out hq).2.2.2)⟩
      | true =>
        by_cases h0 : 0 < x.size
        · by_cases h10 : x[x.size - 1] = 10
          · have h10' : (x[x.size - 1].toNat : Int) = 10 := by rw [h10]; rfl
            go_wp2_with fail
            go_loopg [4, 7] x.size (fun k pv kv wq => ∃ (j : Nat) (q : Bool), pv = .bool q ∧ kv = .int .i64 j ∧ j + k = x.size ∧ wq = wr ∧ Hid (q = true → p = true ∧ 0 < x.size ∧ x.data.toList[x.size - 1]? = some 10 ∧ noTen (x.data.toList.take j)))
            case atStart =>
              exact ⟨0, true, rfl, rfl, by omega, rfl, fun _ => ⟨hp, h0, by rw [byte_at (by omega), h10], by simp [noTen]⟩⟩
            case round =>
              obtain ⟨j, q, rfl, rfl, hj, rfl, HQ⟩ := hrel
              by_cases hjn : j + 1 < x.size
              · have jd : (j : Int) < (x.size : Int) - 1 := by omega
                have hjs : j < x.size := by omega
                cases q with
                | false =>
                  go_wp2
                  go_roundg (gk - 1)
                  case measure => omega
                  case rel => exact ⟨j + 1, false, rfl, by go_num, by omega, rfl, fun h => by cases h⟩
                | true =>
                  have HT : Hid (p = true ∧ 0 < x.size ∧ x.data.toList[x.size - 1]? = some 10 ∧ noTen (x.data.toList.take j)) := HQ.out rfl
                  clear HQ
                  by_cases h10 : x[j] = 10
                  · have h10' : (x[j].toNat : Int) = 10 := by rw [h10]; rfl
                    go_wp2
                    go_roundg (gk - 1)
                    case measure => omega
                    case rel => exact ⟨j + 1, false, rfl, by go_num, by omega, rfl, fun h => by cases h⟩
                  · have h10' : ((x[j].toNat : Int) != 10) = true := by simpa using ten_no h10
                    go_wp2
                    go_roundg (gk - 1)
                    case measure => omega
                    case rel => exact ⟨j + 1, true, rfl, by go_num, by omega, rfl, fun _ => ⟨HT.out.1, HT.out.2.1, HT.out.2.2.1, noTen_step HT.out.2.2.2 (byte_at hjs) h10⟩⟩
              · have jd : ¬ (j : Int) < (x.size : Int) - 1 := by omega
                go_wp2
                go_roundg (n - (i + 1))
                case measure => omega
                case rel => exact ⟨i + 1, A ++ x, q, rfl, rfl, by go_num, by omega, by rw [ByteArray.size_append]; omega, rfl, flat_step HA.out.1 X.out rfl, fun hq => all_plain_step (HA.out.2 (HQ.out hq).1) X.out (plain_end hj hjn (HQ.out hq).2.1 (HQ.out hq).2.2.1 (HQ.out hq).2.2.2)⟩
          · have h10' : ((x[x.size - 1].toNat : Int) == 10) = false := by simpa using ten_no h10
            go_wp2_with fail
            go_loopg [4, 7] x.size (fun k pv kv wq => ∃ (j : Nat) (q : Bool), pv = .bool q ∧ kv = .int .i64 j ∧ j + k = x.size ∧ wq = wr ∧ Hid (q = true → p = true ∧ 0 < x.size ∧ x.data.toList[x.size - 1]? = some 10 ∧ noTen (x.data.toList.take j)))
            case atStart =>
              exact ⟨0, false, rfl, rfl, by omega, rfl, fun h => by cases h⟩
            case round =>
              obtain ⟨j, q, rfl, rfl, hj, rfl, HQ⟩ := hrel
              by_cases hjn : j + 1 < x.size
              · have jd : (j : Int) < (x.size : Int) - 1 := by omega
                have hjs : j < x.size := by omega
                cases q with
                | false =>
                  go_wp2
                  go_roundg (gk - 1)
                  case measure => omega
                  case rel => exact ⟨j + 1, false, rfl, by go_num, by omega, rfl, fun h => by cases h⟩
                | true =>
                  have HT : Hid (p = true ∧ 0 < x.size ∧ x.data.toList[x.size - 1]? = some 10 ∧ noTen (x.data.toList.take j)) := HQ.out rfl
                  clear HQ
                  by_cases h10 : x[j] = 10
                  · have h10' : (x[j].toNat : Int) = 10 := by rw [h10]; rfl
                    go_wp2
                    go_roundg (gk - 1)
                    case measure => omega
                    case rel => exact ⟨j + 1, false, rfl, by go_num, by omega, rfl, fun h => by cases h⟩
                  · have h10' : ((x[j].toNat : Int) != 10) = true := by simpa using ten_no h10
                    go_wp2
                    go_roundg (gk - 1)
                    case measure => omega
                    case rel => exact ⟨j + 1, true, rfl, by go_num, by omega, rfl, fun _ => ⟨HT.out.1, HT.out.2.1, HT.out.2.2.1, noTen_step HT.out.2.2.2 (byte_at hjs) h10⟩⟩
              · have jd : ¬ (j : Int) < (x.size : Int) - 1 := by omega
                go_wp2
                go_roundg (n - (i + 1))
                case measure => omega
                case rel => exact ⟨i + 1, A ++ x, q, rfl, rfl, by go_num, by omega, by rw [ByteArray.size_append]; omega, rfl, flat_step HA.out.1 X.out rfl, fun hq => all_plain_step (HA.out.2 (HQ.out hq).1) X.out (plain_end hj hjn (HQ.out hq).2.1 (HQ.out hq).2.2.1 (HQ.out hq).2.2.2)⟩
        · have h0' : ¬ (0 : Int) < x.size := by omega
          go_wp2_with fail
          go_loopg [4, 7] x.size (fun k pv kv wq => ∃ (j : Nat) (q : Bool), pv = .bool q ∧ kv = .int .i64 j ∧ j + k = x.size ∧ wq = wr ∧ Hid (q = true → p = true ∧ 0 < x.size ∧ x.data.toList[x.size - 1]? = some 10 ∧ noTen (x.data.toList.take j)))
          case atStart =>
            exact ⟨0, false, rfl, rfl, by omega, rfl, fun h => by cases h⟩
          case round =>
            obtain ⟨j, q, rfl, rfl, hj, rfl, HQ⟩ := hrel
            by_cases hjn : j + 1 < x.size
            · have jd : (j : Int) < (x.size : Int) - 1 := by omega
              have hjs : j < x.size := by omega
              cases q with
              | false =>
                go_wp2
                go_roundg (gk - 1)
                case measure => omega
                case rel => exact ⟨j + 1, false, rfl, by go_num, by omega, rfl, fun h => by cases h⟩
              | true =>
                have HT : Hid (p = true ∧ 0 < x.size ∧ x.data.toList[x.size - 1]? = some 10 ∧ noTen (x.data.toList.take j)) := HQ.out rfl
                clear HQ
                by_cases h10 : x[j] = 10
                · have h10' : (x[j].toNat : Int) = 10 := by rw [h10]; rfl
                  go_wp2
                  go_roundg (gk - 1)
                  case measure => omega
                  case rel => exact ⟨j + 1, false, rfl, by go_num, by omega, rfl, fun h => by cases h⟩
                · have h10' : ((x[j].toNat : Int) != 10) = true := by simpa using ten_no h10
                  go_wp2
                  go_roundg (gk - 1)
                  case measure => omega
                  case rel => exact ⟨j + 1, true, rfl, by go_num, by omega, rfl, fun _ => ⟨HT.out.1, HT.out.2.1, HT.out.2.2.1, noTen_step HT.out.2.2.2 (byte_at hjs) h10⟩⟩
            · have jd : ¬ (j : Int) < (x.size : Int) - 1 := by omega
              go_wp2
              go_roundg (n - (i + 1))
              case measure => omega
              case rel => exact ⟨i + 1, A ++ x, q, rfl, rfl, by go_num, by omega, by rw [ByteArray.size_append]; omega, rfl, flat_step HA.out.1 X.out rfl, fun hq => all_plain_step (HA.out.2 (HQ.out hq).1) X.out (plain_end hj hjn (HQ.out hq).2.1 (HQ.out hq).2.2.1 (HQ.out hq).2.2.2)⟩
    · obtain rfl : i = n := by omega
      have hfl : xs.flatten = A.data.toList := by
        have := HA.out.1
        rw [List.take_of_length_le (by rw [H.out.2.1]; omega)] at this
        exact this.symm
      have hpl : p = true → ∀ y ∈ xs, plainB y := by
        have := HA.out.2
        rw [List.take_of_length_le (by rw [H.out.2.1]; omega)] at this
        exact this
      have R1 := H.out.1.below B1.out
      have hj := join_any (c := c) wr R1 H.out.2.1 hnc (by omega) A hfl (by rw [hfl, ← Lib.size_eq]; omega)
      have P : Hid ((p = true → lines A.data.toList = xs) ∧ Rd wr ao xs) := ⟨fun h => by rw [← hfl]; exact lines_join xs (hpl h), R1⟩
      clear hfl hpl R1
      cases hp : p with
      | false =>
        go_wp2_with (go_at_call 12; refine hj.mono ?_; rintro e w2 ⟨rfl, hb2⟩)
        go_ret
        exact ⟨rfl, B1.out.trans (hb2.mono B1.out.size)⟩
      | true =>
        have hL : Hid (lines A.data.toList = xs) := P.out.1 hp
        have h1 := fun w => lines_any A (by omega) w
        rw [hL.out] at h1
        go_wp2_with (first
          | (go_at_call 12; refine hj.mono ?_; rintro e w2 ⟨rfl, hb2⟩; have B2 : Hid (Below w.heap.size w w2 ∧ Below wr.heap.size wr w2) := ⟨B1.out.trans (hb2.mono B1.out.size), hb2⟩; clear hb2)
          | (go_at_call 10; refine (h1 _).mono ?_; rintro e w3 ⟨m, c3, rfl, hm3, _, _, R3, hb3⟩; obtain rfl : i = m := H.out.2.1.symm.trans hm3; have B3 : Hid (Below w.heap.size w w3 ∧ Rd w3 (some ⟨w2.heap.size, 0, none⟩) xs ∧ Rd w3 ao xs) := ⟨B2.out.1.trans (hb3.mono B2.out.1.size), R3, (P.out.2.below B2.out.2).below hb3⟩; clear hb3 R3)
          | (go_at_call 9; refine (same_any (c := c3) (d := c) w3 B3.out.2.1 B3.out.2.2 H.out.2.1 H.out.2.1 (by omega) true (by simp)).mono ?_; rintro e w4 ⟨rfl, q, rfl⟩))
        go_ret
        exact ⟨rfl, ⟨B3.out.1.os, B3.out.1.tape, B3.out.1.output, B3.out.1.size, B3.out.1.block⟩⟩

end Go.Proofs.YtnodkpnbfklmhaaDoor
