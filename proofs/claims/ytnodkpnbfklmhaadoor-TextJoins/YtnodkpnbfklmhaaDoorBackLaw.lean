/-
  TextBack's walk: of whatever text of at most 2,000,000 bytes it returns true and turns nothing that was there.
-/
import Derived.Test.YtnodkpnbfklmhaaDoorAwake
namespace Go.Proofs.YtnodkpnbfklmhaaDoor
open Go.RowKit

theorem byte_at {s : ByteArray} {k : Nat} (h : k < s.size) : s.data.toList[k]? = some s[k] := by
  rw [List.getElem?_eq_getElem (by rw [← Lib.size_eq]; exact h)]
  rfl

theorem ten_no {b : UInt8} (h : b ≠ 10) : ¬ (b.toNat : Int) = 10 := by
  intro e
  apply h
  have : b.toNat = 10 := by omega
  exact UInt8.toNat_inj.1 this

theorem empty_yes {s : ByteArray} (h : s.data.toList = []) : s = ⟨#[]⟩ := by
  cases s with
  | mk d => simp at h; simp [h]

theorem empty_no {s : ByteArray} (h : s.data.toList ≠ []) : s.toList.isEmpty = false := by
  rw [Lib.toList_data]
  cases e : s.data.toList with
  | nil => exact absurd e h
  | cons _ _ => rfl

set_option maxHeartbeats 3200000 in
set_option maxRecDepth 100000 in
theorem back_walk (s : ByteArray) (hs : s.size ≤ 2000000) (w : World) :
    Calls Tryd.prog 4 #[.string s] w fun e w' => e = .returned (.bool true) ∧ Below w.heap.size w w' := by
  have hlen : (lines s.data.toList).length ≤ 2000000 := by
    have := lines_len s.data.toList
    rw [← Lib.size_eq] at this
    omega
  have h1 := fun w => lines_any s (by omega) w
  have hflat : (lines s.data.toList).flatten = s.data.toList := lines_flat _
  have hok := lines_ok s.data.toList
  have hnone := lines_none s.data.toList
  have hsz : s.data.toList.length ≤ 2000000 := by rw [← Lib.size_eq]; exact hs
  obtain ⟨L, hL⟩ : ∃ L, lines s.data.toList = L := ⟨_, rfl⟩
  rw [hL] at h1 hlen hflat hok hnone
  have K : Hid (L.flatten = s.data.toList ∧ (∀ i x, L[i]? = some x → LineOk (decide (i + 1 = L.length)) x) ∧ (L = [] ↔ s.data.toList = []) ∧ L.flatten.length ≤ 2000000) := ⟨hflat, hok, hnone, by rw [hflat]; exact hsz⟩
  clear hL hflat hok hnone hsz
  go_enter Tryd.func4, Tryd.ntmps4
  go_wp2_with fail
  refine (awake_walk w).mono ?_
  rintro e w1 ⟨rfl, hb1⟩
  have B1 : Hid (Below w.heap.size w w1) := hb1
  clear hb1
  go_wp2_with fail
  refine (h1 _).mono ?_
  rintro e w2 ⟨n, c, rfl, hn, hnc, _, R2, hb2⟩
  have hj := join_any (c := c) w2 R2 hn hnc (by omega) s K.out.1 (by have := K.out.2.2.2; omega)
  have B2 : Hid (Below w.heap.size w w2 ∧ Rd w2 (some ⟨w1.heap.size, 0, none⟩) L ∧ L.length = n) := ⟨B1.out.trans (hb2.mono B1.out.size), R2, hn⟩
  have hnn : n ≤ 2000000 := by omega
  clear hb2 R2 hn
  go_wp2_with fail
  refine hj.mono ?_
  rintro e w3 ⟨rfl, hb3⟩
  have B3 : Hid (Below w.heap.size w w3 ∧ Rd w3 (some ⟨w1.heap.size, 0, none⟩) L) := ⟨B2.out.1.trans (hb3.mono B2.out.1.size), B2.out.2.1.below hb3⟩
  clear hb3 hj
  by_cases h0 : n = 0
  · subst h0
    have hse : s = ⟨#[]⟩ := empty_yes (K.out.2.2.1.1 (List.eq_nil_of_length_eq_zero B2.out.2.2))
    subst hse
    go_wp2_with fail
    go_loopg [4, 5, 6] 0 (fun k v _ _ wr => v = .int .i64 0 ∧ wr = w3)
    case atStart => exact ⟨rfl, rfl⟩
    case round =>
      obtain ⟨rfl, rfl⟩ := hrel
      go_wp2
      go_ret
      exact ⟨rfl, B3.out.1⟩
  · have h0' : ((n : Int) == 0) = false := by simpa using h0
    have hse : s.toList.isEmpty = false := empty_no (fun e => h0 (by rw [← B2.out.2.2, K.out.2.2.1.2 e]; rfl))
    go_wp2_with fail
    go_loopg [4, 5, 6] n (fun k v _ _ wr => ∃ i : Nat, v = .int .i64 i ∧ i + k = n ∧ wr = w3)
    case atStart => exact ⟨0, rfl, by omega, rfl⟩
    case round =>
      obtain ⟨i, rfl, hi, rfl⟩ := hrel
      by_cases hin : i < n
      · have id : (i : Int) < (n : Int) := by omega
        have hil : i < L.length := by rw [B2.out.2.2]; exact hin
        have hLk := K.out.2.1 i (el L i) (by rw [List.getElem?_eq_getElem hil, el_get hil])
        rw [B2.out.2.2] at hLk
        obtain ⟨b1, o1, e1, hlt, hc⟩ := B3.out.2 (by omega)
        obtain ⟨rfl, rfl⟩ : w1.heap.size = b1 ∧ 0 = o1 := by simpa using e1
        have c1 := hc i hil
        rw [Nat.zero_add] at c1
        obtain ⟨x, hx⟩ : ∃ x : ByteArray, (⟨(el L i).toArray⟩ : ByteArray) = x := ⟨_, rfl⟩
        have hxl : el L i = x.data.toList := by rw [← hx]
        rw [hx] at c1
        rw [hxl] at hLk
        have hxs : x.size ≤ 2000000 := by
          have : (el L i).length ≤ L.flatten.length := by
            have := List.sublist_flatten_of_mem (el_mem hil)
            exact this.length_le
          rw [Lib.size_eq, ← hxl]
          have := K.out.2.2.2
          omega
        have XL : Hid (LineOk (decide (i + 1 = n)) x.data.toList) := hLk
        have hxe : x.toList.isEmpty = false := empty_no hLk.1
        clear hc e1 hLk hx hxl
        go_wp2_with fail
        go_loopg [5, 6] x.size (fun k v _ wq => ∃ j : Nat, v = .int .i64 j ∧ j + k = x.size ∧ wq = wr)
        case atStart => exact ⟨0, rfl, by omega, rfl⟩
        case round =>
          obtain ⟨j, rfl, hj, rfl⟩ := hrel
          by_cases hjn : j < x.size
          · have jd : (j : Int) < (x.size : Int) := by omega
            obtain ⟨q1, q2⟩ := XL.out.2 j x[j] (byte_at hjn)
            rw [← Lib.size_eq] at q1 q2
            by_cases hlast : j + 1 = x.size
            · have l1 : (x.size : Int) - 1 = j := by omega
              by_cases hil2 : i + 1 = n
              · have l2 : ¬ (i : Int) < (n : Int) - 1 := by omega
                clear q1 q2 hlast hil2
                by_cases h10 : (x[j].toNat : Int) = 10
                all_goals go_wp2
                all_goals go_roundg (gk - 1)
                all_goals first
                  | omega
                  | exact ⟨j + 1, by go_num, by omega, rfl⟩
              · have l2 : (i : Int) < (n : Int) - 1 := by omega
                have h10 : (x[j].toNat : Int) = 10 := by rw [q2 hlast (by simpa using hil2)]; rfl
                clear q1 q2 hlast hil2
                go_wp2
                all_goals go_roundg (gk - 1)
                all_goals first
                  | omega
                  | exact ⟨j + 1, by go_num, by omega, rfl⟩
            · have l1 : ¬ (j : Int) = (x.size : Int) - 1 := by omega
              have h10 : ¬ (x[j].toNat : Int) = 10 := ten_no (fun e => hlast (q1 e))
              clear q1 q2 hlast
              go_wp2
              all_goals go_roundg (gk - 1)
              all_goals first
                | omega
                | exact ⟨j + 1, by go_num, by omega, rfl⟩
          · obtain rfl : j = x.size := by omega
            go_wp2
            go_roundg (n - (i + 1))
            case measure => omega
            case rel => exact ⟨i + 1, by go_num, by omega, rfl⟩
      · obtain rfl : i = n := by omega
        go_wp2
        go_ret
        exact ⟨rfl, B3.out.1⟩

end Go.Proofs.YtnodkpnbfklmhaaDoor
