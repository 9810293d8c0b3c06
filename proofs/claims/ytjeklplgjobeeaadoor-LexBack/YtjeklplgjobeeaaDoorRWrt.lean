/-
  The reference's Digits and Write, each by a contract. No condition but that the tokens are such as Scan tells.
-/
import Derived.Test.YtjeklplgjobeeaaDoorLWrt
namespace Go.Proofs.YtjeklplgjobeeaaDoor
open Go.RowKit

/-- The digits of a number, none of 0. -/
def dD (n : Nat) : Bs := if n = 0 then [] else Lib.decDigits n
theorem dD_step (n : Nat) : Lib.decDigits n = dD (n / 10) ++ [UInt8.ofNat (48 + n % 10)] := by
  unfold dD
  by_cases h : n < 10
  · rw [if_pos (by omega), Lib.decDigits, dif_pos h, Nat.mod_eq_of_lt h]
    rfl
  · rw [if_neg (by omega)]
    conv => lhs; rw [Lib.decDigits, dif_neg h]
theorem dD_pos (n : Nat) (h : 0 < n) : dD n = dD (n / 10) ++ [UInt8.ofNat (48 + n % 10)] := by
  have : dD n = Lib.decDigits n := by unfold dD; rw [if_neg (by omega)]
  rw [this]
  exact dD_step n

theorem dig_char (n : Nat) : ((48 : Int) + (n : Int) % 10).toNat.toUInt8 = UInt8.ofNat (48 + n % 10) := by
  have : ((48 : Int) + (n : Int) % 10).toNat = 48 + n % 10 := by omega
  rw [this]

set_option maxHeartbeats 800000 in
theorem digits_any (n : Nat) (h : n ≤ 999999999) (w : World) :
    Calls Tryd.prog 22 #[.int .i64 (n : Int)] w fun e w' => e = .returned (.string ⟨(Lib.decDigits n).toArray⟩) ∧ Below w.heap.size w w' := by
  have hcv : ∀ (m : Nat) (ww : World), _ := fun m ww => conv_one ww ((48 : Int) + (m : Int) % 10) (by omega) (by omega)
  have hwr : ∀ m : Nat, IntKind.u8.wrap ((48 : Int) + (m : Int) % 10) = 48 + (m : Int) % 10 := fun m => by rw [IntKind.wrap_u8]; omega
  have hcn := hcv n
  have hwn := hwr n
  rw [dig_char] at hcn
  go_enter Tryd.func22, Tryd.ntmps22
  go_wp2
  go_loopg [0, 3] n (fun g a b u => ∃ (m : Nat) (X : ByteArray), a = .int .i64 (m : Int) ∧ b = .string X ∧ m ≤ g ∧ X.size + m ≤ n + 1 ∧ Hid (Lib.decDigits n = dD m ++ X.data.toList) ∧ Hid (Below w.heap.size w u))
  case atStart => exact ⟨n / 10, _, by go_num, rfl, by omega, by show 1 + n / 10 ≤ _; omega, dD_step n, (Below.refl _ w).alloc (Nat.le_refl _) _⟩
  case round =>
    obtain ⟨m, X, rfl, rfl, hm, hX, HD, HW⟩ := hrel
    have hcm := hcv m
    have hwm := hwr m
    rw [dig_char] at hcm
    by_cases h0 : 0 < m
    · have h0i : (0 : Int) < (m : Int) := by omega
      have HN := dD_pos m h0
      have HNN : Hid (_ = _) := HN
      clear HN
      go_wp2
      go_roundg (gk - 1)
      case measure => omega
      case rel =>
        refine ⟨m / 10, _, by go_num, rfl, by omega, ?_, ?_, ?_⟩
        · rw [ByteArray.size_append]
          show 1 + X.size + m / 10 ≤ _
          omega
        · show _ = _
          rw [HD.out, HNN.out, ByteArray.data_append]
          simp
        · exact HW.out.trans ((bz1 wr _).mono HW.out.size)
    · obtain rfl : m = 0 := by omega
      go_wp2
      go_ret
      refine ⟨?_, HW.out⟩
      have := HD.out
      rw [show dD 0 = [] from rfl, List.nil_append] at this
      rw [this]
      rfl

theorem one_size (c : UInt8) : ({ data := #[c] } : ByteArray).size = 1 := rfl

set_option maxHeartbeats 1600000 in
set_option maxRecDepth 100000 in
theorem rwrite_any {ao : Option Addr} {n c : Nat} {ts : List Tk} (w : World) (hr : RdG encT w ao ts) (hl : ts.length = n) (hc : n ≤ c) (hn : n ≤ 100000) (hgd : ∀ t ∈ ts, Gd t) (hlen : (wr ts).length ≤ 100000) :
    Calls Tryd.prog 12 #[.slice ao n c] w fun e w' => e = .returned (.string ⟨(wr ts).toArray⟩) ∧ Below w.heap.size w w' := by
  have H : Hid (RdG encT w ao ts ∧ ts.length = n ∧ (∀ t ∈ ts, Gd t) ∧ (wr ts).length ≤ 100000) := ⟨hr, hl, hgd, hlen⟩
  clear hr hl hgd hlen
  go_enter Tryd.func12, Tryd.ntmps12
  go_wp2_with fail
  go_loopg [3, 4] n (fun g b v u => ∃ (i : Nat) (X : ByteArray), v = .int .i64 i ∧ b = .string X ∧ i + g = n ∧ X.size ≤ 100000 ∧ Hid (X.data.toList = wr (ts.take i)) ∧ Hid (Below w.heap.size w u))
  case atStart => exact ⟨0, _, rfl, rfl, by omega, by decide, rfl, Below.refl _ w⟩
  case round =>
    obtain ⟨i, X, rfl, rfl, hi, hX, HB, HW⟩ := hrel
    by_cases hin : i < n
    · obtain ⟨h1, h2, h3, h4⟩ := H.out
      have hii : (i : Int) < (n : Int) := by omega
      obtain ⟨t, ht⟩ : ∃ t, ts[i]? = some t := ⟨_, List.getElem?_eq_getElem (by omega)⟩
      have hgt := h3 t (List.mem_of_getElem? ht)
      obtain ⟨tb, off, rfl, _⟩ := h1.some_of ht
      obtain ⟨hlt, k0, k1, k2, k3, k4⟩ := h1.tok ht
      have hm : ∀ j, wr.cell? ⟨tb, j, none⟩ = w.cell? ⟨tb, j, none⟩ := fun j => HW.out.cell (p := ⟨tb, j, none⟩) hlt
      rw [← hm] at k0 k1 k2 k3 k4
      have hstl := wr_take ts (i + 1)
      obtain ⟨n0, n1⟩ := hgt.num
      obtain ⟨i0, i1⟩ := hgt.id
      obtain ⟨S, hS⟩ : ∃ S : Bs, S = if 0 < i then [32] else [] := ⟨_, rfl⟩
      have HN : YtjeklplgjobeeaaDoor.wr (ts.take (i + 1)) = X.data.toList ++ S ++ st t := by
        rw [HB.out]
        by_cases q : 0 < i
        · rw [hS, if_pos q, wr_next ts i t ht q]; simp
        · obtain rfl : i = 0 := by omega
          rw [hS, if_neg (by omega), wr_first ts t ht]
          simp [YtjeklplgjobeeaaDoor.wr, jn]
      have hlen2 : X.size + S.length + (st t).length ≤ 100000 := by
        rw [HN, List.length_append, List.length_append, ← bsize] at hstl
        omega
      have htx := hgt.txt
      have HNN : Hid (_ = _) := HN
      clear h1 h2 h3 h4 hm ht hgt HN hstl
      obtain ⟨tk, tx, tm, ti, tp⟩ := t
      obtain ⟨y, hy⟩ : ∃ y : ByteArray, y = ⟨tx.toArray⟩ := ⟨_, rfl⟩
      simp only at k0 k1 k2 k3 k4 n0 n1 i0 i1 htx
      rw [← hy] at k1
      have hys : y.size ≤ 100000 := by rw [hy]; show tx.length ≤ _; omega
      have HY : Hid (y.data.toList = tx) := by show _ = _; rw [hy]
      obtain ⟨mn, rfl⟩ : ∃ mn : Nat, tm = mn := ⟨tm.toNat, by omega⟩
      have hdg := fun w => digits_any mn (by omega) w
      have hhx := fun w => rhex_any ti i0 i1 w
      have hhs : (hexS ti).size = 16 := by show (hexTail ti 16).toArray.size = 16; rw [List.size_toArray, hexTail_length]
      obtain ⟨D, hD⟩ : ∃ D : ByteArray, D = ⟨(Lib.decDigits mn).toArray⟩ := ⟨_, rfl⟩
      rw [← hD] at hdg
      have HD : Hid (D.data.toList = Lib.itoa mn) := by show _ = _; rw [hD, itoa_nat]
      obtain ⟨E, hE⟩ : ∃ E : ByteArray, E = hexS ti := ⟨_, rfl⟩
      rw [← hE] at hhx hhs
      have HE : Hid (E.data.toList = hexTail ti 16) := by show _ = _; rw [hE]; rfl
      clear hy hD hE htx
      by_cases h0 : 0 < i
      · have h0i : (0 : Int) < (i : Int) := by omega
        obtain rfl : S = [32] := by rw [hS, if_pos h0]
        clear hS
        by_cases h2 : tk = 2
        · subst h2
          have HS : Hid (st ⟨2, tx, mn, ti, tp⟩ = D.data.toList) := by show _ = _; rw [HD.out]; simp [st]
          have hDs : X.size + 1 + D.size ≤ 100000 := by rw [HS.out] at hlen2; simp only [List.length_cons, List.length_nil, ← bsize] at hlen2; omega
          go_wp2_with (go_at_call 22; refine (hdg _).mono ?_; rintro e w2 ⟨rfl, hb2⟩)
          go_roundg (gk - 1)
          case measure => omega
          case rel =>
            refine ⟨i + 1, _, by go_num, rfl, by omega, ?_, ?_, HW.out.trans (hb2.mono HW.out.size)⟩
            · simp only [ByteArray.size_append, one_size]
              omega
            · show _ = _
              rw [HNN.out, HS.out]
              simp [ByteArray.data_append]
        have e2 : (tk == 2) = false := by simpa using h2
        by_cases h3 : tk = 3
        · subst h3
          have HS : Hid (st ⟨3, tx, mn, ti, tp⟩ = 39 :: (y.data.toList ++ [39])) := by show _ = _; rw [HY.out]; simp [st]
          have hDs : X.size + 1 + (y.size + 2) ≤ 100000 := by rw [HS.out] at hlen2; simp only [List.length_cons, List.length_append, List.length_nil, ← bsize] at hlen2; omega
          go_wp2_with fail
          go_roundg (gk - 1)
          case measure => omega
          case rel =>
            refine ⟨i + 1, _, by go_num, rfl, by omega, ?_, ?_, HW.out⟩
            · simp only [ByteArray.size_append, one_size]
              omega
            · show _ = _
              rw [HNN.out, HS.out]
              simp [ByteArray.data_append]
        have e3 : (tk == 3) = false := by simpa using h3
        by_cases h4 : tk = 4
        · subst h4
          have HS : Hid (st ⟨4, tx, mn, ti, tp⟩ = 35 :: E.data.toList) := by show _ = _; rw [HE.out]; simp [st]
          have hDs : X.size + 1 + (E.size + 1) ≤ 100000 := by rw [HS.out] at hlen2; simp only [List.length_cons, List.length_nil, ← bsize] at hlen2; omega
          go_wp2_with (go_at_call 23; refine (hhx _).mono ?_; rintro e w2 ⟨rfl, hb2⟩)
          go_roundg (gk - 1)
          case measure => omega
          case rel =>
            refine ⟨i + 1, _, by go_num, rfl, by omega, ?_, ?_, HW.out.trans (hb2.mono HW.out.size)⟩
            · simp only [ByteArray.size_append, one_size]
              omega
            · show _ = _
              rw [HNN.out, HS.out]
              simp [ByteArray.data_append]
        · have e4 : (tk == 4) = false := by simpa using h4
          have HS : Hid (st ⟨tk, tx, mn, ti, tp⟩ = y.data.toList) := by show _ = _; rw [HY.out]; simp [st, h2, h3, h4]
          have hDs : X.size + 1 + y.size ≤ 100000 := by rw [HS.out] at hlen2; simp only [List.length_cons, List.length_nil, ← bsize] at hlen2; omega
          go_wp2_with fail
          go_roundg (gk - 1)
          case measure => omega
          case rel =>
            refine ⟨i + 1, _, by go_num, rfl, by omega, ?_, ?_, HW.out⟩
            · simp only [ByteArray.size_append, one_size]
              omega
            · show _ = _
              rw [HNN.out, HS.out]
              simp [ByteArray.data_append]
      · have h0i : ¬ (0 : Int) < (i : Int) := by omega
        obtain rfl : S = [] := by rw [hS, if_neg h0]
        clear hS
        by_cases h2 : tk = 2
        · subst h2
          have HS : Hid (st ⟨2, tx, mn, ti, tp⟩ = D.data.toList) := by show _ = _; rw [HD.out]; simp [st]
          have hDs : X.size + 0 + D.size ≤ 100000 := by rw [HS.out] at hlen2; simp only [List.length_nil, ← bsize] at hlen2; omega
          go_wp2_with (go_at_call 22; refine (hdg _).mono ?_; rintro e w2 ⟨rfl, hb2⟩)
          go_roundg (gk - 1)
          case measure => omega
          case rel =>
            refine ⟨i + 1, _, by go_num, rfl, by omega, ?_, ?_, HW.out.trans (hb2.mono HW.out.size)⟩
            · simp only [ByteArray.size_append]
              omega
            · show _ = _
              rw [HNN.out, HS.out]
              simp [ByteArray.data_append]
        have e2 : (tk == 2) = false := by simpa using h2
        by_cases h3 : tk = 3
        · subst h3
          have HS : Hid (st ⟨3, tx, mn, ti, tp⟩ = 39 :: (y.data.toList ++ [39])) := by show _ = _; rw [HY.out]; simp [st]
          have hDs : X.size + 0 + (y.size + 2) ≤ 100000 := by rw [HS.out] at hlen2; simp only [List.length_cons, List.length_append, List.length_nil, ← bsize] at hlen2; omega
          go_wp2_with fail
          go_roundg (gk - 1)
          case measure => omega
          case rel =>
            refine ⟨i + 1, _, by go_num, rfl, by omega, ?_, ?_, HW.out⟩
            · simp only [ByteArray.size_append, one_size]
              omega
            · show _ = _
              rw [HNN.out, HS.out]
              simp [ByteArray.data_append]
        have e3 : (tk == 3) = false := by simpa using h3
        by_cases h4 : tk = 4
        · subst h4
          have HS : Hid (st ⟨4, tx, mn, ti, tp⟩ = 35 :: E.data.toList) := by show _ = _; rw [HE.out]; simp [st]
          have hDs : X.size + 0 + (E.size + 1) ≤ 100000 := by rw [HS.out] at hlen2; simp only [List.length_cons, List.length_nil, ← bsize] at hlen2; omega
          go_wp2_with (go_at_call 23; refine (hhx _).mono ?_; rintro e w2 ⟨rfl, hb2⟩)
          go_roundg (gk - 1)
          case measure => omega
          case rel =>
            refine ⟨i + 1, _, by go_num, rfl, by omega, ?_, ?_, HW.out.trans (hb2.mono HW.out.size)⟩
            · simp only [ByteArray.size_append, one_size]
              omega
            · show _ = _
              rw [HNN.out, HS.out]
              simp [ByteArray.data_append]
        · have e4 : (tk == 4) = false := by simpa using h4
          have HS : Hid (st ⟨tk, tx, mn, ti, tp⟩ = y.data.toList) := by show _ = _; rw [HY.out]; simp [st, h2, h3, h4]
          have hDs : X.size + 0 + y.size ≤ 100000 := by rw [HS.out] at hlen2; simp only [List.length_nil, ← bsize] at hlen2; omega
          go_wp2_with fail
          go_roundg (gk - 1)
          case measure => omega
          case rel =>
            refine ⟨i + 1, _, by go_num, rfl, by omega, ?_, ?_, HW.out⟩
            · simp only [ByteArray.size_append]
              omega
            · show _ = _
              rw [HNN.out, HS.out]
              simp [ByteArray.data_append]
    · obtain rfl : i = n := by omega
      have e1 : ts.take i = ts := List.take_of_length_le (by rw [H.out.2.1]; exact Nat.le_refl _)
      rw [e1] at HB
      clear e1
      go_wp2_with fail
      go_ret
      refine ⟨?_, HW.out⟩
      rw [← HB.out]
      rfl

end Go.Proofs.YtjeklplgjobeeaaDoor
