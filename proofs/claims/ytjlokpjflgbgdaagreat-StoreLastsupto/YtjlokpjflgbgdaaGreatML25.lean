/-
  The reference's Open, by a contract over frames. No condition but that what is handed in is no longer than any memory holds.
-/
import Derived.Test.YtjlokpjflgbgdaaGreatML24
set_option maxHeartbeats 6400000
set_option maxRecDepth 100000
namespace Go.Proofs.YtjlokpjflgbgdaaGreat
open Go.RowKit
section
variable {w : World} {s : ByteArray} {n : Nat}
theorem ropen_few (hz : s.size = n) (h : n < 4) : Calls Tryz.prog 177 #[.string s] w λ e w' => e = .returned (.tuple #[.agg #[.int .i64 0, tx []], .int .i64 0, .int .i64 10]) /\ Below w.heap.size w w' := by
 have q : (n : Int) < 4 := by omega
 go_enter Tryz.func177, Tryz.ntmps177
 go_wp2
 refine bodyPost_ret (v := .tuple #[.agg #[.int .i64 0, tx []], .int .i64 0, .int .i64 10]) ?_ rfl ⟨rfl, ?_⟩
 ·simp [results, Tryz.f177]
  go_simp
 ·exact bz1 _ _
theorem ropen_long (hz : s.size = n) (h : ¬ n < 4) (t : Nat) (ht : val ((s.extract 0 4).data.toList) = t) (h8 : 8192 < t) : Calls Tryz.prog 177 #[.string s] w λ e w' => e = .returned (.tuple #[.agg #[.int .i64 0, tx []], .int .i64 0, .int .i64 4]) /\ Below w.heap.size w w' := by
 have q : decide ((n : Int) < 4) = false := by rw [decide_eq_false_iff_not]; omega
 have n4 : (4 : Int) <= (n : Int) := by omega
 have q2 : (8192 : Int) < (t : Int) := by omega
 obtain ⟨W, hW⟩ : ∃ W, w.alloc (.cells #[.int .i64 0, .string ⟨#[]⟩] 223) = W := ⟨_, rfl⟩
 have B0 : Below w.heap.size w W := by rw [<- hW]; exact bz1 _ _
 have T : Box W w.heap.size 223 (.int .i64 0) (.string ⟨#[]⟩) := by rw [<- hW]; exact Box.new w _ _ _
 have hva := rvalue_any (s.extract 0 4) (by rw [ByteArray.size_extract]; omega) W
 rw [ht] at hva
 obtain ⟨p, hp⟩ : ∃ p, s.extract 0 4 = p := ⟨_, rfl⟩
 rw [hp] at hva
 have HB : Hid (Below w.heap.size w W /\ Box W w.heap.size 223 (.int .i64 0) (.string ⟨#[]⟩)) := ⟨B0, T⟩
 obtain ⟨x0, x1⟩ := T.cells
 obtain ⟨f0, f1⟩ := T.thaw
 clear ht h B0 T
 go_enter Tryz.func177, Tryz.ntmps177
 go_wp2_with fail
 refine hva.mono ?_
 rintro e w1 ⟨rfl, hw1⟩
 rw [hw1]
 clear hw1 w1 hva
 go_wp2
 refine bodyPost_ret (v := .tuple #[.agg #[.int .i64 0, tx []], .int .i64 0, .int .i64 4]) ?_ rfl ⟨rfl, (lay_box HB.out.1 (Nat.le_refl _) _ _).1⟩
 simp [results, Tryz.f177]
 go_simp
theorem ropen_short (hz : s.size = n) (h : ¬ n < 4) (t : Nat) (ht : val ((s.extract 0 4).data.toList) = t) (h8 : ¬ 8192 < t) (h9 : n < 9 + t) : Calls Tryz.prog 177 #[.string s] w λ e w' => e = .returned (.tuple #[.agg #[.int .i64 0, tx []], .int .i64 0, .int .i64 10]) /\ Below w.heap.size w w' := by
 have q : decide ((n : Int) < 4) = false := by rw [decide_eq_false_iff_not]; omega
 have n4 : (4 : Int) <= (n : Int) := by omega
 have q2 : decide ((8192 : Int) < (t : Int)) = false := by rw [decide_eq_false_iff_not]; omega
 have ww : IntKind.i64.wrap (t : Int) = (t : Int) := by rw [IntKind.wrap_i64]; omega
 obtain ⟨en, hen⟩ : ∃ en, 5 + t = en := ⟨_, rfl⟩
 have he : (5 + (t : Int)) = (en : Int) := by omega
 have en8 : en <= 8197 := by omega
 have q3 : decide ((n : Int) < (en : Int) + 4) = true := by rw [decide_eq_true_iff]; omega
 obtain ⟨W, hW⟩ : ∃ W, w.alloc (.cells #[.int .i64 0, .string ⟨#[]⟩] 223) = W := ⟨_, rfl⟩
 have B0 : Below w.heap.size w W := by rw [<- hW]; exact bz1 _ _
 have T : Box W w.heap.size 223 (.int .i64 0) (.string ⟨#[]⟩) := by rw [<- hW]; exact Box.new w _ _ _
 have hva := rvalue_any (s.extract 0 4) (by rw [ByteArray.size_extract]; omega) W
 rw [ht] at hva
 obtain ⟨p, hp⟩ : ∃ p, s.extract 0 4 = p := ⟨_, rfl⟩
 rw [hp] at hva
 have HB : Hid (Below w.heap.size w W /\ Box W w.heap.size 223 (.int .i64 0) (.string ⟨#[]⟩)) := ⟨B0, T⟩
 obtain ⟨x0, x1⟩ := T.cells
 obtain ⟨f0, f1⟩ := T.thaw
 clear ht h B0 T
 go_enter Tryz.func177, Tryz.ntmps177
 go_wp2_with fail
 refine hva.mono ?_
 rintro e w1 ⟨rfl, hw1⟩
 rw [hw1]
 clear hw1 w1 hva
 go_wp2
 refine bodyPost_ret (v := .tuple #[.agg #[.int .i64 0, tx []], .int .i64 0, .int .i64 10]) ?_ rfl ⟨rfl, (lay_box HB.out.1 (Nat.le_refl _) _ _).1⟩
 simp [results, Tryz.f177]
 go_simp
theorem ropen_sum (hz : s.size = n) (h : ¬ n < 4) (t : Nat) (ht : val ((s.extract 0 4).data.toList) = t) (h8 : ¬ 8192 < t) (h9 : ¬ n < 9 + t) (hs : val ((s.extract (5 + t) (5 + t + 4)).data.toList) ≠ crc ((s.extract 0 (5 + t)).data.toList)) : Calls Tryz.prog 177 #[.string s] w λ e w' => e = .returned (.tuple #[.agg #[.int .i64 0, tx []], .int .i64 0, .int .i64 11]) /\ Below w.heap.size w w' := by
 have q : decide ((n : Int) < 4) = false := by rw [decide_eq_false_iff_not]; omega
 have n4 : (4 : Int) <= (n : Int) := by omega
 have q2 : decide ((8192 : Int) < (t : Int)) = false := by rw [decide_eq_false_iff_not]; omega
 have ww : IntKind.i64.wrap (t : Int) = (t : Int) := by rw [IntKind.wrap_i64]; omega
 obtain ⟨en, hen⟩ : ∃ en, 5 + t = en := ⟨_, rfl⟩
 have he : (5 + (t : Int)) = (en : Int) := by omega
 have en8 : en <= 8197 := by omega
 have q3 : decide ((n : Int) < (en : Int) + 4) = false := by rw [decide_eq_false_iff_not]; omega
 have en4 : (en : Int) + 4 <= (n : Int) := by omega
 have en0 : (en : Int) <= (n : Int) := by omega
 have en1 : (0 : Int) <= (en : Int) := by omega
 have tn : ((en : Int) + 4).toNat = en + 4 := by omega
 have en2 : (en : Int) <= (en : Int) + 4 := by omega
 have en3 : IntKind.i64.wrap ((en : Int) + 4) = (en : Int) + 4 := by rw [IntKind.wrap_i64]; omega
 obtain ⟨p1, hp1⟩ : ∃ p1, s.extract en (en + 4) = p1 := ⟨_, rfl⟩
 obtain ⟨p2, hp2⟩ : ∃ p2, s.extract 0 en = p2 := ⟨_, rfl⟩
 obtain ⟨cr, hcr⟩ : ∃ cr, crc p2.data.toList = cr := ⟨_, rfl⟩
 obtain ⟨W, hW⟩ : ∃ W, w.alloc (.cells #[.int .i64 0, .string ⟨#[]⟩] 223) = W := ⟨_, rfl⟩
 have B0 : Below w.heap.size w W := by rw [<- hW]; exact bz1 _ _
 have T : Box W w.heap.size 223 (.int .i64 0) (.string ⟨#[]⟩) := by rw [<- hW]; exact Box.new w _ _ _
 have hva := rvalue_any (s.extract 0 4) (by rw [ByteArray.size_extract]; omega) W
 rw [ht] at hva
 obtain ⟨p, hp⟩ : ∃ p, s.extract 0 4 = p := ⟨_, rfl⟩
 rw [hp] at hva
 have HB : Hid (Below w.heap.size w W /\ Box W w.heap.size 223 (.int .i64 0) (.string ⟨#[]⟩)) := ⟨B0, T⟩
 obtain ⟨x0, x1⟩ := T.cells
 obtain ⟨f0, f1⟩ := T.thaw
 clear ht h B0 T
 go_enter Tryz.func177, Tryz.ntmps177
 go_wp2_with fail
 refine hva.mono ?_
 rintro e w1 ⟨rfl, hw1⟩
 rw [hw1]
 clear hw1 w1 hva
 have hsp : (s.extract en (en + 4)).size <= 4 := by rw [ByteArray.size_extract]; omega
 rw [hp1] at hsp
 have hvv := λ u => rvalue_any p1 (Nat.le_trans hsp (by decide)) u
 obtain ⟨t1, ht1⟩ : ∃ t1, val p1.data.toList = t1 := ⟨_, rfl⟩
 rw [ht1] at hvv
 have hpl : p2.data.toList.length = en := by
  have e0 : p2.size = en := by rw [<- hp2, ByteArray.size_extract]; omega
  rw [<- e0]
  rfl
 obtain ⟨W4, c4, hcv', b4', s4', R4⟩ := bytes_of W.drew p2.data.toList
 have hcv : (convert 9 39 (.string p2)).run Tryz.prog W.drew = .ok (.slice (some ⟨W.heap.size, 0, none⟩) en c4) W4 := by
  have e1 : tx p2.data.toList = Value.string p2 := by simp
  rw [e1, hpl] at hcv'
  exact hcv'
 have hb4 : BAt W4 (.slice (some ⟨W.heap.size, 0, none⟩) en c4) p2.data.toList := by
  have := R4.1.at R4.2.1 (R4.2.2 (by rw [hpl]; simp only [maxLen]; omega))
  rw [hpl] at this
  exact this
 have hck := rcheck_any W4 hb4
 rw [hcr] at hck
 have HX1 : Hid (Below W.heap.size W W.drew) := (Below.refl _ W).drew
 have HX2 : Hid (Below W.heap.size W W4) := (Below.refl _ W).drew.trans b4'
 have wc : IntKind.u64.wrap (cr : Int) = (cr : Int) := by
  have : cr < 4294967296 := by rw [<- hcr]; exact crc_lt _
  rw [IntKind.wrap_u64]; omega
 rw [<- hen] at hp1 hp2
 rw [hp1, hp2, ht1, hcr] at hs
 have m0 : ((t1 : Int) != (cr : Int)) = true := by
  rw [bne_iff_ne]
  intro q
  exact hs (by omega)
 rw [hen] at hp1 hp2
 have HK : Hid (∀ u, Calls Tryz.prog 110 #[.string p1] u λ e w' => e = .returned (.int .u64 (t1 : Int)) /\ w' = u) := hvv
 have HC : Hid (Calls Tryz.prog 105 #[.slice (some ⟨W.heap.size, 0, none⟩) en c4] W4 λ e w' => e = .returned (.int .u32 (cr : Int)) /\ w' = W4) := hck
 clear hvv hck hcv' b4' s4' R4 hb4 hpl hsp hcr ht1 hs hen h9
 go_wp2_with fail
 go_region_with
  (first
   | (go_at_call 105; (with_reducible refine HC.out.mono ?_); rintro e w3 ⟨rfl, hw3⟩; rw [hw3]; clear hw3 w3)
   | (go_at_call 110; (with_reducible refine (HK.out _).mono ?_); rintro e w3 ⟨rfl, hw3⟩; rw [hw3]; clear hw3 w3))
 all_goals
  obtain ⟨y0, y1⟩ := (HB.out.2.below HX2.out).cells
  obtain ⟨g0, g1⟩ := (HB.out.2.below HX2.out).thaw
  have BE : Hid (Below w.heap.size w W4) := HB.out.1.trans (HX2.out.mono HB.out.1.size)
  go_wp2
  refine bodyPost_ret (v := .tuple #[.agg #[.int .i64 0, tx []], .int .i64 0, .int .i64 11]) ?_ rfl ⟨rfl, (lay_box BE.out (Nat.le_refl _) _ _).1⟩
  simp [results, Tryz.f177]
  go_simp
theorem ropen_ok (hz : s.size = n) (_h : ¬ n < 4) (t : Nat) (ht : val ((s.extract 0 4).data.toList) = t) (h8 : ¬ 8192 < t) (h9 : ¬ n < 9 + t) (hs : val ((s.extract (5 + t) (5 + t + 4)).data.toList) = crc ((s.extract 0 (5 + t)).data.toList)) (hi4 : 4 < s.size) : Calls Tryz.prog 177 #[.string s] w λ e w' => e = .returned (.tuple #[.agg #[.int .i64 (s[4].toNat : Int), .string (s.extract 5 (5 + t))], .int .i64 ((9 + t : Nat) : Int), .int .i64 0]) /\ Below w.heap.size w w' := by
 have q : decide ((n : Int) < 4) = false := by rw [decide_eq_false_iff_not]; omega
 have n4 : (4 : Int) <= (n : Int) := by omega
 have q2 : decide ((8192 : Int) < (t : Int)) = false := by rw [decide_eq_false_iff_not]; omega
 have ww : IntKind.i64.wrap (t : Int) = (t : Int) := by rw [IntKind.wrap_i64]; omega
 obtain ⟨en, hen⟩ : ∃ en, 5 + t = en := ⟨_, rfl⟩
 have he : (5 + (t : Int)) = (en : Int) := by omega
 have en8 : en <= 8197 := by omega
 have q3 : decide ((n : Int) < (en : Int) + 4) = false := by rw [decide_eq_false_iff_not]; omega
 have en4 : (en : Int) + 4 <= (n : Int) := by omega
 have en0 : (en : Int) <= (n : Int) := by omega
 have en1 : (0 : Int) <= (en : Int) := by omega
 have tn : ((en : Int) + 4).toNat = en + 4 := by omega
 have en2 : (en : Int) <= (en : Int) + 4 := by omega
 have en3 : IntKind.i64.wrap ((en : Int) + 4) = (en : Int) + 4 := by rw [IntKind.wrap_i64]; omega
 obtain ⟨p1, hp1⟩ : ∃ p1, s.extract en (en + 4) = p1 := ⟨_, rfl⟩
 obtain ⟨p2, hp2⟩ : ∃ p2, s.extract 0 en = p2 := ⟨_, rfl⟩
 obtain ⟨cr, hcr⟩ : ∃ cr, crc p2.data.toList = cr := ⟨_, rfl⟩
 obtain ⟨y, hy⟩ : ∃ y, s[4] = y := ⟨_, rfl⟩
 obtain ⟨pb, hpb⟩ : ∃ pb, s.extract 5 en = pb := ⟨_, rfl⟩
 have i4 : (4 : Int) < (n : Int) := by omega
 have i5 : (5 : Int) <= (en : Int) := by omega
 have wy : IntKind.i64.wrap (y.toNat : Int) = (y.toNat : Int) := by have := y.toNat_lt; rw [IntKind.wrap_i64]; omega
 rw [hen, hy, hpb]
 have e9 : ((9 + t : Nat) : Int) = (en : Int) + 4 := by omega
 rw [e9]
 clear e9
 obtain ⟨W, hW⟩ : ∃ W, w.alloc (.cells #[.int .i64 0, .string ⟨#[]⟩] 223) = W := ⟨_, rfl⟩
 have B0 : Below w.heap.size w W := by rw [<- hW]; exact bz1 _ _
 have T : Box W w.heap.size 223 (.int .i64 0) (.string ⟨#[]⟩) := by rw [<- hW]; exact Box.new w _ _ _
 have hva := rvalue_any (s.extract 0 4) (by rw [ByteArray.size_extract]; omega) W
 rw [ht] at hva
 obtain ⟨p, hp⟩ : ∃ p, s.extract 0 4 = p := ⟨_, rfl⟩
 rw [hp] at hva
 have HB : Hid (Below w.heap.size w W /\ Box W w.heap.size 223 (.int .i64 0) (.string ⟨#[]⟩)) := ⟨B0, T⟩
 obtain ⟨x0, x1⟩ := T.cells
 obtain ⟨f0, f1⟩ := T.thaw
 clear ht B0 T
 go_enter Tryz.func177, Tryz.ntmps177
 go_wp2_with fail
 refine hva.mono ?_
 rintro e w1 ⟨rfl, hw1⟩
 rw [hw1]
 clear hw1 w1 hva
 have hsp : (s.extract en (en + 4)).size <= 4 := by rw [ByteArray.size_extract]; omega
 rw [hp1] at hsp
 have hvv := λ u => rvalue_any p1 (Nat.le_trans hsp (by decide)) u
 obtain ⟨t1, ht1⟩ : ∃ t1, val p1.data.toList = t1 := ⟨_, rfl⟩
 rw [ht1] at hvv
 have hpl : p2.data.toList.length = en := by
  have e0 : p2.size = en := by rw [<- hp2, ByteArray.size_extract]; omega
  rw [<- e0]
  rfl
 obtain ⟨W4, c4, hcv', b4', s4', R4⟩ := bytes_of W.drew p2.data.toList
 have hcv : (convert 9 39 (.string p2)).run Tryz.prog W.drew = .ok (.slice (some ⟨W.heap.size, 0, none⟩) en c4) W4 := by
  have e1 : tx p2.data.toList = Value.string p2 := by simp
  rw [e1, hpl] at hcv'
  exact hcv'
 have hb4 : BAt W4 (.slice (some ⟨W.heap.size, 0, none⟩) en c4) p2.data.toList := by
  have := R4.1.at R4.2.1 (R4.2.2 (by rw [hpl]; simp only [maxLen]; omega))
  rw [hpl] at this
  exact this
 have hck := rcheck_any W4 hb4
 rw [hcr] at hck
 have HX1 : Hid (Below W.heap.size W W.drew) := (Below.refl _ W).drew
 have HX2 : Hid (Below W.heap.size W W4) := (Below.refl _ W).drew.trans b4'
 have wc : IntKind.u64.wrap (cr : Int) = (cr : Int) := by
  have : cr < 4294967296 := by rw [<- hcr]; exact crc_lt _
  rw [IntKind.wrap_u64]; omega
 rw [<- hen] at hp1 hp2
 rw [hp1, hp2, ht1, hcr] at hs
 have hs' := hs.symm
 rw [hs'] at wc hck
 rw [hen] at hp1 hp2
 have HK : Hid (∀ u, Calls Tryz.prog 110 #[.string p1] u λ e w' => e = .returned (.int .u64 (t1 : Int)) /\ w' = u) := hvv
 have HC : Hid (Calls Tryz.prog 105 #[.slice (some ⟨W.heap.size, 0, none⟩) en c4] W4 λ e w' => e = .returned (.int .u32 (t1 : Int)) /\ w' = W4) := hck
 clear hvv hck hcv' hs' b4' s4' R4 hb4 hpl hsp hcr ht1 hs hen h9
 go_wp2_with fail
 go_region_with
  (first
   | (go_at_call 105; (with_reducible refine HC.out.mono ?_); rintro e w3 ⟨rfl, hw3⟩; rw [hw3]; clear hw3 w3)
   | (go_at_call 110; (with_reducible refine (HK.out _).mono ?_); rintro e w3 ⟨rfl, hw3⟩; rw [hw3]; clear hw3 w3))
 all_goals
  obtain ⟨y0, y1⟩ := (HB.out.2.below HX2.out).cells
  obtain ⟨g0, g1⟩ := (HB.out.2.below HX2.out).thaw
  have BE : Hid (Below w.heap.size w W4) := HB.out.1.trans (HX2.out.mono HB.out.1.size)
  go_wp2_with fail
  go_region
  go_wp2
  refine bodyPost_ret (v := .tuple #[.agg #[.int .i64 (y.toNat : Int), .string pb], .int .i64 ((en : Int) + 4), .int .i64 0]) ?_ rfl ⟨rfl, ?_⟩
  ·simp [results, Tryz.f177]
   go_simp
  ·have b6 := lay_box BE.out (Nat.le_refl _) (.int .i64 (y.toNat : Int)) (.string pb)
   exact b6.1.drew
end
theorem ext_tx (bs : Bs) (i j : Nat) : Value.string ((⟨bs.toArray⟩ : ByteArray).extract i j) = tx ((bs.drop i).take (j - i)) := by
 show Value.string _ = Value.string _
 congr 1
 rw [<- ext_data bs i j]
theorem ropen_any (bs : Bs) (w : World) : Calls Tryz.prog 177 #[tx bs] w λ e w' => e = .returned (.tuple #[.agg #[.int .i64 (fopen bs).1.1, tx (fopen bs).1.2], .int .i64 ((fopen bs).2.1 : Int), .int .i64 (fopen bs).2.2]) /\ Below w.heap.size w w' := by
 have hz : (⟨bs.toArray⟩ : ByteArray).size = bs.length := by show bs.toArray.size = _; simp
 have e4 : ((⟨bs.toArray⟩ : ByteArray).extract 0 4).data.toList = bs.take 4 := by rw [ext_data]; simp
 unfold fopen
 by_cases h : bs.length < 4
 ·rw [if_pos h]
  exact ropen_few hz h
 ·rw [if_neg h]
  by_cases h8 : 8192 < val (bs.take 4)
  ·rw [if_pos h8]
   exact ropen_long hz h _ (by rw [e4]) h8
  ·rw [if_neg h8]
   by_cases h9 : bs.length < 9 + val (bs.take 4)
   ·rw [if_pos h9]
    exact ropen_short hz h _ (by rw [e4]) h8 h9
   ·rw [if_neg h9]
    obtain ⟨t, ht⟩ : ∃ t, val (bs.take 4) = t := ⟨_, rfl⟩
    rw [ht] at h8 h9 ⊢
    have e5 : ((⟨bs.toArray⟩ : ByteArray).extract (5 + t) (5 + t + 4)).data.toList = (bs.drop (5 + t)).take 4 := by rw [ext_data, Nat.add_sub_cancel_left]
    have e6 : ((⟨bs.toArray⟩ : ByteArray).extract 0 (5 + t)).data.toList = bs.take (5 + t) := by rw [ext_data]; simp
    by_cases hs : val ((bs.drop (5 + t)).take 4) = crc (bs.take (5 + t))
    ·rw [if_neg (by simpa using hs)]
     have hi4 : 4 < (⟨bs.toArray⟩ : ByteArray).size := by omega
     have := ropen_ok (w := w) (s := ⟨bs.toArray⟩) hz h t (by rw [e4]; exact ht) h8 h9 (by rw [e5, e6]; exact hs) hi4
     rw [ext_tx, Nat.add_sub_cancel_left] at this
     have e7 : (⟨bs.toArray⟩ : ByteArray)[4] = bs.getD 4 0 := by
      have h4 : 4 < bs.length := by omega
      simp [List.getD, List.getElem?_eq_getElem h4, ByteArray.getElem_eq_getElem_data]
     rw [e7] at this
     exact this
    ·rw [if_pos hs]
     exact ropen_sum hz h t (by rw [e4]; exact ht) h8 h9 (by rw [e5, e6]; exact hs)
end Go.Proofs.YtjlokpjflgbgdaaGreat
