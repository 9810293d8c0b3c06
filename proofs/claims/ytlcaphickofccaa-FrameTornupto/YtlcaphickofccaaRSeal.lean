/-
  The reference's Seal, by a contract over frames. No condition but that what is handed in is no longer than any memory holds.
-/
import Derived.Test.YtlcaphickofccaaSeal
namespace Go.Proofs.Ytlcaphickofccaa
open Go.RowKit

theorem low1 (n : Nat) : low 1 n = [UInt8.ofNat n] := by simp [low]

section
variable {w : World} {k : Int} {body : Bs}

set_option maxHeartbeats 800000 in
theorem rseal_kind (h : k < 0 ∨ 255 < k) : Calls Try.prog 9 #[.agg #[.int .i64 k, tx body]] w fun e w' => e = .returned (.tuple #[tx [], .int .i64 3]) ∧ Below w.heap.size w w' := by
  by_cases h0 : k < 0
  · have q : decide (k < 0) = true := by simpa using h0
    go_enter Try.func9, Try.ntmps9
    go_wp2
    refine bodyPost_ret (results_tmp2 rfl _ _ _) rfl ?_
    exact ⟨rfl, bz1 _ _⟩
  · have q : decide (k < 0) = false := by simpa using h0
    have q2 : decide (255 < k) = true := by simp; omega
    go_enter Try.func9, Try.ntmps9
    go_wp2
    refine bodyPost_ret (results_tmp2 rfl _ _ _) rfl ?_
    exact ⟨rfl, bz1 _ _⟩

set_option maxHeartbeats 800000 in
theorem rseal_long (h0 : ¬ k < 0) (h1 : ¬ 255 < k) (h : 8192 < body.length) : Calls Try.prog 9 #[.agg #[.int .i64 k, tx body]] w fun e w' => e = .returned (.tuple #[tx [], .int .i64 4]) ∧ Below w.heap.size w w' := by
  have q : decide (k < 0) = false := by simpa using h0
  have q2 : decide (255 < k) = false := by simpa using h1
  obtain ⟨s, hs⟩ : ∃ s : ByteArray, s = ⟨body.toArray⟩ := ⟨_, rfl⟩
  have e : tx body = .string s := by rw [hs]
  have hz : s.size = body.length := by rw [hs]; rfl
  have q3 : (8192 : Int) < (s.size : Int) := by omega
  rw [e]
  clear e hs hz
  go_enter Try.func9, Try.ntmps9
  go_wp2
  refine bodyPost_ret (results_tmp2 rfl _ _ _) rfl ?_
  exact ⟨rfl, bz1 _ _⟩

set_option maxHeartbeats 3200000 in
set_option maxRecDepth 100000 in
theorem rseal_done (h0 : ¬ k < 0) (h1 : ¬ 255 < k) (hn : ¬ 8192 < body.length) : Calls Try.prog 9 #[.agg #[.int .i64 k, tx body]] w fun e w' => e = .returned (.tuple #[tx (sealB k body), .int .i64 0]) ∧ Below w.heap.size w w' := by
  have q : decide (k < 0) = false := by simpa using h0
  have q2 : decide (255 < k) = false := by simpa using h1
  obtain ⟨s, hs⟩ : ∃ s : ByteArray, s = ⟨body.toArray⟩ := ⟨_, rfl⟩
  have e : tx body = .string s := by rw [hs]
  obtain ⟨n, hz⟩ : ∃ n, s.size = n := ⟨_, rfl⟩
  have hbl : body.length = n := by rw [← hz, hs]; rfl
  have q3 : decide ((8192 : Int) < (n : Int)) = false := by rw [decide_eq_false_iff_not]; omega
  rw [e]
  obtain ⟨W, hW⟩ : ∃ W, w.alloc (.cells #[.int .i64 k, .string s] 33) = W := ⟨_, rfl⟩
  have B0 : Below w.heap.size w W := by rw [← hW]; exact bz1 _ _
  have T : Box W w.heap.size 33 (.int .i64 k) (.string s) := by rw [← hW]; exact Box.new w _ _ _
  obtain ⟨kk, rfl⟩ : ∃ kk : Nat, k = (kk : Int) := ⟨k.toNat, by omega⟩
  obtain ⟨x0, x1⟩ := T.cells
  have w1 : IntKind.u64.wrap (n : Int) = (n : Int) := by rw [IntKind.wrap_u64]; omega
  have w2 : IntKind.u64.wrap (kk : Int) = (kk : Int) := by rw [IntKind.wrap_u64]; omega
  obtain ⟨s4, hs4⟩ : ∃ s4 : ByteArray, s4 = ⟨(low 4 n).toArray⟩ := ⟨_, rfl⟩
  obtain ⟨s1, hs1⟩ : ∃ s1 : ByteArray, s1 = ⟨(low 1 kk).toArray⟩ := ⟨_, rfl⟩
  have z4 : s4.size = 4 := by rw [hs4, low4]; rfl
  have z1 : s1.size = 1 := by rw [hs1, low1]; rfl
  have NE : Nonempty (SW (Grew W)) := ⟨⟨W, Below.refl _ _⟩⟩
  have c0 : ∀ u : SW (Grew W), u.w.cell? ⟨w.heap.size, 0, none⟩ = some (.int .i64 (kk : Int)) := fun u => (T.below u.ok).cells.1
  have c1 : ∀ u : SW (Grew W), u.w.cell? ⟨w.heap.size, 1, none⟩ = some (.string s) := fun u => (T.below u.ok).cells.2
  have n4 : ∀ u : SW (Grew W), Calls Try.prog 19 #[.int .u64 (n : Int), .int .i64 4] u.w fun e w' => e = .returned (.string s4) ∧ ∃ u' : SW (Grew W), w' = u'.w := fun u => by
    refine (rnumber_any n 4 (by omega) (by omega) u.w).mono ?_
    rintro e w' ⟨rfl, hb⟩
    exact ⟨by rw [hs4], ⟨w', u.ok.trans (hb.mono u.ok.size)⟩, rfl⟩
  have n1 : ∀ u : SW (Grew W), Calls Try.prog 19 #[.int .u64 (kk : Int), .int .i64 1] u.w fun e w' => e = .returned (.string s1) ∧ ∃ u' : SW (Grew W), w' = u'.w := fun u => by
    refine (rnumber_any kk 1 (by omega) (by omega) u.w).mono ?_
    rintro e w' ⟨rfl, hb⟩
    exact ⟨by rw [hs1], ⟨w', u.ok.trans (hb.mono u.ok.size)⟩, rfl⟩
  have p1 : ¬ (9223372036854775807 < s4.size + s1.size) := by omega
  have p2 : ¬ (9223372036854775807 < (s4 ++ s1).size + s.size) := by rw [ByteArray.size_append]; omega
  have hhd : s4 ++ s1 ++ s = ⟨(headB kk body).toArray⟩ := by
    rw [hs4, hs1, hs, low4, low1, headB, hbl]
    simp only [Int.toNat_natCast]
    show ByteArray.mk _ = _
    congr 1
  have H : Hid (Below w.heap.size w W ∧ body.length = n ∧ n ≤ 8192 ∧ s4 ++ s1 ++ s = ⟨(headB kk body).toArray⟩) := ⟨B0, hbl, by omega, hhd⟩
  clear B0 T hbl hs hs4 hs1 z4 z1 hhd h0 h1 hn e
  go_enter Try.func9, Try.ntmps9
  go_upto_region 5 with fail
  refine wp_region_class (S := Grew W) (by kernel_rfl) (by kernel_rfl) (Below.refl _ W).drew ?_
  repeat (go_big_quiet_step (first | with_reducible exact n4 _ | with_reducible exact n1 _))
  refine wpQuiet_nil ?_
  intro _ hw'
  obtain ⟨u, hw''⟩ := hw'
  subst hw''
  have N2 : Hid (Below W.heap.size W u.w) := u.ok
  obtain ⟨w2', hw2⟩ : ∃ w2, w2 = u.w := ⟨_, rfl⟩
  rw [← hw2] at N2 ⊢
  clear hw2 x0 x1 c0 c1 n4 n1 NE u p1 p2
  obtain ⟨hd, hhd⟩ : ∃ hd : ByteArray, s4 ++ s1 ++ s = hd := ⟨_, rfl⟩
  rw [hhd] at H ⊢
  obtain ⟨W4, c4, hcv, b4', s4', R4⟩ := bytes_of w2' (headB kk body)
  have hcv' : (convert 9 24 (.string hd)).run Try.prog w2' = .ok (.slice (some ⟨w2'.heap.size, 0, none⟩) (headB kk body).length c4) W4 := by rw [H.out.2.2.2]; exact hcv
  obtain ⟨hl, hhl⟩ : ∃ hl, (headB kk body).length = hl := ⟨_, rfl⟩
  have hll : hl ≤ 8197 := by rw [← hhl, headB_len]; have := H.out.2.1; have := H.out.2.2.1; omega
  have hb4 : BAt W4 (.slice (some ⟨w2'.heap.size, 0, none⟩) hl c4) (headB kk body) := by
    have := R4.1.at R4.2.1 (R4.2.2 (by rw [hhl]; simp only [maxLen]; omega))
    rw [hhl] at this
    exact this
  rw [hhl] at hcv'
  obtain ⟨cr, hcr⟩ : ∃ cr, crc (headB kk body) = cr := ⟨_, rfl⟩
  have hck := rcheck_any W4 hb4
  rw [hcr] at hck
  have hcl : cr < 4294967296 := by rw [← hcr]; exact crc_lt _
  have w3 : IntKind.u64.wrap (cr : Int) = (cr : Int) := by rw [IntKind.wrap_u64]; omega
  have hnu := rnumber_any cr 4 (by omega) (by omega) W4
  obtain ⟨sc, hsc⟩ : ∃ sc : ByteArray, sc = ⟨(low 4 cr).toArray⟩ := ⟨_, rfl⟩
  rw [show tx (low 4 cr) = .string sc by rw [hsc]] at hnu
  have p3 : ¬ (9223372036854775807 < hd.size + sc.size) := by
    rw [hsc, H.out.2.2.2, low4]
    show ¬ (9223372036854775807 < (headB kk body).toArray.size + 4)
    simp only [List.size_toArray]
    omega
  have HC : Hid (hd ++ sc = ⟨(sealB kk body).toArray⟩ ∧ Below w2'.heap.size w2' W4) := by
    refine ⟨?_, b4'⟩
    rw [hsc, H.out.2.2.2, low4, sealB, hcr]
    show ByteArray.mk _ = _
    congr 1
  clear hcv b4' s4' R4 hb4 hhl hcr hsc hhd
  go_wp2_with fail
  refine hck.mono ?_
  rintro e w5 ⟨rfl, hw5⟩
  rw [hw5]
  clear hw5 w5 hck
  go_wp2_with fail
  refine hnu.mono ?_
  rintro e w6 ⟨rfl, B6⟩
  have HB6 : Hid (Below w.heap.size w w6) := by
    have b1 := H.out.1.trans (N2.out.mono H.out.1.size)
    have b2 := b1.trans (HC.out.2.mono b1.size)
    exact b2.trans (B6.mono b2.size)
  clear B6 hnu
  go_wp2
  refine bodyPost_ret (results_tmp2 rfl _ _ _) rfl ?_
  exact ⟨by rw [HC.out.1]; rfl, HB6.out⟩

/-- The reference's Seal. -/
theorem rseal_any (k : Int) (body : Bs) (w : World) : Calls Try.prog 9 #[.agg #[.int .i64 k, tx body]] w fun e w' => e = .returned (.tuple #[tx (fseal (k, body)).1, .int .i64 (fseal (k, body)).2]) ∧ Below w.heap.size w w' := by
  unfold fseal
  by_cases h0 : k < 0 ∨ 255 < k
  · rw [if_pos h0]
    exact rseal_kind h0
  · rw [if_neg h0]
    by_cases h1 : 8192 < body.length
    · rw [if_pos h1]
      exact rseal_long (by omega) (by omega) h1
    · rw [if_neg h1]
      exact rseal_done (by omega) (by omega) h1
end

end Go.Proofs.Ytlcaphickofccaa
