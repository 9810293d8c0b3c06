/-
  The reference's Write, by a contract over commits. No condition but that the lists and texts are no longer than any can be.
-/
import Derived.Test.YtadjcmekpcimjaaLCom
import Derived.Test.YtadjcmekpcimjaaRTrees
namespace Go.Proofs.Ytadjcmekpcimjaa
open Go.RowKit

theorem take_any_end {xs : List UInt64} {i : Nat} {x : UInt64} (h : ∀ k, k < i → ∀ y, xs[k]? = some y → y ≠ x) : (xs.take i).any (fun y => x == y) = false := by
  rw [List.any_eq_false]
  intro y hy
  obtain ⟨k, hk⟩ := List.getElem?_of_mem hy
  rw [List.getElem?_take] at hk
  split at hk
  · rename_i q
    have := h k q y hk
    simp only [beq_iff_eq]
    exact fun e => this e.symm
  · cases hk

section
variable {w : World} {c : Cm} {pa : Option Addr} {pn pc : Nat}

set_option maxHeartbeats 1600000 in
set_option maxRecDepth 100000 in
theorem write_long (hl : c.ps.length = pn) (nt : ByteArray) (hnt : nt = ⟨c.note.toArray⟩) (dt tr : Int) (h : 8 < pn ∨ 64 < nt.size) :
    Calls Try.prog 15 #[.agg #[.int .u64 tr, .slice pa pn pc, .int .i64 dt, .string nt]] w fun e w' => e = .returned (.tuple #[tx (fcom c).1, .int .i64 (fcom c).2]) ∧ Below w.heap.size w w' := by
  have hnl : nt.size = c.note.length := by rw [hnt]; show c.note.toArray.size = _; simp
  have e : fcom c = ([], 4) := by
    have : ccom c = 4 := by unfold ccom; rw [if_pos (by omega)]
    unfold fcom; rw [this]; rfl
  rw [e]
  by_cases h8 : 8 < pn
  · have q : (8 : Int) < (pn : Int) := by omega
    clear hl hnt hnl e h
    go_enter Try.func15, Try.ntmps15
    go_wp2
    refine bodyPost_ret (results_tmp2 rfl _ _ _) rfl ?_
    exact ⟨rfl, bz1 _ _⟩
  · have q : decide ((8 : Int) < (pn : Int)) = false := by rw [decide_eq_false_iff_not]; omega
    have q2 : (64 : Int) < (nt.size : Int) := by omega
    clear hl hnt hnl e h
    go_enter Try.func15, Try.ntmps15
    go_wp2
    refine bodyPost_ret (results_tmp2 rfl _ _ _) rfl ?_
    exact ⟨rfl, bz1 _ _⟩

set_option maxHeartbeats 6400000 in
set_option maxRecDepth 100000 in
theorem write_on (hr : RdG encU w pa c.ps) (hl : c.ps.length = pn) (nt : ByteArray) (hnt : nt = ⟨c.note.toArray⟩) (dt : Int) (hdt : c.date = dt) (h8 : pn ≤ 8) (h64 : nt.size ≤ 64) :
    Calls Try.prog 15 #[.agg #[.int .u64 (c.tree.toNat : Int), .slice pa pn pc, .int .i64 dt, .string nt]] w fun e w' => e = .returned (.tuple #[tx (fcom c).1, .int .i64 (fcom c).2]) ∧ Below w.heap.size w w' := by
  have hnl : nt.size = c.note.length := by rw [hnt]; show c.note.toArray.size = _; simp
  have q : decide ((8 : Int) < (pn : Int)) = false := by rw [decide_eq_false_iff_not]; omega
  have q2 : decide ((64 : Int) < (nt.size : Int)) = false := by rw [decide_eq_false_iff_not]; omega
  have h4 : ¬ (8 < c.ps.length ∨ 64 < c.note.length) := by omega
  obtain ⟨W, hW⟩ : ∃ W, w.alloc (.cells #[.int .u64 (c.tree.toNat : Int), .slice pa pn pc, .int .i64 dt, .string nt] 49) = W := ⟨_, rfl⟩
  have bW : Below w.heap.size w W := by rw [← hW]; exact bz1 _ _
  have sW : W.heap.size = w.heap.size + 1 := by rw [← hW]; simp
  have bx : Box4 W w.heap.size 49 (.int .u64 (c.tree.toNat : Int)) (.slice pa pn pc) (.int .i64 dt) (.string nt) := by rw [← hW]; exact Box4.new _ _ _ _ _ _
  obtain ⟨x0, x1, x2, x3⟩ := bx.cells
  have hwp : IntKind.u64.wrap (pn : Int) = (pn : Int) := by rw [IntKind.wrap_u64]; omega
  have hwn : IntKind.u64.wrap (nt.size : Int) = (nt.size : Int) := by rw [IntKind.wrap_u64]; omega
  have H : Hid (RdG encU W pa c.ps ∧ c.ps.length = pn ∧ Below w.heap.size w W ∧ W.heap.size = w.heap.size + 1 ∧ Box4 W w.heap.size 49 (.int .u64 (c.tree.toNat : Int)) (.slice pa pn pc) (.int .i64 dt) (.string nt) ∧ ¬ (8 < c.ps.length ∨ 64 < c.note.length) ∧ c.date = dt ∧ nt = ⟨c.note.toArray⟩) := ⟨hr.below bW, hl, bW, sW, bx, h4, hdt, hnt⟩
  obtain ⟨z8, hz8⟩ : ∃ z8 : ByteArray, z8 = ⟨(low 8 c.tree.toNat).toArray⟩ := ⟨_, rfl⟩
  obtain ⟨z1, hz1⟩ : ∃ z1 : ByteArray, z1 = ⟨(low 1 pn).toArray⟩ := ⟨_, rfl⟩
  have l8 : z8.size = 8 := by rw [hz8]; show (low 8 c.tree.toNat).toArray.size = 8; simp [low_len]
  have l1 : z1.size = 1 := by rw [hz1]; show (low 1 pn).toArray.size = 1; simp [low_len]
  have NE : Nonempty (SW (Grew W)) := ⟨⟨W, Below.refl _ _⟩⟩
  have bu : ∀ u : SW (Grew W), Box4 u.w w.heap.size 49 (.int .u64 (c.tree.toNat : Int)) (.slice pa pn pc) (.int .i64 dt) (.string nt) := fun u => bx.below u.ok (by rw [sW]; omega)
  have k0 : ∀ u : SW (Grew W), u.w.cell? ⟨w.heap.size, 0, none⟩ = some (.int .u64 (c.tree.toNat : Int)) := fun u => (bu u).cells.1
  have k1 : ∀ u : SW (Grew W), u.w.cell? ⟨w.heap.size, 1, none⟩ = some (.slice pa pn pc) := fun u => (bu u).cells.2.1
  have n8 : ∀ u : SW (Grew W), Calls Try.prog 26 #[.int .u64 (c.tree.toNat : Int), .int .i64 8] u.w fun e w' => e = .returned (.string z8) ∧ ∃ u' : SW (Grew W), w' = u'.w := rnum_at c.tree.toNat 8 c.tree.toNat_lt (by omega) z8 hz8 W
  have n1 : ∀ u : SW (Grew W), Calls Try.prog 26 #[.int .u64 (pn : Int), .int .i64 1] u.w fun e w' => e = .returned (.string z1) ∧ ∃ u' : SW (Grew W), w' = u'.w := rnum_at pn 1 (by omega) (by omega) z1 hz1 W
  have a1 : ¬ (9223372036854775807 < z8.size + z1.size) := by omega
  have HZ : Hid (z8 ++ z1 = ⟨(low 8 c.tree.toNat ++ low 1 pn).toArray⟩) := by
    show _ = _
    rw [hz8, hz1]
    apply ByteArray.ext
    simp
  clear hr hl hnt hdt hnl h4 bW sW bx bu hz8 hz1 l8 l1
  go_enter Try.func15, Try.ntmps15
  go_wp2_with fail
  refine wp_region_class (S := Grew W) (by kernel_rfl) (by kernel_rfl) (Below.refl _ W).drew ?_
  repeat (go_big_quiet_step (first | with_reducible exact n1 _ | with_reducible exact n8 _))
  refine wpQuiet_nil ?_
  intro _ hw'
  obtain ⟨u, hw''⟩ := hw'
  subst hw''
  have N1 : Hid (Below W.heap.size W u.w) := u.ok
  obtain ⟨w1, hw1⟩ : ∃ w1, w1 = u.w := ⟨_, rfl⟩
  rw [← hw1] at N1 ⊢
  clear hw1 k0 k1 n1 n8 NE u x0 x1 x2 x3
  go_wp2_with fail
  go_loopg [4, 5, 6] pn (fun m sv iv _ wr => ∃ (i : Nat) (s : ByteArray), iv = .int .i64 i ∧ i + m = pn ∧ sv = .string s ∧ Hid (s = ⟨(low 8 c.tree.toNat ++ low 1 pn ++ psB (c.ps.take i)).toArray⟩ ∧ (c.ps.take i).Nodup ∧ Below W.heap.size W wr))
  case atStart => exact ⟨0, _, rfl, by omega, rfl, by rw [HZ.out]; simp [psB], by simp, N1.out⟩
  case round =>
    obtain ⟨i, s, rfl, hi, rfl, HR⟩ := hrel
    have hsW : w.heap.size < W.heap.size := by have := H.out.2.2.2.1; omega
    obtain ⟨x0, x1, x2, x3⟩ := (H.out.2.2.2.2.1.below HR.out.2.2 hsW).cells
    by_cases hin : i < pn
    · have id : (i : Int) < (pn : Int) := by omega
      have id0 : (0 : Int) ≤ (i : Int) := by omega
      obtain ⟨x, hx⟩ := get_some H.out.2.1 hin
      obtain ⟨b, off, rfl, hlt⟩ := H.out.1.some_of hx
      have HX : Hid (c.ps[i]? = some x) := hx
      obtain ⟨w2, hw2⟩ : ∃ w2, w2 = wr := ⟨_, rfl⟩
      rw [← hw2] at HR x0 x1 x2 x3 ⊢
      clear hw2 wr hx
      go_wp2_with fail
      go_loopg [6] i (fun m iv wr => ∃ k : Nat, iv = .int .i64 k ∧ k + m = i ∧ Hid ((∀ j, j < k → ∀ y, c.ps[j]? = some y → y ≠ x) ∧ Below W.heap.size W wr))
      case atStart => exact ⟨0, rfl, by omega, fun j h => absurd h (by omega), HR.out.2.2⟩
      case round =>
        obtain ⟨k, rfl, hk, HQ⟩ := hrel
        clear x0 x1 x2 x3
        obtain ⟨x0, x1, x2, x3⟩ := (H.out.2.2.2.2.1.below HQ.out.2 hsW).cells
        by_cases hkn : k < i
        · have kd : (k : Int) < (i : Int) := by omega
          have kd0 : (0 : Int) ≤ (k : Int) := by omega
          have kd1 : (k : Int) < (pn : Int) := by omega
          obtain ⟨y, hy⟩ := get_some H.out.2.1 (show k < pn by omega)
          obtain ⟨_, c0⟩ := (H.out.1.below HQ.out.2).nums HX.out
          obtain ⟨_, c1⟩ := (H.out.1.below HQ.out.2).nums hy
          by_cases hxy : y = x
          · subst hxy
            have hct : fcom c = ([], 6) := by
              have : ccom c = 6 := by
                unfold ccom
                rw [if_neg H.out.2.2.2.2.2.1, if_pos (nodup_not HX.out (List.any_eq_true.2 ⟨y, List.mem_of_getElem? (show (c.ps.take i)[k]? = some y by rw [List.getElem?_take, if_pos hkn]; exact hy), by simp⟩))]
              unfold fcom; rw [this]; rfl
            clear hy
            go_wp2_with fail
            go_quiet (fail)
            go_wp2
            refine bodyPost_ret (results_tmp2 rfl _ _ _) rfl ?_
            exact ⟨by first | rfl | (rw [hct]; rfl), (H.out.2.2.1.trans (HQ.out.2.mono H.out.2.2.1.size)).trans ((below_drewN _ _).mono (by have := H.out.2.2.1.size; have := HQ.out.2.size; omega))⟩
          · have m0 : ((y.toNat : Int) == (x.toNat : Int)) = false := by
              rw [beq_eq_false_iff_ne]
              intro q
              exact hxy (UInt64.toNat_inj.1 (by omega))
            have m1 : (y.toNat == x.toNat) = false := by
              rw [beq_eq_false_iff_ne]
              intro q
              exact hxy (UInt64.toNat_inj.1 q)
            have HN : Hid (∀ j, j < k + 1 → ∀ y, c.ps[j]? = some y → y ≠ x) := by
              intro j hj y' hy'
              rcases Nat.lt_or_ge j k with q | q
              · exact HQ.out.1 j q y' hy'
              · obtain rfl : j = k := by omega
                rw [hy] at hy'
                cases hy'
                exact hxy
            clear hy
            go_wp2_with fail
            go_quiet (fail)
            go_wp2
            go_roundg (gk - 1)
            case measure => omega
            case rel => exact ⟨k + 1, by go_num, by omega, HN.out, HQ.out.2.trans ((below_drewN _ _).mono HQ.out.2.size)⟩
        · obtain rfl : k = i := by omega
          obtain ⟨_, c0⟩ := (H.out.1.below HQ.out.2).nums HX.out
          have hnd := nodup_step HX.out HR.out.2.1 (take_any_end HQ.out.1)
          obtain ⟨y8, hy8⟩ : ∃ y8 : ByteArray, y8 = ⟨(low 8 x.toNat).toArray⟩ := ⟨_, rfl⟩
          have hnu : Calls Try.prog 26 #[.int .u64 (x.toNat : Int), .int .i64 8] wr fun e w' => e = .returned (.string y8) ∧ Below wr.heap.size wr w' := by
            rw [hy8]
            exact rnumber_any x.toNat 8 x.toNat_lt (by omega) wr
          have l8 : y8.size = 8 := by rw [hy8]; show (low 8 x.toNat).toArray.size = 8; simp [low_len]
          have hsl : s.size ≤ 1000 := by
            rw [HR.out.1]
            show (low 8 c.tree.toNat ++ low 1 pn ++ psB (c.ps.take k)).toArray.size ≤ _
            simp [low_len, psB_len]
            omega
          have a1 : ¬ (9223372036854775807 < s.size + y8.size) := by omega
          have HS : Hid (s ++ y8 = ⟨(low 8 c.tree.toNat ++ low 1 pn ++ psB (c.ps.take (k + 1))).toArray⟩ ∧ (c.ps.take (k + 1)).Nodup) := by
            refine ⟨?_, hnd⟩
            rw [HR.out.1, hy8, List.take_add_one, HX.out]
            show _ = (⟨(low 8 c.tree.toNat ++ low 1 pn ++ psB (c.ps.take k ++ [x])).toArray⟩ : ByteArray)
            rw [psB_snoc]
            apply ByteArray.ext
            simp [b8]
          clear hnd hy8 l8 hsl
          go_wp2_with fail
          refine hnu.mono ?_
          rintro e w4 ⟨rfl, hb4⟩
          have B4 : Hid (Below W.heap.size W w4) := HQ.out.2.trans (hb4.mono HQ.out.2.size)
          clear hb4 hnu
          go_wp2
          go_roundg (pn - (k + 1))
          case measure => omega
          case rel => exact ⟨k + 1, _, by go_num, by omega, rfl, HS.out.1, HS.out.2, B4.out⟩
    · obtain rfl : i = pn := by omega
      have htk : c.ps.take i = c.ps := List.take_of_length_le (by rw [H.out.2.1]; omega)
      have hnd : c.ps.Nodup := by have := HR.out.2.1; rw [htk] at this; exact this
      by_cases hd : dt < 0 ∨ 1099511627776 < dt
      · have hct : fcom c = ([], 3) := by
          have : ccom c = 3 := by
            unfold ccom
            rw [if_neg H.out.2.2.2.2.2.1, if_neg (by simpa using hnd), if_pos (by rw [H.out.2.2.2.2.2.2.1]; exact hd)]
          unfold fcom; rw [this]; rfl
        clear hnd htk
        by_cases hd0 : dt < 0
        · have d1 : decide (dt < 0) = true := by simpa using hd0
          go_wp2
          refine bodyPost_ret (results_tmp2 rfl _ _ _) rfl ?_
          exact ⟨by first | rfl | (rw [hct]; rfl), H.out.2.2.1.trans (HR.out.2.2.mono H.out.2.2.1.size)⟩
        · have d1 : decide (dt < 0) = false := by simpa using hd0
          have d2 : decide (1099511627776 < dt) = true := by rw [decide_eq_true_iff]; omega
          go_wp2
          refine bodyPost_ret (results_tmp2 rfl _ _ _) rfl ?_
          exact ⟨by first | rfl | (rw [hct]; rfl), H.out.2.2.1.trans (HR.out.2.2.mono H.out.2.2.1.size)⟩
      · have d1 : decide (dt < 0) = false := by rw [decide_eq_false_iff_not]; omega
        have d2 : decide (1099511627776 < dt) = false := by rw [decide_eq_false_iff_not]; omega
        have hct : fcom c = (comB c, 0) := by
          have : ccom c = 0 := by
            unfold ccom
            rw [if_neg H.out.2.2.2.2.2.1, if_neg (by simpa using hnd), if_neg (by rw [H.out.2.2.2.2.2.2.1]; exact hd)]
          unfold fcom; rw [if_pos this]
        have hww : IntKind.u64.wrap dt = (dt.toNat : Int) := by rw [IntKind.wrap_u64]; omega
        obtain ⟨dn, hdn⟩ : ∃ dn, dt.toNat = dn := ⟨_, rfl⟩
        rw [hdn] at hww
        have hld : low 8 dn = b8 (dw c.date) := by rw [← hdn, H.out.2.2.2.2.2.2.1]; exact low_dw (by omega)
        obtain ⟨y8, hy8⟩ : ∃ y8 : ByteArray, y8 = ⟨(low 8 dn).toArray⟩ := ⟨_, rfl⟩
        obtain ⟨y1, hy1⟩ : ∃ y1 : ByteArray, y1 = ⟨(low 1 nt.size).toArray⟩ := ⟨_, rfl⟩
        have l8 : y8.size = 8 := by rw [hy8]; show (low 8 dn).toArray.size = 8; simp [low_len]
        have l1 : y1.size = 1 := by rw [hy1]; show (low 1 nt.size).toArray.size = 1; simp [low_len]
        have hsl : s.size ≤ 1000 := by
          rw [HR.out.1]
          show (low 8 c.tree.toNat ++ low 1 i ++ psB (c.ps.take i)).toArray.size ≤ _
          simp [low_len, psB_len]
          omega
        have NE : Nonempty (SW (Grew wr)) := ⟨⟨wr, Below.refl _ _⟩⟩
        have bu : ∀ u : SW (Grew wr), Box4 u.w w.heap.size 49 (.int .u64 (c.tree.toNat : Int)) (.slice pa i pc) (.int .i64 dt) (.string nt) := fun u => (H.out.2.2.2.2.1.below HR.out.2.2 hsW).below u.ok (by have := HR.out.2.2.size; omega)
        have k2 : ∀ u : SW (Grew wr), u.w.cell? ⟨w.heap.size, 2, none⟩ = some (.int .i64 dt) := fun u => (bu u).cells.2.2.1
        have k3 : ∀ u : SW (Grew wr), u.w.cell? ⟨w.heap.size, 3, none⟩ = some (.string nt) := fun u => (bu u).cells.2.2.2
        have n8 : ∀ u : SW (Grew wr), Calls Try.prog 26 #[.int .u64 (dn : Int), .int .i64 8] u.w fun e w' => e = .returned (.string y8) ∧ ∃ u' : SW (Grew wr), w' = u'.w := rnum_at dn 8 (by omega) (by omega) y8 hy8 wr
        have n1 : ∀ u : SW (Grew wr), Calls Try.prog 26 #[.int .u64 (nt.size : Int), .int .i64 1] u.w fun e w' => e = .returned (.string y1) ∧ ∃ u' : SW (Grew wr), w' = u'.w := rnum_at nt.size 1 (by omega) (by omega) y1 hy1 wr
        have a1 : ¬ (9223372036854775807 < s.size + y8.size) := by omega
        have a2 : ¬ (9223372036854775807 < (s ++ y8).size + y1.size) := by rw [app_size]; omega
        have a3 : ¬ (9223372036854775807 < (s ++ y8 ++ y1).size + nt.size) := by rw [app_size, app_size]; omega
        have HE : Hid (Value.string (s ++ y8 ++ y1 ++ nt) = tx (comB c) ∧ Below w.heap.size w wr) := by
          refine ⟨?_, H.out.2.2.1.trans (HR.out.2.2.mono H.out.2.2.1.size)⟩
          show Value.string _ = Value.string _
          congr 1
          have e1 : low 1 (⟨c.note.toArray⟩ : ByteArray).size = [UInt8.ofNat c.note.length] := by
            have : (⟨c.note.toArray⟩ : ByteArray).size = c.note.length := by show c.note.toArray.size = _; simp
            rw [this]; rfl
          have e2 : low 1 i = [UInt8.ofNat c.ps.length] := by rw [H.out.2.1]; rfl
          rw [HR.out.1, htk, hy8, hy1, H.out.2.2.2.2.2.2.2, e1, e2, hld]
          unfold comB
          apply ByteArray.ext
          simp [b8]
        clear hnd htk bu hld hdn hy8 hy1 l8 l1 hsl hd
        go_wp2_with fail
        refine wp_region_class (S := Grew wr) (by kernel_rfl) (by kernel_rfl) (Below.refl _ wr).drew ?_
        repeat (go_big_quiet_step (first | with_reducible exact n1 _ | with_reducible exact n8 _))
        refine wpQuiet_nil ?_
        intro _ hw'
        obtain ⟨u, hw''⟩ := hw'
        subst hw''
        have N4 : Hid (Below w.heap.size w u.w) := HE.out.2.trans (u.ok.mono HE.out.2.size)
        obtain ⟨w4, hw4⟩ : ∃ w4, w4 = u.w := ⟨_, rfl⟩
        rw [← hw4] at N4 ⊢
        clear hw4 k2 k3 n1 n8 NE u
        go_wp2
        refine bodyPost_ret (results_tmp2 rfl _ _ _) rfl ?_
        exact ⟨by rw [hct, ← HE.out.1]; rfl, N4.out⟩

/-- The reference's Write. -/
theorem write_any (hr : RdG encU w pa c.ps) (hl : c.ps.length = pn) (nt : ByteArray) (hnt : nt = ⟨c.note.toArray⟩) (dt : Int) (hdt : c.date = dt) :
    Calls Try.prog 15 #[.agg #[.int .u64 (c.tree.toNat : Int), .slice pa pn pc, .int .i64 dt, .string nt]] w fun e w' => e = .returned (.tuple #[tx (fcom c).1, .int .i64 (fcom c).2]) ∧ Below w.heap.size w w' := by
  by_cases h : 8 < pn ∨ 64 < nt.size
  · exact write_long hl nt hnt dt _ h
  · exact write_on hr hl nt hnt dt hdt (by omega) (by omega)
end

end Go.Proofs.Ytadjcmekpcimjaa
