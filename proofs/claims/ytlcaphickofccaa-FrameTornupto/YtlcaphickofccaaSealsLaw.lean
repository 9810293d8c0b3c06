/-
  The law FrameSeals, walked: of any list of frames it returns true, and what was there is as it was. No condition but that what is handed in is no longer than any memory holds.
-/
import Derived.Test.YtlcaphickofccaaAwake
import Derived.Test.YtlcaphickofccaaRSeal
namespace Go.Proofs.Ytlcaphickofccaa
open Go.RowKit

theorem frow_two : ∀ fs : List Fr, ((frow fs).2 = 0 → (frow fs).1 = rowB fs ∧ ∀ f ∈ fs, (fseal f).2 = 0) ∧ ((frow fs).2 ≠ 0 → (frow fs).1 = [])
  | [] => by simp [frow, rowB]
  | f :: t => by
    have ih := frow_two t
    unfold frow
    by_cases h : (fseal f).2 = 0
    · by_cases q : (frow t).2 = 0
      · simp [h, q, rowB]
        exact ⟨(ih.1 q).1, fun a b hm => (ih.1 q).2 (a, b) hm⟩
      · simp [h, q]
    · simp [h]

theorem frow_snoc (a : List Fr) (f : Fr) : (frow (a ++ [f])).2 = if (frow a).2 = 0 then (fseal f).2 else (frow a).2 := by
  induction a with
  | nil =>
    by_cases h : (fseal f).2 = 0 <;> simp [frow, h]
  | cons g t ih =>
    rw [List.cons_append]
    simp only [frow]
    by_cases h : (fseal g).2 = 0
    · by_cases q : (frow t).2 = 0
      · rw [if_pos q] at ih
        by_cases h2 : (fseal f).2 = 0
        · rw [h2] at ih; simp [h, q, ih, h2]
        · simp [h, q, ih, h2]
      · rw [if_neg q] at ih
        simp [h, q, ih]
    · simp [h]

theorem rseal_at (k : Int) (body : Bs) (w : World) (sb : ByteArray) (se : Int) (h : fseal (k, body) = (sb.data.toList, se)) : Calls Try.prog 9 #[.agg #[.int .i64 k, tx body]] w fun e w' => e = .returned (.tuple #[.string sb, .int .i64 se]) ∧ Below w.heap.size w w' := by
  have := rseal_any k body w
  rw [h] at this
  simpa using this

set_option maxHeartbeats 6400000 in
set_option maxRecDepth 100000 in
theorem seals_walk (fa : Option Addr) (n c : Nat) (vs : List FV) (fs : List Fr) (W : World) (hr : RdG encV W fa vs) (hf : Fvs W vs fs) (hl : fs.length = n) :
    Calls Try.prog 3 #[.slice fa n c] W fun e w' => e = .returned (.bool true) ∧ Below W.heap.size W w' := by
  have H : Hid (RdG encV W fa vs ∧ Fvs W vs fs ∧ fs.length = n) := ⟨hr, hf, hl⟩
  clear hr hf hl
  go_enter Try.func3, Try.ntmps3
  go_wp2_with fail
  refine (awake_walk W).mono ?_
  rintro e w0 ⟨rfl, B0⟩
  have HB : Hid (Below W.heap.size W w0) := B0
  clear B0
  by_cases hbig : 300 < n
  · have hb2 : (300 : Int) < (n : Int) := by omega
    go_wp2
    go_ret
    exact ⟨rfl, HB.out⟩
  have hb2 : decide ((300 : Int) < (n : Int)) = false := by rw [decide_eq_false_iff_not]; omega
  go_wp2_with fail
  go_loopg [3, 4, 5, 6, 7, 8, 9] n (fun m av bv iv _ _ _ _ wr => ∃ (i : Nat) (s : ByteArray) (bd : Int), iv = .int .i64 i ∧ i + m = n ∧ av = .string s ∧ bv = .int .i64 bd ∧ Hid (s = ⟨(rowB (fs.take i)).toArray⟩ ∧ bd = (frow (fs.take i)).2 ∧ Below W.heap.size W wr))
  case atStart => exact ⟨0, _, 0, rfl, by omega, rfl, rfl, rfl, rfl, HB.out⟩
  case round =>
    obtain ⟨i, s, bd, rfl, hi, rfl, rfl, HR⟩ := hrel
    by_cases hin : i < n
    · have id : (i : Int) < (n : Int) := by omega
      obtain ⟨v, f, e1, e2, hv⟩ := H.out.2.1.get (i := i) (by rw [H.out.2.2]; exact hin)
      obtain ⟨b, off, rfl, hlt⟩ := H.out.1.some_of e1
      obtain ⟨_, c0, c1⟩ := H.out.1.frames e1
      have k0 := (HR.out.2.2.cell (p := ⟨b, off + i * 2, none⟩) hlt).trans c0
      have k1 := (HR.out.2.2.cell (p := ⟨b, off + i * 2 + 1, none⟩) hlt).trans c1
      obtain ⟨vk, va, vn, vc⟩ := v
      obtain ⟨fk, body⟩ := f
      obtain ⟨q1, q2, q3⟩ := hv
      simp only at q1 q2 q3 k0 k1 c0 c1
      subst q1
      have hs := seal_any (w := wr) (k := vk) (q3.below HR.out.2.2) q2
      obtain ⟨sd, hsd⟩ : ∃ sd, fseal (vk, body) = sd := ⟨_, rfl⟩
      rw [hsd] at hs
      obtain ⟨sl, se⟩ := sd
      obtain ⟨sb, hsb⟩ : ∃ sb : ByteArray, sb = ⟨sl.toArray⟩ := ⟨_, rfl⟩
      have hsd2 : fseal (vk, body) = (sb.data.toList, se) := by rw [hsd, hsb]
      have HE : Hid (fs[i]? = some (vk, body) ∧ fseal (vk, body) = (sl, se) ∧ sb = ⟨sl.toArray⟩ ∧ BAt W (.slice va vn vc) body ∧ W.cell? ⟨b, off + i * 2, none⟩ = some (.int .i64 vk) ∧ W.cell? ⟨b, off + i * 2 + 1, none⟩ = some (.slice va vn vc)) := ⟨e2, hsd, hsb, q3, c0, c1⟩
      clear c0 c1 q2 q3 e1 e2 hsd hsb
      simp only at hs
      go_wp2_with fail
      refine hs.mono ?_
      rintro e w2 ⟨v2, rfl, J2⟩
      clear hs k0 k1
      obtain ⟨a2, c2, rfl, _, _, _, _⟩ := OwnG.form J2.out.1
      obtain ⟨n2, hn2⟩ : ∃ n2, sl.length = n2 := ⟨_, rfl⟩
      rw [hn2] at J2 ⊢
      have bw : Below W.heap.size W w2 := HR.out.2.2.trans (J2.out.2.mono HR.out.2.2.size)
      have NE : Nonempty (SW (Grew w2)) := ⟨⟨w2, Below.refl _ _⟩⟩
      have bu : ∀ u : SW (Grew w2), Below W.heap.size W u.w := fun u => bw.trans (u.ok.mono bw.size)
      have k0 : ∀ u : SW (Grew w2), u.w.cell? ⟨b, off + i * 2, none⟩ = some (.int .i64 vk) := fun u => ((bu u).cell (p := ⟨b, off + i * 2, none⟩) hlt).trans HE.out.2.2.2.2.1
      have k1 : ∀ u : SW (Grew w2), u.w.cell? ⟨b, off + i * 2 + 1, none⟩ = some (.slice va vn vc) := fun u => ((bu u).cell (p := ⟨b, off + i * 2 + 1, none⟩) hlt).trans HE.out.2.2.2.2.2
      have hcs : ∀ u : SW (Grew w2), (convert 24 9 (.slice va vn vc)).run Try.prog u.w = .ok (tx body) u.w := fun u => conv_str (HE.out.2.2.2.1.below (bu u))
      have hrs : ∀ u : SW (Grew w2), Calls Try.prog 9 #[.agg #[.int .i64 vk, tx body]] u.w fun e w' => e = .returned (.tuple #[.string sb, .int .i64 se]) ∧ ∃ u' : SW (Grew w2), w' = u'.w := fun u => by
        refine (rseal_at vk body u.w sb se hsd2).mono ?_
        rintro e w' ⟨rfl, hb⟩
        exact ⟨rfl, ⟨w', u.ok.trans (hb.mono u.ok.size)⟩, rfl⟩
      have HJ : Hid (OwnG encB 5 w2 wr.heap.size (.slice a2 n2 c2) sl ∧ Below W.heap.size W w2) := ⟨J2.out.1, bw⟩
      clear bw bu J2 hn2
      go_wp2_with fail
      refine wp_region_class (S := Grew w2) (by kernel_rfl) (by kernel_rfl) (Below.refl _ w2).drew ?_
      repeat (go_big_quiet_step (with_reducible exact hrs _))
      refine wpQuiet_nil ?_
      intro _ hw'
      obtain ⟨u, hw''⟩ := hw'
      subst hw''
      have N4 : Hid (Below W.heap.size W u.w ∧ OwnG encB 5 u.w wr.heap.size (.slice a2 n2 c2) sl) := ⟨HJ.out.2.trans (u.ok.mono HJ.out.2.size), HJ.out.1.below u.ok⟩
      obtain ⟨w4, hw4⟩ : ∃ w4, w4 = u.w := ⟨_, rfl⟩
      rw [← hw4] at N4 ⊢
      clear hw4 k0 k1 hcs hrs NE u HJ
      have hc2 : (convert 24 9 (.slice a2 n2 c2)).run Try.prog w4 = .ok (.string sb) w4 := by
        have := conv_str (OwnB.at (OwnG.low N4.out.2 (Nat.zero_le _)))
        rw [HE.out.2.2.1]
        exact this
      have hz : ¬ (9223372036854775807 < s.size + sb.size) := by
        rw [HR.out.1, HE.out.2.2.1]
        have h1 := rowB_max (fs.take i)
        have h2 := fseal_max (vk, body)
        rw [HE.out.2.1] at h2
        have h3 : (fs.take i).length ≤ 300 := by rw [List.length_take]; omega
        show ¬ (9223372036854775807 < (rowB (fs.take i)).toArray.size + sl.toArray.size)
        simp only [List.size_toArray]
        simp only at h2
        omega
      have HN : Hid (s ++ sb = ⟨(rowB (fs.take (i + 1))).toArray⟩ ∧ (frow (fs.take (i + 1))).2 = if bd = 0 then se else bd) := by
        constructor
        · rw [rowB_take HE.out.1, HE.out.2.1, HR.out.1, HE.out.2.2.1]
          show ByteArray.mk _ = _
          congr 1
        · rw [List.take_add_one, HE.out.1]
          show (frow (fs.take i ++ [(vk, body)])).2 = _
          rw [frow_snoc, HE.out.2.1, ← HR.out.2.1]
      by_cases hbd : bd = 0
      · subst hbd
        go_wp2
        go_roundg (gk - 1)
        case measure => omega
        case rel => exact ⟨i + 1, _, _, by go_num, by omega, rfl, rfl, HN.out.1, by rw [HN.out.2]; simp, N4.out.1⟩
      · have m0 : (bd == 0) = false := by simpa using hbd
        go_wp2
        go_roundg (gk - 1)
        case measure => omega
        case rel => exact ⟨i + 1, _, _, by go_num, by omega, rfl, rfl, HN.out.1, by rw [HN.out.2, if_neg hbd], N4.out.1⟩
    · obtain rfl : i = n := by omega
      have htk : fs.take i = fs := List.take_of_length_le (by have := H.out.2.2; omega)
      rw [htk] at HR
      have hro := row_any (c := c) (H.out.1.below HR.out.2.2) (H.out.2.1.below HR.out.2.2) H.out.2.2 (by omega)
      have tw := frow_two fs
      rw [← HR.out.2.1] at hro tw
      obtain ⟨fr, hfr⟩ : ∃ fr, (frow fs).1 = fr := ⟨_, rfl⟩
      rw [hfr] at hro tw
      go_wp2_with fail
      refine hro.mono ?_
      rintro e w2 ⟨v2, rfl, J2⟩
      obtain ⟨a2, c2, rfl, _, _, _, _⟩ := OwnG.form J2.out.1
      have BE : Hid (Below W.heap.size W w2) := HR.out.2.2.trans (J2.out.2.mono HR.out.2.2.size)
      by_cases hbd : bd = 0
      · subst hbd
        have hc2 : (convert 24 9 (.slice a2 fr.length c2)).run Try.prog w2 = .ok (.string s) w2 := by
          have := conv_str (OwnB.at (OwnG.low J2.out.1 (Nat.zero_le _)))
          rw [HR.out.1, ← (tw.1 rfl).1]
          exact this
        obtain ⟨n2, hn2⟩ : ∃ n2, fr.length = n2 := ⟨_, rfl⟩
        rw [hn2] at hc2 ⊢
        clear J2 hro tw hn2 htk
        go_wp2
        go_ret
        exact ⟨by simp, BE.out⟩
      · have m0 : (bd == 0) = false := by simpa using hbd
        have m1 : (bd != 0) = true := by simpa using hbd
        have hf0 : fr = [] := tw.2 hbd
        subst hf0
        clear J2 hro tw htk
        go_wp2
        go_ret
        exact ⟨by simp, BE.out⟩

end Go.Proofs.Ytlcaphickofccaa
