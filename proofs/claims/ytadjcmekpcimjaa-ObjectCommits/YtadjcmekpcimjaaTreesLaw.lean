/-
  The law ObjectTrees, walked: of any entries and any bytes it returns true, and what was there is as it was. No condition but that what is handed in is no longer than any memory holds.
-/
import Derived.Test.YtadjcmekpcimjaaAwake
import Derived.Test.YtadjcmekpcimjaaRRead
namespace Go.Proofs.Ytadjcmekpcimjaa
open Go.RowKit

theorem own_new {α : Type} (E : Enc α) (e : TypeId) (w : World) : OwnG E e (w.alloc (.cells #[] e)) w.heap.size (.slice (some ⟨w.heap.size, 0, none⟩) 0 0) [] :=
  World.ownsRow_made w #[] 0 (Nat.le_refl _) (Nat.zero_le _) (by simp)

theorem OwnG.whole {α : Type} {E : Enc α} {e : TypeId} {w : World} {base : Nat} {v : Value} {xs : List α} {n : Nat} (h : OwnG E e w base v xs) (hn : xs.length = n) : ∃ a c, v = .slice a n c ∧ n ≤ c ∧ RdG E w a xs := by
  obtain ⟨a, c, q, h1, _, r, _⟩ := OwnG.form h
  rw [hn] at q h1
  exact ⟨a, c, q, h1, r⟩

set_option maxHeartbeats 6400000 in
set_option maxRecDepth 100000 in
theorem trees_walk (ea : Option Addr) (n c : Nat) (es : List En) (ba : Option Addr) (bn bc : Nat) (bs : Bs) (W : World) (hr : RdG encE W ea es) (hl : es.length = n) (hf : Fine es) (hc : n ≤ c) (hn : n * 24 ≤ 140737488355328)
    (hb : BAt W (.slice ba bn bc) bs) (hbl : bs.length = bn) :
    Calls Try.prog 3 #[.slice ea n c, .slice ba bn bc] W fun e w' => e = .returned (.bool true) ∧ Below W.heap.size W w' := by
  have H : Hid (RdG encE W ea es ∧ es.length = n ∧ Fine es ∧ n ≤ c ∧ BAt W (.slice ba bn bc) bs ∧ bs.length = bn) := ⟨hr, hl, hf, hc, hb, hbl⟩
  clear hr hl hf hc hb hbl
  go_enter Try.func3, Try.ntmps3
  go_wp2_with fail
  refine (awake_walk W).mono ?_
  rintro e w0 ⟨rfl, B0⟩
  have HB : Hid (Below W.heap.size W w0) := B0
  clear B0
  by_cases hbig : 100000 < bn
  · have hb2 : (100000 : Int) < (bn : Int) := by omega
    go_wp2
    go_ret
    exact ⟨rfl, HB.out⟩
  have hb2 : decide ((100000 : Int) < (bn : Int)) = false := by rw [decide_eq_false_iff_not]; omega
  go_wp2_with (at_builtin; (refine appG_list encE 39 22 24 _ rfl Try.info39 Try.underlying22 rfl (.tmp 21) (.tmp 22) rfl w0.heap.size _ [] es ea n c rfl (own_new encE 39 w0) rfl ((H.out.1.below HB.out).below (bz1 w0 _)) H.out.2.1 (by simp; omega) (by simp only [maxLen, List.length_nil]; omega) (by simp) ?_; intro v1 w1 ho1 hb1 _ _))
  rw [List.nil_append] at ho1
  obtain ⟨a1, c1, rfl, hc1, r1⟩ := ho1.whole H.out.2.1
  have H1 : Hid (OwnG encE 39 w1 w0.heap.size (.slice a1 n c1) es ∧ Below W.heap.size W w1) := ⟨ho1, HB.out.trans (((bz1 w0 _).trans hb1).mono HB.out.size)⟩
  have h2 := tree_any (c := c1) w1 r1 H.out.2.1 H.out.2.2.1 hc1
  obtain ⟨fe, hfe⟩ : ∃ fe, (ftree es).2 = fe := ⟨_, rfl⟩
  obtain ⟨fb, hfb⟩ : ∃ fb, (ftree es).1 = fb := ⟨_, rfl⟩
  obtain ⟨fs, hfs⟩ : ∃ fs : ByteArray, fs = ⟨fb.toArray⟩ := ⟨_, rfl⟩
  rw [hfe, hfb] at h2
  have HF : Hid ((ftree es).2 = fe ∧ (ftree es).1 = fb ∧ fs = ⟨fb.toArray⟩) := ⟨hfe, hfb, hfs⟩
  clear ho1 hb1 r1 hfe hfb hfs hc1
  go_wp2_with fail
  refine h2.mono ?_
  rintro e w2 ⟨v2, rfl, J2⟩
  clear h2
  obtain ⟨n2, hn2⟩ : ∃ n2, fb.length = n2 := ⟨_, rfl⟩
  obtain ⟨a2, c2, rfl, _, _⟩ := J2.out.1.whole hn2
  have H2 : Hid (OwnG encB 5 w2 w1.heap.size (.slice a2 n2 c2) fb ∧ OwnG encE 39 w2 w0.heap.size (.slice a1 n c1) es ∧ Below W.heap.size W w2) := ⟨J2.out.1, H1.out.1.below J2.out.2, H1.out.2.trans (J2.out.2.mono H1.out.2.size)⟩
  clear J2 H1 hn2
  have h3 := entries_any (c := c) w2 (H.out.1.below H2.out.2.2) H.out.2.1 hn
  go_wp2_with fail
  refine h3.mono ?_
  rintro e w3 ⟨v3, rfl, J3⟩
  clear h3
  obtain ⟨a3, c3, rfl, _, r3⟩ := J3.out.1.whole H.out.2.1
  have H3 : Hid (OwnG encB 5 w3 w1.heap.size (.slice a2 n2 c2) fb ∧ OwnG encE 39 w3 w0.heap.size (.slice a1 n c1) es ∧ Below W.heap.size W w3) := ⟨H2.out.1.below J3.out.2, H2.out.2.1.below J3.out.2, H2.out.2.2.trans (J3.out.2.mono H2.out.2.2.size)⟩
  have h4 := rtree_any (c := c3) w3 r3 H.out.2.1
  rw [HF.out.1, HF.out.2.1, show tx fb = .string fs by rw [HF.out.2.2]] at h4
  clear J3 H2 r3
  go_wp2_with fail
  refine h4.mono ?_
  rintro e w4 ⟨rfl, B4⟩
  clear h4
  have H4 : Hid (OwnG encB 5 w4 w1.heap.size (.slice a2 n2 c2) fb ∧ OwnG encE 39 w4 w0.heap.size (.slice a1 n c1) es ∧ Below W.heap.size W w4) := ⟨H3.out.1.below B4, H3.out.2.1.below B4, H3.out.2.2.trans (B4.mono H3.out.2.2.size)⟩
  clear B4 H3
  go_wp2_with (at_builtin; (refine appB rfl (.tmp 35) (.tmp 36) rfl w4.heap.size _ _ [] bs rfl (ownB_zero w4) rfl ((H.out.2.2.2.2.1.below H4.out.2.2).below (bz1 w4 _)) (by rw [H.out.2.2.2.2.2]; simp; omega) (by simp) ?_; intro v5 w5 ho5 hb5 _ _))
  rw [List.nil_append] at ho5
  obtain ⟨a5, c5, rfl, _, _⟩ := ho5.whole H.out.2.2.2.2.2
  have b45 := (bz1 w4 (.cells #[] 5)).trans hb5
  have H5 : Hid (OwnG encB 5 w5 w4.heap.size (.slice a5 bn c5) bs ∧ OwnG encB 5 w5 w1.heap.size (.slice a2 n2 c2) fb ∧ OwnG encE 39 w5 w0.heap.size (.slice a1 n c1) es ∧ Below W.heap.size W w5) := ⟨ho5, H4.out.1.below b45, H4.out.2.1.below b45, H4.out.2.2.trans (b45.mono H4.out.2.2.size)⟩
  clear ho5 hb5 b45 H4
  have h6 := readTree_any w5 (OwnB.at (OwnG.low H5.out.1 (Nat.zero_le _))) H.out.2.2.2.2.2
  go_wp2_with fail
  refine h6.mono ?_
  rintro e w6 ⟨rs, re, v6, rfl, J6⟩
  clear h6
  obtain ⟨n6, hn6⟩ : ∃ n6, rs.length = n6 := ⟨_, rfl⟩
  obtain ⟨a6, c6, rfl, _, _⟩ := J6.out.2.1.whole hn6
  have b56 := J6.out.2.2
  have hrl : n6 ≤ 64 := by
    rw [← hn6]
    rcases J6.out.1 with ⟨_, q, _⟩ | ⟨_, q, _⟩
    · exact (ctree_ok q).1
    · rw [q]; simp
  have H6 : Hid (RT bs rs re ∧ rs.length = n6 ∧ OwnG encE 39 w6 w5.heap.size (.slice a6 n6 c6) rs ∧ OwnG encB 5 w6 w4.heap.size (.slice a5 bn c5) bs ∧ OwnG encB 5 w6 w1.heap.size (.slice a2 n2 c2) fb ∧ OwnG encE 39 w6 w0.heap.size (.slice a1 n c1) es ∧ Below W.heap.size W w6) := ⟨J6.out.1, hn6, J6.out.2.1, H5.out.1.below b56, H5.out.2.1.below b56, H5.out.2.2.1.below b56, H5.out.2.2.2.trans (b56.mono H5.out.2.2.2.size)⟩
  clear J6 b56 H5 hn6
  obtain ⟨s, hs⟩ : ∃ s : ByteArray, s = ⟨bs.toArray⟩ := ⟨_, rfl⟩
  have hcb : (convert 23 9 (.slice ba bn bc)).run Try.prog w6 = .ok (.string s) w6 := by
    have := conv_str (H.out.2.2.2.2.1.below H6.out.2.2.2.2.2.2)
    rw [hs]
    exact this
  have h7 := rreadTree_any bs (by rw [H.out.2.2.2.2.2]; omega) w6
  rw [show tx bs = .string s by rw [hs]] at h7
  have HS : Hid (s = ⟨bs.toArray⟩) := hs
  clear hs
  go_wp2_with fail
  refine h7.mono ?_
  rintro e w7 ⟨rs', re', v7, rfl, J7⟩
  clear h7 hcb
  obtain ⟨rfl, rfl⟩ := H6.out.1.uniq J7.out.1
  obtain ⟨a7, c7, rfl, _, _⟩ := J7.out.2.1.whole H6.out.2.1
  have b67 := J7.out.2.2
  have H7 : Hid (OwnG encE 68 w7 w6.heap.size (.slice a7 n6 c7) rs ∧ rs.length = n6 ∧ OwnG encE 39 w7 w5.heap.size (.slice a6 n6 c6) rs ∧ OwnG encB 5 w7 w4.heap.size (.slice a5 bn c5) bs ∧ OwnG encB 5 w7 w1.heap.size (.slice a2 n2 c2) fb ∧ OwnG encE 39 w7 w0.heap.size (.slice a1 n c1) es ∧ Below W.heap.size W w7) := ⟨J7.out.2.1, H6.out.2.1, H6.out.2.2.1.below b67, H6.out.2.2.2.1.below b67, H6.out.2.2.2.2.1.below b67, H6.out.2.2.2.2.2.1.below b67, H6.out.2.2.2.2.2.2.trans (b67.mono H6.out.2.2.2.2.2.2.size)⟩
  clear J7 b67 H6
  go_wp2_with fail
  go_loopg [15] n (fun m iv wr => ∃ i : Nat, iv = .int .i64 i ∧ i + m = n ∧ Hid (Below w7.heap.size w7 wr))
  case atStart => exact ⟨0, rfl, by omega, Below.refl _ _⟩
  case round =>
    obtain ⟨i, rfl, hi, HR⟩ := hrel
    by_cases hin : i < n
    · have id : (i : Int) < (n : Int) := by omega
      have id0 : (0 : Int) ≤ (i : Int) := by omega
      obtain ⟨e, he⟩ := get_some H.out.2.1 hin
      obtain ⟨b, off, rfl, hlt⟩ := H.out.1.some_of he
      have r1 := (H7.out.2.2.2.2.2.1.rdc.1).below HR.out
      obtain ⟨b2, off2, rfl, hlt2⟩ := r1.some_of he
      have bW := H7.out.2.2.2.2.2.2.trans (HR.out.mono H7.out.2.2.2.2.2.2.size)
      obtain ⟨hbw, c0, k0⟩ := (H.out.1.below bW).ents he
      obtain ⟨hbw2, c02, k12⟩ := r1.ents he
      obtain ⟨d, z⟩ := e
      simp only at c0 k0 c02 k12
      clear he r1 bW
      go_wp2_with fail
      go_quiet (fail)
      go_wp2
      go_roundg (gk - 1)
      case measure => omega
      case rel => exact ⟨i + 1, by go_num, by omega, HR.out.trans ((below_drewN _ _).mono HR.out.size)⟩
    · obtain rfl : i = n := by omega
      have bW := H7.out.2.2.2.2.2.2.trans (HR.out.mono H7.out.2.2.2.2.2.2.size)
      have hc2 : (convert 23 9 (.slice a2 n2 c2)).run Try.prog wr = .ok (.string fs) wr := by
        have := conv_str (OwnB.at (OwnG.low (H7.out.2.2.2.2.1.below HR.out) (Nat.zero_le _)))
        rw [HF.out.2.2]
        exact this
      have h8 := entries_any (c := c6) wr ((H7.out.2.2.1.rdc.1).below HR.out) H7.out.2.1 (by omega)
      have HW : Hid (Below W.heap.size W wr) := bW
      clear bW
      go_wp2_with fail
      refine h8.mono ?_
      rintro e w8 ⟨v8, rfl, J8⟩
      clear h8 hc2
      obtain ⟨a8, c8, rfl, _, r8⟩ := J8.out.1.whole H7.out.2.1
      have b78 := HR.out.trans (J8.out.2.mono HR.out.size)
      have h9 := sameTree_any (c := c8) (c2 := c7) w8 r8 ((H7.out.1.rdc.1).below b78) H7.out.2.1 (by omega)
      have H8 : Hid (Below w7.heap.size w7 w8) := b78
      clear J8 r8 b78
      go_wp2_with fail
      refine h9.mono ?_
      rintro e w9 ⟨rfl, B9⟩
      clear h9
      have H9 : Hid (Below w7.heap.size w7 w9) := H8.out.trans (B9.mono H8.out.size)
      have bE := H7.out.2.2.2.2.2.2.trans (H9.out.mono H7.out.2.2.2.2.2.2.size)
      have hcm : (convert 23 9 (.slice a5 bn c5)).run Try.prog w9 = .ok (.string s) w9 := by
        have := conv_str (OwnB.at (OwnG.low (H7.out.2.2.2.1.below H9.out) (Nat.zero_le _)))
        rw [HS.out]
        exact this
      have hcb : (convert 23 9 (.slice ba bn bc)).run Try.prog w9 = .ok (.string s) w9 := by
        have := conv_str (H.out.2.2.2.2.1.below bE)
        rw [HS.out]
        exact this
      have BE : Hid (Below W.heap.size W w9) := bE
      clear B9 bE
      go_wp2
      go_ret
      exact ⟨by simp, BE.out⟩

end Go.Proofs.Ytadjcmekpcimjaa
