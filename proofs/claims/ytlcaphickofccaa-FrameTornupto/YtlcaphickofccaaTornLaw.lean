/-
  The law FrameTorn, walked: of any list of at most 1,048,576 frames and any place it returns true, and what was there is as it was.
-/
import Derived.Test.YtlcaphickofccaaTornCut
namespace Go.Proofs.Ytlcaphickofccaa
open Go.RowKit

set_option maxHeartbeats 6400000 in
set_option maxRecDepth 100000 in
theorem torn_walk (fa : Option Addr) (n c : Nat) (vs : List FV) (fs : List Fr) (at_ : Int) (W : World) (hr : RdG encV W fa vs) (hf : Fvs W vs fs) (hl : fs.length = n) (hn : n ≤ 1048576) :
    Calls Try.prog 5 #[.slice fa n c, .int .i64 at_] W fun e w' => e = .returned (.bool true) ∧ Below W.heap.size W w' := by
  have H : Hid (RdG encV W fa vs ∧ Fvs W vs fs ∧ fs.length = n) := ⟨hr, hf, hl⟩
  clear hr hf hl
  go_enter Try.func5, Try.ntmps5
  go_wp2_with fail
  refine (awake_walk W).mono ?_
  rintro e w0 ⟨rfl, B0⟩
  have HB : Hid (Below W.heap.size W w0) := B0
  clear B0
  have hro := row_any (c := c) (H.out.1.below HB.out) (H.out.2.1.below HB.out) H.out.2.2 (by omega)
  have tw := frow_two fs
  obtain ⟨fr, hfr⟩ : ∃ fr, frow fs = fr := ⟨_, rfl⟩
  rw [hfr] at hro tw
  obtain ⟨rb, re⟩ := fr
  simp only at hro tw
  have HT : Hid ((re = 0 → rb = rowB fs ∧ ∀ f ∈ fs, (fseal f).2 = 0) ∧ (re ≠ 0 → rb = [])) := tw
  clear hfr tw
  go_wp2_with fail
  refine hro.mono ?_
  rintro e w1 ⟨v1, rfl, J1⟩
  clear hro
  obtain ⟨a1, c1, rfl, q1, q2, _, _⟩ := OwnG.form J1.out.1
  obtain ⟨rl, hrl⟩ : ∃ rl, rb.length = rl := ⟨_, rfl⟩
  rw [hrl] at J1 q1 ⊢
  have N1 : Hid (OwnG encB 5 w1 w0.heap.size (.slice a1 rl c1) rb ∧ Below W.heap.size W w1 ∧ rb.length = rl) := ⟨J1.out.1, HB.out.trans (J1.out.2.mono HB.out.size), hrl⟩
  clear J1
  by_cases hre : re = 0
  · subst hre
    by_cases hbig : 300 < n
    · have hb2 : (300 : Int) < (n : Int) := by omega
      by_cases h0 : rl = 0
      · subst h0
        go_wp2
        go_ret
        exact ⟨by simp, N1.out.2.1⟩
      · have h0' : ((rl : Int) == 0) = false := by simp only [beq_eq_false_iff_ne]; omega
        go_wp2
        go_ret
        exact ⟨by simp, N1.out.2.1⟩
    · have hb2 : decide ((300 : Int) < (n : Int)) = false := by rw [decide_eq_false_iff_not]; omega
      have hrx : rl ≤ 1000000000 := by
        have := rowB_max fs
        rw [← (HT.out.1 rfl).1, hrl, H.out.2.2] at this
        omega
      obtain ⟨k, hk⟩ : ∃ k : Nat, (if at_ < 0 then (0 : Int) else at_) = (k : Int) := ⟨at_.toNat, by split <;> omega⟩
      obtain ⟨kk, hkk, hkl⟩ : ∃ kk : Nat, (if rl < k then (rl : Int) else (k : Int)) = (kk : Int) ∧ kk ≤ rl := ⟨min k rl, by split <;> omega, by omega⟩
      have hkk0 : (0 : Int) ≤ (kk : Int) := by omega
      have hkl2 : (kk : Int) ≤ (rl : Int) := by omega
      obtain ⟨a2, c2, hs2, o1, o2, r2⟩ := sliceB_h (ao := a1) (n := rl) (c := c1) (k := kk) q1 hkl
      have hB : BAt w1 (.slice a2 kk c2) (rb.take kk) := by
        have e : (rb.take kk).length = kk := by rw [List.length_take, hrl]; omega
        exact ⟨a2, c2, by rw [e], by rw [e]; exact o1, by omega, r2 w1 rb N1.out.1.rd'⟩
      have hcu := cut_any hB (by rw [List.length_take, hrl]; omega) (by omega)
      obtain ⟨J, code, j1, j2, j3, j4, j5, j6⟩ := torn_cut fs kk (HT.out.1 rfl).2 (by rw [← (HT.out.1 rfl).1, hrl]; exact hkl)
      rw [(HT.out.1 rfl).1, j2] at hcu
      obtain ⟨d, hd⟩ : ∃ d, (rowB (fs.take J)).length = d := ⟨_, rfl⟩
      rw [hd] at hcu j3 j6
      simp only at hcu
      have HJ : Hid (J ≤ n ∧ (rowB (fs.take J)).length = d ∧ (J < n → kk < (rowB (fs.take (J + 1))).length) ∧ (code = 0 ∨ code = 10) ∧ (code = 0 ↔ d = kk) ∧ (∀ f ∈ fs, (fseal f).2 = 0) ∧ (rowB fs).length = rl) := by
        rw [H.out.2.2] at j1 j4
        exact ⟨j1, hd, j4, j5, j6, (HT.out.1 rfl).2, by rw [← (HT.out.1 rfl).1]; exact hrl⟩
      clear hd j1 j2 j4 j5 j6 hB r2 hrl
      go_upto_region 7 with fail
      try simp only [hk, hkk]
      clear hk hkk
      go_wp2_with fail
      refine hcu.mono ?_
      rintro e w2 ⟨lv, us, rfl, J2⟩
      clear hcu
      obtain ⟨la, lc, rfl, _, _, _, _⟩ := OwnG.form J2.out.row
      have hul : us.length = J := by
        rw [J2.out.at_.len, List.length_take, H.out.2.2]
        have := HJ.out.1
        omega
      have N2 : Hid (RdG encV w2 la us ∧ Fvs w2 us (fs.take J) ∧ Below W.heap.size W w2) := ⟨J2.out.row.rd', J2.out.at_, N1.out.2.1.trans (J2.out.bel.mono N1.out.2.1.size)⟩
      rw [hul]
      clear J2
      go_wp2_with fail
      go_loopg [10, 11] n (fun m ev iv wr => ∃ (i : Nat) (en : Nat), ev = .int .i64 en ∧ iv = .int .i64 i ∧ i + m = n ∧ en ≤ kk ∧ Hid ((rowB (fs.take i)).length = en ∧ Below w2.heap.size w2 wr))
      case atStart => exact ⟨0, 0, rfl, rfl, by omega, Nat.zero_le _, rfl, Below.refl _ _⟩
      case round =>
        obtain ⟨i, en, rfl, rfl, hi, hen, HR⟩ := hrel
        have BW : Hid (Below W.heap.size W wr) := N2.out.2.2.trans (HR.out.2.mono N2.out.2.2.size)
        have hiJ : i ≤ J := by
          rcases Nat.lt_or_ge J i with q | q
          · exfalso
            have h1 := HJ.out.2.2.1 (by omega)
            have h2 := rowB_mono fs (i := J + 1) (j := i) (by omega)
            rw [HR.out.1] at h2
            omega
          · exact q
        by_cases hin : i < n
        · have id : (i : Int) < (n : Int) := by omega
          obtain ⟨v, f, e1, e2, hv⟩ := H.out.2.1.get (i := i) (by rw [H.out.2.2]; exact hin)
          obtain ⟨b, off, rfl, hlt⟩ := H.out.1.some_of e1
          obtain ⟨_, c0, c1⟩ := H.out.1.frames e1
          obtain ⟨vk, va, vn, vc⟩ := v
          obtain ⟨fk, body⟩ := f
          obtain ⟨p1, p2, p3⟩ := hv
          simp only at p1 p2 p3 c0 c1
          subst p1
          have hok := fseal_iff (HJ.out.2.2.2.2.2.1 (vk, body) (List.mem_of_getElem? e2))
          have hvn : vn ≤ 8192 := by rw [← p2]; exact hok.2.2.1
          have hnx : (rowB (fs.take (i + 1))).length = en + (9 + vn) := by
            rw [rowB_take e2, List.length_append, HR.out.1, hok.2.2.2, sealB_len]
            show en + (9 + body.length) = _
            rw [p2]
          have k1 := (BW.out.cell (p := ⟨b, off + i * 2 + 1, none⟩) hlt).trans c1
          by_cases hsz : kk < en + (9 + vn)
          · have hsz' : (kk : Int) - (en : Int) < (vn : Int) + 9 := by omega
            obtain rfl : i = J := by
              rcases Nat.lt_or_ge i J with q | q
              · exfalso
                have h2 := rowB_mono fs (i := i + 1) (j := J) (by omega)
                rw [hnx, HJ.out.2.1] at h2
                omega
              · omega
            obtain rfl : en = d := by rw [← HR.out.1]; exact HJ.out.2.1
            by_cases hc0 : code = 0
            · subst hc0
              obtain rfl : en = kk := HJ.out.2.2.2.2.1.1 rfl
              clear c0 c1 e1 e2 p3 hok hnx
              go_wp2
              go_ret
              exact ⟨by simp, BW.out⟩
            · obtain rfl : code = 10 := by rcases HJ.out.2.2.2.1 with q | q
                                           · exact absurd q hc0
                                           · exact q
              have hne : ((en : Int) == (kk : Int)) = false := by
                simp only [beq_eq_false_iff_ne]
                intro q
                exact hc0 (HJ.out.2.2.2.2.1.2 (by omega))
              clear c0 c1 e1 e2 p3 hok hnx
              go_wp2
              go_ret
              exact ⟨by simp, BW.out⟩
          · have hsz' : decide ((kk : Int) - (en : Int) < (vn : Int) + 9) = false := by rw [decide_eq_false_iff_not]; omega
            have hij : i < J := by
              rcases Nat.lt_or_ge i J with q | q
              · exact q
              · exfalso
                obtain rfl : i = J := by omega
                have h1 := HJ.out.2.2.1 (by omega)
                rw [hnx] at h1
                omega
            have hij' : decide ((J : Int) ≤ (i : Int)) = false := by rw [decide_eq_false_iff_not]; omega
            have hij2 : (i : Int) < (J : Int) := by omega
            have hij3 : decide (J ≤ i) = false := by rw [decide_eq_false_iff_not]; omega
            have hij4 : ¬ ((J : Int) ≤ (i : Int)) := by omega
            have hij5 : ¬ (J ≤ i) := by omega
            have e2' : (fs.take J)[i]? = some (vk, body) := by rw [List.getElem?_take_of_lt hij]; exact e2
            obtain ⟨v', f', g1, g2, hv'⟩ := N2.out.2.1.get (i := i) (List.getElem?_eq_some_iff.1 e2').1
            rw [e2'] at g2
            cases g2
            obtain ⟨lb, lo, rfl, llt⟩ := N2.out.1.some_of g1
            obtain ⟨_, d0, d1⟩ := N2.out.1.frames g1
            obtain ⟨uk, ua, un, uc⟩ := v'
            obtain ⟨s1, s2, s3⟩ := hv'
            simp only at s1 s2 s3 d0 d1
            subst s1
            have NE : Nonempty (SW (Grew wr)) := ⟨⟨wr, Below.refl _ _⟩⟩
            have bw : ∀ u : SW (Grew wr), Below W.heap.size W u.w := fun u => BW.out.trans (u.ok.mono BW.out.size)
            have bw2 : ∀ u : SW (Grew wr), Below w2.heap.size w2 u.w := fun u => HR.out.2.trans (u.ok.mono HR.out.2.size)
            have m0 : ∀ u : SW (Grew wr), u.w.cell? ⟨b, off + i * 2, none⟩ = some (.int .i64 uk) := fun u => ((bw u).cell (p := ⟨b, off + i * 2, none⟩) hlt).trans c0
            have m1 : ∀ u : SW (Grew wr), u.w.cell? ⟨b, off + i * 2 + 1, none⟩ = some (.slice va vn vc) := fun u => ((bw u).cell (p := ⟨b, off + i * 2 + 1, none⟩) hlt).trans c1
            have l0 : ∀ u : SW (Grew wr), u.w.cell? ⟨lb, lo + i * 2, none⟩ = some (.int .i64 uk) := fun u => ((bw2 u).cell (p := ⟨lb, lo + i * 2, none⟩) llt).trans d0
            have l1 : ∀ u : SW (Grew wr), u.w.cell? ⟨lb, lo + i * 2 + 1, none⟩ = some (.slice ua un uc) := fun u => ((bw2 u).cell (p := ⟨lb, lo + i * 2 + 1, none⟩) llt).trans d1
            have hcs : ∀ u : SW (Grew wr), (convert 24 9 (.slice va vn vc)).run Try.prog u.w = .ok (tx body) u.w := fun u => conv_str (p3.below (bw u))
            have hcl : ∀ u : SW (Grew wr), (convert 24 9 (.slice ua un uc)).run Try.prog u.w = .ok (tx body) u.w := fun u => conv_str (s3.below (bw2 u))
            have hx : Hid ((rowB (fs.take (i + 1))).length = en + (9 + vn)) := hnx
            clear bw bw2 c0 c1 d0 d1 p2 p3 s2 s3 e1 e2 e2' g1 hok hnx
            go_upto_region 16 with fail
            clear k1
            refine wp_region_class (S := Grew wr) (by kernel_rfl) (by kernel_rfl) (Below.refl _ wr).drew ?_
            repeat (go_big_quiet_step (fail))
            refine wpQuiet_nil ?_
            intro _ hw'
            obtain ⟨u, hw''⟩ := hw'
            subst hw''
            have N4 : Hid (Below w2.heap.size w2 u.w) := HR.out.2.trans (u.ok.mono HR.out.2.size)
            obtain ⟨w4, hw4⟩ : ∃ w4, w4 = u.w := ⟨_, rfl⟩
            rw [← hw4] at N4 ⊢
            clear hw4 m0 m1 l0 l1 hcs hcl NE u
            go_wp2
            go_roundg (gk - 1)
            case measure => omega
            case rel => exact ⟨i + 1, en + (9 + vn), by go_num, by go_num, by omega, by omega, hx.out, N4.out⟩
        · obtain rfl : i = n := by omega
          obtain rfl : J = i := by have := HJ.out.1; omega
          obtain rfl : en = d := by rw [← HR.out.1]; exact HJ.out.2.1
          have htk : fs.take J = fs := List.take_of_length_le (by have := H.out.2.2; omega)
          obtain rfl : en = kk := by
            have h1 := HR.out.1
            rw [htk, HJ.out.2.2.2.2.2.2] at h1
            omega
          obtain rfl : code = 0 := HJ.out.2.2.2.2.1.2 rfl
          clear htk
          go_wp2
          go_ret
          exact ⟨by simp, BW.out⟩
  · have m0 : (re == 0) = false := by simpa using hre
    have m1 : (re != 0) = true := by simpa using hre
    obtain rfl : rb = [] := HT.out.2 hre
    obtain rfl : rl = 0 := by rw [← hrl]; rfl
    go_wp2
    go_ret
    exact ⟨by simp, N1.out.2.1⟩

end Go.Proofs.Ytlcaphickofccaa
