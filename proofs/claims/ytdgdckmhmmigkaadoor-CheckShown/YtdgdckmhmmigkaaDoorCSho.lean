/-
  CheckShown by a contract. No condition but that the program's variables hold what its text lays there.
-/
import Derived.Test.YtdgdckmhmmigkaaDoorJBck
namespace Go.Proofs.YtdgdckmhmmigkaaDoor
open Go.RowKit

set_option maxHeartbeats 3200000 in
set_option maxRecDepth 100000 in
theorem shown_walk (s : ByteArray) (hm : s.size ≤ 9223372036854775807) (w : World) (hg : Gl w) (hi : Inf w) (hf : Fns w) :
    Calls Tryd.prog 5 #[.string s] w fun e w' => e = .returned (.bool true) ∧ Below w.heap.size w w' := by
  have ha := awake24 w hg hi hf
  have H : Hid (Gl w ∧ Inf w ∧ Fns w) := ⟨hg, hi, hf⟩
  clear hg hi hf
  go_enter Tryd.func5, Tryd.ntmps5
  go_wp2_with fail
  refine ha.mono ?_
  rintro e w1 ⟨rfl, b1⟩
  have B1 : Hid (Below w.heap.size w w1) := b1
  clear ha b1
  go_wp2_with fail
  refine (parse_any s hm w1 (H.out.1.below B1.out) (H.out.2.1.below B1.out)).mono ?_
  rintro e w2 ⟨v, a, c, rfl, b2, hp⟩
  rcases hp with ⟨ts, nd, hl, hsc, hgm, hdp, rfl, rfl, hn⟩ | ⟨rfl, hc⟩
  · obtain ⟨o, y, i, j, p, l, q, r⟩ := v
    obtain ⟨W3, m3, hW3, hm3, hx3, bW3, c3, hB3, hlt3⟩ := lay6 (B1.out.trans (b2.mono B1.out.size)) (by have := B1.out.size; have := b2.size; omega) 28 (.int .i64 o) (.string ⟨y.toArray⟩) (.int .i64 i) (.int .u64 j) (.slice p l q) (.int .i64 r)
    have B3 : Hid (Below w.heap.size w W3) := bW3
    obtain ⟨hwf, hwt, hsz⟩ := read_wf hsc hl hgm
    have hN := hn.below c3
    have hsh := show_any nd hwf (by omega) W3 _ hN (H.out.1.below B3.out) (H.out.2.1.below B3.out)
    obtain ⟨T, hT⟩ : ∃ T : ByteArray, ⟨(txt nd.ps).toArray⟩ = T := ⟨_, rfl⟩
    rw [hT] at hsh
    have hTl : T.data.toList = txt nd.ps := by rw [← hT]
    obtain ⟨us, md, ksc, kme, kgm⟩ := read_back (E' := (T.size : Int)) hsc hgm
    have kdp : md.dep ≤ 24 := by rw [dep_same kme]; exact hdp
    have hTs : T.size ≤ 42000 := by
      have := shown_len nd hwf
      rw [bsize, hTl]
      omega
    have HX : Hid (Box6 W3 m3 28 (.int .i64 o) (.string ⟨y.toArray⟩) (.int .i64 i) (.int .u64 j) (.slice p l q) (.int .i64 r)) := hx3
    have HN : Hid (NdIn (Bt w1.heap.size w2.heap.size) W3 ⟨o, y, i, j, p, l, q, r⟩ nd ∧ nd.sz ≤ 2000 ∧ md.e = nd.e) := ⟨hN, hsz, kme⟩
    obtain ⟨x0, x1, x2, x3, x4, x5⟩ := hx3.cells
    rw [← hTl] at ksc
    clear b2 hx3 bW3 c3 hn hN hsc hgm hT hTl hwf hwt hsz kme
    go_upto_region 4 with fail
    clear hW3 hm3
    go_wp2_with (go_at_call 11; refine hsh.mono ?_; rintro e w4 ⟨rfl, b4⟩)
    have B4 : Hid (Below W3.heap.size W3 w4) := b4
    have B04 : Hid (Below w.heap.size w w4) := B3.out.trans (b4.mono B3.out.size)
    clear hsh b4 x0 x1 x2 x3 x4 x5
    by_cases hlong : 1024 < T.size
    · refine (parse_long T (by omega) hlong w4).mono ?_
      rintro e w5 ⟨rfl, b5⟩
      have B5 : Hid (Below w.heap.size w w5) := B04.out.trans (b5.mono B04.out.size)
      clear b5
      go_upto_region 7 with fail
      obtain ⟨W6, m6, hW6, hm6, hx6, bW6, c6, hB6, hlt6⟩ := lay6 B5.out B5.out.size 28 (.int .i64 0) (.string ⟨#[]⟩) (.int .i64 0) (.int .u64 0) (.slice none 0 0) (.int .i64 0)
      have HB6 : Hid (Below w.heap.size w W6) := bW6
      rw [hW6, hm6]
      clear hW6 hm6 bW6 c6 hx6
      go_wp2_with fail
      go_quiet (fail)
      go_wp2
      go_ret
      exact ⟨rfl, HB6.out.trans ((belowD W6 _).mono HB6.out.size)⟩
    · refine (parse_ans T (by omega) ksc w4 (H.out.1.below B04.out) (H.out.2.1.below B04.out)).mono ?_
      rintro e w5 ⟨⟨o', y', i', j', p', l', q', r'⟩, a', c', rfl, b5, hp5⟩
      obtain ⟨rfl, rfl, hn5, kgm2⟩ := hp5.okay (rn_of kgm) kdp
      obtain ⟨W6, m6, hW6, hm6, hx6, bW6, c6, hB6, hlt6⟩ := lay6 (B04.out.trans (b5.mono B04.out.size)) (by have := B04.out.size; have := b5.size; omega) 28 (.int .i64 o') (.string ⟨y'.toArray⟩) (.int .i64 i') (.int .u64 j') (.slice p' l' q') (.int .i64 r')
      obtain ⟨hwf, hwt, hsz⟩ := read_wf ksc (by rw [← bsize]; omega) kgm2
      have B36 : Below W3.heap.size W3 W6 := B4.out.trans ((b5.trans (c6.mono b5.size)).mono B4.out.size)
      have hnn := fun u (b : Below W6.heap.size W6 u) => lnode_any nd (by have := HN.out.2.1; omega) _ u _ ((HN.out.1.below B36).below b)
      have hnm := fun u (b : Below W6.heap.size W6 u) => lnode_any md (by omega) _ u _ ((hn5.below c6).below b)
      have hkn := fun u (b : Below W6.heap.size W6 u) => tcheck_any nd (by have := HN.out.2.1; omega) _ u _ (H.out.2.2.below (bW6.trans (b.mono bW6.size))) ((HN.out.1.below B36).below b)
      have hkm := fun u (b : Below W6.heap.size W6 u) => tcheck_any md (by omega) _ u _ (H.out.2.2.below (bW6.trans (b.mono bW6.size))) ((hn5.below c6).below b)
      have hsm := rsame_any nd (by have := HN.out.2.1; omega) md false ⟨HN.out.2.2.symm, fun q => by cases q⟩
      have hte := ck_same HN.out.2.2
      obtain ⟨⟨rt, ra, re⟩, hR⟩ : ∃ R, nd.ck = R := ⟨_, rfl⟩
      obtain ⟨⟨kt, ka, ke⟩, hK⟩ : ∃ R, md.ck = R := ⟨_, rfl⟩
      rw [hR] at hte hkn
      rw [hK] at hte hkm
      obtain ⟨rfl, rfl⟩ : kt = rt ∧ ke = re := hte
      have KS : Hid (∀ u, Below W6.heap.size W6 u → u.cell? ⟨m3, 0, none⟩ = some (.int .i64 o) ∧ u.cell? ⟨m3, 1, none⟩ = some (.string ⟨y.toArray⟩) ∧ u.cell? ⟨m3, 2, none⟩ = some (.int .i64 i) ∧ u.cell? ⟨m3, 3, none⟩ = some (.int .u64 j) ∧ u.cell? ⟨m3, 4, none⟩ = some (.slice p l q) ∧ u.cell? ⟨m3, 5, none⟩ = some (.int .i64 r) ∧
          u.cell? ⟨m6, 0, none⟩ = some (.int .i64 o') ∧ u.cell? ⟨m6, 1, none⟩ = some (.string ⟨y'.toArray⟩) ∧ u.cell? ⟨m6, 2, none⟩ = some (.int .i64 i') ∧ u.cell? ⟨m6, 3, none⟩ = some (.int .u64 j') ∧ u.cell? ⟨m6, 4, none⟩ = some (.slice p' l' q') ∧ u.cell? ⟨m6, 5, none⟩ = some (.int .i64 r')) := fun u b => by
        obtain ⟨a0, a1, a2, a3, a4, a5⟩ := ((HX.out.below B36).below b).cells
        obtain ⟨b0, b1, b2, b3, b4, b5⟩ := (hx6.below b).cells
        exact ⟨a0, a1, a2, a3, a4, a5, b0, b1, b2, b3, b4, b5⟩
      have B6 : Hid (Below w.heap.size w W6) := bW6
      have H1 : Hid (∀ u, Below W6.heap.size W6 u → Calls Tryd.prog 10 _ _ _) := hnn
      have H2 : Hid (∀ u, Below W6.heap.size W6 u → Calls Tryd.prog 10 _ _ _) := hnm
      have H3 : Hid (∀ (Q R : Nat → Prop) (w : World) (v u : NV), NdIn Q w v nd → NdIn R w u md → Calls Tryd.prog 12 #[v.val, u.val, .bool false] w fun e w' => e = .returned (.bool true) ∧ Below w.heap.size w w') := hsm
      have H4 : Hid (∀ u, Below W6.heap.size W6 u → Calls Tryd.prog 8 _ _ _) := hkn
      have H5 : Hid (∀ u, Below W6.heap.size W6 u → Calls Tryd.prog 8 _ _ _) := hkm
      clear b5 hp5 hn5 hx6 bW6 c6 hwf hwt hsz B36 hnn hnm hkn hkm hsm ksc kgm kgm2 kdp hR hK
      go_upto_region 7 with fail
      clear hW6 hm6
      obtain ⟨x0, x1, x2, x3, x4, x5, y0, y1, y2, y3, y4, y5⟩ := KS.out W6 (Below.refl _ _)
      go_wp2_with fail
      go_region_held3 (fun u => u.cell? ⟨m3, 0, none⟩ = some (.int .i64 o) ∧ u.cell? ⟨m3, 1, none⟩ = some (.string ⟨y.toArray⟩) ∧ u.cell? ⟨m3, 2, none⟩ = some (.int .i64 i) ∧ u.cell? ⟨m3, 3, none⟩ = some (.int .u64 j) ∧ u.cell? ⟨m3, 4, none⟩ = some (.slice p l q) ∧ u.cell? ⟨m3, 5, none⟩ = some (.int .i64 r) ∧
          u.cell? ⟨m6, 0, none⟩ = some (.int .i64 o') ∧ u.cell? ⟨m6, 1, none⟩ = some (.string ⟨y'.toArray⟩) ∧ u.cell? ⟨m6, 2, none⟩ = some (.int .i64 i') ∧ u.cell? ⟨m6, 3, none⟩ = some (.int .u64 j') ∧ u.cell? ⟨m6, 4, none⟩ = some (.slice p' l' q') ∧ u.cell? ⟨m6, 5, none⟩ = some (.int .i64 r'))
        (first | with_reducible exact kS9 | with_reducible exact kS8 | with_reducible exact kS7 | go_keep)
        (first
          | (go_at_call 12; (with_reducible refine (H3.out _ _ _ _ _ (HV7.out.below (by first | exact B78.out | exact Below.refl _ _)) HV8.out).mono ?_); rintro e w9 ⟨rfl, b9⟩; have B9 : Hid (Below W6.heap.size W6 w9) := B8.out.trans (b9.mono B8.out.size); have kS9 := KS.out _ B9.out; clear b9)
          | (go_at_call 10; (with_reducible refine (H1.out _ (by exact (Below.refl _ W6).drew)).mono ?_); rintro e w7 ⟨_, rfl, v7, rfl, hn7, b7⟩; have B7 : Hid (Below W6.heap.size W6 w7) := undrewB b7; have HV7 : Hid (NdIn _ w7 v7 nd) := hn7; have kS7 := KS.out _ B7.out; clear hn7 b7)
          | (go_at_call 10; (with_reducible refine (H2.out _ B7.out).mono ?_); rintro e w8 ⟨_, rfl, v8, rfl, hn8, b8⟩; have B8 : Hid (Below W6.heap.size W6 w8) := B7.out.trans (b8.mono B7.out.size); have HV8 : Hid (NdIn _ w8 v8 md) := hn8; have B78 : Hid (Below w7.heap.size w7 w8) := b8; have kS8 := KS.out _ B8.out; clear hn8 b8))
      clear x0 x1 x2 x3 x4 x5 y0 y1 y2 y3 y4 y5 kS9 kS8 kS7
      obtain ⟨x0, x1, x2, x3, x4, x5, y0, y1, y2, y3, y4, y5⟩ := KS.out w9 B9.out
      go_wp2_with fail
      refine (H4.out w9 B9.out).mono ?_
      rintro e w10 ⟨rfl, b10⟩
      have B10 : Hid (Below W6.heap.size W6 w10) := B9.out.trans (b10.mono B9.out.size)
      clear b10 x0 x1 x2 x3 x4 x5 y0 y1 y2 y3 y4 y5
      simp only [ckV]
      obtain ⟨x0, x1, x2, x3, x4, x5, y0, y1, y2, y3, y4, y5⟩ := KS.out w10 B10.out
      go_wp2_with fail
      refine (H5.out w10 B10.out).mono ?_
      rintro e w11 ⟨rfl, b11⟩
      simp only [ckV]
      go_wp2_with fail
      go_ret
      exact ⟨by simp, B6.out.trans ((B10.out.trans (b11.mono B10.out.size)).mono B6.out.size)⟩
  · have B2 : Hid (Below w.heap.size w w2) := B1.out.trans (b2.mono B1.out.size)
    have hc0 : (c == 0) = false := by rw [beq_eq_false_iff_ne]; omega
    have hc1 : ¬ c = 0 := by omega
    clear b2 hc
    go_upto_region 4 with fail
    obtain ⟨W3, m3, hW3, hm3, hx3, bW3, c3, hB3, hlt3⟩ := lay6 B2.out B2.out.size 28 (.int .i64 0) (.string ⟨#[]⟩) (.int .i64 0) (.int .u64 0) (.slice none 0 0) (.int .i64 0)
    rw [hW3, hm3]
    clear hW3 hm3
    go_wp2_with fail
    go_ret
    exact ⟨rfl, bW3⟩

end Go.Proofs.YtdgdckmhmmigkaaDoor
