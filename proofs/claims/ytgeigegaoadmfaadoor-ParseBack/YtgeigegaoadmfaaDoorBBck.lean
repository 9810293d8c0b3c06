/-
  ParseBack by a contract. No condition but that the program's variables hold what its text lays there.
-/
import Derived.Test.YtgeigegaoadmfaaDoorJAnz
namespace Go.Proofs.YtgeigegaoadmfaaDoor
open Go.RowKit

/-- Every text has its tokens, or a place where none begins. -/
theorem sc_some : ∀ (n : Nat) (l : Bs) (p : Nat), l.length ≤ n → ∃ ts e, Sc p l ts e
  | _, [], p, _ => ⟨[], none, .done p⟩
  | 0, c :: r, p, h => by simp at h
  | n + 1, c :: r, p, h => by
    have hr : r.length ≤ n := by simpa using h
    cases hb : isBl c with
    | true =>
      obtain ⟨ts, e, k⟩ := sc_some n r (p + 1) hr
      exact ⟨ts, e, .skip hb k⟩
    | false =>
      rcases Nat.eq_zero_or_pos (tok1 (c :: r)).2 with h0 | h0
      · exact ⟨[], some p, .bad hb h0⟩
      · obtain ⟨ts, e, k⟩ := sc_some n ((c :: r).drop (tok1 (c :: r)).2) (p + (tok1 (c :: r)).2) (by rw [List.length_drop, List.length_cons]; omega)
        exact ⟨_, e, .tok hb rfl h0 k⟩

theorem fps_e : ∀ f : Fo, fps f.e = fps f
  | .nil => rfl
  | .cons op text num id kids pos next => by simp only [Fo.e, fps, fps_e kids, fps_e next]
theorem ps_same {n m : Nd} (h : n.e = m.e) : n.ps = m.ps := by
  have a : ∀ k : Nd, k.e.ps = k.ps := fun k => by
    show pcs k.op k.text k.num k.id (fps k.kids.e) = pcs k.op k.text k.num k.id (fps k.kids)
    rw [fps_e]
  rw [← a n, ← a m, h]

/-- What Parse answers of whatever text. -/
def Pw (l : Bs) (Q : Nat → Prop) (v : NV) (a c : Int) (w' : World) : Prop :=
  (∃ ts nd, l.length ≤ 1024 ∧ Sc 0 l ts none ∧ Gm l.length (.row 1) ts (.ok nd []) ∧ nd.dep ≤ 24 ∧ a = 0 ∧ c = 0 ∧ NdIn Q w' v nd) ∨ (v = nv0 ∧ (c = 4 ∨ c = 30 ∨ c = 31 ∨ c = 32))
theorem parse_any (s : ByteArray) (hm : s.size ≤ 9223372036854775807) (w : World) (hg : Gl w) (hi : Inf w) :
    Calls Tryd.prog 7 #[.string s] w fun e w' => ∃ (v : NV) (a c : Int), e = .returned (.tuple #[v.val, .int .i64 a, .int .i64 c]) ∧ Below w.heap.size w w' ∧ Pw s.data.toList (Bt w.heap.size w'.heap.size) v a c w' := by
  by_cases hs : s.size ≤ 1024
  · obtain ⟨ts, e, h⟩ := sc_some s.data.toList.length s.data.toList 0 (Nat.le_refl _)
    cases e with
    | none =>
      refine (parse_ans s hs h w hg hi).mono ?_
      rintro e w' ⟨v, a, c, rfl, hb, hp⟩
      refine ⟨v, a, c, rfl, hb, ?_⟩
      rcases hp.tells with ⟨nd, h1, h2, h3, h4, h5⟩ | ⟨h1, h2⟩
      · exact .inl ⟨ts, nd, by rw [← bsize]; exact hs, h, by rw [← bsize]; exact h5, h4, h1, h2, h3⟩
      · exact .inr ⟨h1, .inr (.inr h2)⟩
    | some p =>
      refine (parse_bad s hs h w hg).mono ?_
      rintro e w' ⟨rfl, hb⟩
      exact ⟨nv0, p, 30, rfl, hb, .inr ⟨rfl, .inr (.inl rfl)⟩⟩
  · refine (parse_long s hm (by omega) w).mono ?_
    rintro e w' ⟨rfl, hb⟩
    exact ⟨nv0, 0, 4, rfl, hb, .inr ⟨rfl, .inl rfl⟩⟩

abbrev nd0 : Nd := ⟨0, [], 0, 0, .nil, 0⟩
theorem ndin0 (Q : Nat → Prop) (w : World) : NdIn Q w nv0 nd0 := ⟨rfl, rfl, rfl, rfl, rfl, rfl, Nat.le_refl _, [], RdG.nil _ _ _, fun q => by simp at q, rfl⟩

set_option maxHeartbeats 3200000 in
set_option maxRecDepth 100000 in
theorem back_walk (s : ByteArray) (hm : s.size ≤ 9223372036854775807) (w : World) (hg : Gl w) (hi : Inf w) :
    Calls Tryd.prog 3 #[.string s] w fun e w' => e = .returned (.bool true) ∧ Below w.heap.size w w' := by
  have ha := awake_any w hg hi
  have H : Hid (Gl w ∧ Inf w) := ⟨hg, hi⟩
  clear hg hi
  go_enter Tryd.func3, Tryd.ntmps3
  go_wp2_with fail
  refine ha.mono ?_
  rintro e w1 ⟨rfl, b1⟩
  have B1 : Hid (Below w.heap.size w w1) := b1
  clear ha b1
  go_wp2_with fail
  refine (parse_any s hm w1 (H.out.1.below B1.out) (H.out.2.below B1.out)).mono ?_
  rintro e w2 ⟨v, a, c, rfl, b2, hp⟩
  rcases hp with ⟨ts, nd, hl, hsc, hgm, hdp, rfl, rfl, hn⟩ | ⟨rfl, hc⟩
  · obtain ⟨o, y, i, j, p, l, q, r⟩ := v
    obtain ⟨W3, m3, hW3, hm3, hx3, bW3, c3, hB3, hlt3⟩ := lay6 (B1.out.trans (b2.mono B1.out.size)) (by have := B1.out.size; have := b2.size; omega) 28 (.int .i64 o) (.string ⟨y.toArray⟩) (.int .i64 i) (.int .u64 j) (.slice p l q) (.int .i64 r)
    have B3 : Hid (Below w.heap.size w W3) := bW3
    obtain ⟨hwf, hwt, hsz⟩ := read_wf hsc hl hgm
    have hN := hn.below c3
    have hsh := show_any nd hwf (by omega) W3 _ hN (H.out.1.below B3.out) (H.out.2.below B3.out)
    obtain ⟨T, hT⟩ : ∃ T : ByteArray, ⟨(txt nd.ps).toArray⟩ = T := ⟨_, rfl⟩
    rw [hT] at hsh
    have hTl : T.data.toList = txt nd.ps := by rw [← hT]
    obtain ⟨us, md, ksc, kme, kgm⟩ := read_back (E' := (T.size : Int)) hsc hgm
    have kdp : md.dep ≤ 24 := by rw [dep_same kme]; exact hdp
    have hTs : T.size ≤ 42000 := by
      have := shown_len nd hwf
      rw [bsize, hTl]
      omega
    have HX : Hid (Box6 W3 m3 28 (.int .i64 o) (.string ⟨y.toArray⟩) (.int .i64 i) (.int .u64 j) (.slice p l q) (.int .i64 r)) := hx3
    have HN : Hid (NdIn (Bt w1.heap.size w2.heap.size) W3 ⟨o, y, i, j, p, l, q, r⟩ nd ∧ nd.sz ≤ 2000 ∧ md.e = nd.e ∧ T.data.toList = txt nd.ps ∧ nd.ps = md.ps) := ⟨hN, hsz, kme, hTl, ps_same kme.symm⟩
    obtain ⟨x0, x1, x2, x3, x4, x5⟩ := hx3.cells
    rw [← hTl] at ksc
    clear b2 hx3 bW3 c3 hn hN hsc hgm hT hTl hwf hwt hsz kme
    go_upto_region 4 with fail
    clear hW3 hm3
    go_wp2_with (go_at_call 10; refine hsh.mono ?_; rintro e w4 ⟨rfl, b4⟩)
    have B4 : Hid (Below W3.heap.size W3 w4) := b4
    have B04 : Hid (Below w.heap.size w w4) := B3.out.trans (b4.mono B3.out.size)
    clear hsh b4 x0 x1 x2 x3 x4 x5
    by_cases hlong : 1024 < T.size
    · have hll : (1024 : Int) < (T.size : Int) := by omega
      refine (parse_long T (by omega) hlong w4).mono ?_
      rintro e w5 ⟨rfl, b5⟩
      have B5 : Hid (Below w.heap.size w w5) := B04.out.trans (b5.mono B04.out.size)
      clear b5
      go_upto_region 8 with fail
      obtain ⟨W6, m6, hW6, hm6, hx6, bW6, c6, hB6, hlt6⟩ := lay6 B5.out B5.out.size 28 (.int .i64 0) (.string ⟨#[]⟩) (.int .i64 0) (.int .u64 0) (.slice none 0 0) (.int .i64 0)
      rw [hW6, hm6]
      clear hW6 hm6
      go_wp2_with fail
      go_ret
      exact ⟨rfl, bW6⟩
    · have hll : ¬ (1024 : Int) < (T.size : Int) := by omega
      refine (parse_ans T (by omega) ksc w4 (H.out.1.below B04.out) (H.out.2.below B04.out)).mono ?_
      rintro e w5 ⟨⟨o', y', i', j', p', l', q', r'⟩, a', c', rfl, b5, hp5⟩
      obtain ⟨rfl, rfl, hn5, kgm2⟩ := hp5.okay (rn_of kgm) kdp
      obtain ⟨W6, m6, hW6, hm6, hx6, bW6, c6, hB6, hlt6⟩ := lay6 (B04.out.trans (b5.mono B04.out.size)) (by have := B04.out.size; have := b5.size; omega) 28 (.int .i64 o') (.string ⟨y'.toArray⟩) (.int .i64 i') (.int .u64 j') (.slice p' l' q') (.int .i64 r')
      obtain ⟨hwf, hwt, hsz⟩ := read_wf ksc (by rw [← bsize]; omega) kgm2
      have B36 : Below W3.heap.size W3 W6 := B4.out.trans ((b5.trans (c6.mono b5.size)).mono B4.out.size)
      have hshow := fun u (b : Below W6.heap.size W6 u) => show_any md hwf (by omega) u _ ((hn5.below c6).below b) (H.out.1.below (bW6.trans (b.mono bW6.size))) (H.out.2.below (bW6.trans (b.mono bW6.size)))
      rw [← HN.out.2.2.2.2, ← HN.out.2.2.2.1] at hshow
      have hnn := fun u (b : Below W6.heap.size W6 u) => lnode_any nd (by have := HN.out.2.1; omega) _ u _ ((HN.out.1.below B36).below b)
      have hnm := fun u (b : Below W6.heap.size W6 u) => lnode_any md (by omega) _ u _ ((hn5.below c6).below b)
      have hsm := rsame_any nd (by have := HN.out.2.1; omega) md false ⟨HN.out.2.2.1.symm, fun q => by cases q⟩
      have KS : Hid (∀ u, Below W6.heap.size W6 u → u.cell? ⟨m3, 0, none⟩ = some (.int .i64 o) ∧ u.cell? ⟨m3, 1, none⟩ = some (.string ⟨y.toArray⟩) ∧ u.cell? ⟨m3, 2, none⟩ = some (.int .i64 i) ∧ u.cell? ⟨m3, 3, none⟩ = some (.int .u64 j) ∧ u.cell? ⟨m3, 4, none⟩ = some (.slice p l q) ∧ u.cell? ⟨m3, 5, none⟩ = some (.int .i64 r) ∧
          u.cell? ⟨m6, 0, none⟩ = some (.int .i64 o') ∧ u.cell? ⟨m6, 1, none⟩ = some (.string ⟨y'.toArray⟩) ∧ u.cell? ⟨m6, 2, none⟩ = some (.int .i64 i') ∧ u.cell? ⟨m6, 3, none⟩ = some (.int .u64 j') ∧ u.cell? ⟨m6, 4, none⟩ = some (.slice p' l' q') ∧ u.cell? ⟨m6, 5, none⟩ = some (.int .i64 r')) := fun u b => by
        obtain ⟨a0, a1, a2, a3, a4, a5⟩ := ((HX.out.below B36).below b).cells
        obtain ⟨b0, b1, b2, b3, b4, b5⟩ := (hx6.below b).cells
        exact ⟨a0, a1, a2, a3, a4, a5, b0, b1, b2, b3, b4, b5⟩
      have B6 : Hid (Below w.heap.size w W6) := bW6
      have HS : Hid (∀ u, Below W6.heap.size W6 u → Calls Tryd.prog 10 _ _ _) := hshow
      have H1 : Hid (∀ u, Below W6.heap.size W6 u → Calls Tryd.prog 9 _ _ _) := hnn
      have H2 : Hid (∀ u, Below W6.heap.size W6 u → Calls Tryd.prog 9 _ _ _) := hnm
      have H3 : Hid (∀ (Q R : Nat → Prop) (w : World) (v u : NV), NdIn Q w v nd → NdIn R w u md → Calls Tryd.prog 8 #[v.val, u.val, .bool false] w fun e w' => e = .returned (.bool true) ∧ Below w.heap.size w w') := hsm
      clear b5 hp5 hn5 hx6 bW6 c6 hwf hwt hsz B36 hshow hnn hnm hsm ksc kgm kgm2 kdp
      go_upto_region 8 with fail
      clear hW6 hm6
      go_wp2_with fail
      obtain ⟨x0, x1, x2, x3, x4, x5, y0, y1, y2, y3, y4, y5⟩ := KS.out W6 (Below.refl _ _)
      go_region_held3 (fun u => u.cell? ⟨m3, 0, none⟩ = some (.int .i64 o) ∧ u.cell? ⟨m3, 1, none⟩ = some (.string ⟨y.toArray⟩) ∧ u.cell? ⟨m3, 2, none⟩ = some (.int .i64 i) ∧ u.cell? ⟨m3, 3, none⟩ = some (.int .u64 j) ∧ u.cell? ⟨m3, 4, none⟩ = some (.slice p l q) ∧ u.cell? ⟨m3, 5, none⟩ = some (.int .i64 r) ∧
          u.cell? ⟨m6, 0, none⟩ = some (.int .i64 o') ∧ u.cell? ⟨m6, 1, none⟩ = some (.string ⟨y'.toArray⟩) ∧ u.cell? ⟨m6, 2, none⟩ = some (.int .i64 i') ∧ u.cell? ⟨m6, 3, none⟩ = some (.int .u64 j') ∧ u.cell? ⟨m6, 4, none⟩ = some (.slice p' l' q') ∧ u.cell? ⟨m6, 5, none⟩ = some (.int .i64 r'))
        (first | with_reducible exact kS9 | with_reducible exact kS8 | with_reducible exact kS7 | with_reducible exact kS | go_keep)
        (first
          | (go_at_call 10; (with_reducible refine (HS.out _ B9.out).mono ?_); rintro e w10 ⟨rfl, b10⟩; have B10 : Hid (Below W6.heap.size W6 w10) := B9.out.trans (b10.mono B9.out.size); have kS := KS.out _ B10.out; clear b10)
          | (go_at_call 8; (with_reducible refine (H3.out _ _ _ _ _ (HV7.out.below (by first | exact B78.out | exact Below.refl _ _)) HV8.out).mono ?_); rintro e w9 ⟨rfl, b9⟩; have B9 : Hid (Below W6.heap.size W6 w9) := B8.out.trans (b9.mono B8.out.size); have kS9 := KS.out _ B9.out; clear b9)
          | (go_at_call 9; (with_reducible refine (H1.out _ (by exact (Below.refl _ W6).drew)).mono ?_); rintro e w7 ⟨_, rfl, v7, rfl, hn7, b7⟩; have B7 : Hid (Below W6.heap.size W6 w7) := undrewB b7; have HV7 : Hid (NdIn _ w7 v7 nd) := hn7; have kS7 := KS.out _ B7.out; clear hn7 b7)
          | (go_at_call 9; (with_reducible refine (H2.out _ B7.out).mono ?_); rintro e w8 ⟨_, rfl, v8, rfl, hn8, b8⟩; have B8 : Hid (Below W6.heap.size W6 w8) := B7.out.trans (b8.mono B7.out.size); have HV8 : Hid (NdIn _ w8 v8 md) := hn8; have B78 : Hid (Below w7.heap.size w7 w8) := b8; have kS8 := KS.out _ B8.out; clear hn8 b8))
      go_wp2_with fail
      go_ret
      exact ⟨rfl, B6.out.trans (B10.out.mono B6.out.size)⟩
  · have B2 : Hid (Below w.heap.size w w2) := B1.out.trans (b2.mono B1.out.size)
    have hs := fun u v Q hv => rsame_any nd0 (by decide) nd0 true ⟨rfl, fun _ => rfl⟩ Q (fun _ => False) u v nv0 hv (ndin0 _ _)
    have HS : Hid (∀ (u : World) (v : NV) (Q : Nat → Prop), NdIn Q u v nd0 → Calls Tryd.prog 8 #[v.val, nv0.val, .bool true] u fun e w' => e = .returned (.bool true) ∧ Below u.heap.size u w') := hs
    have hc0 : (c == 0) = false := by rw [beq_eq_false_iff_ne]; omega
    have hc1 : ¬ c = 0 := by omega
    clear b2 hc hs
    go_upto_region 4 with fail
    obtain ⟨W3, m3, hW3, hm3, hx3, bW3, c3, hB3, hlt3⟩ := lay6 B2.out B2.out.size 28 (.int .i64 0) (.string ⟨#[]⟩) (.int .i64 0) (.int .u64 0) (.slice none 0 0) (.int .i64 0)
    have B3 : Hid (Below w.heap.size w W3) := bW3
    obtain ⟨x0, x1, x2, x3, x4, x5⟩ := hx3.cells
    have hn := lnode_any nd0 (by decide) (fun _ => False) W3 nv0 (ndin0 _ _)
    clear hx3 bW3 c3
    rw [hW3, hm3]
    clear hW3 hm3
    go_wp2_with (go_at_call 9; refine hn.mono ?_; rintro e w4 ⟨_, rfl, nv, rfl, hn4, b4⟩)
    have B4 : Hid (Below w.heap.size w w4) := B3.out.trans (b4.mono B3.out.size)
    clear hn b4
    go_wp2_with (go_at_call 8; refine (HS.out _ _ _ hn4).mono ?_; rintro e w5 ⟨rfl, b5⟩)
    go_ret
    exact ⟨rfl, B4.out.trans (b5.mono B4.out.size)⟩

end Go.Proofs.YtgeigegaoadmfaaDoor
