import Derived.Test.YtijchmcajhdcoaaGreatDoorBRPar
import Derived.Test.YtijchmcajhdcoaaGreatDoorJAnz
import Derived.Test.YtijchmcajhdcoaaGreatDoorJRws
/-!
  What the program's Parse and the reference's answer of whatever text: the same tree, place and code. No condition but that the program's variables hold what its text lays there.
-/
namespace Go.Proofs.YtijchmcajhdcoaaGreatDoor
open Go.RowKit

set_option maxHeartbeats 400000 in
set_option maxRecDepth 100000 in
theorem rscan_long (s : ByteArray) (hm : s.size ≤ 9223372036854775807) (h : 1024 < s.size) (w : World) :
    Calls Tryz.prog 14 #[.string s] w fun e w' => e = .returned (.tuple #[.slice none 0 0, .int .i64 0, .int .i64 4]) ∧ w' = w := by
  go_enter Tryz.func14, Tryz.ntmps14
  go_wp2
  refine bodyPost_ret (v := .tuple #[.slice none 0 0, .int .i64 0, .int .i64 4]) ?_ rfl ⟨rfl, rfl⟩
  simp [results, Tryz.f14]

set_option maxHeartbeats 1600000 in
set_option maxRecDepth 100000 in
theorem rparse_long (s : ByteArray) (hm : s.size ≤ 9223372036854775807) (h : 1024 < s.size) (w : World) :
    Calls Tryz.prog 6 #[.string s] w fun e w' => e = .returned (.tuple #[nv0.val, .int .i64 0, .int .i64 4]) ∧ Below w.heap.size w w' := by
  obtain ⟨W0, m0, hW0, hm0, hx0, bW0, _, hB0, hlt0⟩ := lay6 (Below.refl _ w) (Nat.le_refl _) 34 (.int .i64 0) (.string ⟨#[]⟩) (.int .i64 0) (.int .u64 0) (.slice none 0 0) (.int .i64 0)
  have hsc := rscan_long s hm h W0
  obtain ⟨p0, p1, p2, p3, p4, p5⟩ := hx0.cells
  obtain ⟨q0, q1, q2, q3, q4, q5⟩ := hx0.thaw
  have H : Hid (Below w.heap.size w W0 ∧ w.heap.size = m0 ∧ Box6 W0 m0 34 (.int .i64 0) (.string ⟨#[]⟩) (.int .i64 0) (.int .u64 0) (.slice none 0 0) (.int .i64 0)) := ⟨bW0, hm0, hx0⟩
  clear bW0 hx0
  go_enter Tryz.func6, Tryz.ntmps6
  go_upto_region 1 with fail
  clear hW0 hm0
  go_wp2_with fail
  refine hsc.mono ?_
  rintro e w1 ⟨rfl, hw1⟩
  rw [hw1]
  clear hsc hw1
  go_wp2_with fail
  refine bodyPost_ret (results_cell3 (by rfl) _ ⟨m0, 0, none⟩ (by rfl) (load6 (H.out.2.2.sixed _ _ _ _ _ _))) (by rfl) ⟨(by rfl), belowS6 H.out.1 (by have := H.out.2.1; omega) _ _ _ _ _ _⟩

set_option maxHeartbeats 1600000 in
set_option maxRecDepth 100000 in
theorem rparse_bad (s : ByteArray) (hs : s.size ≤ 1024) {ts : List Tk} {p : Nat} (h : Sc 0 s.data.toList ts (some p)) (w : World) :
    Calls Tryz.prog 6 #[.string s] w fun e w' => e = .returned (.tuple #[nv0.val, .int .i64 p, .int .i64 30]) ∧ Below w.heap.size w w' := by
  obtain ⟨W0, m0, hW0, hm0, hx0, bW0, _, hB0, hlt0⟩ := lay6 (Below.refl _ w) (Nat.le_refl _) 34 (.int .i64 0) (.string ⟨#[]⟩) (.int .i64 0) (.int .u64 0) (.slice none 0 0) (.int .i64 0)
  have hsc := rscan_short s hs W0
  have H : Hid (Below w.heap.size w W0 ∧ w.heap.size = m0 ∧ Box6 W0 m0 34 (.int .i64 0) (.string ⟨#[]⟩) (.int .i64 0) (.int .u64 0) (.slice none 0 0) (.int .i64 0) ∧ Sc 0 s.data.toList ts (some p)) := ⟨bW0, hm0, hx0, h⟩
  clear bW0 hx0 h
  go_enter Tryz.func6, Tryz.ntmps6
  go_upto_region 1 with fail
  clear hW0 hm0
  go_wp2_with fail
  refine hsc.mono ?_
  rintro e w1 ⟨v, a, c, us, er, rfl, ht⟩
  obtain ⟨k1, k2, rfl, rfl, k5⟩ := ht.form
  obtain ⟨rfl, rfl⟩ := k1.uniq H.out.2.2.2
  obtain ⟨ao, cp, rfl, _⟩ := Lt.of k5
  have x1 := H.out.2.2.1.below k2
  obtain ⟨p0, p1, p2, p3, p4, p5⟩ := x1.cells
  obtain ⟨q0, q1, q2, q3, q4, q5⟩ := x1.thaw
  have HB : Hid (Below w.heap.size w w1 ∧ w.heap.size ≤ m0 ∧ Box6 w1 m0 34 (.int .i64 0) (.string ⟨#[]⟩) (.int .i64 0) (.int .u64 0) (.slice none 0 0) (.int .i64 0)) := ⟨H.out.1.trans (k2.mono H.out.1.size), by have := H.out.2.1; omega, x1⟩
  clear hsc k1 k2 k5 x1 ht
  simp only [plT, cdT, outT_some, List.length_nil]
  go_wp2_with fail
  refine bodyPost_ret (results_cell3 (by rfl) _ ⟨m0, 0, none⟩ (by rfl) (load6 (HB.out.2.2.sixed _ _ _ _ _ _))) (by rfl) ⟨(by rfl), belowS6 HB.out.1 HB.out.2.1 _ _ _ _ _ _⟩

/-- What both answer. -/
abbrev Bo (s : ByteArray) (f : Nat) (nd : Nd) (a c : Int) (u : World) : Prop := Calls Tryz.prog f #[.string s] u fun e w' => ∃ v : NV, e = .returned (.tuple #[v.val, .int .i64 a, .int .i64 c]) ∧ Below u.heap.size u w' ∧ NdIn (Bt u.heap.size w'.heap.size) w' v nd
theorem names_full {p : Nat} {l : Bs} {ts : List Tk} {e : Option Nat} (h : Sc p l ts e) : ∀ t ∈ ts, t.kind = 1 → t.text ≠ [] := by
  intro t ht hk q
  have := (h.good t ht).pos
  unfold st at this
  rw [hk, q] at this
  simp at this
theorem whole_ok {E : Int} {ts : List Tk} {o : Out} {nd : Nd} (h : Gm E (.row 1) ts o) (hr : rn E [] [] true ts = .ok nd) : Gm E (.row 1) ts (.ok nd []) := by
  have hw := h.whole
  rw [hr] at hw
  cases o with
  | ok n r =>
    cases r with
    | nil =>
      simp only at hw
      cases hw
      exact h
    | cons t r =>
      simp only at hw
      cases hw
  | err p =>
    simp only at hw
    cases hw

theorem both_any (s : ByteArray) (hm : s.size ≤ 9223372036854775807) (w : World) (hg : Gl w) (hi : Inf w) :
    Calls Tryz.prog 5 #[.string s] w fun e w' => ∃ (v : NV) (nd : Nd) (a c : Int), e = .returned (.tuple #[v.val, .int .i64 a, .int .i64 c]) ∧ Below w.heap.size w w' ∧ NdIn (Bt w.heap.size w'.heap.size) w' v nd ∧ nd.sz ≤ 2000 ∧ (c = 0 → WfT nd ∧ nd.wt ≤ 42000) ∧ ∀ u, Bo s 6 nd a c u := by
  by_cases hs : s.size ≤ 1024
  · obtain ⟨ts, e, h⟩ := sc_some s.data.toList.length s.data.toList 0 (Nat.le_refl _)
    cases e with
    | none =>
      refine (parse_known s hs h w hg hi).mono ?_
      rintro e w' ⟨v, a, c, o, rfl, hb, hgm, hp⟩
      have hpa := hp.ans hgm
      have hsz : ∀ nd, rn (s.size : Int) [] [] true ts = .ok nd → nd.sz ≤ 100000 := fun nd hr => by
        have := (read_wf h (by rw [← bsize]; exact hs) (whole_ok hgm hr)).2.2
        omega
      have hk := fun u => rparse_known s hs h (names_full h) hsz u
      cases hr : rn (s.size : Int) [] [] true ts with
      | err p =>
        obtain ⟨rfl, rfl, rfl⟩ := hpa.fail hr
        refine ⟨nv0, nd0, _, 31, rfl, hb, ndin0 _ _, by decide, fun q => by omega, fun u => (hk u).mono ?_⟩
        rintro e w' ⟨v2, a2, c2, rfl, hb2, hz⟩
        rcases hz with ⟨p2, h1, rfl, rfl, rfl⟩ | ⟨n2, h1, _⟩ | ⟨n2, h1, _⟩
        · rw [hr] at h1
          cases h1
          exact ⟨nv0, rfl, hb2, ndin0 _ _⟩
        · rw [hr] at h1
          cases h1
        · rw [hr] at h1
          cases h1
      | ok nd =>
        by_cases hd : nd.dep ≤ 24
        · obtain ⟨rfl, rfl, hn, hgk⟩ := hpa.okay hr hd
          obtain ⟨k1, k2, k3⟩ := read_wf h (by rw [← bsize]; exact hs) hgk
          refine ⟨v, nd, 0, 0, rfl, hb, hn, k3, fun _ => ⟨k1, k2⟩, fun u => (hk u).mono ?_⟩
          rintro e w' ⟨v2, a2, c2, rfl, hb2, hz⟩
          rcases hz with ⟨p2, h1, _⟩ | ⟨n2, h1, h2, _⟩ | ⟨n2, h1, h2, rfl, rfl, h3⟩
          · rw [hr] at h1
            cases h1
          · rw [hr] at h1
            cases h1
            omega
          · rw [hr] at h1
            cases h1
            exact ⟨v2, rfl, hb2, h3⟩
        · obtain ⟨rfl, rfl, rfl⟩ := hpa.deep hr (by omega)
          refine ⟨nv0, nd0, 0, 32, rfl, hb, ndin0 _ _, by decide, fun q => by omega, fun u => (hk u).mono ?_⟩
          rintro e w' ⟨v2, a2, c2, rfl, hb2, hz⟩
          rcases hz with ⟨p2, h1, _⟩ | ⟨n2, h1, h2, rfl, rfl, rfl⟩ | ⟨n2, h1, h2, _⟩
          · rw [hr] at h1
            cases h1
          · exact ⟨nv0, rfl, hb2, ndin0 _ _⟩
          · rw [hr] at h1
            cases h1
            omega
    | some p =>
      refine (parse_bad s hs h w hg).mono ?_
      rintro e w' ⟨rfl, hb⟩
      refine ⟨nv0, nd0, p, 30, rfl, hb, ndin0 _ _, by decide, fun q => by omega, fun u => (rparse_bad s hs h u).mono ?_⟩
      rintro e w' ⟨rfl, hb2⟩
      exact ⟨nv0, rfl, hb2, ndin0 _ _⟩
  · refine (parse_long s hm (by omega) w).mono ?_
    rintro e w' ⟨rfl, hb⟩
    refine ⟨nv0, nd0, 0, 4, rfl, hb, ndin0 _ _, by decide, fun q => by omega, fun u => (rparse_long s hm (by omega) u).mono ?_⟩
    rintro e w' ⟨rfl, hb2⟩
    exact ⟨nv0, rfl, hb2, ndin0 _ _⟩

end Go.Proofs.YtijchmcajhdcoaaGreatDoor

/-!
  ParseReads by a contract. No condition but that the program's variables hold what its text lays there.
-/
namespace Go.Proofs.YtijchmcajhdcoaaGreatDoor
open Go.RowKit

set_option maxHeartbeats 6400000 in
set_option maxRecDepth 100000 in
theorem reads_walk (s : ByteArray) (hm : s.size ≤ 9223372036854775807) (w : World) (hg : Gl w) (hi : Inf w) :
    Calls Tryz.prog 3 #[.string s] w fun e w' => e = .returned (.bool true) ∧ Below w.heap.size w w' := by
  have ha := awake_any w hg hi
  have H : Hid (Gl w ∧ Inf w) := ⟨hg, hi⟩
  clear hg hi
  go_enter Tryz.func3, Tryz.ntmps3
  go_wp2_with fail
  refine ha.mono ?_
  rintro e w1 ⟨rfl, b1⟩
  have B1 : Hid (Below w.heap.size w w1) := b1
  clear ha b1
  go_wp2_with fail
  refine (both_any s hm w1 (H.out.1.below B1.out) (H.out.2.below B1.out)).mono ?_
  rintro e w2 ⟨⟨o, y, i, j, p, l, q, r⟩, nd, a, c, rfl, b2, hn, hsz, hwf, hrp⟩
  obtain ⟨W3, m3, hW3, hm3, hx3, bW3, c3, hB3, hlt3⟩ := lay6 (B1.out.trans (b2.mono B1.out.size)) (by have := B1.out.size; have := b2.size; omega) 28 (.int .i64 o) (.string ⟨y.toArray⟩) (.int .i64 i) (.int .u64 j) (.slice p l q) (.int .i64 r)
  have HN : Hid (NdIn (Bt w1.heap.size w2.heap.size) W3 ⟨o, y, i, j, p, l, q, r⟩ nd ∧ nd.sz ≤ 2000 ∧ (c = 0 → WfT nd ∧ nd.wt ≤ 42000) ∧ Below w.heap.size w W3 ∧ Box6 W3 m3 28 (.int .i64 o) (.string ⟨y.toArray⟩) (.int .i64 i) (.int .u64 j) (.slice p l q) (.int .i64 r)) := ⟨hn.below c3, hsz, hwf, bW3, hx3⟩
  have hrp3 := hrp W3
  clear b2 hn hsz hwf hrp bW3 c3 hx3
  go_upto_region 4 with fail
  clear hW3 hm3
  go_wp2_with fail
  refine hrp3.mono ?_
  rintro e w4 ⟨⟨o', y', i', j', p', l', q', r'⟩, rfl, b4, hn4⟩
  obtain ⟨W6, m6, hW6, hm6, hx6, bW6, c6, hB6, hlt6⟩ := lay6 b4 b4.size 34 (.int .i64 o') (.string ⟨y'.toArray⟩) (.int .i64 i') (.int .u64 j') (.slice p' l' q') (.int .i64 r')
  have HQ : Hid (NdIn (Bt W3.heap.size w4.heap.size) W6 ⟨o', y', i', j', p', l', q', r'⟩ nd ∧ Below W3.heap.size W3 W6 ∧ Box6 W6 m6 34 (.int .i64 o') (.string ⟨y'.toArray⟩) (.int .i64 i') (.int .u64 j') (.slice p' l' q') (.int .i64 r')) := ⟨hn4.below c6, bW6, hx6⟩
  clear hrp3 b4 hn4 bW6 c6 hx6
  have hnn := fun u (b : Below W6.heap.size W6 u) => lnode_any nd (by have := HN.out.2.1; omega) _ u _ ((HN.out.1.below HQ.out.2.1).below b)
  have hsm := rsame_any nd (by have := HN.out.2.1; omega) nd true ⟨rfl, fun _ => rfl⟩
  have KS : Hid (∀ u, Below W6.heap.size W6 u → u.cell? ⟨m3, 0, none⟩ = some (.int .i64 o) ∧ u.cell? ⟨m3, 1, none⟩ = some (.string ⟨y.toArray⟩) ∧ u.cell? ⟨m3, 2, none⟩ = some (.int .i64 i) ∧ u.cell? ⟨m3, 3, none⟩ = some (.int .u64 j) ∧ u.cell? ⟨m3, 4, none⟩ = some (.slice p l q) ∧ u.cell? ⟨m3, 5, none⟩ = some (.int .i64 r) ∧
      u.cell? ⟨m6, 0, none⟩ = some (.int .i64 o') ∧ u.cell? ⟨m6, 1, none⟩ = some (.string ⟨y'.toArray⟩) ∧ u.cell? ⟨m6, 2, none⟩ = some (.int .i64 i') ∧ u.cell? ⟨m6, 3, none⟩ = some (.int .u64 j') ∧ u.cell? ⟨m6, 4, none⟩ = some (.slice p' l' q') ∧ u.cell? ⟨m6, 5, none⟩ = some (.int .i64 r')) := fun u b => by
    obtain ⟨a0, a1, a2, a3, a4, a5⟩ := ((HN.out.2.2.2.2.below HQ.out.2.1).below b).cells
    obtain ⟨b0, b1, b2, b3, b4, b5⟩ := (HQ.out.2.2.below b).cells
    exact ⟨a0, a1, a2, a3, a4, a5, b0, b1, b2, b3, b4, b5⟩
  have H1 : Hid (∀ u, Below W6.heap.size W6 u → Calls Tryz.prog 8 _ _ _) := hnn
  have H3 : Hid (∀ (Q R : Nat → Prop) (w : World) (v u : NV), NdIn Q w v nd → NdIn R w u nd → Calls Tryz.prog 7 #[v.val, u.val, .bool true] w fun e w' => e = .returned (.bool true) ∧ Below w.heap.size w w') := hsm
  clear hnn hsm
  go_upto_region 5 with fail
  clear hW6 hm6
  obtain ⟨x0, x1, x2, x3, x4, x5, y0, y1, y2, y3, y4, y5⟩ := KS.out W6 (Below.refl _ _)
  have HB6 : Hid (Below w.heap.size w W6) := HN.out.2.2.2.1.trans (HQ.out.2.1.mono HN.out.2.2.2.1.size)
  go_region_held3 (fun u => u.cell? ⟨m3, 0, none⟩ = some (.int .i64 o) ∧ u.cell? ⟨m3, 1, none⟩ = some (.string ⟨y.toArray⟩) ∧ u.cell? ⟨m3, 2, none⟩ = some (.int .i64 i) ∧ u.cell? ⟨m3, 3, none⟩ = some (.int .u64 j) ∧ u.cell? ⟨m3, 4, none⟩ = some (.slice p l q) ∧ u.cell? ⟨m3, 5, none⟩ = some (.int .i64 r) ∧
      u.cell? ⟨m6, 0, none⟩ = some (.int .i64 o') ∧ u.cell? ⟨m6, 1, none⟩ = some (.string ⟨y'.toArray⟩) ∧ u.cell? ⟨m6, 2, none⟩ = some (.int .i64 i') ∧ u.cell? ⟨m6, 3, none⟩ = some (.int .u64 j') ∧ u.cell? ⟨m6, 4, none⟩ = some (.slice p' l' q') ∧ u.cell? ⟨m6, 5, none⟩ = some (.int .i64 r'))
    (first | with_reducible exact kS8 | with_reducible exact kS7 | go_keep)
    (first
      | (go_at_call 7; (with_reducible refine (H3.out _ _ _ _ ⟨o', y', i', j', p', l', q', r'⟩ HV7.out ((HQ.out.1).below (by exact B7.out))).mono ?_); rintro e w8 ⟨rfl, b8⟩; have B8 : Hid (Below W6.heap.size W6 w8) := B7.out.trans (b8.mono B7.out.size); have kS8 := KS.out _ B8.out; clear b8)
      | (go_at_call 8; (with_reducible refine (H1.out _ (by exact (Below.refl _ W6).drew)).mono ?_); rintro e w7 ⟨_, rfl, v7, rfl, hn7, b7⟩; have B7 : Hid (Below W6.heap.size W6 w7) := undrewB b7; have HV7 : Hid (NdIn _ w7 v7 nd) := hn7; have kS7 := KS.out _ B7.out; clear hn7 b7)
      | fail)
  clear x0 x1 x2 x3 x4 x5 y0 y1 y2 y3 y4 y5 kS7 kS8
  by_cases hc : c = 0
  · subst hc
    obtain ⟨hwf, hwt⟩ := HN.out.2.2.1 rfl
    obtain ⟨T, hT⟩ : ∃ T : ByteArray, (⟨(txt nd.ps).toArray⟩ : ByteArray) = T := ⟨_, rfl⟩
    have hs1 := fun u (b : Below W6.heap.size W6 u) => show_any nd hwf (by omega) u ⟨o, y, i, j, p, l, q, r⟩ ((HN.out.1.below HQ.out.2.1).below b) (H.out.1.below (HB6.out.trans (b.mono HB6.out.size))) (H.out.2.below (HB6.out.trans (b.mono HB6.out.size)))
    have hs2 := fun u (b : Below W6.heap.size W6 u) => rshow_any nd hwf (by omega) _ u ⟨o', y', i', j', p', l', q', r'⟩ (HQ.out.1.below b)
    rw [hT] at hs1 hs2
    have H4 : Hid (∀ u, Below W6.heap.size W6 u → Calls Tryz.prog 9 #[.agg #[.int .i64 o, .string ⟨y.toArray⟩, .int .i64 i, .int .u64 j, .slice p l q, .int .i64 r]] u fun e w' => e = .returned (.string T) ∧ Below u.heap.size u w') := hs1
    have H5 : Hid (∀ u, Below W6.heap.size W6 u → Calls Tryz.prog 10 #[.agg #[.int .i64 o', .string ⟨y'.toArray⟩, .int .i64 i', .int .u64 j', .slice p' l' q', .int .i64 r']] u fun e w' => e = .returned (.string T) ∧ Below u.heap.size u w') := hs2
    clear hs1 hs2 hT hwf hwt
    obtain ⟨x0, x1, x2, x3, x4, x5, y0, y1, y2, y3, y4, y5⟩ := KS.out w8 B8.out
    go_wp2_with fail
    go_region_held3 (fun u => u.cell? ⟨m3, 0, none⟩ = some (.int .i64 o) ∧ u.cell? ⟨m3, 1, none⟩ = some (.string ⟨y.toArray⟩) ∧ u.cell? ⟨m3, 2, none⟩ = some (.int .i64 i) ∧ u.cell? ⟨m3, 3, none⟩ = some (.int .u64 j) ∧ u.cell? ⟨m3, 4, none⟩ = some (.slice p l q) ∧ u.cell? ⟨m3, 5, none⟩ = some (.int .i64 r) ∧
        u.cell? ⟨m6, 0, none⟩ = some (.int .i64 o') ∧ u.cell? ⟨m6, 1, none⟩ = some (.string ⟨y'.toArray⟩) ∧ u.cell? ⟨m6, 2, none⟩ = some (.int .i64 i') ∧ u.cell? ⟨m6, 3, none⟩ = some (.int .u64 j') ∧ u.cell? ⟨m6, 4, none⟩ = some (.slice p' l' q') ∧ u.cell? ⟨m6, 5, none⟩ = some (.int .i64 r'))
      (first | with_reducible exact kS10 | with_reducible exact kS9 | go_keep)
      (first
        | (go_at_call 10; (with_reducible refine (H5.out _ B9.out).mono ?_); rintro e w10 ⟨rfl, b10⟩; have B10 : Hid (Below W6.heap.size W6 w10) := B9.out.trans (b10.mono B9.out.size); have kS10 := KS.out _ B10.out; clear b10)
        | (go_at_call 9; (with_reducible refine (H4.out _ (by exact B8.out.drew)).mono ?_); rintro e w9 ⟨rfl, b9⟩; have B9 : Hid (Below W6.heap.size W6 w9) := B8.out.trans ((undrewB b9).mono B8.out.size); have kS9 := KS.out _ B9.out; clear b9)
        | fail)
    go_wp2_with fail
    go_ret
    exact ⟨by simp, HB6.out.trans (B10.out.mono HB6.out.size)⟩
  · have hc' : (c == 0) = false := by rw [beq_eq_false_iff_ne]; exact hc
    have hc'' : (c != 0) = true := by simp [bne, hc']
    go_wp2_with fail
    go_quiet (fail)
    go_wp2
    go_ret
    exact ⟨rfl, HB6.out.trans ((B8.out.trans ((belowD w8 _).mono B8.out.size)).mono HB6.out.size)⟩

end Go.Proofs.YtijchmcajhdcoaaGreatDoor
