import Derived.Test.YtgeigegaoadmfaaDoorJAnz
/-!
  parse.copied by a contract: the same tree anew. No condition but that a tree is not too great.
-/
namespace Go.Proofs.YtgeigegaoadmfaaDoor
open Go.RowKit

theorem ndL_wt : ∀ (f : Fo) (k : Nd), k ∈ ndL f → k.wt ≤ fw f
  | .nil, k, h => by cases h
  | .cons op text num id kids pos next, k, h => by
    rcases List.mem_cons.1 h with rfl | h
    · simp only [Nd.wt, fw]
      omega
    · have := ndL_wt next k h
      simp only [fw]
      omega

/-- What stands at the head of a round of copied. -/
structure CpI (ks : List Nd) (m1 m2 : Nat) (vo : Int) (vt : Bs) (vn vi : Int) (va : Option Addr) (vl vc : Nat) (vp : Int) (w wr : World) (i : Nat) (la : Option Addr) (lc : Nat) (us : List NV) : Prop where
  arg : Box6 wr m1 28 (.int .i64 vo) (.string ⟨vt.toArray⟩) (.int .i64 vn) (.int .u64 vi) (.slice va vl vc) (.int .i64 vp)
  res : Box6 wr m2 28 (.int .i64 0) (.string ⟨#[]⟩) (.int .i64 0) (.int .u64 0) (.slice none 0 0) (.int .i64 0)
  own : OwnG encN 28 wr (m2 + 1) (.slice la i lc) us
  len : us.length = i
  nds : NdsIn (fun g => m2 < g ∧ g < wr.heap.size ∧ (Value.slice la i lc).ownBlock ≠ some g) wr us (ks.take i)
  below : Below w.heap.size w wr

section
variable {ks : List Nd} {m1 m2 i lc : Nat} {vo vn vi vp : Int} {vt : Bs} {va la : Option Addr} {vl vc : Nat} {w wr : World} {us : List NV}
/-- Behind one kid. -/
theorem cp_mid {x : Nd} {x3 : NV} {W5 w3 w4 : World} {a4 : Option Addr} {c4 : Nat} (h : CpI ks m1 m2 vo vt vn vi va vl vc vp w wr i la lc us) (hn : NdIn (Bt W5.heap.size w3.heap.size) w3 x3 x) (b5 : Below wr.heap.size wr W5) (hb : Below wr.heap.size wr w3)
    (ho : OwnG encN 28 w4 (m2 + 1) (.slice a4 (i + 1) c4) (us ++ [x3])) (hb4 : Below (m2 + 1) w3 w4) (hm : Moved w3 (.slice la i lc) (.slice a4 (i + 1) c4)) (ht : Turned (fun k => (Value.slice la i lc).ownBlock = some k) w3 w4)
    (hk : ks.take (i + 1) = ks.take i ++ [x]) (hlt : m1 < m2 ∧ w.heap.size ≤ m1) : CpI ks m1 m2 vo vt vn vi va vl vc vp w w4 (i + 1) a4 c4 (us ++ [x3]) := by
  have z0 := hb.size
  have z1 := h.res.lt
  have z2 := ht.size
  have z5 := b5.size
  have hlo : ∀ g, (Value.slice la i lc).ownBlock = some g → m2 < g ∧ g < wr.heap.size := fun g hg => by have := World.ownsRow.lt h.own g hg; omega
  have tb := turnB hb4
  have hw : Below w.heap.size w w4 := h.below.trans ((hb.mono h.below.size).trans (hb4.mono (by omega)))
  refine ⟨(h.arg.below hb).turned tb (by omega), (h.res.below hb).turned tb (by omega), ho, by rw [List.length_append, h.len]; rfl, ?_, hw⟩
  have hq4 : ∀ g, g < wr.heap.size → (Value.slice la i lc).ownBlock ≠ some g → (Value.slice a4 (i + 1) c4).ownBlock ≠ some g := by
    intro g hg hne e
    rcases hm with q | q
    · exact hne (q ▸ e)
    · have := q g e
      omega
  have hq5 : ∀ g, wr.heap.size ≤ g → g < w3.heap.size → (Value.slice a4 (i + 1) c4).ownBlock ≠ some g := by
    intro g hg hg3 e
    rcases hm with q | q
    · have := hlo g (q ▸ e)
      omega
    · have := q g e
      omega
  rw [hk]
  refine NdsIn.snoc ?_ ?_
  · exact ((h.nds.stays hb).turned ht (fun g hg e => hg.2.2 e)).mono (fun g hg => ⟨hg.1, by have := hg.2.1; omega, hq4 g hg.2.1 hg.2.2⟩)
  · exact (hn.turned ht (fun g hg e => by have := hlo g e; have := hg.1; omega)).mono (fun g hg => ⟨by have := hg.1; omega, by have := hg.2; omega, hq5 g (by have := hg.1; omega) hg.2⟩)
/-- Behind the last kid. -/
theorem cp_last {nk : Fo} {w7 : World} (h : CpI (ndL nk) m1 m2 vo vt vn vi va vl vc vp w wr i la lc us) (hlt : m1 < m2 ∧ w.heap.size ≤ m1) (hl : i = (ndL nk).length) (hb : Below wr.heap.size wr w7) (y1 y4 x0 x1 x2 x3 x4 x5 : Value) :
    Nw w ⟨vo, vt, vn, vi, nk, vp⟩ (.agg #[.int .i64 vo, .string ⟨vt.toArray⟩, .int .i64 vn, .int .u64 vi, .slice la i lc, .int .i64 vp]) (((((((((w7.setCell ⟨m1, 1, none⟩ y1).setCell ⟨m1, 4, none⟩ y4).setCell ⟨m2, 0, none⟩ x0).setCell ⟨m2, 1, none⟩ x1).setCell ⟨m2, 2, none⟩ x2).setCell ⟨m2, 3, none⟩ x3).setCell ⟨m2, 4, none⟩ x4).setCell ⟨m2, 5, none⟩ x5)) := by
  have ht2 : Turned (fun g => g = m1) w7 ((w7.setCell ⟨m1, 1, none⟩ y1).setCell ⟨m1, 4, none⟩ y4) := ((Turned.refl (fun g => g = m1) w7).setCell (p := ⟨m1, 1, none⟩) (.inl rfl) y1).setCell (p := ⟨m1, 4, none⟩) (.inl rfl) y4
  obtain ⟨U, hU⟩ : ∃ U, ((w7.setCell ⟨m1, 1, none⟩ y1).setCell ⟨m1, 4, none⟩ y4) = U := ⟨_, rfl⟩
  have hU7 : U.heap.size = w7.heap.size := by rw [← hU]; simp [World.size_setCell]
  rw [hU] at ht2 ⊢
  have hsz := six_size U m2 x0 x1 x2 x3 x4 x5
  have z0 := hb.size
  have htk : (ndL nk).take i = ndL nk := List.take_of_length_le (by omega)
  obtain ⟨ao, cap, e, hc, _, hr, _⟩ := OwnG.form h.own
  have hul := h.len
  obtain ⟨rfl, rfl, rfl⟩ : la = ao ∧ i = us.length ∧ lc = cap := by simpa using e
  have hB7 : Below w.heap.size w w7 := h.below.trans (hb.mono h.below.size)
  refine ⟨⟨vo, vt, vn, vi, la, us.length, lc, vp⟩, rfl, ?_, ?_⟩
  · have hn : NdIn (fun g => m2 < g ∧ g < wr.heap.size) wr ⟨vo, vt, vn, vi, la, us.length, lc, vp⟩ ⟨vo, vt, vn, vi, foOf (ndL nk), vp⟩ := by
      refine NdIn.made vo vt vn vi vp ?_ hr ?_ hc
      · rw [← htk]
        exact h.nds.mono (fun g hg => ⟨hg.1, hg.2.1⟩)
      · intro _ ad ha
        subst ha
        have := World.ownsRow.lt h.own ad.block (own_at_head h.own rfl)
        exact ⟨this.1, this.2⟩
    rw [fo_ndL] at hn
    have hn7 := (hn.below hb).turned ht2 (fun g hg e => by have := hg.1; omega)
    exact (hn7.six (g := m2) (fun q => by have := q.1; omega) x0 x1 x2 x3 x4 x5).mono (fun g hg => ⟨by have := hg.1; omega, by rw [hsz, hU7]; have := hg.2; omega⟩)
  · have b1 : Below w.heap.size w U := hB7.trans (ht2.below hB7.size (fun g hg e => by omega))
    exact b1.trans ((sixT U m2 x0 x1 x2 x3 x4 x5).below b1.size (fun g hg e => by omega))
end

set_option maxHeartbeats 3200000 in
set_option maxRecDepth 100000 in
theorem copied_any (nd : Nd) : nd.wt ≤ 100000 → ∀ (Q : Nat → Prop) (w : World) (v : NV), NdIn Q w v nd → Calls Tryd.prog 19 #[v.val] w fun e w' => ∃ x, e = .returned x ∧ Nw w nd x w' := by
  induction nd using Nd.ind with
  | h nd ih =>
    intro hwt Q w v hv
    obtain ⟨us, hrd, _, hns, hul⟩ := hv.rows
    have hlen := hns.len
    rw [hul] at hlen
    have hkc := hv.kc
    have hl1 : v.kl ≤ 100000 := by
      have h1 := nd.wt_sz
      have h2 := len_sz nd.kids
      have h3 := hv.kl
      simp only [Nd.sz] at h1
      omega
    have hih : ∀ (i : Nat) (x : Nd), (ndL nd.kids)[i]? = some x → ∀ (u : World) (kv : NV), NdIn Q u kv x → Calls Tryd.prog 19 #[kv.val] u fun e w' => ∃ x', e = .returned x' ∧ Nw u x x' w' := by
      intro i x hx u kv hk
      have hm := List.mem_of_getElem? hx
      exact ih x hm (by have := ndL_wt _ x hm; simp only [Nd.wt] at hwt this ⊢; omega) Q u kv hk
    obtain ⟨no, nt, nn, ni, nk, np⟩ := nd
    obtain ⟨vo, vt, vn, vi, va, vl, vc, vp⟩ := v
    obtain rfl : vo = no := hv.op
    obtain rfl : vt = nt := hv.text
    obtain rfl : vn = nn := hv.num
    obtain rfl : vi = ni := hv.id
    obtain rfl : vp = np := hv.pos
    have htx : vt.length ≤ 100000 := by simp only [Nd.wt] at hwt; omega
    have HC : Hid (∀ u, Calls Tryd.prog 27 #[.string ⟨vt.toArray⟩] u fun e w' => e = .returned (.string ⟨vt.toArray⟩) ∧ Below u.heap.size u w') := fun u => clone_any _ (by rw [bsize]; show vt.length ≤ _; omega) u
    have H : Hid (RdG encN w va us ∧ NdsIn Q w us (ndL nk) ∧ us.length = vl ∧ vl = (ndL nk).length) := ⟨hrd, hns, hul, hlen⟩
    have HI : Hid (∀ (i : Nat) (x : Nd), (ndL nk)[i]? = some x → ∀ (u : World) (kv : NV), NdIn Q u kv x → Calls Tryd.prog 19 #[kv.val] u fun e w' => ∃ x', e = .returned x' ∧ Nw u x x' w') := hih
    clear hrd hns hul hih ih hv hlen hwt htx
    simp only at hl1 hkc ⊢
    obtain ⟨W1, m1, hW1, hm1, hx1, bW1, _, hB1, hlt1⟩ := lay6 (Below.refl _ w) (Nat.le_refl _) 28 (.int .i64 vo) (.string ⟨vt.toArray⟩) (.int .i64 vn) (.int .u64 vi) (.slice va vl vc) (.int .i64 vp)
    obtain ⟨W2, m2, hW2, hm2, hx2, bW2, c2, hB2, hlt2⟩ := lay6 bW1 bW1.size 28 (.int .i64 0) (.string ⟨#[]⟩) (.int .i64 0) (.int .u64 0) (.slice none 0 0) (.int .i64 0)
    obtain ⟨s0, s1, s2, s3, s4, s5⟩ := (hx1.below c2).cells
    have HX : Hid (CpI (ndL nk) m1 m2 vo vt vn vi va vl vc vp w W2 0 none 0 []) := ⟨hx1.below c2, hx2, OwnG.nil _ _ _ _, rfl, .nil, bW2⟩
    have HM : Hid (m1 < m2 ∧ w.heap.size ≤ m1) := ⟨by omega, hB1⟩
    have hm12 : ¬ m1 = m2 := by omega
    have hm21 : ¬ m2 = m1 := by omega
    clear hx1 hx2 bW1 bW2 c2
    go_enter Tryd.func19, Tryd.ntmps19
    go_upto_region 1 with fail
    clear hW1 hm1 hW2 hm2
    go_wp2_with fail
    clear s0 s1 s2 s3 s4 s5
    go_loopg [3, 9] vl (fun g sv iv wr => ∃ (i : Nat) (la : Option Addr) (lc : Nat) (us : List NV), sv = .slice la i lc ∧ iv = .int .i64 i ∧ i + g = vl ∧ Hid (CpI (ndL nk) m1 m2 vo vt vn vi va vl vc vp w wr i la lc us))
    case atStart => exact ⟨0, none, 0, [], rfl, rfl, by omega, HX.out⟩
    case round =>
      obtain ⟨i, la, lc, zs, rfl, rfl, hi, HR⟩ := hrel
      clear HX
      by_cases hin : i < vl
      · have hii : (i : Int) < (vl : Int) := by omega
        have hi0 : (0 : Int) ≤ (i : Int) := by omega
        obtain ⟨x, hx⟩ : ∃ x, (ndL nk)[i]? = some x := ⟨_, List.getElem?_eq_getElem (by have := H.out.2.2.2; omega)⟩
        obtain ⟨kv, hkv, hkn⟩ := H.out.2.1.get hx
        have hrd := H.out.1.below HR.out.below
        obtain ⟨kb, koff, hva, hklt⟩ := hrd.some_of hkv
        subst hva
        obtain ⟨k0, k1, k2, k3, k4, k5⟩ := hrd.node hkv
        have HT : Hid ((ndL nk).take (i + 1) = (ndL nk).take i ++ [x]) := by
          show _ = _
          rw [List.take_add_one, hx]
          rfl
        obtain ⟨ko, kt, kn, ki, ka, kl, kc, kp⟩ := kv
        obtain ⟨W5, m5, hW5, hm5, hx5, bW5, c5, hB5, hlt5⟩ := lay6 HR.out.below HR.out.below.size 28 (.int .i64 ko) (.string ⟨kt.toArray⟩) (.int .i64 kn) (.int .u64 ki) (.slice ka kl kc) (.int .i64 kp)
        obtain ⟨d0, d1, d2, d3, d4, d5⟩ := hx5.cells
        have hc := HI.out i x hx W5 _ (hkn.below bW5)
        have HB5 : Hid (Below wr.heap.size wr W5) := c5
        clear hrd hx hkv hkn hx5 bW5 c5
        simp only at k0 k1 k2 k3 k4 k5
        go_upto_region 5 with fail
        clear hW5 hm5 k0 k1 k2 k3 k4 k5
        go_wp2_with fail
        refine hc.mono ?_
        rintro e w6 ⟨_, rfl, ⟨o3, y3, n3, j3, a3, l3, c3, p3⟩, rfl, hn3, hb3⟩
        have HN : Hid (NdIn (Bt W5.heap.size w6.heap.size) w6 ⟨o3, y3, n3, j3, a3, l3, c3, p3⟩ x ∧ Below wr.heap.size wr w6) := ⟨hn3, HB5.out.trans (hb3.mono HB5.out.size)⟩
        have HCC : Hid (#[Value.int .i64 o3, .string ⟨y3.toArray⟩, .int .i64 n3, .int .u64 j3, .slice a3 l3 c3, .int .i64 p3] = (encN.cells ⟨o3, y3, n3, j3, a3, l3, c3, p3⟩).toArray) := rfl
        have ho6 := HR.out.own.below HN.out.2
        have hz6 : m2 + 1 ≤ w6.heap.size := by have := HR.out.res.lt; have := HN.out.2.size; omega
        have hzl := HR.out.len
        clear hn3 hb3 hc
        go_wp2_with (at_builtin; refine appG_one encN 28 26 72 (.agg #[.int .i64 0, .string ⟨#[]⟩, .int .i64 0, .int .u64 0, .slice none 0 0, .int .i64 0]) rfl infoN Tryd.underlying26 rfl (.tmp 13) (.tmp 16) rfl (m2 + 1) _ zs ⟨o3, y3, n3, j3, a3, l3, c3, p3⟩ _ rfl ho6 rfl (by omega) (by simp only [maxLen]; omega) hz6 _ HCC.out ?_; intro v4 w4 ho4 hb4 hm4 ht4)
        obtain ⟨a4, c4, e4, _, _, _, _⟩ := OwnG.form ho4
        rw [show (zs ++ [(⟨o3, y3, n3, j3, a3, l3, c3, p3⟩ : NV)]).length = i + 1 from by rw [List.length_append, HR.out.len]; rfl] at e4
        subst e4
        have HF : Hid (CpI (ndL nk) m1 m2 vo vt vn vi (some ⟨kb, koff, none⟩) vl vc vp w w4 (i + 1) a4 c4 (zs ++ [(⟨o3, y3, n3, j3, a3, l3, c3, p3⟩ : NV)])) := cp_mid HR.out HN.out.1 HB5.out HN.out.2 ho4 hb4 hm4 ht4 HT.out HM.out
        clear ho4 hb4 hm4 ht4 ho6 hz6
        go_wp2_with fail
        go_roundg (gk - 1)
        case measure => omega
        case rel => exact ⟨i + 1, a4, c4, _, rfl, by go_num, by omega, HF.out⟩
      · obtain rfl : i = vl := by omega
        obtain ⟨s0, s1, s2, s3, s4, s5⟩ := HR.out.arg.cells
        clear hi
        go_wp2_with fail
        refine (HC.out wr).mono ?_
        rintro e w7 ⟨rfl, b7⟩
        have HB7 : Hid (Below wr.heap.size wr w7) := b7
        clear b7 s0 s1 s2 s3 s4 s5
        obtain ⟨s0, s1, s2, s3, s4, s5⟩ := (HR.out.arg.below HB7.out).cells
        obtain ⟨t0, t1, t2, t3, t4, t5⟩ := (HR.out.arg.below HB7.out).thaw
        obtain ⟨e0, e1, e2, e3, e4, e5⟩ := (HR.out.res.below HB7.out).cells
        obtain ⟨g0, g1, g2, g3, g4, g5⟩ := (HR.out.res.below HB7.out).thaw
        go_wp2
        refine bodyPost_ret (v := .agg #[.int .i64 vo, .string ⟨vt.toArray⟩, .int .i64 vn, .int .u64 vi, .slice la i lc, .int .i64 vp]) ?_ rfl ?_
        · simp [results, Tryd.f19]
          go_simp
        · exact ⟨_, rfl, cp_last HR.out HM.out H.out.2.2.2 HB7.out _ _ _ _ _ _ _ _⟩

end Go.Proofs.YtgeigegaoadmfaaDoor

/-!
  parse.Call by a contract. No condition but that a tree is not too great.
-/
namespace Go.Proofs.YtgeigegaoadmfaaDoor
open Go.RowKit

set_option maxHeartbeats 1600000 in
set_option maxRecDepth 100000 in
theorem pcall_any (nd : Nd) (hwt : nd.wt ≤ 100000) {Q : Nat → Prop} (w : World) (t : Bs) (ka : Option Addr) (kl kc : Nat) (h : NdIn Q w ⟨5, t, 0, 0, ka, kl, kc, 0⟩ nd) :
    Calls Tryd.prog 12 #[.string ⟨t.toArray⟩, .slice ka kl kc] w fun e w' => ∃ x, e = .returned x ∧ Nw w nd x w' := by
  obtain ⟨W4, m4, hW4, hm4, hx4, bW4, _, hB4, hlt4⟩ := lay6 (Below.refl _ w) (Nat.le_refl _) 28 (.int .i64 0) (.string ⟨#[]⟩) (.int .i64 0) (.int .u64 0) (.slice none 0 0) (.int .i64 0)
  have hc := copied_any nd hwt Q W4 _ (h.below bW4)
  have HX : Hid (Box6 W4 m4 28 (.int .i64 0) (.string ⟨#[]⟩) (.int .i64 0) (.int .u64 0) (.slice none 0 0) (.int .i64 0) ∧ Below w.heap.size w W4) := ⟨hx4, bW4⟩
  clear h hx4 bW4
  go_enter Tryd.func12, Tryd.ntmps12
  go_upto_region 1 with fail
  clear hW4 hm4
  go_wp2_with (go_at_call 19; refine hc.mono ?_; rintro e w5 ⟨_, rfl, ⟨o, y, i, j, a, l, q, p⟩, rfl, hn5, b5⟩; have HN : Hid (NdIn (Bt W4.heap.size w5.heap.size) w5 ⟨o, y, i, j, a, l, q, p⟩ nd ∧ Below W4.heap.size W4 w5) := ⟨hn5, b5⟩; obtain ⟨s0, s1, s2, s3, s4, s5⟩ := (HX.out.1.below b5).cells; obtain ⟨g0, g1, g2, g3, g4, g5⟩ := (HX.out.1.below b5).thaw; clear hc hn5 b5)
  refine bodyPost_ret (v := .agg #[.int .i64 o, .string ⟨y.toArray⟩, .int .i64 i, .int .u64 j, .slice a l q, .int .i64 p]) ?_ rfl ⟨_, rfl, ⟨o, y, i, j, a, l, q, p⟩, rfl, ?_, ?_⟩
  · simp [results, Tryd.f12]
    go_simp
  · refine (HN.out.1.six (g := m4) (fun q => by have := q.1; omega) _ _ _ _ _ _).mono (fun g hg => ⟨?_, ?_⟩)
    · have := hg.1; have := HX.out.2.size; omega
    · rw [six_size]; exact hg.2
  · have b1 := HX.out.2.trans (HN.out.2.mono HX.out.2.size)
    exact b1.trans ((sixT _ m4 _ _ _ _ _ _).below b1.size (fun g hg e => by omega))

end Go.Proofs.YtgeigegaoadmfaaDoor

/-!
  ParseBack by a contract. No condition but that the program's variables hold what its text lays there.
-/
namespace Go.Proofs.YtgeigegaoadmfaaDoor
open Go.RowKit

/-- Every text has its tokens, or a place where none begins. -/
theorem sc_some : ∀ (n : Nat) (l : Bs) (p : Nat), l.length ≤ n → ∃ ts e, Sc p l ts e
  | _, [], p, _ => ⟨[], none, .done p⟩
  | 0, c :: r, p, h => by simp at h
  | n + 1, c :: r, p, h => by
    have hr : r.length ≤ n := by simpa using h
    cases hb : isBl c with
    | true =>
      obtain ⟨ts, e, k⟩ := sc_some n r (p + 1) hr
      exact ⟨ts, e, .skip hb k⟩
    | false =>
      rcases Nat.eq_zero_or_pos (tok1 (c :: r)).2 with h0 | h0
      · exact ⟨[], some p, .bad hb h0⟩
      · obtain ⟨ts, e, k⟩ := sc_some n ((c :: r).drop (tok1 (c :: r)).2) (p + (tok1 (c :: r)).2) (by rw [List.length_drop, List.length_cons]; omega)
        exact ⟨_, e, .tok hb rfl h0 k⟩

theorem fps_e : ∀ f : Fo, fps f.e = fps f
  | .nil => rfl
  | .cons op text num id kids pos next => by simp only [Fo.e, fps, fps_e kids, fps_e next]
theorem ps_same {n m : Nd} (h : n.e = m.e) : n.ps = m.ps := by
  have a : ∀ k : Nd, k.e.ps = k.ps := fun k => by
    show pcs k.op k.text k.num k.id (fps k.kids.e) = pcs k.op k.text k.num k.id (fps k.kids)
    rw [fps_e]
  rw [← a n, ← a m, h]

/-- What Parse answers of whatever text. -/
def Pw (l : Bs) (Q : Nat → Prop) (v : NV) (a c : Int) (w' : World) : Prop :=
  (∃ ts nd, l.length ≤ 1024 ∧ Sc 0 l ts none ∧ Gm l.length (.row 1) ts (.ok nd []) ∧ nd.dep ≤ 24 ∧ a = 0 ∧ c = 0 ∧ NdIn Q w' v nd) ∨ (v = nv0 ∧ (c = 4 ∨ c = 30 ∨ c = 31 ∨ c = 32))
theorem parse_any (s : ByteArray) (hm : s.size ≤ 9223372036854775807) (w : World) (hg : Gl w) (hi : Inf w) :
    Calls Tryd.prog 7 #[.string s] w fun e w' => ∃ (v : NV) (a c : Int), e = .returned (.tuple #[v.val, .int .i64 a, .int .i64 c]) ∧ Below w.heap.size w w' ∧ Pw s.data.toList (Bt w.heap.size w'.heap.size) v a c w' := by
  by_cases hs : s.size ≤ 1024
  · obtain ⟨ts, e, h⟩ := sc_some s.data.toList.length s.data.toList 0 (Nat.le_refl _)
    cases e with
    | none =>
      refine (parse_ans s hs h w hg hi).mono ?_
      rintro e w' ⟨v, a, c, rfl, hb, hp⟩
      refine ⟨v, a, c, rfl, hb, ?_⟩
      rcases hp.tells with ⟨nd, h1, h2, h3, h4, h5⟩ | ⟨h1, h2⟩
      · exact .inl ⟨ts, nd, by rw [← bsize]; exact hs, h, by rw [← bsize]; exact h5, h4, h1, h2, h3⟩
      · exact .inr ⟨h1, .inr (.inr h2)⟩
    | some p =>
      refine (parse_bad s hs h w hg).mono ?_
      rintro e w' ⟨rfl, hb⟩
      exact ⟨nv0, p, 30, rfl, hb, .inr ⟨rfl, .inr (.inl rfl)⟩⟩
  · refine (parse_long s hm (by omega) w).mono ?_
    rintro e w' ⟨rfl, hb⟩
    exact ⟨nv0, 0, 4, rfl, hb, .inr ⟨rfl, .inl rfl⟩⟩

abbrev nd0 : Nd := ⟨0, [], 0, 0, .nil, 0⟩
theorem ndin0 (Q : Nat → Prop) (w : World) : NdIn Q w nv0 nd0 := ⟨rfl, rfl, rfl, rfl, rfl, rfl, Nat.le_refl _, [], RdG.nil _ _ _, fun q => by simp at q, rfl⟩

set_option maxHeartbeats 3200000 in
set_option maxRecDepth 100000 in
theorem back_walk (s : ByteArray) (hm : s.size ≤ 9223372036854775807) (w : World) (hg : Gl w) (hi : Inf w) :
    Calls Tryd.prog 3 #[.string s] w fun e w' => e = .returned (.bool true) ∧ Below w.heap.size w w' := by
  have ha := awake_any w hg hi
  have H : Hid (Gl w ∧ Inf w) := ⟨hg, hi⟩
  clear hg hi
  go_enter Tryd.func3, Tryd.ntmps3
  go_wp2_with fail
  refine ha.mono ?_
  rintro e w1 ⟨rfl, b1⟩
  have B1 : Hid (Below w.heap.size w w1) := b1
  clear ha b1
  go_wp2_with fail
  refine (parse_any s hm w1 (H.out.1.below B1.out) (H.out.2.below B1.out)).mono ?_
  rintro e w2 ⟨v, a, c, rfl, b2, hp⟩
  rcases hp with ⟨ts, nd, hl, hsc, hgm, hdp, rfl, rfl, hn⟩ | ⟨rfl, hc⟩
  · obtain ⟨o, y, i, j, p, l, q, r⟩ := v
    obtain ⟨W3, m3, hW3, hm3, hx3, bW3, c3, hB3, hlt3⟩ := lay6 (B1.out.trans (b2.mono B1.out.size)) (by have := B1.out.size; have := b2.size; omega) 28 (.int .i64 o) (.string ⟨y.toArray⟩) (.int .i64 i) (.int .u64 j) (.slice p l q) (.int .i64 r)
    have B3 : Hid (Below w.heap.size w W3) := bW3
    obtain ⟨hwf, hwt, hsz⟩ := read_wf hsc hl hgm
    have hN := hn.below c3
    have hsh := show_any nd hwf (by omega) W3 _ hN (H.out.1.below B3.out) (H.out.2.below B3.out)
    obtain ⟨T, hT⟩ : ∃ T : ByteArray, ⟨(txt nd.ps).toArray⟩ = T := ⟨_, rfl⟩
    rw [hT] at hsh
    have hTl : T.data.toList = txt nd.ps := by rw [← hT]
    obtain ⟨us, md, ksc, kme, kgm⟩ := read_back (E' := (T.size : Int)) hsc hgm
    have kdp : md.dep ≤ 24 := by rw [dep_same kme]; exact hdp
    have hTs : T.size ≤ 42000 := by
      have := shown_len nd hwf
      rw [bsize, hTl]
      omega
    have HX : Hid (Box6 W3 m3 28 (.int .i64 o) (.string ⟨y.toArray⟩) (.int .i64 i) (.int .u64 j) (.slice p l q) (.int .i64 r)) := hx3
    have HN : Hid (NdIn (Bt w1.heap.size w2.heap.size) W3 ⟨o, y, i, j, p, l, q, r⟩ nd ∧ nd.sz ≤ 2000 ∧ md.e = nd.e ∧ T.data.toList = txt nd.ps ∧ nd.ps = md.ps) := ⟨hN, hsz, kme, hTl, ps_same kme.symm⟩
    obtain ⟨x0, x1, x2, x3, x4, x5⟩ := hx3.cells
    rw [← hTl] at ksc
    clear b2 hx3 bW3 c3 hn hN hsc hgm hT hTl hwf hwt hsz kme
    go_upto_region 4 with fail
    clear hW3 hm3
    go_wp2_with (go_at_call 10; refine hsh.mono ?_; rintro e w4 ⟨rfl, b4⟩)
    have B4 : Hid (Below W3.heap.size W3 w4) := b4
    have B04 : Hid (Below w.heap.size w w4) := B3.out.trans (b4.mono B3.out.size)
    clear hsh b4 x0 x1 x2 x3 x4 x5
    by_cases hlong : 1024 < T.size
    · have hll : (1024 : Int) < (T.size : Int) := by omega
      refine (parse_long T (by omega) hlong w4).mono ?_
      rintro e w5 ⟨rfl, b5⟩
      have B5 : Hid (Below w.heap.size w w5) := B04.out.trans (b5.mono B04.out.size)
      clear b5
      go_upto_region 8 with fail
      obtain ⟨W6, m6, hW6, hm6, hx6, bW6, c6, hB6, hlt6⟩ := lay6 B5.out B5.out.size 28 (.int .i64 0) (.string ⟨#[]⟩) (.int .i64 0) (.int .u64 0) (.slice none 0 0) (.int .i64 0)
      rw [hW6, hm6]
      clear hW6 hm6
      go_wp2_with fail
      go_ret
      exact ⟨rfl, bW6⟩
    · have hll : ¬ (1024 : Int) < (T.size : Int) := by omega
      refine (parse_ans T (by omega) ksc w4 (H.out.1.below B04.out) (H.out.2.below B04.out)).mono ?_
      rintro e w5 ⟨⟨o', y', i', j', p', l', q', r'⟩, a', c', rfl, b5, hp5⟩
      obtain ⟨rfl, rfl, hn5, kgm2⟩ := hp5.okay (rn_of kgm) kdp
      obtain ⟨W6, m6, hW6, hm6, hx6, bW6, c6, hB6, hlt6⟩ := lay6 (B04.out.trans (b5.mono B04.out.size)) (by have := B04.out.size; have := b5.size; omega) 28 (.int .i64 o') (.string ⟨y'.toArray⟩) (.int .i64 i') (.int .u64 j') (.slice p' l' q') (.int .i64 r')
      obtain ⟨hwf, hwt, hsz⟩ := read_wf ksc (by rw [← bsize]; omega) kgm2
      have B36 : Below W3.heap.size W3 W6 := B4.out.trans ((b5.trans (c6.mono b5.size)).mono B4.out.size)
      have hshow := fun u (b : Below W6.heap.size W6 u) => show_any md hwf (by omega) u _ ((hn5.below c6).below b) (H.out.1.below (bW6.trans (b.mono bW6.size))) (H.out.2.below (bW6.trans (b.mono bW6.size)))
      rw [← HN.out.2.2.2.2, ← HN.out.2.2.2.1] at hshow
      have hnn := fun u (b : Below W6.heap.size W6 u) => lnode_any nd (by have := HN.out.2.1; omega) _ u _ ((HN.out.1.below B36).below b)
      have hnm := fun u (b : Below W6.heap.size W6 u) => lnode_any md (by omega) _ u _ ((hn5.below c6).below b)
      have hsm := rsame_any nd (by have := HN.out.2.1; omega) md false ⟨HN.out.2.2.1.symm, fun q => by cases q⟩
      have KS : Hid (∀ u, Below W6.heap.size W6 u → u.cell? ⟨m3, 0, none⟩ = some (.int .i64 o) ∧ u.cell? ⟨m3, 1, none⟩ = some (.string ⟨y.toArray⟩) ∧ u.cell? ⟨m3, 2, none⟩ = some (.int .i64 i) ∧ u.cell? ⟨m3, 3, none⟩ = some (.int .u64 j) ∧ u.cell? ⟨m3, 4, none⟩ = some (.slice p l q) ∧ u.cell? ⟨m3, 5, none⟩ = some (.int .i64 r) ∧
          u.cell? ⟨m6, 0, none⟩ = some (.int .i64 o') ∧ u.cell? ⟨m6, 1, none⟩ = some (.string ⟨y'.toArray⟩) ∧ u.cell? ⟨m6, 2, none⟩ = some (.int .i64 i') ∧ u.cell? ⟨m6, 3, none⟩ = some (.int .u64 j') ∧ u.cell? ⟨m6, 4, none⟩ = some (.slice p' l' q') ∧ u.cell? ⟨m6, 5, none⟩ = some (.int .i64 r')) := fun u b => by
        obtain ⟨a0, a1, a2, a3, a4, a5⟩ := ((HX.out.below B36).below b).cells
        obtain ⟨b0, b1, b2, b3, b4, b5⟩ := (hx6.below b).cells
        exact ⟨a0, a1, a2, a3, a4, a5, b0, b1, b2, b3, b4, b5⟩
      have B6 : Hid (Below w.heap.size w W6) := bW6
      have HS : Hid (∀ u, Below W6.heap.size W6 u → Calls Tryd.prog 10 _ _ _) := hshow
      have H1 : Hid (∀ u, Below W6.heap.size W6 u → Calls Tryd.prog 9 _ _ _) := hnn
      have H2 : Hid (∀ u, Below W6.heap.size W6 u → Calls Tryd.prog 9 _ _ _) := hnm
      have H3 : Hid (∀ (Q R : Nat → Prop) (w : World) (v u : NV), NdIn Q w v nd → NdIn R w u md → Calls Tryd.prog 8 #[v.val, u.val, .bool false] w fun e w' => e = .returned (.bool true) ∧ Below w.heap.size w w') := hsm
      clear b5 hp5 hn5 hx6 bW6 c6 hwf hwt hsz B36 hshow hnn hnm hsm ksc kgm kgm2 kdp
      go_upto_region 8 with fail
      clear hW6 hm6
      go_wp2_with fail
      obtain ⟨x0, x1, x2, x3, x4, x5, y0, y1, y2, y3, y4, y5⟩ := KS.out W6 (Below.refl _ _)
      go_region_held3 (fun u => u.cell? ⟨m3, 0, none⟩ = some (.int .i64 o) ∧ u.cell? ⟨m3, 1, none⟩ = some (.string ⟨y.toArray⟩) ∧ u.cell? ⟨m3, 2, none⟩ = some (.int .i64 i) ∧ u.cell? ⟨m3, 3, none⟩ = some (.int .u64 j) ∧ u.cell? ⟨m3, 4, none⟩ = some (.slice p l q) ∧ u.cell? ⟨m3, 5, none⟩ = some (.int .i64 r) ∧
          u.cell? ⟨m6, 0, none⟩ = some (.int .i64 o') ∧ u.cell? ⟨m6, 1, none⟩ = some (.string ⟨y'.toArray⟩) ∧ u.cell? ⟨m6, 2, none⟩ = some (.int .i64 i') ∧ u.cell? ⟨m6, 3, none⟩ = some (.int .u64 j') ∧ u.cell? ⟨m6, 4, none⟩ = some (.slice p' l' q') ∧ u.cell? ⟨m6, 5, none⟩ = some (.int .i64 r'))
        (first | with_reducible exact kS9 | with_reducible exact kS8 | with_reducible exact kS7 | with_reducible exact kS | go_keep)
        (first
          | (go_at_call 10; (with_reducible refine (HS.out _ B9.out).mono ?_); rintro e w10 ⟨rfl, b10⟩; have B10 : Hid (Below W6.heap.size W6 w10) := B9.out.trans (b10.mono B9.out.size); have kS := KS.out _ B10.out; clear b10)
          | (go_at_call 8; (with_reducible refine (H3.out _ _ _ _ _ (HV7.out.below (by first | exact B78.out | exact Below.refl _ _)) HV8.out).mono ?_); rintro e w9 ⟨rfl, b9⟩; have B9 : Hid (Below W6.heap.size W6 w9) := B8.out.trans (b9.mono B8.out.size); have kS9 := KS.out _ B9.out; clear b9)
          | (go_at_call 9; (with_reducible refine (H1.out _ (by exact (Below.refl _ W6).drew)).mono ?_); rintro e w7 ⟨_, rfl, v7, rfl, hn7, b7⟩; have B7 : Hid (Below W6.heap.size W6 w7) := undrewB b7; have HV7 : Hid (NdIn _ w7 v7 nd) := hn7; have kS7 := KS.out _ B7.out; clear hn7 b7)
          | (go_at_call 9; (with_reducible refine (H2.out _ B7.out).mono ?_); rintro e w8 ⟨_, rfl, v8, rfl, hn8, b8⟩; have B8 : Hid (Below W6.heap.size W6 w8) := B7.out.trans (b8.mono B7.out.size); have HV8 : Hid (NdIn _ w8 v8 md) := hn8; have B78 : Hid (Below w7.heap.size w7 w8) := b8; have kS8 := KS.out _ B8.out; clear hn8 b8))
      go_wp2_with fail
      go_ret
      exact ⟨rfl, B6.out.trans (B10.out.mono B6.out.size)⟩
  · have B2 : Hid (Below w.heap.size w w2) := B1.out.trans (b2.mono B1.out.size)
    have hs := fun u v Q hv => rsame_any nd0 (by decide) nd0 true ⟨rfl, fun _ => rfl⟩ Q (fun _ => False) u v nv0 hv (ndin0 _ _)
    have HS : Hid (∀ (u : World) (v : NV) (Q : Nat → Prop), NdIn Q u v nd0 → Calls Tryd.prog 8 #[v.val, nv0.val, .bool true] u fun e w' => e = .returned (.bool true) ∧ Below u.heap.size u w') := hs
    have hc0 : (c == 0) = false := by rw [beq_eq_false_iff_ne]; omega
    have hc1 : ¬ c = 0 := by omega
    clear b2 hc hs
    go_upto_region 4 with fail
    obtain ⟨W3, m3, hW3, hm3, hx3, bW3, c3, hB3, hlt3⟩ := lay6 B2.out B2.out.size 28 (.int .i64 0) (.string ⟨#[]⟩) (.int .i64 0) (.int .u64 0) (.slice none 0 0) (.int .i64 0)
    have B3 : Hid (Below w.heap.size w W3) := bW3
    obtain ⟨x0, x1, x2, x3, x4, x5⟩ := hx3.cells
    have hn := lnode_any nd0 (by decide) (fun _ => False) W3 nv0 (ndin0 _ _)
    clear hx3 bW3 c3
    rw [hW3, hm3]
    clear hW3 hm3
    go_wp2_with (go_at_call 9; refine hn.mono ?_; rintro e w4 ⟨_, rfl, nv, rfl, hn4, b4⟩)
    have B4 : Hid (Below w.heap.size w w4) := B3.out.trans (b4.mono B3.out.size)
    clear hn b4
    go_wp2_with (go_at_call 8; refine (HS.out _ _ _ hn4).mono ?_; rintro e w5 ⟨rfl, b5⟩)
    go_ret
    exact ⟨rfl, B4.out.trans (b5.mono B4.out.size)⟩

end Go.Proofs.YtgeigegaoadmfaaDoor
