import Derived.Test.YtijchmcajhdcoaaGreatDoorJSta
import Derived.BigRegion
/-!
  What holds at the head of a round of the reference's reduce, and behind one. No condition.
-/
namespace Go.Proofs.YtijchmcajhdcoaaGreatDoor
open Go.RowKit

theorem Box2.put0 {w : World} {B : Nat} {t : TypeId} {a b : Value} (h : Box2 w B t a b) (x : Value) : Box2 (w.setCell ⟨B, 0, none⟩ x) B t x b := by
  unfold Box2 at h ⊢
  simp [World.setCell, Array.getElem?_modify, h]

/-- At the head of a round of reduce. -/
structure RdI (Q : Nat → Prop) (B : Nat) (L : Int) (ns0 : List Nd) (ws0 : List Wt) (m1 m4 : Nat) (w wr : World) (ns : List Nd) (ws : List Wt) (na : Option Addr) (nl nc : Nat) (wa : Option Addr) (wl wc : Nat) : Prop where
  box : Box2 wr m1 58 (.slice na nl nc) (.slice wa wl wc)
  res : Box2 wr m4 58 (.slice none 0 0) (.slice none 0 0)
  st : St (fun g => Q g ∨ (m4 < g ∧ g < wr.heap.size)) B wr na nl nc wa wl wc ns ws
  eq : red L ns ws = red L ns0 ws0
  rk : Rk ns.length ws
  bel : Below w.heap.size w wr
  len : nl ≤ 5000
  far : ∀ a, wa = some a → a.block < w.heap.size

/-- The last that waits is taken away. -/
theorem St.pop {Q : Nat → Prop} {B : Nat} {w : World} {na wa : Option Addr} {nl nc r wc : Nat} {ns : List Nd} {v : Wt} {ws : List Wt} (h : St Q B w na nl nc wa (r + 1) wc ns (v :: ws)) : St Q B w na nl nc wa r wc ns ws := by
  have hl : ws.length = r := by have := h.wl; simp at this; omega
  refine ⟨?_, hl, h.nds⟩
  have := h.wts.cut r (by omega)
  rwa [List.reverse_cons, List.take_left' (by rw [List.length_reverse]; exact hl)] at this
theorem St.owner {Q : Nat → Prop} {B : Nat} {w : World} {na wa : Option Addr} {nl nc wl wc : Nat} {ns : List Nd} {ws : List Wt} (h : St Q B w na nl nc wa wl wc ns ws) : ∀ a, wa = some a → B ≤ a.block ∧ a.block < w.heap.size := by
  rintro a rfl
  exact h.wts.lt a.block rfl

theorem last_rev {α : Type} {v : α} {ws : List α} {r : Nat} (h : (v :: ws).length = r + 1) : (v :: ws).reverse[r]? = some v := by
  have : r = ws.reverse.length := by simp at h ⊢; omega
  rw [List.reverse_cons, this, List.getElem?_append_right (Nat.le_refl _)]
  simp

/-- A node that is made: its box and its kids' row, in two new blocks. -/
structure Md (Q : Nat → Prop) (m4 : Nat) (w u : World) (gx gy : Nat) (op pos : Int) (xs : List Nd) (vs : List NV) : Prop where
  bel : Below w.heap.size w u
  lt : w.heap.size ≤ gx
  size : u.heap.size = w.heap.size + 2
  box : Box6 u gx 34 (.int .i64 op) (.string ⟨#[]⟩) (.int .i64 0) (.int .u64 0) (.slice (some ⟨gy, 0, none⟩) vs.length vs.length) (.int .i64 pos)
  nd : NdIn (fun g => Q g ∨ (m4 < g ∧ g < u.heap.size)) u ⟨op, [], 0, 0, some ⟨gy, 0, none⟩, vs.length, vs.length, pos⟩ ⟨op, [], 0, 0, foOf xs, pos⟩

section
variable {Q : Nat → Prop} {m4 n : Nat} {w : World} {xs : List Nd} {vs : List NV} {op pos : Int}
theorem kids_new (hn : n ≤ w.heap.size) (hm : m4 < w.heap.size) (h : NdsIn (fun g => Q g ∨ (m4 < g ∧ g < n)) w vs xs) (t : TypeId) (cs : Array Value) (hc : cs = (encN.all vs).toArray) (u : World) (hu : Below (w.alloc (.cells cs t)).heap.size (w.alloc (.cells cs t)) u) :
    NdIn (fun g => Q g ∨ (m4 < g ∧ g < u.heap.size)) u ⟨op, [], 0, 0, some ⟨w.heap.size, 0, none⟩, vs.length, vs.length, pos⟩ ⟨op, [], 0, 0, foOf xs, pos⟩ := by
  have hs := hu.size
  simp at hs
  have h1 := NdIn.made (Q := fun g => Q g ∨ (m4 < g ∧ g < u.heap.size)) (w := w.alloc (.cells cs t)) op [] 0 0 pos ((h.stays (bz1 w _)).mono (fun g hg => hg.imp id (fun q => ⟨q.1, by omega⟩))) (rdG_new encN w vs t cs hc) (fun _ a e => by cases e; exact .inr ⟨hm, by simp; omega⟩) (Nat.le_refl _)
  exact h1.below hu
/-- The box first. -/
theorem Md.new1 (hn : n ≤ w.heap.size) (hm : m4 < w.heap.size) (h : NdsIn (fun g => Q g ∨ (m4 < g ∧ g < n)) w vs xs) (cs : Array Value) (hc : cs = (encN.all vs).toArray) {k : Nat} (hk : vs.length = k) :
    Md Q m4 w (((w.alloc (.cells #[.int .i64 op, .string ⟨#[]⟩, .int .i64 0, .int .u64 0, .slice (some ⟨w.heap.size + 1, 0, none⟩) k k, .int .i64 pos] 34)).alloc (.cells cs 34)).drew) w.heap.size (w.heap.size + 1) op pos xs vs := by
  subst hk
  refine ⟨(bz2 w _ _).drew, Nat.le_refl _, by simp [World.drew], ((Box6.new w _ _ _ _ _ _ _).below (bz1 _ _)).below (Below.refl _ _).drew, ?_⟩
  have := kids_new (Q := Q) (op := op) (pos := pos) (n := n) (m4 := m4) (w := w.alloc (.cells #[.int .i64 op, .string ⟨#[]⟩, .int .i64 0, .int .u64 0, .slice (some ⟨w.heap.size + 1, 0, none⟩) vs.length vs.length, .int .i64 pos] 34)) (by simp; omega) (by simp; omega) (h.stays (bz1 w _)) 34 cs hc _ (Below.refl _ _).drew
  simpa using this
/-- The kids first. -/
theorem Md.new2 (hn : n ≤ w.heap.size) (hm : m4 < w.heap.size) (h : NdsIn (fun g => Q g ∨ (m4 < g ∧ g < n)) w vs xs) (cs : Array Value) (hc : cs = (encN.all vs).toArray) {k : Nat} (hk : vs.length = k) :
    Md Q m4 w (((w.alloc (.cells cs 34)).alloc (.cells #[.int .i64 op, .string ⟨#[]⟩, .int .i64 0, .int .u64 0, .slice (some ⟨w.heap.size, 0, none⟩) k k, .int .i64 pos] 34)).drew) (w.heap.size + 1) w.heap.size op pos xs vs := by
  subst hk
  refine ⟨(bz2 w _ _).drew, by omega, by simp [World.drew], ?_, ?_⟩
  · have := (Box6.new (w.alloc (.cells cs 34)) 34 (.int .i64 op) (.string ⟨#[]⟩) (.int .i64 0) (.int .u64 0) (.slice (some ⟨w.heap.size, 0, none⟩) vs.length vs.length) (.int .i64 pos)).below (Below.refl _ _).drew
    simpa using this
  · exact kids_new hn hm h 34 cs hc _ (bz1 _ _).drew
end

/-- A round is done. -/
theorem rd_next {Q : Nat → Prop} {B : Nat} {L : Int} {ns0 ns rest xs : List Nd} {ws0 ws : List Wt} {m1 m4 : Nat} {w wr W6 u w7 : World} {na wa a7 : Option Addr} {nl nc r wk q c7 gx gy : Nat} {op pos : Int} {us zs vs : List NV}
    (hQ : ∀ g, Q g → g < w.heap.size) (hm : m4 = m1 + 1 ∧ m1 = w.heap.size) (s6 : St (fun g => Q g ∨ (m4 < g ∧ g < wr.heap.size)) B W6 na nl nc wa r wk ns ws) (far : ∀ a, wa = some a → a.block < w.heap.size) (hwr : wr.heap.size ≤ W6.heap.size) (bel : Below w.heap.size w W6)
    (md : Md Q m4 W6 u gx gy op pos xs vs) (j7 : Gone u w7 (.slice a7 (q + 1) c7) (zs ++ [⟨op, [], 0, 0, some ⟨gy, 0, none⟩, vs.length, vs.length, pos⟩])) (hz : us.take q = zs) (nds : NdsIn (fun g => Q g ∨ (m4 < g ∧ g < wr.heap.size)) u us ns.reverse) (hr : ns.reverse.take q = rest.reverse)
    (box : Box2 u m1 58 (.slice na nl nc) (.slice wa r wk)) (res : Box2 W6 m4 58 (.slice none 0 0) (.slice none 0 0)) (eq : red L (⟨op, [], 0, 0, foOf xs, pos⟩ :: rest) ws = red L ns0 ws0) (rk : Rk (rest.length + 1) ws) (hq : q ≤ 4999) :
    RdI Q B L ns0 ws0 m1 m4 w (w7.setCell ⟨m1, 0, none⟩ (.slice a7 (q + 1) c7)) (⟨op, [], 0, 0, foOf xs, pos⟩ :: rest) ws a7 (q + 1) c7 wa r wk := by
  obtain ⟨h1, h2⟩ := hm
  have hu : W6.heap.size ≤ u.heap.size := md.bel.size
  have h7 : u.heap.size ≤ w7.heap.size := j7.bel.size
  have hs9 : (w7.setCell ⟨m1, 0, none⟩ (.slice a7 (q + 1) c7)).heap.size = w7.heap.size := by simp [World.size_setCell]
  have hm4 : m4 < W6.heap.size := res.lt
  have T : Turned (fun g => g = m1) w7 (w7.setCell ⟨m1, 0, none⟩ (.slice a7 (q + 1) c7)) := (Turned.refl (fun g => g = m1) _).setCell (p := ⟨m1, 0, none⟩) (.inl rfl) _
  have b7 : Below W6.heap.size W6 w7 := md.bel.trans (j7.bel.mono hu)
  have hQ9 : ∀ g, Q g ∨ (m4 < g ∧ g < (w7.setCell ⟨m1, 0, none⟩ (.slice a7 (q + 1) c7)).heap.size) → ¬ g = m1 := by
    rintro g (q1 | q1) e
    · have := hQ g q1
      omega
    · omega
  refine ⟨(box.below j7.bel).put0 _, (res.below b7).turned T (by omega), ?_, eq, by simpa using rk, (bel.trans (b7.mono bel.size)).trans (T.below (by have := bel.size; omega) (fun g hg e => by omega)), by omega, far⟩
  refine ⟨?_, s6.wl, zs ++ [⟨op, [], 0, 0, some ⟨gy, 0, none⟩, vs.length, vs.length, pos⟩], ?_, ?_, ?_, ?_, ?_⟩
  · exact ownsRow_turned (s6.wts.below b7) T (fun g e e2 => by
      cases wa with
      | none => simp [Value.ownBlock] at e
      | some a =>
        have e' : a.block = g := by simpa [Value.ownBlock] using e
        have := far a rfl
        omega)
  · obtain ⟨a8, c8, e8, _, _, r8, _⟩ := OwnG.form j7.own
    injection e8 with e81 e82 e83
    subst e81 e83
    exact r8.turnN T (fun h0 a e => by
      have := (j7.own.lt a.block (by rw [e]; rfl)).1
      omega)
  · have := own_len j7.own
    exact this
  · obtain ⟨a8, c8, e8, hle, _⟩ := OwnG.form j7.own
    have hl := own_len j7.own
    rw [hl] at hle
    injection e8 with e81 e82 e83
    subst e81 e83
    exact hle
  · intro h0 a e
    have h8 := j7.own.lt a.block (by rw [e]; rfl)
    exact .inr ⟨by omega, by rw [hs9]; exact h8.2⟩
  · rw [List.reverse_cons]
    have k1 := (nds.take q)
    rw [hz, hr] at k1
    exact (((k1.stays j7.bel).mono (fun g q1 => q1.imp id (fun q2 => ⟨q2.1, by rw [hs9]; omega⟩))).snoc ((md.nd.below j7.bel).mono (fun g q1 => q1.imp id (fun q2 => ⟨q2.1, by rw [hs9]; omega⟩)))).turned T hQ9

/-- What is answered. -/
theorem rd_end {Q : Nat → Prop} {B : Nat} {L : Int} {ns0 ns : List Nd} {ws0 ws : List Wt} {m1 m4 : Nat} {w wr u : World} {na wa : Option Addr} {nl nc wl wk : Nat} (hQ : ∀ g, Q g → g < w.heap.size) (hm : m4 = m1 + 1 ∧ m1 = w.heap.size)
    (h : RdI Q B L ns0 ws0 m1 m4 w wr ns ws na nl nc wa wl wk) (he : red L ns ws = (ns, ws)) (hb : Below wr.heap.size wr u) (x y : Value) :
    St (fun g => Q g ∨ Bt w.heap.size ((u.setCell ⟨m4, 0, none⟩ x).setCell ⟨m4, 1, none⟩ y).heap.size g) B ((u.setCell ⟨m4, 0, none⟩ x).setCell ⟨m4, 1, none⟩ y) na nl nc wa wl wk (red L ns0 ws0).1 (red L ns0 ws0).2 ∧ Below w.heap.size w ((u.setCell ⟨m4, 0, none⟩ x).setCell ⟨m4, 1, none⟩ y) := by
  obtain ⟨h1, h2⟩ := hm
  have T : Turned (fun g => g = m4) u ((u.setCell ⟨m4, 0, none⟩ x).setCell ⟨m4, 1, none⟩ y) := ((Turned.refl (fun g => g = m4) _).setCell (p := ⟨m4, 0, none⟩) (.inl rfl) _).setCell (p := ⟨m4, 1, none⟩) (.inl rfl) _
  have hs := h.bel.size
  have hs2 := hb.size
  have hs3 : ((u.setCell ⟨m4, 0, none⟩ x).setCell ⟨m4, 1, none⟩ y).heap.size = u.heap.size := by simp [World.size_setCell]
  rw [← h.eq, he]
  refine ⟨(((h.st.below hb).turned T (fun g e e2 => ?_) (fun g hg e2 => ?_)).mono (fun g hg => ?_)), (h.bel.trans (hb.mono hs)).trans (T.below (by omega) (fun g hg e => by omega))⟩
  · cases wa with
    | none => simp [Value.ownBlock] at e
    | some a =>
      have e' : a.block = g := by simpa [Value.ownBlock] using e
      have := h.far a rfl
      omega
  · rcases hg with hg | hg
    · have := hQ g hg
      omega
    · omega
  · exact hg.imp id (fun q => ⟨by omega, by rw [hs3]; omega⟩)

end Go.Proofs.YtijchmcajhdcoaaGreatDoor

/-!
  The reference's reduce by a contract: what waits and holds so tightly is done. No condition but that not too much waits.
-/
namespace Go.Proofs.YtijchmcajhdcoaaGreatDoor
open Go.RowKit

set_option maxHeartbeats 3200000 in
set_option maxRecDepth 100000 in
theorem reduce_any {Q : Nat → Prop} {B : Nat} (w : World) {na wa : Option Addr} {nl nc wl wk : Nat} {ns : List Nd} {ws : List Wt} (L : Int) (h : St Q B w na nl nc wa wl wk ns ws) (hQ : ∀ g, Q g → g < w.heap.size) (hk : Rk ns.length ws) (hw : wl ≤ 5000) (hn : nl ≤ 5000) :
    Calls Tryz.prog 20 #[.agg #[.slice na nl nc, .slice wa wl wk], .int .i64 L] w fun e w' => ∃ na' nl' nc' wl', e = .returned (.agg #[.slice na' nl' nc', .slice wa wl' wk]) ∧
      St (fun g => Q g ∨ Bt w.heap.size w'.heap.size g) B w' na' nl' nc' wa wl' wk (red L ns ws).1 (red L ns ws).2 ∧ Below w.heap.size w w' := by
  obtain ⟨W1, m1, hW1, hm1, bW1, hs1⟩ := layR w 58 #[.slice na nl nc, .slice wa wl wk]
  have hbx : Box2 W1 m1 58 (.slice na nl nc) (.slice wa wl wk) := by rw [← hW1, ← hm1]; exact Box2.new _ _ _ _
  obtain ⟨W2, m4, hW2, hm4, bW2, hs2⟩ := layR W1 58 #[.slice none 0 0, .slice none 0 0]
  have hrs : Box2 W2 m4 58 (.slice none 0 0) (.slice none 0 0) := by rw [← hW2, ← hm4]; exact Box2.new _ _ _ _
  have HM : Hid (m4 = m1 + 1 ∧ m1 = w.heap.size) := ⟨by omega, by omega⟩
  have HS : Hid (RdI Q B L ns ws m1 m4 w W2 ns ws na nl nc wa wl wk) := ⟨hbx.below bW2, hrs, ((h.below bW1).below bW2).mono (fun g q => .inl q), rfl, hk, bW1.trans (bW2.mono (by omega)), hn, fun a e => (h.owner a e).2⟩
  have HQ : Hid (∀ g, Q g → g < w.heap.size) := hQ
  clear h hQ hk hbx hrs bW1 bW2 hs1 hs2 hn
  go_enter Tryz.func20, Tryz.ntmps20
  go_upto_region 1 with fail
  clear hW1 hm1 hW2 hm4
  go_wp2_with fail
  go_loopg [] wl (fun g wr => ∃ ns' ws' na' nl' nc', g ≤ wl ∧ Hid (RdI Q B L ns ws m1 m4 w wr ns' ws' na' nl' nc' wa g wk))
  case atStart => exact ⟨ns, ws, na, nl, nc, Nat.le_refl _, HS.out⟩
  case round =>
    obtain ⟨ns', ws', na', nl', nc', hgl, HR⟩ := hrel
    obtain ⟨c0, c1⟩ := HR.out.box.cells
    obtain ⟨r0, r1⟩ := HR.out.res.thaw
    obtain ⟨s0, s1⟩ := HR.out.res.cells
    have hwl := HR.out.st.wl
    by_cases h0 : gk = 0
    · subst h0
      obtain rfl : ws' = [] := List.eq_nil_of_length_eq_zero hwl
      clear hwl
      go_wp2_with fail
      refine bodyPost_ret (v := .agg #[.slice na' nl' nc', .slice wa 0 wk]) ?_ rfl ⟨na', nl', nc', 0, rfl, ?_⟩
      · simp [results, Tryz.f20]
        go_simp
      · exact rd_end HQ.out HM.out HR.out rfl (Below.refl _ _) _ _
    · obtain ⟨r, hr⟩ : ∃ r, gk = r + 1 := ⟨gk - 1, by omega⟩
      obtain ⟨v, ws2, rfl⟩ : ∃ v t, ws' = v :: t := by
        cases ws' with
        | nil => simp at hwl; omega
        | cons v t => exact ⟨v, t, rfl⟩
      have hv := last_rev (hwl.trans hr)
      obtain ⟨hrd, hwc⟩ := HR.out.st.rd
      obtain ⟨kb, ko, rfl, _⟩ := hrd.some_of hv
      obtain ⟨k0, k1, k2, k3, k4⟩ := hrd.wait hv
      obtain ⟨vo, vp, vt, vb, vn⟩ := v
      simp only at k0 k1 k2 k3 k4
      have e0 : (gk : Int) - 1 = (r : Int) := by omega
      have i0 : 0 < gk := by omega
      have i1 : (0 : Int) < (gk : Int) := by omega
      have i2 : (r : Int) < (gk : Int) := by omega
      have i3 : (gk : Int) ≤ (wk : Int) := by omega
      have i4 : (r : Int) ≤ (wk : Int) := by omega
      have i5 : gk ≤ 5000 := by omega
      obtain ⟨W5, m5, hW5, hm5, hx5, bW5, c5, hB5, hlt5⟩ := lay5 HR.out.bel HR.out.bel.size 62 (.int .i64 vo) (.int .i64 vp) (.string ⟨vt.toArray⟩) (.bool vb) (.int .i64 (vn : Nat))
      obtain ⟨d0, d1, d2, d3, d4⟩ := hx5.cells
      have HW5 : Hid (Below wr.heap.size wr W5 ∧ Below w.heap.size w W5 ∧ Box5 W5 m5 62 (.int .i64 vo) (.int .i64 vp) (.string ⟨vt.toArray⟩) (.bool vb) (.int .i64 (vn : Nat)) ∧ wr.heap.size = m5 ∧ gk = r + 1 ∧ ws2.length = r) := ⟨c5, bW5, hx5, hm5, hr, by simp at hwl; omega⟩
      clear hv hrd hwc hwl hx5 bW5 c5 h0 hr
      have hlv := rlevel_any vo W5
      obtain ⟨V, hV⟩ : ∃ V, lvl vo = V := ⟨_, rfl⟩
      rw [hV] at hlv
      have HL : Hid (Calls Tryz.prog 18 _ _ _) := hlv
      have HV : Hid (lvl vo = V) := hV
      clear hlv hV
      have B5 : Box2 W5 m1 58 (.slice na' nl' nc') (.slice (some ⟨kb, ko, none⟩) gk wk) := HR.out.box.below HW5.out.1
      have R5 : Box2 W5 m4 58 (.slice none 0 0) (.slice none 0 0) := HR.out.res.below HW5.out.1
      obtain ⟨c50, c51⟩ := B5.cells
      obtain ⟨f50, f51⟩ := B5.thaw
      obtain ⟨r50, r51⟩ := R5.cells
      obtain ⟨q50, q51⟩ := R5.thaw
      clear B5 R5
      by_cases hst : vb = true ∨ V < L
      · have HE : Hid (red L ns' (⟨vo, vp, vt, vb, vn⟩ :: ws2) = (ns', ⟨vo, vp, vt, vb, vn⟩ :: ws2)) := red_stop (hst.imp id (fun q => by show lvl vo < L; rw [HV.out]; exact q))
        go_upto_region 3 with fail
        clear hW5 hm5
        cases vb with
        | true =>
          clear hst
          go_wp2_with fail
          refine bodyPost_ret (v := .agg #[.slice na' nl' nc', .slice (some ⟨kb, ko, none⟩) gk wk]) ?_ rfl ⟨na', nl', nc', gk, rfl, ?_⟩
          · simp [results, Tryz.f20]
            go_simp
          · exact rd_end HQ.out HM.out HR.out HE.out HW5.out.1 _ _
        | false =>
          have hlt : V < L := hst.elim (fun q => by cases q) id
          clear hst
          go_wp2_with (go_at_call 18; refine HL.out.mono ?_; rintro e w6 ⟨rfl, hw6⟩; rw [hw6]; clear hw6)
          refine bodyPost_ret (v := .agg #[.slice na' nl' nc', .slice (some ⟨kb, ko, none⟩) gk wk]) ?_ rfl ⟨na', nl', nc', gk, rfl, ?_⟩
          · simp [results, Tryz.f20]
            go_simp
          · exact rd_end HQ.out HM.out HR.out HE.out HW5.out.1 _ _
      · obtain ⟨hb, hlt⟩ : vb = false ∧ ¬ V < L := by
          cases vb with
          | true => exact absurd (.inl rfl) hst
          | false => exact ⟨rfl, fun q => hst (.inr q)⟩
        subst hb
        have HNL : Hid (¬ V < L) := hlt
        obtain ⟨W6, hW6⟩ : ∃ W6, W5.setCell ⟨m1, 1, none⟩ (.slice (some ⟨kb, ko, none⟩) r wk) = W6 := ⟨_, rfl⟩
        go_upto_region 3 with fail
        clear hW5 hm5
        go_upto_region 6 with (go_at_call 18; refine HL.out.mono ?_; rintro e w6 ⟨rfl, hw6⟩; rw [hw6]; clear hw6)
        have h8 : decide (V < L) = false := decide_eq_false (by have := HNL.out; omega)
        have T6 : Turned (fun g => g = m1) wr W6 := by rw [← hW6]; exact (Turned.ofBelow (S := fun g => g = m1) HW5.out.1).setCell (p := ⟨m1, 1, none⟩) (.inl rfl) _
        have hm1 : m1 < wr.heap.size := HR.out.box.lt
        have hgr : gk = r + 1 := HW5.out.2.2.2.2.1
        have S6 : St (fun g => Q g ∨ (m4 < g ∧ g < wr.heap.size)) B W6 na' nl' nc' (some ⟨kb, ko, none⟩) r wk ns' ws2 := by
          refine (St.pop (v := ⟨vo, vp, vt, false, vn⟩) (hgr ▸ HR.out.st)).turned T6 (fun g e => ?_) (fun g hg e => ?_)
          · have := HR.out.far _ rfl
            have := HM.out
            have e' : kb = g := by simpa [Value.ownBlock] using e
            have h' : kb < w.heap.size := HR.out.far _ rfl
            omega
          · have := HM.out
            rcases hg with hg | hg
            · have := HQ.out g hg
              omega
            · omega
        have B6 : Box2 W6 m1 58 (.slice na' nl' nc') (.slice (some ⟨kb, ko, none⟩) r wk) := by rw [← hW6]; exact (HR.out.box.below HW5.out.1).put1 _
        have Z6 : Turned (fun g => g = m1) W5 W6 := by rw [← hW6]; exact (Turned.refl (fun g => g = m1) _).setCell (p := ⟨m1, 1, none⟩) (.inl rfl) _
        have D6 : Box5 W6 m5 62 (.int .i64 vo) (.int .i64 vp) (.string ⟨vt.toArray⟩) (.bool false) (.int .i64 (vn : Nat)) := HW5.out.2.2.1.turned Z6 (by have := HW5.out.2.2.2.1; omega)
        have R6 : Box2 W6 m4 58 (.slice none 0 0) (.slice none 0 0) := HR.out.res.turned T6 (by have := HM.out; omega)
        have H6 : Hid (St (fun g => Q g ∨ (m4 < g ∧ g < wr.heap.size)) B W6 na' nl' nc' (some ⟨kb, ko, none⟩) r wk ns' ws2 ∧ Box2 W6 m1 58 (.slice na' nl' nc') (.slice (some ⟨kb, ko, none⟩) r wk) ∧ Box2 W6 m4 58 (.slice none 0 0) (.slice none 0 0) ∧
            Box5 W6 m5 62 (.int .i64 vo) (.int .i64 vp) (.string ⟨vt.toArray⟩) (.bool false) (.int .i64 (vn : Nat)) ∧ Below w.heap.size w W6 ∧ wr.heap.size ≤ W6.heap.size) := ⟨S6, B6, R6, D6, HR.out.bel.trans (T6.below HR.out.bel.size (fun g hg e => by have := HM.out; omega)), T6.size⟩
        have hrk : Rk ns'.length (⟨vo, vp, vt, false, vn⟩ :: ws2) := HR.out.rk
        unfold Rk at hrk
        simp only [Bool.false_eq_true, if_false] at hrk
        have hno : ¬ ((⟨vo, vp, vt, false, vn⟩ : Wt).opn = true ∨ lvl (⟨vo, vp, vt, false, vn⟩ : Wt).op < L) := fun q => q.elim (fun q => by cases q) (fun q => by have : lvl vo < L := q; rw [HV.out] at this; have := HNL.out; omega)
        obtain ⟨us, hu1, hu2, hu3, hu4, hu5⟩ := S6.nds
        have hln := S6.len
        have hl5 := HR.out.len
        try rw [hW6]
        clear hW6 T6 S6 B6 Z6 D6 R6 c0 c1 r0 r1 s0 s1 k0 k1 k2 k3 k4 c50 c51 f50 f51 r50 r51 q50 q51 d0 d1 d2 d3 d4 hst
        obtain ⟨c0, c1⟩ := H6.out.2.1.cells
        obtain ⟨f0, f1⟩ := H6.out.2.1.thaw
        obtain ⟨d0, d1, d2, d3, d4⟩ := H6.out.2.2.2.1.cells
        by_cases h11 : vo = 11
        · rw [if_pos h11] at hrk
          subst h11
          obtain ⟨x, t, rfl⟩ : ∃ x t, ns' = x :: t := by
            cases ns' with
            | nil => exact absurd hrk.1 (by simp)
            | cons x t => exact ⟨x, t, rfl⟩
          obtain ⟨q, hq⟩ : ∃ q, nl' = q + 1 := ⟨nl' - 1, by simp at hln; omega⟩
          obtain ⟨kv, hkv, hkn⟩ := hu5.get (last_rev (hln.trans hq))
          obtain ⟨nb, no, rfl, hnb⟩ := hu1.some_of hkv
          obtain ⟨n0, n1, n2, n3, n4, n5⟩ := hu1.node hkv
          obtain ⟨ko', kt, kn, ki, ka, kl, kc, kp⟩ := kv
          simp only at n0 n1 n2 n3 n4 n5
          have j0 : (nl' : Int) - 1 = (q : Int) := by omega
          have j1 : (q : Int) < (nl' : Int) := by omega
          have j2 : (0 : Int) ≤ (q : Int) := by omega
          have j3 : (nl' : Int) ≤ (nc' : Int) := by omega
          have j4 : (q : Int) ≤ (nc' : Int) := by omega
          have j5 : q ≤ 5000 := by omega
          have j6 : nl' ≤ 5000 := by omega
          have l1 : m1 < W6.heap.size := H6.out.2.1.lt
          have l5 : m5 < W6.heap.size := H6.out.2.2.2.1.lt
          have HQ2 : Hid (nl' = q + 1) := hq
          clear hq
          go_upto_region 8 with fail
          go_cut [7] (fun pv u => ∃ gx gy, pv = .pointer (some ⟨gx, 0, none⟩) ∧ Hid (Md Q m4 W6 u gx gy 11 vp [x] [⟨ko', kt, kn, ki, ka, kl, kc, kp⟩]))
          case first =>
            have HK : Hid (NdIn (fun g => Q g ∨ (m4 < g ∧ g < wr.heap.size)) W6 ⟨ko', kt, kn, ki, ka, kl, kc, kp⟩ x ∧ wr.heap.size ≤ W6.heap.size ∧ m4 < W6.heap.size) := ⟨hkn, H6.out.2.2.2.2.2, H6.out.2.2.1.lt⟩
            clear hkn
            go_region
            all_goals
              go_wp2_with fail
              go_meet
              first
                | exact ⟨W6.heap.size, W6.heap.size + 1, rfl, Md.new1 HK.out.2.1 HK.out.2.2 (.cons HK.out.1 .nil) _ rfl rfl⟩
                | exact ⟨W6.heap.size + 1, W6.heap.size, rfl, Md.new2 HK.out.2.1 HK.out.2.2 (.cons HK.out.1 .nil) _ rfl rfl⟩
          case rest =>
            obtain ⟨gx, gy, hpv, H8⟩ := hcut
            subst hpv
            have HZ : Hid (RdG encN wc (some ⟨nb, no, none⟩) us ∧ NdsIn (fun g => Q g ∨ (m4 < g ∧ g < wr.heap.size)) wc us (x :: t).reverse ∧ Box2 wc m1 58 (.slice (some ⟨nb, no, none⟩) nl' nc') (.slice (some ⟨kb, ko, none⟩) r wk)) := ⟨hu1.below H8.out.bel, hu5.stays H8.out.bel, H6.out.2.1.below H8.out.bel⟩
            have x8 := H8.out.box
            simp only [List.length_cons, List.length_nil, Nat.zero_add] at x8
            obtain ⟨x0, x1, x2, x3, x4, x5⟩ := x8.cells
            have l8 : gx < wc.heap.size := x8.lt
            have lm : m1 < wc.heap.size := HZ.out.2.2.lt
            have ln : nb < wc.heap.size := Nat.lt_of_lt_of_le hnb H8.out.bel.size
            clear x8 hu1 hu5 hkv hkn n0 n1 n2 n3 n4 n5 c0 c1 f0 f1 d0 d1 d2 d3 d4 l1 l5 hnb
            have c0 := HZ.out.2.2.cells.1
            have f0 := HZ.out.2.2.thaw.1
            have wq : IntKind.i64.wrap (q : Int) = (q : Int) := by rw [IntKind.wrap_i64]; omega
            go_upto_region 9 with fail
            have hus : us.length = nl' := hu2
            have htl : t.length = q := by have := HQ2.out; simp at hln; omega
            have HRT : Hid ((x :: t).reverse.take q = t.reverse) := by
              show (x :: t).reverse.take q = t.reverse
              rw [List.reverse_cons, List.take_left' (by rw [List.length_reverse]; exact htl)]
            have HRD : Hid (red L (⟨11, [], 0, 0, foOf [x], vp⟩ :: t) ws2 = red L ns ws) := (red_not1 hno rfl).symm.trans HR.out.eq
            have HRK : Hid (Rk (t.length + 1) ws2) := hrk.2
            clear htl
            have HU : Hid (us.length = nl' ∧ (us.take q).length = q) := ⟨hu2, by rw [List.length_take]; omega⟩
            have HT : RdG encN wc (some ⟨nb, no, none⟩) (us.take q) := HZ.out.1.take q
            obtain ⟨zs, hzs⟩ : ∃ zs, us.take q = zs := ⟨_, rfl⟩
            rw [hzs] at HT HU
            have HT : Hid (RdG encN wc (some ⟨nb, no, none⟩) zs) := HT
            have HY : Hid (us.take q = zs) := hzs
            clear hzs hus hu2
            go_region_law
              (first
                | (refine stepG_list encN 34 32 72 (.agg #[.int .i64 0, .string ⟨#[]⟩, .int .i64 0, .int .u64 0, .slice none 0 0, .int .i64 0]) rfl infoR Tryz.underlying32 rfl (.tmp 55) (.tmp 60) rfl wc.heap.size (.slice (some ⟨wc.heap.size, 0, none⟩) 0 0) [] zs (some ⟨nb, no, none⟩) q nc' (by simp [Act.eval, Act.put]) (own0 encN 34 (Nat.le_refl _) (Below.refl _ _).drew) (by simp [Act.eval, Act.put]) (HT.out.below ((bz1 wc _).drew)) HU.out.2 (by simp; omega) (by simp only [maxLen, List.length_nil]; omega) (by simp [World.drew]) ?_; intro v5 w5 ho5 hb5 ht5; rw [List.nil_append] at ho5; obtain ⟨a5, c5, e5, q5, _, r5, _⟩ := OwnG.form ho5; rw [HU.out.2] at e5; subst e5; have J5 : Hid (Gone wc w5 (.slice a5 q c5) zs) := ⟨ho5, ((bz1 wc _).drew).trans hb5⟩; clear ho5 hb5 ht5 q5 r5; obtain ⟨y0, y1, y2, y3, y4, y5⟩ := (H8.out.box.below J5.out.bel).cells; have lw5 := J5.out.bel.size)
                | (refine stepG_at encN 34 32 72 (.agg #[.int .i64 0, .string ⟨#[]⟩, .int .i64 0, .int .u64 0, .slice none 0 0, .int .i64 0]) rfl infoR Tryz.underlying32 rfl (.tmp 61) (.tmp 63) rfl wc.heap.size (.slice a5 q c5) zs ⟨11, [], 0, 0, some ⟨gy, 0, none⟩, 1, 1, vp⟩ (by simp [Act.eval]) (J5.out.own.below (bz1 w5 _)) w5.heap.size (by simp [Act.eval]) (cells_new encN w5 ⟨11, [], 0, 0, some ⟨gy, 0, none⟩, 1, 1, vp⟩ 34) (by have := HU.out.2; omega) (by have := HU.out.2; simp only [maxLen]; omega) (by simp; omega) ?_; intro v7 w7 ho7 hb7 hm7 ht7; obtain ⟨a7, c7, e7, q7, _, r7, _⟩ := OwnG.form ho7; rw [List.length_append, HU.out.2] at e7; simp only [List.length_cons, List.length_nil, Nat.zero_add] at e7; subst e7; have J7 : Hid (Gone wc w7 (.slice a7 (q + 1) c7) (zs ++ [⟨11, [], 0, 0, some ⟨gy, 0, none⟩, 1, 1, vp⟩])) := J5.out.more ho7 (((bz1 w5 _).mono (by omega)).trans hb7); clear ho7 hb7 hm7 ht7 q7 r7; have z7 := (HZ.out.2.2.below J7.out.bel).cells.1; have g7 := (HZ.out.2.2.below J7.out.bel).thaw.1)
                | (refine stepG_list encN 34 32 72 (.agg #[.int .i64 0, .string ⟨#[]⟩, .int .i64 0, .int .u64 0, .slice none 0 0, .int .i64 0]) rfl infoR Tryz.underlying32 rfl (.tmp 55) (.tmp 60) rfl wc.heap.size (.slice (some ⟨wc.heap.size, 0, none⟩) 0 0) [] zs (some ⟨nb, no, none⟩) q nc' (by simp [Act.eval, Act.put]) (gony2 wc ⟨11, [], 0, 0, some ⟨gy, 0, none⟩, 1, 1, vp⟩ _ rfl).own (by simp [Act.eval, Act.put]) (HT.out.below (bz2 wc _ _).drew) HU.out.2 (by simp; omega) (by simp only [maxLen, List.length_nil]; omega) (by simp [World.drew]; omega) ?_; intro v5 w5 ho5 hb5 ht5; rw [List.nil_append] at ho5; obtain ⟨a5, c5, e5, q5, _, r5, _⟩ := OwnG.form ho5; rw [HU.out.2] at e5; subst e5; have J5 : Hid (Gone wc w5 (.slice a5 q c5) zs) := ⟨ho5, ((bz2 wc _ _).drew).trans hb5⟩; have Y5 : Hid (∀ j c, (encN.cells ⟨11, [], 0, 0, some ⟨gy, 0, none⟩, 1, 1, vp⟩)[j]? = some c → w5.cell? ((⟨(wc.heap.size + 1), 0, none⟩ : Addr).add j) = some c) := (gony2 wc ⟨11, [], 0, 0, some ⟨gy, 0, none⟩, 1, 1, vp⟩ _ rfl).after ht5; clear ho5 hb5 ht5 q5 r5; have lw5 := J5.out.bel.size)
                | (refine stepG_at encN 34 32 72 (.agg #[.int .i64 0, .string ⟨#[]⟩, .int .i64 0, .int .u64 0, .slice none 0 0, .int .i64 0]) rfl infoR Tryz.underlying32 rfl (.tmp 61) (.tmp 63) rfl wc.heap.size (.slice a5 q c5) zs ⟨11, [], 0, 0, some ⟨gy, 0, none⟩, 1, 1, vp⟩ (by simp [Act.eval]) J5.out.own (wc.heap.size + 1) (by simp [Act.eval]) Y5.out (by have := HU.out.2; omega) (by have := HU.out.2; simp only [maxLen]; omega) J5.out.bel.size ?_; intro v7 w7 ho7 hb7 hm7 ht7; obtain ⟨a7, c7, e7, q7, _, r7, _⟩ := OwnG.form ho7; rw [List.length_append, HU.out.2] at e7; simp only [List.length_cons, List.length_nil, Nat.zero_add] at e7; subst e7; have J7 : Hid (Gone wc w7 (.slice a7 (q + 1) c7) (zs ++ [⟨11, [], 0, 0, some ⟨gy, 0, none⟩, 1, 1, vp⟩])) := J5.out.more ho7 hb7; clear ho7 hb7 hm7 ht7 q7 r7; have z7 := (HZ.out.2.2.below J7.out.bel).cells.1; have g7 := (HZ.out.2.2.below J7.out.bel).thaw.1)
                | (refine stepG_list encN 34 32 72 (.agg #[.int .i64 0, .string ⟨#[]⟩, .int .i64 0, .int .u64 0, .slice none 0 0, .int .i64 0]) rfl infoR Tryz.underlying32 rfl (.tmp 55) (.tmp 60) rfl wc.heap.size (.slice (some ⟨wc.heap.size + 1, 0, none⟩) 0 0) [] zs (some ⟨nb, no, none⟩) q nc' (by simp [Act.eval, Act.put]) (gony3 wc ⟨11, [], 0, 0, some ⟨gy, 0, none⟩, 1, 1, vp⟩ _ rfl).own (by simp [Act.eval, Act.put]) (HT.out.below (bz2 wc _ _).drew) HU.out.2 (by simp; omega) (by simp only [maxLen, List.length_nil]; omega) (by simp [World.drew]; omega) ?_; intro v5 w5 ho5 hb5 ht5; rw [List.nil_append] at ho5; obtain ⟨a5, c5, e5, q5, _, r5, _⟩ := OwnG.form ho5; rw [HU.out.2] at e5; subst e5; have J5 : Hid (Gone wc w5 (.slice a5 q c5) zs) := ⟨ho5, ((bz2 wc _ _).drew).trans hb5⟩; have Y5 : Hid (∀ j c, (encN.cells ⟨11, [], 0, 0, some ⟨gy, 0, none⟩, 1, 1, vp⟩)[j]? = some c → w5.cell? ((⟨wc.heap.size, 0, none⟩ : Addr).add j) = some c) := (gony3 wc ⟨11, [], 0, 0, some ⟨gy, 0, none⟩, 1, 1, vp⟩ _ rfl).after ht5; clear ho5 hb5 ht5 q5 r5; have lw5 := J5.out.bel.size)
                | (refine stepG_at encN 34 32 72 (.agg #[.int .i64 0, .string ⟨#[]⟩, .int .i64 0, .int .u64 0, .slice none 0 0, .int .i64 0]) rfl infoR Tryz.underlying32 rfl (.tmp 61) (.tmp 63) rfl wc.heap.size (.slice a5 q c5) zs ⟨11, [], 0, 0, some ⟨gy, 0, none⟩, 1, 1, vp⟩ (by simp [Act.eval]) J5.out.own wc.heap.size (by simp [Act.eval]) Y5.out (by have := HU.out.2; omega) (by have := HU.out.2; simp only [maxLen]; omega) J5.out.bel.size ?_; intro v7 w7 ho7 hb7 hm7 ht7; obtain ⟨a7, c7, e7, q7, _, r7, _⟩ := OwnG.form ho7; rw [List.length_append, HU.out.2] at e7; simp only [List.length_cons, List.length_nil, Nat.zero_add] at e7; subst e7; have J7 : Hid (Gone wc w7 (.slice a7 (q + 1) c7) (zs ++ [⟨11, [], 0, 0, some ⟨gy, 0, none⟩, 1, 1, vp⟩])) := J5.out.more ho7 hb7; clear ho7 hb7 hm7 ht7 q7 r7; have z7 := (HZ.out.2.2.below J7.out.bel).cells.1; have g7 := (HZ.out.2.2.below J7.out.bel).thaw.1)
                | fail)
            all_goals
              go_wp2_with fail
              go_roundg r
              case measure => have := HW5.out.2.2.2.2.1; omega
              case rel => exact ⟨_, ws2, a7, q + 1, c7, by have := HW5.out.2.2.2.2.1; omega, rd_next HQ.out HM.out H6.out.1 HR.out.far H6.out.2.2.2.2.2 H6.out.2.2.2.2.1 H8.out J7.out HY.out HZ.out.2.1 HRT.out HZ.out.2.2 H6.out.2.2.1 HRD.out HRK.out (by have := HQ2.out; omega)⟩
        · rw [if_neg h11] at hrk
          have h11' : (vo == 11) = false := by rw [beq_eq_false_iff_ne]; exact h11
          have HNE : Hid (¬ vo = 11) := h11
          clear h11
          obtain ⟨y, x, t, rfl⟩ : ∃ y x t, ns' = y :: x :: t := by
            match ns', hrk with
            | [], hrk => exact absurd hrk.1 (by simp)
            | [_], hrk => exact absurd hrk.1 (by simp)
            | y :: x :: t, _ => exact ⟨y, x, t, rfl⟩
          obtain ⟨q, hq⟩ : ∃ q, nl' = q + 2 := ⟨nl' - 2, by simp at hln; omega⟩
          obtain ⟨p, hp⟩ : ∃ p, p = q + 1 := ⟨_, rfl⟩
          have htl : t.length = q := by simp at hln; omega
          obtain ⟨kv, hkv, hkn⟩ := hu5.get (i := q) (n := x) (by
            rw [List.reverse_cons, List.getElem?_append_left (by simp; omega)]
            exact last_rev (by simp; omega))
          obtain ⟨ku, hku, hkm⟩ := hu5.get (i := p) (n := y) (last_rev (by simp; omega))
          obtain ⟨nb, no, rfl, hnb⟩ := hu1.some_of hkv
          obtain ⟨n0, n1, n2, n3, n4, n5⟩ := hu1.node hkv
          obtain ⟨o0, o1, o2, o3, o4, o5⟩ := hu1.node hku
          obtain ⟨ko', kt, kn, ki, ka, kl, kc, kp⟩ := kv
          obtain ⟨jo, jt, jn, ji, ja, jl, jc, jp⟩ := ku
          simp only at n0 n1 n2 n3 n4 n5 o0 o1 o2 o3 o4 o5
          have j0 : (nl' : Int) - 2 = (q : Int) := by omega
          have j01 : (nl' : Int) - 1 = (p : Int) := by omega
          have j11 : (p : Int) < (nl' : Int) := by omega
          have j21 : (0 : Int) ≤ (p : Int) := by omega
          have j51 : p ≤ 5000 := by omega
          have j1 : (q : Int) < (nl' : Int) := by omega
          have j2 : (0 : Int) ≤ (q : Int) := by omega
          have j3 : (nl' : Int) ≤ (nc' : Int) := by omega
          have j4 : (q : Int) ≤ (nc' : Int) := by omega
          have j5 : q ≤ 5000 := by omega
          have j6 : nl' ≤ 5000 := by omega
          have l1 : m1 < W6.heap.size := H6.out.2.1.lt
          have l5 : m5 < W6.heap.size := H6.out.2.2.2.1.lt
          have HQ2 : Hid (nl' = q + 2 ∧ t.length = q) := ⟨hq, htl⟩
          clear hq hp htl hku
          go_upto_region 10 with fail
          go_cut [8] (fun pv u => ∃ gx gy, pv = .pointer (some ⟨gx, 0, none⟩) ∧ Hid (Md Q m4 W6 u gx gy vo vp [x, y] [⟨ko', kt, kn, ki, ka, kl, kc, kp⟩, ⟨jo, jt, jn, ji, ja, jl, jc, jp⟩]))
          case first =>
            have HK : Hid (NdsIn (fun g => Q g ∨ (m4 < g ∧ g < wr.heap.size)) W6 [⟨ko', kt, kn, ki, ka, kl, kc, kp⟩, ⟨jo, jt, jn, ji, ja, jl, jc, jp⟩] [x, y] ∧ wr.heap.size ≤ W6.heap.size ∧ m4 < W6.heap.size) := ⟨.cons hkn (.cons hkm .nil), H6.out.2.2.2.2.2, H6.out.2.2.1.lt⟩
            clear hkn hkm
            go_region
            all_goals
              go_wp2_with fail
              go_meet
              first
                | exact ⟨W6.heap.size, W6.heap.size + 1, rfl, Md.new1 HK.out.2.1 HK.out.2.2 HK.out.1 _ rfl rfl⟩
                | exact ⟨W6.heap.size + 1, W6.heap.size, rfl, Md.new2 HK.out.2.1 HK.out.2.2 HK.out.1 _ rfl rfl⟩
          case rest =>
            obtain ⟨gx, gy, hpv, H8⟩ := hcut
            subst hpv
            have HZ : Hid (RdG encN wc (some ⟨nb, no, none⟩) us ∧ NdsIn (fun g => Q g ∨ (m4 < g ∧ g < wr.heap.size)) wc us (y :: x :: t).reverse ∧ Box2 wc m1 58 (.slice (some ⟨nb, no, none⟩) nl' nc') (.slice (some ⟨kb, ko, none⟩) r wk)) := ⟨hu1.below H8.out.bel, hu5.stays H8.out.bel, H6.out.2.1.below H8.out.bel⟩
            have x8 := H8.out.box
            simp only [List.length_cons, List.length_nil, Nat.zero_add] at x8
            obtain ⟨x0, x1, x2, x3, x4, x5⟩ := x8.cells
            have l8 : gx < wc.heap.size := x8.lt
            have lm : m1 < wc.heap.size := HZ.out.2.2.lt
            have ln : nb < wc.heap.size := Nat.lt_of_lt_of_le hnb H8.out.bel.size
            clear x8 hu1 hu5 hkv hkn hkm n0 n1 n2 n3 n4 n5 o0 o1 o2 o3 o4 o5 c0 c1 f0 f1 d0 d1 d2 d3 d4 l1 l5 hnb
            have c0 := HZ.out.2.2.cells.1
            have f0 := HZ.out.2.2.thaw.1
            have wq : IntKind.i64.wrap (q : Int) = (q : Int) := by rw [IntKind.wrap_i64]; omega
            go_upto_region 11 with fail
            have hus : us.length = nl' := hu2
            have htl : t.length = q := HQ2.out.2
            have hn2 := HQ2.out.1
            have HRT : Hid ((y :: x :: t).reverse.take q = t.reverse) := by
              show (y :: x :: t).reverse.take q = t.reverse
              rw [List.reverse_cons, List.reverse_cons, List.append_assoc, List.take_left' (by rw [List.length_reverse]; exact htl)]
            have HRD : Hid (red L (⟨vo, [], 0, 0, foOf [x, y], vp⟩ :: t) ws2 = red L ns ws) := (red_bin1 hno HNE.out).symm.trans HR.out.eq
            have HRK : Hid (Rk (t.length + 1) ws2) := by
              show Rk (t.length + 1) ws2
              simpa using hrk.2
            clear htl hn2
            have HU : Hid (us.length = nl' ∧ (us.take q).length = q) := ⟨hu2, by rw [List.length_take]; omega⟩
            have HT : RdG encN wc (some ⟨nb, no, none⟩) (us.take q) := HZ.out.1.take q
            obtain ⟨zs, hzs⟩ : ∃ zs, us.take q = zs := ⟨_, rfl⟩
            rw [hzs] at HT HU
            have HT : Hid (RdG encN wc (some ⟨nb, no, none⟩) zs) := HT
            have HY : Hid (us.take q = zs) := hzs
            clear hzs hus hu2
            go_region_law
              (first
                | (refine stepG_list encN 34 32 72 (.agg #[.int .i64 0, .string ⟨#[]⟩, .int .i64 0, .int .u64 0, .slice none 0 0, .int .i64 0]) rfl infoR Tryz.underlying32 rfl (.tmp 84) (.tmp 89) rfl wc.heap.size (.slice (some ⟨wc.heap.size, 0, none⟩) 0 0) [] zs (some ⟨nb, no, none⟩) q nc' (by simp [Act.eval, Act.put]) (own0 encN 34 (Nat.le_refl _) (Below.refl _ _).drew) (by simp [Act.eval, Act.put]) (HT.out.below ((bz1 wc _).drew)) HU.out.2 (by simp; omega) (by simp only [maxLen, List.length_nil]; omega) (by simp [World.drew]) ?_; intro v5 w5 ho5 hb5 ht5; rw [List.nil_append] at ho5; obtain ⟨a5, c5, e5, q5, _, r5, _⟩ := OwnG.form ho5; rw [HU.out.2] at e5; subst e5; have J5 : Hid (Gone wc w5 (.slice a5 q c5) zs) := ⟨ho5, ((bz1 wc _).drew).trans hb5⟩; clear ho5 hb5 ht5 q5 r5; obtain ⟨y0, y1, y2, y3, y4, y5⟩ := (H8.out.box.below J5.out.bel).cells; have lw5 := J5.out.bel.size)
                | (refine stepG_at encN 34 32 72 (.agg #[.int .i64 0, .string ⟨#[]⟩, .int .i64 0, .int .u64 0, .slice none 0 0, .int .i64 0]) rfl infoR Tryz.underlying32 rfl (.tmp 90) (.tmp 92) rfl wc.heap.size (.slice a5 q c5) zs ⟨vo, [], 0, 0, some ⟨gy, 0, none⟩, 2, 2, vp⟩ (by simp [Act.eval]) (J5.out.own.below (bz1 w5 _)) w5.heap.size (by simp [Act.eval]) (cells_new encN w5 ⟨vo, [], 0, 0, some ⟨gy, 0, none⟩, 2, 2, vp⟩ 34) (by have := HU.out.2; omega) (by have := HU.out.2; simp only [maxLen]; omega) (by simp; omega) ?_; intro v7 w7 ho7 hb7 hm7 ht7; obtain ⟨a7, c7, e7, q7, _, r7, _⟩ := OwnG.form ho7; rw [List.length_append, HU.out.2] at e7; simp only [List.length_cons, List.length_nil, Nat.zero_add] at e7; subst e7; have J7 : Hid (Gone wc w7 (.slice a7 (q + 1) c7) (zs ++ [⟨vo, [], 0, 0, some ⟨gy, 0, none⟩, 2, 2, vp⟩])) := J5.out.more ho7 (((bz1 w5 _).mono (by omega)).trans hb7); clear ho7 hb7 hm7 ht7 q7 r7; have z7 := (HZ.out.2.2.below J7.out.bel).cells.1; have g7 := (HZ.out.2.2.below J7.out.bel).thaw.1)
                | (refine stepG_list encN 34 32 72 (.agg #[.int .i64 0, .string ⟨#[]⟩, .int .i64 0, .int .u64 0, .slice none 0 0, .int .i64 0]) rfl infoR Tryz.underlying32 rfl (.tmp 84) (.tmp 89) rfl wc.heap.size (.slice (some ⟨wc.heap.size, 0, none⟩) 0 0) [] zs (some ⟨nb, no, none⟩) q nc' (by simp [Act.eval, Act.put]) (gony2 wc ⟨vo, [], 0, 0, some ⟨gy, 0, none⟩, 2, 2, vp⟩ _ rfl).own (by simp [Act.eval, Act.put]) (HT.out.below (bz2 wc _ _).drew) HU.out.2 (by simp; omega) (by simp only [maxLen, List.length_nil]; omega) (by simp [World.drew]; omega) ?_; intro v5 w5 ho5 hb5 ht5; rw [List.nil_append] at ho5; obtain ⟨a5, c5, e5, q5, _, r5, _⟩ := OwnG.form ho5; rw [HU.out.2] at e5; subst e5; have J5 : Hid (Gone wc w5 (.slice a5 q c5) zs) := ⟨ho5, ((bz2 wc _ _).drew).trans hb5⟩; have Y5 : Hid (∀ j c, (encN.cells ⟨vo, [], 0, 0, some ⟨gy, 0, none⟩, 2, 2, vp⟩)[j]? = some c → w5.cell? ((⟨(wc.heap.size + 1), 0, none⟩ : Addr).add j) = some c) := (gony2 wc ⟨vo, [], 0, 0, some ⟨gy, 0, none⟩, 2, 2, vp⟩ _ rfl).after ht5; clear ho5 hb5 ht5 q5 r5; have lw5 := J5.out.bel.size)
                | (refine stepG_at encN 34 32 72 (.agg #[.int .i64 0, .string ⟨#[]⟩, .int .i64 0, .int .u64 0, .slice none 0 0, .int .i64 0]) rfl infoR Tryz.underlying32 rfl (.tmp 90) (.tmp 92) rfl wc.heap.size (.slice a5 q c5) zs ⟨vo, [], 0, 0, some ⟨gy, 0, none⟩, 2, 2, vp⟩ (by simp [Act.eval]) J5.out.own (wc.heap.size + 1) (by simp [Act.eval]) Y5.out (by have := HU.out.2; omega) (by have := HU.out.2; simp only [maxLen]; omega) J5.out.bel.size ?_; intro v7 w7 ho7 hb7 hm7 ht7; obtain ⟨a7, c7, e7, q7, _, r7, _⟩ := OwnG.form ho7; rw [List.length_append, HU.out.2] at e7; simp only [List.length_cons, List.length_nil, Nat.zero_add] at e7; subst e7; have J7 : Hid (Gone wc w7 (.slice a7 (q + 1) c7) (zs ++ [⟨vo, [], 0, 0, some ⟨gy, 0, none⟩, 2, 2, vp⟩])) := J5.out.more ho7 hb7; clear ho7 hb7 hm7 ht7 q7 r7; have z7 := (HZ.out.2.2.below J7.out.bel).cells.1; have g7 := (HZ.out.2.2.below J7.out.bel).thaw.1)
                | (refine stepG_list encN 34 32 72 (.agg #[.int .i64 0, .string ⟨#[]⟩, .int .i64 0, .int .u64 0, .slice none 0 0, .int .i64 0]) rfl infoR Tryz.underlying32 rfl (.tmp 84) (.tmp 89) rfl wc.heap.size (.slice (some ⟨wc.heap.size + 1, 0, none⟩) 0 0) [] zs (some ⟨nb, no, none⟩) q nc' (by simp [Act.eval, Act.put]) (gony3 wc ⟨vo, [], 0, 0, some ⟨gy, 0, none⟩, 2, 2, vp⟩ _ rfl).own (by simp [Act.eval, Act.put]) (HT.out.below (bz2 wc _ _).drew) HU.out.2 (by simp; omega) (by simp only [maxLen, List.length_nil]; omega) (by simp [World.drew]; omega) ?_; intro v5 w5 ho5 hb5 ht5; rw [List.nil_append] at ho5; obtain ⟨a5, c5, e5, q5, _, r5, _⟩ := OwnG.form ho5; rw [HU.out.2] at e5; subst e5; have J5 : Hid (Gone wc w5 (.slice a5 q c5) zs) := ⟨ho5, ((bz2 wc _ _).drew).trans hb5⟩; have Y5 : Hid (∀ j c, (encN.cells ⟨vo, [], 0, 0, some ⟨gy, 0, none⟩, 2, 2, vp⟩)[j]? = some c → w5.cell? ((⟨wc.heap.size, 0, none⟩ : Addr).add j) = some c) := (gony3 wc ⟨vo, [], 0, 0, some ⟨gy, 0, none⟩, 2, 2, vp⟩ _ rfl).after ht5; clear ho5 hb5 ht5 q5 r5; have lw5 := J5.out.bel.size)
                | (refine stepG_at encN 34 32 72 (.agg #[.int .i64 0, .string ⟨#[]⟩, .int .i64 0, .int .u64 0, .slice none 0 0, .int .i64 0]) rfl infoR Tryz.underlying32 rfl (.tmp 90) (.tmp 92) rfl wc.heap.size (.slice a5 q c5) zs ⟨vo, [], 0, 0, some ⟨gy, 0, none⟩, 2, 2, vp⟩ (by simp [Act.eval]) J5.out.own wc.heap.size (by simp [Act.eval]) Y5.out (by have := HU.out.2; omega) (by have := HU.out.2; simp only [maxLen]; omega) J5.out.bel.size ?_; intro v7 w7 ho7 hb7 hm7 ht7; obtain ⟨a7, c7, e7, q7, _, r7, _⟩ := OwnG.form ho7; rw [List.length_append, HU.out.2] at e7; simp only [List.length_cons, List.length_nil, Nat.zero_add] at e7; subst e7; have J7 : Hid (Gone wc w7 (.slice a7 (q + 1) c7) (zs ++ [⟨vo, [], 0, 0, some ⟨gy, 0, none⟩, 2, 2, vp⟩])) := J5.out.more ho7 hb7; clear ho7 hb7 hm7 ht7 q7 r7; have z7 := (HZ.out.2.2.below J7.out.bel).cells.1; have g7 := (HZ.out.2.2.below J7.out.bel).thaw.1)
                | fail)
            all_goals
              go_wp2_with fail
              go_roundg r
              case measure => have := HW5.out.2.2.2.2.1; omega
              case rel => exact ⟨_, ws2, a7, q + 1, c7, by have := HW5.out.2.2.2.2.1; omega, rd_next HQ.out HM.out H6.out.1 HR.out.far H6.out.2.2.2.2.2 H6.out.2.2.2.2.1 H8.out J7.out HY.out HZ.out.2.1 HRT.out HZ.out.2.2 H6.out.2.2.1 HRD.out HRK.out (by have := HQ2.out.1; omega)⟩

end Go.Proofs.YtijchmcajhdcoaaGreatDoor
