import Derived.Test.YtijchmcajhdcoaaGreatDoorBROps
/-!
  The reference's state in memory; its ranged and inCall by contracts. No condition but that not too much waits.
-/
namespace Go.Proofs.YtijchmcajhdcoaaGreatDoor
open Go.RowKit

def encW : Enc Wt := ⟨fun v => [.int .i64 v.op, .int .i64 v.pos, .string ⟨v.text.toArray⟩, .bool v.opn, .int .i64 (v.nodes : Nat)], 5, fun _ => rfl, by decide, by intro x u h; simp at h; rcases h with rfl | rfl | rfl | rfl | rfl <;> rfl⟩

section
variable {w : World}
theorem RdG.wait {b off : Nat} {vs : List Wt} (h : RdG encW w (some ⟨b, off, none⟩) vs) {i : Nat} {v : Wt} (hx : vs[i]? = some v) :
    w.cell? ⟨b, off + i * 5, none⟩ = some (.int .i64 v.op) ∧ w.cell? ⟨b, off + i * 5 + 1, none⟩ = some (.int .i64 v.pos) ∧ w.cell? ⟨b, off + i * 5 + 2, none⟩ = some (.string ⟨v.text.toArray⟩) ∧ w.cell? ⟨b, off + i * 5 + 3, none⟩ = some (.bool v.opn) ∧ w.cell? ⟨b, off + i * 5 + 4, none⟩ = some (.int .i64 (v.nodes : Nat)) := by
  obtain ⟨b', off', e, hlt, hc⟩ := h (by rcases Nat.lt_or_ge i vs.length with q | q
                                         · omega
                                         · rw [List.getElem?_eq_none q] at hx; cases hx)
  obtain ⟨rfl, rfl⟩ : b = b' ∧ off = off' := by simpa using e
  have h0 := hc i v hx 0 _ rfl
  have h1 := hc i v hx 1 _ rfl
  have h2 := hc i v hx 2 _ rfl
  have h3 := hc i v hx 3 _ rfl
  have h4 := hc i v hx 4 _ rfl
  exact ⟨by simpa [encW] using h0, by simpa [encW, Nat.add_assoc] using h1, by simpa [encW, Nat.add_assoc] using h2, by simpa [encW, Nat.add_assoc] using h3, by simpa [encW, Nat.add_assoc] using h4⟩
end

/-- The state: its nodes in rows of Q, what waits in a row of its own. -/
structure St (Q : Nat → Prop) (B : Nat) (w : World) (na : Option Addr) (nl nc : Nat) (wa : Option Addr) (wl wc : Nat) (ns : List Nd) (ws : List Wt) : Prop where
  wts : OwnG encW 62 w B (.slice wa wl wc) ws.reverse
  wl : ws.length = wl
  nds : ∃ us, RdG encN w na us ∧ us.length = nl ∧ nl ≤ nc ∧ (0 < us.length → ∀ a, na = some a → Q a.block) ∧ NdsIn Q w us ns.reverse
section
variable {Q : Nat → Prop} {B : Nat} {w w' : World} {na wa : Option Addr} {nl nc wl wc : Nat} {ns : List Nd} {ws : List Wt}
theorem St.len (h : St Q B w na nl nc wa wl wc ns ws) : ns.length = nl := by
  obtain ⟨us, _, h2, _, _, h5⟩ := h.nds
  have := h5.len
  rw [List.length_reverse] at this
  omega
theorem St.below (h : St Q B w na nl nc wa wl wc ns ws) (hb : Below w.heap.size w w') : St Q B w' na nl nc wa wl wc ns ws := by
  obtain ⟨us, h1, h2, h3, h4, h5⟩ := h.nds
  exact ⟨h.wts.below hb, h.wl, us, h1.below hb, h2, h3, h4, h5.stays hb⟩
theorem St.mono {R : Nat → Prop} (h : St Q B w na nl nc wa wl wc ns ws) (hQ : ∀ g, Q g → R g) : St R B w na nl nc wa wl wc ns ws := by
  obtain ⟨us, h1, h2, h3, h4, h5⟩ := h.nds
  exact ⟨h.wts, h.wl, us, h1, h2, h3, fun q a e => hQ _ (h4 q a e), h5.mono hQ⟩
theorem St.turned {S : Nat → Prop} (h : St Q B w na nl nc wa wl wc ns ws) (ht : Turned S w w') (hw : ∀ g, (Value.slice wa wl wc).ownBlock = some g → ¬ S g) (hQ : ∀ g, Q g → ¬ S g) : St Q B w' na nl nc wa wl wc ns ws := by
  obtain ⟨us, h1, h2, h3, h4, h5⟩ := h.nds
  exact ⟨ownsRow_turned h.wts ht hw, h.wl, us, h1.turnN ht (fun q a e => hQ _ (h4 q a e)), h2, h3, h4, h5.turned ht hQ⟩
/-- What waits can be read. -/
theorem St.rd (h : St Q B w na nl nc wa wl wc ns ws) : RdG encW w wa ws.reverse ∧ wl ≤ wc := by
  obtain ⟨ao, c, e, h1, _, h3, _⟩ := OwnG.form h.wts
  obtain ⟨rfl, e2, rfl⟩ : wa = ao ∧ wl = ws.reverse.length ∧ wc = c := by simpa using e
  exact ⟨h3, by omega⟩
end

/-- What waits, one by one from the last. -/
theorem wait_at {ws : List Wt} {r : Nat} (h : r < ws.length) : ∃ v, ws.drop (ws.length - (r + 1)) = v :: ws.drop (ws.length - r) ∧ ws.reverse[r]? = some v := by
  have h1 : ws.length - (r + 1) < ws.length := by omega
  refine ⟨ws[ws.length - (r + 1)], ?_, ?_⟩
  · rw [List.drop_eq_getElem_cons h1, show ws.length - (r + 1) + 1 = ws.length - r by omega]
  · rw [List.getElem?_reverse h, show ws.length - 1 - r = ws.length - (r + 1) by omega, List.getElem?_eq_getElem h1]

theorem inCall_open {w : Wt} {ws : List Wt} (h : w.opn = true) : inCall (w :: ws) = decide (w.text ≠ []) := by rw [inCall, if_pos h]
theorem inCall_shut {w : Wt} {ws : List Wt} (h : w.opn = false) : inCall (w :: ws) = inCall ws := by rw [inCall, if_neg (by simp [h])]

set_option maxHeartbeats 1600000 in
set_option maxRecDepth 100000 in
theorem inCall_any {Q : Nat → Prop} {B : Nat} (w : World) {na wa : Option Addr} {nl nc wl wc : Nat} {ns : List Nd} {ws : List Wt} (h : St Q B w na nl nc wa wl wc ns ws) (hw : wl ≤ 5000) :
    Calls Tryz.prog 21 #[.agg #[.slice na nl nc, .slice wa wl wc]] w fun e w' => e = .returned (.bool (inCall ws)) ∧ Below w.heap.size w w' := by
  obtain ⟨hrd, hwc⟩ := h.rd
  have hwl := h.wl
  obtain ⟨W1, m1, hW1, hm1, bW1, hs1⟩ := layR w 58 #[.slice na nl nc, .slice wa wl wc]
  have hbx : Box2 W1 m1 58 (.slice na nl nc) (.slice wa wl wc) := by rw [← hW1, ← hm1]; exact Box2.new _ _ _ _
  have H : Hid (RdG encW W1 wa ws.reverse ∧ Below w.heap.size w W1 ∧ ws.length = wl ∧ inCall ws = inCall (ws.drop (ws.length - wl))) := ⟨hrd.below bW1, bW1, hwl, by rw [hwl, Nat.sub_self]; rfl⟩
  obtain ⟨c0, c1⟩ := hbx.cells
  clear h hrd bW1 hs1 hbx hwl
  go_enter Tryz.func21, Tryz.ntmps21
  go_upto_region 1 with fail
  clear hW1 hm1
  go_wp2_with fail
  go_loopg [3] wl (fun g iv wr => ∃ r : Nat, iv = .int .i64 ((r : Int) - 1) ∧ r = g ∧ r ≤ wl ∧ wr = W1 ∧ Hid (inCall ws = inCall (ws.drop (ws.length - r))))
  case atStart => exact ⟨wl, rfl, rfl, Nat.le_refl _, rfl, H.out.2.2.2⟩
  case round =>
    obtain ⟨r, rfl, hr, hrw, rfl, HI⟩ := hrel
    cases r with
    | zero =>
      have h0 : ¬ (0 : Int) ≤ ((0 : Nat) : Int) - 1 := by omega
      have HE : Hid (inCall ws = false) := by
        show inCall ws = false
        rw [HI.out, Nat.sub_zero, List.drop_length]
        rfl
      go_wp2_with fail
      go_ret
      exact ⟨congrArg (fun b => Ending.returned (Value.bool b)) HE.out.symm, H.out.2.1⟩
    | succ r =>
      obtain ⟨v, hv1, hv2⟩ := wait_at (ws := ws) (r := r) (by have := H.out.2.2.1; omega)
      have hrw' : r < wl := by omega
      obtain ⟨kb, ko, rfl, _⟩ := H.out.1.some_of hv2
      obtain ⟨k0, k1, k2, k3, k4⟩ := H.out.1.wait hv2
      rw [hv1] at HI
      have e1 : (((r + 1 : Nat) : Int) - 1) = (r : Int) := by omega
      rw [e1]
      have i0 : (0 : Int) ≤ (r : Int) := by omega
      have i1 : (r : Int) < (wl : Int) := by omega
      obtain ⟨vo, vp, vt, vb, vn⟩ := v
      simp only at k0 k1 k2 k3 k4
      clear hv1 hv2
      cases vb with
      | true =>
        have HE : Hid (inCall ws = decide (vt ≠ [])) := HI.out.trans (inCall_open rfl)
        clear HI e1 hr
        by_cases ht : vt = []
        · subst ht
          go_wp2_with fail
          go_ret
          exact ⟨congrArg (fun b => Ending.returned (Value.bool b)) HE.out.symm, H.out.2.1⟩
        · have ht' : (vt == []) = false := by rw [beq_eq_false_iff_ne]; exact ht
          have HF : Hid (inCall ws = true) := HE.out.trans (decide_eq_true ht)
          clear ht
          go_wp2_with fail
          go_ret
          exact ⟨congrArg (fun b => Ending.returned (Value.bool b)) HF.out.symm, H.out.2.1⟩
      | false =>
        have HE : Hid (inCall ws = inCall (ws.drop (ws.length - r))) := HI.out.trans (inCall_shut rfl)
        go_wp2_with fail
        go_roundg r
        case measure => omega
        case rel => exact ⟨r, by go_num, rfl, by omega, rfl, HE.out⟩

end Go.Proofs.YtijchmcajhdcoaaGreatDoor

/-!
  The reference's ranged by a contract. No condition but that not too much waits.
-/
namespace Go.Proofs.YtijchmcajhdcoaaGreatDoor
open Go.RowKit

theorem ranged_stop {w : Wt} {ws : List Wt} (h : w.opn = true ∨ lvl w.op < 3) : ranged (w :: ws) = false := by rw [ranged, if_pos h]
theorem ranged_yes {w : Wt} {ws : List Wt} (h : ¬ (w.opn = true ∨ lvl w.op < 3)) (h3 : lvl w.op = 3) : ranged (w :: ws) = true := by rw [ranged, if_neg h, if_pos h3]
theorem ranged_on {w : Wt} {ws : List Wt} (h : ¬ (w.opn = true ∨ lvl w.op < 3)) (h3 : ¬ lvl w.op = 3) : ranged (w :: ws) = ranged ws := by rw [ranged, if_neg h, if_neg h3]

set_option maxHeartbeats 1600000 in
set_option maxRecDepth 100000 in
theorem ranged_any {Q : Nat → Prop} {B : Nat} (w : World) {na wa : Option Addr} {nl nc wl wc : Nat} {ns : List Nd} {ws : List Wt} (h : St Q B w na nl nc wa wl wc ns ws) (hw : wl ≤ 5000) :
    Calls Tryz.prog 19 #[.agg #[.slice na nl nc, .slice wa wl wc]] w fun e w' => e = .returned (.bool (ranged ws)) ∧ Below w.heap.size w w' := by
  obtain ⟨hrd, hwc⟩ := h.rd
  have hwl := h.wl
  obtain ⟨W1, m1, hW1, hm1, bW1, hs1⟩ := layR w 58 #[.slice na nl nc, .slice wa wl wc]
  have hbx : Box2 W1 m1 58 (.slice na nl nc) (.slice wa wl wc) := by rw [← hW1, ← hm1]; exact Box2.new _ _ _ _
  have H : Hid (RdG encW W1 wa ws.reverse ∧ Below w.heap.size w W1 ∧ ws.length = wl ∧ ranged ws = ranged (ws.drop (ws.length - wl)) ∧ Box2 W1 m1 58 (.slice na nl nc) (.slice wa wl wc)) := ⟨hrd.below bW1, bW1, hwl, by rw [hwl, Nat.sub_self]; rfl, hbx⟩
  obtain ⟨c0, c1⟩ := hbx.cells
  clear h hrd bW1 hs1 hbx hwl
  go_enter Tryz.func19, Tryz.ntmps19
  go_upto_region 1 with fail
  clear hW1 hm1
  go_wp2_with fail
  clear c0 c1
  go_loopg [3] wl (fun g iv wr => ∃ r : Nat, iv = .int .i64 ((r : Int) - 1) ∧ r = g ∧ r ≤ wl ∧ Hid (Below W1.heap.size W1 wr ∧ ranged ws = ranged (ws.drop (ws.length - r))))
  case atStart => exact ⟨wl, rfl, rfl, Nat.le_refl _, Below.refl _ _, H.out.2.2.2.1⟩
  case round =>
    obtain ⟨r, rfl, hr, hrw, HI⟩ := hrel
    have HB : Hid (Below w.heap.size w wr) := H.out.2.1.trans (HI.out.1.mono H.out.2.1.size)
    obtain ⟨c0, c1⟩ := (H.out.2.2.2.2.below HI.out.1).cells
    cases r with
    | zero =>
      have h0 : ¬ (0 : Int) ≤ ((0 : Nat) : Int) - 1 := by omega
      have HE : Hid (ranged ws = false) := by
        show ranged ws = false
        rw [HI.out.2, Nat.sub_zero, List.drop_length]
        rfl
      go_wp2_with fail
      go_ret
      exact ⟨congrArg (fun b => Ending.returned (Value.bool b)) HE.out.symm, HB.out⟩
    | succ r =>
      obtain ⟨v, hv1, hv2⟩ := wait_at (ws := ws) (r := r) (by have := H.out.2.2.1; omega)
      have hrw' : r < wl := by omega
      have hrd := H.out.1.below HI.out.1
      obtain ⟨kb, ko, rfl, _⟩ := hrd.some_of hv2
      obtain ⟨k0, k1, k2, k3, k4⟩ := hrd.wait hv2
      rw [hv1] at HI
      have e1 : (((r + 1 : Nat) : Int) - 1) = (r : Int) := by omega
      rw [e1]
      have i0 : (0 : Int) ≤ (r : Int) := by omega
      have i1 : (r : Int) < (wl : Int) := by omega
      obtain ⟨vo, vp, vt, vb, vn⟩ := v
      simp only at k0 k1 k2 k3 k4
      obtain ⟨W5, m5, hW5, hm5, hx5, bW5, c5, hB5, hlt5⟩ := lay5 HI.out.1 HI.out.1.size 62 (.int .i64 vo) (.int .i64 vp) (.string ⟨vt.toArray⟩) (.bool vb) (.int .i64 (vn : Nat))
      obtain ⟨d0, d1, d2, d3, d4⟩ := hx5.cells
      have HW5 : Hid (Below W1.heap.size W1 W5 ∧ Below w.heap.size w W5) := ⟨bW5, H.out.2.1.trans (bW5.mono H.out.2.1.size)⟩
      clear hv1 hv2 hrd hx5 bW5 c5
      cases vb with
      | true =>
        have HE : Hid (ranged ws = false) := HI.out.2.trans (ranged_stop (.inl rfl))
        clear HI e1 hr
        go_upto_region 5 with fail
        clear hW5 hm5
        go_wp2_with fail
        go_ret
        exact ⟨congrArg (fun b => Ending.returned (Value.bool b)) HE.out.symm, HW5.out.2⟩
      | false =>
        have hlv := rlevel_any vo W5
        obtain ⟨V, hV⟩ : ∃ V, lvl vo = V := ⟨_, rfl⟩
        rw [hV] at hlv
        have HL : Hid (Calls Tryz.prog 18 _ _ _) := hlv
        clear hlv
        by_cases h3 : V < 3
        · have HE : Hid (ranged ws = false) := HI.out.2.trans (ranged_stop (.inr (by show lvl vo < 3; omega)))
          clear HI e1 hr hV
          go_upto_region 5 with fail
          clear hW5 hm5
          go_wp2_with (go_at_call 18; refine HL.out.mono ?_; rintro e w6 ⟨rfl, hw6⟩; rw [hw6]; clear hw6)
          go_ret
          exact ⟨congrArg (fun b => Ending.returned (Value.bool b)) HE.out.symm, HW5.out.2⟩
        · have hno : ¬ ((⟨vo, vp, vt, false, vn⟩ : Wt).opn = true ∨ lvl (⟨vo, vp, vt, false, vn⟩ : Wt).op < 3) := fun q => q.elim (fun q => by cases q) (fun q => by have : lvl vo < 3 := q; omega)
          by_cases h33 : V = 3
          · have HE : Hid (ranged ws = true) := HI.out.2.trans (ranged_yes hno (show lvl vo = 3 by omega))
            subst h33
            clear HI e1 hr hV hno
            go_upto_region 5 with fail
            clear hW5 hm5
            go_wp2_with (go_at_call 18; refine HL.out.mono ?_; rintro e w6 ⟨rfl, hw6⟩; rw [hw6]; clear hw6)
            go_ret
            exact ⟨congrArg (fun b => Ending.returned (Value.bool b)) HE.out.symm, HW5.out.2⟩
          · have HE : Hid (Below W1.heap.size W1 W5 ∧ ranged ws = ranged (ws.drop (ws.length - r))) := ⟨HW5.out.1, HI.out.2.trans (ranged_on hno (show ¬ lvl vo = 3 by omega))⟩
            have h34 : (V == 3) = false := by rw [beq_eq_false_iff_ne]; exact h33
            clear HI hV hno
            go_upto_region 5 with fail
            clear hW5 hm5
            go_wp2_with (go_at_call 18; refine HL.out.mono ?_; rintro e w6 ⟨rfl, hw6⟩; rw [hw6]; clear hw6)
            go_roundg r
            case measure => omega
            case rel => exact ⟨r, by go_num, rfl, by omega, HE.out⟩

end Go.Proofs.YtijchmcajhdcoaaGreatDoor

/-!
  Rows of things: one cut short, and a whole list behind one in a drawn region; what stands in the reference's state when a wait is taken away. No program but the numbers of types; no condition.
-/
namespace Go.Proofs.YtijchmcajhdcoaaGreatDoor
open Go.RowKit

/-- A row of the call's own, cut short. -/
theorem OwnG.cut {α : Type} {E : Enc α} {e : TypeId} {w : World} {B : Nat} {ao : Option Addr} {n c : Nat} {xs : List α} (h : OwnG E e w B (.slice ao n c) xs) (k : Nat) (hk : k ≤ n) : OwnG E e w B (.slice ao k c) (xs.take k) := by
  have hn : xs.length = n := own_len h
  have hl : (xs.take k).length = k := by rw [List.length_take]; omega
  have he : E.all (xs.take k) = (E.all xs).take (k * E.size) := by
    have e1 : E.all xs = E.all (xs.take k) ++ E.all (xs.drop k) := by rw [← E.all_append, List.take_append_drop]
    have e2 : (E.all (xs.take k)).length = k * E.size := by rw [E.all_length, hl]
    rw [e1, ← e2, List.take_left]
  unfold OwnG
  rw [hl, he]
  refine ⟨by rw [List.length_take, E.all_length, hn]; exact Nat.min_eq_left (Nat.mul_le_mul_right _ hk), ?_⟩
  rcases h.2 with ⟨e1, h0⟩ | ⟨g, cap, cur, e1, hb, hg, hnc, hcm, hcs, ht⟩
  · obtain ⟨rfl, rfl, rfl⟩ : ao = none ∧ n = 0 ∧ c = 0 := by simpa using e1
    obtain rfl : k = 0 := by omega
    exact .inl ⟨rfl, rfl⟩
  · obtain ⟨rfl, rfl, rfl⟩ : ao = some ⟨g, 0, none⟩ ∧ n = xs.length ∧ c = cap := by simpa using e1
    refine .inr ⟨g, c, cur, rfl, hb, hg, by omega, hcm, hcs, ?_⟩
    rw [← ht, List.take_take, Nat.min_eq_left (Nat.mul_le_mul_right _ hk)]

/-- A list behind a row of the call's own, within a region whose order is drawn. -/
theorem stepG_list {α : Type} {ops : Array Oper} {o : Oper} {a : Act} {w : World} {K : Act → World → Prop} {Q : Exit → Act → World → Prop} {X : Prop} (E : Enc α) (e t : TypeId) (bytes : Nat) (z : Value) (hz : z.cells.size = E.size)
    (hinfo : (Tryz.prog.info? e).map (fun i => (i.zero, i.size, i.bytes)) = some (some z, E.size, bytes)) (hu : Tryz.prog.underlying t = some (.slice e)) (hgd : o.guard = none) (s x : Operand)
    (hop : o.op = .call { callee := .builtin .append, args := #[s, x], argTypes := #[t, t] }) (base : Nat) (v : Value) (ss xs : List α) (ao : Option Addr) (n c : Nat) (hs : a.eval s = v) (hown : OwnG E e w base v ss)
    (hx : a.eval x = .slice ao n c) (hr : RdG E w ao xs) (hl : xs.length = n) (hlen : (ss.length + n) * bytes ≤ 140737488355328) (hmax : ss.length + n ≤ maxLen) (hb : base ≤ w.heap.size)
    (h : ∀ v' w', OwnG E e w' base v' (ss ++ xs) → Below base w w' → Turned (fun k => v.ownBlock = some k) w w' → K (a.put o.dst v') w') :
    if Region.wanted o (yielded ops a.tmps) = true then Oper.wp Tryz.prog o a w K Q else X := by
  obtain ⟨i0, hi0, hz0, hz1, hz2⟩ := info_parts hinfo
  by_cases h0 : 0 < xs.length
  · obtain ⟨b, off, rfl, hlt, hc⟩ := hr h0
    refine step_append_moved hgd s x t hop base e i0 _ E.size bytes hu hi0 hz0 hz1 hz2 hz E.pos v ss.length (E.all ss) hs hown ⟨b, off, none⟩ n c (E.all xs) hx (by rw [E.all_length, hl]) (by
      intro k u hk
      obtain ⟨i, j, y, rfl, hj, hy, hu⟩ := E.all_split xs k u hk
      rw [addr_plus]
      exact hc i y hy j u hu) (E.all_one xs) hmax hlen hb ?_
    intro v' w' h1 h2 h3
    have ht : Turned (fun k => v.ownBlock = some k) w w' := (Turned.refl _ _).grown h2 (fun k _ e => e)
    refine h v' w' ?_ (OwnG.turn hown hb ht) ht
    unfold OwnG
    rw [List.length_append, E.all_append, hl]
    exact h1
  · obtain rfl : xs = [] := List.eq_nil_of_length_eq_zero (by omega)
    obtain rfl : n = 0 := hl.symm
    obtain ⟨ao2, cap, rfl, hle, _, _⟩ := hown.form
    have hw : Region.wanted o (yielded ops a.tmps) = true := by simp [Region.wanted, hgd]
    rw [if_pos hw]
    have hrun := run_append_none t o.type e i0 hu hi0 ao2 ss.length cap hle ao c w
    unfold Oper.wp
    simp [execOp, hop, resolve, invoke, builtin, hs, hx, hrun, Result.andThen]
    exact h _ w (by rw [List.append_nil]; exact hown) (Below.refl _ _) (Turned.refl _ _)

/-- A row without things. -/
theorem own0 {α : Type} (E : Enc α) (e : TypeId) {w u : World} {B : Nat} (hB : B ≤ w.heap.size) (h : Below (w.alloc (.cells #[] e)).heap.size (w.alloc (.cells #[] e)) u) : OwnG E e u B (.slice (some ⟨w.heap.size, 0, none⟩) 0 0) [] := by
  have h0 : OwnG E e (w.alloc (.cells #[] e)) B (.slice (some ⟨w.heap.size, 0, none⟩) 0 0) [] := World.ownsRow_made w #[] 0 hB (Nat.zero_le _) (by simp)
  exact h0.below h

/-- A row that was begun with another one. -/
structure Gone (w u : World) (v : Value) (l : List NV) : Prop where
  own : OwnG encN 34 u w.heap.size v l
  bel : Below w.heap.size w u
/-- One thing more behind it. -/
theorem Gone.more {w u u' : World} {v v' : Value} {l l' : List NV} (h : Gone w u v l) (ho : OwnG encN 34 u' w.heap.size v' l') (hb : Below w.heap.size u u') : Gone w u' v' l' := ⟨ho, h.bel.trans hb⟩

/-- A row without things, and beside it one that holds a node. -/
structure Gony (w u : World) (v : Value) (bx : Nat) (n : NV) : Prop where
  own : OwnG encN 34 u w.heap.size v []
  bel : Below w.heap.size w u
  it : ∀ j c, (encN.cells n)[j]? = some c → u.cell? ((⟨bx, 0, none⟩ : Addr).add j) = some c
  lt : bx < u.heap.size
  far : ∀ k, v.ownBlock = some k → k ≠ bx
theorem gony2 (w : World) (n : NV) (cs : Array Value) (hc : cs = (encN.cells n).toArray) : Gony w ((w.alloc (.cells #[] 34)).alloc (.cells cs 34)).drew (.slice (some ⟨w.heap.size, 0, none⟩) 0 0) (w.heap.size + 1) n := by
  subst hc
  refine ⟨own0 encN _ (Nat.le_refl _) (bz1 _ _).drew, (bz2 w _ _).drew, fun j c h => ?_, by simp [World.drew], fun k e => ?_⟩
  · have := cells_new encN (w.alloc (.cells #[] 34)) n 34 j c h
    simpa using this
  · have e' : w.heap.size = k := by simpa [Value.ownBlock] using e
    omega
theorem gony3 (w : World) (n : NV) (cs : Array Value) (hc : cs = (encN.cells n).toArray) : Gony w ((w.alloc (.cells cs 34)).alloc (.cells #[] 34)).drew (.slice (some ⟨w.heap.size + 1, 0, none⟩) 0 0) w.heap.size n := by
  subst hc
  refine ⟨?_, (bz2 w _ _).drew, fun j c h => ?_, by simp [World.drew]; omega, fun k e => ?_⟩
  · have := own0 encN 34 (w := w.alloc (.cells (encN.cells n).toArray 34)) (B := w.heap.size) (by simp) (Below.refl _ _).drew
    simpa using this
  · have := cells_new encN w n 34 j c h
    rw [addr_at] at this ⊢
    exact ((bz1 (w.alloc (.cells (encN.cells n).toArray 34)) (.cells #[] 34)).cell (p := ⟨w.heap.size, j, none⟩) (by simp)).trans this
  · have e' : w.heap.size + 1 = k := by simpa [Value.ownBlock] using e
    omega
/-- It is still there when the other row has grown. -/
theorem Gony.after {w u u' : World} {v : Value} {bx : Nat} {n : NV} (h : Gony w u v bx n) (ht : Turned (fun k => v.ownBlock = some k) u u') : ∀ j c, (encN.cells n)[j]? = some c → u'.cell? ((⟨bx, 0, none⟩ : Addr).add j) = some c := by
  intro j c hc
  have := h.it j c hc
  rw [addr_at] at this ⊢
  rw [ht.cell (p := ⟨bx, j, none⟩) h.lt (fun q => h.far bx q rfl)]
  exact this

end Go.Proofs.YtijchmcajhdcoaaGreatDoor
