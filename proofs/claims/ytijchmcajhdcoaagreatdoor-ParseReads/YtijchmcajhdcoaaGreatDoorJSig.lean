import Derived.Test.YtijchmcajhdcoaaGreatDoorJReg
import Derived.Test.YtijchmcajhdcoaaGreatDoorBRPiv
/-!
  The reference's Parse, where a sign between two comes: what holds so tightly is done, by a contract over a frame that is a letter. No condition.
-/
namespace Go.Proofs.YtijchmcajhdcoaaGreatDoor
open Go.RowKit

/-- The state alone. -/
structure PJ (mS m2 : Nat) (w wr : World) (ns : List Nd) (ws : List Wt) (na : Option Addr) (nl nc : Nat) (wa : Option Addr) (wl wk : Nat) : Prop where
  sp : SP mS m2 w wr ns ws na nl nc wa wl wk

/-- What a return of an error wants. -/
structure PE (m2 : Nat) (w wr : World) : Prop where
  res : Box6 wr m2 34 (.int .i64 0) (.string ⟨#[]⟩) (.int .i64 0) (.int .u64 0) (.slice none 0 0) (.int .i64 0)
  bel : Below w.heap.size w wr
  two : w.heap.size ≤ m2
theorem SP.pe {mS m2 : Nat} {w wr u : World} {ns : List Nd} {ws : List Wt} {na : Option Addr} {nl nc : Nat} {wa : Option Addr} {wl wk : Nat} (h : SP mS m2 w wr ns ws na nl nc wa wl wk) (ht : Turned (fun g => g = mS) wr u) : PE m2 w u :=
  ⟨h.res.turned ht (by have := h.ord.1; omega), h.bel.trans (ht.below h.bel.size (fun k hk e => by have := h.ord; omega)), h.ord.2⟩

/-- The tree that is answered. -/
theorem end_rows {mS m2 : Nat} {w wr u : World} {ns : List Nd} {ws : List Wt} {na : Option Addr} {nl nc : Nat} {wa : Option Addr} {wl wk : Nat} {v : NV} {x : Nd} (h : NdIn (Qs mS wr wa) wr v x) (hs : SP mS m2 w wr ns ws na nl nc wa wl wk) (hb : Below wr.heap.size wr u) (x0 x1 x2 x3 x4 x5 : Value) :
    NdIn (Bt w.heap.size ((((((u.setCell ⟨m2, 0, none⟩ x0).setCell ⟨m2, 1, none⟩ x1).setCell ⟨m2, 2, none⟩ x2).setCell ⟨m2, 3, none⟩ x3).setCell ⟨m2, 4, none⟩ x4).setCell ⟨m2, 5, none⟩ x5).heap.size) ((((((u.setCell ⟨m2, 0, none⟩ x0).setCell ⟨m2, 1, none⟩ x1).setCell ⟨m2, 2, none⟩ x2).setCell ⟨m2, 3, none⟩ x3).setCell ⟨m2, 4, none⟩ x4).setCell ⟨m2, 5, none⟩ x5) v x := by
  have T : Turned (fun g => g = m2) u ((((((u.setCell ⟨m2, 0, none⟩ x0).setCell ⟨m2, 1, none⟩ x1).setCell ⟨m2, 2, none⟩ x2).setCell ⟨m2, 3, none⟩ x3).setCell ⟨m2, 4, none⟩ x4).setCell ⟨m2, 5, none⟩ x5) := ((((((Turned.refl (fun g => g = m2) u).setCell (p := ⟨m2, 0, none⟩) (.inl rfl) _).setCell (p := ⟨m2, 1, none⟩) (.inl rfl) _).setCell (p := ⟨m2, 2, none⟩) (.inl rfl) _).setCell (p := ⟨m2, 3, none⟩) (.inl rfl) _).setCell (p := ⟨m2, 4, none⟩) (.inl rfl) _).setCell (p := ⟨m2, 5, none⟩) (.inl rfl) _
  obtain ⟨o1, o2⟩ := hs.ord
  refine ((h.below hb).turned T (fun g q e => by have := q.1; omega)).mono (fun g q => ⟨by have := q.1; omega, Nat.lt_of_lt_of_le q.2.1 (Nat.le_trans hb.size T.size)⟩)

theorem step_callB2 {ops : Array Oper} {o : Oper} {a : Act} {w : World} {K : Act → World → Prop} {Q : Exit → Act → World → Prop} {X : Prop} (hg : o.guard = none) (x y : Operand) (f : Nat) (ts : Array TypeId)
    (hop : o.op = .call { callee := .value (.func f), args := #[x, y], argTypes := ts }) (en : ∀ args w, (callFunc f args).run Tryz.prog w = .ok (.enter f args) w) (u1 u2 : Value) (hx : a.eval x = u1) (hy : a.eval y = u2) (R : Value → World → Prop)
    (hc : Calls Tryz.prog f #[u1, u2] w fun e w' => ∃ v, e = .returned v ∧ R v w') (h : ∀ v w', R v w' → K (a.put o.dst v) w') :
    if Region.wanted o (yielded ops a.tmps) = true then Oper.wp Tryz.prog o a w K Q else X := by
  have hw : Region.wanted o (yielded ops a.tmps) = true := by simp [Region.wanted, hg]
  rw [if_pos hw]
  unfold Oper.wp
  have e : (execOp a.eval o).run Tryz.prog w = .ok (.enter f #[u1, u2]) w := by
    have hf : a.eval (.func f) = .func (.func f) #[] #[] := rfl
    simp [execOp, hop, resolve, invoke, hx, hy, hf, Deferred.ofValue, en]
  rw [e, Oper.upon_enter]
  refine hc.mono ?_
  rintro e w' ⟨v, rfl, hr⟩
  exact h v w' hr

theorem enters_level : ∀ args w, (callFunc 18 args).run Tryz.prog w = .ok (.enter 18 args) w := enters_of Tryz.func18 (by kernel_rfl) rfl
theorem enters_reduce : ∀ args w, (callFunc 20 args).run Tryz.prog w = .ok (.enter 20 args) w := enters_of Tryz.func20 (by kernel_rfl) rfl

/-- What a call made of the state is stored. -/
theorem SP.laid {mS m2 : Nat} {w W5 u : World} {ns ns' : List Nd} {ws ws' : List Wt} {na na' wa : Option Addr} {nl nc nl' nc' wl wk wl' : Nat} (h : SP mS m2 w W5 ns ws na nl nc wa wl wk) (hb : Below W5.heap.size W5 u) (s : St (fun g => Qs mS W5 wa g ∨ Bt W5.heap.size u.heap.size g) (mS + 1) u na' nl' nc' wa wl' wk ns' ws') :
    SP mS m2 w ((u.setCell ⟨mS, 0, none⟩ (.slice na' nl' nc')).setCell ⟨mS, 1, none⟩ (.slice wa wl' wk)) ns' ws' na' nl' nc' wa wl' wk ∧ Turned (fun g => g = mS) W5 ((u.setCell ⟨mS, 0, none⟩ (.slice na' nl' nc')).setCell ⟨mS, 1, none⟩ (.slice wa wl' wk)) := by
  refine ⟨h.put hb s (fun g q => ?_), ((Turned.ofBelow (S := fun g => g = mS) hb).setCell (p := ⟨mS, 0, none⟩) (.inl rfl) _).setCell (p := ⟨mS, 1, none⟩) (.inl rfl) _⟩
  rcases q with q | q
  · exact ⟨q.1, Nat.lt_of_lt_of_le q.2.1 hb.size, q.2.2⟩
  · refine ⟨by have := h.lt; have := q.1; omega, q.2, fun a e e2 => ?_⟩
    have := (h.st.owner a e).2
    have := q.1
    omega

set_option maxHeartbeats 8000000 in
set_option maxRecDepth 100000 in
theorem red44 {mS m2 : Nat} {w W5 : World} {ns : List Nd} {ws : List Wt} {na : Option Addr} {nl nc : Nat} {wa : Option Addr} {wl wk : Nat} {KO : Int} (hs : SP mS m2 w W5 ns ws na nl nc wa wl wk) (hrk : Rk ns.length ws) (hnl : nl ≤ 2000) (hwl : wl ≤ 2000)
    (A : Act) (k8 : A.tmps[8]? = some (.pointer (some ⟨mS, 0, none⟩))) (k13 : A.tmps[13]? = some (.int .i64 KO)) (hz : A.tmps.size = 276) :
    Code.wp Tryz.prog (prg 44) (fun e b u => e = .normal ∧ Upd [215, 216, 217, 218] A b ∧ ∃ na' nl' nc' wl', SP mS m2 w u (red (lvl KO) ns ws).1 (red (lvl KO) ns ws).2 na' nl' nc' wa wl' wk ∧ Turned (fun g => g = mS) W5 u) A W5 := by
  have KS : Hid (∀ u, Below W5.heap.size W5 u → u.cell? ⟨mS, 0, none⟩ = some (.slice na nl nc) ∧ u.cell? ⟨mS, 1, none⟩ = some (.slice wa wl wk)) := by
    intro u hu
    exact (hs.box.below hu).cells
  have HS0 := KS.out _ (Below.refl _ W5).drew
  have H5 : Hid (SP mS m2 w W5 ns ws na nl nc wa wl wk ∧ Rk ns.length ws) := ⟨hs, hrk⟩
  clear hs hrk
  refine wp_name (fun A0 hA0 => ?_)
  have HU : Upd [215, 216, 217, 218] A A0 := by rw [hA0]; exact Upd.refl _ _
  rw [← hA0] at k8 k13 hz
  clear hA0
  unfold prg
  simp only [Tryz.f6, Option.bind_some, regionOf, reduceIte, Nat.reduceEqDiff, Option.getD_some]
  refine wp_region_tail (fun u => u.cell? ⟨mS, 0, none⟩ = some (.slice na nl nc) ∧ u.cell? ⟨mS, 1, none⟩ = some (.slice wa wl wk)) 4 rfl (by kernel_rfl) (by kernel_rfl) HS0 (fun HS => ?_)
  clear HS0
  simp only [List.take_succ_cons, List.take_zero]
  obtain ⟨U0, hU0⟩ : ∃ U0, W5.drew = U0 := ⟨_, rfl⟩
  have FB0 : Hid (Below W5.heap.size W5 U0) := by rw [← hU0]; exact (Below.refl _ _).drew
  rw [hU0] at HS ⊢
  clear hU0
  refine take_at 0 (some 215) (.agg #[.slice na nl nc, .slice wa wl wk]) rfl rfl (by kernel_rfl) (by kernel_rfl) (by kernel_rfl) (fun _ _ _ h => by cases h.1) (.inl ⟨by rfl, fun u hu => ?_⟩) HS ?_
  · obtain ⟨u0, u1⟩ := hu
    have g8 := get_of k8
    go_simp
  refine any_put (a := A0) (d := 215) (by rw [hz]; decide) (fun A1 hb => ?_)
  replace hz := hb.size.trans hz
  replace HU := hb.upd (by decide) HU
  replace k8 := hb.ne (by decide) k8
  replace k13 := hb.ne (by decide) k13
  have k215 : A1.tmps[215]? = some (.agg #[.slice na nl nc, .slice wa wl wk]) := hb.at_
  clear hb
  refine take_at 1 (some 216) (.int .i64 KO) rfl rfl (by kernel_rfl) (by kernel_rfl) (by kernel_rfl) (fun _ _ _ h => by cases h.1) (.inl ⟨by rfl, fun u hu => ?_⟩) HS ?_
  · obtain ⟨u0, u1⟩ := hu
    have g13 := get_of k13
    go_simp
  refine any_put (a := A1) (d := 216) (by rw [hz]; decide) (fun A2 hb => ?_)
  replace hz := hb.size.trans hz
  replace HU := hb.upd (by decide) HU
  replace k8 := hb.ne (by decide) k8
  replace k13 := hb.ne (by decide) k13
  replace k215 := hb.ne (by decide) k215
  have k216 : A2.tmps[216]? = some (.int .i64 KO) := hb.at_
  clear hb A1
  clear k13
  refine wpAnyH_ready (rs := [2]) (by kernel_rfl) (by simp) ?_
  refine AllReadyH.cons rfl (fun K hK => ?_) ?_
  · refine step_callB rfl (.tmp 216) 18 #[3] rfl enters_level (.int .i64 KO) (eval_of k216) (fun v w' => v = .int .i64 (lvl KO) ∧ w' = U0) ((rlevel_any KO U0).mono (by rintro e w' ⟨rfl, h⟩; exact ⟨_, rfl, rfl, h⟩)) ?_
    rintro v U1 ⟨rfl, hw⟩
    rw [hw]
    clear hw U1
    refine hK.out _ _ (KS.out _ FB0.out) (fun HS => ?_)
    clear hK K
    clear k216
    refine any_put (a := A2) (d := 217) (by rw [hz]; decide) (fun A3 hb => ?_)
    replace hz := hb.size.trans hz
    replace HU := hb.upd (by decide) HU
    replace k8 := hb.ne (by decide) k8
    replace k215 := hb.ne (by decide) k215
    have k217 : A3.tmps[217]? = some (.int .i64 (lvl KO)) := hb.at_
    clear hb A2
    refine wpAnyH_ready (rs := [3]) (by kernel_rfl) (by simp) ?_
    refine AllReadyH.cons rfl (fun K hK => ?_) ?_
    · refine step_callB2 rfl (.tmp 215) (.tmp 217) 20 #[58, 3] rfl enters_reduce (.agg #[.slice na nl nc, .slice wa wl wk]) (.int .i64 (lvl KO)) (eval_of k215) (eval_of k217) (fun v u => ∃ na' nl' nc' wl', v = .agg #[.slice na' nl' nc', .slice wa wl' wk] ∧ St (fun g => Qs mS W5 wa g ∨ Bt U0.heap.size u.heap.size g) (mS + 1) u na' nl' nc' wa wl' wk (red (lvl KO) ns ws).1 (red (lvl KO) ns ws).2 ∧ Below U0.heap.size U0 u) ((reduce_any U0 (lvl KO) (H5.out.1.st.below FB0.out) (fun g q => Nat.lt_of_lt_of_le q.2.1 FB0.out.size) H5.out.2 (by omega) (by omega)).mono (by rintro e u ⟨na', nl', nc', wl', rfl, h1, h2⟩; exact ⟨_, rfl, na', nl', nc', wl', rfl, h1, h2⟩)) ?_
      rintro v U1 ⟨na', nl', nc', wl', rfl, hst, hb⟩
      have FB1 : Hid (Below W5.heap.size W5 U1 ∧ St (fun g => Qs mS W5 wa g ∨ Bt W5.heap.size U1.heap.size g) (mS + 1) U1 na' nl' nc' wa wl' wk (red (lvl KO) ns ws).1 (red (lvl KO) ns ws).2) := ⟨FB0.out.trans (hb.mono FB0.out.size), hst.mono (fun g q => q.imp id (fun z => ⟨by have := z.1; have := FB0.out.size; omega, z.2⟩))⟩
      clear hst hb
      refine hK.out _ _ (KS.out _ FB1.out.1) (fun HS => ?_)
      clear hK K
      clear k215
      clear k217
      refine any_put (a := A3) (d := 218) (by rw [hz]; decide) (fun A4 hb => ?_)
      replace hz := hb.size.trans hz
      replace HU := hb.upd (by decide) HU
      replace k8 := hb.ne (by decide) k8
      have k218 : A4.tmps[218]? = some (.agg #[.slice na' nl' nc', .slice wa wl' wk]) := hb.at_
      clear hb A3
      obtain ⟨y0, y1⟩ := (H5.out.1.box.below FB1.out.1).cells
      obtain ⟨z0, z1⟩ := (H5.out.1.box.below FB1.out.1).thaw
      refine wpAnyH_done (by kernel_rfl) ?_ _
      refine tail_end rfl (fun K hK => ?_)
      dsimp only [List.getElem_toArray, List.getElem_cons_succ, List.getElem_cons_zero]
      have g8 := get_of k8
      have g218 := get_of k218
      go_simp
      refine hK _ _ ?_
      clear hK K
      exact ⟨rfl, HU, na', nl', nc', wl', H5.out.1.laid FB1.out.1 FB1.out.2⟩
    exact AllReadyH.nil
  exact AllReadyH.nil

end Go.Proofs.YtijchmcajhdcoaaGreatDoor

/-!
  The document's stack, a step of it where an operand has been read. No program; no condition.
-/
namespace Go.Proofs.YtijchmcajhdcoaaGreatDoor
open Go.RowKit

section
variable {E : Int} {us : List Tk} {i j : Nat} {ns t : List Nd} {x : Nd} {ws : List Wt} {A : Ans} {tk tp ti tn uk un ui up : Int} {tx ux : Bs}
theorem kB_pk {l : List Tk} {k : Int} (hk : k ≠ 0) : hd (kB k) l = decide ((pk l).kind = k) := by
  rw [hd_pk (by rw [show kB k tk0 = decide ((0 : Int) = k) from rfl, decide_eq_false_iff_not]; exact fun q => hk q.symm)]
  rfl
theorem drop_one (h : pk (us.drop j) = ⟨uk, ux, un, ui, up⟩) (h2 : uk = 2) : us.drop j = ⟨uk, ux, un, ui, up⟩ :: us.drop (j + 1) := by
  have hlt : j < us.length := by
    rcases Nat.lt_or_ge j us.length with q | q
    · exact q
    · rw [pk_end q] at h
      injection h with h1
      omega
  have hg : us[j]? = some (us[j]) := List.getElem?_eq_getElem hlt
  rw [pk_at hg] at h
  rw [List.drop_eq_getElem_cons hlt, h]
theorem pk_ltk (h : pk (us.drop j) = ⟨uk, ux, un, ui, up⟩) (h2 : ¬ uk = 0) : j < us.length := by
  rcases Nat.lt_or_ge j us.length with q | q
  · exact q
  · rw [pk_end q] at h
    injection h with h1
    exact absurd h1.symm h2
theorem have_up0 (h : rn E (x :: t) ws false (us.drop i) = A) (hd0 : us.drop i = ⟨5, [94], tn, ti, tp⟩ :: us.drop (i + 1)) (hj : j = i + 1 ∧ pk (us.drop j) = ⟨uk, ux, un, ui, up⟩) (h2 : ¬ uk = 2) : rn E (⟨12, [], 0, 0, foOf [x], tp⟩ :: t) ws false (us.drop j) = A := by
  obtain ⟨rfl, hp⟩ := hj
  have hk : ¬ hd (kB 2) (us.drop (i + 1)) = true := by
    rw [kB_pk (by decide), hp]
    simp [h2]
  rw [hd0, rn_have, if_neg (by simp), if_pos rfl] at h
  simp only [if_neg hk] at h
  exact h
theorem have_upK (h : rn E (x :: t) ws false (us.drop i) = A) (hd0 : us.drop i = ⟨5, [94], tn, ti, tp⟩ :: us.drop (i + 1)) (hj : j = i + 1 ∧ pk (us.drop j) = ⟨2, ux, un, ui, up⟩) (h0 : ¬ un = 0) : rn E (⟨12, [], un, 0, foOf [x], tp⟩ :: t) ws false (us.drop (j + 1)) = A := by
  obtain ⟨rfl, hp⟩ := hj
  have hdr := drop_one hp rfl
  rw [hd0, rn_have, if_neg (by simp), if_pos rfl, hdr] at h
  have hk : hd (kB 2) (⟨2, ux, un, ui, up⟩ :: us.drop (i + 1 + 1)) = true := rfl
  have hk2 : ¬ hd (fun u => decide (u.num = 0)) (⟨2, ux, un, ui, up⟩ :: us.drop (i + 1 + 1)) = true := by simp [hd, h0]
  simp only [if_pos hk, if_neg hk2, List.drop_succ_cons, List.drop_zero] at h
  exact h
theorem have_upE (hd0 : us.drop i = ⟨5, [94], tn, ti, tp⟩ :: us.drop (i + 1)) (hj : j = i + 1 ∧ pk (us.drop j) = ⟨2, ux, 0, ui, up⟩) : rn E (x :: t) ws false (us.drop i) = .err up := by
  obtain ⟨rfl, hp⟩ := hj
  have hdr := drop_one hp rfl
  rw [hd0, rn_have, if_neg (by simp), if_pos rfl, hdr]
  have hk : hd (kB 2) (⟨2, ux, 0, ui, up⟩ :: us.drop (i + 1 + 1)) = true := rfl
  have hk2 : hd (fun u => decide (u.num = 0)) (⟨2, ux, 0, ui, up⟩ :: us.drop (i + 1 + 1)) = true := rfl
  simp only [if_pos hk, if_pos hk2]
  rfl
theorem have_op {KO : Int} (h : rn E ns ws false (us.drop i) = A) (hd0 : us.drop i = ⟨5, tx, tn, ti, tp⟩ :: us.drop (i + 1)) (hj : j = i + 1) (h94 : ¬ tx = [94]) (hk : opOf tx = KO) (hc : KO ≠ 0 ∧ (lvl KO ≠ 3 ∨ ranged ws = false)) :
    rn E (red (lvl KO) ns ws).1 (⟨KO, tp, [], false, 0⟩ :: (red (lvl KO) ns ws).2) true (us.drop j) = A := by
  subst hj
  subst hk
  rw [hd0, rn_have, if_neg (by simp), if_neg h94, if_pos hc] at h
  exact h
theorem have_close {ns9 : List Nd} {ws9 : List Wt} (h : rn E ns ws false (us.drop i) = A) (hd0 : us.drop i = ⟨5, [41], tn, ti, tp⟩ :: us.drop (i + 1)) (hj : j = i + 1) (hs : shutB (red 1 ns ws).1 (red 1 ns ws).2 = some (ns9, ws9)) : rn E ns9 ws9 false (us.drop j) = A := by
  subst hj
  rw [hd0, rn_have, if_neg (by simp), if_neg (by simp), if_neg (by intro q; exact q.1 rfl), if_pos rfl, hs] at h
  exact h
theorem have_closeE (hd0 : us.drop i = ⟨5, [41], tn, ti, tp⟩ :: us.drop (i + 1)) (hs : shutB (red 1 ns ws).1 (red 1 ns ws).2 = none) : rn E ns ws false (us.drop i) = .err tp := by
  rw [hd0, rn_have, if_neg (by simp), if_neg (by simp), if_neg (by intro q; exact q.1 rfl), if_pos rfl, hs]
theorem have_comma (h : rn E ns ws false (us.drop i) = A) (hd0 : us.drop i = ⟨5, [44], tn, ti, tp⟩ :: us.drop (i + 1)) (hj : j = i + 1) (hc : inCall ws = true) : rn E (red 1 ns ws).1 (red 1 ns ws).2 true (us.drop j) = A := by
  subst hj
  rw [hd0, rn_have, if_neg (by simp), if_neg (by simp), if_neg (by intro q; exact q.1 rfl), if_neg (by simp), if_pos ⟨rfl, hc⟩] at h
  exact h
theorem have_else {KO : Int} (hd0 : us.drop i = ⟨5, tx, tn, ti, tp⟩ :: us.drop (i + 1)) (h94 : ¬ tx = [94]) (hk : opOf tx = KO) (hc : ¬ (KO ≠ 0 ∧ (lvl KO ≠ 3 ∨ ranged ws = false))) (h41 : ¬ tx = [41]) (h44 : ¬ (tx = [44] ∧ inCall ws = true)) : rn E ns ws false (us.drop i) = .err tp := by
  subst hk
  rw [hd0, rn_have, if_neg (by simp), if_neg h94, if_neg hc, if_neg h41, if_neg h44]

/-- The end. -/
theorem end_want : rn E ns ws true [] = .err E := rfl
theorem end_err {v : Wt} {r : List Wt} {ns9 : List Nd} (h : rn E ns ws false [] = A) (hr : red 1 ns ws = (ns9, v :: r)) : A = .err E := by
  rw [rn_end, hr] at h
  cases ns9 <;> exact h.symm
theorem end_ok {x : Nd} (h : rn E ns ws false [] = A) (hr : red 1 ns ws = ([x], [])) : A = .ok x := by
  rw [rn_end, hr] at h
  exact h.symm
theorem end_one {ns9 : List Nd} (h : Vk ns.length ws) (hr : red 1 ns ws = (ns9, [])) : ∃ x, ns9 = [x] := by
  have h1 := Vk.red 1 ws ns h
  rw [hr] at h1
  have h2 : ns9.length = 1 := h1
  match ns9, h2 with
  | [x], _ => exact ⟨x, rfl⟩

/-- How many nodes there are for what waits. -/
theorem vk_op {L KO : Int} (h : Vk ns.length ws) (hk : opOf tx = KO) : Vk ((red L ns ws).1.length + (if true then 1 else 0)) (⟨KO, tp, [], false, 0⟩ :: (red L ns ws).2) := by
  have h1 := Vk.red L ws ns h
  have h11 : ¬ KO = 11 := by
    rw [← hk]
    unfold opOf
    split
    · decide
    split
    · decide
    split
    · decide
    split
    · decide
    split
    · decide
    · decide
  have := Vk.pos h1
  unfold Vk
  rw [if_neg (by simp), if_neg h11]
  refine ⟨by simp only [if_true]; omega, ?_⟩
  simpa using h1
theorem vk_close {ns9 : List Nd} {ws9 : List Wt} (h : Vk ns.length ws) (hs : shutB (red 1 ns ws).1 (red 1 ns ws).2 = some (ns9, ws9)) : Vk ns9.length ws9 := by
  have h1 := Vk.red 1 ws ns h
  have h2 := red_top ws ns h.rk
  rcases h2 with h2 | ⟨v, r, h2, h3⟩
  · rw [h2] at hs
    simp [shutB] at hs
  · rw [h2] at hs h1
    unfold Vk at h1
    rw [if_pos h3] at h1
    simp only [shutB] at hs
    injection hs with hs
    injection hs with hs1 hs2
    subst hs1 hs2
    by_cases ht : v.text = []
    · rw [if_pos ht] at h1
      rw [if_neg (by simp [ht])]
      exact h1.2
    · rw [if_neg ht] at h1
      rw [if_pos ht]
      have hl : (List.drop ((red 1 ns ws).1.length - v.nodes) (red 1 ns ws).1).length = v.nodes := by rw [List.length_drop]; omega
      rw [List.length_cons, hl]
      exact h1.2
theorem shut_len {ns9 : List Nd} {ws9 : List Wt} (h : Vk ns.length ws) (hs : shutB (red 1 ns ws).1 (red 1 ns ws).2 = some (ns9, ws9)) : ns9.length ≤ ns.length + 1 ∧ ws9.length ≤ ws.length := by
  have h0 := red_len 1 ws ns h.rk
  have h1 := vk_nodes h
  cases hr : (red 1 ns ws).2 with
  | nil =>
    rw [hr] at hs
    simp [shutB] at hs
  | cons v r =>
    have h2 := h1 v r hr
    rw [hr] at hs h0
    simp only [shutB] at hs
    injection hs with hs
    injection hs with hs1 hs2
    subst hs1 hs2
    simp only [List.length_cons] at h0
    refine ⟨?_, by omega⟩
    split
    · rw [List.length_cons, List.length_drop]
      omega
    · omega
theorem vk_comma (h : Vk ns.length ws) (hc : inCall ws = true) : Vk ((red 1 ns ws).1.length + (if true then 1 else 0)) (red 1 ns ws).2 := by
  have h1 := Vk.red 1 ws ns h
  have h2 := red_top ws ns h.rk
  have h4 := red_inCall 1 ws ns h.rk
  rw [hc] at h4
  rcases h2 with h2 | ⟨v, r, h2, h3⟩
  · rw [h2] at h4
    cases h4
  · rw [h2] at h1 h4 ⊢
    rw [inCall, if_pos h3, decide_eq_true_eq] at h4
    unfold Vk at h1 ⊢
    rw [if_pos h3, if_neg h4] at h1 ⊢
    exact ⟨by simp only [if_true]; omega, h1.2⟩
end

end Go.Proofs.YtijchmcajhdcoaaGreatDoor
