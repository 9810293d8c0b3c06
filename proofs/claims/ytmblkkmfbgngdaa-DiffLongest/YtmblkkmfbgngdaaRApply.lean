/-
  The reference's Apply by a contract: the document's lines in a new row, or the document's error. At most 3,000,000 lines and new lines together.
-/
import Derived.Test.YtmblkkmfbgngdaaApply
namespace Go.Proofs.Ytmblkkmfbgngdaa
open Go.RowKit

/-- diff.Apply of whatever list. -/
theorem apply_any {ao ho : Option Addr} {n c K d : Nat} {xs : List Bs} {vs : List HV} {hs : List Hk} (w : World) (ha : Rd w ao xs) (hl : xs.length = n) (hc : n ≤ c) (hv : RdG encH w ho vs) (hh : Hks w vs hs) (hK : hs.length = K) (hK2 : K ≤ 4000000000000000000) (hT : n + tot hs ≤ 4000000000000000000) (l : List Bs) (ee : Int) (hz : ans xs hs = (l, ee)) :
    Calls Try.prog 14 #[.slice ao n c, .slice ho K d] w fun e w' => ∃ v', e = .returned (.tuple #[v', .int .i64 ee]) ∧ Own w' w.heap.size v' l ∧ Below w.heap.size w w' := by
  by_cases hn : n ≤ 256
  · have := apply_short (c := c) (d := d) w ha hl hn hc hv hh hK hK2 hT
    rw [hz] at this
    exact this
  · rw [ans_long (by omega)] at hz
    cases hz
    refine (apply_long (c := c) (d := d) (ao := ao) (ho := ho) w (by omega)).mono ?_
    rintro e w' ⟨rfl, rfl⟩
    exact ⟨_, rfl, Own.nil _ _, Below.refl _ _⟩

/-- One text more behind a row of the call's own, and what it turns. -/
theorem app_one_at {ops : Array Oper} {rest : List Oper} {o : Oper} {a : Act} {w : World} {Q : Exit → Act → World → Prop} (hgd : o.guard = none) (s x : Operand)
    (hop : o.op = .call { callee := .builtin .append, args := #[s, x], argTypes := #[22, 22] }) (base : Nat) (v : Value) (ss : List Bs) (y : Bs) (ty : TypeId) (hs : a.eval s = v) (hown : Own w base v ss)
    (hx : a.eval x = .slice (some ⟨w.heap.size, 0, none⟩) 1 1) (hlen : ss.length ≤ 4000000) (hb : base ≤ w.heap.size)
    (h : ∀ v' w', Own w' base v' (ss ++ [y]) → Below base w w' → Moved w v v' → Turned (fun k => v.ownBlock = some k) w w' → wpList Try.prog ops Q rest (a.put o.dst v') w') :
    wpList Try.prog ops Q (o :: rest) a (w.alloc (.cells #[.string ⟨y.toArray⟩] ty)) := by
  obtain ⟨i0, hi0, hz0, hz1, hz2⟩ := info_parts Try.info9
  refine wpList_append_moved hgd s x 22 hop base 9 i0 _ 1 16 Try.underlying22 hi0 hz0 hz1 hz2 rfl (by decide) v ss.length (ss.map encStr) hs (hown.below ((Below.refl _ w).alloc (Nat.le_refl _) _)) ⟨w.heap.size, 0, none⟩ 1 1 [encStr y] hx rfl (cell_one_new w _ ty)
    (by simp [Value.oneCell']) (by simp only [maxLen]; omega) (by omega) (by simp; omega) ?_
  intro v' w' h1 h2 h3
  have ha : Turned (fun k => v.ownBlock = some k) w (w.alloc (.cells #[.string ⟨y.toArray⟩] ty)) := (Turned.refl _ _).alloc _
  have ht : Turned (fun k => v.ownBlock = some k) (w.alloc (.cells #[.string ⟨y.toArray⟩] ty)) w' := (Turned.refl _ _).grown h2 (fun k _ e => e)
  refine h v' w' ?_ (Own.turn hown hb (ha.trans ht (fun _ _ q => q))) ?_ (ha.trans ht (fun _ _ q => q))
  · unfold Own
    rw [List.length_append, List.map_append]
    exact h1
  · refine h3.imp id (fun q g hg => ?_)
    have := q g hg
    simp at this
    omega

theorem cutL_more {xs : List Bs} {p t : Nat} (h1 : p ≤ t) (h2 : t < xs.length) : cutL xs p (t + 1) = cutL xs p t ++ [el xs t] := by
  rw [← cutL_join h1 (Nat.le_succ t), cutL_one (x := el xs t) (by rw [List.getElem?_eq_getElem h2, el_get h2])]

/-- The lines so far, the hunk at hand, each in a block of its own. -/
structure RA (w wq : World) (Bh : Nat) (za zb : Int) (g m : Value) (ov : Value) (out : List Bs) : Prop where
  own : Own wq w.heap.size ov out
  bel : Below w.heap.size w wq
  hk : HunkAt wq Bh 47 za zb g m
  ne : ∀ k, ov.ownBlock = some k → k ≠ Bh

theorem RA.next {w wq w' : World} {Bh : Nat} {za zb : Int} {g m : Value} {ov v' : Value} {out out' : List Bs} (h : RA w wq Bh za zb g m ov out) (ho : Own w' w.heap.size v' out') (hb : Below w.heap.size wq w') (hm : Moved wq ov v') (ht : Turned (fun k => ov.ownBlock = some k) wq w') : RA w w' Bh za zb g m v' out' := by
  refine ⟨ho, h.bel.trans hb, h.hk.turned ht (fun q => h.ne _ q rfl), fun k hk => ?_⟩
  rcases hm with q | q
  · rw [q] at hk
    exact h.ne k hk
  · have := q k hk
    have := h.hk.lt
    omega

theorem RA.drew {w wq : World} {Bh : Nat} {za zb : Int} {g m : Value} {ov : Value} {out : List Bs} (h : RA w wq Bh za zb g m ov out) (q : Nat) : RA w (wq.drewN q) Bh za zb g m ov out :=
  ⟨h.own.below (below_drewN (Below.refl _ _) q), below_drewN h.bel q, h.hk.below (below_drewN (Below.refl _ _) q), h.ne⟩

theorem prefix_no {gone l : List Bs} {t : Nat} (h1 : t < gone.length) (h : gone.isPrefixOf l = true) : t < l.length ∧ el gone t = el l t := by
  obtain ⟨r, rfl⟩ := List.isPrefixOf_iff_prefix.1 h
  refine ⟨by simp; omega, ?_⟩
  unfold el
  simp [List.getD_eq_getElem?_getD, List.getElem?_append_left h1]

theorem prefix_yes {gone l : List Bs} (h1 : gone.length ≤ l.length) (h : ∀ t, t < gone.length → el gone t = el l t) : gone.isPrefixOf l = true := by
  rw [prefix_take h1, beq_iff_eq]
  refine List.ext_getElem (by simp; omega) ?_
  intro t ht1 ht2
  have := h t ht2
  rw [el_get ht2, el_get (by omega)] at this
  rw [this]
  simp

theorem el_drop {xs : List Bs} {A t : Nat} : el (xs.drop A) t = el xs (A + t) := by
  unfold el
  simp [List.getD_eq_getElem?_getD]

set_option maxHeartbeats 400000 in
theorem rapply_long {ao ho : Option Addr} {n c K d : Nat} (w : World) (h : 256 < n) :
    Calls Try.prog 16 #[.slice ao n c, .slice ho K d] w fun e w' => e = .returned (.tuple #[.slice none 0 0, .int .i64 4]) ∧ w' = w := by
  have h2 : (256 : Int) < (n : Int) := by omega
  go_enter Try.func16, Try.ntmps16
  go_wp2
  refine bodyPost_ret (results_tmp2 rfl _ _ _) rfl ?_
  exact ⟨rfl, rfl⟩

set_option maxHeartbeats 6400000 in
set_option maxRecDepth 100000 in
theorem rapply_short {ao ho : Option Addr} {n c K d : Nat} {xs : List Bs} {vs : List HV} {hs : List Hk} (w : World) (ha : Rd w ao xs) (hl : xs.length = n) (hn : n ≤ 256) (hv : RdG encH w ho vs) (hh : Hks w vs hs) (hK : hs.length = K) (hK2 : K ≤ 4000000000000000000) (hT : n + tot hs ≤ 3000000) :
    Calls Try.prog 16 #[.slice ao n c, .slice ho K d] w fun e w' => ∃ v', e = .returned (.tuple #[v', .int .i64 (ans xs hs).2]) ∧ Own w' w.heap.size v' (ans xs hs).1 ∧ Below w.heap.size w w' := by
  have H : Hid (Rd w ao xs ∧ xs.length = n ∧ RdG encH w ho vs ∧ Hks w vs hs ∧ hs.length = K) := ⟨ha, hl, hv, hh, hK⟩
  have h256 : Hid (¬ 256 < xs.length) := by show ¬ _; omega
  obtain ⟨z, hz⟩ : ∃ z, ans xs hs = z := ⟨_, rfl⟩
  rw [hz]
  have AN : Hid (ans xs hs = z) := hz
  clear ha hl hv hh hK hz
  have BAD : Hid (∀ w', Below w.heap.size w w' → applyFrom xs 0 [] hs = none → ∃ v', Ending.returned (.tuple #[.slice none 0 0, .int .i64 9]) = .returned (.tuple #[v', .int .i64 z.2]) ∧ Own w' w.heap.size v' z.1 ∧ Below w.heap.size w w') := by
    intro w' hb h
    have e := AN.out
    rw [ans_form h256.out h] at e
    subst e
    exact ⟨_, rfl, Own.nil _ _, hb⟩
  have hn2 : decide ((256 : Int) < (n : Int)) = false := decide_eq_false (by omega)
  go_enter Try.func16, Try.ntmps16
  go_wp2_with fail
  go_loopg [6, 7, 8, 9, 10, 11] K (fun k ov pv iv _ _ _ wr => ∃ (i p : Nat) (out : List Bs), iv = .int .i64 i ∧ pv = .int .i64 p ∧ i + k = K ∧ p ≤ n ∧ Hid (AI xs hs i p out ∧ Own wr w.heap.size ov out ∧ out.length + tot (hs.drop i) + n ≤ n + tot hs + p ∧ Below w.heap.size w wr))
  case atStart => exact ⟨0, 0, [], rfl, rfl, by omega, by omega, AI.start _ _, Own.nil _ _, by simp [Nat.add_comm], Below.refl _ _⟩
  case round =>
    obtain ⟨i, p, out, rfl, rfl, hi, hp, HR⟩ := hrel
    obtain ⟨gk_1, hgk⟩ : ∃ g, gk = g := ⟨_, rfl⟩
    rw [hgk] at hi
    by_cases hin : i < K
    · have id : (i : Int) < (K : Int) := by omega
      obtain ⟨v, h, e1, e2, hk⟩ := H.out.2.2.2.1.get (i := i) (by rw [H.out.2.2.2.2]; exact hin)
      obtain ⟨b, off, rfl, hlt⟩ := H.out.2.2.1.some_of e1
      obtain ⟨c1, c2, c3, c4⟩ := H.out.2.2.1.hunk e1
      have k1 := (HR.out.2.2.2.cell (p := ⟨b, off + i * 4, none⟩) hlt).trans c1
      have k2 := (HR.out.2.2.2.cell (p := ⟨b, off + i * 4 + 1, none⟩) hlt).trans c2
      have k3 := (HR.out.2.2.2.cell (p := ⟨b, off + i * 4 + 2, none⟩) hlt).trans c3
      have k4 := (HR.out.2.2.2.cell (p := ⟨b, off + i * 4 + 3, none⟩) hlt).trans c4
      obtain ⟨za, zb, ga, gl, gc, na, nl, nc⟩ := v
      obtain ⟨ya, yb, gone, new⟩ := h
      have q1 := hk.a
      have q2 := hk.b
      simp only at q1 q2 k1 k2 k3 k4
      subst q1 q2
      have X : Hid (hs[i]? = some ⟨za, zb, gone, new⟩ ∧ gone.length = gl ∧ new.length = nl ∧ Rd w ga gone ∧ Rd w na new) := ⟨e2, hk.gl, hk.nl, hk.rg, hk.rn⟩
      clear e1 e2 hk c1 c2 c3 c4
      go_upto_region 9 with fail
      obtain ⟨wE, hwE⟩ : ∃ wE, wE = wr.alloc (.cells #[.int .i64 za, .int .i64 zb, .slice ga gl gc, .slice na nl nc] 47) := ⟨_, rfl⟩
      obtain ⟨Bh, hBh⟩ : ∃ Bh, wr.heap.size = Bh := ⟨_, rfl⟩
      have bE : Below wr.heap.size wr wE := by rw [hwE]; exact (Below.refl _ wr).alloc (Nat.le_refl _) _
      have J : Hid (RA w wE Bh za zb (.slice ga gl gc) (.slice na nl nc) u6 out) := by
        refine ⟨HR.out.2.1.below bE, HR.out.2.2.2.trans (bE.mono HR.out.2.2.2.size), by rw [hwE, ← hBh]; exact HunkAt.new wr 47 za zb _ _, fun k hk => ?_⟩
        have := (HR.out.2.1.lt k hk).2
        omega
      rw [← hwE, hBh]
      clear hwE hBh bE k1 k2 k3 k4
      obtain ⟨k1, k2, k3, k4⟩ := J.out.hk.cells
      by_cases h1 : za < (p : Int)
      · have d1 : decide (za < (p : Int)) = true := decide_eq_true h1
        have hbad := BAD.out wE J.out.bel (HR.out.1.bad X.out.1 (fun q => by have := q.1; simp only at this; omega))
        have B1 : Hid _ := hbad
        clear hbad
        go_wp2
        refine bodyPost_ret (results_tmp2 rfl _ _ _) rfl ?_
        exact B1.out
      · have d1 : decide (za < (p : Int)) = false := decide_eq_false h1
        by_cases h2 : (n : Int) < za
        · have d2 : decide ((n : Int) < za) = true := decide_eq_true h2
          have hbad := BAD.out wE J.out.bel (HR.out.1.bad X.out.1 (fun q => by have := q.2.1; have := H.out.2.1; simp only at *; omega))
          have B1 : Hid _ := hbad
          clear hbad
          go_wp2
          refine bodyPost_ret (results_tmp2 rfl _ _ _) rfl ?_
          exact B1.out
        · have d2 : decide ((n : Int) < za) = false := decide_eq_false h2
          obtain ⟨A, rfl⟩ : ∃ A : Nat, za = (A : Int) := ⟨za.toNat, by omega⟩
          have hAn : A ≤ n := by omega
          have hpA : p ≤ A := by omega
          clear h1 h2
          by_cases h3 : n < gl
          · have d3 : decide ((n : Int) < (gl : Int)) = true := decide_eq_true (by omega)
            have hbad := BAD.out wE J.out.bel (HR.out.1.bad X.out.1 (fun q => by
              have := (List.isPrefixOf_iff_prefix.1 q.2.2.1).length_le
              have := X.out.2.1
              have := H.out.2.1
              simp only [List.length_drop] at *
              omega))
            have B1 : Hid _ := hbad
            clear hbad
            go_wp2
            refine bodyPost_ret (results_tmp2 rfl _ _ _) rfl ?_
            exact B1.out
          · have d3 : decide ((n : Int) < (gl : Int)) = false := decide_eq_false (by omega)
            have d4 : decide (A < p) = false := decide_eq_false (by omega)
            have d5 : decide (n < A) = false := decide_eq_false (by omega)
            have d6 : decide (n < gl) = false := decide_eq_false (by omega)
            go_wp2_with fail
            clear k1 k2 k3 k4 d1 d2 d3 d4 d5 d6
            go_loopg [6, 10] (A - p) (fun k ov iv wq => ∃ t : Nat, iv = .int .i64 t ∧ p ≤ t ∧ t + k = A ∧ Hid (RA w wq Bh A zb (.slice ga gl gc) (.slice na nl nc) ov (out ++ cutL xs p t)))
            case atStart => exact ⟨p, rfl, Nat.le_refl _, by omega, by show RA _ _ _ _ _ _ _ _ _; rw [cutL_none, List.append_nil]; exact J.out⟩
            case round =>
              obtain ⟨t, rfl, hpt, htA, HT⟩ := hrel
              obtain ⟨k1, k2, k3, k4⟩ := HT.out.hk.cells
              by_cases htn : t < A
              · have td : (t : Int) < (A : Int) := by omega
                have tn : (t : Int) < (n : Int) := by omega
                obtain ⟨b1, o1, rfl, hlt1, hc1⟩ := H.out.1 (by rw [H.out.2.1]; omega)
                obtain ⟨x, hx⟩ : ∃ x, el xs t = x := ⟨_, rfl⟩
                have c1 := (HT.out.bel.cell (p := ⟨b1, o1 + t, none⟩) hlt1).trans (hc1 t (by rw [H.out.2.1]; omega))
                rw [hx] at c1
                have Y : Hid (out ++ cutL xs p (t + 1) = out ++ cutL xs p t ++ [x] ∧ (out ++ cutL xs p t).length ≤ 4000000) := by
                  refine ⟨by rw [cutL_more hpt (by rw [H.out.2.1]; omega), hx, List.append_assoc], ?_⟩
                  rw [out_len (by rw [H.out.2.1]; omega)]
                  have := HR.out.2.2.1
                  omega
                clear hx hc1
                go_wp2_with (at_builtin; refine app_one_at rfl (.tmp 52) (.tmp 57) rfl w.heap.size _ (out ++ cutL xs p t) x _ rfl HT.out.own rfl Y.out.2 HT.out.bel.size ?_; intro v5 w5 ho5 hb5 hm5 ht5)
                have J5 : Hid (RA w w5 Bh A zb (.slice ga gl gc) (.slice na nl nc) v5 (out ++ cutL xs p (t + 1))) := by
                  show RA _ _ _ _ _ _ _ _ _
                  rw [Y.out.1]
                  exact HT.out.next ho5 hb5 hm5 ht5
                clear ho5 hb5 hm5 ht5
                go_wp2
                go_roundg (gk - 1)
                case measure => omega
                case rel => exact ⟨t + 1, by go_num, by omega, by omega, J5.out⟩
              · obtain rfl : t = A := by omega
                obtain ⟨a5, c5, rfl, hc5, hc6, R5⟩ := HT.out.own.form
                obtain ⟨L, hL⟩ : ∃ L, (out ++ cutL xs p t).length = L := ⟨_, rfl⟩
                have hL2 : L = out.length + (t - p) := by rw [← hL, out_len (by rw [H.out.2.1]; omega)]
                rw [hL] at HT hc5 ⊢
                have LL : Hid ((out ++ cutL xs p t).length = L ∧ L = out.length + (t - p)) := ⟨hL, hL2⟩
                have hLb : L ≤ 3000000 := by have := HR.out.2.2.1; omega
                clear hL hL2 R5
                by_cases h4 : zb = (L : Int)
                · subst h4
                  go_wp2_with fail
                  clear k1 k2 k3 k4
                  go_loopg [11] gl (fun k iv wq => ∃ t' m : Nat, iv = .int .i64 t' ∧ t' + k = gl ∧ wq = wr.drewN m ∧ t + t' ≤ n ∧ Hid (∀ j, j < t' → el gone j = el xs (t + j)))
                  case atStart => exact ⟨0, 0, rfl, by omega, rfl, by omega, fun j hj => by omega⟩
                  case round =>
                    obtain ⟨s, q, rfl, hsk, rfl, hts, HS⟩ := hrel
                    obtain ⟨k1, k2, k3, k4⟩ := HT.out.hk.cells
                    by_cases hsg : s < gl
                    · have sd : (s : Int) < (gl : Int) := by omega
                      by_cases hend : t + s < n
                      · have hed : decide ((n : Int) ≤ (t : Int) + (s : Int)) = false := decide_eq_false (by omega)
                        have hed2 : (t : Int) + (s : Int) < (n : Int) := by omega
                        obtain ⟨b1, o1, rfl, hlt1, hc1⟩ := H.out.1 (by rw [H.out.2.1]; omega)
                        obtain ⟨b2, o2, rfl, hlt2, hc2⟩ := X.out.2.2.2.1 (by rw [X.out.2.1]; omega)
                        obtain ⟨x, hx⟩ : ∃ x, el xs (t + s) = x := ⟨_, rfl⟩
                        obtain ⟨y, hy⟩ : ∃ y, el gone s = y := ⟨_, rfl⟩
                        have c1 := (HT.out.bel.cell (p := ⟨b1, o1 + (t + s), none⟩) hlt1).trans (hc1 (t + s) (by rw [H.out.2.1]; omega))
                        have c2 := (HT.out.bel.cell (p := ⟨b2, o2 + s, none⟩) hlt2).trans (hc2 s (by rw [X.out.2.1]; omega))
                        rw [hx] at c1
                        rw [hy] at c2
                        have Y : Hid (el xs (t + s) = x ∧ el gone s = y) := ⟨hx, hy⟩
                        clear hx hy hc1 hc2
                        cases hxy : x == y with
                        | true =>
                          have hxy2 : (!x == y) = false := by rw [hxy]; rfl
                          go_wp2_with fail
                          go_quiet (fail)
                          go_wp2
                          go_roundg (gk - 1)
                          case measure => omega
                          case rel =>
                            refine ⟨s + 1, _, by go_num, by omega, rfl, by omega, fun j hj => ?_⟩
                            by_cases e : j = s
                            · rw [e, Y.out.1, Y.out.2]
                              exact (by simpa using hxy : x = y).symm
                            · exact HS.out j (by omega)
                        | false =>
                          have hxy2 : (!x == y) = true := by rw [hxy]; rfl
                          have hbad := BAD.out wr HT.out.bel (HR.out.1.bad X.out.1 (fun q => by
                            have := (prefix_no (by rw [X.out.2.1]; exact hsg) q.2.2.1).2
                            simp only [Int.toNat_natCast] at this
                            rw [el_drop, Y.out.1, Y.out.2] at this
                            rw [this, beq_self_eq_true] at hxy
                            cases hxy))
                          have B1 : Hid _ := hbad
                          clear hbad
                          go_wp2_with fail
                          go_quiet (fail)
                          go_wp2
                          refine bodyPost_ret (results_tmp2 rfl _ _ _) rfl ?_
                          obtain ⟨v', e', o', b'⟩ := B1.out
                          exact ⟨v', e', (o'.below (below_drewN (Below.refl _ _) q)).below (below_drewN (Below.refl _ _) _), below_drewN (below_drewN b' q) _⟩
                      · have hed : decide ((n : Int) ≤ (t : Int) + (s : Int)) = true := decide_eq_true (by omega)
                        have hbad := BAD.out wr HT.out.bel (HR.out.1.bad X.out.1 (fun q => by
                          have := (prefix_no (by rw [X.out.2.1]; exact hsg) q.2.2.1).1
                          simp only [Int.toNat_natCast, List.length_drop] at this
                          have := H.out.2.1
                          omega))
                        have B1 : Hid _ := hbad
                        clear hbad
                        go_wp2_with fail
                        go_quiet (fail)
                        go_wp2
                        refine bodyPost_ret (results_tmp2 rfl _ _ _) rfl ?_
                        obtain ⟨v', e', o', b'⟩ := B1.out
                        exact ⟨v', e', (o'.below (below_drewN (Below.refl _ _) q)).below (below_drewN (Below.refl _ _) _), below_drewN (below_drewN b' q) _⟩
                    · obtain rfl : s = gl := by omega
                      have hfit : Fits xs p out ⟨t, L, gone, new⟩ := by
                        refine ⟨by show (p : Int) ≤ (t : Int); omega, by show (t : Int) ≤ _; rw [H.out.2.1]; omega, ?_, by show (L : Int) = _; simp only [Int.toNat_natCast]; rw [LL.out.1]⟩
                        simp only [Int.toNat_natCast]
                        refine prefix_yes (by rw [X.out.2.1, List.length_drop, H.out.2.1]; omega) (fun j hj => ?_)
                        rw [el_drop]
                        exact HS.out j (by rw [X.out.2.1] at hj; exact hj)
                      have hnext := HR.out.1.next X.out.1 hfit
                      simp only [Int.toNat_natCast, X.out.2.1] at hnext
                      have N : Hid (AI xs hs (i + 1) (t + s) (out ++ cutL xs p t ++ new)) := hnext
                      clear hnext hfit
                      have NB : Hid (nl ≤ 3000000 ∧ L + nl + tot (hs.drop (i + 1)) + n ≤ n + tot hs + (t + s)) := by
                        have h1 := HR.out.2.2.1
                        rw [tot_drop X.out.1] at h1
                        have h2 := X.out.2.2.1
                        have h5 := LL.out.2
                        simp only at *
                        constructor <;> omega
                      go_wp2_with (at_builtin; refine app_list_at rfl (.tmp 93) (.tmp 95) rfl w.heap.size _ (out ++ cutL xs p t) new na nl nc rfl (HT.out.drew q).own rfl ((X.out.2.2.2.2.below HT.out.bel).below (below_drewN (Below.refl _ _) q)) X.out.2.2.1 (by rw [LL.out.1]; have := NB.out; omega) (HT.out.drew q).bel.size ?_; intro v6 w6 ho6 hb6 hm6 ht6; have J6 : Hid (RA w w6 Bh t L (.slice ga s gc) (.slice na nl nc) v6 (out ++ cutL xs p t ++ new)) := (HT.out.drew q).next ho6 hb6 hm6 ht6; clear ho6 hb6 hm6 ht6; obtain ⟨i1, i2, i3, i4⟩ := J6.out.hk.cells)
                      go_roundg (gk_1 - 1)
                      case measure => omega
                      case rel =>
                        refine ⟨i + 1, t + s, _, by go_num, by go_num, by omega, by omega, N.out, J6.out.own, ?_, J6.out.bel⟩
                        rw [List.length_append, LL.out.1, X.out.2.2.1]
                        exact NB.out.2
                · have hbad := BAD.out wr HT.out.bel (HR.out.1.bad X.out.1 (fun q => by
                    have := q.2.2.2
                    simp only [Int.toNat_natCast] at this
                    rw [LL.out.1] at this
                    exact h4 this))
                  have B1 : Hid _ := hbad
                  clear hbad
                  go_wp2
                  refine bodyPost_ret (results_tmp2 rfl _ _ _) rfl ?_
                  exact B1.out
    · obtain rfl : i = K := by omega
      have hdone := HR.out.1.done (K := i) (by rw [H.out.2.2.2.2]; omega)
      have DD : Hid (applyFrom xs 0 [] hs = some (out ++ xs.drop p) ∧ out.length ≤ 3000000) := ⟨hdone, by have := HR.out.2.2.1; omega⟩
      clear hdone
      go_wp2_with fail
      go_loopg [6, 12] (n - p) (fun k ov iv wq => ∃ t : Nat, iv = .int .i64 t ∧ p ≤ t ∧ t + k = n ∧ Hid (Own wq w.heap.size ov (out ++ cutL xs p t) ∧ Below w.heap.size w wq))
      case atStart => exact ⟨p, rfl, Nat.le_refl _, by omega, by rw [cutL_none, List.append_nil]; exact HR.out.2.1, HR.out.2.2.2⟩
      case round =>
        obtain ⟨t, rfl, hpt, htA, HT⟩ := hrel
        by_cases htn : t < n
        · have td : (t : Int) < (n : Int) := by omega
          obtain ⟨b1, o1, rfl, hlt1, hc1⟩ := H.out.1 (by rw [H.out.2.1]; omega)
          obtain ⟨x, hx⟩ : ∃ x, el xs t = x := ⟨_, rfl⟩
          have c1 := (HT.out.2.cell (p := ⟨b1, o1 + t, none⟩) hlt1).trans (hc1 t (by rw [H.out.2.1]; omega))
          rw [hx] at c1
          have Y : Hid (out ++ cutL xs p (t + 1) = out ++ cutL xs p t ++ [x] ∧ (out ++ cutL xs p t).length ≤ 4000000) := by
            refine ⟨by rw [cutL_more hpt (by rw [H.out.2.1]; omega), hx, List.append_assoc], ?_⟩
            rw [out_len (by rw [H.out.2.1]; omega)]
            have := DD.out.2
            omega
          clear hx hc1
          go_wp2_with (at_builtin; refine app_one_at rfl (.tmp 110) (.tmp 115) rfl w.heap.size _ (out ++ cutL xs p t) x _ rfl HT.out.1 rfl Y.out.2 HT.out.2.size ?_; intro v5 w5 ho5 hb5 hm5 ht5)
          have J5 : Hid (Own w5 w.heap.size v5 (out ++ cutL xs p (t + 1)) ∧ Below w.heap.size w w5) := by
            refine ⟨?_, HT.out.2.trans hb5⟩
            rw [Y.out.1]
            exact ho5
          clear ho5 hb5 hm5 ht5
          go_wp2
          go_roundg (gk - 1)
          case measure => omega
          case rel => exact ⟨t + 1, by go_num, by omega, by omega, J5.out⟩
        · obtain rfl : t = n := by omega
          have hcut : cutL xs p t = xs.drop p := by rw [← H.out.2.1]; exact cutL_end xs p
          obtain ⟨l, hl⟩ : ∃ l, out ++ cutL xs p t = l := ⟨_, rfl⟩
          have DE : Hid (applyFrom xs 0 [] hs = some l) := by
            show _ = some l
            rw [← hl, hcut]
            exact DD.out.1
          have OW : Hid (Own wr w.heap.size u6 l ∧ Below w.heap.size w wr) := by rw [← hl]; exact HT.out
          clear HT hl hcut
          obtain ⟨a5, c5, rfl, hc5, hc6, _⟩ := OW.out.1.form
          obtain ⟨L, hL⟩ : ∃ L, l.length = L := ⟨_, rfl⟩
          have LL : Hid (l.length = L) := hL
          rw [hL] at OW ⊢
          clear hL
          by_cases hbig : 256 < L
          · have hbig2 : (256 : Int) < (L : Int) := by omega
            have e := AN.out
            rw [ans_much h256.out DE.out (by rw [LL.out]; exact hbig)] at e
            subst e
            go_wp2
            refine bodyPost_ret (results_tmp2 rfl _ _ _) rfl ?_
            exact ⟨_, rfl, Own.nil _ _, OW.out.2⟩
          · have hbig2 : decide ((256 : Int) < (L : Int)) = false := decide_eq_false (by omega)
            have e := AN.out
            rw [ans_ok h256.out DE.out (by rw [LL.out]; exact hbig)] at e
            subst e
            go_wp2
            refine bodyPost_ret (results_tmp2 rfl _ _ _) rfl ?_
            exact ⟨_, rfl, OW.out.1, OW.out.2⟩

/-- The reference's Apply of whatever list. -/
theorem rapply_any {ao ho : Option Addr} {n c K d : Nat} {xs : List Bs} {vs : List HV} {hs : List Hk} (w : World) (ha : Rd w ao xs) (hl : xs.length = n) (hv : RdG encH w ho vs) (hh : Hks w vs hs) (hK : hs.length = K) (hK2 : K ≤ 4000000000000000000) (hT : n + tot hs ≤ 3000000) (l : List Bs) (ee : Int) (hz : ans xs hs = (l, ee)) :
    Calls Try.prog 16 #[.slice ao n c, .slice ho K d] w fun e w' => ∃ v', e = .returned (.tuple #[v', .int .i64 ee]) ∧ Own w' w.heap.size v' l ∧ Below w.heap.size w w' := by
  by_cases hn : n ≤ 256
  · have := rapply_short (c := c) (d := d) w ha hl hn hv hh hK hK2 hT
    rw [hz] at this
    exact this
  · rw [ans_long (by omega)] at hz
    cases hz
    refine (rapply_long (c := c) (d := d) (ao := ao) (ho := ho) w (by omega)).mono ?_
    rintro e w' ⟨rfl, rfl⟩
    exact ⟨_, rfl, Own.nil _ _, Below.refl _ _⟩

end Go.Proofs.Ytmblkkmfbgngdaa
