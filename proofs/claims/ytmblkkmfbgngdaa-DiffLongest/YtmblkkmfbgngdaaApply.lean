/-
  diff.Apply by a contract: the document's lines in a new row, or the document's error. At most 4 * 10^18 new lines.
-/
import Derived.Test.YtmblkkmfbgngdaaSize
namespace Go.Proofs.Ytmblkkmfbgngdaa
open Go.RowKit

/-- A whole list more behind a row of the call's own, and what it turns. -/
theorem app_list_at {ops : Array Oper} {rest : List Oper} {o : Oper} {a : Act} {w : World} {Q : Exit → Act → World → Prop} (hgd : o.guard = none) (s x : Operand)
    (hop : o.op = .call { callee := .builtin .append, args := #[s, x], argTypes := #[22, 22] }) (base : Nat) (v : Value) (ss xs : List Bs) (ao : Option Addr) (n c : Nat) (hs : a.eval s = v) (hown : Own w base v ss)
    (hx : a.eval x = .slice ao n c) (hr : Rd w ao xs) (hl : xs.length = n) (hlen : ss.length + n ≤ 8796093022208) (hb : base ≤ w.heap.size)
    (h : ∀ v' w', Own w' base v' (ss ++ xs) → Below base w w' → Moved w v v' → Turned (fun k => v.ownBlock = some k) w w' → wpList Try.prog ops Q rest (a.put o.dst v') w') :
    wpList Try.prog ops Q (o :: rest) a w := by
  obtain ⟨i0, hi0, hz0, hz1, hz2⟩ := info_parts Try.info9
  by_cases h0 : 0 < xs.length
  · obtain ⟨b, off, rfl, hlt, hc⟩ := hr h0
    refine wpList_append_moved hgd s x 22 hop base 9 i0 _ 1 16 Try.underlying22 hi0 hz0 hz1 hz2 rfl (by decide) v ss.length (ss.map encStr) hs hown ⟨b, off, none⟩ n c (xs.map encStr) hx (by simp [hl]) (by
      intro j u hu
      rw [List.getElem?_map] at hu
      have hj : j < xs.length := by
        rcases Nat.lt_or_ge j xs.length with q | q
        · exact q
        · rw [List.getElem?_eq_none q] at hu; simp at hu
      rw [List.getElem?_eq_getElem hj] at hu
      rw [addr_plus, hc j hj, el_get hj, ← hu]
      rfl) (by intro u hu; obtain ⟨y, _, rfl⟩ := List.mem_map.1 hu; rfl) (by simp only [maxLen]; omega) (by omega) hb ?_
    intro v' w' h1 h2 h3
    have ht : Turned (fun k => v.ownBlock = some k) w w' := (Turned.refl _ _).grown h2 (fun k _ e => e)
    refine h v' w' ?_ (Own.turn hown hb ht) h3 ht
    unfold Own
    rw [List.length_append, List.map_append, hl]
    exact h1
  · obtain rfl : xs = [] := List.eq_nil_of_length_eq_zero (by omega)
    obtain rfl : n = 0 := hl.symm
    obtain ⟨ao2, cap, rfl, hle, _, _⟩ := hown.form
    refine wpList_plain hgd fun K hK => ?_
    have hrun := run_append_none 22 o.type 9 i0 Try.underlying22 hi0 ao2 ss.length cap hle ao c w
    unfold Oper.wp
    simp [execOp, hop, resolve, invoke, builtin, hs, hx, hrun, Result.andThen]
    exact hK _ _ (h _ w (by rw [List.append_nil]; exact hown) (Below.refl _ _) (.inl rfl) (Turned.refl _ _))

/-- What the document asks of Apply: the lines, and the error. -/
def ans (xs : List Bs) (hs : List Hk) : List Bs × Int :=
  if 256 < xs.length then ([], 4) else match applyFrom xs 0 [] hs with
    | none => ([], 9)
    | some l => if 256 < l.length then ([], 4) else (l, 0)

theorem ans_long {xs : List Bs} {hs : List Hk} (h : 256 < xs.length) : ans xs hs = ([], 4) := by simp [ans, h]
theorem ans_form {xs : List Bs} {hs : List Hk} (h : ¬ 256 < xs.length) (k : applyFrom xs 0 [] hs = none) : ans xs hs = ([], 9) := by simp [ans, h, k]
theorem ans_much {xs : List Bs} {hs : List Hk} {l : List Bs} (h : ¬ 256 < xs.length) (k : applyFrom xs 0 [] hs = some l) (hl : 256 < l.length) : ans xs hs = ([], 4) := by simp [ans, h, k, hl]
theorem ans_ok {xs : List Bs} {hs : List Hk} {l : List Bs} (h : ¬ 256 < xs.length) (k : applyFrom xs 0 [] hs = some l) (hl : ¬ 256 < l.length) : ans xs hs = (l, 0) := by simp [ans, h, k, hl]

theorem apply_grows {xs : List Bs} : ∀ (hs : List Hk) (p : Nat) (out l : List Bs), applyFrom xs p out hs = some l → out.length ≤ l.length
  | [], p, out, l, h => by
    simp only [applyFrom, Option.some.injEq] at h
    rw [← h]
    simp
  | g :: t, p, out, l, h => by
    simp only [applyFrom] at h
    split at h
    · have := apply_grows t _ _ l h
      simp at this
      omega
    · cases h

set_option maxHeartbeats 400000 in
theorem apply_long {ao ho : Option Addr} {n c K d : Nat} (w : World) (h : 256 < n) :
    Calls Try.prog 14 #[.slice ao n c, .slice ho K d] w fun e w' => e = .returned (.tuple #[.slice none 0 0, .int .i64 4]) ∧ w' = w := by
  have h2 : (256 : Int) < (n : Int) := by omega
  go_enter Try.func14, Try.ntmps14
  go_wp2
  refine bodyPost_ret (results_tmp2 rfl _ _ _) rfl ?_
  exact ⟨rfl, rfl⟩

set_option maxHeartbeats 3200000 in
set_option maxRecDepth 100000 in
theorem apply_short {ao ho : Option Addr} {n c K d : Nat} {xs : List Bs} {vs : List HV} {hs : List Hk} (w : World) (ha : Rd w ao xs) (hl : xs.length = n) (hn : n ≤ 256) (hc : n ≤ c) (hv : RdG encH w ho vs) (hh : Hks w vs hs) (hK : hs.length = K) (hK2 : K ≤ 4000000000000000000) (hT : n + tot hs ≤ 4000000000000000000) :
    Calls Try.prog 14 #[.slice ao n c, .slice ho K d] w fun e w' => ∃ v', e = .returned (.tuple #[v', .int .i64 (ans xs hs).2]) ∧ Own w' w.heap.size v' (ans xs hs).1 ∧ Below w.heap.size w w' := by
  obtain ⟨r, hr⟩ : ∃ r, applyFrom xs 0 [] hs = r := ⟨_, rfl⟩
  have hsz := size_any (c := c) (d := d) w ha hl hn hc hv hh hK hK2 hT r hr
  have H : Hid (Rd w ao xs ∧ xs.length = n ∧ RdG encH w ho vs ∧ Hks w vs hs ∧ hs.length = K ∧ applyFrom xs 0 [] hs = r) := ⟨ha, hl, hv, hh, hK, hr⟩
  have h256 : Hid (¬ 256 < xs.length) := by show ¬ _; omega
  obtain ⟨z, hz⟩ : ∃ z, ans xs hs = z := ⟨_, rfl⟩
  rw [hz]
  have AN : Hid (ans xs hs = z) := hz
  clear ha hl hv hh hK hr hz hT
  have hn2 : decide ((256 : Int) < (n : Int)) = false := decide_eq_false (by omega)
  go_enter Try.func14, Try.ntmps14
  go_wp2_with fail
  refine hsz.mono ?_
  rintro e w2 ⟨hcase, hb2⟩
  have B2 : Hid (Below w.heap.size w w2) := hb2
  clear hb2 hsz
  obtain ⟨l, ⟨hrl, rfl⟩ | ⟨hrl, rfl⟩⟩ := hcase
  · subst hrl
    obtain ⟨ln, hln⟩ : ∃ ln, l.length = ln := ⟨_, rfl⟩
    rw [hln]
    have LN : Hid (l.length = ln) := hln
    clear hln
    by_cases hbig : 256 < ln
    · have hbig2 : (256 : Int) < (ln : Int) := by omega
      have e := AN.out
      rw [ans_much h256.out H.out.2.2.2.2.2 (by rw [LN.out]; exact hbig)] at e
      subst e
      go_wp2
      refine bodyPost_ret (results_tmp2 rfl _ _ _) rfl ?_
      exact ⟨_, rfl, Own.nil _ _, B2.out⟩
    · have hbig2 : decide ((256 : Int) < (ln : Int)) = false := decide_eq_false (by omega)
      have e := AN.out
      rw [ans_ok h256.out H.out.2.2.2.2.2 (by rw [LN.out]; exact hbig)] at e
      subst e
      go_wp2_with fail
      go_loopg [8, 9, 11, 27] K (fun k ov pv _ iv wr => ∃ (i p : Nat) (out : List Bs), iv = .int .i64 i ∧ pv = .int .i64 p ∧ i + k = K ∧ p ≤ n ∧ Hid (AI xs hs i p out ∧ Own wr w2.heap.size ov out ∧ Below w2.heap.size w2 wr))
      case atStart => exact ⟨0, 0, [], rfl, rfl, by omega, by omega, AI.start _ _, Own.nil _ _, Below.refl _ _⟩
      case round =>
        obtain ⟨i, p, out, rfl, rfl, hi, hp, HR⟩ := hrel
        by_cases hin : i < K
        · have id : (i : Int) < (K : Int) := by omega
          obtain ⟨v, h, e1, e2, hk⟩ := H.out.2.2.2.1.get (i := i) (by rw [H.out.2.2.2.2.1]; exact hin)
          have hfit : Fits xs p out h := by
            by_cases q : Fits xs p out h
            · exact q
            · have := HR.out.1.bad e2 q
              rw [H.out.2.2.2.2.2] at this
              cases this
          have hnext := HR.out.1.next e2 hfit
          obtain ⟨b, off, rfl, hlt⟩ := H.out.2.2.1.some_of e1
          obtain ⟨c1, c2, c3, c4⟩ := H.out.2.2.1.hunk e1
          have bw : Below w.heap.size w wr := B2.out.trans (HR.out.2.2.mono B2.out.size)
          have k1 := (bw.cell (p := ⟨b, off + i * 4, none⟩) hlt).trans c1
          have k2 := (bw.cell (p := ⟨b, off + i * 4 + 1, none⟩) hlt).trans c2
          have k3 := (bw.cell (p := ⟨b, off + i * 4 + 2, none⟩) hlt).trans c3
          have k4 := (bw.cell (p := ⟨b, off + i * 4 + 3, none⟩) hlt).trans c4
          obtain ⟨za, zb, ga, gl, gc, na, nl, nc⟩ := v
          obtain ⟨ya, yb, gone, new⟩ := h
          have q1 := hk.a
          have q2 := hk.b
          simp only at q1 q2 k1 k2 k3 k4
          subst q1 q2
          obtain ⟨A, rfl⟩ : ∃ A : Nat, za = (A : Int) := ⟨za.toNat, by have := hfit.1; simp only at this; omega⟩
          simp only [Int.toNat_natCast] at hnext
          have hpA : p ≤ A := by have := hfit.1; simp only at this; omega
          have hAn : A ≤ n := by have := hfit.2.1; have := H.out.2.1; simp only at *; omega
          have hgr := apply_grows _ _ _ l (by rw [hnext.split]; exact H.out.2.2.2.2.2)
          rw [List.length_append, LN.out, hk.nl] at hgr
          obtain ⟨sa, sk, sc, sl1, sl2, sl3, sl4, sl5⟩ := slice_ij (ao := ao) (c := c) H.out.2.1 hc hpA hAn
          have hAg : A + gl ≤ n := by have := hnext.low; rw [hk.gl, H.out.2.1] at this; exact this
          have X : Hid (gone.length = gl ∧ new.length = nl ∧ Rd w na new ∧ AI xs hs (i + 1) (A + gl) (out ++ cutL xs p A ++ new) ∧ (cutL xs p A).length = sk ∧ (∀ u, Rd u ao xs → Rd u sa (cutL xs p A)) ∧ (out ++ cutL xs p A).length + nl ≤ ln) := ⟨hk.gl, hk.nl, hk.rn, by have e : gone.length = gl := hk.gl; rw [e] at hnext; exact hnext, sl2, sl5, hgr⟩
          clear e1 e2 hk c1 c2 c3 c4 hnext hfit hgr sl2 sl3 sl4 sl5 bw
          have lb : Hid (out.length + sk ≤ 256 ∧ (out ++ cutL xs p A).length + nl ≤ 256) := by
            have := X.out.2.2.2.2.2.2
            have h3 : (out ++ cutL xs p A).length = out.length + sk := by rw [List.length_append, X.out.2.2.2.2.1]
            constructor <;> omega
          have hpi : (p : Int) ≤ (A : Int) := by omega
          go_upto_region 13 with fail
          obtain ⟨wE, hwE⟩ : ∃ wE, wE = wr.alloc (.cells #[.int .i64 (A : Int), .int .i64 zb, .slice ga gl gc, .slice na nl nc] 46) := ⟨_, rfl⟩
          obtain ⟨Bh, hBh⟩ : ∃ Bh, wr.heap.size = Bh := ⟨_, rfl⟩
          have bE : Below wr.heap.size wr wE := by rw [hwE]; exact (Below.refl _ wr).alloc (Nat.le_refl _) _
          have J : Hid (Below w2.heap.size w2 wE ∧ HunkAt wE Bh 46 A zb (.slice ga gl gc) (.slice na nl nc) ∧ Own wE w2.heap.size u8 out ∧ (∀ k, u8.ownBlock = some k → k < Bh)) := by
            refine ⟨HR.out.2.2.trans (bE.mono HR.out.2.2.size), by rw [hwE, ← hBh]; exact HunkAt.new wr 46 A zb _ _, HR.out.2.1.below bE, fun k hk => ?_⟩
            rw [← hBh]
            exact (HR.out.2.1.lt k hk).2
          rw [← hwE, hBh]
          clear hwE hBh bE k1 k2 k3 k4
          obtain ⟨k1, k2, k3, k4⟩ := J.out.2.1.cells
          go_wp2_with (first
            | (at_builtin; refine app_list_at rfl (.tmp 31) (.tmp 36) rfl w2.heap.size _ out (cutL xs p A) sa sk sc rfl J.out.2.2.1 rfl (X.out.2.2.2.2.2.1 _ (H.out.1.below (B2.out.trans (J.out.1.mono B2.out.size)))) X.out.2.2.2.2.1 (by have := lb.out; omega) J.out.1.size ?_; intro v5 w5 ho5 hb5 hm5 ht5; have J5 : Hid (Own w5 w2.heap.size v5 (out ++ cutL xs p A) ∧ Below w2.heap.size w2 w5 ∧ HunkAt w5 Bh 46 A zb (.slice ga gl gc) (.slice na nl nc) ∧ (∀ k, v5.ownBlock = some k → k ≠ Bh)) := ⟨ho5, J.out.1.trans hb5, J.out.2.1.turned ht5 (fun q => by have := J.out.2.2.2 _ q; omega), fun k hk => by rcases hm5 with q | q; exact (by rw [q] at hk; have := J.out.2.2.2 _ hk; omega); exact (by have := q k hk; have := J.out.2.1.lt; omega)⟩; clear ho5 hb5 hm5 ht5; obtain ⟨j1, j2, j3, j4⟩ := J5.out.2.2.1.cells)
            | (at_builtin; refine app_list_at rfl (.tmp 38) (.tmp 40) rfl w2.heap.size _ (out ++ cutL xs p A) new na nl nc rfl J5.out.1 rfl (X.out.2.2.1.below (B2.out.trans (J5.out.2.1.mono B2.out.size))) X.out.2.1 (by have := lb.out; omega) J5.out.2.1.size ?_; intro v6 w6 ho6 hb6 hm6 ht6; have J6 : Hid (Own w6 w2.heap.size v6 (out ++ cutL xs p A ++ new) ∧ Below w2.heap.size w2 w6 ∧ HunkAt w6 Bh 46 A zb (.slice ga gl gc) (.slice na nl nc)) := ⟨ho6, J5.out.2.1.trans hb6, J5.out.2.2.1.turned ht6 (fun q => J5.out.2.2.2 _ q rfl)⟩; clear ho6 hb6 hm6 ht6; obtain ⟨i1, i2, i3, i4⟩ := J6.out.2.2.cells))
          go_wp2
          go_roundg (gk - 1)
          case measure => omega
          case rel => exact ⟨i + 1, A + gl, _, by go_num, by go_num, by omega, by omega, X.out.2.2.2.1, J6.out.1, J6.out.2.1⟩
        · obtain rfl : i = K := by omega
          have hdone := HR.out.1.done (K := i) (by rw [H.out.2.2.2.2.1]; omega)
          rw [H.out.2.2.2.2.2] at hdone
          obtain ⟨sa, sk, sc, sl1, sl2, sl3, sl4, sl5⟩ := slice_i (ao := ao) (c := c) H.out.2.1 hc hp
          have X : Hid (l = out ++ xs.drop p ∧ (xs.drop p).length = sk ∧ (∀ u, Rd u ao xs → Rd u sa (xs.drop p)) ∧ out.length + sk ≤ 256) := by
            have e : l = out ++ xs.drop p := by simpa using hdone
            refine ⟨e, sl2, sl5, ?_⟩
            have := LN.out
            rw [e, List.length_append, sl2] at this
            omega
          clear hdone sl2 sl3 sl4 sl5
          go_wp2_with (at_builtin; refine app_list_at rfl (.tmp 49) (.tmp 52) rfl w2.heap.size _ out (xs.drop p) sa sk sc rfl HR.out.2.1 rfl (X.out.2.2.1 _ (H.out.1.below (B2.out.trans (HR.out.2.2.mono B2.out.size)))) X.out.2.1 (by have := X.out.2.2.2; omega) HR.out.2.2.size ?_; intro v5 w5 ho5 hb5 hm5 ht5)
          go_wp2
          refine bodyPost_ret (results_tmp2 rfl _ _ _) rfl ?_
          refine ⟨_, rfl, ?_, B2.out.trans ((HR.out.2.2.trans hb5).mono B2.out.size)⟩
          show Own w5 w.heap.size v5 l
          rw [X.out.1]
          exact own_base ho5 B2.out.size
  · subst hrl
    have e := AN.out
    rw [ans_form h256.out H.out.2.2.2.2.2] at e
    subst e
    go_wp2
    refine bodyPost_ret (results_tmp2 rfl _ _ _) rfl ?_
    exact ⟨_, rfl, Own.nil _ _, B2.out⟩

end Go.Proofs.Ytmblkkmfbgngdaa
