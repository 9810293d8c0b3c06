/-
  object.ReadTree, by a contract: the tree of which the bytes are, or none. No condition.
-/
import Derived.Test.YtadjcmekpcimjaaTree
namespace Go.Proofs.Ytadjcmekpcimjaa
open Go.RowKit

/-- One entry as the reader takes it. -/
theorem one_read {r : Rs} (hr : r.2 = false) (hne : r.1 ≠ []) :
    ((rnum (rtxt r).2).2.2 = false ∧ one r.1 = some (((rtxt r).1, UInt64.ofNat (rnum (rtxt r).2).1), (rnum (rtxt r).2).2.1)) ∨ ((rnum (rtxt r).2).2 = ([], true) ∧ one r.1 = none) := by
  obtain ⟨l, s⟩ := r
  simp only at hr hne
  subst hr
  cases l with
  | nil => exact absurd rfl hne
  | cons x t =>
    have hx := x.toNat_lt
    have e1 : rcnt (x :: t, false) = (x.toNat, (t, false)) := by
      have := rcnt_app x.toNat (by omega) t false
      simpa using this
    have e2 : rtxt (x :: t, false) = rtake x.toNat (t, false) := by
      unfold rtxt
      rw [e1]
    rw [e2]
    by_cases h1 : t.length < x.toNat
    · right
      have e3 : rtake x.toNat (t, false) = ([], ([], true)) := by unfold rtake; rw [if_pos h1]
      rw [e3]
      refine ⟨by unfold rnum rtake; simp, ?_⟩
      simp only [one]
      rw [if_pos (by omega)]
    · have e3 : rtake x.toNat (t, false) = (t.take x.toNat, (t.drop x.toNat, false)) := by unfold rtake; rw [if_neg h1]
      rw [e3]
      by_cases h2 : t.length < x.toNat + 8
      · right
        refine ⟨?_, ?_⟩
        · unfold rnum rtake
          simp only
          rw [if_pos (by rw [List.length_drop]; omega)]
        · simp only [one]
          rw [if_pos h2]
      · left
        have e4 : rtake 8 (t.drop x.toNat, false) = ((t.drop x.toNat).take 8, ((t.drop x.toNat).drop 8, false)) := by
          unfold rtake
          simp only
          rw [if_neg (by rw [List.length_drop]; omega)]
        unfold rnum
        simp only
        rw [e4]
        refine ⟨rfl, ?_⟩
        simp only [one]
        rw [if_neg h2, List.drop_drop]

theorem read_less {r : Rs} (hr : r.2 = false) (hne : r.1 ≠ []) : (rnum (rtxt r).2).2.1.length < r.1.length := by
  rcases one_read hr hne with ⟨_, h⟩ | ⟨h, _⟩
  · have := (one_some h).1
    have l := congrArg List.length this
    rw [List.length_append, entB_len] at l
    omega
  · rw [h]
    cases hl : r.1 with
    | nil => exact absurd hl hne
    | cons x t => simp

/-- Where the reading of a tree stands. -/
def Half (bs : Bs) (es : List En) (r : Rs) : Prop := es.length ≤ 65 ∧ Sm es ∧ ((r.2 = false ∧ bs = treeB es ++ r.1) ∨ (r = ([], true) ∧ RT bs [] 9))

theorem Half.start (bs : Bs) : Half bs [] (bs, false) := ⟨by simp, fun e h => by simp at h, .inl ⟨rfl, by simp [treeB]⟩⟩

theorem Half.step {bs : Bs} {es : List En} {r : Rs} (h : Half bs es r) (hne : r.1 ≠ []) (h64 : es.length ≤ 64) :
    Half bs (es ++ [((rtxt r).1, UInt64.ofNat (rnum (rtxt r).2).1)]) (rnum (rtxt r).2).2 ∧ (rnum (rtxt r).2).2.1.length < r.1.length := by
  obtain ⟨_, h2, h3⟩ := h
  rcases h3 with ⟨h3, h4⟩ | ⟨h3, _⟩
  · refine ⟨⟨by simp; omega, h2.snoc (rtxt_len r), ?_⟩, read_less h3 hne⟩
    rcases one_read h3 hne with ⟨q1, q2⟩ | ⟨q1, q2⟩
    · left
      refine ⟨q1, ?_⟩
      rw [treeB_snoc, List.append_assoc, ← (one_some q2).1]
      exact h4
    · right
      exact ⟨q1, rt_none h2 h4 hne q2⟩
  · rw [h3] at hne
    exact absurd rfl hne

set_option maxHeartbeats 3200000 in
set_option maxRecDepth 100000 in
/-- object.ReadTree. -/
theorem readTree_any {a : Option Addr} {n c : Nat} {bs : Bs} (w : World) (hb : BAt w (.slice a n c) bs) (hl : bs.length = n) :
    Calls Try.prog 11 #[.slice a n c] w fun e w' => ∃ es er v, e = .returned (.tuple #[v, .int .i64 er]) ∧ Hid (RT bs es er ∧ OwnG encE 39 w' w.heap.size v es ∧ Below w.heap.size w w') := by
  have H : Hid (Rdr (w.alloc (.cells #[.slice a n c, .bool false] 72)) w.heap.size (bs, false) ∧ Below w.heap.size w (w.alloc (.cells #[.slice a n c, .bool false] 72)) ∧ (w.alloc (.cells #[.slice a n c, .bool false] 72)).heap.size = w.heap.size + 1 ∧ bs.length = n) :=
    ⟨Rdr.new hb hl, bz1 _ _, by simp, hl⟩
  clear hb hl
  go_enter Try.func11, Try.ntmps11
  go_wp2_with fail
  go_loopg [5] n (fun m lv wr => ∃ (es : List En) (r : Rs) (la : Option Addr) (lc L : Nat), lv = .slice la L lc ∧ L ≤ 65 ∧ m = r.1.length ∧ Hid (L = es.length ∧ Half bs es r ∧ Rdr wr w.heap.size r ∧ OwnG encE 39 wr (w.heap.size + 1) lv es ∧ Below w.heap.size w wr ∧ w.heap.size + 1 ≤ wr.heap.size))
  case atStart => exact ⟨[], (bs, false), none, 0, 0, rfl, by omega, H.out.2.2.2.symm, rfl, Half.start bs, H.out.1, OwnG.nil _ _ _ _, H.out.2.1, by rw [H.out.2.2.1]; exact Nat.le_refl _⟩
  case round =>
    obtain ⟨es, r, la, lc, L, rfl, hL, hm, HR⟩ := hrel
    obtain ⟨ra, rc, hbx, _⟩ := HR.out.2.2.1.at_
    rw [← hm] at hbx
    obtain ⟨x0, x1⟩ := hbx.cells
    clear hbx
    by_cases h0 : gk = 0
    · subst h0
      have hr0 : r.1 = [] := List.eq_nil_of_length_eq_zero hm.symm
      have hh := HR.out.2.1
      obtain ⟨_, hsm, hq⟩ := hh
      clear hm
      cases hs : r.2 with
      | true =>
        rw [hs] at x1
        have hrt : RT bs [] 9 := by
          rcases hq with ⟨q1, _⟩ | ⟨_, q2⟩
          · rw [hs] at q1; cases q1
          · exact q2
        have HH : Hid (RT bs [] 9) := hrt
        clear hq hrt hs hr0 hsm
        go_wp2
        refine bodyPost_ret (results_tmp2 rfl _ _ _) rfl ?_
        exact ⟨[], 9, _, rfl, HH.out, OwnG.nil _ _ _ _, HR.out.2.2.2.2.1⟩
      | false =>
        rw [hs] at x1
        have hbs : bs = treeB es := by
          rcases hq with ⟨_, q2⟩ | ⟨q1, _⟩
          · rw [hr0, List.append_nil] at q2; exact q2
          · rw [q1] at hs; cases hs
        obtain ⟨ao', cap', e', o1, _, o3, _⟩ := OwnG.form HR.out.2.2.2.1
        rw [← HR.out.1] at e' o1
        cases e'
        have hct := ctree_any wr o3 HR.out.1.symm (fun e he => by have := hsm e he; omega) o1
        obtain ⟨ce, hce⟩ : ∃ ce, ctree es = ce := ⟨_, rfl⟩
        rw [hce] at hct
        have HH : Hid (bs = treeB es ∧ Sm es ∧ ctree es = ce) := ⟨hbs, hsm, hce⟩
        clear hq hbs hsm hce o1 o3 hs hr0
        by_cases hc0 : ce = 0
        · subst hc0
          go_wp2_with fail
          refine hct.mono ?_
          rintro e w2 ⟨rfl, hb2⟩
          go_wp2
          refine bodyPost_ret (results_tmp2 rfl _ _ _) rfl ?_
          exact ⟨es, 0, _, rfl, .inl ⟨rfl, HH.out.2.2, HH.out.1.symm⟩, (HR.out.2.2.2.1.below hb2).low (Nat.le_succ _), HR.out.2.2.2.2.1.trans (hb2.mono HR.out.2.2.2.2.1.size)⟩
        · have m0 : (ce == 0) = false := by simpa using hc0
          have m1 : (ce != 0) = true := by simpa using hc0
          go_wp2_with fail
          refine hct.mono ?_
          rintro e w2 ⟨rfl, hb2⟩
          go_wp2
          refine bodyPost_ret (results_tmp2 rfl _ _ _) rfl ?_
          exact ⟨[], 9, _, rfl, rt_bad HH.out.2.1 HH.out.1.symm (by rw [HH.out.2.2]; exact hc0), OwnG.nil _ _ _ _, HR.out.2.2.2.2.1.trans (hb2.mono HR.out.2.2.2.2.1.size)⟩
    · have d0 : (0 : Int) < (gk : Int) := by omega
      have hne : r.1 ≠ [] := by intro q; rw [q] at hm; simp at hm; exact h0 hm
      by_cases h64 : L ≤ 64
      · have d1 : (L : Int) ≤ 64 := by omega
        have hst := HR.out.2.1.step hne (by rw [← HR.out.1]; exact h64)
        obtain ⟨t, ht⟩ : ∃ t : ByteArray, t = ⟨(rtxt r).1.toArray⟩ := ⟨_, rfl⟩
        have htx := txt_any HR.out.2.2.1 t (rtxt r).2 (by rw [ht])
        obtain ⟨r1, hr1⟩ : ∃ r1, (rtxt r).2 = r1 := ⟨_, rfl⟩
        rw [hr1] at htx hst
        obtain ⟨v, hv⟩ : ∃ v, (rnum r1).1 = v := ⟨_, rfl⟩
        obtain ⟨r2, hr2⟩ : ∃ r2, (rnum r1).2 = r2 := ⟨_, rfl⟩
        have hrn : rnum r1 = (v, r2) := by rw [← hv, ← hr2]
        have hvl : (UInt64.ofNat v).toNat = v := by
          have := rnum_lt r1
          rw [hv] at this
          rw [UInt64.toNat_ofNat']
          omega
        rw [hv, hr2] at hst
        have HS : Hid (Half bs (es ++ [((rtxt r).1, UInt64.ofNat v)]) r2 ∧ r2.1.length < r.1.length ∧ rnum r1 = (v, r2) ∧ t = ⟨(rtxt r).1.toArray⟩ ∧ (UInt64.ofNat v).toNat = v) := ⟨hst.1, hst.2, hrn, ht, hvl⟩
        clear hst hr1 hv hr2 hrn hvl ht
        go_wp2_with fail
        refine htx.mono ?_
        rintro e w2 ⟨rfl, J2⟩
        have hnu := num_any J2.out.1 v r2 HS.out.2.2.1
        clear htx x0 x1
        go_wp2_with fail
        refine hnu.mono ?_
        rintro e w3 ⟨rfl, J3⟩
        have T3 : Turned (fun i => i = w.heap.size) wr w3 := J2.out.2.trans J3.out.2 (fun _ _ q => q)
        have B3 : Below w.heap.size w w3 := HR.out.2.2.2.2.1.trans (T3.below HR.out.2.2.2.2.1.size (fun k hk q => by have q' : k = w.heap.size := q; omega))
        have o3 := HR.out.2.2.2.1.stays T3 (fun g hg q => by have := (HR.out.2.2.2.1.lt g hg).1; have q' : g = w.heap.size := q; omega)
        have s3 : w.heap.size + 1 ≤ w3.heap.size := Nat.le_trans HR.out.2.2.2.2.2 T3.size
        have J4 : Hid (OwnG encE 39 w3 (w.heap.size + 1) (.slice la L lc) es ∧ Below w.heap.size w w3 ∧ w.heap.size + 1 ≤ w3.heap.size) := ⟨o3, B3, s3⟩
        clear T3 B3 o3 s3 hnu
        go_wp2_with (at_builtin; refine appG_one encE 39 22 24 _ rfl Try.info39 Try.underlying22 rfl (.tmp 19) (.tmp 23) rfl (w.heap.size + 1) _ es ((rtxt r).1, UInt64.ofNat v) _ rfl J4.out.1 rfl (by rw [← HR.out.1]; omega) (by rw [← HR.out.1]; simp only [maxLen]; omega) J4.out.2.2 _ (by show _ = #[tx (rtxt r).1, Value.int .u64 ((UInt64.ofNat v).toNat : Int)]; rw [HS.out.2.2.2.2, HS.out.2.2.2.1]) ?_; intro v4 w4 ho4 hb4 hm4 ht4)
        obtain ⟨a4, c4, rfl, _, _, _, _⟩ := OwnG.form ho4
        have l4 : (es ++ [((rtxt r).1, UInt64.ofNat v)]).length = L + 1 := by rw [List.length_append, ← HR.out.1]; rfl
        rw [l4] at ho4 ⊢
        go_wp2
        go_roundg r2.1.length
        case measure => have := HS.out.2.1; omega
        case rel =>
          exact ⟨_, r2, a4, c4, L + 1, rfl, by omega, rfl, l4.symm, HS.out.1, J3.out.1.over hb4, ho4, J4.out.2.1.trans (hb4.mono (Nat.le_succ _)), Nat.le_trans J4.out.2.2 hb4.size⟩
      · have d1 : decide ((L : Int) ≤ 64) = false := by rw [decide_eq_false_iff_not]; omega
        have hh := HR.out.2.1
        obtain ⟨_, hsm, hq⟩ := hh
        have hq2 : r.2 = false ∧ bs = treeB es ++ r.1 := by
          rcases hq with q | ⟨q, _⟩
          · exact q
          · rw [q] at hne; exact absurd rfl hne
        rw [hq2.1] at x1
        have hrt : RT bs [] 9 := rt_long hsm (by rw [← HR.out.1]; omega) hq2.2
        obtain ⟨ao', cap', e', o1, _, o3, _⟩ := OwnG.form HR.out.2.2.2.1
        rw [← HR.out.1] at e' o1
        cases e'
        have hct := ctree_any wr o3 HR.out.1.symm (fun e he => by have := hsm e he; omega) o1
        have hce : ctree es = 4 := by unfold ctree; rw [if_pos (by rw [← HR.out.1]; omega)]
        rw [hce] at hct
        have HH : Hid (RT bs [] 9) := hrt
        clear hq hq2 hsm hce o1 o3 hrt
        go_wp2_with fail
        refine hct.mono ?_
        rintro e w2 ⟨rfl, hb2⟩
        go_wp2
        refine bodyPost_ret (results_tmp2 rfl _ _ _) rfl ?_
        exact ⟨[], 9, _, rfl, HH.out, OwnG.nil _ _ _ _, HR.out.2.2.2.2.1.trans (hb2.mono HR.out.2.2.2.2.1.size)⟩

end Go.Proofs.Ytadjcmekpcimjaa
