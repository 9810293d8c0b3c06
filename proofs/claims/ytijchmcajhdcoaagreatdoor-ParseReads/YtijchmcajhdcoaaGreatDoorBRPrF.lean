/-
  Leaves of the reference's Parse, as they stand where it is walked (each a lemma of its own). The theorem itself says nothing: HF ends the leaves of the other texts.
-/
import Derived.Test.YtijchmcajhdcoaaGreatDoorBRPiv
import Derived.Test.YtijchmcajhdcoaaGreatDoorERScn
import Derived.Test.YtijchmcajhdcoaaGreatDoorJUp
import Derived.Test.YtijchmcajhdcoaaGreatDoorJSig
namespace Go.Proofs.YtijchmcajhdcoaaGreatDoor
open Go.RowKit

set_option maxHeartbeats 400000000 in
set_option maxRecDepth 100000 in
theorem rparse_kF (HF : Hid (∀ n : Nat, n < n)) (s : ByteArray) (hs : s.size ≤ 1024) {ts : List Tk} (h : Sc 0 s.data.toList ts none) (hnm : ∀ t ∈ ts, t.kind = 1 → t.text ≠ []) (hsz : ∀ nd, rn (s.size : Int) [] [] true ts = .ok nd → nd.sz ≤ 100000) (w : World) :
    Calls Tryz.prog 6 #[.string s] w fun e w' => ∃ (v : NV) (a c : Int), e = .returned (.tuple #[v.val, .int .i64 a, .int .i64 c]) ∧ Below w.heap.size w w' ∧ Rz (s.size : Int) ts (Bt w.heap.size w'.heap.size) v a c w' := by
  obtain ⟨W1, m2, hW1, hm2, bW1, hs1⟩ := layR w 34 #[.int .i64 0, .string ⟨#[]⟩, .int .i64 0, .int .u64 0, .slice none 0 0, .int .i64 0]
  have hbx : Box6 W1 m2 34 (.int .i64 0) (.string ⟨#[]⟩) (.int .i64 0) (.int .u64 0) (.slice none 0 0) (.int .i64 0) := by rw [← hW1, ← hm2]; exact Box6.new _ _ _ _ _ _ _ _
  have HC : Hid (Calls Tryz.prog 14 _ _ _) := rscan_short s hs W1
  have H : Hid (Sc 0 s.data.toList ts none ∧ (∀ t ∈ ts, t.kind = 1 → t.text ≠ []) ∧ (∀ nd, rn (s.size : Int) [] [] true ts = .ok nd → nd.sz ≤ 100000) ∧ Box6 W1 m2 34 (.int .i64 0) (.string ⟨#[]⟩) (.int .i64 0) (.int .u64 0) (.slice none 0 0) (.int .i64 0) ∧ Below w.heap.size w W1 ∧ m2 = w.heap.size) := ⟨h, hnm, hsz, hbx, bW1, hm2.symm⟩
  clear h hnm hsz hbx bW1 hs1
  go_enter Tryz.func6, Tryz.ntmps6
  go_upto_region 1 with fail
  clear hW1 hm2
  go_upto_region 2 with (go_at_call 14; refine HC.out.mono ?_; rintro e w1 ⟨lv, a, c, us, er, rfl, t1, t2, t3⟩; obtain ⟨rfl, rfl⟩ := t1.uniq H.out.1; obtain ⟨rfl, rfl, t3⟩ := t3; obtain ⟨la, lc, e, L3⟩ := Lt.of t3; subst e; have HT : Hid (Lt 60 W1.heap.size w1 la us.length lc us ∧ Below W1.heap.size W1 w1 ∧ us.length ≤ s.size) := ⟨L3, t2, by have := H.out.1.few; rw [bsize]; exact this⟩; clear t1 t2 t3 L3)
  obtain ⟨n, hn⟩ : ∃ n, us.length = n := ⟨_, rfl⟩
  rw [hn] at HT ⊢
  go_upto_region 5 with fail
  obtain ⟨W2, mS, hW2, hmS, bW2, hs2⟩ := layR w1 58 #[.slice none 0 0, .slice none 0 0]
  have hsb : Box2 W2 mS 58 (.slice none 0 0) (.slice none 0 0) := by rw [← hW2, ← hmS]; exact Box2.new _ _ _ _
  have HN : Hid (us.length = n ∧ n ≤ 1024 ∧ mS = w1.heap.size ∧ RdG encT w1 la us ∧ Below w1.heap.size w1 W2 ∧ n ≤ lc) := ⟨hn, by have := HT.out.2.2; omega, hmS.symm, HT.out.1.rd, bW2, HT.out.1.cap⟩
  have HP0 : Hid (PI (s.size : Int) us mS m2 w W2 0 true [] [] none 0 0 none 0 0) := by
    have hb := H.out.2.2.2.1.below HT.out.2.1
    have hl := hb.lt
    have hl2 := H.out.2.2.2.2.2
    have hb1 := H.out.2.2.2.2.1
    refine ⟨⟨hsb, hb.below bW2, ⟨OwnG.nil _ _ _ _, rfl, [], RdG.nil _ _ _, rfl, Nat.le_refl _, fun q => by simp at q, .nil⟩, (hb1.trans (HT.out.2.1.mono hb1.size)).trans (bW2.mono (by have := HT.out.2.1.size; have := hb1.size; omega)), by omega, by omega⟩, rfl, ?_, by omega, by omega⟩
    show Vk (0 + 1) []
    rfl
  have hn1 : n ≤ 1024 := HN.out.2.1
  rw [hW2, hmS]
  clear hsb bW2 hs2 hn HC hW2 hmS
  go_wp2_with fail
  go_loopg [9, 10] n (fun g bv iv wr => ∃ (i : Nat) (b : Bool) (ns : List Nd) (ws : List Wt) (na : Option Addr) (nl nc : Nat) (wa : Option Addr) (wl wk : Nat), iv = .int .i64 (i : Int) ∧ bv = .bool b ∧ i + g = n ∧ Hid (PI (s.size : Int) us mS m2 w wr i b ns ws na nl nc wa wl wk ∧ Below w1.heap.size w1 wr))
  case atStart => exact ⟨0, true, [], [], none, 0, 0, none, 0, 0, rfl, rfl, by omega, HP0.out, HN.out.2.2.2.2.1⟩
  case round =>
    obtain ⟨i, b, ns, ws, na, nl, nc, wa, wl, wk, rfl, rfl, hig, HR⟩ := hrel
    by_cases hin : i < n
    · have hii : (i : Int) < (n : Int) := by omega
      have hi0 : (0 : Int) ≤ (i : Int) := by omega
      obtain ⟨t, ht⟩ : ∃ t, us[i]? = some t := ⟨_, List.getElem?_eq_getElem (by rw [HN.out.1]; exact hin)⟩
      have hrd := HN.out.2.2.2.1.below HR.out.2
      obtain ⟨tb, tof, e1, htb⟩ := hrd.some_of ht
      subst e1
      obtain ⟨_, t0, t1, t2, t3, t4⟩ := hrd.tok ht
      obtain ⟨tk, tx, tn, ti, tp⟩ := t
      simp only at t0 t1 t2 t3 t4
      obtain ⟨W3, m11, hW3, hm11, hx11, bW3, c3, hB3, hlt3⟩ := lay5 HR.out.1.sp.bel HR.out.1.sp.bel.size 60 (.int .i64 tk) (.string ⟨tx.toArray⟩) (.int .i64 tn) (.int .u64 ti) (.int .i64 tp)
      go_upto_region 10 with fail
      clear hW3
      go_upto_region 11 with fail
      obtain ⟨W4, m12, hW4, hm12, hx12, bW4, c4, hB4, hlt4⟩ := lay5 bW3 bW3.size 60 (.int .i64 0) (.string ⟨#[]⟩) (.int .i64 0) (.int .u64 0) (.int .i64 0)
      have HD : Hid (us.drop i = ⟨tk, tx, tn, ti, tp⟩ :: us.drop (i + 1) ∧ (tk = 1 → tx ≠ []) ∧ wr.heap.size = m11 ∧ W3.heap.size = m12) := by
        refine ⟨?_, fun q => H.out.2.1 _ (List.mem_of_getElem? ht) q, hm11, hm12⟩
        obtain ⟨hlt, hg⟩ := List.getElem?_eq_some_iff.1 ht
        rw [List.drop_eq_getElem_cons hlt, hg]
      obtain ⟨d0, d1, d2, d3, d4⟩ := (hx11.below c4).cells
      obtain ⟨x0, x1, x2, x3, x4⟩ := hx12.cells
      obtain ⟨y0, y1, y2, y3, y4⟩ := hx12.thaw
      have H4 : Hid (PI (s.size : Int) us mS m2 w W4 i b ns ws na nl nc wa wl wk ∧ Below w1.heap.size w1 W4 ∧ Box5 W4 m11 60 (.int .i64 tk) (.string ⟨tx.toArray⟩) (.int .i64 tn) (.int .u64 ti) (.int .i64 tp) ∧ Box5 W4 m12 60 (.int .i64 0) (.string ⟨#[]⟩) (.int .i64 0) (.int .u64 0) (.int .i64 0) ∧ m11 < m12 ∧ mS < m11 ∧ Below wr.heap.size wr W4) := by
        refine ⟨⟨(HR.out.1.sp.below c3).below c4, HR.out.1.eq, HR.out.1.vk, HR.out.1.len⟩, (HR.out.2.trans (c3.mono HR.out.2.size)).trans (c4.mono (by have := HR.out.2.size; have := c3.size; omega)), hx11.below c4, hx12, by omega, ?_, c3.trans (c4.mono c3.size)⟩
        have := HR.out.1.sp.lt
        omega
      clear hrd hx11 hx12 bW3 c3 bW4 c4 ht
      rw [hW4, hm12]
      clear hW4 hm11 hm12
      obtain ⟨j, hj⟩ : ∃ j, j = i + 1 := ⟨_, rfl⟩
      have ej : (i : Int) + 1 = (j : Int) := by omega
      obtain ⟨⟨uk, ux, un, ui, up⟩, hu⟩ : ∃ u, pk (us.drop j) = u := ⟨_, rfl⟩
      have HJ : Hid (j = i + 1 ∧ pk (us.drop j) = ⟨uk, ux, un, ui, up⟩) := ⟨hj, hu⟩
      clear hj hu t0 t1 t2 t3 t4
      go_upto_if 44 with fail
      go_cut [] (fun u => Hid (Box5 u m12 60 (.int .i64 uk) (.string ⟨ux.toArray⟩) (.int .i64 un) (.int .u64 ui) (.int .i64 up) ∧ Box5 u m11 60 (.int .i64 tk) (.string ⟨tx.toArray⟩) (.int .i64 tn) (.int .u64 ti) (.int .i64 tp) ∧ Below wr.heap.size wr u))
      case first =>
        exact (Nat.lt_irrefl 0 (HF.out 0)).elim
      case rest =>
        obtain ⟨W5, hW5⟩ : ∃ W5, wc = W5 := ⟨_, rfl⟩
        rw [hW5] at hcut ⊢
        have H5 : Hid (PI (s.size : Int) us mS m2 w W5 i b ns ws na nl nc wa wl wk ∧ Below w1.heap.size w1 W5 ∧ Box5 W5 m11 60 (.int .i64 tk) (.string ⟨tx.toArray⟩) (.int .i64 tn) (.int .u64 ti) (.int .i64 tp) ∧ Box5 W5 m12 60 (.int .i64 uk) (.string ⟨ux.toArray⟩) (.int .i64 un) (.int .u64 ui) (.int .i64 up)) := ⟨⟨HR.out.1.sp.below hcut.out.2.2, HR.out.1.eq, HR.out.1.vk, HR.out.1.len⟩, HR.out.2.trans (hcut.out.2.2.mono HR.out.2.size), hcut.out.2.1, hcut.out.1⟩
        have HO : Hid (ns.length = nl ∧ ws.length = wl) := ⟨HR.out.1.sp.st.len, HR.out.1.sp.st.wl⟩
        have hwl5 : wl ≤ 2000 := by have := HR.out.1.len; omega
        have hnl5 : nl ≤ 2000 := by have := HR.out.1.len; omega
        have HE1 : Hid (m11 ≠ mS ∧ m12 ≠ mS ∧ m2 ≠ mS ∧ m11 ≠ m2 ∧ m12 ≠ m2 ∧ m11 ≠ m12) := by
          have h1 := H4.out.2.2.2.2
          have h2 := HR.out.1.sp.ord
          show _ ∧ _
          omega
        clear hW5 hcut H4 HR d0 d1 d2 d3 d4 x0 x1 x2 x3 x4 y0 y1 y2 y3 y4 hlt3 hlt4 hB3 hB4 htb
        obtain ⟨d0, d1, d2, d3, d4⟩ := H5.out.2.2.1.cells
        obtain ⟨x0, x1, x2, x3, x4⟩ := H5.out.2.2.2.cells
        obtain ⟨c0, c1⟩ := H5.out.1.sp.box.cells
        obtain ⟨f0, f1⟩ := H5.out.1.sp.box.thaw
        have lS : mS < W5.heap.size := H5.out.1.sp.box.lt
        have l11 : m11 < W5.heap.size := H5.out.2.2.1.lt
        have l12 : m12 < W5.heap.size := H5.out.2.2.2.lt
        cases b with
        | true =>
          go_upto_region 15 with fail
          obtain ⟨cB, hcB⟩ : ∃ cB : Bool, cB = (decide (tk = 1) && decide (uk = 5) && decide (ux = [40])) := ⟨_, rfl⟩
          have HCB : Hid (cB = (decide (tk = 1) && decide (uk = 5) && decide (ux = [40]))) := hcB
          clear hcB
          go_cut [54] (fun v q => v = .bool cB ∧ q = W5)
          case first =>
            exact (Nat.lt_irrefl 0 (HF.out 0)).elim
          case rest =>
            obtain ⟨hv54, hw5⟩ := hcut
            subst hv54
            rw [hw5]
            clear hw5
            cases cB with
            | true =>
              exact (Nat.lt_irrefl 0 (HF.out 0)).elim
            | false =>
              have HNO : Hid (¬ (tk = 1 ∧ hd (sB [40]) (us.drop j) = true)) := by
                rintro ⟨h1, h2⟩
                rw [hd_pk (by rfl), HJ.out.2] at h2
                have h3 := HCB.out
                simp only [sB, Bool.and_eq_true, decide_eq_true_eq] at h2
                rw [h1, h2.1, h2.2] at h3
                cases h3
              clear HCB
              by_cases h5 : tk = 5
              · subst h5
                by_cases hx : tx = [40]
                · as_aux_lemma =>
                    subst hx
                    go_upto_region 26 with fail
                    refine wp_code (c' := prg 26) (by kernel_rfl) ?_
                    refine wp_name (fun A hA => ?_)
                    refine Code.wp_mono ?_ (wait26 H5.out.1.sp H5.out.2.1 HN.out.2.2.1 hwl5 A (by rw [hA]; rfl) (by rw [hA]; rfl))
                    rintro e b u ⟨rfl, hb, a9, c9, hP⟩
                    have HP9 : Hid (SP mS m2 w u ns (⟨0, 0, [], true, nl⟩ :: ws) na nl nc a9 (wl + 1) c9 ∧ Below mS W5 u ∧ Below w1.heap.size w1 u) := hP
                    clear hP
                    subst hA
                    obtain ⟨u130, hb⟩ := hb.one
                    obtain ⟨u131, hb⟩ := hb.one
                    obtain ⟨u132, hb⟩ := hb.one
                    obtain ⟨u133, hb⟩ := hb.one
                    obtain ⟨u134, hb⟩ := hb.one
                    obtain ⟨u135, hb⟩ := hb.one
                    obtain ⟨u136, hb⟩ := hb.one
                    obtain ⟨u137, hb⟩ := hb.one
                    obtain ⟨u138, hb⟩ := hb.one
                    obtain rfl := hb.nil
                    simp only [Act.put, List.setIfInBounds_toArray, List.set_cons_zero, List.set_cons_succ]
                    go_wp2_with fail
                    go_roundg (gk - 1)
                    case measure => have := HJ.out.1; omega
                    case rel => exact ⟨j, true, ns, ⟨0, 0, [], true, nl⟩ :: ws, na, nl, nc, a9, wl + 1, c9, by go_num, rfl, by have := HJ.out.1; omega, ⟨HP9.out.1, want_open H5.out.1.eq HD.out.1 HJ.out.1 HO.out.1, vk_open H5.out.1.vk HO.out.1, by have := H5.out.1.len; have := HJ.out.1; omega⟩, HP9.out.2.2⟩
                · have hx' : (tx == [40]) = false := by rw [beq_eq_false_iff_ne]; exact hx
                  have HX : Hid (¬ tx = [40]) := hx
                  clear hx
                  by_cases hy : tx = [33]
                  · as_aux_lemma =>
                      subst hy
                      go_upto_region 28 with fail
                      refine wp_code (c' := prg 28) (by kernel_rfl) ?_
                      refine wp_name (fun A hA => ?_)
                      refine Code.wp_mono ?_ (wait28 H5.out.1.sp H5.out.2.1 HN.out.2.2.1 H5.out.2.2.1 hwl5 A (by rw [hA]; rfl) (by rw [hA]; rfl) (by rw [hA]; rfl))
                      rintro e b u ⟨rfl, hb, a9, c9, hP⟩
                      have HP9 : Hid (SP mS m2 w u ns (⟨11, tp, [], false, 0⟩ :: ws) na nl nc a9 (wl + 1) c9 ∧ Below mS W5 u ∧ Below w1.heap.size w1 u) := hP
                      clear hP
                      subst hA
                      obtain ⟨u143, hb⟩ := hb.one
                      obtain ⟨u144, hb⟩ := hb.one
                      obtain ⟨u145, hb⟩ := hb.one
                      obtain ⟨u146, hb⟩ := hb.one
                      obtain ⟨u147, hb⟩ := hb.one
                      obtain ⟨u148, hb⟩ := hb.one
                      obtain ⟨u149, hb⟩ := hb.one
                      obtain ⟨u150, hb⟩ := hb.one
                      obtain rfl := hb.nil
                      simp only [Act.put, List.setIfInBounds_toArray, List.set_cons_zero, List.set_cons_succ]
                      go_wp2_with fail
                      go_roundg (gk - 1)
                      case measure => have := HJ.out.1; omega
                      case rel => exact ⟨j, true, ns, ⟨11, tp, [], false, 0⟩ :: ws, na, nl, nc, a9, wl + 1, c9, by go_num, rfl, by have := HJ.out.1; omega, ⟨HP9.out.1, want_not H5.out.1.eq HD.out.1 HJ.out.1, vk_not H5.out.1.vk, by have := H5.out.1.len; have := HJ.out.1; omega⟩, HP9.out.2.2⟩
                  · have hy' : (tx == [33]) = false := by rw [beq_eq_false_iff_ne]; exact hy
                    have HY : Hid (¬ tx = [33]) := hy
                    clear hy
                    exact (Nat.lt_irrefl 0 (HF.out 0)).elim
              · have h5' : (tk == 5) = false := by rw [beq_eq_false_iff_ne]; exact h5
                have h5n : (tk != 5) = true := by simp [bne, h5']
                have HK5 : Hid (¬ tk = 5) := h5
                clear h5
                exact (Nat.lt_irrefl 0 (HF.out 0)).elim
        | false =>
          exact (Nat.lt_irrefl 0 (HF.out 0)).elim
    ·
      exact (Nat.lt_irrefl 0 (HF.out 0)).elim

end Go.Proofs.YtijchmcajhdcoaaGreatDoor
