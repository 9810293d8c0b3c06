/-
  Leaves of the reference's Parse, as they stand where it is walked (each a lemma of its own). The theorem itself says nothing: HF ends the leaves of the other texts.
-/
import Derived.Test.YtijchmcajhdcoaaGreatDoorBRPiv
import Derived.Test.YtijchmcajhdcoaaGreatDoorERScn
import Derived.Test.YtijchmcajhdcoaaGreatDoorJUp
import Derived.Test.YtijchmcajhdcoaaGreatDoorJSig
namespace Go.Proofs.YtijchmcajhdcoaaGreatDoor
open Go.RowKit

set_option maxHeartbeats 400000000 in
set_option maxRecDepth 100000 in
theorem rparse_kA (HF : Hid (∀ n : Nat, n < n)) (s : ByteArray) (hs : s.size ≤ 1024) {ts : List Tk} (h : Sc 0 s.data.toList ts none) (hnm : ∀ t ∈ ts, t.kind = 1 → t.text ≠ []) (hsz : ∀ nd, rn (s.size : Int) [] [] true ts = .ok nd → nd.sz ≤ 100000) (w : World) :
    Calls Tryz.prog 6 #[.string s] w fun e w' => ∃ (v : NV) (a c : Int), e = .returned (.tuple #[v.val, .int .i64 a, .int .i64 c]) ∧ Below w.heap.size w w' ∧ Rz (s.size : Int) ts (Bt w.heap.size w'.heap.size) v a c w' := by
  obtain ⟨W1, m2, hW1, hm2, bW1, hs1⟩ := layR w 34 #[.int .i64 0, .string ⟨#[]⟩, .int .i64 0, .int .u64 0, .slice none 0 0, .int .i64 0]
  have hbx : Box6 W1 m2 34 (.int .i64 0) (.string ⟨#[]⟩) (.int .i64 0) (.int .u64 0) (.slice none 0 0) (.int .i64 0) := by rw [← hW1, ← hm2]; exact Box6.new _ _ _ _ _ _ _ _
  have HC : Hid (Calls Tryz.prog 14 _ _ _) := rscan_short s hs W1
  have H : Hid (Sc 0 s.data.toList ts none ∧ (∀ t ∈ ts, t.kind = 1 → t.text ≠ []) ∧ (∀ nd, rn (s.size : Int) [] [] true ts = .ok nd → nd.sz ≤ 100000) ∧ Box6 W1 m2 34 (.int .i64 0) (.string ⟨#[]⟩) (.int .i64 0) (.int .u64 0) (.slice none 0 0) (.int .i64 0) ∧ Below w.heap.size w W1 ∧ m2 = w.heap.size) := ⟨h, hnm, hsz, hbx, bW1, hm2.symm⟩
  clear h hnm hsz hbx bW1 hs1
  go_enter Tryz.func6, Tryz.ntmps6
  go_upto_region 1 with fail
  clear hW1 hm2
  go_upto_region 2 with (go_at_call 14; refine HC.out.mono ?_; rintro e w1 ⟨lv, a, c, us, er, rfl, t1, t2, t3⟩; obtain ⟨rfl, rfl⟩ := t1.uniq H.out.1; obtain ⟨rfl, rfl, t3⟩ := t3; obtain ⟨la, lc, e, L3⟩ := Lt.of t3; subst e; have HT : Hid (Lt 60 W1.heap.size w1 la us.length lc us ∧ Below W1.heap.size W1 w1 ∧ us.length ≤ s.size) := ⟨L3, t2, by have := H.out.1.few; rw [bsize]; exact this⟩; clear t1 t2 t3 L3)
  obtain ⟨n, hn⟩ : ∃ n, us.length = n := ⟨_, rfl⟩
  rw [hn] at HT ⊢
  go_upto_region 5 with fail
  obtain ⟨W2, mS, hW2, hmS, bW2, hs2⟩ := layR w1 58 #[.slice none 0 0, .slice none 0 0]
  have hsb : Box2 W2 mS 58 (.slice none 0 0) (.slice none 0 0) := by rw [← hW2, ← hmS]; exact Box2.new _ _ _ _
  have HN : Hid (us.length = n ∧ n ≤ 1024 ∧ mS = w1.heap.size ∧ RdG encT w1 la us ∧ Below w1.heap.size w1 W2 ∧ n ≤ lc) := ⟨hn, by have := HT.out.2.2; omega, hmS.symm, HT.out.1.rd, bW2, HT.out.1.cap⟩
  have HP0 : Hid (PI (s.size : Int) us mS m2 w W2 0 true [] [] none 0 0 none 0 0) := by
    have hb := H.out.2.2.2.1.below HT.out.2.1
    have hl := hb.lt
    have hl2 := H.out.2.2.2.2.2
    have hb1 := H.out.2.2.2.2.1
    refine ⟨⟨hsb, hb.below bW2, ⟨OwnG.nil _ _ _ _, rfl, [], RdG.nil _ _ _, rfl, Nat.le_refl _, fun q => by simp at q, .nil⟩, (hb1.trans (HT.out.2.1.mono hb1.size)).trans (bW2.mono (by have := HT.out.2.1.size; have := hb1.size; omega)), by omega, by omega⟩, rfl, ?_, by omega, by omega⟩
    show Vk (0 + 1) []
    rfl
  have hn1 : n ≤ 1024 := HN.out.2.1
  rw [hW2, hmS]
  clear hsb bW2 hs2 hn HC hW2 hmS
  go_wp2_with fail
  go_loopg [9, 10] n (fun g bv iv wr => ∃ (i : Nat) (b : Bool) (ns : List Nd) (ws : List Wt) (na : Option Addr) (nl nc : Nat) (wa : Option Addr) (wl wk : Nat), iv = .int .i64 (i : Int) ∧ bv = .bool b ∧ i + g = n ∧ Hid (PI (s.size : Int) us mS m2 w wr i b ns ws na nl nc wa wl wk ∧ Below w1.heap.size w1 wr))
  case atStart => exact ⟨0, true, [], [], none, 0, 0, none, 0, 0, rfl, rfl, by omega, HP0.out, HN.out.2.2.2.2.1⟩
  case round =>
    obtain ⟨i, b, ns, ws, na, nl, nc, wa, wl, wk, rfl, rfl, hig, HR⟩ := hrel
    by_cases hin : i < n
    · have hii : (i : Int) < (n : Int) := by omega
      have hi0 : (0 : Int) ≤ (i : Int) := by omega
      obtain ⟨t, ht⟩ : ∃ t, us[i]? = some t := ⟨_, List.getElem?_eq_getElem (by rw [HN.out.1]; exact hin)⟩
      have hrd := HN.out.2.2.2.1.below HR.out.2
      obtain ⟨tb, tof, e1, htb⟩ := hrd.some_of ht
      subst e1
      obtain ⟨_, t0, t1, t2, t3, t4⟩ := hrd.tok ht
      obtain ⟨tk, tx, tn, ti, tp⟩ := t
      simp only at t0 t1 t2 t3 t4
      obtain ⟨W3, m11, hW3, hm11, hx11, bW3, c3, hB3, hlt3⟩ := lay5 HR.out.1.sp.bel HR.out.1.sp.bel.size 60 (.int .i64 tk) (.string ⟨tx.toArray⟩) (.int .i64 tn) (.int .u64 ti) (.int .i64 tp)
      go_upto_region 10 with fail
      clear hW3
      go_upto_region 11 with fail
      obtain ⟨W4, m12, hW4, hm12, hx12, bW4, c4, hB4, hlt4⟩ := lay5 bW3 bW3.size 60 (.int .i64 0) (.string ⟨#[]⟩) (.int .i64 0) (.int .u64 0) (.int .i64 0)
      have HD : Hid (us.drop i = ⟨tk, tx, tn, ti, tp⟩ :: us.drop (i + 1) ∧ (tk = 1 → tx ≠ []) ∧ wr.heap.size = m11 ∧ W3.heap.size = m12) := by
        refine ⟨?_, fun q => H.out.2.1 _ (List.mem_of_getElem? ht) q, hm11, hm12⟩
        obtain ⟨hlt, hg⟩ := List.getElem?_eq_some_iff.1 ht
        rw [List.drop_eq_getElem_cons hlt, hg]
      obtain ⟨d0, d1, d2, d3, d4⟩ := (hx11.below c4).cells
      obtain ⟨x0, x1, x2, x3, x4⟩ := hx12.cells
      obtain ⟨y0, y1, y2, y3, y4⟩ := hx12.thaw
      have H4 : Hid (PI (s.size : Int) us mS m2 w W4 i b ns ws na nl nc wa wl wk ∧ Below w1.heap.size w1 W4 ∧ Box5 W4 m11 60 (.int .i64 tk) (.string ⟨tx.toArray⟩) (.int .i64 tn) (.int .u64 ti) (.int .i64 tp) ∧ Box5 W4 m12 60 (.int .i64 0) (.string ⟨#[]⟩) (.int .i64 0) (.int .u64 0) (.int .i64 0) ∧ m11 < m12 ∧ mS < m11 ∧ Below wr.heap.size wr W4) := by
        refine ⟨⟨(HR.out.1.sp.below c3).below c4, HR.out.1.eq, HR.out.1.vk, HR.out.1.len⟩, (HR.out.2.trans (c3.mono HR.out.2.size)).trans (c4.mono (by have := HR.out.2.size; have := c3.size; omega)), hx11.below c4, hx12, by omega, ?_, c3.trans (c4.mono c3.size)⟩
        have := HR.out.1.sp.lt
        omega
      clear hrd hx11 hx12 bW3 c3 bW4 c4 ht
      rw [hW4, hm12]
      clear hW4 hm11 hm12
      obtain ⟨j, hj⟩ : ∃ j, j = i + 1 := ⟨_, rfl⟩
      have ej : (i : Int) + 1 = (j : Int) := by omega
      obtain ⟨⟨uk, ux, un, ui, up⟩, hu⟩ : ∃ u, pk (us.drop j) = u := ⟨_, rfl⟩
      have HJ : Hid (j = i + 1 ∧ pk (us.drop j) = ⟨uk, ux, un, ui, up⟩) := ⟨hj, hu⟩
      clear hj hu t0 t1 t2 t3 t4
      go_upto_if 44 with fail
      go_cut [] (fun u => Hid (Box5 u m12 60 (.int .i64 uk) (.string ⟨ux.toArray⟩) (.int .i64 un) (.int .u64 ui) (.int .i64 up) ∧ Box5 u m11 60 (.int .i64 tk) (.string ⟨tx.toArray⟩) (.int .i64 tn) (.int .u64 ti) (.int .i64 tp) ∧ Below wr.heap.size wr u))
      case first =>
        exact (Nat.lt_irrefl 0 (HF.out 0)).elim
      case rest =>
        obtain ⟨W5, hW5⟩ : ∃ W5, wc = W5 := ⟨_, rfl⟩
        rw [hW5] at hcut ⊢
        have H5 : Hid (PI (s.size : Int) us mS m2 w W5 i b ns ws na nl nc wa wl wk ∧ Below w1.heap.size w1 W5 ∧ Box5 W5 m11 60 (.int .i64 tk) (.string ⟨tx.toArray⟩) (.int .i64 tn) (.int .u64 ti) (.int .i64 tp) ∧ Box5 W5 m12 60 (.int .i64 uk) (.string ⟨ux.toArray⟩) (.int .i64 un) (.int .u64 ui) (.int .i64 up)) := ⟨⟨HR.out.1.sp.below hcut.out.2.2, HR.out.1.eq, HR.out.1.vk, HR.out.1.len⟩, HR.out.2.trans (hcut.out.2.2.mono HR.out.2.size), hcut.out.2.1, hcut.out.1⟩
        have HO : Hid (ns.length = nl ∧ ws.length = wl) := ⟨HR.out.1.sp.st.len, HR.out.1.sp.st.wl⟩
        have hwl5 : wl ≤ 2000 := by have := HR.out.1.len; omega
        have hnl5 : nl ≤ 2000 := by have := HR.out.1.len; omega
        have HE1 : Hid (m11 ≠ mS ∧ m12 ≠ mS ∧ m2 ≠ mS ∧ m11 ≠ m2 ∧ m12 ≠ m2 ∧ m11 ≠ m12) := by
          have h1 := H4.out.2.2.2.2
          have h2 := HR.out.1.sp.ord
          show _ ∧ _
          omega
        clear hW5 hcut H4 HR d0 d1 d2 d3 d4 x0 x1 x2 x3 x4 y0 y1 y2 y3 y4 hlt3 hlt4 hB3 hB4 htb
        obtain ⟨d0, d1, d2, d3, d4⟩ := H5.out.2.2.1.cells
        obtain ⟨x0, x1, x2, x3, x4⟩ := H5.out.2.2.2.cells
        obtain ⟨c0, c1⟩ := H5.out.1.sp.box.cells
        obtain ⟨f0, f1⟩ := H5.out.1.sp.box.thaw
        have lS : mS < W5.heap.size := H5.out.1.sp.box.lt
        have l11 : m11 < W5.heap.size := H5.out.2.2.1.lt
        have l12 : m12 < W5.heap.size := H5.out.2.2.2.lt
        cases b with
        | true =>
          go_upto_region 15 with fail
          obtain ⟨cB, hcB⟩ : ∃ cB : Bool, cB = (decide (tk = 1) && decide (uk = 5) && decide (ux = [40])) := ⟨_, rfl⟩
          have HCB : Hid (cB = (decide (tk = 1) && decide (uk = 5) && decide (ux = [40]))) := hcB
          clear hcB
          go_cut [54] (fun v q => v = .bool cB ∧ q = W5)
          case first =>
            by_cases h1 : tk = 1
            · subst h1
              by_cases h2 : uk = 5
              · subst h2
                by_cases h3 : ux = [40]
                · as_aux_lemma =>
                    subst h3
                    go_wp2_with fail
                    go_meet
                    exact ⟨congrArg Value.bool (by rw [HCB.out]; rfl), rfl⟩
                · as_aux_lemma =>
                    have HE : Hid (cB = false) := by show _ = _; rw [HCB.out]; simp [h3]
                    have h3' : (ux == [40]) = false := by rw [beq_eq_false_iff_ne]; exact h3
                    go_wp2_with fail
                    go_meet
                    exact ⟨congrArg Value.bool HE.out.symm, rfl⟩
              · as_aux_lemma =>
                  have HE : Hid (cB = false) := by show _ = _; rw [HCB.out]; simp [h2]
                  have h2' : (uk == 5) = false := by rw [beq_eq_false_iff_ne]; exact h2
                  go_wp2_with fail
                  go_meet
                  exact ⟨congrArg Value.bool HE.out.symm, rfl⟩
            · as_aux_lemma =>
                have HE : Hid (cB = false) := by show _ = _; rw [HCB.out]; simp [h1]
                have h1' : (tk == 1) = false := by rw [beq_eq_false_iff_ne]; exact h1
                go_wp2_with fail
                go_meet
                exact ⟨congrArg Value.bool HE.out.symm, rfl⟩
          case rest =>
            obtain ⟨hv54, hw5⟩ := hcut
            subst hv54
            rw [hw5]
            clear hw5
            cases cB with
            | true =>
              obtain ⟨rfl, rfl, rfl⟩ : tk = 1 ∧ uk = 5 ∧ ux = [40] := by
                have := HCB.out.symm
                simp only [Bool.and_eq_true, decide_eq_true_eq] at this
                exact ⟨this.1.1, this.1.2, this.2⟩
              clear HCB
              obtain ⟨k, hk⟩ : ∃ k, k = j + 1 := ⟨_, rfl⟩
              have ek : (j : Int) + 1 = (k : Int) := by omega
              have HK : Hid (k = j + 1) := hk
              clear hk
              go_upto_region 17 with (at_builtin; refine appG_one encW 62 56 48 _ rfl infoW Tryz.underlying56 rfl (.tmp 69) (.tmp 78) rfl (mS + 1) _ ws.reverse ⟨0, tp, tx, true, nl⟩ _ rfl H5.out.1.sp.st.wts rfl (by have := HO.out.2; rw [List.length_reverse]; omega) (by have := HO.out.2; rw [List.length_reverse]; simp only [maxLen]; omega) (by omega) _ rfl ?_; intro v6 w6 ho6 hb6 hm6 ht6; obtain ⟨wa6, wk6, e6, q6, _, r6, _⟩ := OwnG.form ho6; rw [List.length_append, List.length_reverse, HO.out.2] at e6; simp only [List.length_cons, List.length_nil, Nat.zero_add] at e6; subst e6; have J6 : Hid (OwnG encW 62 w6 (mS + 1) (.slice wa6 (wl + 1) wk6) (ws.reverse ++ [⟨0, tp, tx, true, nl⟩]) ∧ Moved W5 (.slice wa wl wk) (.slice wa6 (wl + 1) wk6) ∧ Turned (fun k => (Value.slice wa wl wk).ownBlock = some k) W5 w6) := ⟨ho6, hm6, ht6⟩; clear ho6 hb6 hm6 ht6 q6 r6; obtain ⟨g0, g1⟩ := (H5.out.1.sp.box.turned J6.out.2.2 (H5.out.1.sp.apart)).cells; obtain ⟨g2, g3⟩ := (H5.out.1.sp.box.turned J6.out.2.2 (H5.out.1.sp.apart)).thaw)
              obtain ⟨W6, hW6⟩ : ∃ W6, w6.setCell ⟨mS, 1, none⟩ (.slice wa6 (wl + 1) wk6) = W6 := ⟨_, rfl⟩
              have HP6 : Hid (SP mS m2 w W6 ns (⟨0, tp, tx, true, nl⟩ :: ws) na nl nc wa6 (wl + 1) wk6 ∧ Below mS W5 W6 ∧ Below w1.heap.size w1 W6) := by
                have h1 := H5.out.1.sp.wait J6.out.1 J6.out.2.1 J6.out.2.2
                have h2 : Below mS W5 (w6.setCell ⟨mS, 1, none⟩ (.slice wa6 (wl + 1) wk6)) := (J6.out.2.2.below (Nat.le_of_lt lS) (fun k hk e => by have := (H5.out.1.sp.st.wts.lt k e).1; omega)).setCell (p := ⟨mS, 1, none⟩) (Nat.le_refl _) _
                rw [hW6] at h1 h2
                exact ⟨h1, h2, H5.out.2.1.trans (by rw [← HN.out.2.2.1]; exact h2)⟩
              rw [hW6]
              clear hW6 J6 g0 g1 g2 g3
              clear c0 c1 f0 f1 d0 d1 d2 d3 d4 x0 x1 x2 x3 x4
              go_upto_region 18 with fail
              obtain ⟨dB, hdB⟩ : ∃ dB, hd (sB [41]) (us.drop k) = dB := ⟨_, rfl⟩
              have HDB : Hid (hd (sB [41]) (us.drop k) = dB) := hdB
              clear hdB
              go_cut [105] (fun v q => v = .bool dB ∧ q = W6)
              case first =>
                by_cases hkn : k < n
                · have hkk : (k : Int) < (n : Int) := by omega
                  have hk0 : (0 : Int) ≤ (k : Int) := by omega
                  obtain ⟨⟨zk, zx, zn, zi, zp⟩, hz⟩ : ∃ z, us[k]? = some z := ⟨_, List.getElem?_eq_getElem (by rw [HN.out.1]; exact hkn)⟩
                  obtain ⟨_, q0, q1, q2, q3, q4⟩ := (HN.out.2.2.2.1.below HP6.out.2.2).tok hz
                  have hpk := pk_at hz
                  have hdd : dB = (decide (zk = 5) && decide (zx = [41])) := by rw [← HDB.out, hd_pk (by rfl), hpk]; rfl
                  have HDD : Hid (dB = (decide (zk = 5) && decide (zx = [41]))) := hdd
                  clear hdd hpk hz
                  simp only at q0 q1
                  by_cases h1 : zk = 5
                  · subst h1
                    by_cases h2 : zx = [41]
                    · as_aux_lemma =>
                        subst h2
                        go_wp2_with fail
                        go_meet
                        exact ⟨congrArg Value.bool (by rw [HDD.out]; rfl), rfl⟩
                    · as_aux_lemma =>
                        have HE : Hid (dB = false) := by show _ = _; rw [HDD.out]; simp [h2]
                        have h2' : (zx == [41]) = false := by rw [beq_eq_false_iff_ne]; exact h2
                        go_wp2_with fail
                        go_meet
                        exact ⟨congrArg Value.bool HE.out.symm, rfl⟩
                  · as_aux_lemma =>
                      have HE : Hid (dB = false) := by show _ = _; rw [HDD.out]; simp [h1]
                      have h1' : (zk == 5) = false := by rw [beq_eq_false_iff_ne]; exact h1
                      go_wp2_with fail
                      go_meet
                      exact ⟨congrArg Value.bool HE.out.symm, rfl⟩
                · as_aux_lemma =>
                    have hkk : ¬ (k : Int) < (n : Int) := by omega
                    have HE : Hid (dB = false) := by show _ = _; rw [← HDB.out, hd_pk (by rfl), pk_end (by rw [HN.out.1]; omega)]; rfl
                    go_wp2_with fail
                    go_meet
                    exact ⟨congrArg Value.bool HE.out.symm, rfl⟩
              case rest =>
                obtain ⟨hv, hw⟩ := hcut
                subst hv
                rw [hw]
                clear hw
                cases dB with
                | true =>
                  have hcl := close_any W6 HP6.out.1.st (fun g q => q.2.1) (by unfold Rk; rw [if_pos rfl]; trivial) (by omega) (by omega) (by
                    rw [red_stop (.inl rfl)]
                    rintro v r e
                    injection e with e1 e2
                    subst e1
                    have := HO.out.1
                    simp only
                    omega)
                  rw [red_stop (.inl rfl)] at hcl
                  have HCL : Hid (Calls Tryz.prog 15 _ _ _) := hcl
                  clear hcl
                  obtain ⟨c0, c1⟩ := HP6.out.1.box.cells
                  go_upto_region 21 with (go_at_call 15; refine HCL.out.mono ?_; rintro e w8 ⟨na8, nl8, nc8, wl8, f8, rfl, b8, h8⟩; have H8 : Hid (Below W6.heap.size W6 w8 ∧ _) := ⟨b8, h8⟩; clear b8 h8; obtain ⟨g0, g1⟩ := (HP6.out.1.box.below H8.out.1).cells; obtain ⟨g2, g3⟩ := (HP6.out.1.box.below H8.out.1).thaw)
                  obtain ⟨ns9, ws9, hsh, hst⟩ : ∃ ns' ws', shutB ns (⟨0, tp, tx, true, nl⟩ :: ws) = some (ns', ws') ∧ St (fun g => Qs mS W6 wa6 g ∨ Bt W6.heap.size w8.heap.size g) (mS + 1) w8 na8 nl8 nc8 wa6 wl8 wk6 ns' ws' := by
                    rcases H8.out.2 with ⟨_, q⟩ | ⟨_, q⟩
                    · simp [shutB] at q
                    · exact q
                  have hP9 := HP6.out.1.put H8.out.1 hst (fun g q => by
                    rcases q with q | q
                    · exact ⟨q.1, Nat.lt_of_lt_of_le q.2.1 H8.out.1.size, q.2.2⟩
                    · refine ⟨by have := HP6.out.1.lt; have := q.1; omega, q.2, fun a e e2 => ?_⟩
                      have := (HP6.out.1.st.owner a e).2
                      have := q.1
                      omega)
                  obtain ⟨W9, hW9⟩ : ∃ W9, (w8.setCell ⟨mS, 0, none⟩ (.slice na8 nl8 nc8)).setCell ⟨mS, 1, none⟩ (.slice wa6 wl8 wk6) = W9 := ⟨_, rfl⟩
                  have hb9 : Below w1.heap.size w1 W9 := by
                    rw [← hW9, ← HN.out.2.2.1]
                    have h1 : Below mS w1 w8 := by
                      have h2 := HP6.out.2.2
                      rw [← HN.out.2.2.1] at h2
                      exact h2.trans (H8.out.1.mono (by have := HP6.out.1.lt; omega))
                    exact (h1.setCell (p := ⟨mS, 0, none⟩) (Nat.le_refl _) _).setCell (p := ⟨mS, 1, none⟩) (Nat.le_refl _) _
                  rw [hW9] at hP9 ⊢
                  have HP9 : Hid (SP mS m2 w W9 ns9 ws9 na8 nl8 nc8 wa6 wl8 wk6 ∧ Below w1.heap.size w1 W9 ∧ shutB ns (⟨0, tp, tx, true, nl⟩ :: ws) = some (ns9, ws9)) := ⟨hP9, hb9, hsh⟩
                  clear hP9 hb9 hsh hst hW9 H8 g0 g1 g2 g3
                  go_wp2_with fail
                  go_roundg (gk - 3)
                  case measure => have := HK.out; have := HJ.out.1; have := hd_lt HDB.out; have := HN.out.1; omega
                  case rel =>
                    have hq := shut_call (HD.out.2.1 (by trivial)) HO.out.1 HP9.out.2.2
                    exact ⟨k + 1, false, ns9, ws9, na8, nl8, nc8, wa6, wl8, wk6, by go_num, rfl, by have := HK.out; have := HJ.out.1; have := hd_lt HDB.out; have := HN.out.1; omega, ⟨HP9.out.1, want_call1 H5.out.1.eq HD.out.1 HJ.out HK.out HDB.out hq, by rw [hq.1, hq.2]; exact H5.out.1.vk, by have h1 := HP9.out.1.st.len; have h2 := HP9.out.1.st.wl; rw [hq.1] at h1; rw [hq.2] at h2; have := H5.out.1.len; have := HO.out; have := HK.out; have := HJ.out.1; simp at h1; omega⟩, HP9.out.2.1⟩
                | false =>
                  as_aux_lemma =>
                    have hjn : j < n := by have := pk_lt HJ.out.2; have := HN.out.1; omega
                    go_wp2_with fail
                    go_roundg (gk - 2)
                    case measure => have := HK.out; have := HJ.out.1; omega
                    case rel => exact ⟨k, true, ns, ⟨0, tp, tx, true, nl⟩ :: ws, na, nl, nc, wa6, wl + 1, wk6, by go_num, rfl, by have := HK.out; have := HJ.out.1; omega, ⟨HP6.out.1, (want_call0 H5.out.1.eq HD.out.1 HJ.out HK.out HDB.out HO.out.1), vk_call H5.out.1.vk HO.out.1 (HD.out.2.1 (by trivial)), by have := H5.out.1.len; have := HK.out; have := HJ.out.1; omega⟩, HP6.out.2.2⟩
            | false =>
              have HNO : Hid (¬ (tk = 1 ∧ hd (sB [40]) (us.drop j) = true)) := by
                rintro ⟨h1, h2⟩
                rw [hd_pk (by rfl), HJ.out.2] at h2
                have h3 := HCB.out
                simp only [sB, Bool.and_eq_true, decide_eq_true_eq] at h2
                rw [h1, h2.1, h2.2] at h3
                cases h3
              clear HCB
              by_cases h5 : tk = 5
              · subst h5
                by_cases hx : tx = [40]
                · subst hx
                  exact (Nat.lt_irrefl 0 (HF.out 0)).elim
                · have hx' : (tx == [40]) = false := by rw [beq_eq_false_iff_ne]; exact hx
                  have HX : Hid (¬ tx = [40]) := hx
                  clear hx
                  by_cases hy : tx = [33]
                  · subst hy
                    exact (Nat.lt_irrefl 0 (HF.out 0)).elim
                  · have hy' : (tx == [33]) = false := by rw [beq_eq_false_iff_ne]; exact hy
                    have HY : Hid (¬ tx = [33]) := hy
                    clear hy
                    exact (Nat.lt_irrefl 0 (HF.out 0)).elim
              · as_aux_lemma =>
                  have h5' : (tk == 5) = false := by rw [beq_eq_false_iff_ne]; exact h5
                  have h5n : (tk != 5) = true := by simp [bne, h5']
                  have HK5 : Hid (¬ tk = 5) := h5
                  clear h5
                  go_upto_region 23 with fail
                  refine wp_code (c' := prg 23) (by kernel_rfl) ?_
                  refine wp_name (fun A hA => ?_)
                  refine Code.wp_mono ?_ (leaf23 H5.out.1.sp H5.out.2.1 HN.out.2.2.1 H5.out.2.2.1 hnl5 A (by rw [hA]; rfl) (by rw [hA]; rfl) (by rw [hA]; rfl))
                  rintro e b u ⟨rfl, hb, a9, c9, hP, hB⟩
                  have HP9 : Hid (SP mS m2 w u (leafN ⟨tk, tx, tn, ti, tp⟩ :: ns) ws a9 (nl + 1) c9 wa wl wk ∧ Below w1.heap.size w1 u) := ⟨hP, hB⟩
                  clear hP hB
                  subst hA
                  obtain ⟨u117, hb⟩ := hb.one
                  obtain ⟨u118, hb⟩ := hb.one
                  obtain ⟨u119, hb⟩ := hb.one
                  obtain ⟨u120, hb⟩ := hb.one
                  obtain ⟨u121, hb⟩ := hb.one
                  obtain ⟨u122, hb⟩ := hb.one
                  obtain ⟨u123, hb⟩ := hb.one
                  obtain ⟨u124, hb⟩ := hb.one
                  obtain ⟨u125, hb⟩ := hb.one
                  obtain rfl := hb.nil
                  simp only [Act.put, List.setIfInBounds_toArray, List.set_cons_zero, List.set_cons_succ]
                  go_wp2_with fail
                  go_roundg (gk - 1)
                  case measure => have := HJ.out.1; omega
                  case rel => exact ⟨j, false, leafN ⟨tk, tx, tn, ti, tp⟩ :: ns, ws, a9, nl + 1, c9, wa, wl, wk, by go_num, rfl, by have := HJ.out.1; omega, ⟨HP9.out.1, want_leaf H5.out.1.eq HD.out.1 HJ.out.1 HNO.out HK5.out, H5.out.1.vk, by have := H5.out.1.len; have := HJ.out.1; omega⟩, HP9.out.2⟩
        | false =>
          exact (Nat.lt_irrefl 0 (HF.out 0)).elim
    ·
      exact (Nat.lt_irrefl 0 (HF.out 0)).elim

end Go.Proofs.YtijchmcajhdcoaaGreatDoor
