/-
  Leaves of the reference's Parse, as they stand where it is walked (each a lemma of its own). The theorem itself says nothing: HF ends the leaves of the other texts.
-/
import Derived.Test.YtijchmcajhdcoaaGreatDoorBRPiv
import Derived.Test.YtijchmcajhdcoaaGreatDoorERScn
import Derived.Test.YtijchmcajhdcoaaGreatDoorJUp
import Derived.Test.YtijchmcajhdcoaaGreatDoorJSig
namespace Go.Proofs.YtijchmcajhdcoaaGreatDoor
open Go.RowKit

set_option maxHeartbeats 400000000 in
set_option maxRecDepth 100000 in
theorem rparse_kD (HF : Hid (∀ n : Nat, n < n)) (s : ByteArray) (hs : s.size ≤ 1024) {ts : List Tk} (h : Sc 0 s.data.toList ts none) (hnm : ∀ t ∈ ts, t.kind = 1 → t.text ≠ []) (hsz : ∀ nd, rn (s.size : Int) [] [] true ts = .ok nd → nd.sz ≤ 100000) (w : World) :
    Calls Tryz.prog 6 #[.string s] w fun e w' => ∃ (v : NV) (a c : Int), e = .returned (.tuple #[v.val, .int .i64 a, .int .i64 c]) ∧ Below w.heap.size w w' ∧ Rz (s.size : Int) ts (Bt w.heap.size w'.heap.size) v a c w' := by
  obtain ⟨W1, m2, hW1, hm2, bW1, hs1⟩ := layR w 34 #[.int .i64 0, .string ⟨#[]⟩, .int .i64 0, .int .u64 0, .slice none 0 0, .int .i64 0]
  have hbx : Box6 W1 m2 34 (.int .i64 0) (.string ⟨#[]⟩) (.int .i64 0) (.int .u64 0) (.slice none 0 0) (.int .i64 0) := by rw [← hW1, ← hm2]; exact Box6.new _ _ _ _ _ _ _ _
  have HC : Hid (Calls Tryz.prog 14 _ _ _) := rscan_short s hs W1
  have H : Hid (Sc 0 s.data.toList ts none ∧ (∀ t ∈ ts, t.kind = 1 → t.text ≠ []) ∧ (∀ nd, rn (s.size : Int) [] [] true ts = .ok nd → nd.sz ≤ 100000) ∧ Box6 W1 m2 34 (.int .i64 0) (.string ⟨#[]⟩) (.int .i64 0) (.int .u64 0) (.slice none 0 0) (.int .i64 0) ∧ Below w.heap.size w W1 ∧ m2 = w.heap.size) := ⟨h, hnm, hsz, hbx, bW1, hm2.symm⟩
  clear h hnm hsz hbx bW1 hs1
  go_enter Tryz.func6, Tryz.ntmps6
  go_upto_region 1 with fail
  clear hW1 hm2
  go_upto_region 2 with (go_at_call 14; refine HC.out.mono ?_; rintro e w1 ⟨lv, a, c, us, er, rfl, t1, t2, t3⟩; obtain ⟨rfl, rfl⟩ := t1.uniq H.out.1; obtain ⟨rfl, rfl, t3⟩ := t3; obtain ⟨la, lc, e, L3⟩ := Lt.of t3; subst e; have HT : Hid (Lt 60 W1.heap.size w1 la us.length lc us ∧ Below W1.heap.size W1 w1 ∧ us.length ≤ s.size) := ⟨L3, t2, by have := H.out.1.few; rw [bsize]; exact this⟩; clear t1 t2 t3 L3)
  obtain ⟨n, hn⟩ : ∃ n, us.length = n := ⟨_, rfl⟩
  rw [hn] at HT ⊢
  go_upto_region 5 with fail
  obtain ⟨W2, mS, hW2, hmS, bW2, hs2⟩ := layR w1 58 #[.slice none 0 0, .slice none 0 0]
  have hsb : Box2 W2 mS 58 (.slice none 0 0) (.slice none 0 0) := by rw [← hW2, ← hmS]; exact Box2.new _ _ _ _
  have HN : Hid (us.length = n ∧ n ≤ 1024 ∧ mS = w1.heap.size ∧ RdG encT w1 la us ∧ Below w1.heap.size w1 W2 ∧ n ≤ lc) := ⟨hn, by have := HT.out.2.2; omega, hmS.symm, HT.out.1.rd, bW2, HT.out.1.cap⟩
  have HP0 : Hid (PI (s.size : Int) us mS m2 w W2 0 true [] [] none 0 0 none 0 0) := by
    have hb := H.out.2.2.2.1.below HT.out.2.1
    have hl := hb.lt
    have hl2 := H.out.2.2.2.2.2
    have hb1 := H.out.2.2.2.2.1
    refine ⟨⟨hsb, hb.below bW2, ⟨OwnG.nil _ _ _ _, rfl, [], RdG.nil _ _ _, rfl, Nat.le_refl _, fun q => by simp at q, .nil⟩, (hb1.trans (HT.out.2.1.mono hb1.size)).trans (bW2.mono (by have := HT.out.2.1.size; have := hb1.size; omega)), by omega, by omega⟩, rfl, ?_, by omega, by omega⟩
    show Vk (0 + 1) []
    rfl
  have hn1 : n ≤ 1024 := HN.out.2.1
  rw [hW2, hmS]
  clear hsb bW2 hs2 hn HC hW2 hmS
  go_wp2_with fail
  go_loopg [9, 10] n (fun g bv iv wr => ∃ (i : Nat) (b : Bool) (ns : List Nd) (ws : List Wt) (na : Option Addr) (nl nc : Nat) (wa : Option Addr) (wl wk : Nat), iv = .int .i64 (i : Int) ∧ bv = .bool b ∧ i + g = n ∧ Hid (PI (s.size : Int) us mS m2 w wr i b ns ws na nl nc wa wl wk ∧ Below w1.heap.size w1 wr))
  case atStart => exact ⟨0, true, [], [], none, 0, 0, none, 0, 0, rfl, rfl, by omega, HP0.out, HN.out.2.2.2.2.1⟩
  case round =>
    obtain ⟨i, b, ns, ws, na, nl, nc, wa, wl, wk, rfl, rfl, hig, HR⟩ := hrel
    by_cases hin : i < n
    · have hii : (i : Int) < (n : Int) := by omega
      have hi0 : (0 : Int) ≤ (i : Int) := by omega
      obtain ⟨t, ht⟩ : ∃ t, us[i]? = some t := ⟨_, List.getElem?_eq_getElem (by rw [HN.out.1]; exact hin)⟩
      have hrd := HN.out.2.2.2.1.below HR.out.2
      obtain ⟨tb, tof, e1, htb⟩ := hrd.some_of ht
      subst e1
      obtain ⟨_, t0, t1, t2, t3, t4⟩ := hrd.tok ht
      obtain ⟨tk, tx, tn, ti, tp⟩ := t
      simp only at t0 t1 t2 t3 t4
      obtain ⟨W3, m11, hW3, hm11, hx11, bW3, c3, hB3, hlt3⟩ := lay5 HR.out.1.sp.bel HR.out.1.sp.bel.size 60 (.int .i64 tk) (.string ⟨tx.toArray⟩) (.int .i64 tn) (.int .u64 ti) (.int .i64 tp)
      go_upto_region 10 with fail
      clear hW3
      go_upto_region 11 with fail
      obtain ⟨W4, m12, hW4, hm12, hx12, bW4, c4, hB4, hlt4⟩ := lay5 bW3 bW3.size 60 (.int .i64 0) (.string ⟨#[]⟩) (.int .i64 0) (.int .u64 0) (.int .i64 0)
      have HD : Hid (us.drop i = ⟨tk, tx, tn, ti, tp⟩ :: us.drop (i + 1) ∧ (tk = 1 → tx ≠ []) ∧ wr.heap.size = m11 ∧ W3.heap.size = m12) := by
        refine ⟨?_, fun q => H.out.2.1 _ (List.mem_of_getElem? ht) q, hm11, hm12⟩
        obtain ⟨hlt, hg⟩ := List.getElem?_eq_some_iff.1 ht
        rw [List.drop_eq_getElem_cons hlt, hg]
      obtain ⟨d0, d1, d2, d3, d4⟩ := (hx11.below c4).cells
      obtain ⟨x0, x1, x2, x3, x4⟩ := hx12.cells
      obtain ⟨y0, y1, y2, y3, y4⟩ := hx12.thaw
      have H4 : Hid (PI (s.size : Int) us mS m2 w W4 i b ns ws na nl nc wa wl wk ∧ Below w1.heap.size w1 W4 ∧ Box5 W4 m11 60 (.int .i64 tk) (.string ⟨tx.toArray⟩) (.int .i64 tn) (.int .u64 ti) (.int .i64 tp) ∧ Box5 W4 m12 60 (.int .i64 0) (.string ⟨#[]⟩) (.int .i64 0) (.int .u64 0) (.int .i64 0) ∧ m11 < m12 ∧ mS < m11 ∧ Below wr.heap.size wr W4) := by
        refine ⟨⟨(HR.out.1.sp.below c3).below c4, HR.out.1.eq, HR.out.1.vk, HR.out.1.len⟩, (HR.out.2.trans (c3.mono HR.out.2.size)).trans (c4.mono (by have := HR.out.2.size; have := c3.size; omega)), hx11.below c4, hx12, by omega, ?_, c3.trans (c4.mono c3.size)⟩
        have := HR.out.1.sp.lt
        omega
      clear hrd hx11 hx12 bW3 c3 bW4 c4 ht
      rw [hW4, hm12]
      clear hW4 hm11 hm12
      obtain ⟨j, hj⟩ : ∃ j, j = i + 1 := ⟨_, rfl⟩
      have ej : (i : Int) + 1 = (j : Int) := by omega
      obtain ⟨⟨uk, ux, un, ui, up⟩, hu⟩ : ∃ u, pk (us.drop j) = u := ⟨_, rfl⟩
      have HJ : Hid (j = i + 1 ∧ pk (us.drop j) = ⟨uk, ux, un, ui, up⟩) := ⟨hj, hu⟩
      clear hj hu t0 t1 t2 t3 t4
      go_upto_if 44 with fail
      go_cut [] (fun u => Hid (Box5 u m12 60 (.int .i64 uk) (.string ⟨ux.toArray⟩) (.int .i64 un) (.int .u64 ui) (.int .i64 up) ∧ Box5 u m11 60 (.int .i64 tk) (.string ⟨tx.toArray⟩) (.int .i64 tn) (.int .u64 ti) (.int .i64 tp) ∧ Below wr.heap.size wr u))
      case first =>
        exact (Nat.lt_irrefl 0 (HF.out 0)).elim
      case rest =>
        obtain ⟨W5, hW5⟩ : ∃ W5, wc = W5 := ⟨_, rfl⟩
        rw [hW5] at hcut ⊢
        have H5 : Hid (PI (s.size : Int) us mS m2 w W5 i b ns ws na nl nc wa wl wk ∧ Below w1.heap.size w1 W5 ∧ Box5 W5 m11 60 (.int .i64 tk) (.string ⟨tx.toArray⟩) (.int .i64 tn) (.int .u64 ti) (.int .i64 tp) ∧ Box5 W5 m12 60 (.int .i64 uk) (.string ⟨ux.toArray⟩) (.int .i64 un) (.int .u64 ui) (.int .i64 up)) := ⟨⟨HR.out.1.sp.below hcut.out.2.2, HR.out.1.eq, HR.out.1.vk, HR.out.1.len⟩, HR.out.2.trans (hcut.out.2.2.mono HR.out.2.size), hcut.out.2.1, hcut.out.1⟩
        have HO : Hid (ns.length = nl ∧ ws.length = wl) := ⟨HR.out.1.sp.st.len, HR.out.1.sp.st.wl⟩
        have hwl5 : wl ≤ 2000 := by have := HR.out.1.len; omega
        have hnl5 : nl ≤ 2000 := by have := HR.out.1.len; omega
        have HE1 : Hid (m11 ≠ mS ∧ m12 ≠ mS ∧ m2 ≠ mS ∧ m11 ≠ m2 ∧ m12 ≠ m2 ∧ m11 ≠ m12) := by
          have h1 := H4.out.2.2.2.2
          have h2 := HR.out.1.sp.ord
          show _ ∧ _
          omega
        clear hW5 hcut H4 HR d0 d1 d2 d3 d4 x0 x1 x2 x3 x4 y0 y1 y2 y3 y4 hlt3 hlt4 hB3 hB4 htb
        obtain ⟨d0, d1, d2, d3, d4⟩ := H5.out.2.2.1.cells
        obtain ⟨x0, x1, x2, x3, x4⟩ := H5.out.2.2.2.cells
        obtain ⟨c0, c1⟩ := H5.out.1.sp.box.cells
        obtain ⟨f0, f1⟩ := H5.out.1.sp.box.thaw
        have lS : mS < W5.heap.size := H5.out.1.sp.box.lt
        have l11 : m11 < W5.heap.size := H5.out.2.2.1.lt
        have l12 : m12 < W5.heap.size := H5.out.2.2.2.lt
        cases b with
        | true =>
          exact (Nat.lt_irrefl 0 (HF.out 0)).elim
        | false =>
          by_cases h5 : tk = 5
          · subst h5
            obtain ⟨KO, hKO⟩ : ∃ KO, opOf tx = KO := ⟨_, rfl⟩
            have hop := rop_any tx W5
            rw [hKO] at hop
            have HKO : Hid (opOf tx = KO) := hKO
            clear hKO
            by_cases hup : tx = [94]
            · as_aux_lemma =>
                subst hup
                go_upto_region 36 with (go_at_call 17; refine hop.mono ?_; rintro e w6 ⟨rfl, hw6⟩; rw [hw6]; clear hw6)
                clear hop
                exact (Nat.lt_irrefl 0 (HF.out 0)).elim
            · have hup' : (tx == [94]) = false := by rw [beq_eq_false_iff_ne]; exact hup
              have HUP : Hid (¬ tx = [94]) := hup
              clear hup
              go_upto_region 43 with (go_at_call 17; refine hop.mono ?_; rintro e w6 ⟨rfl, hw6⟩; rw [hw6]; clear hw6)
              clear hop
              obtain ⟨VL, hVL⟩ : ∃ V, lvl KO = V := ⟨_, rfl⟩
              have HLV : Hid (∀ u, Calls Tryz.prog 18 #[.int .i64 KO] u fun e w' => e = .returned (.int .i64 VL) ∧ w' = u) := fun u => hVL ▸ rlevel_any KO u
              obtain ⟨RG, hRG⟩ : ∃ b, ranged ws = b := ⟨_, rfl⟩
              have HRG : Hid (∀ u, Below W5.heap.size W5 u → Calls Tryz.prog 19 #[.agg #[.slice na nl nc, .slice wa wl wk]] u fun e w' => e = .returned (.bool RG) ∧ Below u.heap.size u w') := fun u hu => hRG ▸ ranged_any u (H5.out.1.sp.st.below hu) (by omega)
              obtain ⟨eB, heB⟩ : ∃ eB : Bool, eB = (decide (KO ≠ 0) && (decide (VL ≠ 3) || !RG)) := ⟨_, rfl⟩
              have HEB : Hid (eB = (decide (KO ≠ 0) && (decide (VL ≠ 3) || !RG)) ∧ lvl KO = VL ∧ ranged ws = RG) := ⟨heB, hVL, hRG⟩
              clear heB hVL hRG
              go_cut [13, 202] (fun k v u => k = .int .i64 KO ∧ v = .bool eB ∧ Hid (Below W5.heap.size W5 u))
              case first =>
                exact (Nat.lt_irrefl 0 (HF.out 0)).elim
              case rest =>
                obtain ⟨hk13, hv, hw⟩ := hcut
                subst hk13
                subst hv
                clear HLV HRG
                obtain ⟨W6, hW6⟩ : ∃ W6, wc = W6 := ⟨_, rfl⟩
                rw [hW6] at hw ⊢
                have H5 : Hid (PI (s.size : Int) us mS m2 w W6 i false ns ws na nl nc wa wl wk ∧ Below w1.heap.size w1 W6 ∧ Box5 W6 m11 60 (.int .i64 5) (.string ⟨tx.toArray⟩) (.int .i64 tn) (.int .u64 ti) (.int .i64 tp) ∧ Box5 W6 m12 60 (.int .i64 uk) (.string ⟨ux.toArray⟩) (.int .i64 un) (.int .u64 ui) (.int .i64 up)) := ⟨⟨H5.out.1.sp.below hw.out, H5.out.1.eq, H5.out.1.vk, H5.out.1.len⟩, H5.out.2.1.trans (hw.out.mono H5.out.2.1.size), H5.out.2.2.1.below hw.out, H5.out.2.2.2.below hw.out⟩
                clear hW6 hw c0 c1 f0 f1 d0 d1 d2 d3 d4 x0 x1 x2 x3 x4 lS l11 l12
                obtain ⟨d0, d1, d2, d3, d4⟩ := H5.out.2.2.1.cells
                obtain ⟨x0, x1, x2, x3, x4⟩ := H5.out.2.2.2.cells
                obtain ⟨c0, c1⟩ := H5.out.1.sp.box.cells
                obtain ⟨f0, f1⟩ := H5.out.1.sp.box.thaw
                have lS : mS < W6.heap.size := H5.out.1.sp.box.lt
                have l11 : m11 < W6.heap.size := H5.out.2.2.1.lt
                have l12 : m12 < W6.heap.size := H5.out.2.2.2.lt
                cases eB with
                | true =>
                  exact (Nat.lt_irrefl 0 (HF.out 0)).elim
                | false =>
                  have HNE : Hid (¬ (KO ≠ 0 ∧ (lvl KO ≠ 3 ∨ ranged ws = false))) := by
                    have h := HEB.out.1.symm
                    rw [← HEB.out.2.1, ← HEB.out.2.2] at h
                    rintro ⟨q1, q2⟩
                    have : (decide (KO ≠ 0) && (decide (lvl KO ≠ 3) || !ranged ws)) = true := by
                      rw [Bool.and_eq_true, decide_eq_true_eq, Bool.or_eq_true, decide_eq_true_eq, Bool.not_eq_true']
                      exact ⟨q1, q2⟩
                    rw [this] at h
                    cases h
                  clear HEB
                  by_cases h41 : tx = [41]
                  · subst h41
                    have hcl := close_any W6 H5.out.1.sp.st (fun g q => q.2.1) (Vk.rk H5.out.1.vk) (by omega) (by omega) (vk_nodes H5.out.1.vk)
                    have HCL : Hid (Calls Tryz.prog 15 _ _ _) := hcl
                    clear hcl
                    go_upto_region 52 with (go_at_call 15; refine HCL.out.mono ?_; rintro e w8 ⟨na8, nl8, nc8, wl8, f8, rfl, b8, h8⟩; have H8 : Hid (Below W6.heap.size W6 w8 ∧ _) := ⟨b8, h8⟩; clear b8 h8; obtain ⟨g0, g1⟩ := (H5.out.1.sp.box.below H8.out.1).cells; obtain ⟨g2, g3⟩ := (H5.out.1.sp.box.below H8.out.1).thaw)
                    obtain ⟨W9, hW9⟩ : ∃ W9, (w8.setCell ⟨mS, 0, none⟩ (.slice na8 nl8 nc8)).setCell ⟨mS, 1, none⟩ (.slice wa wl8 wk) = W9 := ⟨_, rfl⟩
                    have hT : Turned (fun g => g = mS) W6 W9 := by
                      rw [← hW9]
                      exact ((Turned.ofBelow (S := fun g => g = mS) H8.out.1).setCell (p := ⟨mS, 0, none⟩) (.inl rfl) _).setCell (p := ⟨mS, 1, none⟩) (.inl rfl) _
                    have HE9 : Hid (PE m2 w W9 ∧ Box5 W9 m11 60 (.int .i64 5) (.string ⟨#[41]⟩) (.int .i64 tn) (.int .u64 ti) (.int .i64 tp)) := ⟨H5.out.1.sp.pe hT, H5.out.2.2.1.turned hT HE1.out.1⟩
                    clear hT g0 g1 g2 g3 c0 c1 f0 f1 d0 d1 d2 d3 d4 x0 x1 x2 x3 x4
                    have H9 := H8
                    rcases H9.out.2 with ⟨hf, hsh⟩ | ⟨hf, ns9, ws9, hsh, hst⟩
                    · subst hf
                      have HSH : Hid (shutB (red 1 ns ws).1 (red 1 ns ws).2 = none) := hsh
                      clear hsh H9
                      rw [hW9]
                      clear hW9
                      obtain ⟨d0, d1, d2, d3, d4⟩ := HE9.out.2.cells
                      have l11 : m11 < W9.heap.size := HE9.out.2.lt
                      exact (Nat.lt_irrefl 0 (HF.out 0)).elim
                    · as_aux_lemma =>
                        subst hf
                        have hP9 := H5.out.1.sp.laid H8.out.1 hst
                        rw [hW9] at hP9
                        have HSH : Hid (shutB (red 1 ns ws).1 (red 1 ns ws).2 = some (ns9, ws9)) := hsh
                        have HP9 : Hid (SP mS m2 w W9 ns9 ws9 na8 nl8 nc8 wa wl8 wk ∧ Below w1.heap.size w1 W9) := ⟨hP9.1, H5.out.2.1.trans (hP9.2.below H5.out.2.1.size (fun g hg e => by have := HN.out.2.2.1; omega))⟩
                        clear hsh hst hP9 H9
                        rw [hW9]
                        clear hW9
                        go_wp2_with fail
                        go_roundg (gk - 1)
                        case measure => have := HJ.out.1; omega
                        case rel => exact ⟨j, false, ns9, ws9, na8, nl8, nc8, wa, wl8, wk, by go_num, rfl, by have := HJ.out.1; omega, ⟨HP9.out.1, have_close H5.out.1.eq HD.out.1 HJ.out.1 HSH.out, vk_close H5.out.1.vk HSH.out, by have h1 := shut_len H5.out.1.vk HSH.out; have := HP9.out.1.st.len; have := HP9.out.1.st.wl; have := HO.out; have := H5.out.1.len; have := HJ.out.1; omega⟩, HP9.out.2⟩
                  · have h41' : (tx == [41]) = false := by rw [beq_eq_false_iff_ne]; exact h41
                    have H41 : Hid (¬ tx = [41]) := h41
                    clear h41
                    obtain ⟨IC, hIC⟩ : ∃ b, inCall ws = b := ⟨_, rfl⟩
                    have HIC : Hid (∀ u, Below W6.heap.size W6 u → Calls Tryz.prog 21 #[.agg #[.slice na nl nc, .slice wa wl wk]] u fun e w' => e = .returned (.bool IC) ∧ Below u.heap.size u w') := fun u hu => hIC ▸ inCall_any u (H5.out.1.sp.st.below hu) (by omega)
                    obtain ⟨fB, hfB⟩ : ∃ fB : Bool, fB = (decide (tx = [44]) && IC) := ⟨_, rfl⟩
                    have HFB : Hid (fB = (decide (tx = [44]) && IC) ∧ inCall ws = IC) := ⟨hfB, hIC⟩
                    clear hfB hIC
                    go_upto_region 49 with fail
                    go_cut [237] (fun v u => v = .bool fB ∧ Hid (Below W6.heap.size W6 u))
                    case first =>
                      by_cases h44 : tx = [44]
                      · as_aux_lemma =>
                          have h44' : (tx == [44]) = true := by rw [h44]; rfl
                          have HE : Hid (fB = IC) := by show _ = _; rw [HFB.out.1]; simp [h44]
                          clear h44
                          go_wp2_with (go_at_call 21; refine (HIC.out _ (Below.refl _ _)).mono ?_; rintro e w7 ⟨rfl, b7⟩; have B7 : Hid (Below W6.heap.size W6 w7) := b7; clear b7)
                          go_meet
                          exact ⟨congrArg Value.bool HE.out.symm, B7.out⟩
                      · as_aux_lemma =>
                          have h44' : (tx == [44]) = false := by rw [beq_eq_false_iff_ne]; exact h44
                          have HE : Hid (fB = false) := by show _ = _; rw [HFB.out.1]; simp [h44]
                          clear h44
                          go_wp2_with fail
                          go_meet
                          exact ⟨congrArg Value.bool HE.out.symm, Below.refl _ _⟩
                    case rest =>
                      obtain ⟨hv, hw⟩ := hcut
                      subst hv
                      clear HIC
                      obtain ⟨W8, hW6⟩ : ∃ W6, wc = W6 := ⟨_, rfl⟩
                      rw [hW6] at hw ⊢
                      have H5 : Hid (PI (s.size : Int) us mS m2 w W8 i false ns ws na nl nc wa wl wk ∧ Below w1.heap.size w1 W8 ∧ Box5 W8 m11 60 (.int .i64 5) (.string ⟨tx.toArray⟩) (.int .i64 tn) (.int .u64 ti) (.int .i64 tp) ∧ Box5 W8 m12 60 (.int .i64 uk) (.string ⟨ux.toArray⟩) (.int .i64 un) (.int .u64 ui) (.int .i64 up)) := ⟨⟨H5.out.1.sp.below hw.out, H5.out.1.eq, H5.out.1.vk, H5.out.1.len⟩, H5.out.2.1.trans (hw.out.mono H5.out.2.1.size), H5.out.2.2.1.below hw.out, H5.out.2.2.2.below hw.out⟩
                      clear hW6 hw c0 c1 f0 f1 d0 d1 d2 d3 d4 x0 x1 x2 x3 x4 lS l11 l12
                      obtain ⟨d0, d1, d2, d3, d4⟩ := H5.out.2.2.1.cells
                      obtain ⟨x0, x1, x2, x3, x4⟩ := H5.out.2.2.2.cells
                      obtain ⟨c0, c1⟩ := H5.out.1.sp.box.cells
                      obtain ⟨f0, f1⟩ := H5.out.1.sp.box.thaw
                      have lS : mS < W8.heap.size := H5.out.1.sp.box.lt
                      have l11 : m11 < W8.heap.size := H5.out.2.2.1.lt
                      have l12 : m12 < W8.heap.size := H5.out.2.2.2.lt
                      cases fB with
                      | true =>
                        as_aux_lemma =>
                          obtain ⟨h44, HINC⟩ : tx = [44] ∧ Hid (inCall ws = true) := by
                            have h := HFB.out.1.symm
                            rw [← HFB.out.2, Bool.and_eq_true, decide_eq_true_eq] at h
                            exact ⟨h.1, h.2⟩
                          subst h44
                          clear HFB
                          have hrd := reduce_any W8 1 H5.out.1.sp.st (fun g q => q.2.1) (Vk.rk H5.out.1.vk) (by omega) (by omega)
                          have HRD : Hid (Calls Tryz.prog 20 _ _ _) := hrd
                          clear hrd
                          go_upto_region 51 with (go_at_call 20; refine HRD.out.mono ?_; rintro e w8 ⟨na8, nl8, nc8, wl8, rfl, h8, b8⟩; have H8 : Hid (Below W8.heap.size W8 w8 ∧ _) := ⟨b8, h8⟩; clear b8 h8; obtain ⟨g0, g1⟩ := (H5.out.1.sp.box.below H8.out.1).cells; obtain ⟨g2, g3⟩ := (H5.out.1.sp.box.below H8.out.1).thaw)
                          obtain ⟨W9, hW9⟩ : ∃ W9, (w8.setCell ⟨mS, 0, none⟩ (.slice na8 nl8 nc8)).setCell ⟨mS, 1, none⟩ (.slice wa wl8 wk) = W9 := ⟨_, rfl⟩
                          have hP9 := H5.out.1.sp.laid H8.out.1 H8.out.2
                          rw [hW9] at hP9
                          obtain ⟨⟨ns9, ws9⟩, hr9⟩ : ∃ z, red 1 ns ws = z := ⟨_, rfl⟩
                          rw [hr9] at hP9
                          have HRE : Hid (red 1 ns ws = (ns9, ws9)) := hr9
                          have HP9 : Hid (SP mS m2 w W9 ns9 ws9 na8 nl8 nc8 wa wl8 wk ∧ Below w1.heap.size w1 W9) := ⟨hP9.1, H5.out.2.1.trans (hP9.2.below H5.out.2.1.size (fun g hg e => by have := HN.out.2.2.1; omega))⟩
                          clear hP9 hr9 g0 g1 g2 g3 c0 c1 f0 f1 d0 d1 d2 d3 d4 x0 x1 x2 x3 x4
                          rw [hW9]
                          clear hW9
                          go_wp2_with fail
                          go_roundg (gk - 1)
                          case measure => have := HJ.out.1; omega
                          case rel =>
                            have hq := have_comma H5.out.1.eq HD.out.1 HJ.out.1 HINC.out
                            have hv := vk_comma H5.out.1.vk HINC.out
                            have hl := red_len 1 ws ns (Vk.rk H5.out.1.vk)
                            rw [HRE.out] at hq hv hl
                            exact ⟨j, true, ns9, ws9, na8, nl8, nc8, wa, wl8, wk, by go_num, rfl, by have := HJ.out.1; omega, ⟨HP9.out.1, hq, hv, by have := HP9.out.1.st.len; have := HP9.out.1.st.wl; have := HO.out; have := H5.out.1.len; have := HJ.out.1; simp only at hl; omega⟩, HP9.out.2⟩
                      | false =>
                        exact (Nat.lt_irrefl 0 (HF.out 0)).elim
          · have h5' : (tk == 5) = false := by rw [beq_eq_false_iff_ne]; exact h5
            have h5n : (tk != 5) = true := by simp [bne, h5']
            have HK5 : Hid (¬ tk = 5) := h5
            clear h5
            exact (Nat.lt_irrefl 0 (HF.out 0)).elim
    ·
      exact (Nat.lt_irrefl 0 (HF.out 0)).elim

end Go.Proofs.YtijchmcajhdcoaaGreatDoor
