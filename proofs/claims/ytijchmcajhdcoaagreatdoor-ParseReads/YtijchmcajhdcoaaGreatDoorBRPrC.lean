/-
  Leaves of the reference's Parse, as they stand where it is walked (each a lemma of its own). The theorem itself says nothing: HF ends the leaves of the other texts.
-/
import Derived.Test.YtijchmcajhdcoaaGreatDoorBRPiv
import Derived.Test.YtijchmcajhdcoaaGreatDoorERScn
import Derived.Test.YtijchmcajhdcoaaGreatDoorJUp
import Derived.Test.YtijchmcajhdcoaaGreatDoorJSig
namespace Go.Proofs.YtijchmcajhdcoaaGreatDoor
open Go.RowKit

set_option maxHeartbeats 400000000 in
set_option maxRecDepth 100000 in
theorem rparse_kC (HF : Hid (∀ n : Nat, n < n)) (s : ByteArray) (hs : s.size ≤ 1024) {ts : List Tk} (h : Sc 0 s.data.toList ts none) (hnm : ∀ t ∈ ts, t.kind = 1 → t.text ≠ []) (hsz : ∀ nd, rn (s.size : Int) [] [] true ts = .ok nd → nd.sz ≤ 100000) (w : World) :
    Calls Tryz.prog 6 #[.string s] w fun e w' => ∃ (v : NV) (a c : Int), e = .returned (.tuple #[v.val, .int .i64 a, .int .i64 c]) ∧ Below w.heap.size w w' ∧ Rz (s.size : Int) ts (Bt w.heap.size w'.heap.size) v a c w' := by
  obtain ⟨W1, m2, hW1, hm2, bW1, hs1⟩ := layR w 34 #[.int .i64 0, .string ⟨#[]⟩, .int .i64 0, .int .u64 0, .slice none 0 0, .int .i64 0]
  have hbx : Box6 W1 m2 34 (.int .i64 0) (.string ⟨#[]⟩) (.int .i64 0) (.int .u64 0) (.slice none 0 0) (.int .i64 0) := by rw [← hW1, ← hm2]; exact Box6.new _ _ _ _ _ _ _ _
  have HC : Hid (Calls Tryz.prog 14 _ _ _) := rscan_short s hs W1
  have H : Hid (Sc 0 s.data.toList ts none ∧ (∀ t ∈ ts, t.kind = 1 → t.text ≠ []) ∧ (∀ nd, rn (s.size : Int) [] [] true ts = .ok nd → nd.sz ≤ 100000) ∧ Box6 W1 m2 34 (.int .i64 0) (.string ⟨#[]⟩) (.int .i64 0) (.int .u64 0) (.slice none 0 0) (.int .i64 0) ∧ Below w.heap.size w W1 ∧ m2 = w.heap.size) := ⟨h, hnm, hsz, hbx, bW1, hm2.symm⟩
  clear h hnm hsz hbx bW1 hs1
  go_enter Tryz.func6, Tryz.ntmps6
  go_upto_region 1 with fail
  clear hW1 hm2
  go_upto_region 2 with (go_at_call 14; refine HC.out.mono ?_; rintro e w1 ⟨lv, a, c, us, er, rfl, t1, t2, t3⟩; obtain ⟨rfl, rfl⟩ := t1.uniq H.out.1; obtain ⟨rfl, rfl, t3⟩ := t3; obtain ⟨la, lc, e, L3⟩ := Lt.of t3; subst e; have HT : Hid (Lt 60 W1.heap.size w1 la us.length lc us ∧ Below W1.heap.size W1 w1 ∧ us.length ≤ s.size) := ⟨L3, t2, by have := H.out.1.few; rw [bsize]; exact this⟩; clear t1 t2 t3 L3)
  obtain ⟨n, hn⟩ : ∃ n, us.length = n := ⟨_, rfl⟩
  rw [hn] at HT ⊢
  go_upto_region 5 with fail
  obtain ⟨W2, mS, hW2, hmS, bW2, hs2⟩ := layR w1 58 #[.slice none 0 0, .slice none 0 0]
  have hsb : Box2 W2 mS 58 (.slice none 0 0) (.slice none 0 0) := by rw [← hW2, ← hmS]; exact Box2.new _ _ _ _
  have HN : Hid (us.length = n ∧ n ≤ 1024 ∧ mS = w1.heap.size ∧ RdG encT w1 la us ∧ Below w1.heap.size w1 W2 ∧ n ≤ lc) := ⟨hn, by have := HT.out.2.2; omega, hmS.symm, HT.out.1.rd, bW2, HT.out.1.cap⟩
  have HP0 : Hid (PI (s.size : Int) us mS m2 w W2 0 true [] [] none 0 0 none 0 0) := by
    have hb := H.out.2.2.2.1.below HT.out.2.1
    have hl := hb.lt
    have hl2 := H.out.2.2.2.2.2
    have hb1 := H.out.2.2.2.2.1
    refine ⟨⟨hsb, hb.below bW2, ⟨OwnG.nil _ _ _ _, rfl, [], RdG.nil _ _ _, rfl, Nat.le_refl _, fun q => by simp at q, .nil⟩, (hb1.trans (HT.out.2.1.mono hb1.size)).trans (bW2.mono (by have := HT.out.2.1.size; have := hb1.size; omega)), by omega, by omega⟩, rfl, ?_, by omega, by omega⟩
    show Vk (0 + 1) []
    rfl
  have hn1 : n ≤ 1024 := HN.out.2.1
  rw [hW2, hmS]
  clear hsb bW2 hs2 hn HC hW2 hmS
  go_wp2_with fail
  go_loopg [9, 10] n (fun g bv iv wr => ∃ (i : Nat) (b : Bool) (ns : List Nd) (ws : List Wt) (na : Option Addr) (nl nc : Nat) (wa : Option Addr) (wl wk : Nat), iv = .int .i64 (i : Int) ∧ bv = .bool b ∧ i + g = n ∧ Hid (PI (s.size : Int) us mS m2 w wr i b ns ws na nl nc wa wl wk ∧ Below w1.heap.size w1 wr))
  case atStart => exact ⟨0, true, [], [], none, 0, 0, none, 0, 0, rfl, rfl, by omega, HP0.out, HN.out.2.2.2.2.1⟩
  case round =>
    obtain ⟨i, b, ns, ws, na, nl, nc, wa, wl, wk, rfl, rfl, hig, HR⟩ := hrel
    by_cases hin : i < n
    · have hii : (i : Int) < (n : Int) := by omega
      have hi0 : (0 : Int) ≤ (i : Int) := by omega
      obtain ⟨t, ht⟩ : ∃ t, us[i]? = some t := ⟨_, List.getElem?_eq_getElem (by rw [HN.out.1]; exact hin)⟩
      have hrd := HN.out.2.2.2.1.below HR.out.2
      obtain ⟨tb, tof, e1, htb⟩ := hrd.some_of ht
      subst e1
      obtain ⟨_, t0, t1, t2, t3, t4⟩ := hrd.tok ht
      obtain ⟨tk, tx, tn, ti, tp⟩ := t
      simp only at t0 t1 t2 t3 t4
      obtain ⟨W3, m11, hW3, hm11, hx11, bW3, c3, hB3, hlt3⟩ := lay5 HR.out.1.sp.bel HR.out.1.sp.bel.size 60 (.int .i64 tk) (.string ⟨tx.toArray⟩) (.int .i64 tn) (.int .u64 ti) (.int .i64 tp)
      go_upto_region 10 with fail
      clear hW3
      go_upto_region 11 with fail
      obtain ⟨W4, m12, hW4, hm12, hx12, bW4, c4, hB4, hlt4⟩ := lay5 bW3 bW3.size 60 (.int .i64 0) (.string ⟨#[]⟩) (.int .i64 0) (.int .u64 0) (.int .i64 0)
      have HD : Hid (us.drop i = ⟨tk, tx, tn, ti, tp⟩ :: us.drop (i + 1) ∧ (tk = 1 → tx ≠ []) ∧ wr.heap.size = m11 ∧ W3.heap.size = m12) := by
        refine ⟨?_, fun q => H.out.2.1 _ (List.mem_of_getElem? ht) q, hm11, hm12⟩
        obtain ⟨hlt, hg⟩ := List.getElem?_eq_some_iff.1 ht
        rw [List.drop_eq_getElem_cons hlt, hg]
      obtain ⟨d0, d1, d2, d3, d4⟩ := (hx11.below c4).cells
      obtain ⟨x0, x1, x2, x3, x4⟩ := hx12.cells
      obtain ⟨y0, y1, y2, y3, y4⟩ := hx12.thaw
      have H4 : Hid (PI (s.size : Int) us mS m2 w W4 i b ns ws na nl nc wa wl wk ∧ Below w1.heap.size w1 W4 ∧ Box5 W4 m11 60 (.int .i64 tk) (.string ⟨tx.toArray⟩) (.int .i64 tn) (.int .u64 ti) (.int .i64 tp) ∧ Box5 W4 m12 60 (.int .i64 0) (.string ⟨#[]⟩) (.int .i64 0) (.int .u64 0) (.int .i64 0) ∧ m11 < m12 ∧ mS < m11 ∧ Below wr.heap.size wr W4) := by
        refine ⟨⟨(HR.out.1.sp.below c3).below c4, HR.out.1.eq, HR.out.1.vk, HR.out.1.len⟩, (HR.out.2.trans (c3.mono HR.out.2.size)).trans (c4.mono (by have := HR.out.2.size; have := c3.size; omega)), hx11.below c4, hx12, by omega, ?_, c3.trans (c4.mono c3.size)⟩
        have := HR.out.1.sp.lt
        omega
      clear hrd hx11 hx12 bW3 c3 bW4 c4 ht
      rw [hW4, hm12]
      clear hW4 hm11 hm12
      obtain ⟨j, hj⟩ : ∃ j, j = i + 1 := ⟨_, rfl⟩
      have ej : (i : Int) + 1 = (j : Int) := by omega
      obtain ⟨⟨uk, ux, un, ui, up⟩, hu⟩ : ∃ u, pk (us.drop j) = u := ⟨_, rfl⟩
      have HJ : Hid (j = i + 1 ∧ pk (us.drop j) = ⟨uk, ux, un, ui, up⟩) := ⟨hj, hu⟩
      clear hj hu t0 t1 t2 t3 t4
      go_upto_if 44 with fail
      go_cut [] (fun u => Hid (Box5 u m12 60 (.int .i64 uk) (.string ⟨ux.toArray⟩) (.int .i64 un) (.int .u64 ui) (.int .i64 up) ∧ Box5 u m11 60 (.int .i64 tk) (.string ⟨tx.toArray⟩) (.int .i64 tn) (.int .u64 ti) (.int .i64 tp) ∧ Below wr.heap.size wr u))
      case first =>
        exact (Nat.lt_irrefl 0 (HF.out 0)).elim
      case rest =>
        obtain ⟨W5, hW5⟩ : ∃ W5, wc = W5 := ⟨_, rfl⟩
        rw [hW5] at hcut ⊢
        have H5 : Hid (PI (s.size : Int) us mS m2 w W5 i b ns ws na nl nc wa wl wk ∧ Below w1.heap.size w1 W5 ∧ Box5 W5 m11 60 (.int .i64 tk) (.string ⟨tx.toArray⟩) (.int .i64 tn) (.int .u64 ti) (.int .i64 tp) ∧ Box5 W5 m12 60 (.int .i64 uk) (.string ⟨ux.toArray⟩) (.int .i64 un) (.int .u64 ui) (.int .i64 up)) := ⟨⟨HR.out.1.sp.below hcut.out.2.2, HR.out.1.eq, HR.out.1.vk, HR.out.1.len⟩, HR.out.2.trans (hcut.out.2.2.mono HR.out.2.size), hcut.out.2.1, hcut.out.1⟩
        have HO : Hid (ns.length = nl ∧ ws.length = wl) := ⟨HR.out.1.sp.st.len, HR.out.1.sp.st.wl⟩
        have hwl5 : wl ≤ 2000 := by have := HR.out.1.len; omega
        have hnl5 : nl ≤ 2000 := by have := HR.out.1.len; omega
        have HE1 : Hid (m11 ≠ mS ∧ m12 ≠ mS ∧ m2 ≠ mS ∧ m11 ≠ m2 ∧ m12 ≠ m2 ∧ m11 ≠ m12) := by
          have h1 := H4.out.2.2.2.2
          have h2 := HR.out.1.sp.ord
          show _ ∧ _
          omega
        clear hW5 hcut H4 HR d0 d1 d2 d3 d4 x0 x1 x2 x3 x4 y0 y1 y2 y3 y4 hlt3 hlt4 hB3 hB4 htb
        obtain ⟨d0, d1, d2, d3, d4⟩ := H5.out.2.2.1.cells
        obtain ⟨x0, x1, x2, x3, x4⟩ := H5.out.2.2.2.cells
        obtain ⟨c0, c1⟩ := H5.out.1.sp.box.cells
        obtain ⟨f0, f1⟩ := H5.out.1.sp.box.thaw
        have lS : mS < W5.heap.size := H5.out.1.sp.box.lt
        have l11 : m11 < W5.heap.size := H5.out.2.2.1.lt
        have l12 : m12 < W5.heap.size := H5.out.2.2.2.lt
        cases b with
        | true =>
          exact (Nat.lt_irrefl 0 (HF.out 0)).elim
        | false =>
          by_cases h5 : tk = 5
          · subst h5
            obtain ⟨KO, hKO⟩ : ∃ KO, opOf tx = KO := ⟨_, rfl⟩
            have hop := rop_any tx W5
            rw [hKO] at hop
            have HKO : Hid (opOf tx = KO) := hKO
            clear hKO
            by_cases hup : tx = [94]
            · as_aux_lemma =>
                subst hup
                go_upto_region 36 with (go_at_call 17; refine hop.mono ?_; rintro e w6 ⟨rfl, hw6⟩; rw [hw6]; clear hw6)
                clear hop
                exact (Nat.lt_irrefl 0 (HF.out 0)).elim
            · have hup' : (tx == [94]) = false := by rw [beq_eq_false_iff_ne]; exact hup
              have HUP : Hid (¬ tx = [94]) := hup
              clear hup
              go_upto_region 43 with (go_at_call 17; refine hop.mono ?_; rintro e w6 ⟨rfl, hw6⟩; rw [hw6]; clear hw6)
              clear hop
              obtain ⟨VL, hVL⟩ : ∃ V, lvl KO = V := ⟨_, rfl⟩
              have HLV : Hid (∀ u, Calls Tryz.prog 18 #[.int .i64 KO] u fun e w' => e = .returned (.int .i64 VL) ∧ w' = u) := fun u => hVL ▸ rlevel_any KO u
              obtain ⟨RG, hRG⟩ : ∃ b, ranged ws = b := ⟨_, rfl⟩
              have HRG : Hid (∀ u, Below W5.heap.size W5 u → Calls Tryz.prog 19 #[.agg #[.slice na nl nc, .slice wa wl wk]] u fun e w' => e = .returned (.bool RG) ∧ Below u.heap.size u w') := fun u hu => hRG ▸ ranged_any u (H5.out.1.sp.st.below hu) (by omega)
              obtain ⟨eB, heB⟩ : ∃ eB : Bool, eB = (decide (KO ≠ 0) && (decide (VL ≠ 3) || !RG)) := ⟨_, rfl⟩
              have HEB : Hid (eB = (decide (KO ≠ 0) && (decide (VL ≠ 3) || !RG)) ∧ lvl KO = VL ∧ ranged ws = RG) := ⟨heB, hVL, hRG⟩
              clear heB hVL hRG
              go_cut [13, 202] (fun k v u => k = .int .i64 KO ∧ v = .bool eB ∧ Hid (Below W5.heap.size W5 u))
              case first =>
                by_cases hk : KO = 0
                · as_aux_lemma =>
                    have hk' : (KO == 0) = true := by rw [hk]; rfl
                    have HE : Hid (eB = false) := by show _ = _; rw [HEB.out.1]; simp [hk]
                    have HK0 : Hid (KO = 0) := hk
                    clear hk
                    go_wp2_with fail
                    go_meet
                    exact ⟨congrArg (Value.int .i64) HK0.out.symm, congrArg Value.bool HE.out.symm, Below.refl _ _⟩
                · have hk' : (KO == 0) = false := by rw [beq_eq_false_iff_ne]; exact hk
                  have hk'' : (KO != 0) = true := by simp [bne, hk']
                  by_cases h3 : VL = 3
                  · cases RG with
                    | true =>
                      as_aux_lemma =>
                        have HE : Hid (eB = false) := by show _ = _; rw [HEB.out.1]; simp [h3]
                        go_wp2_with (first | (go_at_call 18; refine (HLV.out _).mono ?_; rintro e w6 ⟨rfl, hw6⟩; rw [hw6]; clear hw6) | (go_at_call 19; refine (HRG.out _ (Below.refl _ _)).mono ?_; rintro e w7 ⟨rfl, b7⟩; have B7 : Hid (Below W5.heap.size W5 w7) := b7; clear b7))
                        go_meet
                        exact ⟨rfl, congrArg Value.bool HE.out.symm, B7.out⟩
                    | false =>
                      as_aux_lemma =>
                        have HE : Hid (eB = true) := by show _ = _; rw [HEB.out.1]; simp [hk]
                        go_wp2_with (first | (go_at_call 18; refine (HLV.out _).mono ?_; rintro e w6 ⟨rfl, hw6⟩; rw [hw6]; clear hw6) | (go_at_call 19; refine (HRG.out _ (Below.refl _ _)).mono ?_; rintro e w7 ⟨rfl, b7⟩; have B7 : Hid (Below W5.heap.size W5 w7) := b7; clear b7))
                        go_meet
                        exact ⟨rfl, congrArg Value.bool HE.out.symm, B7.out⟩
                  · as_aux_lemma =>
                      have h3' : (VL == 3) = false := by rw [beq_eq_false_iff_ne]; exact h3
                      have HE : Hid (eB = true) := by show _ = _; rw [HEB.out.1]; simp [hk, h3]
                      go_wp2_with (go_at_call 18; refine (HLV.out _).mono ?_; rintro e w6 ⟨rfl, hw6⟩; rw [hw6]; clear hw6)
                      go_meet
                      exact ⟨rfl, congrArg Value.bool HE.out.symm, Below.refl _ _⟩
              case rest =>
                obtain ⟨hk13, hv, hw⟩ := hcut
                subst hk13
                subst hv
                clear HLV HRG
                obtain ⟨W6, hW6⟩ : ∃ W6, wc = W6 := ⟨_, rfl⟩
                rw [hW6] at hw ⊢
                have H5 : Hid (PI (s.size : Int) us mS m2 w W6 i false ns ws na nl nc wa wl wk ∧ Below w1.heap.size w1 W6 ∧ Box5 W6 m11 60 (.int .i64 5) (.string ⟨tx.toArray⟩) (.int .i64 tn) (.int .u64 ti) (.int .i64 tp) ∧ Box5 W6 m12 60 (.int .i64 uk) (.string ⟨ux.toArray⟩) (.int .i64 un) (.int .u64 ui) (.int .i64 up)) := ⟨⟨H5.out.1.sp.below hw.out, H5.out.1.eq, H5.out.1.vk, H5.out.1.len⟩, H5.out.2.1.trans (hw.out.mono H5.out.2.1.size), H5.out.2.2.1.below hw.out, H5.out.2.2.2.below hw.out⟩
                clear hW6 hw c0 c1 f0 f1 d0 d1 d2 d3 d4 x0 x1 x2 x3 x4 lS l11 l12
                obtain ⟨d0, d1, d2, d3, d4⟩ := H5.out.2.2.1.cells
                obtain ⟨x0, x1, x2, x3, x4⟩ := H5.out.2.2.2.cells
                obtain ⟨c0, c1⟩ := H5.out.1.sp.box.cells
                obtain ⟨f0, f1⟩ := H5.out.1.sp.box.thaw
                have lS : mS < W6.heap.size := H5.out.1.sp.box.lt
                have l11 : m11 < W6.heap.size := H5.out.2.2.1.lt
                have l12 : m12 < W6.heap.size := H5.out.2.2.2.lt
                cases eB with
                | true =>
                  as_aux_lemma =>
                    have HC : Hid (KO ≠ 0 ∧ (lvl KO ≠ 3 ∨ ranged ws = false)) := by
                      have h := HEB.out.1.symm
                      simp only [Bool.and_eq_true, Bool.or_eq_true, decide_eq_true_eq, Bool.not_eq_true'] at h
                      rw [← HEB.out.2.1, ← HEB.out.2.2] at h
                      exact h
                    clear HEB
                    go_upto_region 44 with fail
                    refine wp_code (c' := prg 44) (by kernel_rfl) ?_
                    refine wp_name (fun A hA => ?_)
                    refine Code.wp_mono ?_ (red44 H5.out.1.sp (Vk.rk H5.out.1.vk) hnl5 hwl5 A (by rw [hA]; rfl) (by rw [hA]; rfl) (by rw [hA]; rfl))
                    rintro e b W7 ⟨rfl, hb, na7, nl7, nc7, wl7, hP, hT⟩
                    have HP7 : Hid (SP mS m2 w W7 (red (lvl KO) ns ws).1 (red (lvl KO) ns ws).2 na7 nl7 nc7 wa wl7 wk ∧ Below w1.heap.size w1 W7 ∧ Box5 W7 m11 60 (.int .i64 5) (.string ⟨tx.toArray⟩) (.int .i64 tn) (.int .u64 ti) (.int .i64 tp)) :=
                      ⟨hP, (H5.out.2.1.trans (hT.below H5.out.2.1.size (fun g hg e => by have := HN.out.2.2.1; omega))), H5.out.2.2.1.turned hT (HE1.out.1)⟩
                    clear hP hT c0 c1 f0 f1 d0 d1 d2 d3 d4 x0 x1 x2 x3 x4 l11 l12 lS
                    subst hA
                    obtain ⟨u215, hb⟩ := hb.one
                    obtain ⟨u216, hb⟩ := hb.one
                    obtain ⟨u217, hb⟩ := hb.one
                    obtain ⟨u218, hb⟩ := hb.one
                    obtain rfl := hb.nil
                    simp only [Act.put, List.setIfInBounds_toArray, List.set_cons_zero, List.set_cons_succ]
                    obtain ⟨⟨ns7, ws7⟩, hr7⟩ : ∃ z, red (lvl KO) ns ws = z := ⟨_, rfl⟩
                    have HRE : Hid (red (lvl KO) ns ws = (ns7, ws7)) := hr7
                    rw [hr7] at HP7
                    clear hr7
                    have HLE : Hid (nl7 ≤ nl ∧ wl7 ≤ wl) := by
                      have h := red_len (lvl KO) ws ns (Vk.rk H5.out.1.vk)
                      rw [HRE.out] at h
                      have h1 : ns7.length = nl7 := HP7.out.1.st.len
                      have h2 : ws7.length = wl7 := HP7.out.1.st.wl
                      have := HO.out
                      simp only at h
                      obtain ⟨q1, q2⟩ := HO.out
                      exact ⟨by omega, by omega⟩
                    have HG5 : Hid (PI (s.size : Int) us mS m2 w W6 i false ns ws na nl nc wa wl wk) := H5.out.1
                    have H5 : Hid (PJ mS m2 w W7 ns7 ws7 na7 nl7 nc7 wa wl7 wk ∧ Below w1.heap.size w1 W7 ∧ True) := ⟨⟨HP7.out.1⟩, HP7.out.2.1, trivial⟩
                    have HO7 : Hid (ns7.length = nl7 ∧ ws7.length = wl7) := ⟨HP7.out.1.st.len, HP7.out.1.st.wl⟩
                    have hwl7 : wl7 ≤ 2000 := by have := HLE.out; omega
                    have hnl7 : nl7 ≤ 2000 := by have := HLE.out; omega
                    obtain ⟨d0, d1, d2, d3, d4⟩ := HP7.out.2.2.cells
                    obtain ⟨c0, c1⟩ := HP7.out.1.box.cells
                    obtain ⟨f0, f1⟩ := HP7.out.1.box.thaw
                    have lS : mS < W7.heap.size := HP7.out.1.box.lt
                    have l11 : m11 < W7.heap.size := HP7.out.2.2.lt
                    go_upto_region 46 with (at_builtin; refine appG_one encW 62 56 48 _ rfl infoW Tryz.underlying56 rfl (.tmp 220) (.tmp 225) rfl (mS + 1) _ ws7.reverse ⟨KO, tp, [], false, 0⟩ _ rfl H5.out.1.sp.st.wts rfl (by have := HO7.out.2; rw [List.length_reverse]; omega) (by have := HO7.out.2; rw [List.length_reverse]; simp only [maxLen]; omega) (by omega) _ rfl ?_; intro v6 w6 ho6 hb6 hm6 ht6; obtain ⟨wa6, wk6, e6, q6, _, r6, _⟩ := OwnG.form ho6; rw [List.length_append, List.length_reverse, HO7.out.2] at e6; simp only [List.length_cons, List.length_nil, Nat.zero_add] at e6; subst e6; have J6 : Hid (OwnG encW 62 w6 (mS + 1) (.slice wa6 (wl7 + 1) wk6) (ws7.reverse ++ [⟨KO, tp, [], false, 0⟩]) ∧ Moved W7 (.slice wa wl7 wk) (.slice wa6 (wl7 + 1) wk6) ∧ Turned (fun k => (Value.slice wa wl7 wk).ownBlock = some k) W7 w6) := ⟨ho6, hm6, ht6⟩; clear ho6 hb6 hm6 ht6 q6 r6; obtain ⟨g0, g1⟩ := (H5.out.1.sp.box.turned J6.out.2.2 (H5.out.1.sp.apart)).cells; obtain ⟨g2, g3⟩ := (H5.out.1.sp.box.turned J6.out.2.2 (H5.out.1.sp.apart)).thaw)
                    obtain ⟨W6, hW6⟩ : ∃ W6, w6.setCell ⟨mS, 1, none⟩ (.slice wa6 (wl7 + 1) wk6) = W6 := ⟨_, rfl⟩
                    have HP6 : Hid (SP mS m2 w W6 ns7 (⟨KO, tp, [], false, 0⟩ :: ws7) na7 nl7 nc7 wa6 (wl7 + 1) wk6 ∧ Below mS W7 W6 ∧ Below w1.heap.size w1 W6) := by
                      have h1 := H5.out.1.sp.wait J6.out.1 J6.out.2.1 J6.out.2.2
                      have h2 : Below mS W7 (w6.setCell ⟨mS, 1, none⟩ (.slice wa6 (wl7 + 1) wk6)) := (J6.out.2.2.below (Nat.le_of_lt lS) (fun k hk e => by have := (H5.out.1.sp.st.wts.lt k e).1; omega)).setCell (p := ⟨mS, 1, none⟩) (Nat.le_refl _) _
                      rw [hW6] at h1 h2
                      exact ⟨h1, h2, H5.out.2.1.trans (by rw [← HN.out.2.2.1]; exact h2)⟩
                    rw [hW6]
                    clear hW6 J6 g0 g1 g2 g3
                    go_wp2_with fail
                    go_roundg (gk - 1)
                    case measure => have := HJ.out.1; omega
                    case rel =>
                      have hq := have_op HG5.out.eq HD.out.1 HJ.out.1 HUP.out HKO.out HC.out
                      have hv := vk_op (L := lvl KO) (tp := tp) HG5.out.vk HKO.out
                      rw [HRE.out] at hq hv
                      exact ⟨j, true, ns7, ⟨KO, tp, [], false, 0⟩ :: ws7, na7, nl7, nc7, wa6, wl7 + 1, wk6, by go_num, rfl, by have := HJ.out.1; omega, ⟨HP6.out.1, hq, hv, by have := HG5.out.len; have := HLE.out; have := HJ.out.1; omega⟩, HP6.out.2.2⟩
                | false =>
                  exact (Nat.lt_irrefl 0 (HF.out 0)).elim
          · have h5' : (tk == 5) = false := by rw [beq_eq_false_iff_ne]; exact h5
            have h5n : (tk != 5) = true := by simp [bne, h5']
            have HK5 : Hid (¬ tk = 5) := h5
            clear h5
            exact (Nat.lt_irrefl 0 (HF.out 0)).elim
    ·
      exact (Nat.lt_irrefl 0 (HF.out 0)).elim

end Go.Proofs.YtijchmcajhdcoaaGreatDoor
