/-
  Leaves of the reference's Parse, as they stand where it is walked (each a lemma of its own). The theorem itself says nothing: HF ends the leaves of the other texts.
-/
import Derived.Test.YtijchmcajhdcoaaGreatDoorBRPiv
import Derived.Test.YtijchmcajhdcoaaGreatDoorERScn
import Derived.Test.YtijchmcajhdcoaaGreatDoorJUp
import Derived.Test.YtijchmcajhdcoaaGreatDoorJSig
namespace Go.Proofs.YtijchmcajhdcoaaGreatDoor
open Go.RowKit

set_option maxHeartbeats 400000000 in
set_option maxRecDepth 100000 in
theorem rparse_kB (HF : Hid (∀ n : Nat, n < n)) (s : ByteArray) (hs : s.size ≤ 1024) {ts : List Tk} (h : Sc 0 s.data.toList ts none) (hnm : ∀ t ∈ ts, t.kind = 1 → t.text ≠ []) (hsz : ∀ nd, rn (s.size : Int) [] [] true ts = .ok nd → nd.sz ≤ 100000) (w : World) :
    Calls Tryz.prog 6 #[.string s] w fun e w' => ∃ (v : NV) (a c : Int), e = .returned (.tuple #[v.val, .int .i64 a, .int .i64 c]) ∧ Below w.heap.size w w' ∧ Rz (s.size : Int) ts (Bt w.heap.size w'.heap.size) v a c w' := by
  obtain ⟨W1, m2, hW1, hm2, bW1, hs1⟩ := layR w 34 #[.int .i64 0, .string ⟨#[]⟩, .int .i64 0, .int .u64 0, .slice none 0 0, .int .i64 0]
  have hbx : Box6 W1 m2 34 (.int .i64 0) (.string ⟨#[]⟩) (.int .i64 0) (.int .u64 0) (.slice none 0 0) (.int .i64 0) := by rw [← hW1, ← hm2]; exact Box6.new _ _ _ _ _ _ _ _
  have HC : Hid (Calls Tryz.prog 14 _ _ _) := rscan_short s hs W1
  have H : Hid (Sc 0 s.data.toList ts none ∧ (∀ t ∈ ts, t.kind = 1 → t.text ≠ []) ∧ (∀ nd, rn (s.size : Int) [] [] true ts = .ok nd → nd.sz ≤ 100000) ∧ Box6 W1 m2 34 (.int .i64 0) (.string ⟨#[]⟩) (.int .i64 0) (.int .u64 0) (.slice none 0 0) (.int .i64 0) ∧ Below w.heap.size w W1 ∧ m2 = w.heap.size) := ⟨h, hnm, hsz, hbx, bW1, hm2.symm⟩
  clear h hnm hsz hbx bW1 hs1
  go_enter Tryz.func6, Tryz.ntmps6
  go_upto_region 1 with fail
  clear hW1 hm2
  go_upto_region 2 with (go_at_call 14; refine HC.out.mono ?_; rintro e w1 ⟨lv, a, c, us, er, rfl, t1, t2, t3⟩; obtain ⟨rfl, rfl⟩ := t1.uniq H.out.1; obtain ⟨rfl, rfl, t3⟩ := t3; obtain ⟨la, lc, e, L3⟩ := Lt.of t3; subst e; have HT : Hid (Lt 60 W1.heap.size w1 la us.length lc us ∧ Below W1.heap.size W1 w1 ∧ us.length ≤ s.size) := ⟨L3, t2, by have := H.out.1.few; rw [bsize]; exact this⟩; clear t1 t2 t3 L3)
  obtain ⟨n, hn⟩ : ∃ n, us.length = n := ⟨_, rfl⟩
  rw [hn] at HT ⊢
  go_upto_region 5 with fail
  obtain ⟨W2, mS, hW2, hmS, bW2, hs2⟩ := layR w1 58 #[.slice none 0 0, .slice none 0 0]
  have hsb : Box2 W2 mS 58 (.slice none 0 0) (.slice none 0 0) := by rw [← hW2, ← hmS]; exact Box2.new _ _ _ _
  have HN : Hid (us.length = n ∧ n ≤ 1024 ∧ mS = w1.heap.size ∧ RdG encT w1 la us ∧ Below w1.heap.size w1 W2 ∧ n ≤ lc) := ⟨hn, by have := HT.out.2.2; omega, hmS.symm, HT.out.1.rd, bW2, HT.out.1.cap⟩
  have HP0 : Hid (PI (s.size : Int) us mS m2 w W2 0 true [] [] none 0 0 none 0 0) := by
    have hb := H.out.2.2.2.1.below HT.out.2.1
    have hl := hb.lt
    have hl2 := H.out.2.2.2.2.2
    have hb1 := H.out.2.2.2.2.1
    refine ⟨⟨hsb, hb.below bW2, ⟨OwnG.nil _ _ _ _, rfl, [], RdG.nil _ _ _, rfl, Nat.le_refl _, fun q => by simp at q, .nil⟩, (hb1.trans (HT.out.2.1.mono hb1.size)).trans (bW2.mono (by have := HT.out.2.1.size; have := hb1.size; omega)), by omega, by omega⟩, rfl, ?_, by omega, by omega⟩
    show Vk (0 + 1) []
    rfl
  have hn1 : n ≤ 1024 := HN.out.2.1
  rw [hW2, hmS]
  clear hsb bW2 hs2 hn HC hW2 hmS
  go_wp2_with fail
  go_loopg [9, 10] n (fun g bv iv wr => ∃ (i : Nat) (b : Bool) (ns : List Nd) (ws : List Wt) (na : Option Addr) (nl nc : Nat) (wa : Option Addr) (wl wk : Nat), iv = .int .i64 (i : Int) ∧ bv = .bool b ∧ i + g = n ∧ Hid (PI (s.size : Int) us mS m2 w wr i b ns ws na nl nc wa wl wk ∧ Below w1.heap.size w1 wr))
  case atStart => exact ⟨0, true, [], [], none, 0, 0, none, 0, 0, rfl, rfl, by omega, HP0.out, HN.out.2.2.2.2.1⟩
  case round =>
    obtain ⟨i, b, ns, ws, na, nl, nc, wa, wl, wk, rfl, rfl, hig, HR⟩ := hrel
    by_cases hin : i < n
    · have hii : (i : Int) < (n : Int) := by omega
      have hi0 : (0 : Int) ≤ (i : Int) := by omega
      obtain ⟨t, ht⟩ : ∃ t, us[i]? = some t := ⟨_, List.getElem?_eq_getElem (by rw [HN.out.1]; exact hin)⟩
      have hrd := HN.out.2.2.2.1.below HR.out.2
      obtain ⟨tb, tof, e1, htb⟩ := hrd.some_of ht
      subst e1
      obtain ⟨_, t0, t1, t2, t3, t4⟩ := hrd.tok ht
      obtain ⟨tk, tx, tn, ti, tp⟩ := t
      simp only at t0 t1 t2 t3 t4
      obtain ⟨W3, m11, hW3, hm11, hx11, bW3, c3, hB3, hlt3⟩ := lay5 HR.out.1.sp.bel HR.out.1.sp.bel.size 60 (.int .i64 tk) (.string ⟨tx.toArray⟩) (.int .i64 tn) (.int .u64 ti) (.int .i64 tp)
      go_upto_region 10 with fail
      clear hW3
      go_upto_region 11 with fail
      obtain ⟨W4, m12, hW4, hm12, hx12, bW4, c4, hB4, hlt4⟩ := lay5 bW3 bW3.size 60 (.int .i64 0) (.string ⟨#[]⟩) (.int .i64 0) (.int .u64 0) (.int .i64 0)
      have HD : Hid (us.drop i = ⟨tk, tx, tn, ti, tp⟩ :: us.drop (i + 1) ∧ (tk = 1 → tx ≠ []) ∧ wr.heap.size = m11 ∧ W3.heap.size = m12) := by
        refine ⟨?_, fun q => H.out.2.1 _ (List.mem_of_getElem? ht) q, hm11, hm12⟩
        obtain ⟨hlt, hg⟩ := List.getElem?_eq_some_iff.1 ht
        rw [List.drop_eq_getElem_cons hlt, hg]
      obtain ⟨d0, d1, d2, d3, d4⟩ := (hx11.below c4).cells
      obtain ⟨x0, x1, x2, x3, x4⟩ := hx12.cells
      obtain ⟨y0, y1, y2, y3, y4⟩ := hx12.thaw
      have H4 : Hid (PI (s.size : Int) us mS m2 w W4 i b ns ws na nl nc wa wl wk ∧ Below w1.heap.size w1 W4 ∧ Box5 W4 m11 60 (.int .i64 tk) (.string ⟨tx.toArray⟩) (.int .i64 tn) (.int .u64 ti) (.int .i64 tp) ∧ Box5 W4 m12 60 (.int .i64 0) (.string ⟨#[]⟩) (.int .i64 0) (.int .u64 0) (.int .i64 0) ∧ m11 < m12 ∧ mS < m11 ∧ Below wr.heap.size wr W4) := by
        refine ⟨⟨(HR.out.1.sp.below c3).below c4, HR.out.1.eq, HR.out.1.vk, HR.out.1.len⟩, (HR.out.2.trans (c3.mono HR.out.2.size)).trans (c4.mono (by have := HR.out.2.size; have := c3.size; omega)), hx11.below c4, hx12, by omega, ?_, c3.trans (c4.mono c3.size)⟩
        have := HR.out.1.sp.lt
        omega
      clear hrd hx11 hx12 bW3 c3 bW4 c4 ht
      rw [hW4, hm12]
      clear hW4 hm11 hm12
      obtain ⟨j, hj⟩ : ∃ j, j = i + 1 := ⟨_, rfl⟩
      have ej : (i : Int) + 1 = (j : Int) := by omega
      obtain ⟨⟨uk, ux, un, ui, up⟩, hu⟩ : ∃ u, pk (us.drop j) = u := ⟨_, rfl⟩
      have HJ : Hid (j = i + 1 ∧ pk (us.drop j) = ⟨uk, ux, un, ui, up⟩) := ⟨hj, hu⟩
      clear hj hu t0 t1 t2 t3 t4
      go_upto_if 44 with fail
      go_cut [] (fun u => Hid (Box5 u m12 60 (.int .i64 uk) (.string ⟨ux.toArray⟩) (.int .i64 un) (.int .u64 ui) (.int .i64 up) ∧ Box5 u m11 60 (.int .i64 tk) (.string ⟨tx.toArray⟩) (.int .i64 tn) (.int .u64 ti) (.int .i64 tp) ∧ Below wr.heap.size wr u))
      case first =>
        exact (Nat.lt_irrefl 0 (HF.out 0)).elim
      case rest =>
        obtain ⟨W5, hW5⟩ : ∃ W5, wc = W5 := ⟨_, rfl⟩
        rw [hW5] at hcut ⊢
        have H5 : Hid (PI (s.size : Int) us mS m2 w W5 i b ns ws na nl nc wa wl wk ∧ Below w1.heap.size w1 W5 ∧ Box5 W5 m11 60 (.int .i64 tk) (.string ⟨tx.toArray⟩) (.int .i64 tn) (.int .u64 ti) (.int .i64 tp) ∧ Box5 W5 m12 60 (.int .i64 uk) (.string ⟨ux.toArray⟩) (.int .i64 un) (.int .u64 ui) (.int .i64 up)) := ⟨⟨HR.out.1.sp.below hcut.out.2.2, HR.out.1.eq, HR.out.1.vk, HR.out.1.len⟩, HR.out.2.trans (hcut.out.2.2.mono HR.out.2.size), hcut.out.2.1, hcut.out.1⟩
        have HO : Hid (ns.length = nl ∧ ws.length = wl) := ⟨HR.out.1.sp.st.len, HR.out.1.sp.st.wl⟩
        have hwl5 : wl ≤ 2000 := by have := HR.out.1.len; omega
        have hnl5 : nl ≤ 2000 := by have := HR.out.1.len; omega
        have HE1 : Hid (m11 ≠ mS ∧ m12 ≠ mS ∧ m2 ≠ mS ∧ m11 ≠ m2 ∧ m12 ≠ m2 ∧ m11 ≠ m12) := by
          have h1 := H4.out.2.2.2.2
          have h2 := HR.out.1.sp.ord
          show _ ∧ _
          omega
        clear hW5 hcut H4 HR d0 d1 d2 d3 d4 x0 x1 x2 x3 x4 y0 y1 y2 y3 y4 hlt3 hlt4 hB3 hB4 htb
        obtain ⟨d0, d1, d2, d3, d4⟩ := H5.out.2.2.1.cells
        obtain ⟨x0, x1, x2, x3, x4⟩ := H5.out.2.2.2.cells
        obtain ⟨c0, c1⟩ := H5.out.1.sp.box.cells
        obtain ⟨f0, f1⟩ := H5.out.1.sp.box.thaw
        have lS : mS < W5.heap.size := H5.out.1.sp.box.lt
        have l11 : m11 < W5.heap.size := H5.out.2.2.1.lt
        have l12 : m12 < W5.heap.size := H5.out.2.2.2.lt
        cases b with
        | true =>
          exact (Nat.lt_irrefl 0 (HF.out 0)).elim
        | false =>
          by_cases h5 : tk = 5
          · subst h5
            obtain ⟨KO, hKO⟩ : ∃ KO, opOf tx = KO := ⟨_, rfl⟩
            have hop := rop_any tx W5
            rw [hKO] at hop
            have HKO : Hid (opOf tx = KO) := hKO
            clear hKO
            by_cases hup : tx = [94]
            · subst hup
              go_upto_region 36 with (go_at_call 17; refine hop.mono ?_; rintro e w6 ⟨rfl, hw6⟩; rw [hw6]; clear hw6)
              clear hop
              obtain ⟨x, t, rfl⟩ : ∃ x t, ns = x :: t := by
                cases ns with
                | nil => exact absurd (Vk.pos H5.out.1.vk) (by simp)
                | cons x t => exact ⟨x, t, rfl⟩
              obtain ⟨q, hq⟩ : ∃ q, nl = q + 1 := ⟨nl - 1, by have := HO.out.1; rw [List.length_cons] at this; omega⟩
              obtain ⟨us5, hu1, hu2, hu3, hu4, hu5⟩ := H5.out.1.sp.st.nds
              obtain ⟨kv, hkv, hkn⟩ := hu5.get (last_rev (HO.out.1.trans hq))
              obtain ⟨nb, no, e9, hnb⟩ := hu1.some_of hkv
              subst e9
              obtain ⟨ko, kt, kn, ki, ka, kl, kc, kp⟩ := kv
              refine wp_code (c' := prg 36) (by kernel_rfl) ?_
              refine wp_name (fun A hA => ?_)
              refine Code.wp_mono ?_ (up36 H5.out.1.sp.box H5.out.2.2.1 hu1 hkv hq (by omega) hu3 A (by rw [hA]; rfl) (by rw [hA]; rfl) (by rw [hA]; rfl) (by rw [hA]; rfl))
              rintro e b W6 ⟨rfl, gx, gy, hg, hb, hm⟩
              have HV : Hid (∀ (V : World) (num : Int), Mu W5 V gx gy num tp ⟨ko, kt, kn, ki, ka, kl, kc, kp⟩ → (PI (s.size : Int) us mS m2 w V i false (x :: t) ws (some ⟨nb, no, none⟩) nl nc wa wl wk ∧ Below w1.heap.size w1 V ∧ Box5 V m11 60 (.int .i64 5) (.string ⟨#[94]⟩) (.int .i64 tn) (.int .u64 ti) (.int .i64 tp) ∧ Box5 V m12 60 (.int .i64 uk) (.string ⟨ux.toArray⟩) (.int .i64 un) (.int .u64 ui) (.int .i64 up)) ∧ NdIn (Qs mS V wa) V ⟨ko, kt, kn, ki, ka, kl, kc, kp⟩ x ∧ Qs mS V wa gy) := by
                intro V num h
                have hmm : ∀ g, Qs mS W5 wa g → Qs mS V wa g := fun _ q => ⟨q.1, Nat.lt_of_lt_of_le q.2.1 h.bel.size, q.2.2⟩
                refine ⟨⟨⟨H5.out.1.sp.below h.bel, H5.out.1.eq, H5.out.1.vk, H5.out.1.len⟩, H5.out.2.1.trans (h.bel.mono H5.out.2.1.size), H5.out.2.2.1.below h.bel, H5.out.2.2.2.below h.bel⟩, (hkn.below h.bel).mono hmm, ⟨by have := h.ly.1; omega, h.ly.2, fun a e e2 => ?_⟩⟩
                have := (H5.out.1.sp.st.owner a e).2
                have := h.ly.1
                omega
              have HM : Hid (Mu W5 W6 gx gy 0 tp ⟨ko, kt, kn, ki, ka, kl, kc, kp⟩) := hm
              have HQN : Hid (nl = q + 1) := hq
              clear hm hkv hkn hnb hu1 hu2 hu3 hu4 hu5 hq
              subst hA
              obtain ⟨u167, hb⟩ := hb.one
              obtain ⟨u168, hb⟩ := hb.one
              obtain ⟨u169, hb⟩ := hb.one
              obtain ⟨u170, hb⟩ := hb.one
              obtain ⟨u171, hb⟩ := hb.one
              obtain ⟨u172, hb⟩ := hb.one
              obtain ⟨u173, hb⟩ := hb.one
              obtain ⟨u174, hb⟩ := hb.one
              obtain ⟨u175, hb⟩ := hb.one
              obtain ⟨u176, hb⟩ := hb.one
              have eb := hb.last hg
              subst eb
              clear hb hg
              simp only [Act.put, List.setIfInBounds_toArray, List.set_cons_zero, List.set_cons_succ]
              have H5 : Hid (PI (s.size : Int) us mS m2 w W6 i false (x :: t) ws (some ⟨nb, no, none⟩) nl nc wa wl wk ∧ Below w1.heap.size w1 W6 ∧ Box5 W6 m11 60 (.int .i64 5) (.string ⟨#[94]⟩) (.int .i64 tn) (.int .u64 ti) (.int .i64 tp) ∧ Box5 W6 m12 60 (.int .i64 uk) (.string ⟨ux.toArray⟩) (.int .i64 un) (.int .u64 ui) (.int .i64 up)) := (HV.out W6 0 HM.out).1
              clear c0 c1 f0 f1 d0 d1 d2 d3 d4 x0 x1 x2 x3 x4
              obtain ⟨x0, x1, x2, x3, x4⟩ := H5.out.2.2.2.cells
              by_cases h2 : uk = 2
              · subst h2
                by_cases h0 : un = 0
                · subst h0
                  exact (Nat.lt_irrefl 0 (HF.out 0)).elim
                · as_aux_lemma =>
                    have h0' : (un == 0) = false := by rw [beq_eq_false_iff_ne]; exact h0
                    have HU0 : Hid (¬ un = 0) := h0
                    clear h0
                    obtain ⟨b0, b1, b2, b3, b4, b5⟩ := HM.out.box.cells
                    obtain ⟨z0, z1, z2, z3, z4, z5⟩ := HM.out.box.thaw
                    go_upto_region 42 with fail
                    clear b0 b1 b2 b3 b4 b5 z0 z1 z2 z3 z4 z5
                    obtain ⟨W7, hW7⟩ : ∃ W7, W6.setCell ⟨gx, 2, none⟩ (.int .i64 un) = W7 := ⟨_, rfl⟩
                    have HM7 : Hid (Mu W5 W7 gx gy un tp ⟨ko, kt, kn, ki, ka, kl, kc, kp⟩) := by rw [← hW7]; exact HM.out.num un
                    rw [hW7]
                    clear hW7
                    refine wp_code (c' := prg 42) (by kernel_rfl) ?_
                    refine wp_name (fun A hA => ?_)
                    refine Code.wp_mono ?_ (up42 (HV.out W7 un HM7.out).1.1.sp (HV.out W7 un HM7.out).1.2.1 HN.out.2.2.1 (HM7.out).box (HM7.out).row (HV.out W7 un HM7.out).2.1 (HV.out W7 un HM7.out).2.2 HQN.out (by have := HQN.out; omega) A (by rw [hA]; rfl) (by rw [hA]; rfl) (by rw [hA]; rfl) (by rw [hA]; rfl))
                    rintro e b W9 ⟨rfl, hb, a9, c9, hP, hB⟩
                    have HP9 : Hid (SP mS m2 w W9 (⟨12, [], un, 0, foOf [x], tp⟩ :: t) ws a9 (q + 1) c9 wa wl wk ∧ Below w1.heap.size w1 W9) := ⟨hP, hB⟩
                    clear hP hB
                    subst hA
                    obtain ⟨u191, hb⟩ := hb.one
                    obtain ⟨u192, hb⟩ := hb.one
                    obtain ⟨u193, hb⟩ := hb.one
                    obtain ⟨u194, hb⟩ := hb.one
                    obtain ⟨u195, hb⟩ := hb.one
                    obtain ⟨u196, hb⟩ := hb.one
                    obtain ⟨u197, hb⟩ := hb.one
                    obtain ⟨u198, hb⟩ := hb.one
                    obtain ⟨u199, hb⟩ := hb.one
                    obtain ⟨u200, hb⟩ := hb.one
                    obtain ⟨u201, hb⟩ := hb.one
                    obtain rfl := hb.nil
                    simp only [Act.put, List.setIfInBounds_toArray, List.set_cons_zero, List.set_cons_succ]
                    go_wp2_with fail
                    go_roundg (gk - 2)
                    case measure => have := HJ.out.1; have := pk_ltk HJ.out.2 (by decide); have := HN.out.1; omega
                    case rel => exact ⟨j + 1, false, ⟨12, [], un, 0, foOf [x], tp⟩ :: t, ws, a9, q + 1, c9, wa, wl, wk, by go_num, rfl, by have := HJ.out.1; have := pk_ltk HJ.out.2 (by decide); have := HN.out.1; omega, ⟨HP9.out.1, have_upK H5.out.1.eq HD.out.1 HJ.out HU0.out, H5.out.1.vk, by have := H5.out.1.len; have := HJ.out.1; have := HQN.out; omega⟩, HP9.out.2⟩
              · as_aux_lemma =>
                  have h2' : (uk == 2) = false := by rw [beq_eq_false_iff_ne]; exact h2
                  have HU2 : Hid (¬ uk = 2) := h2
                  clear h2
                  go_upto_region 42 with fail
                  refine wp_code (c' := prg 42) (by kernel_rfl) ?_
                  refine wp_name (fun A hA => ?_)
                  refine Code.wp_mono ?_ (up42 (HV.out W6 0 HM.out).1.1.sp (HV.out W6 0 HM.out).1.2.1 HN.out.2.2.1 (HM.out).box (HM.out).row (HV.out W6 0 HM.out).2.1 (HV.out W6 0 HM.out).2.2 HQN.out (by have := HQN.out; omega) A (by rw [hA]; rfl) (by rw [hA]; rfl) (by rw [hA]; rfl) (by rw [hA]; rfl))
                  rintro e b W9 ⟨rfl, hb, a9, c9, hP, hB⟩
                  have HP9 : Hid (SP mS m2 w W9 (⟨12, [], 0, 0, foOf [x], tp⟩ :: t) ws a9 (q + 1) c9 wa wl wk ∧ Below w1.heap.size w1 W9) := ⟨hP, hB⟩
                  clear hP hB
                  subst hA
                  obtain ⟨u191, hb⟩ := hb.one
                  obtain ⟨u192, hb⟩ := hb.one
                  obtain ⟨u193, hb⟩ := hb.one
                  obtain ⟨u194, hb⟩ := hb.one
                  obtain ⟨u195, hb⟩ := hb.one
                  obtain ⟨u196, hb⟩ := hb.one
                  obtain ⟨u197, hb⟩ := hb.one
                  obtain ⟨u198, hb⟩ := hb.one
                  obtain ⟨u199, hb⟩ := hb.one
                  obtain ⟨u200, hb⟩ := hb.one
                  obtain ⟨u201, hb⟩ := hb.one
                  obtain rfl := hb.nil
                  simp only [Act.put, List.setIfInBounds_toArray, List.set_cons_zero, List.set_cons_succ]
                  go_wp2_with fail
                  go_roundg (gk - 1)
                  case measure => have := HJ.out.1; omega
                  case rel => exact ⟨j, false, ⟨12, [], 0, 0, foOf [x], tp⟩ :: t, ws, a9, q + 1, c9, wa, wl, wk, by go_num, rfl, by have := HJ.out.1; omega, ⟨HP9.out.1, have_up0 H5.out.1.eq HD.out.1 HJ.out HU2.out, H5.out.1.vk, by have := H5.out.1.len; have := HJ.out.1; have := HQN.out; omega⟩, HP9.out.2⟩
            · as_aux_lemma =>
                have hup' : (tx == [94]) = false := by rw [beq_eq_false_iff_ne]; exact hup
                have HUP : Hid (¬ tx = [94]) := hup
                clear hup
                go_upto_region 43 with (go_at_call 17; refine hop.mono ?_; rintro e w6 ⟨rfl, hw6⟩; rw [hw6]; clear hw6)
                clear hop
                exact (Nat.lt_irrefl 0 (HF.out 0)).elim
          · have h5' : (tk == 5) = false := by rw [beq_eq_false_iff_ne]; exact h5
            have h5n : (tk != 5) = true := by simp [bne, h5']
            have HK5 : Hid (¬ tk = 5) := h5
            clear h5
            exact (Nat.lt_irrefl 0 (HF.out 0)).elim
    ·
      exact (Nat.lt_irrefl 0 (HF.out 0)).elim

end Go.Proofs.YtijchmcajhdcoaaGreatDoor
