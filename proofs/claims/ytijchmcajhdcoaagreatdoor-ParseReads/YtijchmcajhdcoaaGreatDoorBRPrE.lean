/-
  Leaves of the reference's Parse, as they stand where it is walked (each a lemma of its own). The theorem itself says nothing: HF ends the leaves of the other texts.
-/
import Derived.Test.YtijchmcajhdcoaaGreatDoorBRPiv
import Derived.Test.YtijchmcajhdcoaaGreatDoorERScn
import Derived.Test.YtijchmcajhdcoaaGreatDoorJUp
import Derived.Test.YtijchmcajhdcoaaGreatDoorJSig
namespace Go.Proofs.YtijchmcajhdcoaaGreatDoor
open Go.RowKit

set_option maxHeartbeats 400000000 in
set_option maxRecDepth 100000 in
theorem rparse_kE (HF : Hid (∀ n : Nat, n < n)) (s : ByteArray) (hs : s.size ≤ 1024) {ts : List Tk} (h : Sc 0 s.data.toList ts none) (hnm : ∀ t ∈ ts, t.kind = 1 → t.text ≠ []) (hsz : ∀ nd, rn (s.size : Int) [] [] true ts = .ok nd → nd.sz ≤ 100000) (w : World) :
    Calls Tryz.prog 6 #[.string s] w fun e w' => ∃ (v : NV) (a c : Int), e = .returned (.tuple #[v.val, .int .i64 a, .int .i64 c]) ∧ Below w.heap.size w w' ∧ Rz (s.size : Int) ts (Bt w.heap.size w'.heap.size) v a c w' := by
  obtain ⟨W1, m2, hW1, hm2, bW1, hs1⟩ := layR w 34 #[.int .i64 0, .string ⟨#[]⟩, .int .i64 0, .int .u64 0, .slice none 0 0, .int .i64 0]
  have hbx : Box6 W1 m2 34 (.int .i64 0) (.string ⟨#[]⟩) (.int .i64 0) (.int .u64 0) (.slice none 0 0) (.int .i64 0) := by rw [← hW1, ← hm2]; exact Box6.new _ _ _ _ _ _ _ _
  have HC : Hid (Calls Tryz.prog 14 _ _ _) := rscan_short s hs W1
  have H : Hid (Sc 0 s.data.toList ts none ∧ (∀ t ∈ ts, t.kind = 1 → t.text ≠ []) ∧ (∀ nd, rn (s.size : Int) [] [] true ts = .ok nd → nd.sz ≤ 100000) ∧ Box6 W1 m2 34 (.int .i64 0) (.string ⟨#[]⟩) (.int .i64 0) (.int .u64 0) (.slice none 0 0) (.int .i64 0) ∧ Below w.heap.size w W1 ∧ m2 = w.heap.size) := ⟨h, hnm, hsz, hbx, bW1, hm2.symm⟩
  clear h hnm hsz hbx bW1 hs1
  go_enter Tryz.func6, Tryz.ntmps6
  go_upto_region 1 with fail
  clear hW1 hm2
  go_upto_region 2 with (go_at_call 14; refine HC.out.mono ?_; rintro e w1 ⟨lv, a, c, us, er, rfl, t1, t2, t3⟩; obtain ⟨rfl, rfl⟩ := t1.uniq H.out.1; obtain ⟨rfl, rfl, t3⟩ := t3; obtain ⟨la, lc, e, L3⟩ := Lt.of t3; subst e; have HT : Hid (Lt 60 W1.heap.size w1 la us.length lc us ∧ Below W1.heap.size W1 w1 ∧ us.length ≤ s.size) := ⟨L3, t2, by have := H.out.1.few; rw [bsize]; exact this⟩; clear t1 t2 t3 L3)
  obtain ⟨n, hn⟩ : ∃ n, us.length = n := ⟨_, rfl⟩
  rw [hn] at HT ⊢
  go_upto_region 5 with fail
  obtain ⟨W2, mS, hW2, hmS, bW2, hs2⟩ := layR w1 58 #[.slice none 0 0, .slice none 0 0]
  have hsb : Box2 W2 mS 58 (.slice none 0 0) (.slice none 0 0) := by rw [← hW2, ← hmS]; exact Box2.new _ _ _ _
  have HN : Hid (us.length = n ∧ n ≤ 1024 ∧ mS = w1.heap.size ∧ RdG encT w1 la us ∧ Below w1.heap.size w1 W2 ∧ n ≤ lc) := ⟨hn, by have := HT.out.2.2; omega, hmS.symm, HT.out.1.rd, bW2, HT.out.1.cap⟩
  have HP0 : Hid (PI (s.size : Int) us mS m2 w W2 0 true [] [] none 0 0 none 0 0) := by
    have hb := H.out.2.2.2.1.below HT.out.2.1
    have hl := hb.lt
    have hl2 := H.out.2.2.2.2.2
    have hb1 := H.out.2.2.2.2.1
    refine ⟨⟨hsb, hb.below bW2, ⟨OwnG.nil _ _ _ _, rfl, [], RdG.nil _ _ _, rfl, Nat.le_refl _, fun q => by simp at q, .nil⟩, (hb1.trans (HT.out.2.1.mono hb1.size)).trans (bW2.mono (by have := HT.out.2.1.size; have := hb1.size; omega)), by omega, by omega⟩, rfl, ?_, by omega, by omega⟩
    show Vk (0 + 1) []
    rfl
  have hn1 : n ≤ 1024 := HN.out.2.1
  rw [hW2, hmS]
  clear hsb bW2 hs2 hn HC hW2 hmS
  go_wp2_with fail
  go_loopg [9, 10] n (fun g bv iv wr => ∃ (i : Nat) (b : Bool) (ns : List Nd) (ws : List Wt) (na : Option Addr) (nl nc : Nat) (wa : Option Addr) (wl wk : Nat), iv = .int .i64 (i : Int) ∧ bv = .bool b ∧ i + g = n ∧ Hid (PI (s.size : Int) us mS m2 w wr i b ns ws na nl nc wa wl wk ∧ Below w1.heap.size w1 wr))
  case atStart => exact ⟨0, true, [], [], none, 0, 0, none, 0, 0, rfl, rfl, by omega, HP0.out, HN.out.2.2.2.2.1⟩
  case round =>
    obtain ⟨i, b, ns, ws, na, nl, nc, wa, wl, wk, rfl, rfl, hig, HR⟩ := hrel
    by_cases hin : i < n
    · have hii : (i : Int) < (n : Int) := by omega
      have hi0 : (0 : Int) ≤ (i : Int) := by omega
      obtain ⟨t, ht⟩ : ∃ t, us[i]? = some t := ⟨_, List.getElem?_eq_getElem (by rw [HN.out.1]; exact hin)⟩
      have hrd := HN.out.2.2.2.1.below HR.out.2
      obtain ⟨tb, tof, e1, htb⟩ := hrd.some_of ht
      subst e1
      obtain ⟨_, t0, t1, t2, t3, t4⟩ := hrd.tok ht
      obtain ⟨tk, tx, tn, ti, tp⟩ := t
      simp only at t0 t1 t2 t3 t4
      obtain ⟨W3, m11, hW3, hm11, hx11, bW3, c3, hB3, hlt3⟩ := lay5 HR.out.1.sp.bel HR.out.1.sp.bel.size 60 (.int .i64 tk) (.string ⟨tx.toArray⟩) (.int .i64 tn) (.int .u64 ti) (.int .i64 tp)
      go_upto_region 10 with fail
      clear hW3
      go_upto_region 11 with fail
      obtain ⟨W4, m12, hW4, hm12, hx12, bW4, c4, hB4, hlt4⟩ := lay5 bW3 bW3.size 60 (.int .i64 0) (.string ⟨#[]⟩) (.int .i64 0) (.int .u64 0) (.int .i64 0)
      have HD : Hid (us.drop i = ⟨tk, tx, tn, ti, tp⟩ :: us.drop (i + 1) ∧ (tk = 1 → tx ≠ []) ∧ wr.heap.size = m11 ∧ W3.heap.size = m12) := by
        refine ⟨?_, fun q => H.out.2.1 _ (List.mem_of_getElem? ht) q, hm11, hm12⟩
        obtain ⟨hlt, hg⟩ := List.getElem?_eq_some_iff.1 ht
        rw [List.drop_eq_getElem_cons hlt, hg]
      obtain ⟨d0, d1, d2, d3, d4⟩ := (hx11.below c4).cells
      obtain ⟨x0, x1, x2, x3, x4⟩ := hx12.cells
      obtain ⟨y0, y1, y2, y3, y4⟩ := hx12.thaw
      have H4 : Hid (PI (s.size : Int) us mS m2 w W4 i b ns ws na nl nc wa wl wk ∧ Below w1.heap.size w1 W4 ∧ Box5 W4 m11 60 (.int .i64 tk) (.string ⟨tx.toArray⟩) (.int .i64 tn) (.int .u64 ti) (.int .i64 tp) ∧ Box5 W4 m12 60 (.int .i64 0) (.string ⟨#[]⟩) (.int .i64 0) (.int .u64 0) (.int .i64 0) ∧ m11 < m12 ∧ mS < m11 ∧ Below wr.heap.size wr W4) := by
        refine ⟨⟨(HR.out.1.sp.below c3).below c4, HR.out.1.eq, HR.out.1.vk, HR.out.1.len⟩, (HR.out.2.trans (c3.mono HR.out.2.size)).trans (c4.mono (by have := HR.out.2.size; have := c3.size; omega)), hx11.below c4, hx12, by omega, ?_, c3.trans (c4.mono c3.size)⟩
        have := HR.out.1.sp.lt
        omega
      clear hrd hx11 hx12 bW3 c3 bW4 c4 ht
      rw [hW4, hm12]
      clear hW4 hm11 hm12
      obtain ⟨j, hj⟩ : ∃ j, j = i + 1 := ⟨_, rfl⟩
      have ej : (i : Int) + 1 = (j : Int) := by omega
      obtain ⟨⟨uk, ux, un, ui, up⟩, hu⟩ : ∃ u, pk (us.drop j) = u := ⟨_, rfl⟩
      have HJ : Hid (j = i + 1 ∧ pk (us.drop j) = ⟨uk, ux, un, ui, up⟩) := ⟨hj, hu⟩
      clear hj hu t0 t1 t2 t3 t4
      go_upto_if 44 with fail
      go_cut [] (fun u => Hid (Box5 u m12 60 (.int .i64 uk) (.string ⟨ux.toArray⟩) (.int .i64 un) (.int .u64 ui) (.int .i64 up) ∧ Box5 u m11 60 (.int .i64 tk) (.string ⟨tx.toArray⟩) (.int .i64 tn) (.int .u64 ti) (.int .i64 tp) ∧ Below wr.heap.size wr u))
      case first =>
        exact (Nat.lt_irrefl 0 (HF.out 0)).elim
      case rest =>
        obtain ⟨W5, hW5⟩ : ∃ W5, wc = W5 := ⟨_, rfl⟩
        rw [hW5] at hcut ⊢
        have H5 : Hid (PI (s.size : Int) us mS m2 w W5 i b ns ws na nl nc wa wl wk ∧ Below w1.heap.size w1 W5 ∧ Box5 W5 m11 60 (.int .i64 tk) (.string ⟨tx.toArray⟩) (.int .i64 tn) (.int .u64 ti) (.int .i64 tp) ∧ Box5 W5 m12 60 (.int .i64 uk) (.string ⟨ux.toArray⟩) (.int .i64 un) (.int .u64 ui) (.int .i64 up)) := ⟨⟨HR.out.1.sp.below hcut.out.2.2, HR.out.1.eq, HR.out.1.vk, HR.out.1.len⟩, HR.out.2.trans (hcut.out.2.2.mono HR.out.2.size), hcut.out.2.1, hcut.out.1⟩
        have HO : Hid (ns.length = nl ∧ ws.length = wl) := ⟨HR.out.1.sp.st.len, HR.out.1.sp.st.wl⟩
        have hwl5 : wl ≤ 2000 := by have := HR.out.1.len; omega
        have hnl5 : nl ≤ 2000 := by have := HR.out.1.len; omega
        have HE1 : Hid (m11 ≠ mS ∧ m12 ≠ mS ∧ m2 ≠ mS ∧ m11 ≠ m2 ∧ m12 ≠ m2 ∧ m11 ≠ m12) := by
          have h1 := H4.out.2.2.2.2
          have h2 := HR.out.1.sp.ord
          show _ ∧ _
          omega
        clear hW5 hcut H4 HR d0 d1 d2 d3 d4 x0 x1 x2 x3 x4 y0 y1 y2 y3 y4 hlt3 hlt4 hB3 hB4 htb
        obtain ⟨d0, d1, d2, d3, d4⟩ := H5.out.2.2.1.cells
        obtain ⟨x0, x1, x2, x3, x4⟩ := H5.out.2.2.2.cells
        obtain ⟨c0, c1⟩ := H5.out.1.sp.box.cells
        obtain ⟨f0, f1⟩ := H5.out.1.sp.box.thaw
        have lS : mS < W5.heap.size := H5.out.1.sp.box.lt
        have l11 : m11 < W5.heap.size := H5.out.2.2.1.lt
        have l12 : m12 < W5.heap.size := H5.out.2.2.2.lt
        cases b with
        | true =>
          exact (Nat.lt_irrefl 0 (HF.out 0)).elim
        | false =>
          exact (Nat.lt_irrefl 0 (HF.out 0)).elim
    ·
      obtain rfl : i = n := by omega
      have HDR : Hid (us.drop i = []) := List.drop_eq_nil_of_le (by rw [HN.out.1]; exact Nat.le_refl _)
      clear hig hin
      obtain ⟨W5, hW5⟩ : ∃ W5, wr = W5 := ⟨_, rfl⟩
      rw [hW5] at HR ⊢
      clear hW5
      have HE1 : Hid (m2 ≠ mS ∧ mS < W5.heap.size) := ⟨by have := HR.out.1.sp.ord.1; omega, HR.out.1.sp.lt⟩
      have HO : Hid (ns.length = nl ∧ ws.length = wl ∧ nl ≤ 2000 ∧ wl ≤ 2000) := ⟨HR.out.1.sp.st.len, HR.out.1.sp.st.wl, by have := HR.out.1.len; omega, by have := HR.out.1.len; omega⟩
      have hwl5 : wl ≤ 2000 := HO.out.2.2.2
      have hnl5 : nl ≤ 2000 := HO.out.2.2.1
      have lS : mS < W5.heap.size := HE1.out.2
      have hne2 : ¬ m2 = mS := HE1.out.1
      cases b with
      | true =>
        as_aux_lemma =>
          have HZ : Hid (rn (s.size : Int) [] [] true us = .err (s.size : Int)) := by
            rw [← HR.out.1.eq, HDR.out]
            exact end_want
          obtain ⟨r0, r1, r2, r3, r4, r5⟩ := HR.out.1.sp.res.cells
          obtain ⟨q0, q1, q2, q3, q4, q5⟩ := HR.out.1.sp.res.thaw
          go_wp2_with fail
          refine bodyPost_ret (results_cell3 (by rfl) _ ⟨m2, 0, none⟩ (by rfl) (load6 (HR.out.1.sp.res.sixed _ _ _ _ _ _))) (by rfl) ⟨nv0, (s.size : Int), 31, (by rfl), belowS6 HR.out.1.sp.bel HR.out.1.sp.ord.2 _ _ _ _ _ _, .inl ⟨_, HZ.out, rfl, rfl, rfl⟩⟩
      | false =>
        have hrd := reduce_any W5 1 HR.out.1.sp.st (fun g q => q.2.1) (Vk.rk HR.out.1.vk) (by omega) (by omega)
        have HRD : Hid (Calls Tryz.prog 20 _ _ _) := hrd
        clear hrd
        obtain ⟨c0, c1⟩ := HR.out.1.sp.box.cells
        obtain ⟨f0, f1⟩ := HR.out.1.sp.box.thaw
        go_upto_region 57 with (go_at_call 20; refine HRD.out.mono ?_; rintro e w8 ⟨na8, nl8, nc8, wl8, rfl, h8, b8⟩; have H8 : Hid (Below W5.heap.size W5 w8 ∧ _) := ⟨b8, h8⟩; clear b8 h8; obtain ⟨g0, g1⟩ := (HR.out.1.sp.box.below H8.out.1).cells; obtain ⟨g2, g3⟩ := (HR.out.1.sp.box.below H8.out.1).thaw)
        obtain ⟨W9, hW9⟩ : ∃ W9, (w8.setCell ⟨mS, 0, none⟩ (.slice na8 nl8 nc8)).setCell ⟨mS, 1, none⟩ (.slice wa wl8 wk) = W9 := ⟨_, rfl⟩
        have hP9 := HR.out.1.sp.laid H8.out.1 H8.out.2
        rw [hW9] at hP9
        obtain ⟨⟨ns9, ws9⟩, hr9⟩ : ∃ z, red 1 ns ws = z := ⟨_, rfl⟩
        rw [hr9] at hP9
        have HRE : Hid (red 1 ns ws = (ns9, ws9)) := hr9
        have HP9 : Hid (SP mS m2 w W9 ns9 ws9 na8 nl8 nc8 wa wl8 wk) := hP9.1
        clear hP9 hr9 g0 g1 g2 g3 c0 c1 f0 f1 lS
        rw [hW9]
        clear hW9
        obtain ⟨c0, c1⟩ := HP9.out.box.cells
        obtain ⟨r0, r1, r2, r3, r4, r5⟩ := HP9.out.res.cells
        obtain ⟨q0, q1, q2, q3, q4, q5⟩ := HP9.out.res.thaw
        have HEQ : Hid (rn (s.size : Int) ns ws false [] = rn (s.size : Int) [] [] true us) := by
          have h := HR.out.1.eq
          rw [HDR.out] at h
          exact h
        cases ws9 with
        | cons v r =>
          obtain ⟨wq, hwq⟩ : ∃ q, wl8 = q + 1 := ⟨wl8 - 1, by have := HP9.out.st.wl; rw [List.length_cons] at this; omega⟩
          have hpos : 0 < wl8 := by omega
          have hpos2 : (0 : Int) < (wl8 : Int) := by omega
          have HZ : Hid (rn (s.size : Int) [] [] true us = .err (s.size : Int)) := end_err HEQ.out HRE.out
          clear hwq
          go_wp2_with fail
          refine bodyPost_ret (results_cell3 (by rfl) _ ⟨m2, 0, none⟩ (by rfl) (load6 (HP9.out.res.sixed _ _ _ _ _ _))) (by rfl) ⟨nv0, (s.size : Int), 31, (by rfl), belowS6 HP9.out.bel HP9.out.ord.2 _ _ _ _ _ _, .inl ⟨_, HZ.out, rfl, rfl, rfl⟩⟩
        | nil =>
          obtain ⟨x, rfl⟩ := end_one HR.out.1.vk HRE.out
          obtain rfl : wl8 = 0 := HP9.out.st.wl.symm
          obtain rfl : nl8 = 1 := HP9.out.st.len.symm
          have HZ : Hid (rn (s.size : Int) [] [] true us = .ok x) := end_ok HEQ.out HRE.out
          have hxs : x.sz ≤ 100000 := H.out.2.2.1 x HZ.out
          obtain ⟨us5, hu1, hu2, hu3, hu4, hu5⟩ := HP9.out.st.nds
          obtain ⟨kv, hkv, hkn⟩ := hu5.get (i := 0) (n := x) rfl
          obtain ⟨nb, no, e9, hnb⟩ := hu1.some_of hkv
          subst e9
          have hcl := hu1.node hkv
          obtain ⟨ko, kt, kn, ki, ka, kl, kc, kp⟩ := kv
          simp only [Nat.zero_mul, Nat.add_zero] at hcl
          obtain ⟨k0, k1, k2, k3, k4, k5⟩ := hcl
          have hdp := rdepth_any x hxs _ W9 _ hkn
          obtain ⟨D, hD⟩ : ∃ D, x.dep = D := ⟨_, rfl⟩
          rw [hD] at hdp
          have HDP : Hid (Calls Tryz.prog 22 #[.agg #[.int .i64 ko, .string ⟨kt.toArray⟩, .int .i64 kn, .int .u64 ki, .slice ka kl kc, .int .i64 kp]] W9 fun e w' => e = .returned (.int .i64 (D : Nat)) ∧ Below W9.heap.size W9 w') := hdp
          have HK : Hid (x.dep = D ∧ RdG encN W9 (some ⟨nb, no, none⟩) us5 ∧ us5[0]? = some ⟨ko, kt, kn, ki, ka, kl, kc, kp⟩ ∧ NdIn (Qs mS W9 wa) W9 ⟨ko, kt, kn, ki, ka, kl, kc, kp⟩ x) := ⟨hD, hu1, hkv, hkn⟩
          clear hdp hD hu1 hu2 hu4 hu5 hkv hkn hnb hxs
          by_cases hdd : 24 < D
          · as_aux_lemma =>
              have hdi : (24 : Int) < (D : Int) := by omega
              have HD : Hid (24 < x.dep) := by have := HK.out.1; show _ < _; omega
              go_wp2_with (go_at_call 22; refine HDP.out.mono ?_; rintro e w10 ⟨rfl, b10⟩; have B10 : Hid (Below W9.heap.size W9 w10) := b10; obtain ⟨r0, r1, r2, r3, r4, r5⟩ := (HP9.out.res.below b10).cells; obtain ⟨q0, q1, q2, q3, q4, q5⟩ := (HP9.out.res.below b10).thaw; obtain ⟨c0, c1⟩ := (HP9.out.box.below b10).cells; have hcl := (HK.out.2.1.below b10).node HK.out.2.2.1; simp only [Nat.zero_mul, Nat.add_zero] at hcl; obtain ⟨k0, k1, k2, k3, k4, k5⟩ := hcl; clear b10)
              refine bodyPost_ret (results_cell3 (by rfl) _ ⟨m2, 0, none⟩ (by rfl) (load6 ((HP9.out.res.below B10.out).sixed _ _ _ _ _ _))) (by rfl) ⟨nv0, 0, 32, (by rfl), belowS6 (HP9.out.bel.trans (B10.out.mono HP9.out.bel.size)) HP9.out.ord.2 _ _ _ _ _ _, .inr (.inl ⟨_, HZ.out, HD.out, rfl, rfl, rfl⟩)⟩
          · as_aux_lemma =>
              have hdi : ¬ (24 : Int) < (D : Int) := by omega
              have HD : Hid (x.dep ≤ 24) := by have := HK.out.1; show _ ≤ _; omega
              go_wp2_with (go_at_call 22; refine HDP.out.mono ?_; rintro e w10 ⟨rfl, b10⟩; have B10 : Hid (Below W9.heap.size W9 w10) := b10; obtain ⟨r0, r1, r2, r3, r4, r5⟩ := (HP9.out.res.below b10).cells; obtain ⟨q0, q1, q2, q3, q4, q5⟩ := (HP9.out.res.below b10).thaw; obtain ⟨c0, c1⟩ := (HP9.out.box.below b10).cells; have hcl := (HK.out.2.1.below b10).node HK.out.2.2.1; simp only [Nat.zero_mul, Nat.add_zero] at hcl; obtain ⟨k0, k1, k2, k3, k4, k5⟩ := hcl; clear b10)
              refine bodyPost_ret (results_cell3 (by rfl) _ ⟨m2, 0, none⟩ (by rfl) (load6 ((HP9.out.res.below B10.out).sixed _ _ _ _ _ _))) (by rfl) ⟨⟨ko, kt, kn, ki, ka, kl, kc, kp⟩, 0, 0, (by rfl), belowS6 (HP9.out.bel.trans (B10.out.mono HP9.out.bel.size)) HP9.out.ord.2 _ _ _ _ _ _, .inr (.inr ⟨_, HZ.out, HD.out, rfl, rfl, ?_⟩)⟩
              exact end_rows HK.out.2.2.2 (HP9.out) B10.out _ _ _ _ _ _

end Go.Proofs.YtijchmcajhdcoaaGreatDoor
