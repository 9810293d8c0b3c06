/-
  check.Check by a contract: what the document says of the tree. No condition but that the table of functions lies as the program's text lays it, and that a tree has not too many nodes.
-/
import Derived.Test.YtdgdckmhmmigkaaGreatDoorJTab
import Derived.Test.YtdgdckmhmmigkaaGreatDoorBDep
import Derived.Test.YtdgdckmhmmigkaaGreatDoorBGo
namespace Go.Proofs.YtdgdckmhmmigkaaGreatDoor
open Go.RowKit

/-- What is told, as a value. -/
def ckV (r : Int × Int × Int) : Value := .tuple #[.int .i64 r.1, .int .i64 r.2.1, .int .i64 r.2.2]
/-- What Check is to tell of a Kid. -/
abbrev CkI (Q : Nat → Prop) (x : Nd) : Prop := ∀ (u : World) (kv : NV), Fns u → NdIn Q u kv x → Calls Tryz.prog 17 #[kv.val] u fun e w' => e = .returned (ckV x.ck) ∧ Below u.heap.size u w'

theorem cks_before {f : Fo} {i : Nat} {tk : Nat → Int} (h : ∀ (j : Nat) (x : Nd), j < i → (ndL f)[j]? = some x → x.ck.2.2 = 0 ∧ x.ck.1 = tk j) : ∀ j k, j < i → (cks f)[j]? = some k → k.1.2.2 = 0 ∧ k.1.1 = tk j := by
  intro j k hj hk
  have hlt : j < (ndL f).length := by
    rw [ndL_len, ← cks_len]
    rcases Nat.lt_or_ge j (cks f).length with q | q
    · exact q
    · rw [List.getElem?_eq_none q] at hk
      cases hk
  have hx : (ndL f)[j]? = some ((ndL f)[j]) := List.getElem?_eq_getElem hlt
  have := cks_at hx
  rw [hk] at this
  obtain rfl := Option.some.inj this
  exact h j _ hj hx

set_option maxHeartbeats 3200000 in
set_option maxRecDepth 100000 in
theorem of_any (f : FR) (hft : f.takes.length ≤ 2) (nk : Fo) (hne : f.takes ≠ [] ∨ len nk = 0) (Q : Nat → Prop) (hI : ∀ (i : Nat) (x : Nd), (ndL nk)[i]? = some x → CkI Q x) (v : FvV) (ka : Option Addr) (kl kc : Nat) (us : List NV) (hk : kl ≤ 100000) (hkc : kl ≤ kc) (w : World) (hf : Fns w) (hv : FvAt w v f) (hr : RdG encN w ka us) (hn : NdsIn Q w us (ndL nk)) (hu : us.length = kl) :
    Calls Tryz.prog 24 #[.agg v.cells.toArray, .slice ka kl kc] w fun e w' => e = .returned (ckV (over f.at f.comes 0 (cks nk))) ∧ Below w.heap.size w w' := by
  have hlen := hn.len
  rw [hu] at hlen
  have hnl : len nk = kl := by rw [← ndL_len]; omega
  have hco : v.comes = f.comes := hv.comes
  obtain ⟨na, nl, nc, ta, tl, tc, least, most, comes⟩ := v
  simp only at hco
  obtain ⟨W0, m0, hW0, hm0, hx0, bW0, c0, hB0, hlt0⟩ := lay5 (Below.refl _ w) (Nat.le_refl _) 36 (.slice na nl nc) (.slice ta tl tc) (.int .i64 least) (.int .i64 most) (.int .i64 comes)
  have H : Hid (RdG encN w ka us ∧ NdsIn Q w us (ndL nk) ∧ us.length = kl ∧ kl = (ndL nk).length ∧ Fns w ∧ FvAt w ⟨na, nl, nc, ta, tl, tc, least, most, comes⟩ f ∧ (f.takes ≠ [] ∨ kl = 0) ∧ Below w.heap.size w W0 ∧ comes = f.comes ∧ w.heap.size ≤ W0.heap.size) := ⟨hr, hn, hu, hlen, hf, hv, by rw [← hnl]; exact hne, bW0, hco, bW0.size⟩
  have HX : Hid (Box5 W0 m0 36 (.slice na nl nc) (.slice ta tl tc) (.int .i64 least) (.int .i64 most) (.int .i64 comes)) := hx0
  have HI : Hid (∀ (i : Nat) (x : Nd), (ndL nk)[i]? = some x → CkI Q x) := hI
  clear hr hn hu hlen hf hv hne hI hx0 bW0 c0 hco hnl
  obtain ⟨R, hR⟩ : ∃ R, over f.at f.comes 0 (cks nk) = R := ⟨_, rfl⟩
  rw [hR]
  have HR : Hid (over f.at f.comes 0 (cks nk) = R) := hR
  clear hR
  simp only [FvV.cells]
  go_enter Tryz.func24, Tryz.ntmps24
  go_upto_region 1 with fail
  clear hW0 hm0
  go_wp2_with fail
  go_loopg [14] kl (fun g iv wr => ∃ (i : Nat), iv = .int .i64 i ∧ i + g = kl ∧ Hid (Below W0.heap.size W0 wr ∧ ∀ (j : Nat) (x : Nd), j < i → (ndL nk)[j]? = some x → x.ck.2.2 = 0 ∧ x.ck.1 = f.at j))
  case atStart => exact ⟨0, rfl, by omega, Below.refl _ _, fun j x q => absurd q (Nat.not_lt_zero j)⟩
  case round =>
    obtain ⟨i, rfl, hi, HB⟩ := hrel
    obtain ⟨s0, s1, s2, s3, s4⟩ := (HX.out.below HB.out.1).cells
    by_cases hin : i < kl
    · have hii : (i : Int) < (kl : Int) := by omega
      obtain ⟨x, hx⟩ : ∃ x, (ndL nk)[i]? = some x := ⟨_, List.getElem?_eq_getElem (by have := H.out.2.2.2.1; omega)⟩
      obtain ⟨kv, hkv, hkn⟩ := H.out.2.1.get hx
      have hBw : Below w.heap.size w wr := H.out.2.2.2.2.2.2.2.1.trans (HB.out.1.mono H.out.2.2.2.2.2.2.2.2.2)
      have hrd := H.out.1.below hBw
      obtain ⟨kb, koff, rfl, hklt⟩ := hrd.some_of hkv
      obtain ⟨k0, k1, k2, k3, k4, k5⟩ := hrd.node hkv
      have hkp : kv.pos = x.pos := hkn.pos
      obtain ⟨ko, kt, kn, ki, ka, kkl, kkc, kp⟩ := kv
      obtain ⟨W1, m1, hW1, hm1, hx1, bW1, c1, hB1, hlt1⟩ := lay6 HB.out.1 HB.out.1.size 50 (.int .i64 ko) (.string ⟨kt.toArray⟩) (.int .i64 kn) (.int .u64 ki) (.slice ka kkl kkc) (.int .i64 kp)
      have hBw1 : Below w.heap.size w W1 := H.out.2.2.2.2.2.2.2.1.trans (bW1.mono H.out.2.2.2.2.2.2.2.2.2)
      have hc := HI.out i x hx W1 ⟨ko, kt, kn, ki, ka, kkl, kkc, kp⟩ (H.out.2.2.2.2.1.below hBw1) ((hkn.below hBw).below c1)
      obtain ⟨⟨rt, ra, re⟩, hck⟩ : ∃ r, x.ck = r := ⟨_, rfl⟩
      rw [hck] at hc
      have HK : Hid ((cks nk)[i]? = some ((rt, ra, re), kp) ∧ (ndL nk)[i]? = some x ∧ x.ck = (rt, ra, re)) := ⟨by have := cks_at hx; rw [hck] at this; simp only at hkp; rw [this, hkp], hx, hck⟩
      obtain ⟨e0, e1, e2, e3, e4, e5⟩ := hx1.cells
      have H1 : Hid (Below W0.heap.size W0 W1 ∧ Box6 W1 m1 50 (.int .i64 ko) (.string ⟨kt.toArray⟩) (.int .i64 kn) (.int .u64 ki) (.slice ka kkl kkc) (.int .i64 kp)) := ⟨bW1, hx1⟩
      have HC : Hid (Calls Tryz.prog 17 #[.agg #[.int .i64 ko, .string ⟨kt.toArray⟩, .int .i64 kn, .int .u64 ki, .slice ka kkl kkc, .int .i64 kp]] W1 fun e w' => e = .returned (ckV (rt, ra, re)) ∧ Below W1.heap.size W1 w') := hc
      simp only at k0 k1 k2 k3 k4 k5
      clear hc hck hx hkv hkn hrd hkp hx1 bW1 c1 hBw hBw1
      go_upto_region 4 with fail
      clear hW1 hm1 k0 k1 k2 k3 k4 k5
      by_cases hre : re = 0
      · subst hre
        have htk : f.takes ≠ [] := by
          rcases H.out.2.2.2.2.2.2.1 with q | q
          · exact q
          · omega
        have HT : Hid (∀ u, Below w.heap.size w u → Calls Tryz.prog 13 #[.agg #[.slice na nl nc, .slice ta tl tc, .int .i64 least, .int .i64 most, .int .i64 comes], .int .i64 i] u fun e w' => e = .returned (.int .i64 (f.at i)) ∧ Below u.heap.size u w') :=
          fun u hu => takesAt_any ⟨na, nl, nc, ta, tl, tc, least, most, comes⟩ f i (by omega) htk u (H.out.2.2.2.2.2.1.below hu) (by omega)
        clear htk
        obtain ⟨g, hg⟩ : ∃ g, f.at i = g := ⟨_, rfl⟩
        rw [hg] at HT
        have HG : Hid (f.at i = g) := hg
        clear hg
        by_cases hrt : rt = g
        · subst hrt
          go_wp2_with (first
            | (go_at_call 17; refine HC.out.mono ?_; rintro e w2 ⟨rfl, b2⟩; have B2 : Hid (Below W0.heap.size W0 w2) := H1.out.1.trans (b2.mono H1.out.1.size); clear b2; obtain ⟨t0, t1, t2, t3, t4⟩ := (HX.out.below B2.out).cells; simp only [ckV])
            | (go_at_call 13; refine (HT.out _ (H.out.2.2.2.2.2.2.2.1.trans (B2.out.mono H.out.2.2.2.2.2.2.2.2.2))).mono ?_; rintro e w3 ⟨rfl, b3⟩; have B3 : Hid (Below W0.heap.size W0 w3) := B2.out.trans (b3.mono B2.out.size); clear b3))
          go_roundg (gk - 1)
          case measure => omega
          case rel => exact ⟨i + 1, by go_num, by omega, B3.out, fun j x hj hx => by
            rcases Nat.lt_or_ge j i with q | q
            · exact HB.out.2 j x q hx
            · obtain rfl : j = i := by omega
              have := HK.out.2.1
              rw [hx] at this
              obtain rfl := Option.some.inj this
              rw [HK.out.2.2, HG.out]
              exact ⟨rfl, rfl⟩⟩
        · have hne : (rt == g) = false := by rw [beq_eq_false_iff_ne]; exact hrt
          go_wp2_with (first
            | (go_at_call 17; refine HC.out.mono ?_; rintro e w2 ⟨rfl, b2⟩; have B2 : Hid (Below W0.heap.size W0 w2) := H1.out.1.trans (b2.mono H1.out.1.size); obtain ⟨y0, y1, y2, y3, y4, y5⟩ := (H1.out.2.below b2).cells; have HY : Hid (Box6 w2 m1 50 (.int .i64 ko) (.string ⟨kt.toArray⟩) (.int .i64 kn) (.int .u64 ki) (.slice ka kkl kkc) (.int .i64 kp)) := H1.out.2.below b2; clear b2; obtain ⟨t0, t1, t2, t3, t4⟩ := (HX.out.below B2.out).cells; simp only [ckV])
            | (go_at_call 13; refine (HT.out _ (H.out.2.2.2.2.2.2.2.1.trans (B2.out.mono H.out.2.2.2.2.2.2.2.2.2))).mono ?_; rintro e w3 ⟨rfl, b3⟩; have B3 : Hid (Below W0.heap.size W0 w3) := B2.out.trans (b3.mono B2.out.size); obtain ⟨z0, z1, z2, z3, z4, z5⟩ := (HY.out.below b3).cells; clear b3))
          refine bodyPost_ret (results_tmp3 rfl _ _ _) rfl ?_
          refine ⟨?_, H.out.2.2.2.2.2.2.2.1.trans (B3.out.mono H.out.2.2.2.2.2.2.2.2.2)⟩
          rw [← HR.out, over_bad f.at f.comes (cks nk) i (cks_before HB.out.2) HK.out.1 rfl (by rw [HG.out]; exact hrt)]
          rfl
      · have hre1 : (re == 0) = false := by rw [beq_eq_false_iff_ne]; exact hre
        go_wp2_with (go_at_call 17; refine HC.out.mono ?_; rintro e w2 ⟨rfl, b2⟩; have B2 : Hid (Below W0.heap.size W0 w2) := H1.out.1.trans (b2.mono H1.out.1.size); clear b2; simp only [ckV])
        refine bodyPost_ret (results_tmp3 rfl _ _ _) rfl ?_
        refine ⟨?_, H.out.2.2.2.2.2.2.2.1.trans (B2.out.mono H.out.2.2.2.2.2.2.2.2.2)⟩
        rw [← HR.out, over_err f.at f.comes (cks nk) i (cks_before HB.out.2) HK.out.1 hre]
        rfl
    · obtain rfl : i = kl := by omega
      clear hi hin
      go_wp2_with fail
      refine bodyPost_ret (results_tmp3 rfl _ _ _) rfl ?_
      refine ⟨?_, H.out.2.2.2.2.2.2.2.1.trans (HB.out.1.mono H.out.2.2.2.2.2.2.2.2.2)⟩
      rw [← HR.out, over_end f.at f.comes (cks nk) (fun j k hk => cks_before (f := nk) (i := i) HB.out.2 j k (by
        have := cks_len nk
        rw [← ndL_len, ← H.out.2.2.2.1] at this
        rcases Nat.lt_or_ge j (cks nk).length with q | q
        · omega
        · rw [List.getElem?_eq_none q] at hk
          cases hk) hk), ← H.out.2.2.2.2.2.2.2.2.1]
      rfl

/-- What the signs take. -/
def frS : FR := ⟨[], [1], 0, 0, 1⟩
theorem frS_at : frS.at = fun _ => 1 := by
  funext i
  show ((([1] : List Int)[min i 0]?).getD 0) = 1
  rw [Nat.min_zero]
  rfl
theorem frS_lies (w : World) (t : TypeId) : FvAt (w.alloc (.cells #[.int .i64 1] t)) ⟨none, 0, 0, some ⟨w.heap.size, 0, none⟩, 1, 1, 0, 0, 1⟩ frS :=
  ⟨rd_len0 rfl, rfl, Nat.le_refl _, rdG_new encI w [1] t _ rfl, rfl, Nat.le_refl _, rfl, rfl, rfl⟩

theorem takes_or {name : Bs} {n : Nat} {fr : FR} (hm : fr ∈ ftab) (h : fgo name n ftab = (fr, 0)) : fr.takes ≠ [] ∨ n = 0 := by
  have hl := fgo_fits name n ftab (by rw [h])
  rw [h] at hl
  simp only [ftab, List.mem_cons, List.not_mem_nil, or_false] at hm
  rcases hm with rfl | rfl | rfl | rfl | rfl | rfl | rfl | rfl
  · right
    simp only [fT0] at hl
    omega
  all_goals exact .inl (by decide)

set_option maxHeartbeats 3200000 in
set_option maxRecDepth 100000 in
theorem tcheck_any (nd : Nd) : nd.sz ≤ 100000 → ∀ (Q : Nat → Prop) (w : World) (v : NV), Fns w → NdIn Q w v nd → Calls Tryz.prog 17 #[v.val] w fun e w' => e = .returned (ckV nd.ck) ∧ Below w.heap.size w w' := by
  induction nd using Nd.ind with
  | h nd ih =>
    intro hsz Q w v hf hv
    obtain ⟨us, hrd, _, hns, hul⟩ := hv.rows
    have hlen := hns.len
    rw [hul] at hlen
    have hkc := hv.kc
    have hl1 : v.kl ≤ 100000 := by
      have := len_sz nd.kids
      have := hv.kl
      simp only [Nd.sz] at hsz
      omega
    have hih : ∀ (i : Nat) (x : Nd), (ndL nd.kids)[i]? = some x → CkI Q x := by
      intro i x hx u kv hfu hk
      have hm := List.mem_of_getElem? hx
      exact ih x hm (by have := ndL_sz _ x hm; simp only [Nd.sz] at hsz ⊢; simp only [Nd.sz] at this; omega) Q u kv hfu hk
    obtain ⟨no, nt, nn, ni, nk, np⟩ := nd
    obtain ⟨vo, vt, vn, vi, va, vl, vc, vp⟩ := v
    obtain rfl : vo = no := hv.op
    obtain rfl : vt = nt := hv.text
    obtain rfl : vn = nn := hv.num
    obtain rfl : vi = ni := hv.id
    obtain rfl : vp = np := hv.pos
    have hkl : vl = len nk := hv.kl
    obtain ⟨W1, m1, hW1, hm1, hx1, bW1, c1, hB1, hlt1⟩ := lay6 (Below.refl _ w) (Nat.le_refl _) 50 (.int .i64 vo) (.string ⟨vt.toArray⟩) (.int .i64 vn) (.int .u64 vi) (.slice va vl vc) (.int .i64 vp)
    obtain ⟨s0, s1, s2, s3, s4, s5⟩ := hx1.cells
    obtain ⟨R, hR⟩ : ∃ R, Nd.ck ⟨vo, vt, vn, vi, nk, vp⟩ = R := ⟨_, rfl⟩
    rw [hR]
    have HR : Hid (ck1 vo vt vp (cks nk) = R) := hR
    have H : Hid (RdG encN w va us ∧ NdsIn Q w us (ndL nk) ∧ us.length = vl ∧ vl = len nk ∧ Fns w ∧ Below w.heap.size w W1 ∧ w.heap.size ≤ W1.heap.size ∧ Box6 W1 m1 50 (.int .i64 vo) (.string ⟨vt.toArray⟩) (.int .i64 vn) (.int .u64 vi) (.slice va vl vc) (.int .i64 vp)) := ⟨hrd, hns, hul, hkl, hf, bW1, bW1.size, hx1⟩
    have HI : Hid (∀ (i : Nat) (x : Nd), (ndL nk)[i]? = some x → CkI Q x) := hih
    simp only at hl1 hkc ⊢
    clear hrd hns hul hih ih hv hlen hsz hkl hf hx1 bW1 hR
    go_enter Tryz.func17, Tryz.ntmps17
    go_upto_region 1 with fail
    clear hW1 hm1
    by_cases h3 : vo = 3
    · have k3 : (vo == 3) = true := by simpa using h3
      have HE : Hid (R = (2, 0, 0)) := by show R = _; rw [← HR.out, ck1, if_pos h3]
      clear h3
      go_wp2_with fail
      refine bodyPost_ret (results_tmp3 rfl _ _ _) rfl ?_
      exact ⟨by rw [HE.out]; rfl, H.out.2.2.2.2.2.1⟩
    have k3 : (vo == 3) = false := by rw [beq_eq_false_iff_ne]; exact h3
    by_cases h4 : vo = 4
    · have k4 : (vo == 4) = true := by simpa using h4
      have HE : Hid (R = (3, 0, 0)) := by show R = _; rw [← HR.out, ck1, if_neg h3, if_pos h4]
      clear h3 h4
      go_wp2_with fail
      refine bodyPost_ret (results_tmp3 rfl _ _ _) rfl ?_
      exact ⟨by rw [HE.out]; rfl, H.out.2.2.2.2.2.1⟩
    have k4 : (vo == 4) = false := by rw [beq_eq_false_iff_ne]; exact h4
    by_cases h5 : vo = 5
    · have k5 : (vo == 5) = true := by simpa using h5
      have HF : Hid (∀ u, Below w.heap.size w u → Calls Tryz.prog 12 _ _ _) := fun u hu => find_any vt vl u (H.out.2.2.2.2.1.below hu)
      obtain ⟨⟨fr, er⟩, hfe⟩ : ∃ r, fgo vt vl ftab = r := ⟨_, rfl⟩
      rw [hfe] at HF
      by_cases he : er = 0
      · subst he
        have hmem : fr ∈ ftab := by
          have := fgo_mem vt vl ftab (by rw [hfe])
          rwa [hfe] at this
        have hsm := ftab_small fr hmem
        have HE : Hid (R = over fr.at fr.comes 0 (cks nk)) := by
          show R = _
          rw [← HR.out, ck1, if_neg h3, if_neg h4, if_pos h5, cks_len, ← H.out.2.2.2.1, hfe, if_neg (by simp)]
        have HZ : Hid (fr.takes.length ≤ 2 ∧ (fr.takes ≠ [] ∨ len nk = 0)) := by
          refine ⟨hsm.2, ?_⟩
          rw [← H.out.2.2.2.1]
          exact takes_or hmem hfe
        clear h3 h4 h5 hmem hsm hfe
        go_upto_region 7 with fail
        go_wp2_with (first
          | (go_at_call 12; refine (HF.out _ H.out.2.2.2.2.2.1).mono ?_; rintro e w2 ⟨⟨na, nl, nc, ta, tl, tc, least, most, comes⟩, rfl, hfv, b2⟩; simp only [FvV.cells]; have B2 : Hid (FvAt w2 ⟨na, nl, nc, ta, tl, tc, least, most, comes⟩ fr ∧ Below w.heap.size w w2 ∧ Box6 w2 m1 50 (.int .i64 vo) (.string ⟨vt.toArray⟩) (.int .i64 vn) (.int .u64 vi) (.slice va vl vc) (.int .i64 vp)) := ⟨hfv rfl, H.out.2.2.2.2.2.1.trans (b2.mono H.out.2.2.2.2.2.2.1), H.out.2.2.2.2.2.2.2.below b2⟩; clear hfv b2; obtain ⟨W3, m3, hW3, hm3, hx3, bW3, c3, hB3, hlt3⟩ := lay5 B2.out.2.1 B2.out.2.1.size 36 (.slice na nl nc) (.slice ta tl tc) (.int .i64 least) (.int .i64 most) (.int .i64 comes); obtain ⟨x0, x1, x2, x3, x4⟩ := hx3.cells; obtain ⟨y0, y1, y2, y3, y4, y5⟩ := (B2.out.2.2.below c3).cells; have B3 : Hid (FvAt W3 ⟨na, nl, nc, ta, tl, tc, least, most, comes⟩ fr ∧ Below w.heap.size w W3) := ⟨B2.out.1.below c3, bW3⟩; clear hx3 bW3 c3)
          | (go_at_call 24; refine (of_any fr HZ.out.1 nk HZ.out.2 Q HI.out ⟨na, nl, nc, ta, tl, tc, least, most, comes⟩ va vl vc us hl1 hkc _ (H.out.2.2.2.2.1.below B3.out.2) B3.out.1 (H.out.1.below B3.out.2) (H.out.2.1.stays B3.out.2) H.out.2.2.1).mono ?_; rintro e w4 ⟨rfl, b4⟩; simp only [ckV]))
        refine bodyPost_ret (results_tmp3 rfl _ _ _) rfl ?_
        exact ⟨by rw [HE.out]; rfl, B3.out.2.trans (b4.mono B3.out.2.size)⟩
      · have HE : Hid (R = (0, vp, er)) := by
          show R = _
          rw [← HR.out, ck1, if_neg h3, if_neg h4, if_pos h5, cks_len, ← H.out.2.2.2.1, hfe, if_pos (by simpa using he)]
        have he1 : (er == 0) = false := by rw [beq_eq_false_iff_ne]; exact he
        clear h3 h4 h5 hfe
        go_upto_region 7 with fail
        go_wp2_with (go_at_call 12; refine (HF.out _ H.out.2.2.2.2.2.1).mono ?_; rintro e w2 ⟨⟨na, nl, nc, ta, tl, tc, least, most, comes⟩, rfl, hfv, b2⟩; simp only [FvV.cells]; have B2 : Hid (Below w.heap.size w w2 ∧ Box6 w2 m1 50 (.int .i64 vo) (.string ⟨vt.toArray⟩) (.int .i64 vn) (.int .u64 vi) (.slice va vl vc) (.int .i64 vp)) := ⟨H.out.2.2.2.2.2.1.trans (b2.mono H.out.2.2.2.2.2.2.1), H.out.2.2.2.2.2.2.2.below b2⟩; clear hfv b2; obtain ⟨W3, m3, hW3, hm3, hx3, bW3, c3, hB3, hlt3⟩ := lay5 B2.out.1 B2.out.1.size 36 (.slice na nl nc) (.slice ta tl tc) (.int .i64 least) (.int .i64 most) (.int .i64 comes); obtain ⟨y0, y1, y2, y3, y4, y5⟩ := (B2.out.2.below c3).cells; have B3 : Hid (Below w.heap.size w W3) := bW3; clear hx3 bW3 c3)
        all_goals go_quiet (fail)
        all_goals go_wp2
        all_goals refine bodyPost_ret (results_tmp3 rfl _ _ _) rfl ?_
        exact ⟨by rw [HE.out]; rfl, B3.out.trans ((belowD W3 _).mono B3.out.size)⟩
    · have k5 : (vo == 5) = false := by rw [beq_eq_false_iff_ne]; exact h5
      have HE : Hid (R = over frS.at 1 0 (cks nk)) := by
        show R = _
        rw [← HR.out, ck1, if_neg h3, if_neg h4, if_neg h5, frS_at]
      clear h3 h4 h5
      have hfr := frS_lies W1 25
      obtain ⟨W3, m3, hW3, hm3, bW3, hs3⟩ := layR W1 25 #[.int .i64 1]
      rw [hm3, hW3] at hfr
      obtain ⟨y0, y1, y2, y3, y4, y5⟩ := (H.out.2.2.2.2.2.2.2.below bW3).cells
      have B3 : Hid (FvAt W3 ⟨none, 0, 0, some ⟨m3, 0, none⟩, 1, 1, 0, 0, 1⟩ frS ∧ Below w.heap.size w W3) := ⟨hfr, H.out.2.2.2.2.2.1.trans (bW3.mono H.out.2.2.2.2.2.2.1)⟩
      clear hfr bW3
      go_wp2_with (go_at_call 24; refine (of_any frS (by decide) nk (.inl (by decide)) Q HI.out ⟨none, 0, 0, some ⟨m3, 0, none⟩, 1, 1, 0, 0, 1⟩ va vl vc us hl1 hkc _ (H.out.2.2.2.2.1.below B3.out.2) B3.out.1 (H.out.1.below B3.out.2) (H.out.2.1.stays B3.out.2) H.out.2.2.1).mono ?_; rintro e w4 ⟨rfl, b4⟩; simp only [ckV])
      refine bodyPost_ret (results_tmp3 rfl _ _ _) rfl ?_
      exact ⟨by rw [HE.out]; rfl, B3.out.2.trans (b4.mono B3.out.2.size)⟩

end Go.Proofs.YtdgdckmhmmigkaaGreatDoor
