/-
  The law ObjectBack, walked: of any entries, any commit and any bytes it returns true, and what was there is as it was. No condition but that what is handed in is no longer than any memory holds.
-/
import Derived.Test.YtadjcmekpcimjaaTreesLaw
import Derived.Deep.DeepCutAuto
namespace Go.Proofs.Ytadjcmekpcimjaa
open Go.RowKit

/-- The cells of two commits. -/
def Two (A D : Nat) (t1 : Int) (p1 : Value) (d1 : Int) (n1 : ByteArray) (t2 : Int) (p2 : Value) (d2 : Int) (n2 : ByteArray) (u : World) : Prop :=
  Box4 u A 44 (.int .u64 t1) p1 (.int .i64 d1) (.string n1) ∧ Box4 u D 44 (.int .u64 t2) p2 (.int .i64 d2) (.string n2)
theorem Two.cells {A D : Nat} {t1 : Int} {p1 : Value} {d1 : Int} {n1 : ByteArray} {t2 : Int} {p2 : Value} {d2 : Int} {n2 : ByteArray} {u : World} (h : Two A D t1 p1 d1 n1 t2 p2 d2 n2 u) :
    u.cell? ⟨A, 0, none⟩ = some (.int .u64 t1) ∧ u.cell? ⟨A, 1, none⟩ = some p1 ∧ u.cell? ⟨A, 2, none⟩ = some (.int .i64 d1) ∧ u.cell? ⟨A, 3, none⟩ = some (.string n1) ∧
    u.cell? ⟨D, 0, none⟩ = some (.int .u64 t2) ∧ u.cell? ⟨D, 1, none⟩ = some p2 ∧ u.cell? ⟨D, 2, none⟩ = some (.int .i64 d2) ∧ u.cell? ⟨D, 3, none⟩ = some (.string n2) :=
  ⟨h.1.cells.1, h.1.cells.2.1, h.1.cells.2.2.1, h.1.cells.2.2.2, h.2.cells.1, h.2.cells.2.1, h.2.cells.2.2.1, h.2.cells.2.2.2⟩
theorem Two.below {A D : Nat} {t1 : Int} {p1 : Value} {d1 : Int} {n1 : ByteArray} {t2 : Int} {p2 : Value} {d2 : Int} {n2 : ByteArray} {u u' : World} (h : Two A D t1 p1 d1 n1 t2 p2 d2 n2 u) (hb : Below u.heap.size u u') : Two A D t1 p1 d1 n1 t2 p2 d2 n2 u' :=
  ⟨h.1.below hb h.1.lt, h.2.below hb h.2.lt⟩

set_option maxHeartbeats 6400000 in
set_option maxRecDepth 100000 in
theorem back_walk (ea : Option Addr) (n c : Nat) (es : List En) (cc : Cm) (pa : Option Addr) (pn pk : Nat) (ba : Option Addr) (bn bc : Nat) (bs : Bs) (W : World) (hr : RdG encE W ea es) (hl : es.length = n) (hf : Fine es) (hc : n ≤ c) (hn : n * 24 ≤ 140737488355328)
    (pr : RdG encU W pa cc.ps) (pl : cc.ps.length = pn) (pm : pn ≤ pk) (po : pn * 8 ≤ 140737488355328) (hb : BAt W (.slice ba bn bc) bs) (hbl : bs.length = bn) :
    Calls Try.prog 5 #[.slice ea n c, .agg #[.int .u64 (cc.tree.toNat : Int), .slice pa pn pk, .int .i64 cc.date, tx cc.note], .slice ba bn bc] W fun e w' => e = .returned (.bool true) ∧ Below W.heap.size W w' := by
  obtain ⟨nt, hnt⟩ : ∃ nt : ByteArray, nt = ⟨cc.note.toArray⟩ := ⟨_, rfl⟩
  obtain ⟨dt, hdt⟩ : ∃ dt, cc.date = dt := ⟨_, rfl⟩
  obtain ⟨s, hs⟩ : ∃ s : ByteArray, s = ⟨bs.toArray⟩ := ⟨_, rfl⟩
  rw [show tx cc.note = .string nt by rw [hnt], hdt]
  have H : Hid (RdG encE W ea es ∧ es.length = n ∧ Fine es ∧ n ≤ c ∧ BAt W (.slice ba bn bc) bs ∧ bs.length = bn) := ⟨hr, hl, hf, hc, hb, hbl⟩
  have HC : Hid (RdG encU W pa cc.ps ∧ cc.ps.length = pn ∧ pn ≤ pk ∧ nt = ⟨cc.note.toArray⟩ ∧ cc.date = dt ∧ s = ⟨bs.toArray⟩) := ⟨pr, pl, pm, hnt, hdt, hs⟩
  obtain ⟨W1, hW1⟩ : ∃ W1, W.alloc (.cells #[.int .u64 (cc.tree.toNat : Int), .slice pa pn pk, .int .i64 dt, .string nt] 44) = W1 := ⟨_, rfl⟩
  have HW : Hid (Below W.heap.size W W1 ∧ Box4 W1 W.heap.size 44 (.int .u64 (cc.tree.toNat : Int)) (.slice pa pn pk) (.int .i64 dt) (.string nt) ∧ W1.heap.size = W.heap.size + 1) := by
    rw [← hW1]
    exact ⟨bz1 _ _, Box4.new _ _ _ _ _ _, by simp⟩
  clear hr hl hf hc hb hbl pr pl pm hnt hdt hs
  go_enter Try.func5, Try.ntmps5
  go_wp2_with fail
  refine (awake_walk W1).mono ?_
  rintro e w0 ⟨rfl, B0⟩
  have P0 : Hid (Below W1.heap.size W1 w0) := B0
  clear B0
  have bw : ∀ u, Below W1.heap.size W1 u → Below W.heap.size W u := fun u hu => HW.out.1.trans (hu.mono HW.out.1.size)
  have BW : Hid (∀ u, Below W1.heap.size W1 u → Below W.heap.size W u) := bw
  clear bw
  -- the tree
  have h1 := tree_any (c := c) w0 (H.out.1.below (BW.out _ P0.out)) H.out.2.1 H.out.2.2.1 H.out.2.2.2.1
  obtain ⟨fe, hfe⟩ : ∃ fe, (ftree es).2 = fe := ⟨_, rfl⟩
  obtain ⟨fb, hfb⟩ : ∃ fb, (ftree es).1 = fb := ⟨_, rfl⟩
  rw [hfe, hfb] at h1
  have HF : Hid ((ftree es).2 = fe ∧ (ftree es).1 = fb) := ⟨hfe, hfb⟩
  clear hfe hfb
  go_wp2_with fail
  refine h1.mono ?_
  rintro e w1 ⟨v1, rfl, J1⟩
  clear h1
  obtain ⟨n1, hn1⟩ : ∃ n1, fb.length = n1 := ⟨_, rfl⟩
  obtain ⟨a1, c1, rfl, _, _⟩ := J1.out.1.whole hn1
  have P1 : Hid (Below W1.heap.size W1 w1 ∧ BAt w1 (.slice a1 n1 c1) fb ∧ fb.length = n1) := ⟨P0.out.trans (J1.out.2.mono P0.out.size), OwnB.at (OwnG.low J1.out.1 (Nat.zero_le _)), hn1⟩
  clear J1 hn1
  go_upto_if 31 with fail
  go_cut [] (fun u => Hid (Below W1.heap.size W1 u))
  case first =>
    by_cases hf0 : fe = 0
    · subst hf0
      have hrt : RT fb es 0 := by
        have := ftree_rt HF.out.1
        rw [HF.out.2] at this
        exact this
      have h2 := readTree_any w1 P1.out.2.1 P1.out.2.2
      have HRT : Hid (RT fb es 0) := hrt
      clear hrt
      go_wp2_with fail
      refine h2.mono ?_
      rintro e w2 ⟨rs, re, v2, rfl, J2⟩
      clear h2
      obtain ⟨rfl, rfl⟩ := HRT.out.uniq J2.out.1
      obtain ⟨a2, c2, rfl, _, r2⟩ := J2.out.2.1.whole H.out.2.1
      have P2 : Hid (Below W1.heap.size W1 w2) := P1.out.1.trans (J2.out.2.2.mono P1.out.1.size)
      have h3 := entries_any (c := c2) w2 r2 H.out.2.1 hn
      clear J2 r2
      go_wp2_with fail
      refine h3.mono ?_
      rintro e w3 ⟨v3, rfl, J3⟩
      clear h3
      obtain ⟨a3, c3, rfl, _, r3⟩ := J3.out.1.whole H.out.2.1
      have P3 : Hid (Below W1.heap.size W1 w3 ∧ RdG encE w3 a3 es) := ⟨P2.out.trans (J3.out.2.mono P2.out.size), r3⟩
      have h4 := entries_any (c := c) w3 (H.out.1.below (BW.out _ P3.out.1)) H.out.2.1 hn
      clear J3 r3
      go_wp2_with fail
      refine h4.mono ?_
      rintro e w4 ⟨v4, rfl, J4⟩
      clear h4
      obtain ⟨a4, c4, rfl, _, r4⟩ := J4.out.1.whole H.out.2.1
      have P4 : Hid (Below W1.heap.size W1 w4) := P3.out.1.trans (J4.out.2.mono P3.out.1.size)
      have h5 := sameTree_any (c := c3) (c2 := c4) w4 (P3.out.2.below J4.out.2) r4 H.out.2.1 (by omega)
      clear J4 r4
      go_wp2_with fail
      refine h5.mono ?_
      rintro e w5 ⟨rfl, B5⟩
      have P5 : Hid (Below W1.heap.size W1 w5) := P4.out.trans (B5.mono P4.out.size)
      clear h5 B5
      go_wp2_with fail
      go_meet
      exact P5.out
    · have m0 : (fe == 0) = false := by simpa using hf0
      go_wp2_with fail
      go_meet
      exact P1.out.1
  case rest =>
    have Q0 : Hid (Below W1.heap.size W1 wc) := hcut
    obtain ⟨wA, hwA⟩ : ∃ wA, wA = wc := ⟨_, rfl⟩
    rw [← hwA] at Q0 ⊢
    clear hwA hcut P0 P1 HF wc
    -- the commit
    obtain ⟨x0, x1, x2, x3⟩ := (HW.out.2.1.below Q0.out (by have := HW.out.2.2; omega)).cells
    have h1 := com_any (w := wA) (c := cc) (pc := pk) (HC.out.1.below (BW.out _ Q0.out)) HC.out.2.1 HC.out.2.2.1 nt HC.out.2.2.2.1 dt HC.out.2.2.2.2.1
    obtain ⟨ge, hge⟩ : ∃ ge, (fcom cc).2 = ge := ⟨_, rfl⟩
    obtain ⟨gb, hgb⟩ : ∃ gb, (fcom cc).1 = gb := ⟨_, rfl⟩
    rw [hge, hgb] at h1
    have HG : Hid ((fcom cc).2 = ge ∧ (fcom cc).1 = gb) := ⟨hge, hgb⟩
    clear hge hgb
    go_wp2_with fail
    refine h1.mono ?_
    rintro e w6 ⟨v6, rfl, J6⟩
    clear h1 x0 x1 x2 x3
    obtain ⟨n6, hn6⟩ : ∃ n6, gb.length = n6 := ⟨_, rfl⟩
    obtain ⟨a6, c6, rfl, _, _⟩ := J6.out.1.whole hn6
    have P6 : Hid (Below W1.heap.size W1 w6 ∧ BAt w6 (.slice a6 n6 c6) gb ∧ gb.length = n6) := ⟨Q0.out.trans (J6.out.2.mono Q0.out.size), OwnB.at (OwnG.low J6.out.1 (Nat.zero_le _)), hn6⟩
    clear J6 hn6
    go_upto_if 53 with fail
    go_cut [] (fun u => Hid (Below W1.heap.size W1 u))
    case first =>
      by_cases hg0 : ge = 0
      · subst hg0
        have hrc : RC gb cc 0 := by
          have := fcom_rc HG.out.1
          rw [HG.out.2] at this
          exact this
        have h2 := readCom_any w6 P6.out.2.1 P6.out.2.2
        have HRC : Hid (RC gb cc 0) := hrc
        clear hrc
        go_wp2_with fail
        refine h2.mono ?_
        rintro e w7 ⟨c7, re, a7, k7, rfl, J7⟩
        clear h2
        obtain ⟨rfl, rfl⟩ := HRC.out.uniq J7.out.1
        rw [HC.out.2.1, HC.out.2.2.2.2.1, show tx cc.note = .string nt by rw [HC.out.2.2.2.1]]
        have P7 : Hid (Below W1.heap.size W1 w7 ∧ RdG encU w7 a7 cc.ps) := ⟨P6.out.1.trans (J7.out.2.2.2.mono P6.out.1.size), J7.out.2.1⟩
        clear J7
        go_upto_region 11 with fail
        obtain ⟨w8, hw8⟩ : ∃ w8, w7.alloc (.cells #[.int .u64 (cc.tree.toNat : Int), .slice a7 pn k7, .int .i64 dt, .string nt] 44) = w8 := ⟨_, rfl⟩
        have P8 : Hid (Below W1.heap.size W1 w8 ∧ RdG encU w8 a7 cc.ps ∧ Two W.heap.size w7.heap.size (cc.tree.toNat : Int) (.slice pa pn pk) dt nt (cc.tree.toNat : Int) (.slice a7 pn k7) dt nt w8) := by
          rw [← hw8]
          refine ⟨P7.out.1.trans ((bz1 w7 _).mono P7.out.1.size), P7.out.2.below (bz1 w7 _), (HW.out.2.1.below P7.out.1 (by have := HW.out.2.2; omega)).below (bz1 w7 _) ?_, Box4.new _ _ _ _ _ _⟩
          have h1 := HW.out.2.2
          have h2 := P7.out.1.size
          omega
        obtain ⟨D, hD⟩ : ∃ D, w7.heap.size = D := ⟨_, rfl⟩
        rw [hD] at P8
        rw [hw8, hD]
        clear hw8 hD P7
        have KA : Hid (∀ u, Below w8.heap.size w8 u → Calls Try.prog 16 #[.agg #[.int .u64 (cc.tree.toNat : Int), .slice a7 pn k7, .int .i64 dt, .string nt]] u fun e w' => ∃ qa qc, e = .returned (.agg #[.int .u64 (cc.tree.toNat : Int), .slice qa pn qc, .int .i64 dt, .string nt]) ∧ Hid (RdG encU w' qa cc.ps ∧ pn ≤ qc ∧ Below u.heap.size u w')) := fun u hu => toRef_any (P8.out.2.1.below hu) HC.out.2.1 po nt dt _
        have KC : Hid (∀ u, Below w8.heap.size w8 u → Calls Try.prog 16 #[.agg #[.int .u64 (cc.tree.toNat : Int), .slice pa pn pk, .int .i64 dt, .string nt]] u fun e w' => ∃ qa qc, e = .returned (.agg #[.int .u64 (cc.tree.toNat : Int), .slice qa pn qc, .int .i64 dt, .string nt]) ∧ Hid (RdG encU w' qa cc.ps ∧ pn ≤ qc ∧ Below u.heap.size u w')) := fun u hu => toRef_any ((HC.out.1.below (BW.out _ P8.out.1)).below hu) HC.out.2.1 po nt dt _
        have hd0 : Below w8.heap.size w8 w8.drew := (Below.refl _ w8).drew
        have HD0 : Hid (Below w8.heap.size w8 w8.drew) := hd0
        have kS8 := (P8.out.2.2.below hd0).cells
        clear hd0
        go_region_held3 (fun u => u.cell? ⟨W.heap.size, 0, none⟩ = some (.int .u64 (cc.tree.toNat : Int)) ∧ u.cell? ⟨W.heap.size, 1, none⟩ = some (.slice pa pn pk) ∧ u.cell? ⟨W.heap.size, 2, none⟩ = some (.int .i64 dt) ∧ u.cell? ⟨W.heap.size, 3, none⟩ = some (.string nt) ∧ u.cell? ⟨D, 0, none⟩ = some (.int .u64 (cc.tree.toNat : Int)) ∧ u.cell? ⟨D, 1, none⟩ = some (.slice a7 pn k7) ∧ u.cell? ⟨D, 2, none⟩ = some (.int .i64 dt) ∧ u.cell? ⟨D, 3, none⟩ = some (.string nt))
          (first | with_reducible exact kS8 | with_reducible exact kS9 | with_reducible exact kS10 | with_reducible exact kS11)
          (first
            | (go_at_call 19; (with_reducible refine (sameCom_any (pc := qc1) (qc := qc2) (J1.out.1.below J2.out.2.2) J2.out.1 HC.out.2.1 (by omega) nt dt _).mono ?_); rintro e w11 ⟨rfl, B11⟩; have HD3 : Hid (Below w8.heap.size w8 w11) := HD2.out.trans (B11.mono HD2.out.size); have kS11 := (P8.out.2.2.below HD3.out).cells; clear B11)
            | (go_at_call 16; (with_reducible refine (KC.out _ HD1.out).mono ?_); rintro e w10 ⟨qa2, qc2, rfl, J2⟩; have HD2 : Hid (Below w8.heap.size w8 w10) := HD1.out.trans (J2.out.2.2.mono HD1.out.size); have kS10 := (P8.out.2.2.below HD2.out).cells)
            | (go_at_call 16; (with_reducible refine (KA.out _ HD0.out).mono ?_); rintro e w9 ⟨qa1, qc1, rfl, J1⟩; have HD1 : Hid (Below w8.heap.size w8 w9) := HD0.out.trans (J1.out.2.2.mono HD0.out.size); have kS9 := (P8.out.2.2.below HD1.out).cells))
        have P11 : Hid (Below W1.heap.size W1 w11) := P8.out.1.trans (HD3.out.mono P8.out.1.size)
        clear kS8 kS9 kS10 kS11
        go_wp2_with fail
        go_meet
        exact P11.out
      · have m0 : (ge == 0) = false := by simpa using hg0
        go_wp2_with fail
        go_meet
        exact P6.out.1
    case rest =>
      have Q1 : Hid (Below W1.heap.size W1 wc) := hcut
      obtain ⟨wB, hwB⟩ : ∃ wB, wB = wc := ⟨_, rfl⟩
      rw [← hwB] at Q1 ⊢
      clear hwB hcut P6 HG wc Q0
      -- bytes as a tree
      have h1 := readTree_any wB (H.out.2.2.2.2.1.below (BW.out _ Q1.out)) H.out.2.2.2.2.2
      go_wp2_with fail
      refine h1.mono ?_
      rintro e w12 ⟨rs, re, v12, rfl, J12⟩
      clear h1
      obtain ⟨rn, hrn⟩ : ∃ rn, rs.length = rn := ⟨_, rfl⟩
      obtain ⟨a12, c12, rfl, hc12, r12⟩ := J12.out.2.1.whole hrn
      have P12 : Hid (Below W1.heap.size W1 w12 ∧ RT bs rs re ∧ RdG encE w12 a12 rs ∧ rs.length = rn ∧ rn ≤ c12) := ⟨Q1.out.trans (J12.out.2.2.mono Q1.out.size), J12.out.1, r12, hrn, hc12⟩
      clear J12 r12 hrn hc12
      go_upto_if 75 with fail
      go_cut [] (fun u => Hid (Below W1.heap.size W1 u))
      case first =>
        by_cases hr0 : re = 0
        · subst hr0
          have hback := P12.out.2.1.back
          have hsm : Fine rs := by
            rcases P12.out.2.1 with ⟨_, q, _⟩ | ⟨q, _⟩
            · intro e he
              have := ctree_sm q e he
              omega
            · cases q
          have h2 := tree_any (c := c12) w12 P12.out.2.2.1 P12.out.2.2.2.1 hsm P12.out.2.2.2.2
          rw [hback] at h2
          clear hback hsm
          go_wp2_with fail
          refine h2.mono ?_
          rintro e w13 ⟨v13, rfl, J13⟩
          clear h2
          obtain ⟨a13, c13, rfl, _, _⟩ := J13.out.1.whole H.out.2.2.2.2.2
          have P13 : Hid (Below W1.heap.size W1 w13) := P12.out.1.trans (J13.out.2.mono P12.out.1.size)
          have hcv : (convert 23 9 (.slice a13 bn c13)).run Try.prog w13 = .ok (.string s) w13 := by
            have := conv_str (OwnB.at (OwnG.low J13.out.1 (Nat.zero_le _)))
            rw [HC.out.2.2.2.2.2]
            exact this
          have hcb : (convert 23 9 (.slice ba bn bc)).run Try.prog w13 = .ok (.string s) w13 := by
            have := conv_str (H.out.2.2.2.2.1.below (BW.out _ P13.out))
            rw [HC.out.2.2.2.2.2]
            exact this
          clear J13
          go_wp2_with fail
          go_meet
          exact P13.out
        · have m0 : (re == 0) = false := by simpa using hr0
          have hq : re = 9 ∧ rn = 0 := by
            rcases P12.out.2.1 with ⟨q, _⟩ | ⟨q, q2, _⟩
            · exact absurd q hr0
            · exact ⟨q, by rw [← P12.out.2.2.2.1, q2]; rfl⟩
          obtain ⟨rfl, rfl⟩ := hq
          go_wp2_with fail
          go_meet
          exact P12.out.1
      case rest =>
        have Q2 : Hid (Below W1.heap.size W1 wc) := hcut
        obtain ⟨wD, hwD⟩ : ∃ wD, wD = wc := ⟨_, rfl⟩
        rw [← hwD] at Q2 ⊢
        clear hwD hcut P12 wc Q1
        -- bytes as a commit
        have h1 := readCom_any wD (H.out.2.2.2.2.1.below (BW.out _ Q2.out)) H.out.2.2.2.2.2
        go_wp2_with fail
        refine h1.mono ?_
        rintro e w14 ⟨c14, re, a14, k14, rfl, J14⟩
        clear h1
        obtain ⟨ln, hln⟩ : ∃ ln, c14.ps.length = ln := ⟨_, rfl⟩
        obtain ⟨t14, ht14⟩ : ∃ t14 : ByteArray, t14 = ⟨c14.note.toArray⟩ := ⟨_, rfl⟩
        obtain ⟨d14, hd14⟩ : ∃ d14, c14.date = d14 := ⟨_, rfl⟩
        rw [hln, hd14, show tx c14.note = .string t14 by rw [ht14]]
        have P14 : Hid (Below W1.heap.size W1 w14 ∧ RC bs c14 re ∧ RdG encU w14 a14 c14.ps ∧ c14.ps.length = ln ∧ ln ≤ k14 ∧ t14 = ⟨c14.note.toArray⟩ ∧ c14.date = d14) := ⟨Q2.out.trans (J14.out.2.2.2.mono Q2.out.size), J14.out.1, J14.out.2.1, hln, by rw [← hln]; exact J14.out.2.2.1, ht14, hd14⟩
        clear J14 hln ht14 hd14
        go_upto_if 103 with fail
        obtain ⟨w15, hw15⟩ : ∃ w15, w14.alloc (.cells #[.int .u64 (c14.tree.toNat : Int), .slice a14 ln k14, .int .i64 d14, .string t14] 44) = w15 := ⟨_, rfl⟩
        have P15 : Hid (Below W1.heap.size W1 w15 ∧ RdG encU w15 a14 c14.ps ∧ Box4 w15 w14.heap.size 44 (.int .u64 (c14.tree.toNat : Int)) (.slice a14 ln k14) (.int .i64 d14) (.string t14)) := by
          rw [← hw15]
          exact ⟨P14.out.1.trans ((bz1 w14 _).mono P14.out.1.size), P14.out.2.2.1.below (bz1 w14 _), Box4.new _ _ _ _ _ _⟩
        rw [hw15]
        clear hw15
        obtain ⟨x0, x1, x2, x3⟩ := P15.out.2.2.cells
        by_cases hr0 : re = 0
        · subst hr0
          have hback := P14.out.2.1.back
          have h2 := com_any (w := w15) (c := c14) (pc := k14) P15.out.2.1 P14.out.2.2.2.1 P14.out.2.2.2.2.1 t14 P14.out.2.2.2.2.2.1 d14 P14.out.2.2.2.2.2.2
          rw [hback] at h2
          clear hback
          go_wp2_with fail
          refine h2.mono ?_
          rintro e w16 ⟨v16, rfl, J16⟩
          clear h2 x0 x1 x2 x3
          obtain ⟨a16, c16, rfl, _, _⟩ := J16.out.1.whole H.out.2.2.2.2.2
          have P16 : Hid (Below W1.heap.size W1 w16) := P15.out.1.trans (J16.out.2.mono P15.out.1.size)
          have hcv : (convert 23 9 (.slice a16 bn c16)).run Try.prog w16 = .ok (.string s) w16 := by
            have := conv_str (OwnB.at (OwnG.low J16.out.1 (Nat.zero_le _)))
            rw [HC.out.2.2.2.2.2]
            exact this
          have hcb : (convert 23 9 (.slice ba bn bc)).run Try.prog w16 = .ok (.string s) w16 := by
            have := conv_str (H.out.2.2.2.2.1.below (BW.out _ P16.out))
            rw [HC.out.2.2.2.2.2]
            exact this
          clear J16
          go_wp2
          go_ret
          exact ⟨by simp, BW.out _ P16.out⟩
        · have m0 : (re == 0) = false := by simpa using hr0
          have m1 : (re != 0) = true := by simpa using hr0
          have hq : re = 9 ∧ c14 = zcm := by
            rcases P14.out.2.1 with ⟨q, _⟩ | ⟨q, q2, _⟩
            · exact absurd q hr0
            · exact ⟨q, q2⟩
          obtain ⟨rfl, rfl⟩ := hq
          have l0 : ln = 0 := P14.out.2.2.2.1.symm
          have z0 : d14 = 0 := P14.out.2.2.2.2.2.2.symm
          have z1 : t14 = ⟨#[]⟩ := P14.out.2.2.2.2.2.1
          have z2 : ((zcm.tree.toNat : Nat) : Int) = 0 := rfl
          subst l0 z0 z1
          rw [z2] at x0
          have h2 := toRef_any (w := w15) (pa := a14) (pn := 0) (pc := k14) (xs := []) (RdG.nil _ _ _) rfl (by omega) ⟨#[]⟩ 0 0
          clear z2
          go_wp2_with fail
          refine h2.mono ?_
          rintro e w16 ⟨qa, qc, rfl, J16⟩
          clear h2 x0 x1 x2 x3
          have P16 : Hid (Below W1.heap.size W1 w16) := P15.out.1.trans (J16.out.2.2.mono P15.out.1.size)
          have h3 := sameCom_any (w := w16) (pa := qa) (qa := none) (pn := 0) (pc := qc) (qc := 0) (xs := []) (RdG.nil _ _ _) (RdG.nil _ _ _) rfl (by omega) ⟨#[]⟩ 0 0
          clear J16
          go_wp2_with fail
          refine h3.mono ?_
          rintro e w17 ⟨rfl, B17⟩
          have P17 : Hid (Below W1.heap.size W1 w17) := P16.out.trans (B17.mono P16.out.size)
          clear h3 B17
          go_wp2
          go_ret
          exact ⟨by simp, BW.out _ P17.out⟩

end Go.Proofs.Ytadjcmekpcimjaa
