/-
  The law TreeBack, walked: of whatever two lists it returns true, and what was there when it was called is as it was.
-/
import Derived.Test.YtbclmpjcfddlcaaYRight
import Derived.Test.YtbclmpjcfddlcaaYCap
import Derived.Test.YtbclmpjcfddlcaaYAwake
namespace Go.Proofs.Ytbclmpjcfddlcaa
open Go.RowKit

set_option maxHeartbeats 3200000 in
set_option maxRecDepth 100000 in
theorem back_walk (ao bo : Option Addr) (n c m d : Nat) (A B : List En) (W : World) (hl : A.length = n) (hk : B.length = m) (hn : n * 24 ≤ 140737488355328) (hm : m * 24 ≤ 140737488355328) (hnc : n ≤ c) (hmd : m ≤ d) (ha : RdG encE W ao A) (hb : RdG encE W bo B) :
    Calls Try.prog 3 #[.slice ao n c, .slice bo m d] W fun e w' => e = .returned (.bool true) ∧ Below W.heap.size W w' := by
  have H : Hid (A.length = n ∧ B.length = m ∧ RdG encE W ao A ∧ RdG encE W bo B ∧ n ≤ c ∧ m ≤ d) := ⟨hl, hk, ha, hb, hnc, hmd⟩
  clear hl hk ha hb hnc hmd
  go_enter Try.func3, Try.ntmps3
  go_wp2_with fail
  refine (awake_walk _).mono ?_
  rintro e w1 ⟨rfl, B1⟩
  have G1 : Hid (Below W.heap.size W w1) := B1
  obtain ⟨f, hf⟩ : ∃ f, isTree A = f := ⟨_, rfl⟩
  obtain ⟨g, hg⟩ : ∃ g, isTree B = g := ⟨_, rfl⟩
  have hri := right_any (c := c) (d := d) w1 (H.out.2.2.1.below B1) (H.out.2.2.2.1.below B1) H.out.1 H.out.2.1 hn hm f g hf hg
  have FG : Hid (isTree A = f ∧ isTree B = g) := ⟨hf, hg⟩
  clear B1 hf hg
  go_wp2_with fail
  refine hri.mono ?_
  rintro e w2 ⟨rfl, B2⟩
  have G2 : Hid (Below W.heap.size W w2) := G1.out.trans (B2.mono G1.out.size)
  clear B2 hri
  cases f with
  | false =>
    go_wp2
    go_ret
    exact ⟨rfl, G2.out⟩
  | true =>
    cases g with
    | false =>
      go_wp2
      go_ret
      exact ⟨rfl, G2.out⟩
    | true =>
      have TH := there FG.out.1 FG.out.2
      have AB := andBack FG.out.1 FG.out.2
      obtain ⟨zA, _, rA, lA, fA, _⟩ := isTree_ok FG.out.1
      obtain ⟨zB, _, rB, lB, fB, _⟩ := isTree_ok FG.out.2
      have hkl := fdiff_len (hasS []) A B
      have fC := fdiff_fine (hasS []) fA fB
      have hn64 : n ≤ 64 := by rw [← H.out.1]; exact lA
      have hm64 : m ≤ 64 := by rw [← H.out.2.1]; exact lB
      have hdi := diff_cap (K := max c d) (c := c) (d := d) (lc := 0) (lo := none) (ln := 0) (ls := []) w2 (H.out.2.2.1.below G2.out) (H.out.2.2.2.1.below G2.out) H.out.1 H.out.2.1 H.out.2.2.2.2.1 H.out.2.2.2.2.2 (Nat.le_max_left _ _) (Nat.le_max_right _ _) (by omega) (by omega) rA rB fA fB (Rd.nil w2 none) rfl (by omega)
      obtain ⟨cs, hcs⟩ : ∃ cs, fdiff (hasS []) A B = cs := ⟨_, rfl⟩
      rw [hcs] at TH AB hkl fC hdi
      obtain ⟨kn, hkn⟩ : ∃ kn, cs.length = kn := ⟨_, rfl⟩
      have hk128 : kn ≤ 128 := by rw [← hkn]; omega
      have P : Hid (NZ A ∧ NZ B ∧ Rise A ∧ Rise B ∧ Fine A ∧ Fine B ∧ FineC cs ∧ cs.length = kn) := ⟨zA, zB, rA, rB, fA, fB, fC, hkn⟩
      have Q : Hid (fapply A cs = (B, 0) ∧ fapply B (backL cs) = (A, 0)) := ⟨TH, AB⟩
      clear TH AB zA rA lA fA zB rB lB fB hkl fC hcs hkn FG
      go_wp2_with fail
      refine hdi.mono ?_
      rintro e w3 ⟨v3, rfl, O3, B3⟩
      obtain ⟨a3, c3, rfl, _, _, R3, _⟩ := O3.form
      rw [P.out.2.2.2.2.2.2.2]
      have G3 : Hid (RdG encC w3 a3 cs ∧ Below W.heap.size W w3) := ⟨R3, G2.out.trans (B3.mono G2.out.size)⟩
      clear O3 B3 R3 hdi
      have hap := apply_any (c := c) (d := c3) w3 (H.out.2.2.1.below G3.out.2) G3.out.1 H.out.1 P.out.2.2.2.2.2.2.2 (by omega) (by omega) P.out.2.2.1 P.out.1 P.out.2.2.2.2.1 P.out.2.2.2.2.2.2.1 B 0 Q.out.1
      go_wp2_with fail
      refine hap.mono ?_
      rintro e w4 ⟨v4, rfl, O4, B4⟩
      obtain ⟨a4, c4, rfl, _, _, R4, _⟩ := O4.form
      rw [H.out.2.1]
      have G4 : Hid (RdG encC w4 a3 cs ∧ RdG encE w4 a4 B ∧ Below W.heap.size W w4) := ⟨G3.out.1.below B4, R4, G3.out.2.trans (B4.mono G3.out.2.size)⟩
      clear O4 B4 R4 hap
      go_wp2_with fail
      go_loopg [8, 9] kn (fun k ov iv wr => ∃ r : Nat, iv = .int .i64 ((r : Int) - 1) ∧ r = k ∧ Hid (r ≤ kn ∧ OwnG encC 36 wr w4.heap.size ov (backL (cs.drop r)) ∧ Below w4.heap.size w4 wr))
      case atStart =>
        refine ⟨kn, ?_, rfl, Nat.le_refl _, ?_, Below.refl _ _⟩
        · first | rfl | go_num | (congr 1; omega)
        · rw [List.drop_of_length_le (by rw [P.out.2.2.2.2.2.2.2]; omega)]
          exact OwnG.nil _ _ _ _
      case round =>
        obtain ⟨r, rfl, hr, HR⟩ := hrel
        cases r with
        | zero =>
          have e0 : cs.drop 0 = cs := rfl
          rw [e0] at HR
          obtain ⟨a5, c5, e5, _, _, R5, _⟩ := HR.out.2.1.form
          rw [back_len, P.out.2.2.2.2.2.2.2] at e5
          subst e5
          have G5 : Hid (RdG encC wr a5 (backL cs) ∧ RdG encE wr a4 B ∧ Below W.heap.size W wr) := ⟨R5, G4.out.2.1.below HR.out.2.2, G4.out.2.2.trans (HR.out.2.2.mono G4.out.2.2.size)⟩
          have lbk : (backL cs).length = kn := (back_len cs).trans P.out.2.2.2.2.2.2.2
          have hap := apply_any (n := m) (m := kn) (c := d) (d := c5) wr (H.out.2.2.2.1.below G5.out.2.2) G5.out.1 H.out.2.1 lbk (by omega) (by omega) P.out.2.2.2.1 P.out.2.1 P.out.2.2.2.2.2.1 (back_fine P.out.2.2.2.2.2.2.1) A 0 Q.out.2
          clear R5 HR e0 hr lbk
          go_wp2_with fail
          refine hap.mono ?_
          rintro e w6 ⟨v6, rfl, O6, B6⟩
          obtain ⟨a6, c6, rfl, _, _, R6, _⟩ := O6.form
          rw [H.out.1]
          have G6 : Hid (RdG encE w6 a4 B ∧ RdG encE w6 a6 A ∧ Below W.heap.size W w6) := ⟨G5.out.2.1.below B6, R6, G5.out.2.2.trans (B6.mono G5.out.2.2.size)⟩
          clear O6 B6 R6 hap
          go_wp2_with fail
          refine (entries_any w6 G6.out.1 H.out.2.1 hm).mono ?_
          rintro e w7 ⟨v7, rfl, O7⟩
          obtain ⟨a7, c7, rfl, _, _, R7, _⟩ := O7.out.1.form
          rw [H.out.2.1]
          have G7 : Hid (RdG encE w7 a7 B ∧ RdG encE w7 a6 A ∧ Below W.heap.size W w7) := ⟨R7, G6.out.2.1.below O7.out.2, G6.out.2.2.trans (O7.out.2.mono G6.out.2.2.size)⟩
          clear O7 R7
          go_wp2_with fail
          refine (entries_any w7 (H.out.2.2.2.1.below G7.out.2.2) H.out.2.1 hm).mono ?_
          rintro e w8 ⟨v8, rfl, O8⟩
          obtain ⟨a8, c8, rfl, _, _, R8, _⟩ := O8.out.1.form
          rw [H.out.2.1]
          have G8 : Hid (RdG encE w8 a7 B ∧ RdG encE w8 a8 B ∧ RdG encE w8 a6 A ∧ Below W.heap.size W w8) := ⟨G7.out.1.below O8.out.2, R8, G7.out.2.1.below O8.out.2, G7.out.2.2.trans (O8.out.2.mono G7.out.2.2.size)⟩
          clear O8 R8
          go_wp2_with fail
          refine (sameTree_any w8 G8.out.1 G8.out.2.1 H.out.2.1 (by omega)).mono ?_
          rintro e w9 ⟨rfl, B9⟩
          have G9 : Hid (RdG encE w9 a6 A ∧ Below W.heap.size W w9) := ⟨G8.out.2.2.1.below B9, G8.out.2.2.2.trans (B9.mono G8.out.2.2.2.size)⟩
          clear B9
          go_wp2_with fail
          refine (entries_any w9 G9.out.1 H.out.1 hn).mono ?_
          rintro e w10 ⟨v10, rfl, O10⟩
          obtain ⟨a10, c10, rfl, _, _, R10, _⟩ := O10.out.1.form
          rw [H.out.1]
          have G10 : Hid (RdG encE w10 a10 A ∧ Below W.heap.size W w10) := ⟨R10, G9.out.2.trans (O10.out.2.mono G9.out.2.size)⟩
          clear O10 R10
          go_wp2_with fail
          refine (entries_any w10 (H.out.2.2.1.below G10.out.2) H.out.1 hn).mono ?_
          rintro e w11 ⟨v11, rfl, O11⟩
          obtain ⟨a11, c11, rfl, _, _, R11, _⟩ := O11.out.1.form
          rw [H.out.1]
          have G11 : Hid (RdG encE w11 a10 A ∧ RdG encE w11 a11 A ∧ Below W.heap.size W w11) := ⟨G10.out.1.below O11.out.2, R11, G10.out.2.trans (O11.out.2.mono G10.out.2.size)⟩
          clear O11 R11
          go_wp2_with fail
          refine (sameTree_any w11 G11.out.1 G11.out.2.1 H.out.1 (by omega)).mono ?_
          rintro e w12 ⟨rfl, B12⟩
          have G12 : Hid (Below W.heap.size W w12) := G11.out.2.2.trans (B12.mono G11.out.2.2.size)
          clear B12
          go_wp2
          go_ret
          exact ⟨rfl, G12.out⟩
        | succ r =>
          rw [show (((r + 1 : Nat) : Int) - 1) = (r : Int) by omega]
          have KR : Hid (r + 1 = gk) := hr
          clear hr
          have hrN : r < kn := by have := HR.out.1; omega
          have id : (r : Int) < (kn : Int) := by omega
          have id0 : (0 : Int) ≤ (r : Int) := by omega
          obtain ⟨e, he⟩ := get_some P.out.2.2.2.2.2.2.2 hrN
          obtain ⟨b, off, rfl, hlt⟩ := G4.out.1.some_of he
          obtain ⟨c0, c1, c2⟩ := (G4.out.1.below HR.out.2.2).chgs he
          have hst := back_step he
          obtain ⟨x, o, o2⟩ := e
          simp only at c0 c1 c2
          have hll : (backL (cs.drop (r + 1))).length ≤ 128 := by rw [back_len, List.length_drop, P.out.2.2.2.2.2.2.2]; omega
          have ST : Hid (backL (cs.drop r) = backL (cs.drop (r + 1)) ++ [(x, o2, o)] ∧ (backL (cs.drop (r + 1))).length ≤ 128) := ⟨hst, hll⟩
          clear he hst hll hlt
          go_wp2_with fail
          go_region_law (refine stepG_at encC 36 25 32 (.agg #[.string ⟨#[]⟩, .int .u64 0, .int .u64 0]) rfl Try.info36 Try.underlying25 rfl (.tmp 35) (.tmp 52) rfl w4.heap.size _ (backL (cs.drop (r + 1))) (x, o2, o) rfl (HR.out.2.1.below ((Below.refl _ wr).drew.trans (bz1 wr.drew _))) wr.heap.size rfl (cells_new encC wr.drew (x, o2, o) 36) (by have := ST.out.2; omega) (by have := ST.out.2; simp only [maxLen]; omega) (by have := HR.out.2.2.size; simp; omega) ?_; intro v9 w9 ho9 hb9 hm9 ht9; have FIN : Hid (OwnG encC 36 w9 w4.heap.size v9 (backL (cs.drop r)) ∧ Below w4.heap.size w4 w9) := ⟨by rw [ST.out.1]; exact ho9, HR.out.2.2.trans ((((bz1 wr _).drew).mono HR.out.2.2.size).trans hb9)⟩; clear ho9 hb9 hm9 ht9)
          all_goals
            go_wp2
            go_roundg (gk - 1)
            case measure => have := KR.out; omega
            case rel => exact ⟨r, by go_num, by have := KR.out; omega, by omega, FIN.out.1, FIN.out.2⟩

end Go.Proofs.Ytbclmpjcfddlcaa
