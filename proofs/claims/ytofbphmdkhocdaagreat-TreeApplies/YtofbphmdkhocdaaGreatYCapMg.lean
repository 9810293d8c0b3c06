/-
  tree.Diff by a contract, of lists whose rows have room of any size behind them.
-/
import Derived.Test.YtofbphmdkhocdaaGreatYDiffMg
namespace Go.Proofs.YtofbphmdkhocdaaGreat
open Go.RowKit

set_option maxHeartbeats 1600000 in
set_option maxRecDepth 100000 in
/-- tree.Diff. -/
theorem diff_cap {K : Nat} {ao bo lo : Option Addr} {n c m d ln lc : Nat} {A B : List En} {ls : List Bs} (w : World) (ha : RdG encE w ao A) (hb : RdG encE w bo B) (hl : A.length = n) (hk : B.length = m) (hnc : n ≤ c) (hmd : m ≤ d) (hc : c ≤ K) (hd : d ≤ K) (hn : n ≤ 100000) (hm : m ≤ 100000)
    (rA : Rise A) (rB : Rise B) (fA : Fine A) (fB : Fine B) (hL : Rd w lo ls) (hll : ls.length = ln) (hln : ln ≤ 100000) :
    Calls Tryz.prog 13 #[.slice ao n c, .slice bo m d, .agg #[.slice lo ln lc]] w fun e w' => ∃ v', e = .returned v' ∧ OwnG encC 58 w' w.heap.size v' (fdiff (hasS ls) A B) ∧ Below w.heap.size w w' := by
  have LL : Hid (Rd w lo ls ∧ ls.length = ln) := ⟨hL, hll⟩
  have H : Hid (RdG encE w ao A ∧ RdG encE w bo B ∧ A.length = n ∧ B.length = m ∧ Rise A ∧ Rise B ∧ Fine A ∧ Fine B) := ⟨ha, hb, hl, hk, rA, rB, fA, fB⟩
  have W0 : Hid (Below w.heap.size w (w.alloc (.cells #[.slice lo ln lc] 26)) ∧ (w.alloc (.cells #[.slice lo ln lc] 26)).cell? ⟨w.heap.size, 0, none⟩ = some (.slice lo ln lc)) := ⟨bz1 _ _, by simp⟩
  clear hL hll ha hb hl hk rA rB fA fB
  go_enter Tryz.func13, Tryz.ntmps13
  go_wp2_with fail
  go_loopg [0, 1, 7] (n + m) (fun k av bv ov wr => ∃ (a' b' : Option Addr) (n' c' m' d' : Nat), av = .slice a' n' c' ∧ bv = .slice b' m' d' ∧ n' + m' = k ∧ n' ≤ c' ∧ m' ≤ d' ∧ c' ≤ K ∧ d' ≤ K ∧ n' ≤ 100000 ∧ m' ≤ 100000 ∧
    Hid (∃ (al bl : List En) (out : List Chg), al.length = n' ∧ bl.length = m' ∧ RdG encE w a' al ∧ RdG encE w b' bl ∧ Rise al ∧ Rise bl ∧ Fine al ∧ Fine bl ∧ out ++ fdiff (hasS ls) al bl = fdiff (hasS ls) A B ∧ out.length + n' + m' ≤ n + m ∧ OwnG encC 58 wr (w.heap.size + 1) ov out ∧ Below w.heap.size w wr ∧ Below (w.heap.size + 1) (w.alloc (.cells #[.slice lo ln lc] 26)) wr))
  case atStart => exact ⟨ao, bo, n, c, m, d, rfl, rfl, rfl, hnc, hmd, hc, hd, hn, hm, A, B, [], H.out.2.2.1, H.out.2.2.2.1, H.out.1, H.out.2.1, H.out.2.2.2.2.1, H.out.2.2.2.2.2.1, H.out.2.2.2.2.2.2.1, H.out.2.2.2.2.2.2.2, rfl, by simp, OwnG.nil _ _ _ _, W0.out.1, Below.refl _ _⟩
  case round =>
    obtain ⟨a', b', n', c', m', d', rfl, rfl, hgk, h1, h2, h3, h4, h5, h6, HR⟩ := hrel
    obtain ⟨al, bl, out, l1, l2, R1, R2, q1, q2, f1, f2, hfd, hol, OW, BW, BX⟩ := HR.out
    have cl : wr.cell? ⟨w.heap.size, 0, none⟩ = some (.slice lo ln lc) := (BX.cell (p := ⟨w.heap.size, 0, none⟩) (by simp)).trans W0.out.2
    by_cases h0 : n' = 0 ∧ m' = 0
    · obtain ⟨rfl, rfl⟩ := h0
      have e1 : al = [] := List.eq_nil_of_length_eq_zero l1
      have e2 : bl = [] := List.eq_nil_of_length_eq_zero l2
      subst e1 e2
      have e3 : fdiff (hasS ls) [] [] = [] := rfl
      rw [e3, List.append_nil] at hfd
      have G : Hid (out = fdiff (hasS ls) A B ∧ OwnG encC 58 wr (w.heap.size + 1) _ out ∧ Below w.heap.size w wr) := ⟨hfd, OW, BW⟩
      clear hfd OW BW R1 R2 q1 q2 f1 f2 HR l1 l2 BX cl
      go_wp2
      go_ret
      exact ⟨_, rfl, by rw [← G.out.1]; exact OwnG.low G.out.2.1 (by omega), G.out.2.2⟩
    · have hne : al ≠ [] ∨ bl ≠ [] := by
        rcases Nat.eq_zero_or_pos n' with z | z
        · right; intro e; rw [e] at l2; exact h0 ⟨z, l2.symm⟩
        · left; intro e; rw [e] at l1; simp at l1; omega
      have hst := fdiff_step (hasS ls) q1 q2 hne
      have hsl := least_len hne
      obtain ⟨p, hp⟩ : ∃ p, leastP al bl = p := ⟨_, rfl⟩
      have hpl : p.length ≤ 9223372036854775807 := by
        rw [← hp]
        rcases least_mem hne with q | q
        · obtain ⟨e, he, ee⟩ := List.mem_map.1 q; rw [← ee]; exact f1 e he
        · obtain ⟨e, he, ee⟩ := List.mem_map.1 q; rw [← ee]; exact f2 e he
      have hle := fun u r1 r2 => least_any (c := c') (d := d') (ao := a') (bo := b') u r1 r2 l1 l2 (by omega) (by omega) hne p hp
      rw [hp] at hst hsl
      obtain ⟨o, t, ho⟩ : ∃ o t, takeP al p = (o, t) := ⟨_, _, rfl⟩
      obtain ⟨o2, t2, ho2⟩ : ∃ o2 t2, takeP bl p = (o2, t2) := ⟨_, _, rfl⟩
      have ht1 := fun u r => take_any10 (c := c') (ao := a') p u r l1 h1 o t ho
      have ht2 := fun u r => take_any10 (c := d') (ao := b') p u r l2 h2 o2 t2 ho2
      have k1 := takeP_rise q1 p
      have k2 := takeP_rise q2 p
      rw [ho, ho2] at hst hsl
      rw [ho] at k1
      rw [ho2] at k2
      have hsl' : t.length + t2.length < n' + m' := by simpa [l1, l2] using hsl
      have TL : Hid (t.length ≤ 100000 ∧ t2.length ≤ 100000) := by
        have e1 := takeP_len al p
        have e2 := takeP_len bl p
        rw [ho] at e1
        rw [ho2] at e2
        simp only at e1 e2
        exact ⟨by omega, by omega⟩
      have ft : Fine t ∧ Fine t2 := by
        refine ⟨fun e he => f1 e ?_, fun e he => f2 e ?_⟩
        · have := takeP_sub al p e
          rw [ho] at this
          exact this he
        · have := takeP_sub bl p e
          rw [ho2] at this
          exact this he
      have ST : Hid (out ++ fdiff (hasS ls) al bl = fdiff (hasS ls) A B ∧ fdiff (hasS ls) al bl = (if (o != o2) && hasS ls p then [(p, o, o2)] else []) ++ fdiff (hasS ls) t t2 ∧ t.length + t2.length < n' + m' ∧ Rise t ∧ Rise t2 ∧ Fine t ∧ Fine t2 ∧ out.length + n' + m' ≤ n + m) := ⟨hfd, hst, hsl', k1, k2, ft.1, ft.2, hol⟩
      have SW : Hid (OwnG encC 58 wr (w.heap.size + 1) _ out ∧ Below w.heap.size w wr ∧ Below (w.heap.size + 1) (w.alloc (.cells #[.slice lo ln lc] 26)) wr ∧ RdG encE w a' al ∧ RdG encE w b' bl) := ⟨OW, BW, BX, R1, R2⟩
      have hle1 := hle wr (R1.below BW) (R2.below BW)
      clear hst hsl hsl' k1 k2 hfd OW BW BX hne ho ho2 hp q1 q2 HR hle l1 l2 R1 R2 f1 f2 ft hol h0
      rcases Nat.eq_zero_or_pos n' with z | z
      · have z2 : (0 : Int) < (m' : Int) := by have := ST.out.2.2.1; omega
        subst z
        go_wp2_with fail
        refine hle1.mono ?_
        rintro e w1 ⟨rfl, k1, hw1⟩
        have BB : Hid (Below wr.heap.size wr w1 ∧ w1.heap.size = wr.heap.size) := by rw [hw1]; exact ⟨below_drewN (Below.refl _ _) k1, rfl⟩
        clear hw1 hle1
        go_upto_region 4 with fail
        obtain ⟨w2, hw2⟩ : ∃ w2, w2 = w1.alloc (.cells #[.string ⟨p.toArray⟩, .int .u64 0, .int .u64 0] 58) := ⟨_, rfl⟩
        obtain ⟨R, hR⟩ : ∃ R, w1.heap.size = R := ⟨_, rfl⟩
        have X2 : Hid (Box3 w2 R 58 (tx p) (.int .u64 0) (.int .u64 0) ∧ Below wr.heap.size wr w2 ∧ wr.heap.size ≤ R) := by
          rw [hw2, ← hR]
          exact ⟨Box3.new w1 58 _ _ _, BB.out.1.trans ((bz1 w1 _).mono BB.out.1.size), BB.out.1.size⟩
        rw [← hw2, hR]
        clear hw2 hR BB
        obtain ⟨j0, j1, j2⟩ := X2.out.1.cells
        have ht1' := ht1 w2 ((SW.out.2.2.2.1.below SW.out.2.1).below X2.out.2.1)
        go_wp2_with fail
        refine ht1'.mono ?_
        rintro e w3 ⟨a3, n3, c3, rfl, L3, k3, k4, P3, q3, hw3⟩
        have X3 : Hid (Box3 w3 R 58 (tx p) (.int .u64 0) (.int .u64 0) ∧ Below wr.heap.size wr w3 ∧ wr.heap.size ≤ R) := by
          rw [hw3]
          exact ⟨X2.out.1.below (below_drewN (Below.refl _ _) q3), below_drewN X2.out.2.1 q3, X2.out.2.2⟩
        clear hw3 ht1' ht1 X2 j0 j1 j2
        obtain ⟨j0, j1, j2⟩ := X3.out.1.cells
        obtain ⟨t0, t1, t2'⟩ := X3.out.1.thaw
        have L3' : Hid (t.length = n3 ∧ ∀ u, RdG encE u a' al → RdG encE u a3 t) := ⟨L3, P3⟩
        clear L3 P3
        go_upto_region 5 with fail
        obtain ⟨w4, hw4⟩ : ∃ w4, w4 = w3.setCell ⟨R, 1, none⟩ (.int .u64 (o.toNat : Int)) := ⟨_, rfl⟩
        have X4 : Hid (Box3 w4 R 58 (tx p) (.int .u64 (o.toNat : Int)) (.int .u64 0) ∧ Below wr.heap.size wr w4 ∧ wr.heap.size ≤ R) := by
          rw [hw4]
          exact ⟨X3.out.1.put1 _, X3.out.2.1.trans ((turned_set 1 _).below X3.out.2.1.size (fun k hk e => by have := X3.out.2.2; omega)), X3.out.2.2⟩
        rw [← hw4]
        clear hw4 X3 j0 j1 j2 t0 t1 t2'
        obtain ⟨j0, j1, j2⟩ := X4.out.1.cells
        have ht2' := ht2 w4 ((SW.out.2.2.2.2.below SW.out.2.1).below X4.out.2.1)
        go_wp2_with fail
        refine ht2'.mono ?_
        rintro e w5 ⟨a5, n5, c5, rfl, L5, k5, k6, P5, q5, hw5⟩
        have X5 : Hid (Box3 w5 R 58 (tx p) (.int .u64 (o.toNat : Int)) (.int .u64 0) ∧ Below wr.heap.size wr w5 ∧ wr.heap.size ≤ R) := by
          rw [hw5]
          exact ⟨X4.out.1.below (below_drewN (Below.refl _ _) q5), below_drewN X4.out.2.1 q5, X4.out.2.2⟩
        clear hw5 ht2' ht2 X4 j0 j1 j2
        obtain ⟨j0, j1, j2⟩ := X5.out.1.cells
        obtain ⟨t0, t1, t2'⟩ := X5.out.1.thaw
        have L5' : Hid (t2.length = n5 ∧ ∀ u, RdG encE u b' bl → RdG encE u a5 t2) := ⟨L5, P5⟩
        clear L5 P5
        go_upto_region 6 with fail
        obtain ⟨w6, hw6⟩ : ∃ w6, w6 = w5.setCell ⟨R, 2, none⟩ (.int .u64 (o2.toNat : Int)) := ⟨_, rfl⟩
        have X6 : Hid (Box3 w6 R 58 (tx p) (.int .u64 (o.toNat : Int)) (.int .u64 (o2.toNat : Int)) ∧ Below wr.heap.size wr w6 ∧ wr.heap.size ≤ R) := by
          rw [hw6]
          exact ⟨X5.out.1.put2 _, X5.out.2.1.trans ((turned_set 2 _).below X5.out.2.1.size (fun k hk e => by have := X5.out.2.2; omega)), X5.out.2.2⟩
        rw [← hw6]
        clear hw6 X5 j0 j1 j2 t0 t1 t2'
        obtain ⟨j0, j1, j2⟩ := X6.out.1.cells
        have cl6 : w6.cell? ⟨w.heap.size, 0, none⟩ = some (.slice lo ln lc) := (X6.out.2.1.cell (p := ⟨w.heap.size, 0, none⟩) (by have := SW.out.2.2.1.size; simp at this; show w.heap.size < _; omega)).trans cl
        have hb3 : n3 ≤ 100000 ∧ n5 ≤ 100000 := ⟨by rw [← L3'.out.1]; exact TL.out.1, by rw [← L5'.out.1]; exact TL.out.2⟩
        have hln2 : n3 + n5 < gk := by have h1 := ST.out.2.2.1; have h2 := L3'.out.1; have h3 := L5'.out.1; omega
        clear cl
        by_cases ho : o = o2
        · subst ho
          go_wp2
          go_roundg (n3 + n5)
          case measure => omega
          case rel =>
            refine ⟨a3, a5, n3, c3, n5, c5, rfl, rfl, rfl, k3, k5, by omega, by omega, by omega, by omega, t, t2, out, L3'.out.1, L5'.out.1, L3'.out.2 _ SW.out.2.2.2.1, L5'.out.2 _ SW.out.2.2.2.2, ST.out.2.2.2.1, ST.out.2.2.2.2.1, ST.out.2.2.2.2.2.1, ST.out.2.2.2.2.2.2.1, ?_, ?_, SW.out.1.below X6.out.2.1, SW.out.2.1.trans (X6.out.2.1.mono SW.out.2.1.size), SW.out.2.2.1.trans (X6.out.2.1.mono (by have := SW.out.2.2.1.size; simp at this; exact this))⟩
            · have e1 := ST.out.1
              rw [ST.out.2.1] at e1
              simpa using e1
            · have := ST.out.2.2.2.2.2.2.2; omega
        · have ho1 : ((o.toNat : Int) != (o2.toNat : Int)) = true := by
            simp only [bne_iff_ne, ne_eq]
            intro e
            exact ho (UInt64.toNat_inj.1 (by omega))
          have ho2 : ((o.toNat : Int) == (o2.toNat : Int)) = false := by simpa using ho1
          obtain ⟨g, hg⟩ : ∃ g, hasS ls p = g := ⟨_, rfl⟩
          have hha := has_any (c := lc) p w6 ((LL.out.1.below SW.out.2.1).below X6.out.2.1) LL.out.2 (by omega) hpl g hg
          have EG : Hid (hasS ls p = g ∧ (o != o2) = true) := ⟨hg, by simpa using ho⟩
          clear hg
          go_wp2_with fail
          refine hha.mono ?_
          rintro e w7 ⟨rfl, B7⟩
          have X7 : Hid (Box3 w7 R 58 (tx p) (.int .u64 (o.toNat : Int)) (.int .u64 (o2.toNat : Int)) ∧ Below wr.heap.size wr w7 ∧ OwnG encC 58 w7 (w.heap.size + 1) _ out) := ⟨X6.out.1.below B7, X6.out.2.1.trans (B7.mono X6.out.2.1.size), (SW.out.1.below X6.out.2.1).below B7⟩
          clear B7 hha X6 j0 j1 j2 cl6
          obtain ⟨j0, j1, j2⟩ := X7.out.1.cells
          cases g with
          | false =>
            go_wp2
            go_roundg (n3 + n5)
            case measure => omega
            case rel =>
              refine ⟨a3, a5, n3, c3, n5, c5, rfl, rfl, rfl, k3, k5, by omega, by omega, by omega, by omega, t, t2, out, L3'.out.1, L5'.out.1, L3'.out.2 _ SW.out.2.2.2.1, L5'.out.2 _ SW.out.2.2.2.2, ST.out.2.2.2.1, ST.out.2.2.2.2.1, ST.out.2.2.2.2.2.1, ST.out.2.2.2.2.2.2.1, ?_, ?_, X7.out.2.2, SW.out.2.1.trans (X7.out.2.1.mono SW.out.2.1.size), SW.out.2.2.1.trans (X7.out.2.1.mono (by have := SW.out.2.2.1.size; simp at this; exact this))⟩
              · have e1 := ST.out.1
                rw [ST.out.2.1, EG.out.1] at e1
                simpa using e1
              · have := ST.out.2.2.2.2.2.2.2; omega
          | true =>
            have hob : out.length ≤ 200000 := by have := ST.out.2.2.2.2.2.2.2; omega
            have hb7 : w.heap.size + 1 ≤ w7.heap.size := by have h1 := SW.out.2.2.1.size; have h2 := X7.out.2.1.size; simp at h1; omega
            go_wp2_with (at_builtin; refine appG_one encC 58 37 32 (.agg #[.string ⟨#[]⟩, .int .u64 0, .int .u64 0]) rfl Tryz.info58 Tryz.underlying37 rfl (.tmp 48) (.tmp 50) rfl (w.heap.size + 1) _ out (p, o, o2) _ rfl X7.out.2.2 rfl (by omega) (by simp only [maxLen]; omega) hb7 _ rfl ?_; intro v8 w8 hown8 hbel8 _ _)
            go_roundg (n3 + n5)
            case measure => omega
            case rel =>
              have hs1 := SW.out.2.1.size
              refine ⟨a3, a5, n3, c3, n5, c5, rfl, rfl, rfl, k3, k5, by omega, by omega, by omega, by omega, t, t2, out ++ [(p, o, o2)], L3'.out.1, L5'.out.1, L3'.out.2 _ SW.out.2.2.2.1, L5'.out.2 _ SW.out.2.2.2.2, ST.out.2.2.2.1, ST.out.2.2.2.2.1, ST.out.2.2.2.2.2.1, ST.out.2.2.2.2.2.2.1, ?_, ?_, hown8, (SW.out.2.1.trans (X7.out.2.1.mono hs1)).trans (hbel8.mono (by omega)), (SW.out.2.2.1.trans (X7.out.2.1.mono (by have := SW.out.2.2.1.size; simp at this; exact this))).trans hbel8⟩
              · have e1 := ST.out.1
                rw [ST.out.2.1, EG.out.1, EG.out.2] at e1
                simpa using e1
              · have := ST.out.2.2.2.2.2.2.2
                rw [List.length_append, List.length_singleton]
                omega
      · have z1 : (0 : Int) < (n' : Int) := by omega
        go_wp2_with fail
        refine hle1.mono ?_
        rintro e w1 ⟨rfl, k1, hw1⟩
        have BB : Hid (Below wr.heap.size wr w1 ∧ w1.heap.size = wr.heap.size) := by rw [hw1]; exact ⟨below_drewN (Below.refl _ _) k1, rfl⟩
        clear hw1 hle1
        go_upto_region 4 with fail
        obtain ⟨w2, hw2⟩ : ∃ w2, w2 = w1.alloc (.cells #[.string ⟨p.toArray⟩, .int .u64 0, .int .u64 0] 58) := ⟨_, rfl⟩
        obtain ⟨R, hR⟩ : ∃ R, w1.heap.size = R := ⟨_, rfl⟩
        have X2 : Hid (Box3 w2 R 58 (tx p) (.int .u64 0) (.int .u64 0) ∧ Below wr.heap.size wr w2 ∧ wr.heap.size ≤ R) := by
          rw [hw2, ← hR]
          exact ⟨Box3.new w1 58 _ _ _, BB.out.1.trans ((bz1 w1 _).mono BB.out.1.size), BB.out.1.size⟩
        rw [← hw2, hR]
        clear hw2 hR BB
        obtain ⟨j0, j1, j2⟩ := X2.out.1.cells
        have ht1' := ht1 w2 ((SW.out.2.2.2.1.below SW.out.2.1).below X2.out.2.1)
        go_wp2_with fail
        refine ht1'.mono ?_
        rintro e w3 ⟨a3, n3, c3, rfl, L3, k3, k4, P3, q3, hw3⟩
        have X3 : Hid (Box3 w3 R 58 (tx p) (.int .u64 0) (.int .u64 0) ∧ Below wr.heap.size wr w3 ∧ wr.heap.size ≤ R) := by
          rw [hw3]
          exact ⟨X2.out.1.below (below_drewN (Below.refl _ _) q3), below_drewN X2.out.2.1 q3, X2.out.2.2⟩
        clear hw3 ht1' ht1 X2 j0 j1 j2
        obtain ⟨j0, j1, j2⟩ := X3.out.1.cells
        obtain ⟨t0, t1, t2'⟩ := X3.out.1.thaw
        have L3' : Hid (t.length = n3 ∧ ∀ u, RdG encE u a' al → RdG encE u a3 t) := ⟨L3, P3⟩
        clear L3 P3
        go_upto_region 5 with fail
        obtain ⟨w4, hw4⟩ : ∃ w4, w4 = w3.setCell ⟨R, 1, none⟩ (.int .u64 (o.toNat : Int)) := ⟨_, rfl⟩
        have X4 : Hid (Box3 w4 R 58 (tx p) (.int .u64 (o.toNat : Int)) (.int .u64 0) ∧ Below wr.heap.size wr w4 ∧ wr.heap.size ≤ R) := by
          rw [hw4]
          exact ⟨X3.out.1.put1 _, X3.out.2.1.trans ((turned_set 1 _).below X3.out.2.1.size (fun k hk e => by have := X3.out.2.2; omega)), X3.out.2.2⟩
        rw [← hw4]
        clear hw4 X3 j0 j1 j2 t0 t1 t2'
        obtain ⟨j0, j1, j2⟩ := X4.out.1.cells
        have ht2' := ht2 w4 ((SW.out.2.2.2.2.below SW.out.2.1).below X4.out.2.1)
        go_wp2_with fail
        refine ht2'.mono ?_
        rintro e w5 ⟨a5, n5, c5, rfl, L5, k5, k6, P5, q5, hw5⟩
        have X5 : Hid (Box3 w5 R 58 (tx p) (.int .u64 (o.toNat : Int)) (.int .u64 0) ∧ Below wr.heap.size wr w5 ∧ wr.heap.size ≤ R) := by
          rw [hw5]
          exact ⟨X4.out.1.below (below_drewN (Below.refl _ _) q5), below_drewN X4.out.2.1 q5, X4.out.2.2⟩
        clear hw5 ht2' ht2 X4 j0 j1 j2
        obtain ⟨j0, j1, j2⟩ := X5.out.1.cells
        obtain ⟨t0, t1, t2'⟩ := X5.out.1.thaw
        have L5' : Hid (t2.length = n5 ∧ ∀ u, RdG encE u b' bl → RdG encE u a5 t2) := ⟨L5, P5⟩
        clear L5 P5
        go_upto_region 6 with fail
        obtain ⟨w6, hw6⟩ : ∃ w6, w6 = w5.setCell ⟨R, 2, none⟩ (.int .u64 (o2.toNat : Int)) := ⟨_, rfl⟩
        have X6 : Hid (Box3 w6 R 58 (tx p) (.int .u64 (o.toNat : Int)) (.int .u64 (o2.toNat : Int)) ∧ Below wr.heap.size wr w6 ∧ wr.heap.size ≤ R) := by
          rw [hw6]
          exact ⟨X5.out.1.put2 _, X5.out.2.1.trans ((turned_set 2 _).below X5.out.2.1.size (fun k hk e => by have := X5.out.2.2; omega)), X5.out.2.2⟩
        rw [← hw6]
        clear hw6 X5 j0 j1 j2 t0 t1 t2'
        obtain ⟨j0, j1, j2⟩ := X6.out.1.cells
        have cl6 : w6.cell? ⟨w.heap.size, 0, none⟩ = some (.slice lo ln lc) := (X6.out.2.1.cell (p := ⟨w.heap.size, 0, none⟩) (by have := SW.out.2.2.1.size; simp at this; show w.heap.size < _; omega)).trans cl
        have hb3 : n3 ≤ 100000 ∧ n5 ≤ 100000 := ⟨by rw [← L3'.out.1]; exact TL.out.1, by rw [← L5'.out.1]; exact TL.out.2⟩
        have hln2 : n3 + n5 < gk := by have h1 := ST.out.2.2.1; have h2 := L3'.out.1; have h3 := L5'.out.1; omega
        clear cl
        by_cases ho : o = o2
        · subst ho
          go_wp2
          go_roundg (n3 + n5)
          case measure => omega
          case rel =>
            refine ⟨a3, a5, n3, c3, n5, c5, rfl, rfl, rfl, k3, k5, by omega, by omega, by omega, by omega, t, t2, out, L3'.out.1, L5'.out.1, L3'.out.2 _ SW.out.2.2.2.1, L5'.out.2 _ SW.out.2.2.2.2, ST.out.2.2.2.1, ST.out.2.2.2.2.1, ST.out.2.2.2.2.2.1, ST.out.2.2.2.2.2.2.1, ?_, ?_, SW.out.1.below X6.out.2.1, SW.out.2.1.trans (X6.out.2.1.mono SW.out.2.1.size), SW.out.2.2.1.trans (X6.out.2.1.mono (by have := SW.out.2.2.1.size; simp at this; exact this))⟩
            · have e1 := ST.out.1
              rw [ST.out.2.1] at e1
              simpa using e1
            · have := ST.out.2.2.2.2.2.2.2; omega
        · have ho1 : ((o.toNat : Int) != (o2.toNat : Int)) = true := by
            simp only [bne_iff_ne, ne_eq]
            intro e
            exact ho (UInt64.toNat_inj.1 (by omega))
          have ho2 : ((o.toNat : Int) == (o2.toNat : Int)) = false := by simpa using ho1
          obtain ⟨g, hg⟩ : ∃ g, hasS ls p = g := ⟨_, rfl⟩
          have hha := has_any (c := lc) p w6 ((LL.out.1.below SW.out.2.1).below X6.out.2.1) LL.out.2 (by omega) hpl g hg
          have EG : Hid (hasS ls p = g ∧ (o != o2) = true) := ⟨hg, by simpa using ho⟩
          clear hg
          go_wp2_with fail
          refine hha.mono ?_
          rintro e w7 ⟨rfl, B7⟩
          have X7 : Hid (Box3 w7 R 58 (tx p) (.int .u64 (o.toNat : Int)) (.int .u64 (o2.toNat : Int)) ∧ Below wr.heap.size wr w7 ∧ OwnG encC 58 w7 (w.heap.size + 1) _ out) := ⟨X6.out.1.below B7, X6.out.2.1.trans (B7.mono X6.out.2.1.size), (SW.out.1.below X6.out.2.1).below B7⟩
          clear B7 hha X6 j0 j1 j2 cl6
          obtain ⟨j0, j1, j2⟩ := X7.out.1.cells
          cases g with
          | false =>
            go_wp2
            go_roundg (n3 + n5)
            case measure => omega
            case rel =>
              refine ⟨a3, a5, n3, c3, n5, c5, rfl, rfl, rfl, k3, k5, by omega, by omega, by omega, by omega, t, t2, out, L3'.out.1, L5'.out.1, L3'.out.2 _ SW.out.2.2.2.1, L5'.out.2 _ SW.out.2.2.2.2, ST.out.2.2.2.1, ST.out.2.2.2.2.1, ST.out.2.2.2.2.2.1, ST.out.2.2.2.2.2.2.1, ?_, ?_, X7.out.2.2, SW.out.2.1.trans (X7.out.2.1.mono SW.out.2.1.size), SW.out.2.2.1.trans (X7.out.2.1.mono (by have := SW.out.2.2.1.size; simp at this; exact this))⟩
              · have e1 := ST.out.1
                rw [ST.out.2.1, EG.out.1] at e1
                simpa using e1
              · have := ST.out.2.2.2.2.2.2.2; omega
          | true =>
            have hob : out.length ≤ 200000 := by have := ST.out.2.2.2.2.2.2.2; omega
            have hb7 : w.heap.size + 1 ≤ w7.heap.size := by have h1 := SW.out.2.2.1.size; have h2 := X7.out.2.1.size; simp at h1; omega
            go_wp2_with (at_builtin; refine appG_one encC 58 37 32 (.agg #[.string ⟨#[]⟩, .int .u64 0, .int .u64 0]) rfl Tryz.info58 Tryz.underlying37 rfl (.tmp 48) (.tmp 50) rfl (w.heap.size + 1) _ out (p, o, o2) _ rfl X7.out.2.2 rfl (by omega) (by simp only [maxLen]; omega) hb7 _ rfl ?_; intro v8 w8 hown8 hbel8 _ _)
            go_roundg (n3 + n5)
            case measure => omega
            case rel =>
              have hs1 := SW.out.2.1.size
              refine ⟨a3, a5, n3, c3, n5, c5, rfl, rfl, rfl, k3, k5, by omega, by omega, by omega, by omega, t, t2, out ++ [(p, o, o2)], L3'.out.1, L5'.out.1, L3'.out.2 _ SW.out.2.2.2.1, L5'.out.2 _ SW.out.2.2.2.2, ST.out.2.2.2.1, ST.out.2.2.2.2.1, ST.out.2.2.2.2.2.1, ST.out.2.2.2.2.2.2.1, ?_, ?_, hown8, (SW.out.2.1.trans (X7.out.2.1.mono hs1)).trans (hbel8.mono (by omega)), (SW.out.2.2.1.trans (X7.out.2.1.mono (by have := SW.out.2.2.1.size; simp at this; exact this))).trans hbel8⟩
              · have e1 := ST.out.1
                rw [ST.out.2.1, EG.out.1, EG.out.2] at e1
                simpa using e1
              · have := ST.out.2.2.2.2.2.2.2
                rw [List.length_append, List.length_singleton]
                omega

end Go.Proofs.YtofbphmdkhocdaaGreat
