/-
  slices.partialInsertionSortOrdered at numbers of the kind uint64, by a contract: it does what the plain function does.
-/
import Derived.Test.YtjlokpjflgbgdaaGreatML43
set_option maxHeartbeats 6400000
set_option maxRecDepth 100000
namespace Go.Proofs.YtjlokpjflgbgdaaGreat
open Go.RowKit Go.Sort
theorem shid {p : Prop} (h : p) : Hid p := h
theorem ss_go {d : Array UInt64} {b i : Nat} (h : (decide (i < b) && !ltU d[i]! d[i - 1]!) = true) : scanSorted ltU d b i = scanSorted ltU d b (i + 1) := by
 rw [scanSorted, if_pos h]
theorem ss_end {d : Array UInt64} {b i : Nat} (h : (decide (i < b) && !ltU d[i]! d[i - 1]!) = false) : scanSorted ltU d b i = i := by
 rw [scanSorted, if_neg (by rw [h]; decide)]
theorem sd_step {d : Array UInt64} {t : Nat} (f : Bool) (hf : ltU d[t + 1]! d[t]! = f) : shiftDown ltU (t + 1) d = if f = true then shiftDown ltU t (swp d (t + 1) t) else d := by
 rw [shiftDown, hf]
 cases f <;> rfl
theorem su_step {d : Array UInt64} {b j : Nat} (h : j < b) (f : Bool) (hf : ltU d[j]! d[j - 1]! = f) : shiftUp ltU b j d = if f = true then shiftUp ltU b (j + 1) (swp d j (j - 1)) else d := by
 rw [shiftUp, if_pos h, hf]
 cases f <;> rfl
theorem su_stop {d : Array UInt64} {b j : Nat} (h : ¬ j < b) : shiftUp ltU b j d = d := by
 rw [shiftUp, if_neg h]
theorem pins_step {a b s i : Nat} {d : Array UInt64} {R : Array UInt64 × Bool} (h : partialIns ltU a b (s + 1) i d = R) : ∀ i2, scanSorted ltU d b i = i2 -> (i2 = b -> R = (d, true)) /\ (¬ i2 = b -> (b - a < 50 -> R = (d, false)) /\ (¬ b - a < 50 -> ∀ E2 E3, (if i2 - a ≥ 2 then shiftDown ltU (i2 - 1) (swp d i2 (i2 - 1)) else swp d i2 (i2 - 1)) = E2 -> (if b - i2 ≥ 2 then shiftUp ltU b (i2 + 1) E2 else E2) = E3 -> partialIns ltU a b s i2 E3 = R)) := by
 intro i2 hi
 rw [<- h, partialIns]
 simp only [hi]
 refine ⟨λ q => by rw [if_pos q], λ q => ⟨λ q2 => by rw [if_neg q, if_pos q2], λ q2 E2 E3 h2 h3 => ?_⟩⟩
 rw [if_neg q, if_neg q2, h2, h3]
theorem pins_any {w : World} {g n c a b : Nat} {d : Array UInt64} (h : SR w g d) (hd : d.size = n) (hab : a < b) (hb : b <= n) (hn : n <= 1000000000000) (R : Array UInt64 × Bool) (hr : partialInsertionSort ltU d a b = R) :
  Calls Tryz.prog 209 #[.slice (some ⟨g, 0, none⟩) n c, .int .i64 (a : Int), .int .i64 (b : Int)] w λ e w' => e = .returned (.bool R.2) /\ Hid (SR w' g R.1 /\ Turned (λ k => k = g) w w') := by
 obtain ⟨l, hl⟩ : ∃ l, b - a = l := ⟨_, rfl⟩
 have b1 : (b : Int) - (a : Int) = (l : Int) := by omega
 have bw : IntKind.i64.wrap (l : Int) = (l : Int) := by rw [IntKind.wrap_i64]; omega
 have W0 : Hid (SR w g d /\ d.size = n /\ Turned (λ k => k = g) w w /\ partialIns ltU a b 5 (a + 1) d = R) := ⟨h, hd, Turned.refl _ _, hr⟩
 have HL : Hid (b - a = l) := hl
 clear h hd hr hl
 go_enter Tryz.func209, Tryz.ntmps209
 go_wp2_with fail
 go_loopg [8, 7] 5 (λ k v8 v7 wr => ∃ t i : Nat, v8 = .int .i64 t /\ v7 = .int .i64 i /\ t + k = 5 /\ a + 1 <= i /\ i <= b /\ Hid (∃ e : Array UInt64, partialIns ltU a b k i e = R /\ SR wr g e /\ Turned (λ k => k = g) w wr /\ e.size = n))
 case atStart => exact ⟨0, a + 1, rfl, by go_num, rfl, by omega, by omega, d, W0.out.2.2.2, W0.out.1, W0.out.2.2.1, W0.out.2.1⟩
 case round =>
  obtain ⟨t0, i0, rfl, rfl, htk, u1, u2, HE⟩ := hrel
  obtain ⟨E, e1, V0⟩ : ∃ E, partialIns ltU a b gk i0 E = R /\ Hid (SR wr g E /\ Turned (λ k => k = g) w wr /\ E.size = n) := HE.out
  clear HE W0
  by_cases ht5 : t0 < 5
  ·obtain ⟨s, hs⟩ : ∃ s, s + 1 = gk := ⟨gk - 1, by omega⟩
   rw [<- hs] at e1
   have HS := shid (pins_step e1)
   rw [HL.out] at HS
   have v5 : (t0 : Int) < 5 := by omega
   have GO : Hid (s + 1 = gk /\ t0 + (s + 1) = 5) := ⟨hs, by omega⟩
   clear e1 hs htk
   obtain ⟨I, hI⟩ : ∃ I, scanSorted ltU E b i0 = I := ⟨_, rfl⟩
   have HI : Hid (scanSorted ltU E b i0 = I) := hI
   clear hI
   go_wp2_with fail
   go_loopg [7] b (λ k v wr => ∃ i : Nat, v = .int .i64 i /\ b <= i + k /\ a + 1 <= i /\ i <= b /\ Hid (scanSorted ltU E b i = I /\ SR wr g E /\ Turned (λ k => k = g) w wr /\ E.size = n))
   case atStart => exact ⟨i0, rfl, by omega, by omega, by omega, HI.out, V0.out⟩
   case round =>
    obtain ⟨i, rfl, hk, hai, hib, HR⟩ := hrel
    obtain ⟨ii, hii⟩ : ∃ ii, i - 1 = ii := ⟨_, rfl⟩
    have s1 : (i : Int) - 1 = (ii : Int) := by omega
    have s2 : IntKind.i64.wrap (ii : Int) = (ii : Int) := by rw [IntKind.wrap_i64]; omega
    have hI1 : ii + 1 = i := by omega
    go_upto_region 5 with fail
    go_cut [32] from 17 to 34 (λ tv u => ∃ v f, v = u /\ tv = .bool f /\ Hid ((decide (i < b) && !ltU E[i]! E[ii]!) = f /\ SR v g E /\ Turned (λ k => k = g) w v))
    case first =>
     by_cases hij : i < b
     ·obtain ⟨x, hx⟩ : ∃ x, E[i]! = x := ⟨_, rfl⟩
      obtain ⟨y, hy⟩ : ∃ y, E[ii]! = y := ⟨_, rfl⟩
      obtain ⟨f0, hf⟩ : ∃ f0, ltU x y = f0 := ⟨_, rfl⟩
      have hs := HR.out.2.2.2
      have q0 : ∀ u : SW (Grew wr), u.w.cell? ⟨g, i, none⟩ = some (uv x) := λ u => by rw [<- hx]; exact (HR.out.2.1.below u.ok).cell (by omega)
      have q1 : ∀ u : SW (Grew wr), u.w.cell? ⟨g, ii, none⟩ = some (uv y) := λ u => by rw [<- hy]; exact (HR.out.2.1.below u.ok).cell (by omega)
      have hL := λ u => less_cls (wr := wr) x y f0 hf u
      have NE : Nonempty (SW (Grew wr)) := ⟨⟨wr, Below.refl _ wr⟩⟩
      have j4 : (i : Int) < (n : Int) := by omega
      have j5 : (ii : Int) < (n : Int) := by omega
      have j6 : (0 : Int) <= (i : Int) := by omega
      have j7 : (0 : Int) <= (ii : Int) := by omega
      have j1 : (i : Int) < (b : Int) := by omega
      have j2 : decide ((i : Int) < (b : Int)) = true := by simpa using j1
      have j3 : decide (i < b) = true := by simpa using hij
      have KE : Hid ((decide (i < b) && !ltU E[i]! E[ii]!) = (!f0)) := by
       show _ = _
       simp only [hx, hy, hf, j3, Bool.true_and]
      clear hx hy hf hs
      cases f0 with
      | true =>
       refine wp_region_class (S := Grew wr) (by kernel_rfl) (by kernel_rfl) (Below.refl _ wr).drew ?_
       repeat (go_big_quiet_step (with_reducible exact hL _))
       refine wpQuiet_nil ?_
       intro _ hw'
       obtain ⟨u, hw''⟩ := hw'
       subst hw''
       go_wp2_with fail
       go_meet
       exact ⟨_, _, rfl, rfl, KE.out, HR.out.2.1.below u.ok, HR.out.2.2.1.trans (Turned.ofBelow u.ok) (λ _ _ q => q)⟩
      | false =>
       refine wp_region_class (S := Grew wr) (by kernel_rfl) (by kernel_rfl) (Below.refl _ wr).drew ?_
       repeat (go_big_quiet_step (with_reducible exact hL _))
       refine wpQuiet_nil ?_
       intro _ hw'
       obtain ⟨u, hw''⟩ := hw'
       subst hw''
       go_wp2_with fail
       go_meet
       exact ⟨_, _, rfl, rfl, KE.out, HR.out.2.1.below u.ok, HR.out.2.2.1.trans (Turned.ofBelow u.ok) (λ _ _ q => q)⟩
     ·have j1 : ¬ (i : Int) < (b : Int) := by omega
      have j2 : decide ((i : Int) < (b : Int)) = false := by simpa using j1
      have KE : Hid ((decide (i < b) && !ltU E[i]! E[ii]!) = false) := by
       show _ = _
       simp [hij]
      go_quiet (fail)
      go_wp2_with fail
      go_meet
      have hq := below_drewN (Below.refl wr.heap.size wr) nq
      exact ⟨_, false, rfl, rfl, KE.out, HR.out.2.1.below hq, HR.out.2.2.1.trans (Turned.ofBelow (S := λ _ => False) hq) (λ _ _ q => q.elim)⟩
    case rest =>
     obtain ⟨v, f, rfl, rfl, HC⟩ := hcut
     cases f with
     | true =>
      have hle : i < b := by
       have := HC.out.1
       simp only [Bool.and_eq_true, decide_eq_true_eq] at this
       exact this.1
      have HN : Hid (scanSorted ltU E b (i + 1) = I) := by
       have := HR.out.1
       rw [ss_go (by rw [hii]; exact HC.out.1)] at this
       exact this
      have HZ : Hid (E.size = n) := HR.out.2.2.2
      clear HR
      go_wp2
      go_roundg (gk - 1)
      case measure => omega
      case rel => exact ⟨i + 1, by go_num, by omega, by omega, by omega, HN.out, HC.out.2.1, HC.out.2.2, HZ.out⟩
     | false =>
      have FI : Hid (scanSorted ltU E b i0 = i) := by
       have := HR.out.1
       rw [ss_end (by rw [hii]; exact HC.out.1)] at this
       exact HI.out.trans this.symm
      have Wd : Hid (SR v g E /\ E.size = n /\ Turned (λ k => k = g) w v) := ⟨HC.out.2.1, HR.out.2.2.2, HC.out.2.2⟩
      clear HR HC HI hk
      have hps := HS.out i FI.out
      clear HS FI
      by_cases hib2 : i = b
      ·have FIN : Hid (R = (E, true)) := hps.1 hib2
       have e1 : (i : Int) = (b : Int) := by omega
       clear hps
       go_wp2
       go_ret
       rw [FIN.out]
       exact ⟨rfl, Wd.out.1, Wd.out.2.2⟩
      ·have e1 : ¬ (i : Int) = (b : Int) := by omega
       have hps2 := hps.2 hib2
       clear hps
       by_cases h50 : l < 50
       ·have FIN : Hid (R = (E, false)) := hps2.1 h50
        have e2 : (l : Int) < 50 := by omega
        clear hps2
        go_wp2
        go_ret
        rw [FIN.out]
        exact ⟨rfl, Wd.out.1, Wd.out.2.2⟩
       ·have e2 : ¬ (l : Int) < 50 := by omega
        have hps3 := hps2.2 h50
        rw [hii] at hps3
        obtain ⟨E1, hE1⟩ : ∃ E1, swp E i ii = E1 := ⟨_, rfl⟩
        rw [hE1] at hps3
        obtain ⟨E2, hE2⟩ : ∃ E2, (if i - a ≥ 2 then shiftDown ltU ii E1 else E1) = E2 := ⟨_, rfl⟩
        obtain ⟨E3, hE3⟩ : ∃ E3, (if b - i ≥ 2 then shiftUp ltU b (i + 1) E2 else E2) = E3 := ⟨_, rfl⟩
        have PR : Hid (partialIns ltU a b s i E3 = R) := hps3 E2 E3 hE2 hE3
        have Q1 : Hid (swp E i ii = E1 /\ (if i - a ≥ 2 then shiftDown ltU ii E1 else E1) = E2 /\ (if b - i ≥ 2 then shiftUp ltU b (i + 1) E2 else E2) = E3) := ⟨hE1, hE2, hE3⟩
        obtain ⟨m1, hm1⟩ : ∃ m1, i - a = m1 := ⟨_, rfl⟩
        obtain ⟨m2, hm2⟩ : ∃ m2, b - i = m2 := ⟨_, rfl⟩
        have t1 : (i : Int) - (a : Int) = (m1 : Int) := by omega
        have t2 : (b : Int) - (i : Int) = (m2 : Int) := by omega
        have t3 : IntKind.i64.wrap (m1 : Int) = (m1 : Int) := by rw [IntKind.wrap_i64]; omega
        have t4 : IntKind.i64.wrap (m2 : Int) = (m2 : Int) := by rw [IntKind.wrap_i64]; omega
        rw [hm1, hm2] at Q1
        clear hps2 hps3 hE1 hE2 hE3 hii hm1 hm2
        obtain ⟨x, hx⟩ : ∃ x, E[i]! = x := ⟨_, rfl⟩
        obtain ⟨y, hy⟩ : ∃ y, E[ii]! = y := ⟨_, rfl⟩
        have hsz := Wd.out.2.1
        have c0 : v.cell? ⟨g, i, none⟩ = some (uv x) := by rw [<- hx]; exact Wd.out.1.cell (by omega)
        have c1 : v.cell? ⟨g, ii, none⟩ = some (uv y) := by rw [<- hy]; exact Wd.out.1.cell (by omega)
        have f0 := Wd.out.1.thaw i
        have f1 := Wd.out.1.thaw ii
        have z0 : (0 : Int) <= (i : Int) := by omega
        have z1 : (0 : Int) <= (ii : Int) := by omega
        have z2 : (i : Int) < (n : Int) := by omega
        have z3 : (ii : Int) < (n : Int) := by omega
        have nt : ¬ i = ii := by omega
        have nt2 : ¬ ii = i := λ e => nt e.symm
        have HXY : Hid (E[i]! = x /\ E[ii]! = y) := ⟨hx, hy⟩
        clear hx hy hsz
        go_wp2_with fail
        go_region
        have W1 : Hid (SR (((v.setCell ⟨g, i, none⟩ (.int .u64 (y.toNat : Int))).setCell ⟨g, ii, none⟩ (.int .u64 (x.toNat : Int))).drew) g E1 /\ E1.size = n /\ Turned (λ k => k = g) w (((v.setCell ⟨g, i, none⟩ (.int .u64 (y.toNat : Int))).setCell ⟨g, ii, none⟩ (.int .u64 (x.toNat : Int))).drew)) := by
         rw [<- Q1.out.1]
         exact ⟨Wd.out.1.drewSwap HXY.out.1 HXY.out.2, by rw [swp_size]; exact Wd.out.2.1, turnSwap Wd.out.2.2 _ _ _ _⟩
        obtain ⟨w1, hw1⟩ : ∃ w1, w1 = ((v.setCell ⟨g, i, none⟩ (.int .u64 (y.toNat : Int))).setCell ⟨g, ii, none⟩ (.int .u64 (x.toNat : Int))).drew := ⟨_, rfl⟩
        rw [<- hw1] at W1 ⊢
        clear hw1 HXY c0 c1 f0 f1 z0 z1 z2 z3 nt nt2 Wd e1 e2
        obtain ⟨bm, hbm⟩ : ∃ bm, decide ((2 : Int) <= (m1 : Int)) = bm := ⟨_, rfl⟩
        have HBM : Hid (decide ((2 : Int) <= (m1 : Int)) = bm) := hbm
        go_upto_if 61 with fail
        clear hbm
        go_cut [9] from 13 to 132 (λ jv u => ∃ v, v = u /\ Hid (SR v g E2 /\ E2.size = n /\ Turned (λ k => k = g) w v))
        case first =>
         have hq2 : Hid ((if m1 ≥ 2 then shiftDown ltU ii E1 else E1) = E2) := Q1.out.2.1
         clear PR Q1 t2 t4
         cases bm with
         | true =>
          have hm : 2 <= m1 := by have := of_decide_eq_true HBM.out; omega
          have hq3 : Hid (shiftDown ltU ii E1 = E2) := by
           have := hq2.out
           rw [if_pos hm] at this
           exact this
          clear hq2
          go_wp2_with fail
          go_loopg [9] ii (λ k v wr => v = .int .i64 (k : Int) /\ k <= ii /\ Hid (∃ e : Array UInt64, shiftDown ltU k e = E2 /\ SR wr g e /\ Turned (λ k => k = g) w wr /\ e.size = n))
          case atStart => exact ⟨rfl, Nat.le_refl _, E1, hq3.out, W1.out.1, W1.out.2.2, W1.out.2.1⟩
          case round =>
           obtain ⟨rfl, hkl, HE⟩ := hrel
           obtain ⟨G, HR⟩ : ∃ G, Hid (shiftDown ltU gk G = E2 /\ SR wr g G /\ Turned (λ k => k = g) w wr /\ G.size = n) := HE.out
           clear HE hq3 W1
           by_cases hz : 1 <= gk
           ·obtain ⟨t, ht⟩ : ∃ t, t + 1 = gk := ⟨gk - 1, by omega⟩
            have j1 : (1 : Int) <= (gk : Int) := by omega
            have j2 : (gk : Int) - 1 = (t : Int) := by omega
            have j3 : IntKind.i64.wrap (t : Int) = (t : Int) := by rw [IntKind.wrap_i64]; omega
            obtain ⟨x, hx⟩ : ∃ x, G[gk]! = x := ⟨_, rfl⟩
            obtain ⟨y, hy⟩ : ∃ y, G[t]! = y := ⟨_, rfl⟩
            obtain ⟨f0, hf⟩ : ∃ f0, ltU x y = f0 := ⟨_, rfl⟩
            have hs := HR.out.2.2.2
            have q0 : ∀ u : SW (Grew wr), u.w.cell? ⟨g, gk, none⟩ = some (uv x) := λ u => by rw [<- hx]; exact (HR.out.2.1.below u.ok).cell (by omega)
            have q1 : ∀ u : SW (Grew wr), u.w.cell? ⟨g, t, none⟩ = some (uv y) := λ u => by rw [<- hy]; exact (HR.out.2.1.below u.ok).cell (by omega)
            have hL := λ u => less_cls (wr := wr) x y f0 hf u
            have NE : Nonempty (SW (Grew wr)) := ⟨⟨wr, Below.refl _ wr⟩⟩
            have j4 : (gk : Int) < (n : Int) := by omega
            have j5 : (t : Int) < (n : Int) := by omega
            have j6 : (0 : Int) <= (gk : Int) := by omega
            have j7 : (0 : Int) <= (t : Int) := by omega
            have ST : Hid ((if f0 = true then shiftDown ltU t (swp G gk t) else G) = E2 /\ G[gk]! = x /\ G[t]! = y /\ t + 1 = gk) := by
             refine ⟨?_, hx, hy, ht⟩
             rw [<- HR.out.1, <- ht]
             exact (sd_step f0 (by rw [ht, hx, hy]; exact hf)).symm
            clear hx hy hf hs ht
            cases f0 with
            | true =>
             go_upto_region 16 with fail
             refine wp_region_class (S := Grew wr) (by kernel_rfl) (by kernel_rfl) (Below.refl _ wr).drew ?_
             repeat (go_big_quiet_step (with_reducible exact hL _))
             refine wpQuiet_nil ?_
             intro _ hw'
             obtain ⟨u, hw''⟩ := hw'
             subst hw''
             obtain ⟨w4, hw4⟩ : ∃ w4, w4 = u.w := ⟨_, rfl⟩
             have Wd : Hid (SR w4 g G /\ G.size = n /\ Turned (λ k => k = g) w w4) := by
              rw [hw4]
              exact ⟨HR.out.2.1.below u.ok, HR.out.2.2.2, HR.out.2.2.1.trans (Turned.ofBelow u.ok) (λ _ _ q => q)⟩
             rw [<- hw4]
             clear hL q0 q1 NE hw4 u HR
             have c0 : w4.cell? ⟨g, gk, none⟩ = some (uv x) := by rw [<- ST.out.2.1]; exact Wd.out.1.cell (by have := Wd.out.2.1; omega)
             have c1 : w4.cell? ⟨g, t, none⟩ = some (uv y) := by rw [<- ST.out.2.2.1]; exact Wd.out.1.cell (by have := Wd.out.2.1; omega)
             have f0 := Wd.out.1.thaw gk
             have f1 := Wd.out.1.thaw t
             have nt : ¬ gk = t := by have := ST.out.2.2.2; omega
             have nt2 : ¬ t = gk := λ e => nt e.symm
             go_wp2_with fail
             go_region
             go_wp2
             go_roundg t
             case measure => have := ST.out.2.2.2; omega
             case rel => exact ⟨by go_num, by have := ST.out.2.2.2; omega, swp G gk t, by have := ST.out.1; simpa using this, Wd.out.1.drewSwap ST.out.2.1 ST.out.2.2.1, turnSwap Wd.out.2.2 _ _ _ _, by rw [swp_size]; exact Wd.out.2.1⟩
            | false =>
             go_upto_region 16 with fail
             refine wp_region_class (S := Grew wr) (by kernel_rfl) (by kernel_rfl) (Below.refl _ wr).drew ?_
             repeat (go_big_quiet_step (with_reducible exact hL _))
             refine wpQuiet_nil ?_
             intro _ hw'
             obtain ⟨u, hw''⟩ := hw'
             subst hw''
             go_wp2_with fail
             go_meet
             have hG : G = E2 := by have := ST.out.1; simpa using this
             exact ⟨_, rfl, by rw [<- hG]; exact HR.out.2.1.below u.ok, by rw [<- hG]; exact HR.out.2.2.2, HR.out.2.2.1.trans (Turned.ofBelow u.ok) (λ _ _ q => q)⟩
           ·have j1 : ¬ (1 : Int) <= (gk : Int) := by omega
            have hG : Hid (G = E2) := by
             have e0 : gk = 0 := by omega
             have := HR.out.1
             rw [e0] at this
             exact this
            go_wp2_with fail
            go_meet
            exact ⟨_, rfl, by rw [<- hG.out]; exact HR.out.2.1, by rw [<- hG.out]; exact HR.out.2.2.2, HR.out.2.2.1⟩
         | false =>
          have hm : ¬ 2 <= m1 := by have := of_decide_eq_false HBM.out; omega
          have hq3 : Hid (E1 = E2) := by
           have := hq2.out
           rw [if_neg hm] at this
           exact this
          clear hq2
          go_wp2_with fail
          go_meet
          exact ⟨_, rfl, by rw [<- hq3.out]; exact W1.out⟩
        case rest =>
         obtain ⟨v, rfl, W2⟩ := hcut
         clear W1
         have hq2 : Hid ((if m2 ≥ 2 then shiftUp ltU b (i + 1) E2 else E2) = E3) := Q1.out.2.2
         clear Q1 t1 t3
         by_cases hm : 2 <= m2
         ·have hmi : (2 : Int) <= (m2 : Int) := by omega
          have hq3 : Hid (shiftUp ltU b (i + 1) E2 = E3) := by
           have := hq2.out
           rw [if_pos hm] at this
           exact this
          clear hq2
          go_wp2_with fail
          go_loopg [10] b (λ k v wr => ∃ j : Nat, v = .int .i64 (j : Int) /\ b <= j + k /\ j <= b /\ i + 1 <= j /\ Hid (∃ e : Array UInt64, shiftUp ltU b j e = E3 /\ SR wr g e /\ Turned (λ k => k = g) w wr /\ e.size = n))
          case atStart => exact ⟨i + 1, by go_num, by omega, by omega, Nat.le_refl _, E2, hq3.out, W2.out.1, W2.out.2.2, W2.out.2.1⟩
          case round =>
           obtain ⟨j, rfl, hjk, hjb, hij2, HE⟩ := hrel
           obtain ⟨G, HR⟩ : ∃ G, Hid (shiftUp ltU b j G = E3 /\ SR wr g G /\ Turned (λ k => k = g) w wr /\ G.size = n) := HE.out
           clear HE hq3 W2
           by_cases hz : j < b
           ·obtain ⟨t, ht⟩ : ∃ t, j - 1 = t := ⟨_, rfl⟩
            have ht1 : t + 1 = j := by omega
            have j1 : (j : Int) < (b : Int) := by omega
            have j2 : (j : Int) - 1 = (t : Int) := by omega
            have j3 : IntKind.i64.wrap (t : Int) = (t : Int) := by rw [IntKind.wrap_i64]; omega
            obtain ⟨x, hx⟩ : ∃ x, G[j]! = x := ⟨_, rfl⟩
            obtain ⟨y, hy⟩ : ∃ y, G[t]! = y := ⟨_, rfl⟩
            obtain ⟨f0, hf⟩ : ∃ f0, ltU x y = f0 := ⟨_, rfl⟩
            have hs := HR.out.2.2.2
            have q0 : ∀ u : SW (Grew wr), u.w.cell? ⟨g, j, none⟩ = some (uv x) := λ u => by rw [<- hx]; exact (HR.out.2.1.below u.ok).cell (by omega)
            have q1 : ∀ u : SW (Grew wr), u.w.cell? ⟨g, t, none⟩ = some (uv y) := λ u => by rw [<- hy]; exact (HR.out.2.1.below u.ok).cell (by omega)
            have hL := λ u => less_cls (wr := wr) x y f0 hf u
            have NE : Nonempty (SW (Grew wr)) := ⟨⟨wr, Below.refl _ wr⟩⟩
            have j4 : (j : Int) < (n : Int) := by omega
            have j5 : (t : Int) < (n : Int) := by omega
            have j6 : (0 : Int) <= (j : Int) := by omega
            have j7 : (0 : Int) <= (t : Int) := by omega
            have ST : Hid ((if f0 = true then shiftUp ltU b (j + 1) (swp G j t) else G) = E3 /\ G[j]! = x /\ G[t]! = y /\ t + 1 = j) := by
             refine ⟨?_, hx, hy, ht1⟩
             rw [<- HR.out.1, <- ht]
             exact (su_step hz f0 (by rw [ht, hx, hy]; exact hf)).symm
            clear hx hy hf hs ht ht1
            cases f0 with
            | true =>
             go_upto_region 22 with fail
             refine wp_region_class (S := Grew wr) (by kernel_rfl) (by kernel_rfl) (Below.refl _ wr).drew ?_
             repeat (go_big_quiet_step (with_reducible exact hL _))
             refine wpQuiet_nil ?_
             intro _ hw'
             obtain ⟨u, hw''⟩ := hw'
             subst hw''
             obtain ⟨w4, hw4⟩ : ∃ w4, w4 = u.w := ⟨_, rfl⟩
             have Wd : Hid (SR w4 g G /\ G.size = n /\ Turned (λ k => k = g) w w4) := by
              rw [hw4]
              exact ⟨HR.out.2.1.below u.ok, HR.out.2.2.2, HR.out.2.2.1.trans (Turned.ofBelow u.ok) (λ _ _ q => q)⟩
             rw [<- hw4]
             clear hL q0 q1 NE hw4 u HR
             have c0 : w4.cell? ⟨g, j, none⟩ = some (uv x) := by rw [<- ST.out.2.1]; exact Wd.out.1.cell (by have := Wd.out.2.1; omega)
             have c1 : w4.cell? ⟨g, t, none⟩ = some (uv y) := by rw [<- ST.out.2.2.1]; exact Wd.out.1.cell (by have := Wd.out.2.1; omega)
             have f0 := Wd.out.1.thaw j
             have f1 := Wd.out.1.thaw t
             have nt : ¬ j = t := by have := ST.out.2.2.2; omega
             have nt2 : ¬ t = j := λ e => nt e.symm
             go_wp2_with fail
             go_region
             go_wp2
             go_roundg (gk - 1)
             case measure => omega
             case rel => exact ⟨j + 1, by go_num, by omega, by omega, by omega, swp G j t, by have := ST.out.1; simpa using this, Wd.out.1.drewSwap ST.out.2.1 ST.out.2.2.1, turnSwap Wd.out.2.2 _ _ _ _, by rw [swp_size]; exact Wd.out.2.1⟩
            | false =>
             go_upto_region 22 with fail
             refine wp_region_class (S := Grew wr) (by kernel_rfl) (by kernel_rfl) (Below.refl _ wr).drew ?_
             repeat (go_big_quiet_step (with_reducible exact hL _))
             refine wpQuiet_nil ?_
             intro _ hw'
             obtain ⟨u, hw''⟩ := hw'
             subst hw''
             have hG : G = E3 := by have := ST.out.1; simpa using this
             have W3 : Hid (SR u.w g E3 /\ E3.size = n /\ Turned (λ k => k = g) w u.w) := ⟨by rw [<- hG]; exact HR.out.2.1.below u.ok, by rw [<- hG]; exact HR.out.2.2.2, HR.out.2.2.1.trans (Turned.ofBelow u.ok) (λ _ _ q => q)⟩
             clear hG
             go_wp2
             go_roundg s
             case measure => have := GO.out; omega
             case rel => exact ⟨t0 + 1, i, by go_num, rfl, by have := GO.out; omega, by omega, by omega, E3, PR.out, W3.out.1, W3.out.2.2, W3.out.2.1⟩
           ·have j1 : ¬ (j : Int) < (b : Int) := by omega
            have hG : Hid (G = E3) := by
             have := HR.out.1
             rw [su_stop hz] at this
             exact this
            have W3 : Hid (SR wr g E3 /\ E3.size = n /\ Turned (λ k => k = g) w wr) := ⟨by rw [<- hG.out]; exact HR.out.2.1, by rw [<- hG.out]; exact HR.out.2.2.2, HR.out.2.2.1⟩
            go_wp2
            go_roundg s
            case measure => have := GO.out; omega
            case rel => exact ⟨t0 + 1, i, by go_num, rfl, by have := GO.out; omega, by omega, by omega, E3, PR.out, W3.out.1, W3.out.2.2, W3.out.2.1⟩
         ·have hmi : ¬ (2 : Int) <= (m2 : Int) := by omega
          have hq3 : Hid (E2 = E3) := by
           have := hq2.out
           rw [if_neg hm] at this
           exact this
          clear hq2
          have W3 : Hid (SR v g E3 /\ E3.size = n /\ Turned (λ k => k = g) w v) := ⟨(by rw [<- hq3.out]; exact W2.out.1), (by rw [<- hq3.out]; exact W2.out.2.1), W2.out.2.2⟩
          go_wp2
          go_roundg s
          case measure => have := GO.out; omega
          case rel => exact ⟨t0 + 1, i, by go_num, rfl, by have := GO.out; omega, by omega, by omega, E3, PR.out, W3.out.1, W3.out.2.2, W3.out.2.1⟩
  ·have v5 : ¬ (t0 : Int) < 5 := by omega
   have FIN : Hid (R = (E, false)) := by
    have e0 : gk = 0 := by omega
    rw [e0] at e1
    exact e1.symm
   clear e1
   go_wp2
   go_ret
   rw [FIN.out]
   exact ⟨rfl, V0.out.1, V0.out.2.1⟩
end Go.Proofs.YtjlokpjflgbgdaaGreat
