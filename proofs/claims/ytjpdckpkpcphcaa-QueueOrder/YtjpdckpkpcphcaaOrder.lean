/-
  The walk of the law QueueOrder: whatever items came in, it returns true and leaves all that was there as it was. No condition.
-/
import Derived.Test.YtjpdckpkpcphcaaItems
namespace Go.Proofs.Ytjpdckpkpcphcaa
open Go.RowKit

theorem take_el {xs : List It} {i : Nat} {x : It} (h : i < xs.length) (hx : el xs i = x) : xs.take i ++ [x] = xs.take (i + 1) := by
  rw [List.take_add_one, el_some h, hx]; rfl

theorem take_rev {xs : List It} {i : Nat} {y : It} (h : i < xs.length) (hy : el xs (xs.length - 1 - i) = y) : xs.reverse.take i ++ [y] = xs.reverse.take (i + 1) := by
  refine take_el (by simpa using h) ?_
  rw [← hy]
  simp only [el, List.getD_eq_getElem?_getD, List.getElem?_reverse h]

theorem perm_empty {xs ys : List It} (h : xs.Perm ys) : xs.isEmpty = ys.isEmpty := by
  have := h.length_eq
  cases xs <;> cases ys <;> simp_all

/-- Two queues of the same items, and the row that the second was made of, all apart. -/
structure PQI (W w : World) (base bp bq : Nat) (iv : Value) (js : List It) (vp vq : Value) (zp zq : List It) (n : Nat) : Prop where
  que : QAt w base bp vp zp
  rq : RQ W w base bq 31 iv js vq zq
  low : base ≤ bp
  same : zp.Perm zq
  pp : Pile zp
  pq : Pile zq
  len : zp.length = n
  apart : ∀ k, QSet bp vp k → ¬ QSet bq vq k
  apart2 : ∀ g, iv.ownBlock = some g → ¬ QSet bp vp g

theorem PQI.below {W w w' : World} {base bp bq : Nat} {iv : Value} {js : List It} {vp vq : Value} {zp zq : List It} {n : Nat} (h : PQI W w base bp bq iv js vp vq zp zq n) (hb : Below w.heap.size w w') : PQI W w' base bp bq iv js vp vq zp zq n :=
  ⟨h.que.below hb, h.rq.below hb, h.low, h.same, h.pp, h.pq, h.len, h.apart, h.apart2⟩

/-- Behind New of the row. -/
theorem PQI.start {W w w' : World} {base bp : Nat} {iv : Value} {js : List It} {vp vq : Value} {zp zq : List It} (h : RQ W w base bp 31 iv js vp zp) (hp : zp.Perm js) (hP : Pile zp)
    (q1 : QAt w' base w.heap.size vq zq) (q2 : zq.Perm js) (q3 : Pile zq) (q4 : Below w.heap.size w w') (q5 : ∀ g, vq.ownBlock = some g → w.heap.size < g) : PQI W w' base bp w.heap.size iv js vp vq zp zq js.length := by
  have hb := h.below q4
  have ap : ∀ k, k < w.heap.size → ¬ QSet w.heap.size vq k := by
    rintro k hk (q | q)
    · omega
    · have := q5 k q; omega
  refine ⟨hb.que, ⟨hb.row, q1, hb.bel, h.big, fun g hg => ap g (h.row.lt g hg).2⟩, h.low, hp.trans q2.symm, hP, q3, hp.length_eq, fun k hk => ap k (h.que.set_lt k hk), h.apart⟩

/-- Behind Pop of the first queue: the second and the row are as they were. -/
theorem PQI.first {W w w2 : World} {base bp bq : Nat} {iv : Value} {js : List It} {vp vq : Value} {zp zq : List It} {n : Nat} (h : PQI W w base bp bq iv js vp vq zp zq n) (t : Turned (QSet bp vp) w w2) : RQ W w2 base bq 31 iv js vq zq :=
  ⟨ownsRow_turned h.rq.row t h.apart2, h.rq.que.turned t (fun k hk q => h.apart k q hk), h.rq.bel.trans (t.below h.rq.big (h.que.own_set h.low)), h.rq.low, h.rq.apart⟩

/-- Behind both. -/
theorem PQI.second {W w w2 w3 w4 : World} {base bp bq : Nat} {iv : Value} {js : List It} {vp vq vp' vq' : Value} {zp zq zp' zq' : List It} {n : Nat} (h : PQI W w base bp bq iv js vp vq zp zq n)
    (t : Turned (QSet bp vp) w w2) (p1 : QAt w2 base bp vp' zp') (p2 : zp'.Perm zp.tail) (p3 : Pile zp') (p5 : vp'.ownBlock = vp.ownBlock) (hb : Below w2.heap.size w2 w3)
    (q1 : QAt w4 base bq vq' zq') (q2 : zq'.Perm zq.tail) (q3 : Pile zq') (q4 : Turned (QSet bq vq) w3 w4) (q5 : vq'.ownBlock = vq.ownBlock) : PQI W w4 base bp bq iv js vp' vq' zp' zq' (n - 1) := by
  have hp : QSet bp vp' = QSet bp vp := by funext k; simp [QSet, p5]
  have hq : QSet bq vq' = QSet bq vq := by funext k; simp [QSet, q5]
  refine ⟨(p1.below hb).turned q4 (fun k hk => by rw [hp] at hk; exact h.apart k hk), ((h.first t).below hb).turn q1 q4 (.inl q5), h.low, p2.trans ((perm_tail h.pp h.pq h.same).trans q2.symm), p3, q3, ?_, by rw [hp, hq]; exact h.apart, by rw [hp]; exact h.apart2⟩
  rw [p2.length_eq, List.length_tail, h.len]

set_option maxHeartbeats 8000000 in
set_option maxRecDepth 1000000 in
theorem order_walk (ao : Option Addr) (n cap : Nat) (xs : List It) (W : World) (hl : xs.length = n) (hcn : n ≤ 9223372036854775807) (hin : ItemsIn W ao xs) :
    Calls Try.prog 5 #[.slice ao n cap] W fun e w' => e = .returned (.bool true) ∧ Below W.heap.size W w' := by
  have H : Hid (xs.length = n ∧ ItemsIn W ao xs) := ⟨hl, hin⟩
  obtain ⟨i0, hi0, hz0, hz1, hz2⟩ := info_parts Try.info31
  clear hl hin
  go_enter Try.func5, Try.ntmps5
  go_wp2_with fail
  refine (awake_any _).mono ?_
  rintro e w1 ⟨rfl, hb1⟩
  have B1 : Hid (Below W.heap.size W w1) := hb1
  clear hb1
  by_cases hbig : 1000 < n
  · have hbi : (1000 : Int) < (n : Int) := by omega
    go_wp2
    go_ret
    exact ⟨rfl, B1.out⟩
  · have hbi : decide ((1000 : Int) < (n : Int)) = false := decide_eq_false (by omega)
    go_wp2_with fail
    refine (new_any (base := W.heap.size) (ys := []) w1 (World.ownsRow_nil _ _ _ _) (by decide) B1.out.size).mono ?_
    rintro e w2 ⟨rfl, vp, zs, q1, q2, q3, q4, _⟩
    obtain rfl : zs = [] := List.eq_nil_of_length_eq_zero q2.length_eq
    have A : Hid (RQ W w2 W.heap.size w1.heap.size 31 (.slice none 0 0) [] vp []) := ⟨World.ownsRow_nil _ _ _ _, q1, B1.out.trans (q4.mono B1.out.size), B1.out.size, fun g hg => by simp [Value.ownBlock] at hg⟩
    clear q1 q2 q3 q4
    go_wp2
    go_loopg [3, 5] n (fun k iv s wr => ∃ (i : Nat) (v : Value) (zs : List It), s = .int .i64 i ∧ i ≤ n ∧ n - i ≤ k ∧ Hid (RQ W wr W.heap.size w1.heap.size 31 iv (xs.take i) v zs ∧ zs.Perm (xs.reverse.take i) ∧ Pile zs))
    case atStart => exact ⟨0, vp, [], rfl, by omega, by omega, ⟨A.out, by simp, pile_nil⟩⟩
    case round =>
      obtain ⟨i, v, zs, rfl, hin, hik, HR⟩ := hrel
      by_cases hlt : i < n
      · obtain ⟨b, off, rfl, hbW, hcell⟩ := H.out.2 (by rw [H.out.1]; omega)
        obtain ⟨x, hx⟩ : ∃ x, el xs i = x := ⟨_, rfl⟩
        obtain ⟨c0, c1⟩ := hcell i (by rw [H.out.1]; omega)
        have x0 := (HR.out.1.bel.cell (p := ⟨b, off + i * 2, none⟩) hbW).trans c0
        have x1 := (HR.out.1.bel.cell (p := ⟨b, off + i * 2 + 1, none⟩) hbW).trans c1
        rw [hx] at x0 x1
        have ii : (i : Int) < (n : Int) := by omega
        have C : Hid (∀ i, i < n → W.cell? ⟨b, off + i * 2, none⟩ = some (.int .i64 (el xs i).1) ∧ W.cell? ⟨b, off + i * 2 + 1, none⟩ = some (.int .u64 (el xs i).2)) := fun i hi => hcell i (by rw [H.out.1]; exact hi)
        obtain ⟨y, hy⟩ : ∃ y, el xs (n - 1 - i) = y := ⟨_, rfl⟩
        have CY : Hid (W.cell? ⟨b, off + (n - 1 - i) * 2, none⟩ = some (.int .i64 y.1) ∧ W.cell? ⟨b, off + (n - 1 - i) * 2 + 1, none⟩ = some (.int .u64 y.2)) := by
          rw [← hy]; exact C.out (n - 1 - i) (by omega)
        have X : Hid (el xs i = x ∧ el xs (n - 1 - i) = y) := ⟨hx, hy⟩
        clear hcell c0 c1 hx hy
        go_wp2_with fail
        refine (item_below x wr).mono ?_
        rintro e w3 ⟨rfl, hb3⟩
        have R3 : Hid (RQ W w3 W.heap.size w1.heap.size 31 u3 (xs.take i) v zs) := HR.out.1.below hb3
        have hti : (xs.take i).length = i := by rw [List.length_take, H.out.1]; omega
        have T : Hid ((xs.take i).length = i) := hti
        clear hb3 x0 x1 hti
        go_wp2_with (at_builtin; refine wpList_append_moved rfl (.tmp 24) (.tmp 30) 25 rfl W.heap.size 31 i0 _ 2 16 Try.underlying25 hi0 hz0 hz1 hz2 rfl (by decide) u3 i (flat (xs.take i)) rfl (by have h := R3.out.row.alloc (.cells #[.int .i64 x.1, .int .u64 x.2] 31); rw [T.out] at h; exact h) ⟨w3.heap.size, 0, none⟩ 1 1 (flat [x]) rfl rfl (cell_two_new w3 _ _ 31) (flat_one _) (by simp only [maxLen]; omega) (by omega) (by have := R3.out.big; simp; omega) ?_; intro iv' w4 hown hgrow hmov; have R4 : Hid (RQ W w4 W.heap.size w1.heap.size 31 iv' (xs.take i ++ [x]) v zs) := R3.out.append _ T.out hown hgrow hmov; have y0 : w4.cell? ⟨b, off + (n - 1 - i) * 2, none⟩ = some (.int .i64 y.1) := (R4.out.bel.cell hbW).trans CY.out.1; have y1 : w4.cell? ⟨b, off + (n - 1 - i) * 2 + 1, none⟩ = some (.int .u64 y.2) := (R4.out.bel.cell hbW).trans CY.out.2; clear hown hgrow hmov)
        refine (item_below y w4).mono ?_
        rintro e w5 ⟨rfl, hb5⟩
        have R5 : Hid (RQ W w5 W.heap.size w1.heap.size 31 iv' (xs.take i ++ [x]) v zs) := R4.out.below hb5
        clear hb5 y0 y1
        go_wp2_with fail
        have R6 : RQ W (w5.alloc (.cells #[.int .i64 y.1, .int .u64 y.2] 31)) W.heap.size w1.heap.size 31 iv' (xs.take i ++ [x]) v zs := R5.out.below ((Below.refl _ w5).alloc (Nat.le_refl _) _)
        have hzl : zs.length ≤ i := by have := HR.out.2.1.length_eq; rw [List.length_take] at this; omega
        refine (push_any _ R6.que HR.out.2.2 (lit_own w5 y _ R5.out.big) (fun g hg => ?_) (by simp; omega) R6.big).mono ?_
        · intro e
          simp only [Value.ownBlock, Option.some.injEq] at hg
          have := (R5.out.que.own.lt g e).2
          omega
        rintro e w6 ⟨rfl, v', zs', q1, q2, q3, q4, q5⟩
        have S : Hid (RQ W w6 W.heap.size w1.heap.size 31 iv' (xs.take (i + 1)) v' zs' ∧ zs'.Perm (xs.reverse.take (i + 1)) ∧ Pile zs') := by
          have h1 := R6.turn q1 q4 q5
          rw [take_el (by rw [H.out.1]; omega) X.out.1] at h1
          refine ⟨h1, q2.trans ?_, q3⟩
          have h2 : el xs (xs.length - 1 - i) = y := by rw [H.out.1]; exact X.out.2
          have h3 := take_rev (by have := H.out.1; omega) h2
          rw [← h3]
          exact HR.out.2.1.append_right _
        clear R6 q1 q2 q3 q4 q5 hzl
        go_wp2
        go_roundg (n - (i + 1))
        case measure => omega
        case rel => exact ⟨i + 1, v', zs', by go_num, by omega, by omega, S⟩
      · obtain rfl : i = n := by omega
        have T : Hid (xs.take i = xs) := List.take_of_length_le (by rw [H.out.1]; omega)
        have T2 : Hid (xs.reverse.take i = xs.reverse) := List.take_of_length_le (by rw [List.length_reverse, H.out.1]; omega)
        go_wp2_with fail
        have R0 := HR.out.1.row
        rw [T.out] at R0
        refine (new_any wr R0 (by have := H.out.1; omega) HR.out.1.big).mono ?_
        rintro e w2' ⟨rfl, vq, zq, q1, q2, q3, q4, q5⟩
        have O2 : Hid (PQI W w2' W.heap.size w1.heap.size wr.heap.size u3 xs v vq zs zq i) := by
          have h1 := HR.out.1
          rw [T.out] at h1
          have h2 := HR.out.2.1
          rw [T2.out] at h2
          have h3 := PQI.start h1 (h2.trans (List.reverse_perm xs)) HR.out.2.2 q1 q2 q3 q4 q5
          rw [H.out.1] at h3
          exact h3
        obtain ⟨bq, hbq⟩ : ∃ bq, bq = wr.heap.size := ⟨_, rfl⟩
        rw [← hbq]
        rw [← hbq] at O2
        have L : Hid (xs.length = i) := H.out.1
        clear q1 q2 q3 q4 q5 R0 HR T T2 A hbq
        go_wp2
        go_loopg [7] (i + 1) (fun k s w3 => ∃ (j : Nat) (vp vq : Value) (zp zq : List It), s = .int .i64 j ∧ j ≤ i + 1 ∧ i + 1 - j ≤ k ∧ Hid (PQI W w3 W.heap.size w1.heap.size bq u3 xs vp vq zp zq (i - j)))
        case atStart => exact ⟨0, v, vq, zs, zq, rfl, by omega, by omega, O2⟩
        case round =>
          obtain ⟨j, vp', vq', zp', zq', rfl, hj1, hj2, HJ⟩ := hrel
          by_cases hji : j ≤ i
          · have jd : (j : Int) ≤ (i : Int) := by omega
            go_wp2_with fail
            refine (pop_any wr HJ.out.que (by have := HJ.out.len; omega) HJ.out.pp).mono ?_
            rintro e w5 ⟨rfl, vp2, zp2, p1, p2, p3, p4, p5⟩
            obtain ⟨x, hx⟩ : ∃ x, el zp' 0 = x := ⟨_, rfl⟩
            obtain ⟨o, ho⟩ : ∃ o, (!zp'.isEmpty) = o := ⟨_, rfl⟩
            rw [hx, ho]
            have F : Hid (RQ W w5 W.heap.size bq 31 u3 xs vq' zq') := HJ.out.first p4
            have P : Hid (QAt w5 W.heap.size w1.heap.size vp2 zp2 ∧ zp2.Perm zp'.tail ∧ Pile zp2 ∧ Turned (QSet w1.heap.size vp') wr w5 ∧ vp2.ownBlock = vp'.ownBlock ∧ el zp' 0 = x ∧ (!zp'.isEmpty) = o) := ⟨p1, p2, p3, p4, p5, hx, ho⟩
            clear p1 p2 p3 p4 p5 hx ho
            unfold itV
            go_wp2_with fail
            have hb6 : Below w5.heap.size w5 (w5.alloc (.cells #[.int .i64 x.1, .int .u64 x.2] 31)) := (Below.refl _ w5).alloc (Nat.le_refl _) _
            have F2 := F.out.below hb6
            refine (pop_any _ F2.que (by have := HJ.out.len; have := HJ.out.same.length_eq; omega) HJ.out.pq).mono ?_
            rintro e w6 ⟨rfl, vq2, zq2, q1, q2, q3, q4, q5⟩
            have hx2 : el zq' 0 = x := (pile_same HJ.out.pp HJ.out.pq HJ.out.same).symm.trans P.out.2.2.2.2.2.1
            have ho2 : (!zq'.isEmpty) = o := by
              rw [← P.out.2.2.2.2.2.2, perm_empty HJ.out.same]
            rw [hx2, ho2]
            have N : Hid (PQI W w6 W.heap.size w1.heap.size bq u3 xs vp2 vq2 zp2 zq2 (i - (j + 1))) := by
              have h := HJ.out.second P.out.2.2.2.1 P.out.1 P.out.2.1 P.out.2.2.1 P.out.2.2.2.2.1 hb6 q1 q2 q3 q4 q5
              rw [show i - j - 1 = i - (j + 1) by omega] at h
              exact h
            have hns : ¬ QSet bq vq' w5.heap.size := fun q => by have := F.out.que.set_lt _ q; omega
            have a0 : w6.cell? ⟨w5.heap.size, 0, none⟩ = some (.int .i64 x.1) := (World.cell?_of_block (q4.block w5.heap.size (by simp) hns)).trans (by simp)
            have a1 : w6.cell? ⟨w5.heap.size, 1, none⟩ = some (.int .u64 x.2) := (World.cell?_of_block (q4.block w5.heap.size (by simp) hns)).trans (by simp)
            have h56 : w5.heap.size < w6.heap.size := by have := q4.size; simp at this; omega
            clear q1 q2 q3 q4 q5 hx2 ho2 hns F2 hb6 F P HJ
            unfold itV
            go_wp2_with fail
            obtain ⟨w7, hw7⟩ : ∃ w7, w7 = w6.alloc (.cells #[.int .i64 x.1, .int .u64 x.2] 31) := ⟨_, rfl⟩
            rw [← hw7]
            have N7 : Hid (PQI W w7 W.heap.size w1.heap.size bq u3 xs vp2 vq2 zp2 zq2 (i - (j + 1))) := by
              rw [hw7]; exact N.out.below ((Below.refl _ w6).alloc (Nat.le_refl _) _)
            clear hw7 a0 a1 h56 N
            by_cases hjn : j < i
            · have jn : (j : Int) < (i : Int) := by omega
              obtain ⟨b, off, rfl, hbW, hcell⟩ := H.out.2 (by rw [L.out]; omega)
              obtain ⟨g, cp, rfl⟩ : ∃ g cp, u3 = .slice (some ⟨g, 0, none⟩) i cp := by
                obtain ⟨ao', cp, e, _, _, h3⟩ := own_form N7.out.rq.row
                rw [L.out] at e h3
                obtain ⟨g, e2⟩ := h3 (by omega)
                exact ⟨g, cp, by rw [e, e2]⟩
              obtain ⟨y, hy⟩ : ∃ y, el xs j = y := ⟨_, rfl⟩
              obtain ⟨c0, c1⟩ := hcell j (by rw [L.out]; omega)
              have y0 := (N7.out.rq.bel.cell (p := ⟨b, off + j * 2, none⟩) hbW).trans c0
              have y1 := (N7.out.rq.bel.cell (p := ⟨b, off + j * 2 + 1, none⟩) hbW).trans c1
              obtain ⟨z0, z1, _, _⟩ := own_cells (i := j) N7.out.rq.row (by rw [L.out]; omega)
              rw [hy] at y0 y1 z0 z1
              clear c0 c1 hcell hy
              go_region_held3 (fun w' => w'.cell? ⟨b, off + j * 2, none⟩ = some (.int .i64 y.1) ∧ w'.cell? ⟨b, off + j * 2 + 1, none⟩ = some (.int .u64 y.2) ∧ w'.cell? ⟨g, j * 2, none⟩ = some (.int .i64 y.1) ∧ w'.cell? ⟨g, j * 2 + 1, none⟩ = some (.int .u64 y.2)) (go_keep)
                (first | (go_at_call 7; refine (item_raw y _).mono ?_; rintro e w' ⟨rfl, rfl⟩))
              go_wp2
              go_roundg (i + 1 - (j + 1))
              case measure => omega
              case rel => exact ⟨j + 1, vp2, vq2, zp2, zq2, by go_num, by omega, by omega, N7.out.below (below_alloc2 w7 _ _).drew⟩
            · have jn : decide ((j : Int) < (i : Int)) = false := decide_eq_false (by omega)
              go_quiet (fail)
              go_wp2
              go_roundg (i + 1 - (j + 1))
              case measure => omega
              case rel => exact ⟨j + 1, vp2, vq2, zp2, zq2, by go_num, by omega, by omega, N7.out.below (below_drewN (Below.refl _ w7) _)⟩
          · have jd : ¬ (j : Int) ≤ (i : Int) := by omega
            have hz : zp'.length = 0 := by have := HJ.out.len; omega
            have hzq : zq'.length = 0 := by rw [← HJ.out.same.length_eq]; exact hz
            go_wp2_with fail
            refine (len_any wr HJ.out.que).mono ?_
            rintro e w5 ⟨rfl, rfl⟩
            rw [hz]
            go_wp2_with fail
            refine (len_any w5 HJ.out.rq.que).mono ?_
            rintro e w6 ⟨rfl, rfl⟩
            rw [hzq]
            go_wp2
            go_ret
            exact ⟨rfl, HJ.out.rq.bel⟩

end Go.Proofs.Ytjpdckpkpcphcaa
