/-
  The walk of the law QueueSorts: whatever items came in, it returns true and leaves all that was there as it was. No condition.
-/
import Derived.Test.YtjpdckpkpcphcaaItems
namespace Go.Proofs.Ytjpdckpkpcphcaa
open Go.RowKit

theorem sorts_take {xs : List It} {i : Nat} {x : It} (h : i < xs.length) (hx : el xs i = x) : xs.take i ++ [x] = xs.take (i + 1) := by
  rw [List.take_add_one, el_some h, hx]; rfl

/-- A row of the call's own; all that was there when the call began is as it was. -/
structure RW (W w : World) (base : Nat) (e : TypeId) (iv : Value) (js : List It) : Prop where
  row : w.ownsRow base e 2 iv js.length (flat js)
  bel : Below base W w
  big : base ≤ w.heap.size

theorem RW.below {W w w' : World} {base : Nat} {e : TypeId} {iv : Value} {js : List It} (h : RW W w base e iv js) (hb : Below w.heap.size w w') : RW W w' base e iv js :=
  ⟨ownsRow_turned (S := fun _ => False) h.row (Turned.ofBelow hb) (fun _ _ q => q), h.bel.trans (hb.mono h.big), Nat.le_trans h.big hb.size⟩

theorem RW.append {W w w' : World} {base : Nat} {e : TypeId} {iv iv' : Value} {js : List It} {x : It} {n : Nat} (h : RW W w base e iv js) (o : Obj) (hn : js.length = n)
    (hown : w'.ownsRow base e 2 iv' (n + 1) (flat js ++ flat [x])) (hgrow : (w.alloc o).grownBy w' iv.ownBlock) (hmov : Moved (w.alloc o) iv iv') : RW W w' base e iv' (js ++ [x]) := by
  obtain ⟨g1, g2, g3⟩ := row_grown o hn hown hgrow hmov
  refine ⟨g1, h.bel.trans (g2.below h.big (fun k hk q => ?_)), Nat.le_trans h.big g2.size⟩
  have := (h.row.lt k q).1
  omega

/-- A new queue beside a row. -/
theorem RW.queue {W w w' : World} {base : Nat} {e : TypeId} {iv : Value} {js : List It} {v : Value} {zs : List It} (h : RW W w base e iv js) (q1 : QAt w' base w.heap.size v zs) (q4 : Below w.heap.size w w') (q5 : ∀ g, v.ownBlock = some g → w.heap.size < g) :
    RQ W w' base w.heap.size e iv js v zs := by
  have hb := h.below q4
  refine ⟨hb.row, q1, hb.bel, h.big, ?_⟩
  rintro g hg (q | q)
  · have := (h.row.lt g hg).2; omega
  · have := (h.row.lt g hg).2; have := q5 g q; omega

/-- A row, a queue, and a second row, all apart. -/
structure RRQ (W w : World) (base b : Nat) (iv : Value) (js : List It) (v : Value) (zs : List It) (ov : Value) (os : List It) : Prop where
  rq : RQ W w base b 31 iv js v zs
  out : w.ownsRow base 31 2 ov os.length (flat os)
  ap1 : ∀ g, ov.ownBlock = some g → ¬ QSet b v g
  ap2 : ∀ g, ov.ownBlock = some g → iv.ownBlock ≠ some g

theorem RRQ.below {W w w' : World} {base b : Nat} {iv : Value} {js : List It} {v : Value} {zs : List It} {ov : Value} {os : List It} (h : RRQ W w base b iv js v zs ov os) (hb : Below w.heap.size w w') : RRQ W w' base b iv js v zs ov os :=
  ⟨h.rq.below hb, ownsRow_turned (S := fun _ => False) h.out (Turned.ofBelow hb) (fun _ _ q => q), h.ap1, h.ap2⟩

theorem RRQ.turn {W w w' : World} {base b : Nat} {iv : Value} {js : List It} {v v' : Value} {zs zs' : List It} {ov : Value} {os : List It} (h : RRQ W w base b iv js v zs ov os) (q1 : QAt w' base b v' zs') (q4 : Turned (QSet b v) w w') (q5 : Moved w v v') :
    RRQ W w' base b iv js v' zs' ov os := by
  refine ⟨h.rq.turn q1 q4 q5, ownsRow_turned h.out q4 h.ap1, ?_, h.ap2⟩
  intro g hg q
  exact h.ap1 g hg (q5.set ((h.out.lt g hg).2) q)

theorem RRQ.append {W w w' : World} {base b : Nat} {iv : Value} {js : List It} {v : Value} {zs : List It} {ov ov' : Value} {os : List It} {x : It} {n : Nat} (h : RRQ W w base b iv js v zs ov os) (o : Obj) (hn : os.length = n)
    (hown : w'.ownsRow base 31 2 ov' (n + 1) (flat os ++ flat [x])) (hgrow : (w.alloc o).grownBy w' ov.ownBlock) (hmov : Moved (w.alloc o) ov ov') : RRQ W w' base b iv js v zs ov' (os ++ [x]) := by
  obtain ⟨g1, g2, g3⟩ := row_grown o hn hown hgrow hmov
  refine ⟨⟨ownsRow_turned h.rq.row g2 (fun g hg q => h.ap2 g q hg), h.rq.que.turned g2 (fun k hk q => h.ap1 k q hk), h.rq.bel.trans (g2.below h.rq.big (fun k hk q => ?_)), h.rq.low, h.rq.apart⟩, g1, ?_, ?_⟩
  · have := (h.out.lt k q).1
    omega
  · intro g hg q
    rcases g3 with g3 | g3
    · exact h.ap1 g (by rw [← g3]; exact hg) q
    · have := g3 g hg
      have := h.rq.que.set_lt g q
      omega
  · intro g hg q
    rcases g3 with g3 | g3
    · exact h.ap2 g (by rw [← g3]; exact hg) q
    · have := g3 g hg
      have := (h.rq.row.lt g q).2
      omega

/-- What has come out so far: in order, none behind one that waits still; with what waits, all that went in. -/
structure Out (xs zs os : List It) (i : Nat) : Prop where
  pile : Pile zs
  perm : (os ++ zs).Perm xs
  len : os.length = i
  sorted : ∀ k, 0 < k → k < os.length → ahd (el os k) (el os (k - 1)) = false
  first : ∀ z ∈ zs, ∀ o ∈ os, ahd z o = false

theorem Out.start {xs zs : List It} (hp : Pile zs) (h : zs.Perm xs) : Out xs zs [] 0 :=
  ⟨hp, h, rfl, fun k _ hk => by simp at hk, fun _ _ _ ho => by simp at ho⟩

theorem el_snoc {os : List It} {x : It} {k : Nat} : el (os ++ [x]) k = if k < os.length then el os k else if k = os.length then x else (0, 0) := by
  unfold el
  by_cases h : k < os.length
  · rw [if_pos h, List.getD_eq_getElem?_getD, List.getD_eq_getElem?_getD, List.getElem?_append_left h]
  · by_cases h2 : k = os.length
    · subst h2; simp
    · rw [if_neg h, if_neg h2, List.getD_eq_getElem?_getD, List.getElem?_eq_none (by simp; omega)]
      rfl

theorem Out.step {xs zs zs' os : List It} {i : Nat} (h : Out xs zs os i) (h0 : 0 < zs.length) (hp : Pile zs') (hz : zs'.Perm zs.tail) : Out xs zs' (os ++ [el zs 0]) (i + 1) := by
  cases zs with
  | nil => simp at h0
  | cons x t =>
    have hx : el (x :: t) 0 = x := rfl
    rw [hx]
    refine ⟨hp, ?_, by simp [h.len], ?_, ?_⟩
    · have h1 : (os ++ [x] ++ zs').Perm (os ++ [x] ++ t) := hz.append_left _
      refine h1.trans ?_
      rw [List.append_assoc]
      exact h.perm
    · intro k k0 hk
      simp only [List.length_append, List.length_cons, List.length_nil] at hk
      rw [el_snoc, el_snoc]
      by_cases c : k < os.length
      · rw [if_pos c, if_pos (by omega)]
        exact h.sorted k k0 c
      · rw [if_neg c, if_pos (by omega), if_pos (by omega)]
        exact h.first x (by simp) _ (el_mem (by omega))
    · intro z hz' o ho
      have hzt : z ∈ t := hz.mem_iff.1 hz'
      simp only [List.mem_append, List.mem_cons, List.not_mem_nil, or_false] at ho
      rcases ho with ho | rfl
      · exact h.first z (by simp [hzt]) o ho
      · have := pile_first h.pile (show z ∈ o :: t by simp [hzt])
        exact this

/-- What the law asks of two items one behind the other. -/
theorem nahd_cases {x y : It} (h : ahd x y = false) : x.1 < y.1 ∨ (x.1 = y.1 ∧ y.2 ≤ x.2) := (ahd_not x y).1 h

/-- What the last loops look at: what has come out, what went in. -/
structure Fin2 (W w : World) (base : Nat) (iv : Value) (js : List It) (ov : Value) (os : List It) : Prop where
  row : w.ownsRow base 31 2 iv js.length (flat js)
  out : w.ownsRow base 31 2 ov os.length (flat os)
  bel : Below base W w

theorem Fin2.drewN {W w : World} {base : Nat} {iv : Value} {js : List It} {ov : Value} {os : List It} (h : Fin2 W w base iv js ov os) (n : Nat) : Fin2 W (w.drewN n) base iv js ov os := ⟨h.row, h.out, below_drewN h.bel n⟩

theorem count_step {os : List It} {m : Nat} {x : It} (h : m < os.length) : (os.take (m + 1)).count x = (os.take m).count x + if el os m = x then 1 else 0 := by
  rw [← sorts_take h rfl, List.count_append]
  congr 1
  by_cases e : el os m = x
  · rw [if_pos e, e]; simp
  · rw [if_neg e, List.count_cons_of_ne (by simpa using e)]; simp

theorem count_le {os : List It} (m : Nat) {x : It} : (os.take m).count x ≤ m :=
  Nat.le_trans List.count_le_length (by rw [List.length_take]; omega)

/-- Two items, field by field. -/
theorem it_eq (z x : It) : ((z.1 == x.1) = true ∧ (z.2 == x.2) = true ∧ decide (z = x) = true) ∨ ((z.1 == x.1) = true ∧ (z.2 == x.2) = false ∧ decide (z = x) = false) ∨ ((z.1 == x.1) = false ∧ decide (z = x) = false) := by
  by_cases h1 : z.1 = x.1
  · by_cases h2 : z.2 = x.2
    · exact .inl ⟨beq_iff_eq.2 h1, beq_iff_eq.2 h2, decide_eq_true (Prod.ext h1 h2)⟩
    · exact .inr (.inl ⟨beq_iff_eq.2 h1, beq_eq_false_iff_ne.2 h2, decide_eq_false (fun e => h2 (by rw [e]))⟩)
  · exact .inr (.inr ⟨beq_eq_false_iff_ne.2 h1, decide_eq_false (fun e => h1 (by rw [e]))⟩)

theorem count_dec {os : List It} {m : Nat} {x z : It} {c : Nat} (h : m < os.length) (hz : el os m = z) (hc : c = (os.take m).count x) : (c + if decide (z = x) = true then 1 else 0) = (os.take (m + 1)).count x := by
  rw [count_step h, hz, hc]
  by_cases e : z = x
  · simp [e]
  · simp [e]

set_option maxHeartbeats 8000000 in
set_option maxRecDepth 1000000 in
theorem sorts_walk (ao : Option Addr) (n cap : Nat) (xs : List It) (W : World) (hl : xs.length = n) (hcn : n ≤ 9223372036854775807) (hin : ItemsIn W ao xs) :
    Calls Try.prog 4 #[.slice ao n cap] W fun e w' => e = .returned (.bool true) ∧ Below W.heap.size W w' := by
  have H : Hid (xs.length = n ∧ ItemsIn W ao xs) := ⟨hl, hin⟩
  obtain ⟨i0, hi0, hz0, hz1, hz2⟩ := info_parts Try.info31
  clear hl hin
  go_enter Try.func4, Try.ntmps4
  go_wp2_with fail
  refine (awake_any _).mono ?_
  rintro e w1 ⟨rfl, hb1⟩
  have B1 : Hid (Below W.heap.size W w1) := hb1
  clear hb1
  by_cases hbig : 1000 < n
  · have hbi : (1000 : Int) < (n : Int) := by omega
    go_wp2
    go_ret
    exact ⟨rfl, B1.out⟩
  · have hbi : decide ((1000 : Int) < (n : Int)) = false := decide_eq_false (by omega)
    go_wp2
    go_loopg [3, 4] n (fun k iv s wr => ∃ (i : Nat), s = .int .i64 i ∧ i ≤ n ∧ n - i ≤ k ∧ Hid (RW W wr W.heap.size 31 iv (xs.take i)))
    case atStart => exact ⟨0, rfl, by omega, by omega, ⟨World.ownsRow_nil _ _ _ _, B1.out, B1.out.size⟩⟩
    case round =>
      obtain ⟨i, rfl, hin, hik, HR⟩ := hrel
      by_cases hlt : i < n
      · obtain ⟨b, off, rfl, hbW, hcell⟩ := H.out.2 (by rw [H.out.1]; omega)
        obtain ⟨x, hx⟩ : ∃ x, el xs i = x := ⟨_, rfl⟩
        obtain ⟨c0, c1⟩ := hcell i (by rw [H.out.1]; omega)
        have x0 := (HR.out.bel.cell (p := ⟨b, off + i * 2, none⟩) hbW).trans c0
        have x1 := (HR.out.bel.cell (p := ⟨b, off + i * 2 + 1, none⟩) hbW).trans c1
        rw [hx] at x0 x1
        have ii : (i : Int) < (n : Int) := by omega
        have X : Hid (el xs i = x) := hx
        clear hcell c0 c1 hx
        go_wp2_with fail
        refine (item_below x wr).mono ?_
        rintro e w3 ⟨rfl, hb3⟩
        have R3 : Hid (RW W w3 W.heap.size 31 u3 (xs.take i)) := HR.out.below hb3
        have T : Hid ((xs.take i).length = i) := by show _ = _; rw [List.length_take, H.out.1]; omega
        clear hb3 x0 x1
        go_wp2_with (at_builtin; refine wpList_append_moved rfl (.tmp 25) (.tmp 31) 25 rfl W.heap.size 31 i0 _ 2 16 Try.underlying25 hi0 hz0 hz1 hz2 rfl (by decide) u3 i (flat (xs.take i)) rfl (by have h := R3.out.row.alloc (.cells #[.int .i64 x.1, .int .u64 x.2] 31); rw [T.out] at h; exact h) ⟨w3.heap.size, 0, none⟩ 1 1 (flat [x]) rfl rfl (cell_two_new w3 _ _ 31) (flat_one _) (by simp only [maxLen]; omega) (by omega) (by have := R3.out.big; simp; omega) ?_; intro iv' w4 hown hgrow hmov; have R4 : Hid (RW W w4 W.heap.size 31 iv' (xs.take i ++ [x])) := R3.out.append _ T.out hown hgrow hmov; clear hown hgrow hmov)
        go_roundg (n - (i + 1))
        case measure => omega
        case rel =>
          have h := R4.out
          rw [sorts_take (by have := H.out.1; omega) X.out] at h
          exact ⟨i + 1, by go_num, by omega, by omega, h⟩
      · obtain rfl : i = n := by omega
        have R0 : Hid (RW W wr W.heap.size 31 u3 xs) := by
          have h := HR.out
          rw [List.take_of_length_le (by rw [H.out.1]; omega)] at h
          exact h
        clear HR
        go_wp2_with fail
        refine (new_any (base := W.heap.size) (ys := []) wr (World.ownsRow_nil _ _ _ _) (by decide) R0.out.big).mono ?_
        rintro e w2 ⟨rfl, vp, zs, q1, q2, q3, q4, q5⟩
        obtain rfl : zs = [] := List.eq_nil_of_length_eq_zero q2.length_eq
        have A : Hid (RQ W w2 W.heap.size wr.heap.size 31 u3 xs vp []) := R0.out.queue q1 q4 q5
        obtain ⟨b, hb⟩ : ∃ b, b = wr.heap.size := ⟨_, rfl⟩
        rw [← hb] at A ⊢
        clear q1 q2 q3 q4 q5 R0 hb
        go_wp2_with fail
        refine (push_any w2 A.out.que pile_nil A.out.row (fun g hg e => A.out.apart g hg (.inr e)) (by have := H.out.1; simp; omega) A.out.big).mono ?_
        rintro e w3 ⟨rfl, v, zs, q1, q2, q3, q4, q5⟩
        have O : Hid (RRQ W w3 W.heap.size b u3 xs v zs (.slice none 0 0) [] ∧ Out xs zs [] 0) :=
          ⟨⟨A.out.turn q1 q4 q5, World.ownsRow_nil _ _ _ _, fun g hg => by simp [Value.ownBlock] at hg, fun g hg => by simp [Value.ownBlock] at hg⟩, Out.start q3 (by simpa using q2)⟩
        have L : Hid (xs.length = i) := H.out.1
        clear q1 q2 q3 q4 q5 A
        go_wp2
        go_loopg [6, 7] (i + 1) (fun k ov s wr => ∃ (j : Nat) (v : Value) (zs os : List It), s = .int .i64 j ∧ j ≤ i + 1 ∧ i + 1 - j ≤ k ∧ Hid (RRQ W wr W.heap.size b u3 xs v zs ov os ∧ Out xs zs os (min j i)))
        case atStart => exact ⟨0, v, zs, [], rfl, by omega, by omega, ⟨O.out.1, by simpa using O.out.2⟩⟩
        case round =>
          obtain ⟨j, v2, zs2, os, rfl, hj1, hj2, HJ⟩ := hrel
          by_cases hji : j ≤ i
          · have jd : (j : Int) ≤ (i : Int) := by omega
            have hzl : zs2.length = i - j := by
              have h1 := HJ.out.2.perm.length_eq
              have h2 := HJ.out.2.len
              have h3 := L.out
              rw [List.length_append] at h1
              omega
            go_wp2_with fail
            refine (pop_any wr HJ.out.1.rq.que (by omega) HJ.out.2.pile).mono ?_
            rintro e w5 ⟨rfl, v3, zs3, p1, p2, p3, p4, p5⟩
            obtain ⟨x, hx⟩ : ∃ x, el zs2 0 = x := ⟨_, rfl⟩
            rw [hx]
            have P : Hid (RRQ W w5 W.heap.size b u3 xs v3 zs3 u6 os) := HJ.out.1.turn p1 p4 (.inl p5)
            have P2 : Hid (zs3.Perm zs2.tail ∧ Pile zs3 ∧ el zs2 0 = x) := ⟨p2, p3, hx⟩
            clear p1 p2 p3 p4 p5 hx
            by_cases hjn : j < i
            · have jn : (j : Int) < (i : Int) := by omega
              have he : zs2.isEmpty = false := by
                cases zs2 with
                | nil => simp at hzl; omega
                | cons _ _ => rfl
              rw [he]
              unfold itV
              obtain ⟨w6, hw6⟩ : ∃ w6, w6 = w5.alloc (.cells #[.int .i64 x.1, .int .u64 x.2] 31) := ⟨_, rfl⟩
              have P6 : Hid (RRQ W w6 W.heap.size b u3 xs v3 zs3 u6 os) := by rw [hw6]; exact P.out.below ((Below.refl _ w5).alloc (Nat.le_refl _) _)
              have hsz : w6.heap.size = w5.heap.size + 1 := by rw [hw6]; simp
              have hol : os.length = j := by rw [HJ.out.2.len]; omega
              have OL : Hid (os.length = j) := hol
              have Z6 : Hid (w6 = w5.alloc (.cells #[.int .i64 x.1, .int .u64 x.2] 31) ∧ w6.heap.size = w5.heap.size + 1) := ⟨hw6, hsz⟩
              clear hw6 hsz hol P
              go_wp2_with (at_builtin; rw [← Z6.out.1, ← Z6.out.2]; refine wpList_append_moved rfl (.tmp 55) (.tmp 57) 25 rfl W.heap.size 31 i0 _ 2 16 Try.underlying25 hi0 hz0 hz1 hz2 rfl (by decide) u6 j (flat os) rfl (by have h := P6.out.out.alloc (.cells #[.int .i64 x.1, .int .u64 x.2] 31); rw [OL.out] at h; exact h) ⟨w6.heap.size, 0, none⟩ 1 1 (flat [x]) rfl rfl (cell_two_new w6 _ _ 31) (flat_one _) (by simp only [maxLen]; omega) (by omega) (by have := P6.out.rq.big; simp; omega) ?_; intro ov' w7 hown hgrow hmov; have R7 : Hid (RRQ W w7 W.heap.size b u3 xs v3 zs3 ov' (os ++ [x])) := P6.out.append _ OL.out hown hgrow hmov; clear hown hgrow hmov)
              go_roundg (i + 1 - (j + 1))
              case measure => omega
              case rel =>
                have h := HJ.out.2.step (by omega) P2.out.2.1 P2.out.1
                rw [P2.out.2.2, show min j i + 1 = min (j + 1) i by omega] at h
                exact ⟨j + 1, v3, zs3, os ++ [x], by go_num, by omega, by omega, ⟨R7.out, h⟩⟩
            · have jn : decide ((j : Int) < (i : Int)) = false := decide_eq_false (by omega)
              obtain rfl : j = i := by omega
              have hz0 : zs2 = [] := List.eq_nil_of_length_eq_zero (by omega)
              subst hz0
              have z3 : zs3 = [] := List.eq_nil_of_length_eq_zero (by rw [P2.out.1.length_eq]; rfl)
              subst z3
              unfold itV
              go_wp2
              go_roundg 0
              case measure => omega
              case rel =>
                have h := HJ.out.2
                exact ⟨j + 1, v3, [], os, by go_num, by omega, by omega, ⟨P.out.below ((Below.refl _ w5).alloc (Nat.le_refl _) _), by rw [show min (j + 1) j = min j j by omega]; exact h⟩⟩
          · have jd : ¬ (j : Int) ≤ (i : Int) := by omega
            have hos : os.length = i := by rw [HJ.out.2.len]; omega
            have hzs : zs2 = [] := by
              have h1 := HJ.out.2.perm.length_eq
              rw [List.length_append, hos, L.out] at h1
              exact List.eq_nil_of_length_eq_zero (by omega)
            have F : Hid (Fin2 W wr W.heap.size u3 xs u6 os) := ⟨HJ.out.1.rq.row, HJ.out.1.out, HJ.out.1.rq.bel⟩
            have S : Hid (os.length = i ∧ os.Perm xs ∧ ∀ k, 0 < k → k < os.length → ahd (el os k) (el os (k - 1)) = false) :=
              ⟨hos, by have h := HJ.out.2.perm; rw [hzs, List.append_nil] at h; exact h, HJ.out.2.sorted⟩
            obtain ⟨oo, oc, rfl, _, _, hoo⟩ := own_form F.out.out
            obtain ⟨io, ic, rfl, _, _, hio⟩ := own_form F.out.row
            rw [hos] at F hoo ⊢
            rw [L.out] at F hio ⊢
            have OO : Hid ((0 < i → ∃ g, oo = some ⟨g, 0, none⟩) ∧ (0 < i → ∃ g, io = some ⟨g, 0, none⟩)) := ⟨hoo, hio⟩
            clear hoo hio hos hzs HJ O
            go_wp2
            go_loopg [10] i (fun k s wr => ∃ (t : Nat), s = .int .i64 t ∧ t ≤ i ∧ i - t ≤ k ∧ Hid (Fin2 W wr W.heap.size (.slice io i ic) xs (.slice oo i oc) os))
            case atStart => exact ⟨0, rfl, by omega, by omega, F⟩
            case round =>
              obtain ⟨t, rfl, ht1, ht2, HT⟩ := hrel
              by_cases hti : t < i
              · have td : (t : Int) < (i : Int) := by omega
                obtain ⟨g, rfl⟩ := OO.out.1 (by omega)
                obtain ⟨gi, rfl⟩ := OO.out.2 (by omega)
                obtain ⟨x, hx⟩ : ∃ x, el os t = x := ⟨_, rfl⟩
                obtain ⟨x0, x1, _, _⟩ := own_cells (i := t) HT.out.out (by rw [S.out.1]; omega)
                rw [hx] at x0 x1
                have X : Hid (el os t = x) := hx
                clear hx
                go_wp2_with fail
                go_cut [108] (fun s w => s = .bool false ∧ Hid (Fin2 W w W.heap.size (.slice (some ⟨gi, 0, none⟩) i ic) xs (.slice (some ⟨g, 0, none⟩) i oc) os))
                case first =>
                  by_cases h0 : t = 0
                  · subst h0
                    have t0 : decide ((0 : Int) < ((0 : Nat) : Int)) = false := rfl
                    go_quiet (fail)
                    go_wp2
                    go_meet
                    case rel => exact ⟨rfl, HT.out.drewN _⟩
                  · have t0 : (0 : Int) < (t : Int) := by omega
                    have tn : 0 < t := by omega
                    obtain ⟨q, hq⟩ : ∃ q, t - 1 = q := ⟨_, rfl⟩
                    have t1 : (t : Int) - 1 = (q : Int) := by omega
                    obtain ⟨y, hy⟩ : ∃ y, el os q = y := ⟨_, rfl⟩
                    obtain ⟨y0, y1, _, _⟩ := own_cells (i := q) HT.out.out (by rw [S.out.1]; omega)
                    rw [hy] at y0 y1
                    have tp : (q : Int) < (i : Int) := by omega
                    have A : ahd x y = false := by rw [← X.out, ← hy, ← hq]; exact S.out.2.2 t (by omega) (by rw [S.out.1]; omega)
                    clear hq
                    have A' := nahd_cases A
                    clear hy A
                    rcases A' with A' | ⟨A1, A2⟩
                    · have d1 : decide (y.1 < x.1) = false := decide_eq_false (by omega)
                      have d2 : (x.1 == y.1) = false := beq_eq_false_iff_ne.2 (by omega)
                      clear A'
                      go_quiet (fail)
                      go_wp2
                      go_meet
                      case rel => exact ⟨rfl, HT.out.drewN _⟩
                    · have d1 : decide (y.1 < x.1) = false := decide_eq_false (by omega)
                      have d2 : (x.1 == y.1) = true := beq_iff_eq.2 A1
                      have d3 : decide (x.2 < y.2) = false := decide_eq_false (by omega)
                      clear A1 A2
                      go_quiet (fail)
                      go_wp2
                      go_meet
                      case rel => exact ⟨rfl, HT.out.drewN _⟩
                case rest =>
                  obtain ⟨rfl, HC⟩ := hcut
                  go_wp2
                  go_loopg [11, 12, 13] i (fun k sa sb sm w => ∃ (m ca cb : Nat), sm = .int .i64 m ∧ m ≤ i ∧ i - m ≤ k ∧ sa = .int .i64 ca ∧ sb = .int .i64 cb ∧ ca ≤ m ∧ cb ≤ m ∧ Hid (ca = (os.take m).count x ∧ cb = (xs.take m).count x ∧ Fin2 W w W.heap.size (.slice (some ⟨gi, 0, none⟩) i ic) xs (.slice (some ⟨g, 0, none⟩) i oc) os))
                  case atStart => exact ⟨0, 0, 0, rfl, by omega, by omega, rfl, rfl, by omega, by omega, ⟨by simp, by simp, HC⟩⟩
                  case round =>
                    obtain ⟨m, ca, cb, rfl, hm1, hm2, rfl, rfl, hca, hcb, HM⟩ := hrel
                    by_cases hmi : m < i
                    · have md : (m : Int) < (i : Int) := by omega
                      obtain ⟨z, hz⟩ : ∃ z, el os m = z := ⟨_, rfl⟩
                      obtain ⟨y, hy⟩ : ∃ y, el xs m = y := ⟨_, rfl⟩
                      obtain ⟨z0, z1, _, _⟩ := own_cells (i := m) HM.out.2.2.out (by rw [S.out.1]; omega)
                      obtain ⟨v0, v1, _, _⟩ := own_cells (i := t) HM.out.2.2.out (by rw [S.out.1]; omega)
                      rw [hz] at z0 z1
                      rw [X.out] at v0 v1
                      obtain ⟨ea, hea⟩ : ∃ e, decide (z = x) = e := ⟨_, rfl⟩
                      obtain ⟨eb, heb⟩ : ∃ e, decide (y = x) = e := ⟨_, rfl⟩
                      have E : Hid (el os m = z ∧ el xs m = y ∧ decide (z = x) = ea ∧ decide (y = x) = eb) := ⟨hz, hy, hea, heb⟩
                      clear hz hy hea heb x0 x1
                      go_wp2_with fail
                      go_cut [123] (fun s w => s = .bool ea ∧ Hid (Fin2 W w W.heap.size (.slice (some ⟨gi, 0, none⟩) i ic) xs (.slice (some ⟨g, 0, none⟩) i oc) os))
                      case first =>
                        rcases it_eq z x with ⟨e1, e2, e3⟩ | ⟨e1, e2, e3⟩ | ⟨e1, e3⟩
                        all_goals have e4 := E.out.2.2.1
                        all_goals rw [e3] at e4
                        all_goals subst e4
                        all_goals clear e3
                        all_goals go_quiet (fail)
                        all_goals go_wp2
                        all_goals go_meet
                        all_goals exact ⟨rfl, HM.out.2.2.drewN _⟩
                      case rest =>
                        obtain ⟨rfl, HD⟩ := hcut
                        clear z0 z1 v0 v1
                        obtain ⟨y0, y1, _, _⟩ := own_cells (i := m) HD.out.row (by rw [L.out]; omega)
                        obtain ⟨v0, v1, _, _⟩ := own_cells (i := t) HD.out.out (by rw [S.out.1]; omega)
                        rw [E.out.2.1] at y0 y1
                        rw [X.out] at v0 v1
                        cases ea
                        all_goals go_wp2_with fail
                        all_goals go_cut [134] (fun s w => s = .bool eb ∧ Hid (Fin2 W w W.heap.size (.slice (some ⟨gi, 0, none⟩) i ic) xs (.slice (some ⟨g, 0, none⟩) i oc) os))
                        case first =>
                          rcases it_eq y x with ⟨e1, e2, e3⟩ | ⟨e1, e2, e3⟩ | ⟨e1, e3⟩
                          all_goals have e4 := E.out.2.2.2
                          all_goals rw [e3] at e4
                          all_goals subst e4
                          all_goals clear e3
                          all_goals go_quiet (fail)
                          all_goals go_wp2
                          all_goals go_meet
                          all_goals exact ⟨rfl, HD.out.drewN _⟩
                        case first =>
                          rcases it_eq y x with ⟨e1, e2, e3⟩ | ⟨e1, e2, e3⟩ | ⟨e1, e3⟩
                          all_goals have e4 := E.out.2.2.2
                          all_goals rw [e3] at e4
                          all_goals subst e4
                          all_goals clear e3
                          all_goals go_quiet (fail)
                          all_goals go_wp2
                          all_goals go_meet
                          all_goals exact ⟨rfl, HD.out.drewN _⟩
                        all_goals obtain ⟨rfl, HF⟩ := hcut
                        all_goals cases eb
                        all_goals go_wp2
                        all_goals go_roundg (i - (m + 1))
                        all_goals first
                          | omega
                          | exact ⟨m + 1, ca, cb, by go_num, by omega, by omega, rfl, rfl, by omega, by omega, ⟨(by have h := count_dec (by rw [S.out.1]; omega) E.out.1 HM.out.1; rw [E.out.2.2.1] at h; simpa using h), (by have h := count_dec (by rw [L.out]; omega) E.out.2.1 HM.out.2.1; rw [E.out.2.2.2] at h; simpa using h), HF⟩⟩
                          | exact ⟨m + 1, ca + 1, cb, by go_num, by omega, by omega, by go_num, rfl, by omega, by omega, ⟨(by have h := count_dec (by rw [S.out.1]; omega) E.out.1 HM.out.1; rw [E.out.2.2.1] at h; simpa using h), (by have h := count_dec (by rw [L.out]; omega) E.out.2.1 HM.out.2.1; rw [E.out.2.2.2] at h; simpa using h), HF⟩⟩
                          | exact ⟨m + 1, ca, cb + 1, by go_num, by omega, by omega, rfl, by go_num, by omega, by omega, ⟨(by have h := count_dec (by rw [S.out.1]; omega) E.out.1 HM.out.1; rw [E.out.2.2.1] at h; simpa using h), (by have h := count_dec (by rw [L.out]; omega) E.out.2.1 HM.out.2.1; rw [E.out.2.2.2] at h; simpa using h), HF⟩⟩
                          | exact ⟨m + 1, ca + 1, cb + 1, by go_num, by omega, by omega, by go_num, by go_num, by omega, by omega, ⟨(by have h := count_dec (by rw [S.out.1]; omega) E.out.1 HM.out.1; rw [E.out.2.2.1] at h; simpa using h), (by have h := count_dec (by rw [L.out]; omega) E.out.2.1 HM.out.2.1; rw [E.out.2.2.2] at h; simpa using h), HF⟩⟩
                    · have md : ¬ (m : Int) < (i : Int) := by omega
                      have hab : ca = cb := by
                        rw [HM.out.1, HM.out.2.1, List.take_of_length_le (by rw [S.out.1]; omega), List.take_of_length_le (by rw [L.out]; omega)]
                        exact S.out.2.1.count_eq x
                      have HG : Hid (Fin2 W wr W.heap.size (.slice (some ⟨gi, 0, none⟩) i ic) xs (.slice (some ⟨g, 0, none⟩) i oc) os) := HM.out.2.2
                      clear HM
                      subst hab
                      go_wp2
                      go_roundg (i - (t + 1))
                      case measure => omega
                      case rel => exact ⟨t + 1, by go_num, by omega, by omega, HG⟩
              · have td : ¬ (t : Int) < (i : Int) := by omega
                go_wp2
                go_ret
                exact ⟨rfl, HT.out.bel⟩

end Go.Proofs.Ytjpdckpkpcphcaa
