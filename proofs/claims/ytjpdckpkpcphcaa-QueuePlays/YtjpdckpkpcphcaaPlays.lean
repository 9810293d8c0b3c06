/-
  The walk of the law QueuePlays: whatever items and script came in, it returns true and leaves all that was there as it was. No condition.
-/
import Derived.Test.YtjpdckpkpcphcaaRefs
namespace Go.Proofs.Ytjpdckpkpcphcaa
open Go.RowKit

theorem plays_take {xs : List It} {i : Nat} {x : It} (h : i < xs.length) (hx : el xs i = x) : xs.take i ++ [x] = xs.take (i + 1) := by
  rw [List.take_add_one, el_some h, hx]; rfl

/-- The document's list and the row for New, both of the call's own, apart. -/
structure R2 (W w : World) (base : Nat) (lv : Value) (ls : List It) (iv : Value) (js : List It) : Prop where
  lrow : w.ownsRow base 28 2 lv ls.length (flat ls)
  irow : w.ownsRow base 31 2 iv js.length (flat js)
  bel : Below base W w
  big : base ≤ w.heap.size
  ap : ∀ g, lv.ownBlock = some g → iv.ownBlock ≠ some g

theorem R2.below {W w w' : World} {base : Nat} {lv : Value} {ls : List It} {iv : Value} {js : List It} (h : R2 W w base lv ls iv js) (hb : Below w.heap.size w w') : R2 W w' base lv ls iv js :=
  ⟨ownsRow_turned (S := fun _ => False) h.lrow (Turned.ofBelow hb) (fun _ _ q => q), ownsRow_turned (S := fun _ => False) h.irow (Turned.ofBelow hb) (fun _ _ q => q), h.bel.trans (hb.mono h.big), Nat.le_trans h.big hb.size, h.ap⟩

theorem R2.appendL {W w w' : World} {base : Nat} {lv lv' : Value} {ls : List It} {iv : Value} {js : List It} {x : It} {n : Nat} (h : R2 W w base lv ls iv js) (o : Obj) (hn : ls.length = n)
    (hown : w'.ownsRow base 28 2 lv' (n + 1) (flat ls ++ flat [x])) (hgrow : (w.alloc o).grownBy w' lv.ownBlock) (hmov : Moved (w.alloc o) lv lv') : R2 W w' base lv' (ls ++ [x]) iv js := by
  obtain ⟨g1, g2, g3⟩ := row_grown o hn hown hgrow hmov
  refine ⟨g1, ownsRow_turned h.irow g2 (fun g hg q => h.ap g q hg), h.bel.trans (g2.below h.big (fun k hk q => ?_)), Nat.le_trans h.big g2.size, ?_⟩
  · have := (h.lrow.lt k q).1
    omega
  · intro g hg q
    rcases g3 with g3 | g3
    · exact h.ap g (by rw [← g3]; exact hg) q
    · have := g3 g hg
      have := (h.irow.lt g q).2
      omega

theorem R2.appendI {W w w' : World} {base : Nat} {lv : Value} {ls : List It} {iv iv' : Value} {js : List It} {x : It} {n : Nat} (h : R2 W w base lv ls iv js) (o : Obj) (hn : js.length = n)
    (hown : w'.ownsRow base 31 2 iv' (n + 1) (flat js ++ flat [x])) (hgrow : (w.alloc o).grownBy w' iv.ownBlock) (hmov : Moved (w.alloc o) iv iv') : R2 W w' base lv ls iv' (js ++ [x]) := by
  obtain ⟨g1, g2, g3⟩ := row_grown o hn hown hgrow hmov
  refine ⟨ownsRow_turned h.lrow g2 (fun g hg q => h.ap g hg q), g1, h.bel.trans (g2.below h.big (fun k hk q => ?_)), Nat.le_trans h.big g2.size, ?_⟩
  · have := (h.irow.lt k q).1
    omega
  · intro g hg q
    rcases g3 with g3 | g3
    · exact h.ap g hg (by rw [← g3]; exact q)
    · have := g3 g q
      have := (h.lrow.lt g hg).2
      omega

/-- The document's list beside the queue. -/
structure Pl (W w : World) (base b : Nat) (lv : Value) (ls : List It) (v : Value) (zs : List It) (n : Nat) : Prop where
  rq : RQ W w base b 28 lv ls v zs
  same : zs.Perm ls
  pile : Pile zs
  len : ls.length ≤ n

theorem Pl.below {W w w' : World} {base b : Nat} {lv : Value} {ls : List It} {v : Value} {zs : List It} {n : Nat} (h : Pl W w base b lv ls v zs n) (hb : Below w.heap.size w w') : Pl W w' base b lv ls v zs n :=
  ⟨h.rq.below hb, h.same, h.pile, h.len⟩

theorem Pl.mono {W w : World} {base b : Nat} {lv : Value} {ls : List It} {v : Value} {zs : List It} {n m : Nat} (h : Pl W w base b lv ls v zs n) (hm : n ≤ m) : Pl W w base b lv ls v zs m :=
  ⟨h.rq, h.same, h.pile, Nat.le_trans h.len hm⟩

/-- Behind New of the row. -/
theorem R2.queue {W w w' : World} {base : Nat} {lv : Value} {ls : List It} {iv : Value} {v : Value} {zs : List It} {n : Nat} (h : R2 W w base lv ls iv ls) (q1 : QAt w' base w.heap.size v zs) (q2 : zs.Perm ls) (q3 : Pile zs) (q4 : Below w.heap.size w w')
    (q5 : ∀ g, v.ownBlock = some g → w.heap.size < g) (hn : ls.length ≤ n) : Pl W w' base w.heap.size lv ls v zs n := by
  have hb := h.below q4
  refine ⟨⟨hb.lrow, q1, hb.bel, h.big, ?_⟩, q2, q3, hn⟩
  rintro g hg (q | q)
  · have := (h.lrow.lt g hg).2; omega
  · have := (h.lrow.lt g hg).2; have := q5 g q; omega

/-- Another row in the list's place. -/
theorem RQ.replace {W w w' : World} {base b : Nat} {e : TypeId} {lv lv' : Value} {ls ls' : List It} {v : Value} {zs : List It} (h : RQ W w base b e lv ls v zs) (hr : w'.ownsRow w.heap.size e 2 lv' ls'.length (flat ls')) (hb : Below w.heap.size w w') :
    RQ W w' base b e lv' ls' v zs := by
  have h2 := h.below hb
  refine ⟨own_base hr h.big, h2.que, h2.bel, h.low, ?_⟩
  intro g hg q
  have := (hr.lt g hg).1
  have := h.que.set_lt g q
  omega

theorem erase_perm {ls : List It} {k : Nat} (h : k < ls.length) : ls.Perm (el ls k :: ls.eraseIdx k) := by
  rw [List.eraseIdx_eq_take_drop_succ]
  have e : ls = ls.take k ++ el ls k :: ls.drop (k + 1) := by
    rw [el_eq h, ← List.drop_eq_getElem_cons h, List.take_append_drop]
  exact (e ▸ List.Perm.refl ls : ls.Perm (ls.take k ++ el ls k :: ls.drop (k + 1))).trans List.perm_middle

/-- The first item of the queue is the document's. -/
theorem best_same {ls zs : List It} {k : Nat} (h : zs.Perm ls) (hp : Pile zs) (hk : k < ls.length) (hb : ∀ j, j < ls.length → ahd (el ls j) (el ls k) = false) : el zs 0 = el ls k ∧ zs.tail.Perm (ls.eraseIdx k) ∧ zs.isEmpty = false := by
  have hz : 0 < zs.length := by rw [h.length_eq]; omega
  have e : el zs 0 = el ls k := by
    obtain ⟨j, hj, hje⟩ := mem_el (h.mem_iff.1 (el_mem hz))
    have h1 := hb j hj
    rw [hje] at h1
    exact ahd_same h1 (pile_first hp (h.mem_iff.2 (el_mem hk)))
  cases zs with
  | nil => simp at hz
  | cons z t =>
    have hz' : z = el ls k := e
    refine ⟨e, ?_, rfl⟩
    have h2 := h.trans (erase_perm hk)
    rw [← hz'] at h2
    exact (List.perm_cons z).1 h2

/-- The script as it came in. -/
def ActsIn (W : World) (ao : Option Addr) (m : Nat) (K : Nat → Int) (A : Nat → Option Addr) (Ln C : Nat → Nat) (X : Nat → List It) : Prop := 0 < m → ∃ b off, ao = some ⟨b, off, none⟩ ∧ b < W.heap.size ∧
  ∀ i, i < m → W.cell? ⟨b, off + i * 2, none⟩ = some (.int .i64 (K i)) ∧ W.cell? ⟨b, off + i * 2 + 1, none⟩ = some (.slice (A i) (Ln i) (C i)) ∧ (X i).length = Ln i ∧ Ln i ≤ 9223372036854775807 ∧ ItemsIn W (A i) (X i)

/-- A world that meets a condition. -/
structure SW (S : World → Prop) where
  w : World
  ok : S w

/-- One walk in the order of the text, in every world that meets the condition. -/
theorem wp_region_class {P : Program} {S : World → Prop} {id : Nat} {Q : Exit → Act → World → Prop} {a : Act} {w : World} {l : List Oper} (hm : P.follows .mixedOrders = true) (hB : Region.lexB .any l.toArray = true) (h0 : S w.drew)
    (h : wpQuiet P l.toArray (fun w' => ∃ u : SW S, w' = u.w) (fun a' => ∀ w', (∃ u : SW S, w' = u.w) → Q .normal a' w') l a) : (Code.region id l.toArray true).wp P Q a w :=
  wp_region_quiet (C := fun w' => ∃ u : SW S, w' = u.w) hm hB ⟨⟨w.drew, h0⟩, rfl⟩ (by simpa using h)

/-- The list, the queue, and what was popped or seen, in a block of its own. -/
structure PopS (W : World) (base b : Nat) (lv : Value) (ls : List It) (v : Value) (zs : List It) (r : Nat) (x : It) (w : World) : Prop where
  rq : RQ W w base b 28 lv ls v zs
  c0 : w.cell? ⟨r, 0, none⟩ = some (.int .i64 x.1)
  c1 : w.cell? ⟨r, 1, none⟩ = some (.int .u64 x.2)

theorem PopS.below {W : World} {base b : Nat} {lv : Value} {ls : List It} {v : Value} {zs : List It} {r : Nat} {x : It} {w w' : World} (h : PopS W base b lv ls v zs r x w) (hb : Below w.heap.size w w') : PopS W base b lv ls v zs r x w' :=
  have hr : r < w.heap.size := World.block_lt_of_cell? w ⟨r, 0, none⟩ h.c0
  ⟨h.rq.below hb, (hb.cell (p := ⟨r, 0, none⟩) hr).trans h.c0, (hb.cell (p := ⟨r, 1, none⟩) hr).trans h.c1⟩

theorem item_class {W : World} {base b : Nat} {lv : Value} {ls : List It} {v : Value} {zs : List It} {r : Nat} {x : It} (y : It) (u : SW (PopS W base b lv ls v zs r x)) :
    Calls Try.prog 7 #[.agg #[.int .i64 y.1, .int .u64 y.2]] u.w fun e w' => e = .returned (.agg #[.int .i64 y.1, .int .u64 y.2]) ∧ ∃ u' : SW (PopS W base b lv ls v zs r x), w' = u'.w := by
  refine (item_raw y u.w).mono ?_
  rintro e w' ⟨rfl, rfl⟩
  exact ⟨rfl, ⟨_, u.ok.below (below_alloc2 u.w _ _)⟩, rfl⟩

theorem len_class {W : World} {base b : Nat} {lv : Value} {ls : List It} {v : Value} {zs : List It} {r : Nat} {x : It} {n : Nat} (hn : zs.length = n) (u : SW (PopS W base b lv ls v zs r x)) :
    Calls Try.prog 14 #[.pointer (some ⟨b, 0, none⟩)] u.w fun e w' => e = .returned (.int .i64 n) ∧ ∃ u' : SW (PopS W base b lv ls v zs r x), w' = u'.w := by
  subst hn
  refine (len_any u.w u.ok.rq.que).mono ?_
  rintro e w' ⟨rfl, rfl⟩
  exact ⟨rfl, u, rfl⟩

set_option maxHeartbeats 16000000 in
set_option maxRecDepth 1000000 in
theorem plays_walk (ao so : Option Addr) (n cap m scap : Nat) (xs : List It) (K : Nat → Int) (A : Nat → Option Addr) (Ln C : Nat → Nat) (X : Nat → List It) (W : World) (hl : xs.length = n) (hcn : n ≤ 9223372036854775807) (hcm : m ≤ 9223372036854775807)
    (hin : ItemsIn W ao xs) (hac : ActsIn W so m K A Ln C X) :
    Calls Try.prog 3 #[.slice ao n cap, .slice so m scap] W fun e w' => e = .returned (.bool true) ∧ Below W.heap.size W w' := by
  have H : Hid (xs.length = n ∧ ItemsIn W ao xs ∧ ActsIn W so m K A Ln C X) := ⟨hl, hin, hac⟩
  obtain ⟨i0, hi0, hz0, hz1, hz2⟩ := info_parts Try.info31
  obtain ⟨i1, hi1, hy0, hy1, hy2⟩ := info_parts Try.info28
  clear hl hin hac
  go_enter Try.func3, Try.ntmps3
  go_wp2_with fail
  refine (awake_any _).mono ?_
  rintro e w1 ⟨rfl, hb1⟩
  have B1 : Hid (Below W.heap.size W w1) := hb1
  clear hb1
  by_cases hbig : 200 < n
  · have hbi : (200 : Int) < (n : Int) := by omega
    go_wp2
    go_ret
    exact ⟨rfl, B1.out⟩
  · have hbi : decide ((200 : Int) < (n : Int)) = false := decide_eq_false (by omega)
    by_cases hbm : 200 < m
    · have hbj : (200 : Int) < (m : Int) := by omega
      go_wp2
      go_ret
      exact ⟨rfl, B1.out⟩
    · have hbj : decide ((200 : Int) < (m : Int)) = false := decide_eq_false (by omega)
      go_wp2
      go_loopg [5, 6, 7] n (fun k lv iv s wr => ∃ (i : Nat), s = .int .i64 i ∧ i ≤ n ∧ n - i ≤ k ∧ Hid (R2 W wr W.heap.size lv (xs.take i) iv (xs.take i)))
      case atStart => exact ⟨0, rfl, by omega, by omega, ⟨World.ownsRow_nil _ _ _ _, World.ownsRow_nil _ _ _ _, B1.out, B1.out.size, fun g hg => by simp [Value.ownBlock] at hg⟩⟩
      case round =>
        obtain ⟨i, rfl, hin, hik, HR⟩ := hrel
        by_cases hlt : i < n
        · obtain ⟨b, off, rfl, hbW, hcell⟩ := H.out.2.1 (by rw [H.out.1]; omega)
          obtain ⟨x, hx⟩ : ∃ x, el xs i = x := ⟨_, rfl⟩
          obtain ⟨c0, c1⟩ := hcell i (by rw [H.out.1]; omega)
          rw [hx] at c0 c1
          have CX : Hid (W.cell? ⟨b, off + i * 2, none⟩ = some (.int .i64 x.1) ∧ W.cell? ⟨b, off + i * 2 + 1, none⟩ = some (.int .u64 x.2)) := ⟨c0, c1⟩
          have x0 := (HR.out.bel.cell (p := ⟨b, off + i * 2, none⟩) hbW).trans c0
          have x1 := (HR.out.bel.cell (p := ⟨b, off + i * 2 + 1, none⟩) hbW).trans c1
          have ii : (i : Int) < (n : Int) := by omega
          have XH : Hid (el xs i = x) := hx
          have T : Hid ((xs.take i).length = i) := by show _ = _; rw [List.length_take, H.out.1]; omega
          clear hcell c0 c1 hx
          go_wp2_with (at_builtin; refine wpList_append_moved rfl (.tmp 33) (.tmp 38) 22 rfl W.heap.size 28 i1 _ 2 16 Try.underlying22 hi1 hy0 hy1 hy2 rfl (by decide) u5 i (flat (xs.take i)) rfl (by have h := HR.out.lrow.alloc (.cells #[.int .i64 x.1, .int .u64 x.2] 28); rw [T.out] at h; exact h) ⟨wr.heap.size, 0, none⟩ 1 1 (flat [x]) rfl rfl (cell_two_new wr _ _ 28) (flat_one _) (by simp only [maxLen]; omega) (by omega) (by have := HR.out.big; simp; omega) ?_; intro lv' w3 hown hgrow hmov; have R3 : Hid (R2 W w3 W.heap.size lv' (xs.take i ++ [x]) u6 (xs.take i)) := HR.out.appendL _ T.out hown hgrow hmov; have y0 : w3.cell? ⟨b, off + i * 2, none⟩ = some (.int .i64 x.1) := (R3.out.bel.cell hbW).trans CX.out.1; have y1 : w3.cell? ⟨b, off + i * 2 + 1, none⟩ = some (.int .u64 x.2) := (R3.out.bel.cell hbW).trans CX.out.2; clear hown hgrow hmov)
          refine (item_below x w3).mono ?_
          rintro e w4 ⟨rfl, hb4⟩
          have R4 : Hid (R2 W w4 W.heap.size lv' (xs.take i ++ [x]) u6 (xs.take i)) := R3.out.below hb4
          clear hb4 y0 y1 x0 x1 R3
          go_wp2_with (at_builtin; refine wpList_append_moved rfl (.tmp 40) (.tmp 46) 25 rfl W.heap.size 31 i0 _ 2 16 Try.underlying25 hi0 hz0 hz1 hz2 rfl (by decide) u6 i (flat (xs.take i)) rfl (by have h := R4.out.irow.alloc (.cells #[.int .i64 x.1, .int .u64 x.2] 31); rw [T.out] at h; exact h) ⟨w4.heap.size, 0, none⟩ 1 1 (flat [x]) rfl rfl (cell_two_new w4 _ _ 31) (flat_one _) (by simp only [maxLen]; omega) (by omega) (by have := R4.out.big; simp; omega) ?_; intro iv' w5 hown hgrow hmov; have R5 : Hid (R2 W w5 W.heap.size lv' (xs.take i ++ [x]) iv' (xs.take i ++ [x])) := R4.out.appendI _ T.out hown hgrow hmov; clear hown hgrow hmov)
          go_roundg (n - (i + 1))
          case measure => omega
          case rel =>
            have h := R5.out
            rw [plays_take (by have := H.out.1; omega) XH.out] at h
            exact ⟨i + 1, by go_num, by omega, by omega, h⟩
        · obtain rfl : i = n := by omega
          have R0 : Hid (R2 W wr W.heap.size u5 xs u6 xs) := by
            have h := HR.out
            rw [List.take_of_length_le (by rw [H.out.1]; omega)] at h
            exact h
          clear HR
          go_wp2_with fail
          refine (new_any wr R0.out.irow (by have := H.out.1; omega) R0.out.big).mono ?_
          rintro e w2 ⟨rfl, v, zs, q1, q2, q3, q4, q5⟩
          have P0 : Hid (Pl W w2 W.heap.size wr.heap.size u5 xs v zs 200) := R0.out.queue q1 q2 q3 q4 q5 (by have := H.out.1; omega)
          obtain ⟨b, hb⟩ : ∃ b, b = wr.heap.size := ⟨_, rfl⟩
          rw [← hb] at P0 ⊢
          clear q1 q2 q3 q4 q5 hb R0
          go_wp2
          go_loopg [5, 9] m (fun k lv s wr => ∃ (j : Nat) (ls : List It) (v : Value) (zs : List It), s = .int .i64 j ∧ j ≤ m ∧ m - j ≤ k ∧ Hid (Pl W wr W.heap.size b lv ls v zs (200 + 50 * j)))
          case atStart => exact ⟨0, xs, v, zs, rfl, by omega, by omega, P0⟩
          case round =>
            obtain ⟨j, ls, v2, zs2, rfl, hj1, hj2, HJ⟩ := hrel
            by_cases hjm : j < m
            · have jd : (j : Int) < (m : Int) := by omega
              obtain ⟨sb, soff, rfl, hsW, hact⟩ := H.out.2.2 (by omega)
              obtain ⟨k0, k1, k2, k3, k4⟩ := hact j hjm
              obtain ⟨kind, hkind⟩ : ∃ x, K j = x := ⟨_, rfl⟩
              obtain ⟨ia, hia⟩ : ∃ x, A j = x := ⟨_, rfl⟩
              obtain ⟨il, hil⟩ : ∃ x, Ln j = x := ⟨_, rfl⟩
              obtain ⟨ic, hic⟩ : ∃ x, C j = x := ⟨_, rfl⟩
              obtain ⟨ys, hys⟩ : ∃ x, X j = x := ⟨_, rfl⟩
              rw [hkind] at k0
              rw [hia, hil, hic] at k1
              rw [hys, hil] at k2
              rw [hil] at k3
              rw [hia, hys] at k4
              have D : Hid (W.cell? ⟨sb, soff + j * 2, none⟩ = some (.int .i64 kind) ∧ W.cell? ⟨sb, soff + j * 2 + 1, none⟩ = some (.slice ia il ic) ∧ ys.length = il ∧ ItemsIn W ia ys) := ⟨k0, k1, k2, k4⟩
              clear hkind hia hil hic hys hact k0 k1 k2 k4
              go_wp2
              go_loopg [5, 10] 50 (fun k lv s w3 => ∃ (t : Nat) (ls : List It) (v : Value) (zs : List It), s = .int .i64 t ∧ t ≤ 50 ∧ 50 - t ≤ k ∧ Hid (Pl W w3 W.heap.size b lv ls v zs (200 + 50 * j + t)))
              case atStart => exact ⟨0, ls, v2, zs2, rfl, by omega, by omega, HJ⟩
              case round =>
                clear HJ
                obtain ⟨t, l3, v3, zs3, rfl, ht1, ht2, HT⟩ := hrel
                have s0 := (HT.out.rq.bel.cell (p := ⟨sb, soff + j * 2, none⟩) hsW).trans D.out.1
                have s1 := (HT.out.rq.bel.cell (p := ⟨sb, soff + j * 2 + 1, none⟩) hsW).trans D.out.2.1
                obtain ⟨cc, hcc⟩ : ∃ c, decide (t ≤ il ∧ t < 50) = c := ⟨_, rfl⟩
                have CC : Hid (decide (t ≤ il ∧ t < 50) = cc) := hcc
                clear hcc
                go_upto_region 17 with fail
                go_cut [67] (fun s w => s = .bool cc ∧ w = wr)
                case first =>
                  by_cases c1 : t ≤ il
                  · have d1 : (t : Int) ≤ (il : Int) := by omega
                    by_cases c2 : t < 50
                    · have d2 : (t : Int) < 50 := by omega
                      obtain rfl : cc = true := CC.out.symm.trans (decide_eq_true ⟨c1, c2⟩)
                      go_wp2
                      go_meet
                      case rel => exact ⟨rfl, rfl⟩
                    · have d2 : decide ((t : Int) < 50) = false := decide_eq_false (by omega)
                      obtain rfl : cc = false := CC.out.symm.trans (decide_eq_false (fun h => c2 h.2))
                      go_wp2
                      go_meet
                      case rel => exact ⟨rfl, rfl⟩
                  · have d1 : decide ((t : Int) ≤ (il : Int)) = false := decide_eq_false (by omega)
                    obtain rfl : cc = false := CC.out.symm.trans (decide_eq_false (fun h => c1 h.1))
                    go_wp2
                    go_meet
                    case rel => exact ⟨rfl, rfl⟩
                case rest =>
                  obtain ⟨rfl, rfl⟩ := hcut
                  cases cc
                  · have hl3 : l3.length ≤ 1000000 := by have := HT.out.len; omega
                    have hcc : ¬ (t ≤ il ∧ t < 50) := of_decide_eq_false CC.out
                    clear s0 s1
                    go_wp2_with fail
                    refine (first_any wc HT.out.rq.row hl3).mono ?_
                    rintro e w4 ⟨a, rfl, hbest, hb4⟩
                    have P4 : Hid (Pl W w4 W.heap.size b u5 l3 v3 zs3 (200 + 50 * j + t)) := HT.out.below hb4
                    have BB : Hid (Best l3 l3.length a) := hbest
                    clear hb4 hbest
                    go_wp2_with fail
                    refine (peek_any w4 P4.out.rq.que).mono ?_
                    rintro e w5 ⟨rfl, hb5⟩
                    have P5 : Hid (Pl W w5 W.heap.size b u5 l3 v3 zs3 (200 + 50 * j + t)) := P4.out.below hb5
                    clear hb5 P4
                    rcases BB.out with ⟨h0, rfl⟩ | ⟨h0, k, hkl, rfl, hkb⟩
                    · have hl0 : l3 = [] := List.eq_nil_of_length_eq_zero h0
                      subst hl0
                      have hz0 : zs3 = [] := List.eq_nil_of_length_eq_zero (by rw [P5.out.same.length_eq]; rfl)
                      subst hz0
                      have ee : el [] 0 = (0, 0) := rfl
                      rw [ee]
                      unfold itV
                      obtain ⟨lo, lc, rfl⟩ : ∃ lo lc, u5 = .slice lo 0 lc := by
                        obtain ⟨ao', cp, e, _, _, _⟩ := own_form P5.out.rq.row
                        exact ⟨ao', cp, e⟩
                      go_wp2_with fail
                      obtain ⟨w6, hw6⟩ : ∃ w6, w6 = w5.alloc (.cells #[.int .i64 0, .int .u64 0] 31) := ⟨_, rfl⟩
                      rw [← hw6]
                      have R6 : RQ W w6 W.heap.size b 28 (.slice lo 0 lc) [] v3 [] := by rw [hw6]; exact P5.out.rq.below ((Below.refl _ w5).alloc (Nat.le_refl _) _)
                      have a0 : w6.cell? ⟨w5.heap.size, 0, none⟩ = some (.int .i64 0) := by rw [hw6]; simp
                      have a1 : w6.cell? ⟨w5.heap.size, 1, none⟩ = some (.int .u64 0) := by rw [hw6]; simp
                      have SS : PopS W W.heap.size b (.slice lo 0 lc) [] v3 [] w5.heap.size (0, 0) w6 := ⟨R6, a0, a1⟩
                      have SH : Hid (PopS W W.heap.size b (.slice lo 0 lc) [] v3 [] w5.heap.size (0, 0) w6) := SS
                      have NE : Nonempty (SW (PopS W W.heap.size b (.slice lo 0 lc) [] v3 [] w5.heap.size (0, 0))) := ⟨⟨w6, SS⟩⟩
                      have c0 : ∀ u : SW (PopS W W.heap.size b (.slice lo 0 lc) [] v3 [] w5.heap.size (0, 0)), u.w.cell? ⟨w5.heap.size, 0, none⟩ = some (.int .i64 0) := fun u => u.ok.c0
                      have c1 : ∀ u : SW (PopS W W.heap.size b (.slice lo 0 lc) [] v3 [] w5.heap.size (0, 0)), u.w.cell? ⟨w5.heap.size, 1, none⟩ = some (.int .u64 0) := fun u => u.ok.c1
                      clear SS a0 a1 R6 hw6
                      refine wp_region_class (S := PopS W W.heap.size b (.slice lo 0 lc) [] v3 [] w5.heap.size (0, 0)) (by kernel_rfl) (by kernel_rfl) (SH.out.below (Below.refl _ w6).drew) ?_
                      repeat (go_big_quiet_step (exact len_class (n := 0) rfl _))
                      refine wpQuiet_nil ?_
                      intro _ hw'
                      obtain ⟨u, hw''⟩ := hw'
                      subst hw''
                      have P7 : Hid (RQ W u.w W.heap.size b 28 (.slice lo 0 lc) [] v3 []) := u.ok.rq
                      obtain ⟨w7, hw7⟩ : ∃ w7, w7 = u.w := ⟨_, rfl⟩
                      rw [← hw7] at P7 ⊢
                      clear c0 c1 hw7
                      go_wp2
                      go_roundg (m - (j + 1))
                      case measure => omega
                      case rel => exact ⟨j + 1, [], v3, [], by go_num, by omega, by omega, ⟨P7.out, List.Perm.refl _, pile_nil, by simp⟩⟩
                    · obtain ⟨f1, f2, f3⟩ := best_same P5.out.same P5.out.pile hkl hkb
                      obtain ⟨x, hx⟩ : ∃ x, el l3 k = x := ⟨_, rfl⟩
                      rw [f1, f3, hx]
                      unfold itV
                      obtain ⟨g, lc, rfl⟩ : ∃ g lc, u5 = .slice (some ⟨g, 0, none⟩) l3.length lc := by
                        obtain ⟨ao', cp, e, _, _, h3⟩ := own_form P5.out.rq.row
                        obtain ⟨g, e2⟩ := h3 h0
                        exact ⟨g, cp, by rw [e, e2]⟩
                      clear f1 f2 f3 hkb
                      have kd1 : (k : Int) < (l3.length : Int) := by omega
                      have kd2 : decide ((k : Int) < 0) = false := decide_eq_false (by omega)
                      have kd3 : decide ((0 : Int) ≤ (k : Int)) = true := decide_eq_true (by omega)
                      go_wp2_with fail
                      obtain ⟨w6, hw6⟩ : ∃ w6, w6 = w5.alloc (.cells #[.int .i64 x.1, .int .u64 x.2] 31) := ⟨_, rfl⟩
                      rw [← hw6]
                      have R6 : RQ W w6 W.heap.size b 28 (.slice (some ⟨g, 0, none⟩) l3.length lc) l3 v3 zs3 := by rw [hw6]; exact P5.out.rq.below ((Below.refl _ w5).alloc (Nat.le_refl _) _)
                      have a0 : w6.cell? ⟨w5.heap.size, 0, none⟩ = some (.int .i64 x.1) := by rw [hw6]; simp
                      have a1 : w6.cell? ⟨w5.heap.size, 1, none⟩ = some (.int .u64 x.2) := by rw [hw6]; simp
                      have SS : PopS W W.heap.size b (.slice (some ⟨g, 0, none⟩) l3.length lc) l3 v3 zs3 w5.heap.size x w6 := ⟨R6, a0, a1⟩
                      have SH : Hid (PopS W W.heap.size b (.slice (some ⟨g, 0, none⟩) l3.length lc) l3 v3 zs3 w5.heap.size x w6) := SS
                      have NE : Nonempty (SW (PopS W W.heap.size b (.slice (some ⟨g, 0, none⟩) l3.length lc) l3 v3 zs3 w5.heap.size x)) := ⟨⟨w6, SS⟩⟩
                      have LL : Hid (zs3.length = l3.length) := P5.out.same.length_eq
                      have c0 : ∀ u : SW (PopS W W.heap.size b (.slice (some ⟨g, 0, none⟩) l3.length lc) l3 v3 zs3 w5.heap.size x), u.w.cell? ⟨w5.heap.size, 0, none⟩ = some (.int .i64 x.1) := fun u => u.ok.c0
                      have c1 : ∀ u : SW (PopS W W.heap.size b (.slice (some ⟨g, 0, none⟩) l3.length lc) l3 v3 zs3 w5.heap.size x), u.w.cell? ⟨w5.heap.size, 1, none⟩ = some (.int .u64 x.2) := fun u => u.ok.c1
                      have d0 : ∀ u : SW (PopS W W.heap.size b (.slice (some ⟨g, 0, none⟩) l3.length lc) l3 v3 zs3 w5.heap.size x), u.w.cell? ⟨g, k * 2, none⟩ = some (.int .i64 x.1) := fun u => (own_cells u.ok.rq.row hkl).1.trans (by rw [hx])
                      have d1 : ∀ u : SW (PopS W W.heap.size b (.slice (some ⟨g, 0, none⟩) l3.length lc) l3 v3 zs3 w5.heap.size x), u.w.cell? ⟨g, k * 2 + 1, none⟩ = some (.int .u64 x.2) := fun u => (own_cells u.ok.rq.row hkl).2.1.trans (by rw [hx])
                      clear SS hx a0 a1 R6 hw6
                      refine wp_region_class (S := PopS W W.heap.size b (.slice (some ⟨g, 0, none⟩) l3.length lc) l3 v3 zs3 w5.heap.size x) (by kernel_rfl) (by kernel_rfl) (SH.out.below (Below.refl _ w6).drew) ?_
                      repeat (go_big_quiet_step (first | exact len_class LL.out _ | exact item_class x _))
                      refine wpQuiet_nil ?_
                      intro _ hw'
                      obtain ⟨u, hw''⟩ := hw'
                      subst hw''
                      have P7 : Hid (RQ W u.w W.heap.size b 28 (.slice (some ⟨g, 0, none⟩) l3.length lc) l3 v3 zs3) := u.ok.rq
                      obtain ⟨w7, hw7⟩ : ∃ w7, w7 = u.w := ⟨_, rfl⟩
                      rw [← hw7] at P7 ⊢
                      clear c0 c1 d0 d1 hw7
                      go_wp2
                      go_roundg (m - (j + 1))
                      case measure => omega
                      case rel => exact ⟨j + 1, l3, v3, zs3, by go_num, by omega, by omega, ⟨P7.out, P5.out.same, P5.out.pile, by have := P5.out.len; omega⟩⟩
                  · have hc : t ≤ il ∧ t < 50 := of_decide_eq_true CC.out
                    obtain ⟨c1, c2⟩ := hc
                    by_cases hk : kind = 0
                    · subst hk
                      by_cases hti : t < il
                      · have td : (t : Int) < (il : Int) := by omega
                        obtain ⟨ib, ioff, rfl, hiW, hit⟩ := D.out.2.2.2 (by rw [D.out.2.2.1]; omega)
                        obtain ⟨x, hx⟩ : ∃ x, el ys t = x := ⟨_, rfl⟩
                        obtain ⟨e0, e1⟩ := hit t (by rw [D.out.2.2.1]; exact hti)
                        rw [hx] at e0 e1
                        have E : Hid (W.cell? ⟨ib, ioff + t * 2, none⟩ = some (.int .i64 x.1) ∧ W.cell? ⟨ib, ioff + t * 2 + 1, none⟩ = some (.int .u64 x.2)) := ⟨e0, e1⟩
                        have x0 := (HT.out.rq.bel.cell (p := ⟨ib, ioff + t * 2, none⟩) hiW).trans e0
                        have x1 := (HT.out.rq.bel.cell (p := ⟨ib, ioff + t * 2 + 1, none⟩) hiW).trans e1
                        clear e0 e1 hit hx
                        go_wp2_with fail
                        refine (item_below x wc).mono ?_
                        rintro e w4 ⟨rfl, hb4⟩
                        have P4 : Hid (Pl W w4 W.heap.size b u5 l3 v3 zs3 (200 + 50 * j + t)) := HT.out.below hb4
                        clear hb4 x0 x1 s0 s1
                        go_wp2_with fail
                        have P5 := P4.out.below ((Below.refl _ w4).alloc (Nat.le_refl _) (.cells #[.int .i64 x.1, .int .u64 x.2] 31))
                        have hzl : zs3.length ≤ 200 + 50 * j + t := by rw [P4.out.same.length_eq]; exact P4.out.len
                        refine (push_any _ P5.rq.que P5.pile (lit_own w4 x _ P4.out.rq.big) (fun g hg => ?_) (by simp; omega) P5.rq.big).mono ?_
                        · intro e
                          simp only [Value.ownBlock, Option.some.injEq] at hg
                          have := (P4.out.rq.que.own.lt g e).2
                          omega
                        rintro e w6 ⟨rfl, v', zs', q1, q2, q3, q4, q5⟩
                        have R6 : Hid (RQ W w6 W.heap.size b 28 u5 l3 v' zs' ∧ zs'.Perm (l3 ++ [x]) ∧ Pile zs') := ⟨P5.rq.turn q1 q4 q5, q2.trans (P5.same.append_right _), q3⟩
                        clear P5 q1 q2 q3 q4 q5 hzl
                        have s1 := (R6.out.1.bel.cell (p := ⟨sb, soff + j * 2 + 1, none⟩) hsW).trans D.out.2.1
                        have x0 := (R6.out.1.bel.cell (p := ⟨ib, ioff + t * 2, none⟩) hiW).trans E.out.1
                        have x1 := (R6.out.1.bel.cell (p := ⟨ib, ioff + t * 2 + 1, none⟩) hiW).trans E.out.2
                        have hl3 : l3.length ≤ 100000 := by have := HT.out.len; omega
                        go_wp2_with (at_builtin; refine wpList_append_moved rfl (.tmp 96) (.tmp 105) 22 rfl W.heap.size 28 i1 _ 2 16 Try.underlying22 hi1 hy0 hy1 hy2 rfl (by decide) u5 l3.length (flat l3) rfl (R6.out.1.row.alloc (.cells #[.int .i64 x.1, .int .u64 x.2] 28)) ⟨w6.heap.size, 0, none⟩ 1 1 (flat [x]) rfl rfl (cell_two_new w6 _ _ 28) (flat_one _) (by simp only [maxLen]; omega) (by omega) (by have := R6.out.1.big; simp; omega) ?_; intro lv' w7 hown hgrow hmov; have R7 : Hid (RQ W w7 W.heap.size b 28 lv' (l3 ++ [x]) v' zs') := R6.out.1.append _ rfl hown hgrow hmov; clear hown hgrow hmov)
                        go_roundg (50 - (t + 1))
                        case measure => omega
                        case rel => exact ⟨t + 1, l3 ++ [x], v', zs', by go_num, by omega, by omega, ⟨R7.out, R6.out.2.1, R6.out.2.2, by have := HT.out.len; simp only [List.length_append, List.length_cons, List.length_nil]; omega⟩⟩
                      · have td : decide ((t : Int) < (il : Int)) = false := decide_eq_false (by omega)
                        go_wp2
                        go_roundg (50 - (t + 1))
                        case measure => omega
                        case rel => exact ⟨t + 1, l3, v3, zs3, by go_num, by omega, by omega, HT.out.mono (by omega)⟩
                    · have kd : (kind == 0) = false := beq_eq_false_iff_ne.2 hk
                      have hl3 : l3.length ≤ 1000000 := by have := HT.out.len; omega
                      go_wp2_with fail
                      refine (first_any wc HT.out.rq.row hl3).mono ?_
                      rintro e w4 ⟨a, rfl, hbest, hb4⟩
                      have P4 : Hid (Pl W w4 W.heap.size b u5 l3 v3 zs3 (200 + 50 * j + t)) := HT.out.below hb4
                      have BB : Hid (Best l3 l3.length a) := hbest
                      clear hb4 hbest s0 s1
                      go_wp2_with fail
                      refine (pop_any w4 P4.out.rq.que (by rw [P4.out.same.length_eq]; exact hl3) P4.out.pile).mono ?_
                      rintro e w5 ⟨rfl, v', zs', q1, q2, q3, q4, q5⟩
                      have R5 : Hid (RQ W w5 W.heap.size b 28 u5 l3 v' zs') := P4.out.rq.turn q1 q4 (.inl q5)
                      have Q5 : Hid (zs'.Perm zs3.tail ∧ Pile zs') := ⟨q2, q3⟩
                      clear q1 q2 q3 q4 q5
                      rcases BB.out with ⟨h0, rfl⟩ | ⟨h0, k, hkl, rfl, hkb⟩
                      · have hl0 : l3 = [] := List.eq_nil_of_length_eq_zero h0
                        subst hl0
                        have hz0 : zs3 = [] := List.eq_nil_of_length_eq_zero (by rw [P4.out.same.length_eq]; rfl)
                        subst hz0
                        have hz1 : zs' = [] := List.eq_nil_of_length_eq_zero (by rw [Q5.out.1.length_eq]; rfl)
                        subst hz1
                        have ee : el [] 0 = (0, 0) := rfl
                        rw [ee]
                        unfold itV
                        go_wp2_with fail
                        go_quiet (fail)
                        go_wp2
                        go_roundg (50 - (t + 1))
                        case measure => omega
                        case rel => exact ⟨t + 1, [], v', [], by go_num, by omega, by omega, ⟨R5.out.below (below_drewN ((Below.refl _ w5).alloc (Nat.le_refl _) _) _), List.Perm.refl _, pile_nil, by simp⟩⟩
                      · obtain ⟨f1, f2, f3⟩ := best_same P4.out.same P4.out.pile hkl hkb
                        obtain ⟨x, hx⟩ : ∃ x, el l3 k = x := ⟨_, rfl⟩
                        rw [f1, f3, hx]
                        unfold itV
                        obtain ⟨g, lc, rfl⟩ : ∃ g lc, u5 = .slice (some ⟨g, 0, none⟩) l3.length lc := by
                          obtain ⟨ao', cp, e, _, _, h3⟩ := own_form R5.out.row
                          obtain ⟨g, e2⟩ := h3 h0
                          exact ⟨g, cp, by rw [e, e2]⟩
                        have FF : Hid (zs3.tail.Perm (l3.eraseIdx k)) := f2
                        clear f1 f2 f3 hkb
                        have kd1 : (k : Int) < (l3.length : Int) := by omega
                        have kd2 : decide ((k : Int) < 0) = false := decide_eq_false (by omega)
                        have kd3 : decide ((0 : Int) ≤ (k : Int)) = true := decide_eq_true (by omega)
                        go_wp2_with fail
                        obtain ⟨w6, hw6⟩ : ∃ w6, w6 = w5.alloc (.cells #[.int .i64 x.1, .int .u64 x.2] 31) := ⟨_, rfl⟩
                        rw [← hw6]
                        have R6 : Hid (RQ W w6 W.heap.size b 28 (.slice (some ⟨g, 0, none⟩) l3.length lc) l3 v' zs') := by rw [hw6]; exact R5.out.below ((Below.refl _ w5).alloc (Nat.le_refl _) _)
                        have a0 : w6.cell? ⟨w5.heap.size, 0, none⟩ = some (.int .i64 x.1) := by rw [hw6]; simp
                        have a1 : w6.cell? ⟨w5.heap.size, 1, none⟩ = some (.int .u64 x.2) := by rw [hw6]; simp
                        clear hw6
                        have c0 : ∀ u : SW (PopS W W.heap.size b (.slice (some ⟨g, 0, none⟩) l3.length lc) l3 v' zs' w5.heap.size x), u.w.cell? ⟨w5.heap.size, 0, none⟩ = some (.int .i64 x.1) := fun u => u.ok.c0
                        have c1' : ∀ u : SW (PopS W W.heap.size b (.slice (some ⟨g, 0, none⟩) l3.length lc) l3 v' zs' w5.heap.size x), u.w.cell? ⟨w5.heap.size, 1, none⟩ = some (.int .u64 x.2) := fun u => u.ok.c1
                        have d0 : ∀ u : SW (PopS W W.heap.size b (.slice (some ⟨g, 0, none⟩) l3.length lc) l3 v' zs' w5.heap.size x), u.w.cell? ⟨g, k * 2, none⟩ = some (.int .i64 x.1) := fun u => (own_cells u.ok.rq.row hkl).1.trans (by rw [hx])
                        have d1 : ∀ u : SW (PopS W W.heap.size b (.slice (some ⟨g, 0, none⟩) l3.length lc) l3 v' zs' w5.heap.size x), u.w.cell? ⟨g, k * 2 + 1, none⟩ = some (.int .u64 x.2) := fun u => (own_cells u.ok.rq.row hkl).2.1.trans (by rw [hx])
                        have SS : PopS W W.heap.size b (.slice (some ⟨g, 0, none⟩) l3.length lc) l3 v' zs' w5.heap.size x w6 := ⟨R6.out, a0, a1⟩
                        have SH : Hid (PopS W W.heap.size b (.slice (some ⟨g, 0, none⟩) l3.length lc) l3 v' zs' w5.heap.size x w6) := SS
                        have NE : Nonempty (SW (PopS W W.heap.size b (.slice (some ⟨g, 0, none⟩) l3.length lc) l3 v' zs' w5.heap.size x)) := ⟨⟨w6, SS⟩⟩
                        clear SS hx a0 a1 R6 R5
                        refine wp_region_class (S := PopS W W.heap.size b (.slice (some ⟨g, 0, none⟩) l3.length lc) l3 v' zs' w5.heap.size x) (by kernel_rfl) (by kernel_rfl) (SH.out.below (Below.refl _ w6).drew) ?_
                        repeat (go_big_quiet_step (exact item_class x _))
                        refine wpQuiet_nil ?_
                        intro _ hw'
                        obtain ⟨u, hw''⟩ := hw'
                        subst hw''
                        have P7 : Hid (RQ W u.w W.heap.size b 28 (.slice (some ⟨g, 0, none⟩) l3.length lc) l3 v' zs') := u.ok.rq
                        obtain ⟨w7, hw7⟩ : ∃ w7, w7 = u.w := ⟨_, rfl⟩
                        rw [← hw7] at P7 ⊢
                        clear c0 c1' d0 d1 hw7
                        go_wp2_with fail
                        refine (without_any _ P7.out.row hl3 hkl).mono ?_
                        rintro e w8 ⟨lv', rfl, n1, n2⟩
                        have P8 : Hid (RQ W w8 W.heap.size b 28 lv' (l3.eraseIdx k) v' zs') := P7.out.replace n1 n2
                        clear n1 n2 P7
                        go_wp2
                        go_roundg (50 - (t + 1))
                        case measure => omega
                        case rel => exact ⟨t + 1, l3.eraseIdx k, v', zs', by go_num, by omega, by omega, ⟨P8.out, Q5.out.1.trans FF.out, Q5.out.2, by have := HT.out.len; have := List.length_eraseIdx_le l3 k; omega⟩⟩
            · have jd : ¬ (j : Int) < (m : Int) := by omega
              go_wp2
              go_ret
              exact ⟨rfl, HJ.out.rq.bel⟩

end Go.Proofs.Ytjpdckpkpcphcaa
