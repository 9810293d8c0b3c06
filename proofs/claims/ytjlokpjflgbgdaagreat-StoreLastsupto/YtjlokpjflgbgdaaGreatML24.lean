/-
  frame.Open, by a contract over frames. No condition but that what is handed in is no longer than any memory holds.
-/
import Derived.Test.YtjlokpjflgbgdaaGreatML11
set_option maxHeartbeats 6400000
set_option maxRecDepth 100000
namespace Go.Proofs.YtjlokpjflgbgdaaGreat
open Go.RowKit
theorem number_at {v : Value} {bs : Bs} (w : World) (h : BAt w v bs) (hl : 4 <= bs.length) (t : Nat) (ht : val (bs.take 4) = t) :
  Calls Tryz.prog 191 #[v] w λ e w' => e = .returned (.int .u32 (t : Int)) /\ Below w.heap.size w w' := by
 match bs, hl with
 | b0 :: b1 :: b2 :: b3 :: rest, _ =>
  refine (number_any w h).mono ?_
  rintro e w' ⟨rfl, q, rfl⟩
  refine ⟨by rw [<- ht]; rfl, ?_⟩
  exact ⟨rfl, rfl, rfl, Nat.le_refl _, λ _ _ => rfl⟩
theorem sliceB_ij {ao : Option Addr} {n c i j : Nat} (hc : n <= c) (hij : i <= j) (hj : j <= n) :
  ∃ a' c', (∀ w, (Instr.slice 39 (.slice ao n c) (some (.int .i64 (i : Int))) (some (.int .i64 (j : Int))) none).run Tryz.prog w = .ok (.slice a' (j - i) c') w) /\ j - i <= c' /\ c' <= c /\ ∀ w (xs : Bs), xs.length = n -> RdG encB w ao xs -> RdG encB w a' ((xs.drop i).take (j - i)) := by
 obtain ⟨i0, hi0, hz0, hz1, hz2⟩ := info_parts Tryz.info5
 refine ⟨if c = i then ao else ao.map (·.add i), c - i, λ w => ?_, by omega, by omega, ?_⟩
 ·rw [run_slice_lh w 39 ao n c Tryz.underlying39 .i64 .i64 (i : Int) (j : Int) (by omega) (by omega) (by omega)]
  have : (sizeOf (Tryz.prog.elem 39)).run Tryz.prog w = .ok 1 w := by
   have he : Tryz.prog.elem 39 = 5 := by kernel_rfl
   rw [he]
   simp [sizeOf, typeInfo, hi0, hz1]
  rw [this]
  simp only [Result.andThen, sliced, Int.toNat_natCast, Nat.mul_one]
 ·intro w xs hl h
  split
  ·intro h0
   simp at h0
   omega
  ·intro h0
   obtain ⟨b, off, rfl, hlt, hcc⟩ := h (by simp at h0; omega)
   simp only [Option.map_some, addr_plus]
   have := (RdG.drop (E := encB) (b := b) (off := off) (xs := xs) (λ _ => ⟨b, off, rfl, hlt, hcc⟩) i).take (j - i) h0
   rw [show i * encB.size = i from Nat.mul_one i] at this
   exact this
section
variable {w : World} {a : Option Addr} {n c : Nat} {bs : Bs}
theorem open_few (h : n < 4) : Calls Tryz.prog 141 #[.slice a n c] w λ e w' => e = .returned (.tuple #[.agg #[.int .i64 0, .slice none 0 0], .int .i64 0, .int .i64 10]) /\ Below w.heap.size w w' := by
 have q : (n : Int) < 4 := by omega
 go_enter Tryz.func141, Tryz.ntmps141
 go_wp2
 refine bodyPost_ret (v := .tuple #[.agg #[.int .i64 0, .slice none 0 0], .int .i64 0, .int .i64 10]) ?_ rfl ⟨rfl, ?_⟩
 ·simp [results, Tryz.f141]
  go_simp
 ·exact bz1 _ _
theorem open_long (hb : BAt w (.slice a n c) bs) (hl : bs.length = n) (h : ¬ n < 4) (t : Nat) (ht : val (bs.take 4) = t) (h8 : 8192 < t) : Calls Tryz.prog 141 #[.slice a n c] w λ e w' => e = .returned (.tuple #[.agg #[.int .i64 0, .slice none 0 0], .int .i64 0, .int .i64 4]) /\ Below w.heap.size w w' := by
 have q : decide ((n : Int) < 4) = false := by rw [decide_eq_false_iff_not]; omega
 have q2 : (8192 : Int) < (t : Int) := by omega
 obtain ⟨W, hW⟩ : ∃ W, w.alloc (.cells #[.int .i64 0, .slice none 0 0] 237) = W := ⟨_, rfl⟩
 have B0 : Below w.heap.size w W := by rw [<- hW]; exact bz1 _ _
 have T : Box W w.heap.size 237 (.int .i64 0) (.slice none 0 0) := by rw [<- hW]; exact Box.new w _ _ _
 have hnu := number_at W (hb.below B0) (by omega) t ht
 have H : Hid (Below w.heap.size w W /\ Box W w.heap.size 237 (.int .i64 0) (.slice none 0 0)) := ⟨B0, T⟩
 clear hb hl h ht B0 T
 go_enter Tryz.func141, Tryz.ntmps141
 go_wp2_with fail
 refine hnu.mono ?_
 rintro e w1 ⟨rfl, B1⟩
 obtain ⟨x0, x1⟩ := (H.out.2.below B1).cells
 obtain ⟨f0, f1⟩ := (H.out.2.below B1).thaw
 have HB : Hid (Below w.heap.size w w1) := H.out.1.trans (B1.mono H.out.1.size)
 clear B1 hnu
 go_wp2
 refine bodyPost_ret (v := .tuple #[.agg #[.int .i64 0, .slice none 0 0], .int .i64 0, .int .i64 4]) ?_ rfl ⟨rfl, (lay_box HB.out (Nat.le_refl _) _ _).1⟩
 simp [results, Tryz.f141]
 go_simp
theorem open_short (hb : BAt w (.slice a n c) bs) (hl : bs.length = n) (h : ¬ n < 4) (t : Nat) (ht : val (bs.take 4) = t) (h8 : ¬ 8192 < t) (h9 : n < 9 + t) : Calls Tryz.prog 141 #[.slice a n c] w λ e w' => e = .returned (.tuple #[.agg #[.int .i64 0, .slice none 0 0], .int .i64 0, .int .i64 10]) /\ Below w.heap.size w w' := by
 have q : decide ((n : Int) < 4) = false := by rw [decide_eq_false_iff_not]; omega
 have q2 : decide ((8192 : Int) < (t : Int)) = false := by rw [decide_eq_false_iff_not]; omega
 have q3 : decide ((n : Int) < 9 + (t : Int)) = true := by rw [decide_eq_true_iff]; omega
 have w1 : IntKind.i64.wrap (t : Int) = (t : Int) := by rw [IntKind.wrap_i64]; omega
 obtain ⟨W, hW⟩ : ∃ W, w.alloc (.cells #[.int .i64 0, .slice none 0 0] 237) = W := ⟨_, rfl⟩
 have B0 : Below w.heap.size w W := by rw [<- hW]; exact bz1 _ _
 have T : Box W w.heap.size 237 (.int .i64 0) (.slice none 0 0) := by rw [<- hW]; exact Box.new w _ _ _
 have hnu := number_at W (hb.below B0) (by omega) t ht
 have H : Hid (Below w.heap.size w W /\ Box W w.heap.size 237 (.int .i64 0) (.slice none 0 0)) := ⟨B0, T⟩
 clear hb hl h ht B0 T
 go_enter Tryz.func141, Tryz.ntmps141
 go_wp2_with fail
 refine hnu.mono ?_
 rintro e w1 ⟨rfl, B1⟩
 obtain ⟨x0, x1⟩ := (H.out.2.below B1).cells
 obtain ⟨f0, f1⟩ := (H.out.2.below B1).thaw
 have HB : Hid (Below w.heap.size w w1) := H.out.1.trans (B1.mono H.out.1.size)
 clear B1 hnu
 go_wp2
 refine bodyPost_ret (v := .tuple #[.agg #[.int .i64 0, .slice none 0 0], .int .i64 0, .int .i64 10]) ?_ rfl ⟨rfl, (lay_box HB.out (Nat.le_refl _) _ _).1⟩
 simp [results, Tryz.f141]
 go_simp
theorem open_sum (hb : BAt w (.slice a n c) bs) (hl : bs.length = n) (hn : n <= 140737488355328) (h : ¬ n < 4) (t : Nat) (ht : val (bs.take 4) = t) (h8 : ¬ 8192 < t) (h9 : ¬ n < 9 + t) (hs : val ((bs.drop (5 + t)).take 4) ≠ crc (bs.take (5 + t))) : Calls Tryz.prog 141 #[.slice a n c] w λ e w' => e = .returned (.tuple #[.agg #[.int .i64 0, .slice none 0 0], .int .i64 0, .int .i64 11]) /\ Below w.heap.size w w' := by
 have q : decide ((n : Int) < 4) = false := by rw [decide_eq_false_iff_not]; omega
 have q2 : decide ((8192 : Int) < (t : Int)) = false := by rw [decide_eq_false_iff_not]; omega
 have q3 : decide ((n : Int) < 9 + (t : Int)) = false := by rw [decide_eq_false_iff_not]; omega
 have ww : IntKind.i64.wrap (t : Int) = (t : Int) := by rw [IntKind.wrap_i64]; omega
 obtain ⟨W, hW⟩ : ∃ W, w.alloc (.cells #[.int .i64 0, .slice none 0 0] 237) = W := ⟨_, rfl⟩
 have B0 : Below w.heap.size w W := by rw [<- hW]; exact bz1 _ _
 have T : Box W w.heap.size 237 (.int .i64 0) (.slice none 0 0) := by rw [<- hW]; exact Box.new w _ _ _
 have hnu := number_at W (hb.below B0) (by omega) t ht
 obtain ⟨en, hen⟩ : ∃ en, 5 + t = en := ⟨_, rfl⟩
 rw [hen] at hs
 have he : (9 + (t : Int) - 4) = (en : Int) := by omega
 obtain ⟨ao', c', e', hc1, hc2, hrd⟩ := hb
 rw [hl] at e'
 cases e'
 obtain ⟨a2, c2, hs2, o1, o2, r2⟩ := sliceB_l (ao := a) (n := n) (c := c) (k := en) (by omega) (by omega)
 obtain ⟨a3, c3, hs3, o3, o4, r3⟩ := sliceB_h (ao := a) (n := n) (c := c) (k := en) (by omega) (by omega)
 have hB2 : ∀ u, Below w.heap.size w u -> BAt u (.slice a2 (n - en) c2) (bs.drop en) := λ u hu => ⟨a2, c2, by rw [List.length_drop, hl], by rw [List.length_drop, hl]; exact o1, by omega, r2 u bs hl (hrd.below hu)⟩
 have hB3 : ∀ u, Below w.heap.size w u -> BAt u (.slice a3 en c3) (bs.take en) := λ u hu => ⟨a3, c3, by rw [List.length_take, show min en bs.length = en by omega], by rw [List.length_take]; omega, by omega, r3 u bs (hrd.below hu)⟩
 have hd4 : 4 <= (bs.drop en).length := by rw [List.length_drop]; omega
 obtain ⟨cr, hcr⟩ : ∃ cr, crc (bs.take en) = cr := ⟨_, rfl⟩
 obtain ⟨t1, ht1⟩ : ∃ t1, val ((bs.drop en).take 4) = t1 := ⟨_, rfl⟩
 rw [hcr, ht1] at hs
 have m0 : ((t1 : Int) != (cr : Int)) = true := by
  rw [bne_iff_ne]
  intro q
  exact hs (by omega)
 have H : Hid (Below w.heap.size w W /\ Box W w.heap.size 237 (.int .i64 0) (.slice none 0 0) /\ (∀ u, Below w.heap.size w u -> BAt u (.slice a2 (n - en) c2) (bs.drop en)) /\ (∀ u, Below w.heap.size w u -> BAt u (.slice a3 en c3) (bs.take en)) /\ 4 <= (bs.drop en).length /\ val ((bs.drop en).take 4) = t1 /\ crc (bs.take en) = cr) := ⟨B0, T, hB2, hB3, hd4, ht1, hcr⟩
 clear ht B0 T hl hrd o1 o2 o3 o4 r2 r3 hB2 hB3 hd4 hs h h9 hen hn hc1 hc2 hcr ht1
 go_enter Tryz.func141, Tryz.ntmps141
 go_wp2_with fail
 refine hnu.mono ?_
 rintro e w1 ⟨rfl, B1⟩
 have HB1 : Hid (Below w.heap.size w w1) := H.out.1.trans (B1.mono H.out.1.size)
 have BX : Hid (Box w1 w.heap.size 237 (.int .i64 0) (.slice none 0 0)) := H.out.2.1.below B1
 clear B1 hnu
 have fl : ([bs.take en] : List Bs).flatten = bs.take en := by simp
 have bWd : Below w1.heap.size w1 w1.drew := (Below.refl _ w1).drew
 have bWa : Below w1.heap.size w1 (w1.alloc (.cells #[.slice a3 en c3] 39)).drew := (bz1 w1 _).drew
 have HX : Hid (Below w1.heap.size w1 w1.drew /\ Below w1.heap.size w1 (w1.alloc (.cells #[.slice a3 en c3] 39)).drew) := ⟨bWd, bWa⟩
 have HX1 : Hid (Below w1.heap.size w1 w1.drew) := bWd
 have HX2 : Hid (Below w1.heap.size w1 (w1.alloc (.cells #[.slice a3 en c3] 39)).drew) := bWa
 have hnA := number_at w1.drew (H.out.2.2.1 w1.drew (HB1.out.trans (bWd.mono HB1.out.size))) H.out.2.2.2.2.1 _ H.out.2.2.2.2.2.1
 have hnB := number_at (w1.alloc (.cells #[.slice a3 en c3] 39)).drew (H.out.2.2.1 _ (HB1.out.trans (bWa.mono HB1.out.size))) H.out.2.2.2.2.1 _ H.out.2.2.2.2.2.1
 have hcA : ∀ w2, Below w1.heap.size w1 w2 -> Calls Tryz.prog 103 #[.slice (some ⟨w2.heap.size, 0, none⟩) 1 1] (w2.alloc (.cells #[.slice a3 en c3] 39)) λ e w' => e = .returned (.int .u32 (cr : Int)) /\ w' = w2.alloc (.cells #[.slice a3 en c3] 39) :=
  λ w2 h2 => check_at _ (parts_one (H.out.2.2.2.1 w2 (HB1.out.trans (h2.mono HB1.out.size))) 39) (by simp) cr (by rw [fl]; exact H.out.2.2.2.2.2.2)
 have hcB : ∀ w2, Below w1.heap.size w1 w2 -> Below (w1.alloc (.cells #[.slice a3 en c3] 39)).drew.heap.size (w1.alloc (.cells #[.slice a3 en c3] 39)).drew w2 -> Calls Tryz.prog 103 #[.slice (some ⟨w1.heap.size, 0, none⟩) 1 1] w2 λ e w' => e = .returned (.int .u32 (cr : Int)) /\ w' = w2 :=
  λ w2 _ h3 => check_at _ (((parts_one (H.out.2.2.2.1 w1 HB1.out) 39).below (Below.refl _ _).drew).below h3) (by simp) cr (by rw [fl]; exact H.out.2.2.2.2.2.2)
 have HA : Hid _ := And.intro hnA (And.intro hnB (And.intro hcA hcB))
 clear fl bWd bWa hnA hnB hcA hcB
 go_wp2_with fail
 go_region_held3 (λ u => Hid (Below w1.heap.size w1 u))
  (first | with_reducible assumption | (refine keepA ?_; with_reducible assumption) | (refine keepD ?_; with_reducible assumption) | (refine keepD (keepA ?_); with_reducible assumption))
  (first
   | (go_at_call 103; (with_reducible refine (HA.out.2.2.1 w2 B2.out).mono ?_); rintro e w3 ⟨rfl, rfl⟩)
   | (go_at_call 103; (with_reducible refine (HA.out.2.2.2 w2 B2.out B2b.out).mono ?_); rintro e w3 ⟨rfl, hw3⟩; rw [hw3]; clear hw3 w3)
   | (go_at_call 191; (with_reducible refine HA.out.1.mono ?_); rintro e w2 ⟨rfl, b2⟩; have B2 : Hid (Below w1.heap.size w1 w2) := HX.out.1.trans b2; clear b2)
   | (go_at_call 191; (with_reducible refine HA.out.2.1.mono ?_); rintro e w2 ⟨rfl, b2⟩; have B2b : Hid (Below (w1.alloc (.cells #[.slice a3 en c3] 39)).drew.heap.size (w1.alloc (.cells #[.slice a3 en c3] 39)).drew w2) := b2; have B2 : Hid (Below w1.heap.size w1 w2) := HX.out.2.trans (b2.mono HX.out.2.size); clear b2))
 all_goals
  have BZ : Hid (Below w1.heap.size w1 w2 /\ Below w1.heap.size w1 (w2.alloc (.cells #[.slice a3 en c3] 39))) := ⟨B2.out, B2.out.trans ((bz1 w2 _).mono B2.out.size)⟩
  obtain ⟨x0, x1⟩ := (BX.out.below BZ.out.1).cells
  obtain ⟨f0, f1⟩ := (BX.out.below BZ.out.1).thaw
  have l2 : w.heap.size < w2.heap.size := (BX.out.below BZ.out.1).lt
  have ne : w.heap.size ≠ w2.heap.size := by omega
  have ne' : w2.heap.size ≠ w.heap.size := by omega
  go_wp2
  refine bodyPost_ret (v := .tuple #[.agg #[.int .i64 0, .slice none 0 0], .int .i64 0, .int .i64 11]) ?_ rfl ⟨rfl, ?_⟩
  ·simp [results, Tryz.f141]
   go_simp
  ·have b1 := HB1.out.trans (B2.out.mono HB1.out.size)
   have b2 := lay_box b1 (Nat.le_refl _) (.int .i64 0) (.slice none 0 0)
   first
    | exact b2.1.trans ((bz1 _ _).mono b2.1.size)
    | exact b2.1
theorem open_ok (hb : BAt w (.slice a n c) bs) (hl : bs.length = n) (hn : n <= 140737488355328) (h : ¬ n < 4) (t : Nat) (ht : val (bs.take 4) = t) (h8 : ¬ 8192 < t) (h9 : ¬ n < 9 + t) (hs : val ((bs.drop (5 + t)).take 4) = crc (bs.take (5 + t))) : Calls Tryz.prog 141 #[.slice a n c] w λ e w' => ∃ fv, e = .returned (.tuple #[.agg #[.int .i64 ((bs.getD 4 0).toNat : Int), fv], .int .i64 ((9 + t : Nat) : Int), .int .i64 0]) /\ Hid (OwnG encB 5 w' w.heap.size fv ((bs.drop 5).take t) /\ Below w.heap.size w w') := by
 have q : decide ((n : Int) < 4) = false := by rw [decide_eq_false_iff_not]; omega
 have q2 : decide ((8192 : Int) < (t : Int)) = false := by rw [decide_eq_false_iff_not]; omega
 have q3 : decide ((n : Int) < 9 + (t : Int)) = false := by rw [decide_eq_false_iff_not]; omega
 have ww : IntKind.i64.wrap (t : Int) = (t : Int) := by rw [IntKind.wrap_i64]; omega
 obtain ⟨W, hW⟩ : ∃ W, w.alloc (.cells #[.int .i64 0, .slice none 0 0] 237) = W := ⟨_, rfl⟩
 have B0 : Below w.heap.size w W := by rw [<- hW]; exact bz1 _ _
 have T : Box W w.heap.size 237 (.int .i64 0) (.slice none 0 0) := by rw [<- hW]; exact Box.new w _ _ _
 have hnu := number_at W (hb.below B0) (by omega) t ht
 obtain ⟨en, hen⟩ : ∃ en, 5 + t = en := ⟨_, rfl⟩
 rw [hen] at hs
 have he : (9 + (t : Int) - 4) = (en : Int) := by omega
 obtain ⟨ao', c', e', hc1, hc2, hrd⟩ := hb
 rw [hl] at e'
 cases e'
 obtain ⟨a2, c2, hs2, o1, o2, r2⟩ := sliceB_l (ao := a) (n := n) (c := c) (k := en) (by omega) (by omega)
 obtain ⟨a3, c3, hs3, o3, o4, r3⟩ := sliceB_h (ao := a) (n := n) (c := c) (k := en) (by omega) (by omega)
 have hB2 : ∀ u, Below w.heap.size w u -> BAt u (.slice a2 (n - en) c2) (bs.drop en) := λ u hu => ⟨a2, c2, by rw [List.length_drop, hl], by rw [List.length_drop, hl]; exact o1, by omega, r2 u bs hl (hrd.below hu)⟩
 have hB3 : ∀ u, Below w.heap.size w u -> BAt u (.slice a3 en c3) (bs.take en) := λ u hu => ⟨a3, c3, by rw [List.length_take, show min en bs.length = en by omega], by rw [List.length_take]; omega, by omega, r3 u bs (hrd.below hu)⟩
 have hd4 : 4 <= (bs.drop en).length := by rw [List.length_drop]; omega
 obtain ⟨cr, hcr⟩ : ∃ cr, crc (bs.take en) = cr := ⟨_, rfl⟩
 rw [hcr] at hs
 obtain ⟨a4, c4, hs4', o5, o6, r4⟩ := sliceB_ij (ao := a) (n := n) (c := c) (i := 5) (j := en) (by omega) (by omega) (by omega)
 have e5 : en - 5 = t := by omega
 rw [e5] at hs4' o5 r4
 have hs4 : ∀ w, (Instr.slice 39 (.slice a n c) (some (.int .i64 5)) (some (.int .i64 (en : Int))) none).run Tryz.prog w = .ok (.slice a4 t c4) w := hs4'
 have lt4 : ((bs.drop 5).take t).length = t := by rw [List.length_take, List.length_drop]; omega
 have hB4 : ∀ u, Below w.heap.size w u -> BAt u (.slice a4 t c4) ((bs.drop 5).take t) := λ u hu => ⟨a4, c4, by rw [lt4], by rw [lt4]; exact o5, by omega, r4 u bs hl (hrd.below hu)⟩
 obtain ⟨y, hy⟩ : ∃ y, bs.getD 4 0 = y := ⟨_, rfl⟩
 have hy4 : bs[4]? = some y := by rw [<- hy]; simp [List.getD, List.getElem?_eq_getElem (show 4 < bs.length by omega)]
 obtain ⟨bb, off, rfl, hblt, hbc⟩ := hrd (by omega)
 have hc4 : w.cell? ⟨bb, off + 4, none⟩ = some (.int .u8 (y.toNat : Int)) := by
  have := hbc 4 y hy4 0 _ rfl
  rw [show off + (4 * encB.size + 0) = off + 4 from rfl] at this
  exact this
 rw [hy]
 have HQ : Hid (w.cell? ⟨bb, off + 4, none⟩ = some (.int .u8 (y.toNat : Int)) /\ bb < w.heap.size /\ (∀ u, Below w.heap.size w u -> BAt u (.slice a4 t c4) ((bs.drop 5).take t)) /\ ((bs.drop 5).take t).length = t /\ 5 <= n) := ⟨hc4, hblt, hB4, lt4, by omega⟩
 have n5 : (5 : Int) <= (n : Int) := by omega
 have n4 : (4 : Int) < (n : Int) := by omega
 have wy : IntKind.i64.wrap (y.toNat : Int) = (y.toNat : Int) := by have := y.toNat_lt; rw [IntKind.wrap_i64]; omega
 have H : Hid (Below w.heap.size w W /\ Box W w.heap.size 237 (.int .i64 0) (.slice none 0 0) /\ (∀ u, Below w.heap.size w u -> BAt u (.slice a2 (n - en) c2) (bs.drop en)) /\ (∀ u, Below w.heap.size w u -> BAt u (.slice a3 en c3) (bs.take en)) /\ 4 <= (bs.drop en).length /\ val ((bs.drop en).take 4) = cr /\ crc (bs.take en) = cr) := ⟨B0, T, hB2, hB3, hd4, hs, hcr⟩
 clear ht B0 T hl o1 o2 o3 o4 r2 r3 hB2 hB3 hd4 hs h h9 hen hn hc1 hc2 hcr e5 hs4' o5 o6 r4 lt4 hB4 hy hy4 hbc hc4 hblt
 go_enter Tryz.func141, Tryz.ntmps141
 go_wp2_with fail
 refine hnu.mono ?_
 rintro e w1 ⟨rfl, B1⟩
 have HB1 : Hid (Below w.heap.size w w1) := H.out.1.trans (B1.mono H.out.1.size)
 have BX : Hid (Box w1 w.heap.size 237 (.int .i64 0) (.slice none 0 0)) := H.out.2.1.below B1
 clear B1 hnu
 have fl : ([bs.take en] : List Bs).flatten = bs.take en := by simp
 have bWd : Below w1.heap.size w1 w1.drew := (Below.refl _ w1).drew
 have bWa : Below w1.heap.size w1 (w1.alloc (.cells #[.slice a3 en c3] 39)).drew := (bz1 w1 _).drew
 have HX : Hid (Below w1.heap.size w1 w1.drew /\ Below w1.heap.size w1 (w1.alloc (.cells #[.slice a3 en c3] 39)).drew) := ⟨bWd, bWa⟩
 have HX1 : Hid (Below w1.heap.size w1 w1.drew) := bWd
 have HX2 : Hid (Below w1.heap.size w1 (w1.alloc (.cells #[.slice a3 en c3] 39)).drew) := bWa
 have hnA := number_at w1.drew (H.out.2.2.1 w1.drew (HB1.out.trans (bWd.mono HB1.out.size))) H.out.2.2.2.2.1 _ H.out.2.2.2.2.2.1
 have hnB := number_at (w1.alloc (.cells #[.slice a3 en c3] 39)).drew (H.out.2.2.1 _ (HB1.out.trans (bWa.mono HB1.out.size))) H.out.2.2.2.2.1 _ H.out.2.2.2.2.2.1
 have hcA : ∀ w2, Below w1.heap.size w1 w2 -> Calls Tryz.prog 103 #[.slice (some ⟨w2.heap.size, 0, none⟩) 1 1] (w2.alloc (.cells #[.slice a3 en c3] 39)) λ e w' => e = .returned (.int .u32 (cr : Int)) /\ w' = w2.alloc (.cells #[.slice a3 en c3] 39) :=
  λ w2 h2 => check_at _ (parts_one (H.out.2.2.2.1 w2 (HB1.out.trans (h2.mono HB1.out.size))) 39) (by simp) cr (by rw [fl]; exact H.out.2.2.2.2.2.2)
 have hcB : ∀ w2, Below w1.heap.size w1 w2 -> Below (w1.alloc (.cells #[.slice a3 en c3] 39)).drew.heap.size (w1.alloc (.cells #[.slice a3 en c3] 39)).drew w2 -> Calls Tryz.prog 103 #[.slice (some ⟨w1.heap.size, 0, none⟩) 1 1] w2 λ e w' => e = .returned (.int .u32 (cr : Int)) /\ w' = w2 :=
  λ w2 _ h3 => check_at _ (((parts_one (H.out.2.2.2.1 w1 HB1.out) 39).below (Below.refl _ _).drew).below h3) (by simp) cr (by rw [fl]; exact H.out.2.2.2.2.2.2)
 have HA : Hid _ := And.intro hnA (And.intro hnB (And.intro hcA hcB))
 clear fl bWd bWa hnA hnB hcA hcB
 go_wp2_with fail
 go_region_held3 (λ u => Hid (Below w1.heap.size w1 u))
  (first | with_reducible assumption | (refine keepA ?_; with_reducible assumption) | (refine keepD ?_; with_reducible assumption) | (refine keepD (keepA ?_); with_reducible assumption))
  (first
   | (go_at_call 103; (with_reducible refine (HA.out.2.2.1 w2 B2.out).mono ?_); rintro e w3 ⟨rfl, rfl⟩)
   | (go_at_call 103; (with_reducible refine (HA.out.2.2.2 w2 B2.out B2b.out).mono ?_); rintro e w3 ⟨rfl, hw3⟩; rw [hw3]; clear hw3 w3)
   | (go_at_call 191; (with_reducible refine HA.out.1.mono ?_); rintro e w2 ⟨rfl, b2⟩; have B2 : Hid (Below w1.heap.size w1 w2) := HX.out.1.trans b2; clear b2)
   | (go_at_call 191; (with_reducible refine HA.out.2.1.mono ?_); rintro e w2 ⟨rfl, b2⟩; have B2b : Hid (Below (w1.alloc (.cells #[.slice a3 en c3] 39)).drew.heap.size (w1.alloc (.cells #[.slice a3 en c3] 39)).drew w2) := b2; have B2 : Hid (Below w1.heap.size w1 w2) := HX.out.2.trans (b2.mono HX.out.2.size); clear b2))
 all_goals
  first
   | (obtain ⟨w5, hw5⟩ : ∃ w5, w2.alloc (.cells #[.slice a3 en c3] 39) = w5 := ⟨_, rfl⟩
      have B5 : Hid (Below w.heap.size w w5 /\ Box w5 w.heap.size 237 (.int .i64 0) (.slice none 0 0)) := by
        have b := B2.out.trans ((bz1 w2 (.cells #[.slice a3 en c3] 39)).mono B2.out.size)
        rw [hw5] at b
        exact ⟨HB1.out.trans (b.mono HB1.out.size), BX.out.below b⟩
      rw [hw5]
      clear hw5)
   | (obtain ⟨w5, hw5⟩ : ∃ w5, w5 = w2 := ⟨_, rfl⟩
      have B5 : Hid (Below w.heap.size w w5 /\ Box w5 w.heap.size 237 (.int .i64 0) (.slice none 0 0)) := by
        rw [hw5]
        exact ⟨HB1.out.trans (B2.out.mono HB1.out.size), BX.out.below B2.out⟩
      rw [<- hw5]
      clear hw5)
  have c5 : w5.cell? ⟨bb, off + 4, none⟩ = some (.int .u8 (y.toNat : Int)) := (B5.out.1.cell (p := ⟨bb, off + 4, none⟩) HQ.out.2.1).trans HQ.out.1
  have hcl := bclone_any w5.drew (HQ.out.2.2.1 _ B5.out.1.drew) (by rw [HQ.out.2.2.2.1]; omega)
  have nb : bb ≠ w.heap.size := by have := HQ.out.2.1; omega
  have nb' : w.heap.size ≠ bb := by have := HQ.out.2.1; omega
  obtain ⟨x0, x1⟩ := B5.out.2.cells
  obtain ⟨f0, f1⟩ := B5.out.2.thaw
  go_wp2_with fail
  go_region_with
   (first | (go_at_call 80; (with_reducible refine hcl.mono ?_); rintro e w6 ⟨v6, rfl, O6, B6d⟩; obtain ⟨a6, c6v, e6, _, _, _, _⟩ := OwnG.form O6; rw [HQ.out.2.2.2.1] at e6; subst e6; have B6 : Below w5.heap.size w5 w6 := below_drew B6d; obtain ⟨z0, z1⟩ := (B5.out.2.below B6).cells; obtain ⟨g0, g1⟩ := (B5.out.2.below B6).thaw; have c6 := ((B5.out.1.trans (B6.mono B5.out.1.size)).cell (p := ⟨bb, off + 4, none⟩) HQ.out.2.1).trans HQ.out.1; have HB6 : Hid (OwnG encB 5 w6 w5.heap.size (.slice a6 t c6v) ((bs.drop 5).take t) /\ Below w.heap.size w w6 /\ w.heap.size < w5.heap.size /\ Below w.heap.size w w5) := ⟨O6, B5.out.1.trans (B6.mono B5.out.1.size), B5.out.2.lt, B5.out.1⟩; clear O6 B6d B6))
  all_goals
   go_wp2
   refine bodyPost_ret (v := .tuple #[.agg #[.int .i64 (y.toNat : Int), .slice a6 t c6v], .int .i64 (9 + (t : Int)), .int .i64 0]) ?_ rfl ⟨.slice a6 t c6v, rfl, ?_⟩
   ·simp [results, Tryz.f141]
    go_simp
   ·have b6 := lay_box HB6.out.2.1 (Nat.le_refl _) (.int .i64 (y.toNat : Int)) (.slice a6 t c6v)
    exact ⟨(HB6.out.1.stays b6.2 (λ g hg q => by have := (HB6.out.1.lt g hg).1; have := HB6.out.2.2.1; have q' : g = w.heap.size := q; omega)).low HB6.out.2.2.2.size, b6.1⟩
theorem open_any (hb : BAt w (.slice a n c) bs) (hl : bs.length = n) (hn : n <= 140737488355328) : Calls Tryz.prog 141 #[.slice a n c] w λ e w' => ∃ fv, e = .returned (.tuple #[.agg #[.int .i64 (fopen bs).1.1, fv], .int .i64 ((fopen bs).2.1 : Int), .int .i64 (fopen bs).2.2]) /\ Hid (OwnG encB 5 w' w.heap.size fv (fopen bs).1.2 /\ Below w.heap.size w w') := by
 unfold fopen
 by_cases h : bs.length < 4
 ·rw [if_pos h]
  refine (open_few (by omega)).mono ?_
  rintro e w' ⟨rfl, hb⟩
  exact ⟨_, rfl, OwnG.nil _ _ _ _, hb⟩
 ·rw [if_neg h]
  by_cases h8 : 8192 < val (bs.take 4)
  ·rw [if_pos h8]
   refine (open_long hb hl (by omega) _ rfl h8).mono ?_
   rintro e w' ⟨rfl, hb⟩
   exact ⟨_, rfl, OwnG.nil _ _ _ _, hb⟩
  ·rw [if_neg h8]
   by_cases h9 : bs.length < 9 + val (bs.take 4)
   ·rw [if_pos h9]
    refine (open_short hb hl (by omega) _ rfl h8 (by omega)).mono ?_
    rintro e w' ⟨rfl, hb⟩
    exact ⟨_, rfl, OwnG.nil _ _ _ _, hb⟩
   ·rw [if_neg h9]
    by_cases hs : val ((bs.drop (5 + val (bs.take 4))).take 4) = crc (bs.take (5 + val (bs.take 4)))
    ·rw [if_neg (by simpa using hs)]
     exact open_ok hb hl hn (by omega) _ rfl h8 (by omega) hs
    ·rw [if_pos hs]
     refine (open_sum hb hl hn (by omega) _ rfl h8 (by omega) hs).mono ?_
     rintro e w' ⟨rfl, hb⟩
     exact ⟨_, rfl, OwnG.nil _ _ _ _, hb⟩
end
end Go.Proofs.YtjlokpjflgbgdaaGreat
