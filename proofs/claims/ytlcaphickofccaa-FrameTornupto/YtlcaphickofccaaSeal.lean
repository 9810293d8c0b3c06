/-
  frame.Seal, by a contract over frames. No condition but that a number fits its kind.
-/
import Derived.Test.YtlcaphickofccaaFrames
namespace Go.Proofs.Ytlcaphickofccaa
open Go.RowKit

/-- Two cells of a frame in a block of their own. -/
def Box (w : World) (B : Nat) (t : TypeId) (x y : Value) : Prop := w.heap[B]? = some (.cells #[x, y] t (0, 0))
section
variable {w w' : World} {B : Nat} {t : TypeId} {x y : Value}
theorem Box.lt (h : Box w B t x y) : B < w.heap.size := (Array.getElem?_eq_some_iff.1 h).1
theorem Box.below (h : Box w B t x y) (hb : Below w.heap.size w w') : Box w' B t x y := (hb.block B h.lt).trans h
theorem Box.turned {S : Nat → Prop} (h : Box w B t x y) (ht : Turned S w w') (hS : ¬ S B) : Box w' B t x y := (ht.block B h.lt hS).trans h
theorem Box.cells (h : Box w B t x y) : w.cell? ⟨B, 0, none⟩ = some x ∧ w.cell? ⟨B, 1, none⟩ = some y := by
  unfold Box at h
  simp [World.cell?, h]
theorem Box.thaw (h : Box w B t x y) : w.frozen? ⟨B, 0, none⟩ = false ∧ w.frozen? ⟨B, 1, none⟩ = false := by
  unfold Box at h
  simp [World.frozen?, h]
theorem Box.new (w : World) (t : TypeId) (x y : Value) : Box (w.alloc (.cells #[x, y] t)) w.heap.size t x y := by
  unfold Box World.alloc
  simp
theorem Box.put (h : Box w B t x y) (x' y' : Value) : Box ((w.setCell ⟨B, 0, none⟩ x').setCell ⟨B, 1, none⟩ y') B t x' y' := by
  unfold Box at h ⊢
  simp [World.setCell, Array.getElem?_modify, h]
end

theorem all_bytes (bs : Bs) : encB.all bs = bs.map (fun x => Value.int .u8 (x.toNat : Int)) := by
  induction bs with
  | nil => rfl
  | cons x t ih =>
    show encB.cells x ++ encB.all t = _
    rw [ih]
    rfl

/-- Bytes as they are written down, in a row of the call's own. -/
theorem own_lit (w : World) (bs : Bs) (base : Nat) (hb : base ≤ w.heap.size) (hl : bs.length ≤ 1000000) (c : Array Value) (hc : c = (bs.map (fun x => Value.int .u8 (x.toNat : Int))).toArray) (n : Nat) (hn : n = bs.length) : OwnG encB 5 (w.alloc (.cells c 5)) base (.slice (some ⟨w.heap.size, 0, none⟩) n n) bs := by
  subst hc hn
  refine ⟨encB.all_length bs, .inr ⟨w.heap.size, bs.length, _, rfl, hb, heap_alloc_new w _, Nat.le_refl _, by simp only [maxLen]; omega, ?_, ?_⟩⟩
  · show (List.map _ bs).toArray.size = bs.length * 1
    simp
  · rw [all_bytes]
    show List.take (bs.length * 1) (List.map _ bs) = _
    rw [List.take_of_length_le (by simp)]

theorem bz3d (u : World) (o1 o2 o3 : Obj) : Below u.heap.size u (((u.alloc o1).alloc o2).alloc o3).drew := ((bz2 u o1 o2).trans ((bz1 _ o3).mono (bz2 u o1 o2).size)).drew

/-- Three parts. -/
theorem parts_three {w : World} {u v z : Value} {x y t : Bs} (h : BAt w u x) (k : BAt w v y) (m : BAt w z t) (ty : TypeId) : PartsB (w.alloc (.cells #[u, v, z] ty)) (.slice (some ⟨w.heap.size, 0, none⟩) 3 3) [x, y, t] := by
  refine ⟨_, 3, rfl, fun _ => ⟨w.heap.size, 0, rfl, by simp⟩, fun j q b off hz hb => ?_⟩
  cases hb
  match j, hz with
  | 0, hz =>
    cases hz
    exact ⟨u, by simp, h.below (bz1 w _)⟩
  | 1, hz =>
    cases hz
    exact ⟨v, by simp, k.below (bz1 w _)⟩
  | 2, hz =>
    cases hz
    exact ⟨z, by simp, m.below (bz1 w _)⟩
  | j + 3, hz => simp at hz

theorem word_at (n : Nat) (hn : n < 4294967296) (w : World) :
    Calls Try.prog 16 #[.int .u32 (n : Int)] w fun e w' => ∃ cs, e = .returned (.slice (some ⟨w.heap.size, 0, none⟩) 4 4) ∧ w' = w.alloc (.cells cs 5) ∧ Hid (cs = ((b4 n).map (fun x => Value.int .u8 (x.toNat : Int))).toArray) := by
  refine (word_any n hn w).mono ?_
  rintro e w' ⟨rfl, rfl⟩
  exact ⟨_, rfl, rfl, rfl⟩

/-- Four bytes, and a byte behind them in memory. -/
theorem lay_i (u : World) (n : Nat) (y : UInt8) (cs : Array Value) (hcs : cs = ((b4 n).map (fun x => Value.int .u8 (x.toNat : Int))).toArray) : OwnG encB 5 ((u.alloc (.cells cs 5)).alloc (.cells #[.int .u8 (y.toNat : Int)] 5)) u.heap.size (.slice (some ⟨u.heap.size, 0, none⟩) 4 4) (b4 n) ∧
    ∀ j v, (encB.cells y)[j]? = some v → ((u.alloc (.cells cs 5)).alloc (.cells #[.int .u8 (y.toNat : Int)] 5)).cell? ((⟨u.heap.size + 1, 0, none⟩ : Addr).add j) = some v := by
  refine ⟨(own_lit u (b4 n) u.heap.size (Nat.le_refl _) (by rw [b4_len]; decide) cs hcs 4 (b4_len n).symm).below (bz1 _ _), ?_⟩
  have := cells_new encB (u.alloc (.cells cs 5)) y 5
  rw [show (u.alloc (.cells cs 5)).heap.size = u.heap.size + 1 by simp] at this
  exact this
/-- The byte ahead of them. -/
theorem lay_ii (u : World) (n : Nat) (y : UInt8) (cs : Array Value) (hcs : cs = ((b4 n).map (fun x => Value.int .u8 (x.toNat : Int))).toArray) : OwnG encB 5 ((u.alloc (.cells #[.int .u8 (y.toNat : Int)] 5)).alloc (.cells cs 5)) u.heap.size (.slice (some ⟨u.heap.size + 1, 0, none⟩) 4 4) (b4 n) ∧
    ∀ j v, (encB.cells y)[j]? = some v → ((u.alloc (.cells #[.int .u8 (y.toNat : Int)] 5)).alloc (.cells cs 5)).cell? ((⟨u.heap.size, 0, none⟩ : Addr).add j) = some v := by
  constructor
  · have := own_lit (u.alloc (.cells #[.int .u8 (y.toNat : Int)] 5)) (b4 n) u.heap.size (by simp) (by rw [b4_len]; decide) cs hcs 4 (b4_len n).symm
    rw [show (u.alloc (.cells #[.int .u8 (y.toNat : Int)] 5)).heap.size = u.heap.size + 1 by simp] at this
    exact this
  · intro j v h
    have h1 := cells_new encB u y 5 j v h
    rw [← h1]
    exact (bz1 (u.alloc (.cells #[.int .u8 (y.toNat : Int)] 5)) _).cell (by rw [addr_at]; simp)

theorem check_at {v : Value} {xss : List Bs} (w : World) (h : PartsB w v xss) (hl : xss.length ≤ 1000000) (cr : Nat) (hc : crc xss.flatten = cr) :
    Calls Try.prog 18 #[v] w fun e w' => e = .returned (.int .u32 (cr : Int)) ∧ w' = w := by
  rw [← hc]
  exact check_any w h hl

/-- The last step of Seal: head, bytes and check sum, put together. -/
theorem seal_cat (u : World) (v1 v2 : Value) (xs ys : Bs) (h1 : BAt u v1 xs) (h2 : BAt u v2 ys) (hl : xs.length + ys.length ≤ 10000) (cr : Nat) (cs : Array Value) (hcs : cs = ((b4 cr).map (fun x => Value.int .u8 (x.toNat : Int))).toArray) (A : Array Value) (t : TypeId) :
    Calls Try.prog 17 #[.slice (some ⟨u.heap.size + 1 + 1, 0, none⟩) 3 3] (((u.alloc (.cells A t)).alloc (.cells cs 5)).alloc (.cells #[v1, v2, .slice (some ⟨u.heap.size + 1, 0, none⟩) 4 4] 24)) fun e w' => ∃ v, e = .returned v ∧ Hid (OwnG encB 5 w' u.heap.size v (xs ++ ys ++ b4 cr) ∧ Below u.heap.size u w') := by
  have s1 : (u.alloc (.cells A t)).heap.size = u.heap.size + 1 := by simp
  have s2 : ((u.alloc (.cells A t)).alloc (.cells cs 5)).heap.size = u.heap.size + 1 + 1 := by simp
  have b1 : Below u.heap.size u ((u.alloc (.cells A t)).alloc (.cells cs 5)) := bz2 _ _ _
  have h3 : BAt ((u.alloc (.cells A t)).alloc (.cells cs 5)) (.slice (some ⟨u.heap.size + 1, 0, none⟩) 4 4) (b4 cr) := by
    have := bat_lit (u.alloc (.cells A t)) (b4 cr) 5 (0, 0) cs hcs 4 (b4_len cr).symm (by rw [b4_len]; decide)
    rw [s1] at this
    exact this
  have hp := parts_three (h1.below b1) (h2.below b1) h3 24
  rw [s2] at hp
  have e : ([xs, ys, b4 cr] : List Bs).flatten = xs ++ ys ++ b4 cr := by simp
  refine (concat_any _ hp (by simp) (by rw [e]; simp [b4_len]; omega)).mono ?_
  rintro e' w' ⟨v, rfl, ho, hb⟩
  rw [e] at ho
  have b2 := b1.trans ((bz1 ((u.alloc (.cells A t)).alloc (.cells cs 5)) (.cells #[v1, v2, .slice (some ⟨u.heap.size + 1, 0, none⟩) 4 4] 24)).mono b1.size)
  exact ⟨v, rfl, ho.low b2.size, b2.trans (hb.mono b2.size)⟩

section
variable {w : World} {k : Int} {a : Option Addr} {n c : Nat} {body : Bs}

set_option maxHeartbeats 800000 in
theorem seal_kind (h : k < 0 ∨ 255 < k) : Calls Try.prog 8 #[.agg #[.int .i64 k, .slice a n c]] w fun e w' => e = .returned (.tuple #[.slice none 0 0, .int .i64 3]) ∧ Below w.heap.size w w' := by
  by_cases h0 : k < 0
  · have q : decide (k < 0) = true := by simpa using h0
    go_enter Try.func8, Try.ntmps8
    go_wp2
    refine bodyPost_ret (results_tmp2 rfl _ _ _) rfl ?_
    exact ⟨rfl, bz1 _ _⟩
  · have q : decide (k < 0) = false := by simpa using h0
    have q2 : decide (255 < k) = true := by simp; omega
    go_enter Try.func8, Try.ntmps8
    go_wp2
    refine bodyPost_ret (results_tmp2 rfl _ _ _) rfl ?_
    exact ⟨rfl, bz1 _ _⟩

set_option maxHeartbeats 800000 in
theorem seal_long (h0 : ¬ k < 0) (h1 : ¬ 255 < k) (h : 8192 < n) : Calls Try.prog 8 #[.agg #[.int .i64 k, .slice a n c]] w fun e w' => e = .returned (.tuple #[.slice none 0 0, .int .i64 4]) ∧ Below w.heap.size w w' := by
  have q : decide (k < 0) = false := by simpa using h0
  have q2 : decide (255 < k) = false := by simpa using h1
  have q3 : (8192 : Int) < (n : Int) := by omega
  go_enter Try.func8, Try.ntmps8
  go_wp2
  refine bodyPost_ret (results_tmp2 rfl _ _ _) rfl ?_
  exact ⟨rfl, bz1 _ _⟩

set_option maxHeartbeats 3200000 in
set_option maxRecDepth 100000 in
theorem seal_done (h0 : ¬ k < 0) (h1 : ¬ 255 < k) (hl : body.length = n) (hn : ¬ 8192 < n) (hb : BAt w (.slice a n c) body) : Calls Try.prog 8 #[.agg #[.int .i64 k, .slice a n c]] w fun e w' => ∃ v, e = .returned (.tuple #[v, .int .i64 0]) ∧ Hid (OwnG encB 5 w' w.heap.size v (sealB k body) ∧ Below w.heap.size w w') := by
  have q : decide (k < 0) = false := by simpa using h0
  have q2 : decide (255 < k) = false := by simpa using h1
  have q3 : decide ((8192 : Int) < (n : Int)) = false := by rw [decide_eq_false_iff_not]; omega
  obtain ⟨W, hW⟩ : ∃ W, w.alloc (.cells #[.int .i64 k, .slice a n c] 29) = W := ⟨_, rfl⟩
  have B0 : Below w.heap.size w W := by rw [← hW]; exact bz1 _ _
  have T : Box W w.heap.size 29 (.int .i64 k) (.slice a n c) := by rw [← hW]; exact Box.new w _ _ _
  have sW : W.heap.size = w.heap.size + 1 := by rw [← hW]; simp
  have H : Hid (Below w.heap.size w W ∧ Box W w.heap.size 29 (.int .i64 k) (.slice a n c) ∧ BAt W (.slice a n c) body ∧ body.length = n ∧ n ≤ 8192 ∧ W.heap.size = w.heap.size + 1 ∧ 0 ≤ k ∧ k ≤ 255) := ⟨B0, T, hb.below B0, hl, by omega, sW, by omega, by omega⟩
  obtain ⟨x0, x1⟩ := T.cells
  obtain ⟨y, hy⟩ : ∃ y : UInt8, UInt8.ofNat k.toNat = y := ⟨_, rfl⟩
  have hky : k % 256 = (y.toNat : Int) := by rw [← hy, UInt8.toNat_ofNat']; omega
  have HY : Hid (UInt8.ofNat k.toNat = y) := hy
  have hn32 : IntKind.u32.wrap (n : Int) = (n : Int) := by rw [IntKind.wrap_u32]; omega
  have hk8 : IntKind.u8.wrap k = (y.toNat : Int) := by
    rw [show IntKind.u8.wrap k = k % 256 by simp [IntKind.wrap, IntKind.bits, IntKind.signed]]
    exact hky
  clear B0 T sW hl hb hy
  go_enter Try.func8, Try.ntmps8
  go_upto_region 5 with fail
  clear h0 h1 q q2 q3 hn hW
  go_region_held3 (fun u => u.cell? ⟨w.heap.size, 0, none⟩ = some (.int .i64 k) ∧ u.cell? ⟨w.heap.size, 1, none⟩ = some (.slice a n c)) (go_keep)
    (first
      | (refine stepG_at encB 5 24 1 _ rfl Try.info5 Try.underlying24 rfl (.tmp 21) (.tmp 25) rfl W.heap.size _ (b4 n) y rfl (lay_i W.drew n y cs hcs.out).1 (W.heap.size + 1) rfl (lay_i W.drew n y cs hcs.out).2 (by rw [b4_len]; decide) (by rw [b4_len]; decide) (by simp; omega) ?_; intro v5 w5 ho5 hb5 hm5 ht5; have J5 : Hid (OwnG encB 5 w5 W.heap.size v5 (b4 n ++ [y]) ∧ Below W.heap.size W.drew w5) := ⟨ho5, (bz2 W.drew _ _).trans hb5⟩; clear ho5 hb5 hm5 ht5; have k5 := (H.out.2.1.below ((Below.refl _ W).drew.trans J5.out.2)).cells)
      | (refine stepG_at encB 5 24 1 _ rfl Try.info5 Try.underlying24 rfl (.tmp 21) (.tmp 25) rfl W.heap.size _ (b4 n) y rfl (lay_ii W.drew n y cs hcs.out).1 W.heap.size rfl (lay_ii W.drew n y cs hcs.out).2 (by rw [b4_len]; decide) (by rw [b4_len]; decide) (by simp; omega) ?_; intro v5 w5 ho5 hb5 hm5 ht5; have J5 : Hid (OwnG encB 5 w5 W.heap.size v5 (b4 n ++ [y]) ∧ Below W.heap.size W.drew w5) := ⟨ho5, (bz2 W.drew _ _).trans hb5⟩; clear ho5 hb5 hm5 ht5; have k5 := (H.out.2.1.below ((Below.refl _ W).drew.trans J5.out.2)).cells)
      | (go_at_call 16; refine (word_at n (by have := H.out.2.2.2.2.1; omega) _).mono ?_; rintro e w2 ⟨cs, rfl, rfl, hcs⟩))
  all_goals
    obtain ⟨a5, c5, rfl, _, _, _, q5⟩ := OwnG.form J5.out.1
    have l5 : (b4 n ++ [y]).length = 5 := by rw [List.length_append, b4_len]; rfl
    rw [l5] at J5 ⊢
    obtain ⟨g5, rfl⟩ := q5 (by rw [l5]; decide)
    have B5 : Below w.heap.size w w5.drew := (H.out.1.trans (((Below.refl _ W).drew.trans J5.out.2).mono H.out.1.size)).drew
    have hd : ([b4 n ++ [y], body] : List Bs).flatten = headB k body := by
      rw [headB, H.out.2.2.2.1, HY.out]
      simp
    obtain ⟨cr, hcr⟩ : ∃ cr, crc (headB k body) = cr := ⟨_, rfl⟩
    have J6 : Hid (BAt w5.drew (.slice (some ⟨g5, 0, none⟩) 5 c5) (b4 n ++ [y]) ∧ BAt w5.drew (.slice a n c) body ∧ Below w.heap.size w w5.drew ∧ Box w5 w.heap.size 29 (.int .i64 k) (.slice a n c) ∧ ([b4 n ++ [y], body] : List Bs).flatten = headB k body ∧ crc (headB k body) = cr) :=
      ⟨OwnB.at (OwnG.low (J5.out.1.below (Below.refl _ w5).drew) (Nat.zero_le _)), (H.out.2.2.1.below ((Below.refl _ W).drew.trans J5.out.2)).below (Below.refl _ w5).drew, B5, H.out.2.1.below ((Below.refl _ W).drew.trans J5.out.2), hd, hcr⟩
    have k6 := J6.out.2.2.2.1.cells
    obtain ⟨k60, k61⟩ := k6
    have l6 : w.heap.size < w5.heap.size := J6.out.2.2.2.1.lt
    have n60 : w.heap.size ≠ w5.heap.size := by omega
    have n61 : w.heap.size ≠ w5.heap.size + 1 := by omega
    have n62 : w.heap.size ≠ w5.heap.size + 1 + 1 := by omega
    clear k5 x0 x1 q5 B5 hd hcr hcs l5 J5
    go_wp2_with fail
    go_region_held3 (fun u => u.cell? ⟨w.heap.size, 0, none⟩ = some (.int .i64 k) ∧ u.cell? ⟨w.heap.size, 1, none⟩ = some (.slice a n c)) (first | with_reducible exact (J6.out.2.2.2.1.below (bz3d _ _ _ _)).cells | go_keep)
      (first
        | (go_at_call 17; refine (seal_cat w5.drew _ _ _ _ J6.out.1 J6.out.2.1 (by rw [List.length_append, b4_len]; have := H.out.2.2.2.1; have := H.out.2.2.2.2.1; simp; omega) cr cs2 hcs2.out _ 24).mono ?_; rintro e w8 ⟨v8, rfl, J8⟩; have k8 := (J6.out.2.2.2.1.below ((Below.refl _ w5).drew.trans J8.out.2)).cells)
        | (go_at_call 16; refine (word_at cr (by rw [← J6.out.2.2.2.2.2]; exact crc_lt _) _).mono ?_; rintro e w7 ⟨cs2, rfl, rfl, hcs2⟩)
        | (go_at_call 18; refine (check_at _ (parts_two J6.out.1 J6.out.2.1 24) (by simp) cr (by rw [J6.out.2.2.2.2.1]; exact J6.out.2.2.2.2.2)).mono ?_; rintro e w6 ⟨rfl, rfl⟩))
    go_wp2
    refine bodyPost_ret (results_tmp2 rfl _ _ _) rfl ?_
    refine ⟨_, rfl, ?_, J6.out.2.2.1.trans (J8.out.2.mono J6.out.2.2.1.size)⟩
    have e : b4 n ++ [y] ++ body ++ b4 cr = sealB k body := by
      rw [sealB, J6.out.2.2.2.2.2, ← J6.out.2.2.2.2.1]
      simp
    rw [← e]
    exact J8.out.1.low J6.out.2.2.1.size

/-- frame.Seal. -/
theorem seal_any (hb : BAt w (.slice a n c) body) (hl : body.length = n) : Calls Try.prog 8 #[.agg #[.int .i64 k, .slice a n c]] w fun e w' => ∃ v, e = .returned (.tuple #[v, .int .i64 (fseal (k, body)).2]) ∧ Hid (OwnG encB 5 w' w.heap.size v (fseal (k, body)).1 ∧ Below w.heap.size w w') := by
  unfold fseal
  by_cases h0 : k < 0 ∨ 255 < k
  · rw [if_pos h0]
    refine (seal_kind h0).mono ?_
    rintro e w' ⟨rfl, hb⟩
    exact ⟨_, rfl, OwnG.nil _ _ _ _, hb⟩
  · rw [if_neg h0]
    by_cases h1 : 8192 < body.length
    · rw [if_pos h1]
      refine (seal_long (by omega) (by omega) (by omega)).mono ?_
      rintro e w' ⟨rfl, hb⟩
      exact ⟨_, rfl, OwnG.nil _ _ _ _, hb⟩
    · rw [if_neg h1]
      exact seal_done (by omega) (by omega) hl (by omega) hb
end

end Go.Proofs.Ytlcaphickofccaa
