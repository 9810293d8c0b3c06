/-
  Several texts, laid together.
-/
import Derived.Test.YtjlokpjflgbgdaaGreatML10
set_option maxHeartbeats 6400000
set_option maxRecDepth 100000
namespace Go.Proofs.YtjlokpjflgbgdaaGreat
open Go.RowKit
theorem all_bytes (bs : Bs) : encB.all bs = bs.map (λ x => Value.int .u8 (x.toNat : Int)) := by
 induction bs with
 | nil => rfl
 | cons x t ih =>
  show encB.cells x ++ encB.all t = _
  rw [ih]
  rfl
theorem own_lit (w : World) (bs : Bs) (base : Nat) (hb : base <= w.heap.size) (hl : bs.length <= 1000000) (c : Array Value) (hc : c = (bs.map (λ x => Value.int .u8 (x.toNat : Int))).toArray) (n : Nat) (hn : n = bs.length) : OwnG encB 5 (w.alloc (.cells c 5)) base (.slice (some ⟨w.heap.size, 0, none⟩) n n) bs := by
 subst hc hn
 refine ⟨encB.all_length bs, .inr ⟨w.heap.size, bs.length, _, rfl, hb, heap_alloc_new w _, Nat.le_refl _, by simp only [maxLen]; omega, ?_, ?_⟩⟩
 ·show (List.map _ bs).toArray.size = bs.length * 1
  simp
 ·rw [all_bytes]
  show List.take (bs.length * 1) (List.map _ bs) = _
  rw [List.take_of_length_le (by simp)]
theorem bz3d (u : World) (o1 o2 o3 : Obj) : Below u.heap.size u (((u.alloc o1).alloc o2).alloc o3).drew := ((bz2 u o1 o2).trans ((bz1 _ o3).mono (bz2 u o1 o2).size)).drew
theorem parts_three {w : World} {u v z : Value} {x y t : Bs} (h : BAt w u x) (k : BAt w v y) (m : BAt w z t) (ty : TypeId) : PartsB (w.alloc (.cells #[u, v, z] ty)) (.slice (some ⟨w.heap.size, 0, none⟩) 3 3) [x, y, t] := by
 refine ⟨_, 3, rfl, λ _ => ⟨w.heap.size, 0, rfl, by simp⟩, λ j q b off hz hb => ?_⟩
 cases hb
 match j, hz with
 | 0, hz =>
  cases hz
  exact ⟨u, by simp, h.below (bz1 w _)⟩
 | 1, hz =>
  cases hz
  exact ⟨v, by simp, k.below (bz1 w _)⟩
 | 2, hz =>
  cases hz
  exact ⟨z, by simp, m.below (bz1 w _)⟩
 | j + 3, hz => simp at hz
theorem word_at (n : Nat) (hn : n < 4294967296) (w : World) :
  Calls Tryz.prog 232 #[.int .u32 (n : Int)] w λ e w' => ∃ cs, e = .returned (.slice (some ⟨w.heap.size, 0, none⟩) 4 4) /\ w' = w.alloc (.cells cs 5) /\ Hid (cs = ((b4 n).map (λ x => Value.int .u8 (x.toNat : Int))).toArray) := by
 refine (word_any n hn w).mono ?_
 rintro e w' ⟨rfl, rfl⟩
 exact ⟨_, rfl, rfl, rfl⟩
theorem lay_i (u : World) (n : Nat) (y : UInt8) (cs : Array Value) (hcs : cs = ((b4 n).map (λ x => Value.int .u8 (x.toNat : Int))).toArray) : OwnG encB 5 ((u.alloc (.cells cs 5)).alloc (.cells #[.int .u8 (y.toNat : Int)] 5)) u.heap.size (.slice (some ⟨u.heap.size, 0, none⟩) 4 4) (b4 n) /\
  ∀ j v, (encB.cells y)[j]? = some v -> ((u.alloc (.cells cs 5)).alloc (.cells #[.int .u8 (y.toNat : Int)] 5)).cell? ((⟨u.heap.size + 1, 0, none⟩ : Addr).add j) = some v := by
 refine ⟨(own_lit u (b4 n) u.heap.size (Nat.le_refl _) (by rw [b4_len]; decide) cs hcs 4 (b4_len n).symm).below (bz1 _ _), ?_⟩
 have := cells_new encB (u.alloc (.cells cs 5)) y 5
 rw [show (u.alloc (.cells cs 5)).heap.size = u.heap.size + 1 by simp] at this
 exact this
theorem lay_ii (u : World) (n : Nat) (y : UInt8) (cs : Array Value) (hcs : cs = ((b4 n).map (λ x => Value.int .u8 (x.toNat : Int))).toArray) : OwnG encB 5 ((u.alloc (.cells #[.int .u8 (y.toNat : Int)] 5)).alloc (.cells cs 5)) u.heap.size (.slice (some ⟨u.heap.size + 1, 0, none⟩) 4 4) (b4 n) /\
  ∀ j v, (encB.cells y)[j]? = some v -> ((u.alloc (.cells #[.int .u8 (y.toNat : Int)] 5)).alloc (.cells cs 5)).cell? ((⟨u.heap.size, 0, none⟩ : Addr).add j) = some v := by
 constructor
 ·have := own_lit (u.alloc (.cells #[.int .u8 (y.toNat : Int)] 5)) (b4 n) u.heap.size (by simp) (by rw [b4_len]; decide) cs hcs 4 (b4_len n).symm
  rw [show (u.alloc (.cells #[.int .u8 (y.toNat : Int)] 5)).heap.size = u.heap.size + 1 by simp] at this
  exact this
 ·intro j v h
  have h1 := cells_new encB u y 5 j v h
  rw [<- h1]
  exact (bz1 (u.alloc (.cells #[.int .u8 (y.toNat : Int)] 5)) _).cell (by rw [addr_at]; simp)
theorem check_at {v : Value} {xss : List Bs} (w : World) (h : PartsB w v xss) (hl : xss.length <= 1000000) (cr : Nat) (hc : crc xss.flatten = cr) :
  Calls Tryz.prog 103 #[v] w λ e w' => e = .returned (.int .u32 (cr : Int)) /\ w' = w := by
 rw [<- hc]
 exact check_any w h hl
theorem seal_cat (u : World) (v1 v2 : Value) (xs ys : Bs) (h1 : BAt u v1 xs) (h2 : BAt u v2 ys) (hl : xs.length + ys.length <= 10000) (cr : Nat) (cs : Array Value) (hcs : cs = ((b4 cr).map (λ x => Value.int .u8 (x.toNat : Int))).toArray) (A : Array Value) (t : TypeId) :
  Calls Tryz.prog 114 #[.slice (some ⟨u.heap.size + 1 + 1, 0, none⟩) 3 3] (((u.alloc (.cells A t)).alloc (.cells cs 5)).alloc (.cells #[v1, v2, .slice (some ⟨u.heap.size + 1, 0, none⟩) 4 4] 39)) λ e w' => ∃ v, e = .returned v /\ Hid (OwnG encB 5 w' u.heap.size v (xs ++ ys ++ b4 cr) /\ Below u.heap.size u w') := by
 have s1 : (u.alloc (.cells A t)).heap.size = u.heap.size + 1 := by simp
 have s2 : ((u.alloc (.cells A t)).alloc (.cells cs 5)).heap.size = u.heap.size + 1 + 1 := by simp
 have b1 : Below u.heap.size u ((u.alloc (.cells A t)).alloc (.cells cs 5)) := bz2 _ _ _
 have h3 : BAt ((u.alloc (.cells A t)).alloc (.cells cs 5)) (.slice (some ⟨u.heap.size + 1, 0, none⟩) 4 4) (b4 cr) := by
  have := bat_lit (u.alloc (.cells A t)) (b4 cr) 5 (0, 0) cs hcs 4 (b4_len cr).symm (by rw [b4_len]; decide)
  rw [s1] at this
  exact this
 have hp := parts_three (h1.below b1) (h2.below b1) h3 39
 rw [s2] at hp
 have e : ([xs, ys, b4 cr] : List Bs).flatten = xs ++ ys ++ b4 cr := by simp
 refine (concat_any _ hp (by simp) (by rw [e]; simp [b4_len]; omega)).mono ?_
 rintro e' w' ⟨v, rfl, ho, hb⟩
 rw [e] at ho
 have b2 := b1.trans ((bz1 ((u.alloc (.cells A t)).alloc (.cells cs 5)) (.cells #[v1, v2, .slice (some ⟨u.heap.size + 1, 0, none⟩) 4 4] 39)).mono b1.size)
 exact ⟨v, rfl, ho.low b2.size, b2.trans (hb.mono b2.size)⟩
section
variable {w : World} {k : Int} {a : Option Addr} {n c : Nat} {body : Bs}
theorem seal_kind (h : k < 0 ∨ 255 < k) : Calls Tryz.prog 185 #[.agg #[.int .i64 k, .slice a n c]] w λ e w' => e = .returned (.tuple #[.slice none 0 0, .int .i64 3]) /\ Below w.heap.size w w' := by
 by_cases h0 : k < 0
 ·have q : decide (k < 0) = true := by simpa using h0
  go_enter Tryz.func185, Tryz.ntmps185
  go_wp2
  refine bodyPost_ret (results_tmp2 rfl _ _ _) rfl ?_
  exact ⟨rfl, bz1 _ _⟩
 ·have q : decide (k < 0) = false := by simpa using h0
  have q2 : decide (255 < k) = true := by simp; omega
  go_enter Tryz.func185, Tryz.ntmps185
  go_wp2
  refine bodyPost_ret (results_tmp2 rfl _ _ _) rfl ?_
  exact ⟨rfl, bz1 _ _⟩
theorem seal_long (h0 : ¬ k < 0) (h1 : ¬ 255 < k) (h : 8192 < n) : Calls Tryz.prog 185 #[.agg #[.int .i64 k, .slice a n c]] w λ e w' => e = .returned (.tuple #[.slice none 0 0, .int .i64 4]) /\ Below w.heap.size w w' := by
 have q : decide (k < 0) = false := by simpa using h0
 have q2 : decide (255 < k) = false := by simpa using h1
 have q3 : (8192 : Int) < (n : Int) := by omega
 go_enter Tryz.func185, Tryz.ntmps185
 go_wp2
 refine bodyPost_ret (results_tmp2 rfl _ _ _) rfl ?_
 exact ⟨rfl, bz1 _ _⟩
theorem seal_done (h0 : ¬ k < 0) (h1 : ¬ 255 < k) (hl : body.length = n) (hn : ¬ 8192 < n) (hb : BAt w (.slice a n c) body) : Calls Tryz.prog 185 #[.agg #[.int .i64 k, .slice a n c]] w λ e w' => ∃ v, e = .returned (.tuple #[v, .int .i64 0]) /\ Hid (OwnG encB 5 w' w.heap.size v (sealB k body) /\ Below w.heap.size w w') := by
 have q : decide (k < 0) = false := by simpa using h0
 have q2 : decide (255 < k) = false := by simpa using h1
 have q3 : decide ((8192 : Int) < (n : Int)) = false := by rw [decide_eq_false_iff_not]; omega
 obtain ⟨W, hW⟩ : ∃ W, w.alloc (.cells #[.int .i64 k, .slice a n c] 237) = W := ⟨_, rfl⟩
 have B0 : Below w.heap.size w W := by rw [<- hW]; exact bz1 _ _
 have T : Box W w.heap.size 237 (.int .i64 k) (.slice a n c) := by rw [<- hW]; exact Box.new w _ _ _
 have sW : W.heap.size = w.heap.size + 1 := by rw [<- hW]; simp
 have H : Hid (Below w.heap.size w W /\ Box W w.heap.size 237 (.int .i64 k) (.slice a n c) /\ BAt W (.slice a n c) body /\ body.length = n /\ n <= 8192 /\ W.heap.size = w.heap.size + 1 /\ 0 <= k /\ k <= 255) := ⟨B0, T, hb.below B0, hl, by omega, sW, by omega, by omega⟩
 obtain ⟨x0, x1⟩ := T.cells
 obtain ⟨y, hy⟩ : ∃ y : UInt8, UInt8.ofNat k.toNat = y := ⟨_, rfl⟩
 have hky : k % 256 = (y.toNat : Int) := by rw [<- hy, UInt8.toNat_ofNat']; omega
 have HY : Hid (UInt8.ofNat k.toNat = y) := hy
 have hn32 : IntKind.u32.wrap (n : Int) = (n : Int) := by rw [IntKind.wrap_u32]; omega
 have hk8 : IntKind.u8.wrap k = (y.toNat : Int) := by
  rw [show IntKind.u8.wrap k = k % 256 by simp [IntKind.wrap, IntKind.bits, IntKind.signed]]
  exact hky
 clear B0 T sW hl hb hy
 go_enter Tryz.func185, Tryz.ntmps185
 go_upto_region 5 with fail
 clear h0 h1 q q2 q3 hn hW
 go_region_held3 (λ u => u.cell? ⟨w.heap.size, 0, none⟩ = some (.int .i64 k) /\ u.cell? ⟨w.heap.size, 1, none⟩ = some (.slice a n c)) (go_keep)
  (first
   | (refine stepG_at encB 5 39 1 _ rfl Tryz.info5 Tryz.underlying39 rfl (.tmp 21) (.tmp 25) rfl W.heap.size _ (b4 n) y rfl (lay_i W.drew n y cs hcs.out).1 (W.heap.size + 1) rfl (lay_i W.drew n y cs hcs.out).2 (by rw [b4_len]; decide) (by rw [b4_len]; decide) (by simp; omega) ?_; intro v5 w5 ho5 hb5 hm5 ht5; have J5 : Hid (OwnG encB 5 w5 W.heap.size v5 (b4 n ++ [y]) /\ Below W.heap.size W.drew w5) := ⟨ho5, (bz2 W.drew _ _).trans hb5⟩; clear ho5 hb5 hm5 ht5; have k5 := (H.out.2.1.below ((Below.refl _ W).drew.trans J5.out.2)).cells)
   | (refine stepG_at encB 5 39 1 _ rfl Tryz.info5 Tryz.underlying39 rfl (.tmp 21) (.tmp 25) rfl W.heap.size _ (b4 n) y rfl (lay_ii W.drew n y cs hcs.out).1 W.heap.size rfl (lay_ii W.drew n y cs hcs.out).2 (by rw [b4_len]; decide) (by rw [b4_len]; decide) (by simp; omega) ?_; intro v5 w5 ho5 hb5 hm5 ht5; have J5 : Hid (OwnG encB 5 w5 W.heap.size v5 (b4 n ++ [y]) /\ Below W.heap.size W.drew w5) := ⟨ho5, (bz2 W.drew _ _).trans hb5⟩; clear ho5 hb5 hm5 ht5; have k5 := (H.out.2.1.below ((Below.refl _ W).drew.trans J5.out.2)).cells)
   | (go_at_call 232; refine (word_at n (by have := H.out.2.2.2.2.1; omega) _).mono ?_; rintro e w2 ⟨cs, rfl, rfl, hcs⟩))
 all_goals
  obtain ⟨a5, c5, rfl, _, _, _, q5⟩ := OwnG.form J5.out.1
  have l5 : (b4 n ++ [y]).length = 5 := by rw [List.length_append, b4_len]; rfl
  rw [l5] at J5 ⊢
  obtain ⟨g5, rfl⟩ := q5 (by rw [l5]; decide)
  have B5 : Below w.heap.size w w5.drew := (H.out.1.trans (((Below.refl _ W).drew.trans J5.out.2).mono H.out.1.size)).drew
  have hd : ([b4 n ++ [y], body] : List Bs).flatten = headB k body := by
   rw [headB, H.out.2.2.2.1, HY.out]
   simp
  obtain ⟨cr, hcr⟩ : ∃ cr, crc (headB k body) = cr := ⟨_, rfl⟩
  have J6 : Hid (BAt w5.drew (.slice (some ⟨g5, 0, none⟩) 5 c5) (b4 n ++ [y]) /\ BAt w5.drew (.slice a n c) body /\ Below w.heap.size w w5.drew /\ Box w5 w.heap.size 237 (.int .i64 k) (.slice a n c) /\ ([b4 n ++ [y], body] : List Bs).flatten = headB k body /\ crc (headB k body) = cr) :=
   ⟨OwnB.at (OwnG.low (J5.out.1.below (Below.refl _ w5).drew) (Nat.zero_le _)), (H.out.2.2.1.below ((Below.refl _ W).drew.trans J5.out.2)).below (Below.refl _ w5).drew, B5, H.out.2.1.below ((Below.refl _ W).drew.trans J5.out.2), hd, hcr⟩
  have k6 := J6.out.2.2.2.1.cells
  obtain ⟨k60, k61⟩ := k6
  have l6 : w.heap.size < w5.heap.size := J6.out.2.2.2.1.lt
  have n60 : w.heap.size ≠ w5.heap.size := by omega
  have n61 : w.heap.size ≠ w5.heap.size + 1 := by omega
  have n62 : w.heap.size ≠ w5.heap.size + 1 + 1 := by omega
  clear k5 x0 x1 q5 B5 hd hcr hcs l5 J5
  go_wp2_with fail
  go_region_held3 (λ u => u.cell? ⟨w.heap.size, 0, none⟩ = some (.int .i64 k) /\ u.cell? ⟨w.heap.size, 1, none⟩ = some (.slice a n c)) (first | with_reducible exact (J6.out.2.2.2.1.below (bz3d _ _ _ _)).cells | go_keep)
   (first
    | (go_at_call 114; refine (seal_cat w5.drew _ _ _ _ J6.out.1 J6.out.2.1 (by rw [List.length_append, b4_len]; have := H.out.2.2.2.1; have := H.out.2.2.2.2.1; simp; omega) cr cs2 hcs2.out _ 39).mono ?_; rintro e w8 ⟨v8, rfl, J8⟩; have k8 := (J6.out.2.2.2.1.below ((Below.refl _ w5).drew.trans J8.out.2)).cells)
    | (go_at_call 232; refine (word_at cr (by rw [<- J6.out.2.2.2.2.2]; exact crc_lt _) _).mono ?_; rintro e w7 ⟨cs2, rfl, rfl, hcs2⟩)
    | (go_at_call 103; refine (check_at _ (parts_two J6.out.1 J6.out.2.1 39) (by simp) cr (by rw [J6.out.2.2.2.2.1]; exact J6.out.2.2.2.2.2)).mono ?_; rintro e w6 ⟨rfl, rfl⟩))
  go_wp2
  refine bodyPost_ret (results_tmp2 rfl _ _ _) rfl ?_
  refine ⟨_, rfl, ?_, J6.out.2.2.1.trans (J8.out.2.mono J6.out.2.2.1.size)⟩
  have e : b4 n ++ [y] ++ body ++ b4 cr = sealB k body := by
   rw [sealB, J6.out.2.2.2.2.2, <- J6.out.2.2.2.2.1]
   simp
  rw [<- e]
  exact J8.out.1.low J6.out.2.2.1.size
theorem seal_any (hb : BAt w (.slice a n c) body) (hl : body.length = n) : Calls Tryz.prog 185 #[.agg #[.int .i64 k, .slice a n c]] w λ e w' => ∃ v, e = .returned (.tuple #[v, .int .i64 (fseal (k, body)).2]) /\ Hid (OwnG encB 5 w' w.heap.size v (fseal (k, body)).1 /\ Below w.heap.size w w') := by
 unfold fseal
 by_cases h0 : k < 0 ∨ 255 < k
 ·rw [if_pos h0]
  refine (seal_kind h0).mono ?_
  rintro e w' ⟨rfl, hb⟩
  exact ⟨_, rfl, OwnG.nil _ _ _ _, hb⟩
 ·rw [if_neg h0]
  by_cases h1 : 8192 < body.length
  ·rw [if_pos h1]
   refine (seal_long (by omega) (by omega) (by omega)).mono ?_
   rintro e w' ⟨rfl, hb⟩
   exact ⟨_, rfl, OwnG.nil _ _ _ _, hb⟩
  ·rw [if_neg h1]
   exact seal_done (by omega) (by omega) hl (by omega) hb
end
end Go.Proofs.YtjlokpjflgbgdaaGreat

namespace Go.Proofs.YtjlokpjflgbgdaaGreat
open Go.RowKit
theorem sid_at (k : Int) {v : Value} {xss : List Bs} (w : World) (h : PartsB w v xss) (hl : xss.length <= 1000000) (x : UInt64) (hx : oid k xss.flatten = x) :
  Calls Tryz.prog 171 #[.int .i64 k, v] w λ e w' => e = .returned (.int .u64 (x.toNat : Int)) /\ w' = w := by
 refine (id_any k v _ w (h.parts hl)).mono ?_
 rintro e w' ⟨rfl, hw⟩
 exact ⟨by rw [idFolds_flat, oid_eq, hx], hw⟩
theorem rsid_at (k : Int) {v : Value} {bs : Bs} (w : World) (h : BAt w v bs) (x : UInt64) (hx : oid k bs = x) :
  Calls Tryz.prog 180 #[.int .i64 k, v] w λ e w' => e = .returned (.int .u64 (x.toNat : Int)) /\ w' = w := by
 refine (rid_any k v _ w h.bytes).mono ?_
 rintro e w' ⟨rfl, hw⟩
 exact ⟨by rw [oid_eq, hx], hw⟩
section
variable {w : World} {s b : Nat} {M : Nat -> Nat} {r t : Nat} {F : Nat -> UInt64 -> Option Value} {st : St} {S : Nat -> Prop}
theorem StoreX.look (h : StoreX w s b M r t F st S) {k : Nat} (hk : k < 4) (i : UInt64) :
  ∃ v, (Instr.lookup 157 (.map (some (M k))) (.int .u64 (i.toNat : Int)) true).run Tryz.prog w = .ok (.tuple #[v, .bool (st.has (k : Int) i)]) w /\ (∀ bs, oget st.objs (k : Int) i = some bs -> BAt w v bs /\ Within S v) /\ (oget st.objs (k : Int) i = none -> v = .slice none 0 0) := by
 obtain ⟨n, _, hm⟩ := h.objs k hk
 have hl := hm.look Tryz.underlying157 (zeroS w) i trivial
 have hl : (Instr.lookup 157 (.map (some (M k))) (.int .u64 (i.toNat : Int)) true).run Tryz.prog w = .ok (.tuple #[(F k i).getD (.slice none 0 0), .bool (F k i).isSome]) w := hl
 unfold St.has
 cases e : oget st.objs (k : Int) i with
 | none =>
  have e2 := h.gone k hk i e
  rw [e2] at hl
  exact ⟨_, hl, λ bs q => (by cases q), λ _ => rfl⟩
 | some bs =>
  obtain ⟨v, h1, h2, h3⟩ := h.there k hk i bs e
  rw [h1] at hl
  exact ⟨v, hl, λ bs' q => (by cases q; exact ⟨h2, h3⟩), λ q => (by cases q)⟩
theorem has_x (h : StoreX w s b M r t F st S) {k : Nat} (hk : k < 4) (i : UInt64) (g : Bool) (hg : st.has (k : Int) i = g) :
  Calls Tryz.prog 175 #[.pointer (some ⟨s, 0, none⟩), .int .i64 (k : Int), .int .u64 (i.toNat : Int)] w λ e w' => e = .returned (.bool g) /\ w' = w := by
 obtain ⟨v, hl, _⟩ := h.look hk i
 rw [hg] at hl
 obtain ⟨c0, c1, c2, c3, c4, c5, c6⟩ := h.cell
 clear h hg
 obtain ⟨x, hx⟩ : ∃ x : Int, (i.toNat : Int) = x := ⟨_, rfl⟩
 rw [hx] at hl ⊢
 clear hx
 have hk4 : k = 0 ∨ k = 1 ∨ k = 2 ∨ k = 3 := by omega
 rcases hk4 with rfl | rfl | rfl | rfl
 all_goals
  go_enter Tryz.func175, Tryz.ntmps175
  go_wp2
  go_ret
  exact ⟨rfl, rfl⟩
theorem vhas_any (h : StoreAt w s b st S) {k : Nat} (hk : k < 4) (i : UInt64) (g : Bool) (hg : st.has (k : Int) i = g) :
  Calls Tryz.prog 175 #[.pointer (some ⟨s, 0, none⟩), .int .i64 (k : Int), .int .u64 (i.toNat : Int)] w λ e w' => e = .returned (.bool g) /\ w' = w := by
 obtain ⟨M, r, t, F, h⟩ := h
 exact has_x h hk i g hg
end
theorem allT_step {α : Type} {es : List α} {p : α -> Bool} {i : Nat} {e : α} (h : es[i]? = some e) (ht : (es.take i).all p = true) (hx : p e = true) : (es.take (i + 1)).all p = true := by
 rw [List.take_add_one, h, List.all_append, ht]
 simp [hx]
theorem allT_miss {α : Type} {es : List α} {p : α -> Bool} {i : Nat} {e : α} (h : es[i]? = some e) (hx : p e = false) : es.all p = false := by
 rw [List.all_eq_false]
 exact ⟨e, List.mem_of_getElem? h, by simp [hx]⟩
section
variable {w : World} {s b : Nat} {st : St} {S : Nat -> Prop}
theorem hasBlobs_any {ao : Option Addr} {c n : Nat} {es : List En} (h : StoreAt w s b st S) (hr : RdG encE w ao es) (hl : es.length = n) (hn : n <= 4000000000000000000) (g : Bool) (hg : st.blobs es = g) :
  Calls Tryz.prog 116 #[.pointer (some ⟨s, 0, none⟩), .slice ao n c] w λ e w' => e = .returned (.bool g) /\ Below w.heap.size w w' := by
 have H : Hid (StoreAt w s b st S /\ RdG encE w ao es /\ es.length = n /\ st.blobs es = g) := ⟨h, hr, hl, hg⟩
 clear h hr hl hg
 go_enter Tryz.func116, Tryz.ntmps116
 go_wp2_with fail
 go_loopg [9] n (λ m iv wr => ∃ i : Nat, iv = .int .i64 i /\ i + m = n /\ Hid ((es.take i).all (λ e => st.has 1 e.2) = true /\ Below w.heap.size w wr))
 case atStart => exact ⟨0, rfl, by omega, rfl, Below.refl _ _⟩
 case round =>
  obtain ⟨i, rfl, hi, HR⟩ := hrel
  by_cases hin : i < n
  ·have id : (i : Int) < (n : Int) := by omega
   obtain ⟨e, he⟩ := get_some H.out.2.2.1 hin
   obtain ⟨b1, off, rfl, hlt⟩ := H.out.2.1.some_of he
   obtain ⟨_, c0, c1⟩ := (H.out.2.1.below HR.out.2).ents he
   obtain ⟨d, z⟩ := e
   simp only at c0 c1
   have HE : Hid (es[i]? = some (d, z)) := he
   clear he
   have hc := λ (q : Bool) (hq : st.has 1 z = q) => vhas_any ((H.out.1.below HR.out.2).below (bz1 wr (.cells #[tx d, .int .u64 (z.toNat : Int)] 69))) (k := 1) (by omega) z q hq
   obtain ⟨zi, hz⟩ : ∃ zi, (z.toNat : Int) = zi := ⟨_, rfl⟩
   rw [hz] at c1 hc
   clear hz
   cases hp : st.has 1 z with
   | true =>
    have hc := hc true hp
    go_wp2_with fail
    refine hc.mono ?_
    rintro e w2 ⟨rfl, hw2⟩
    rw [hw2]
    clear hw2 w2
    go_wp2
    go_roundg (gk - 1)
    case measure => omega
    case rel => exact ⟨i + 1, by go_num, by omega, allT_step HE.out HR.out.1 hp, HR.out.2.trans ((bz1 wr _).mono HR.out.2.size)⟩
   | false =>
    have hc := hc false hp
    have hg : g = false := by rw [<- H.out.2.2.2]; exact allT_miss HE.out hp
    subst hg
    go_wp2_with fail
    refine hc.mono ?_
    rintro e w2 ⟨rfl, hw2⟩
    rw [hw2]
    clear hw2 w2
    go_wp2
    go_ret
    exact ⟨rfl, HR.out.2.trans ((bz1 wr _).mono HR.out.2.size)⟩
  ·obtain rfl : i = n := by omega
   have hall := HR.out.1
   rw [List.take_of_length_le (by rw [H.out.2.2.1]; omega)] at hall
   have hg : g = true := by rw [<- H.out.2.2.2]; exact hall
   subst hg
   clear hall
   go_wp2
   go_ret
   exact ⟨rfl, HR.out.2⟩
theorem hasBase_any {pa : Option Addr} {pn pc : Nat} {cm : Cm} (h : StoreAt w s b st S) (hr : RdG encU w pa cm.ps) (hl : cm.ps.length = pn) (hn : pn <= 4000000000000000000) (dt : Int) (nt : ByteArray) (g : Bool) (hg : st.above cm = g) :
  Calls Tryz.prog 127 #[.pointer (some ⟨s, 0, none⟩), .agg #[.int .u64 (cm.tree.toNat : Int), .slice pa pn pc, .int .i64 dt, .string nt]] w λ e w' => e = .returned (.bool g) /\ Below w.heap.size w w' := by
 have ht := λ (W : World) (hW : Below w.heap.size w W) (q : Bool) (hq : st.has 2 cm.tree = q) => vhas_any (h.below hW) (k := 2) (by omega) cm.tree q hq
 obtain ⟨tr, htr⟩ : ∃ tr, (cm.tree.toNat : Int) = tr := ⟨_, rfl⟩
 rw [htr] at ht ⊢
 clear htr
 obtain ⟨W, hW⟩ : ∃ W, w.alloc (.cells #[.int .u64 tr, .slice pa pn pc, .int .i64 dt, .string nt] 61) = W := ⟨_, rfl⟩
 have bW : Below w.heap.size w W := by rw [<- hW]; exact bz1 _ _
 have bx : Box4 W w.heap.size 61 (.int .u64 tr) (.slice pa pn pc) (.int .i64 dt) (.string nt) := by rw [<- hW]; exact Box4.new _ _ _ _ _ _
 obtain ⟨x0, x1, x2, x3⟩ := bx.cells
 have ht := ht W bW
 have H : Hid (StoreAt W s b st S /\ RdG encU W pa cm.ps /\ cm.ps.length = pn /\ st.above cm = g /\ Below w.heap.size w W) := ⟨h.below bW, hr.below bW, hl, hg, bW⟩
 clear h hr hl hg bW bx
 go_enter Tryz.func127, Tryz.ntmps127
 go_wp2_with fail
 go_loopg [10] pn (λ m iv wr => ∃ i : Nat, iv = .int .i64 i /\ i + m = pn /\ wr = W /\ Hid ((cm.ps.take i).all (λ p => st.has 3 p) = true))
 case atStart => exact ⟨0, rfl, by omega, rfl, rfl⟩
 case round =>
  obtain ⟨i, rfl, hi, rfl, HR⟩ := hrel
  by_cases hin : i < pn
  ·have id : (i : Int) < (pn : Int) := by omega
   obtain ⟨x, hx⟩ := get_some H.out.2.2.1 hin
   obtain ⟨b1, off, rfl, hlt⟩ := H.out.2.1.some_of hx
   obtain ⟨_, c0⟩ := H.out.2.1.nums hx
   have HE : Hid (cm.ps[i]? = some x) := hx
   clear hx
   have hc := λ (q : Bool) (hq : st.has 3 x = q) => vhas_any H.out.1 (k := 3) (by omega) x q hq
   obtain ⟨zi, hz⟩ : ∃ zi, (x.toNat : Int) = zi := ⟨_, rfl⟩
   rw [hz] at c0 hc
   clear hz
   cases hp : st.has 3 x with
   | true =>
    have hc := hc true hp
    go_wp2_with fail
    refine hc.mono ?_
    rintro e w2 ⟨rfl, hw2⟩
    rw [hw2]
    clear hw2 w2
    go_wp2
    go_roundg (gk - 1)
    case measure => omega
    case rel => exact ⟨i + 1, by go_num, by omega, rfl, allT_step HE.out HR.out hp⟩
   | false =>
    have hc := hc false hp
    have hg : g = false := by rw [<- H.out.2.2.2.1]; unfold St.above; rw [allT_miss HE.out hp]; rfl
    subst hg
    go_wp2_with fail
    refine hc.mono ?_
    rintro e w2 ⟨rfl, hw2⟩
    rw [hw2]
    clear hw2 w2
    go_wp2
    go_ret
    exact ⟨rfl, H.out.2.2.2.2⟩
  ·obtain rfl : i = pn := by omega
   have hall := HR.out
   rw [List.take_of_length_le (by rw [H.out.2.2.1]; omega)] at hall
   have hg : st.has 2 cm.tree = g := by
    rw [<- H.out.2.2.2.1]
    unfold St.above
    rw [hall]
    rfl
   have ht := ht g hg
   clear hall hg
   go_wp2_with fail
   refine ht.mono ?_
   rintro e w2 ⟨rfl, hw2⟩
   rw [hw2]
   clear hw2 w2
   go_wp2
   go_ret
   exact ⟨rfl, H.out.2.2.2.2⟩
end
end Go.Proofs.YtjlokpjflgbgdaaGreat

namespace Go.Proofs.YtjlokpjflgbgdaaGreat
open Go.RowKit
theorem bel_da {W w1 : World} {o : Obj} (h : Below (W.drew.alloc o).heap.size (W.drew.alloc o) w1) : Below W.heap.size W w1 := below_drew ((bz1 W.drew o).trans (h.mono (bz1 W.drew o).size))
theorem sid_bel (k : Int) {v : Value} {xss : List Bs} (w : World) (h : PartsB w v xss) (hl : xss.length <= 1000000) (x : UInt64) (hx : oid k xss.flatten = x) :
  Calls Tryz.prog 171 #[.int .i64 k, v] w λ e w' => e = .returned (.int .u64 (x.toNat : Int)) /\ Below w.heap.size w w' := by
 refine (sid_at k w h hl x hx).mono ?_
 rintro e w' ⟨rfl, rfl⟩
 exact ⟨rfl, Below.refl _ _⟩
theorem grown_turned1 {w w' : World} {m : Nat} (h : w.grownBy w' (some m)) : Turned (λ i => i = m) w w' := (Turned.refl _ _).grown h (λ k _ e => by cases e; rfl)
theorem keep_c {W w1 w2 : World} {m : Nat} (B1 : Below W.heap.size W w1) (ht : Turned (λ x => x = m) w1 w2) {p : Addr} {v : Value} (hp : p.block < W.heap.size) (hne : p.block ≠ m) (hc : W.cell? p = some v) : w1.cell? p = some v /\ w2.cell? p = some v := by
 have h1 : w1.cell? p = some v := (B1.cell hp).trans hc
 exact ⟨h1, (ht.cell (Nat.lt_of_lt_of_le hp B1.size) hne).trans h1⟩
section
variable {w : World} {s b : Nat} {M : Nat -> Nat} {r t : Nat} {F : Nat -> UInt64 -> Option Value} {st : St} {S : Nat -> Prop}
theorem StoreX.update {w1 : World} (h : StoreX w s b M r t F st S) (hb : Below w.heap.size w w1) {k : Nat} (hk : k < 4) (i : UInt64) (hn : st.objs.length <= 1000000) (v : Value) :
  ∃ w2 n, (Instr.mapUpdate 157 (.map (some (M k))) (.int .u64 (i.toNat : Int)) v).run Tryz.prog w1 = .ok () w2 /\ MapG kU w2 (M k) (gput (F k) i v) n /\ n <= st.objs.length + 1 /\ Turned (λ x => x = M k) w1 w2 := by
 obtain ⟨n, h1, h2⟩ := (h.below hb).objs k hk
 obtain ⟨w2, h3, h4, h5⟩ := h2.put Tryz.underlying157 i trivial (by simp only [maxLen]; omega) v
 refine ⟨w2, _, h3, h4, ?_, grown_turned1 h5⟩
 split <;> omega
theorem keep_k {S' : Nat -> Prop} (h : StoreX w s b M r t F st S) (hSS : ∀ i, S i -> S' i) (hSl : ∀ i, S' i -> i < w.heap.size) {k : Nat} (hk1 : 1 <= k) (hk : k < 4) (kI : Int) (hkI : (k : Int) = kI) {a : Option Addr} {n c : Nat} {body : Bs} (hv : BAt w (.slice a n c) body) (hin : Within S' (.slice a n c)) (i : UInt64) (hi : oid kI body = i) (hno : oget st.objs kI i = none) (hn : st.objs.length <= 1000000) :
  Calls Tryz.prog 143 #[.pointer (some ⟨s, 0, none⟩), .agg #[.int .i64 kI, .slice a n c]] w λ e w' => e = .returned (.tuple #[]) /\ StoreAt w' s b { st with objs := st.objs ++ [⟨kI, i, body⟩] } S' /\ Turned S w w' := by
 obtain ⟨W, hW⟩ : ∃ W, w.alloc (.cells #[.int .i64 kI, .slice a n c] 237) = W := ⟨_, rfl⟩
 have bW : Below w.heap.size w W := by rw [<- hW]; exact bz1 _ _
 have bx : Box W w.heap.size 237 (.int .i64 kI) (.slice a n c) := by rw [<- hW]; exact Box.new _ _ _ _
 have hX := (h.mono hSS hSl).below bW
 have hown := h.own.2.2.2 k hk
 obtain ⟨x0, x1⟩ := bx.cells
 obtain ⟨c0, c1, c2, c3, c4, c5, c6⟩ := hX.cell
 have H : Hid (StoreX W s b M r t F st S' /\ BAt W (.slice a n c) body /\ Within S' (.slice a n c) /\ oid kI body = i /\ oget st.objs kI i = none /\ st.objs.length <= 1000000 /\ Below w.heap.size w W /\ Box W w.heap.size 237 (.int .i64 kI) (.slice a n c)) := ⟨hX, hv.below bW, hin, hi, hno, hn, bW, bx⟩
 have fin : ∀ w1 w2 m, Below W.heap.size W w1 -> MapG kU w2 (M k) (gput (F k) i (.slice a n c)) m -> m <= st.objs.length + 1 -> Turned (λ x => x = M k) w1 w2 -> StoreAt w2 s b { st with objs := st.objs ++ [⟨kI, i, body⟩] } S' /\ Turned S w w2 := by
  intro w1 w2 m q1 q2 q3 q4
  have := (H.out.1.below q1).add hk (by rw [hkI]; exact H.out.2.2.2.2.1) (H.out.2.1.below q1) H.out.2.2.1 q2 q3 q4
  rw [hkI] at this
  refine ⟨⟨M, r, t, _, this⟩, ?_⟩
  refine (Turned.ofBelow (S := S) (H.out.2.2.2.2.2.2.1.trans (q1.mono H.out.2.2.2.2.2.2.1.size))).trans q4 (λ j _ e => ?_)
  have e : j = M k := e
  rw [e]
  exact hown
 have up := λ w1 hb => StoreX.update (w1 := w1) H.out.1 hb hk i H.out.2.2.2.2.2.1 (.slice a n c)
 have ne : M k ≠ s := H.out.1.map_ne.2.2 k hk
 obtain ⟨x, hx⟩ : ∃ x : Int, (i.toNat : Int) = x := ⟨_, rfl⟩
 have sid := λ u (v : Value) (hu : PartsB u v [body]) => sid_bel kI u hu (by simp) i (by simpa using hi)
 rw [hx] at sid up
 have hlt : s < W.heap.size := hX.lt_s
 have hlw : w.heap.size < W.heap.size := bx.lt
 have hmw : w.heap.size ≠ M k := λ e => by
  have := h.lt _ (h.own.2.2.2 k hk)
  omega
 have HH : Hid ((∀ w1 w2 m, Below W.heap.size W w1 -> MapG kU w2 (M k) (gput (F k) i (.slice a n c)) m -> m <= st.objs.length + 1 -> Turned (λ x => x = M k) w1 w2 -> StoreAt w2 s b { st with objs := st.objs ++ [⟨kI, i, body⟩] } S' /\ Turned S w w2)
  /\ (∀ w1, Below W.heap.size W w1 -> ∃ w2 n_1, (Instr.mapUpdate 157 (.map (some (M k))) (.int .u64 x) (.slice a n c)).run Tryz.prog w1 = .ok () w2 /\ MapG kU w2 (M k) (gput (F k) i (.slice a n c)) n_1 /\ n_1 <= st.objs.length + 1 /\ Turned (λ x => x = M k) w1 w2)
  /\ (∀ u v, PartsB u v [body] -> Calls Tryz.prog 171 #[.int .i64 kI, v] u λ e w' => e = .returned (.int .u64 x) /\ Below u.heap.size u w') /\ BAt W (.slice a n c) body /\ s < W.heap.size /\ w.heap.size < W.heap.size /\ s ≠ M k /\ w.heap.size ≠ M k) := ⟨fin, up, sid, H.out.2.1, hlt, hlw, ne.symm, hmw⟩
 clear h hv hin hi hno hn bW bx hX fin up sid hx H hlt hlw hmw ne hown hSS hSl
 have hk4 : k = 1 ∨ k = 2 ∨ k = 3 := by omega
 rcases hk4 with rfl | rfl | rfl
 ·obtain rfl : kI = 1 := by rw [<- hkI]; rfl
  go_enter Tryz.func143, Tryz.ntmps143
  go_wp2_with fail
  go_region_held3 (λ u => u.cell? ⟨w.heap.size, 0, none⟩ = some (.int .i64 1) /\ u.cell? ⟨w.heap.size, 1, none⟩ = some (.slice a n c) /\ u.cell? ⟨s, 2, none⟩ = some (.map (some (M 1))))
   (go_keep)
   (first | (go_at_call 171; refine (HH.out.2.2.1 _ _ (parts_one (HH.out.2.2.2.1.below (bdrewN W 1)) 39)).mono ?_; rintro e w1 ⟨rfl, B0⟩; have B1 : Below W.heap.size W w1 := bel_da B0; obtain ⟨w2, m2, hrun, hm2, hn2, ht2⟩ := HH.out.2.1 w1 B1; obtain ⟨k0, l0⟩ := keep_c B1 ht2 (p := ⟨w.heap.size, 0, none⟩) HH.out.2.2.2.2.2.1 HH.out.2.2.2.2.2.2.2 x0; obtain ⟨k1, l1⟩ := keep_c B1 ht2 (p := ⟨w.heap.size, 1, none⟩) HH.out.2.2.2.2.2.1 HH.out.2.2.2.2.2.2.2 x1; obtain ⟨k2, l2⟩ := keep_c B1 ht2 (p := ⟨s, 2, none⟩) HH.out.2.2.2.2.1 HH.out.2.2.2.2.2.2.1 c2; have FF : Hid (StoreAt w2 s b { st with objs := st.objs ++ [⟨1, i, body⟩] } S' /\ Turned S w w2) := HH.out.1 w1 w2 m2 B1 hm2 hn2 ht2; clear B0 B1 hm2 hn2 ht2))
  go_end0
  exact ⟨rfl, FF.out⟩
 ·obtain rfl : kI = 2 := by rw [<- hkI]; rfl
  go_enter Tryz.func143, Tryz.ntmps143
  go_wp2_with fail
  go_region_held3 (λ u => u.cell? ⟨w.heap.size, 0, none⟩ = some (.int .i64 2) /\ u.cell? ⟨w.heap.size, 1, none⟩ = some (.slice a n c) /\ u.cell? ⟨s, 3, none⟩ = some (.map (some (M 2))))
   (go_keep)
   (first | (go_at_call 171; refine (HH.out.2.2.1 _ _ (parts_one (HH.out.2.2.2.1.below (bdrewN W 1)) 39)).mono ?_; rintro e w1 ⟨rfl, B0⟩; have B1 : Below W.heap.size W w1 := bel_da B0; obtain ⟨w2, m2, hrun, hm2, hn2, ht2⟩ := HH.out.2.1 w1 B1; obtain ⟨k0, l0⟩ := keep_c B1 ht2 (p := ⟨w.heap.size, 0, none⟩) HH.out.2.2.2.2.2.1 HH.out.2.2.2.2.2.2.2 x0; obtain ⟨k1, l1⟩ := keep_c B1 ht2 (p := ⟨w.heap.size, 1, none⟩) HH.out.2.2.2.2.2.1 HH.out.2.2.2.2.2.2.2 x1; obtain ⟨k2, l2⟩ := keep_c B1 ht2 (p := ⟨s, 3, none⟩) HH.out.2.2.2.2.1 HH.out.2.2.2.2.2.2.1 c3; have FF : Hid (StoreAt w2 s b { st with objs := st.objs ++ [⟨2, i, body⟩] } S' /\ Turned S w w2) := HH.out.1 w1 w2 m2 B1 hm2 hn2 ht2; clear B0 B1 hm2 hn2 ht2))
  go_end0
  exact ⟨rfl, FF.out⟩
 ·obtain rfl : kI = 3 := by rw [<- hkI]; rfl
  go_enter Tryz.func143, Tryz.ntmps143
  go_wp2_with fail
  go_region_held3 (λ u => u.cell? ⟨w.heap.size, 0, none⟩ = some (.int .i64 3) /\ u.cell? ⟨w.heap.size, 1, none⟩ = some (.slice a n c) /\ u.cell? ⟨s, 4, none⟩ = some (.map (some (M 3))))
   (go_keep)
   (first | (go_at_call 171; refine (HH.out.2.2.1 _ _ (parts_one (HH.out.2.2.2.1.below (bdrewN W 1)) 39)).mono ?_; rintro e w1 ⟨rfl, B0⟩; have B1 : Below W.heap.size W w1 := bel_da B0; obtain ⟨w2, m2, hrun, hm2, hn2, ht2⟩ := HH.out.2.1 w1 B1; obtain ⟨k0, l0⟩ := keep_c B1 ht2 (p := ⟨w.heap.size, 0, none⟩) HH.out.2.2.2.2.2.1 HH.out.2.2.2.2.2.2.2 x0; obtain ⟨k1, l1⟩ := keep_c B1 ht2 (p := ⟨w.heap.size, 1, none⟩) HH.out.2.2.2.2.2.1 HH.out.2.2.2.2.2.2.2 x1; obtain ⟨k2, l2⟩ := keep_c B1 ht2 (p := ⟨s, 4, none⟩) HH.out.2.2.2.2.1 HH.out.2.2.2.2.2.2.1 c4; have FF : Hid (StoreAt w2 s b { st with objs := st.objs ++ [⟨3, i, body⟩] } S' /\ Turned S w w2) := HH.out.1 w1 w2 m2 B1 hm2 hn2 ht2; clear B0 B1 hm2 hn2 ht2))
  go_end0
  exact ⟨rfl, FF.out⟩
theorem keep_any {S' : Nat -> Prop} (h : StoreAt w s b st S) (hSS : ∀ i, S i -> S' i) (hSl : ∀ i, S' i -> i < w.heap.size) (k : Int) (hk : k = 1 ∨ k = 2 ∨ k = 3) {a : Option Addr} {n c : Nat} {body : Bs} (hv : BAt w (.slice a n c) body) (hin : Within S' (.slice a n c)) (hno : oget st.objs k (oid k body) = none) (hn : st.objs.length <= 1000000) :
  Calls Tryz.prog 143 #[.pointer (some ⟨s, 0, none⟩), .agg #[.int .i64 k, .slice a n c]] w λ e w' => e = .returned (.tuple #[]) /\ StoreAt w' s b (st.take (k, body)) S' /\ Turned S w w' := by
 obtain ⟨M, r, t, F, h⟩ := h
 have e : st.take (k, body) = { st with objs := st.objs ++ [⟨k, oid k body, body⟩] } := by
  unfold St.take
  rw [if_neg (by show ¬ k = 4; omega), if_neg (by show ¬ k = 5; omega)]
 rw [e]
 exact keep_k h hSS hSl (k := k.toNat) (by omega) (by omega) k (by omega) hv hin _ rfl hno hn
end
end Go.Proofs.YtjlokpjflgbgdaaGreat

namespace Go.Proofs.YtjlokpjflgbgdaaGreat
open Go.RowKit
def Blk (a : Option Addr) (n : Nat) : Nat -> Prop := λ i => 0 < n /\ ∃ p, a = some p /\ p.block = i
theorem BAt.blk {w : World} {a : Option Addr} {n c : Nat} {bs : Bs} (h : BAt w (.slice a n c) bs) : ∀ i, Blk a n i -> i < w.heap.size := by
 rintro i ⟨h0, p, hp, rfl⟩
 obtain ⟨ao, c', e, h1, h2, h3⟩ := h
 cases e
 obtain ⟨g, off, e2, hlt, _⟩ := h3 h0
 rw [hp] at e2
 cases e2
 exact hlt
def Grown (U : Nat -> Prop) (w w' : World) (a : Option Addr) (n : Nat) : Nat -> Prop := λ i => Since U w w' i ∨ Blk a n i
section
variable {w : World} {s b : Nat} {st : St} {d : Dk} {U : Nat -> Prop} {a : Option Addr} {n c : Nat} {body : Bs}
theorem add_join {w1 w2 w3 : World} {S T : Nat -> Prop} {st' : St} {d' : Dk} (hS : ∀ i, S i -> i < w.heap.size) (hap : ∀ i, S i -> ¬ T i) (hU : ∀ i, S i ∨ T i -> U i) (hUl : ∀ i, U i -> i < w.heap.size) (hfar : ∀ i, Blk a n i -> ¬ U i) (hbl : ∀ i, Blk a n i -> i < w.heap.size)
  (h1 : Below w.heap.size w w1) (hd : DiskAt w2 b d' (Since T w1 w2)) (ht2 : Turned T w1 w2) (hs : StoreAt w3 s b st' (λ i => S i ∨ Blk a n i)) (ht3 : Turned S w2 w3) : Duo w3 s b st' d' (Grown U w w3 a n) /\ Turned U w w3 := by
 have t2 : Turned U w w2 := (Turned.ofBelow h1).trans ht2 (λ i _ q => hU i (.inr q))
 refine ⟨⟨_, _, hs, hd.stays ht3 ?_, ?_, ?_, ?_⟩, t2.trans ht3 (λ i _ q => hU i (.inl q))⟩
 ·intro i hi q
  rcases hi with r | r
  ·exact hap i q r
  ·have := hS i q
   have := h1.size
   omega
 ·intro i hi q
  rcases hi with r | r
  ·rcases q with q | q
   ·exact hap i r q
   ·have := hS i r
    have := h1.size
    omega
  ·rcases q with q | q
   ·exact hfar i r (hU i (.inr q))
   ·have := hbl i r
    have := h1.size
    omega
 ·intro i hi
  rcases hi with (r | r) | (r | r)
  ·exact .inl (.inl (hU i (.inl r)))
  ·exact .inr r
  ·exact .inl (.inl (hU i (.inr r)))
  ·exact .inl (.inr ⟨by have := h1.size; omega, Nat.lt_of_lt_of_le r.2 ht3.size⟩)
 ·intro i hi
  have sz := Nat.le_trans t2.size ht3.size
  rcases hi with (r | r) | r
  ·exact Nat.lt_of_lt_of_le (hUl i r) sz
  ·exact r.2
  ·exact Nat.lt_of_lt_of_le (hbl i r) sz
theorem add_at (hD : Duo w s b st d U) (hv : BAt w (.slice a n c) body) (hfar : ∀ i, Blk a n i -> ¬ U i) (hl : body.length = n) (hn : n <= 8192) (k : Int) (hk0 : 0 <= k) (hk : k <= 255) (hok : d.ok) (hw : d.writes <= 1000000)
  (keepc : ∀ w2 S, (∀ i, S i -> U i) -> StoreAt w2 s b st S -> BAt w2 (.slice a n c) body -> (∀ i, S i ∨ Blk a n i -> i < w2.heap.size) ->
   Calls Tryz.prog 143 #[.pointer (some ⟨s, 0, none⟩), .agg #[.int .i64 k, .slice a n c]] w2 λ e w' => e = .returned (.tuple #[]) /\ StoreAt w' s b (st.take (k, body)) (λ i => S i ∨ Blk a n i) /\ Turned S w2 w') :
  Calls Tryz.prog 129 #[.pointer (some ⟨s, 0, none⟩), .agg #[.int .i64 k, .slice a n c]] w λ e w' => ∃ r, e = .returned (.int .i64 r) /\ Hid (r = (sapp st d (k, body)).2.2 /\ Duo w' s b (sapp st d (k, body)).1 (sapp st d (k, body)).2.1 (Grown U w w' a n) /\ Turned U w w') := by
 obtain ⟨S, T, hS, hT, hap, hU, hUl⟩ := hD
 obtain ⟨W, hW⟩ : ∃ W, w.alloc (.cells #[.int .i64 k, .slice a n c] 237) = W := ⟨_, rfl⟩
 have bW : Below w.heap.size w W := by rw [<- hW]; exact bz1 _ _
 have bx : Box W w.heap.size 237 (.int .i64 k) (.slice a n c) := by rw [<- hW]; exact Box.new _ _ _ _
 obtain ⟨x0, x1⟩ := bx.cells
 have hse := seal_any (k := k) (hv.below bW) hl
 have efs : (fseal (k, body)).2 = 0 := by
  unfold fseal
  rw [if_neg (by show ¬ (k < 0 ∨ 255 < k); omega), if_neg (by show ¬ 8192 < body.length; omega)]
 have elen : (fseal (k, body)).1.length <= 100000 := by
  unfold fseal
  rw [if_neg (by show ¬ (k < 0 ∨ 255 < k); omega), if_neg (by show ¬ 8192 < body.length; omega)]
  show (sealB k body).length <= _
  rw [sealB_len]
  omega
 obtain ⟨sb, hsb⟩ : ∃ sb, (fseal (k, body)).1 = sb := ⟨_, rfl⟩
 obtain ⟨d', hd'⟩ : ∃ d', (dapp d fileN sb).1 = d' := ⟨_, rfl⟩
 obtain ⟨cd, hcd⟩ : ∃ cd, (dapp d fileN sb).2 = cd := ⟨_, rfl⟩
 have esa : sapp st d (k, body) = (if cd = 0 then st.take (k, body) else st, d', cd) := by
  unfold sapp
  rw [hsb, hd', hcd]
 rw [efs, hsb] at hse
 rw [hsb] at elen
 rw [esa]
 obtain ⟨M, r, t, F, hX⟩ := hS
 have hSl : ∀ i, S i -> i < w.heap.size := hX.lt
 have hbl := hv.blk
 have H : Hid (StoreAt W s b st S /\ DiskAt W b d T /\ BAt W (.slice a n c) body /\ Below w.heap.size w W /\ Box W w.heap.size 237 (.int .i64 k) (.slice a n c)) := ⟨⟨M, r, t, F, hX.below bW⟩, hT.below bW, hv.below bW, bW, bx⟩
 have G : Hid ((∀ i, S i -> i < w.heap.size) /\ (∀ i, S i -> ¬ T i) /\ (∀ i, S i ∨ T i -> U i) /\ (∀ i, U i -> i < w.heap.size) /\ (∀ i, Blk a n i -> ¬ U i) /\ (∀ i, Blk a n i -> i < w.heap.size)) := ⟨hSl, hap, hU, hUl, hfar, hbl⟩
 have K : Hid (∀ w2 S, (∀ i, S i -> U i) -> StoreAt w2 s b st S -> BAt w2 (.slice a n c) body -> (∀ i, S i ∨ Blk a n i -> i < w2.heap.size) -> Calls Tryz.prog 143 #[.pointer (some ⟨s, 0, none⟩), .agg #[.int .i64 k, .slice a n c]] w2 λ e w' => e = .returned (.tuple #[]) /\ StoreAt w' s b (st.take (k, body)) (λ i => S i ∨ Blk a n i) /\ Turned S w2 w') := keepc
 have C0 : Hid (W.cell? ⟨s, 0, none⟩ = some (.pointer (some ⟨b, 0, none⟩)) /\ s < W.heap.size) := ⟨(hX.below bW).cell.1, (hX.below bW).lt_s⟩
 have Q : Hid (d.ok /\ d.writes <= 1000000 /\ sb.length <= 100000 /\ (dapp d fileN sb).1 = d' /\ (dapp d fileN sb).2 = cd) := ⟨hok, hw, elen, hd', hcd⟩
 clear hv hfar hl hn hk0 hk hok hw keepc hT hap hU hUl bW bx efs elen hsb hd' hcd esa hX hSl hbl
 go_enter Tryz.func129, Tryz.ntmps129
 go_wp2_with fail
 refine hse.mono ?_
 rintro e w1 ⟨v1, rfl, O1⟩
 obtain ⟨a1, c1, n1, hv1⟩ : ∃ a1 c1 n1, v1 = .slice a1 n1 c1 := by
  obtain ⟨a1, c1, e, _⟩ := OwnG.form O1.out.1
  exact ⟨a1, c1, _, e⟩
 subst hv1
 have p0 : w1.cell? ⟨s, 0, none⟩ = some (.pointer (some ⟨b, 0, none⟩)) := (O1.out.2.cell C0.out.2).trans C0.out.1
 have B1 : Hid (Below w.heap.size w w1) := H.out.2.2.2.1.trans (O1.out.2.mono H.out.2.2.2.1.size)
 have hap1 := append_at ((H.out.2.1.below O1.out.2).below (bz1 w1 (.cells #[.slice a1 n1 c1] 39))) Q.out.1 (by have := Q.out.2.1; omega) fileN (by decide) (parts_one (OwnB.at (OwnG.low O1.out.1 (Nat.zero_le _))) 39) (by simp) (by have := Q.out.2.2.1; simp; omega)
 have efl : [sb].flatten = sb := by simp
 rw [efl, Q.out.2.2.2.1, Q.out.2.2.2.2] at hap1
 clear hse
 go_wp2_with fail
 refine hap1.mono ?_
 rintro e w2 ⟨r2, rfl, hr2, D2, T2⟩
 have er : r2 = cd := hr2.out
 subst er
 clear hr2 hap1 efl p0
 have bz := bz1 w1 (.cells #[.slice a1 n1 c1] 39)
 have B1' : Hid (Below w.heap.size w (w1.alloc (.cells #[.slice a1 n1 c1] 39))) := B1.out.trans (bz.mono B1.out.size)
 have S2 : Hid (StoreAt w2 s b st S) := ((H.out.1.below O1.out.2).below bz).stays T2 G.out.2.1
 have V2 : Hid (BAt w2 (.slice a n c) body) := ((H.out.2.2.1.below O1.out.2).below bz).turned T2 (λ h0 p hp q => G.out.2.2.2.2.1 _ ⟨h0, p, hp, rfl⟩ (G.out.2.2.1 _ (.inr q)))
 have DT : Hid (DiskAt w2 b d' (Since T (w1.alloc (.cells #[.slice a1 n1 c1] 39)) w2) /\ Turned T (w1.alloc (.cells #[.slice a1 n1 c1] 39)) w2) := ⟨D2, T2⟩
 have y0 : w2.cell? ⟨w.heap.size, 0, none⟩ = some (.int .i64 k) /\ w2.cell? ⟨w.heap.size, 1, none⟩ = some (.slice a n c) := ((((H.out.2.2.2.2.below O1.out.2).below bz).turned T2 (λ q => by have := G.out.2.2.2.1 _ (G.out.2.2.1 _ (.inr q)); omega))).cells
 obtain ⟨y0, y1⟩ := y0
 clear D2 T2 bz
 by_cases hz : r2 = 0
 ·subst hz
  have kc := K.out w2 S (λ i hi => G.out.2.2.1 i (.inl hi)) S2.out V2.out (λ i hi => hi.elim (S2.out.lt i) (V2.out.blk i))
  go_wp2_with fail
  refine kc.mono ?_
  rintro e w3 ⟨rfl, S3, T3⟩
  have FF : Hid _ := add_join G.out.1 G.out.2.1 G.out.2.2.1 G.out.2.2.2.1 G.out.2.2.2.2.1 G.out.2.2.2.2.2 B1'.out DT.out.1 DT.out.2 S3 T3
  clear S3 T3 kc
  go_wp2
  go_ret
  exact ⟨0, rfl, rfl, FF.out.1, FF.out.2⟩
 ·have m0 : (r2 != 0) = true := by simpa using hz
  go_wp2
  go_ret
  have S3 : StoreAt w2 s b st (λ i => S i ∨ Blk a n i) := S2.out.mono (λ i q => .inl q) (λ i hi => hi.elim (S2.out.lt i) (V2.out.blk i))
  have FF := add_join G.out.1 G.out.2.1 G.out.2.2.1 G.out.2.2.2.1 G.out.2.2.2.2.1 G.out.2.2.2.2.2 B1'.out DT.out.1 DT.out.2 S3 (Turned.refl _ _)
  exact ⟨_, rfl, rfl, FF.1, FF.2⟩
theorem beq_at {u v : Value} {xs ys : Bs} (hx : BAt w u xs) (hy : BAt w v ys) (g : Bool) (hg : (xs == ys) = g) :
  Calls Tryz.prog 170 #[u, v] w λ e w' => e = .returned (.bool g) /\ w' = w := by
 have h1 := conv_str hx
 have h2 := conv_str hy
 clear hx hy
 subst hg
 go_enter Tryz.func170, Tryz.ntmps170
 go_wp2
 go_ret
 exact ⟨by simp, rfl⟩
theorem Duo.grown {w w' : World} (hD : Duo w s b st d U) (hv : ∀ i, Blk a n i -> i < w.heap.size) (hb : Below w.heap.size w w') : Duo w' s b st d (Grown U w w' a n) :=
 (hD.below hb).mono (λ i hi => .inl (.inl hi)) (λ i hi => by
  rcases hi with (r | r) | r
  ·exact Nat.lt_of_lt_of_le (hD.lt i r) hb.size
  ·exact r.2
  ·exact Nat.lt_of_lt_of_le (hv i r) hb.size)
theorem Duo.regrown {w w1 w' : World} {st' : St} {d' : Dk} (hb : Below w.heap.size w w1) (h : Duo w' s b st' d' (Grown U w1 w' a n)) (hs : w1.heap.size <= w'.heap.size) (hl : ∀ i, U i ∨ Blk a n i -> i < w.heap.size) : Duo w' s b st' d' (Grown U w w' a n) :=
 h.mono (λ i hi => by
  rcases hi with (r | r) | r
  ·exact .inl (.inl r)
  ·exact .inl (.inr ⟨by have := hb.size; omega, r.2⟩)
  ·exact .inr r) (λ i hi => by
  have := hb.size
  rcases hi with (r | r) | r
  ·have := hl i (.inl r); omega
  ·exact r.2
  ·have := hl i (.inr r); omega)
theorem put_k (hD : Duo w s b st d U) (hv : BAt w (.slice a n c) body) (hfar : ∀ i, Blk a n i -> ¬ U i) (hl : body.length = n) (hn : n <= 8192) (k : Nat) (hk1 : 1 <= k) (hk : k < 4) (kI : Int) (hkI : (k : Int) = kI) (hok : d.ok) (hw : d.writes <= 1000000) (hob : st.objs.length <= 1000000) :
  Calls Tryz.prog 113 #[.pointer (some ⟨s, 0, none⟩), .int .i64 kI, .slice a n c] w λ e w' => ∃ i r, e = .returned (.tuple #[.int .u64 i, .int .i64 r]) /\ Hid (i = ((sput st d kI body).2.1.toNat : Int) /\ r = (sput st d kI body).2.2 /\ Duo w' s b (sput st d kI body).1.1 (sput st d kI body).1.2 (Grown U w w' a n) /\ Turned U w w') := by
 have hk3 : kI = 1 ∨ kI = 2 ∨ kI = 3 := by omega
 obtain ⟨W, hW⟩ : ∃ W, w.alloc (.cells #[.slice a n c] 39) = W := ⟨_, rfl⟩
 have bW : Below w.heap.size w W := by rw [<- hW]; exact bz1 _ _
 have hUl := hD.lt
 have hbl := hv.blk
 obtain ⟨S, T, hS, hT, hap, hU, _⟩ := hD
 obtain ⟨M, r, t, F, hX⟩ := hS
 have hD : Duo w s b st d U := ⟨S, T, ⟨M, r, t, F, hX⟩, hT, hap, hU, hUl⟩
 obtain ⟨x, hx⟩ : ∃ x, oid kI body = x := ⟨_, rfl⟩
 have sid := sid_at kI W (by rw [<- hW]; exact parts_one hv 39) (by simp) x (by simpa using hx)
 obtain ⟨v, hlk, hthere, hgone⟩ := (hX.below bW).look hk x
 rw [hkI] at hlk hthere hgone
 obtain ⟨c0, c1, c2, c3, c4, c5, c6⟩ := (hX.below bW).cell
 have same : ∀ (z : UInt64) (e : Int), sput st d kI body = ((st, d), z, e) -> Duo W s b (sput st d kI body).1.1 (sput st d kI body).1.2 (Grown U w W a n) /\ Turned U w W := by
  intro z e q
  rw [q]
  exact ⟨hD.grown hbl bW, Turned.ofBelow bW⟩
 have hV : BAt W (.slice a n c) body := hv.below bW
 have hx0 : (x.toNat : Int) = 0 ↔ x = 0 := by
  constructor
  ·intro q
   exact UInt64.toNat_inj.1 (by simpa using q)
  ·rintro rfl; rfl
 cases hg : oget st.objs kI x with
 | some old =>
  have eh : st.has kI x = true := by unfold St.has; rw [hg]; rfl
  rw [eh] at hlk
  have hO := (hthere old hg).1
  clear hthere hgone
  cases hq : (old == body) with
  | true =>
   have eq : old = body := by simpa using hq
   have e : sput st d kI body = ((st, d), x, 0) := by unfold sput; rw [hx, hg]; simp [eq]
   have bq := beq_at hO hV true hq
   have FF : Hid _ := same x 0 e
   rw [e] at FF ⊢
   obtain ⟨xi, hxi⟩ : ∃ xi, (x.toNat : Int) = xi := ⟨_, rfl⟩
   rw [hxi] at sid hlk
   have HX : Hid ((x.toNat : Int) = xi) := hxi
   clear hv hfar hl hok hw hob hT hap hU hX hD hx hO hV same hg eh hUl hbl bW hq eq e hx0 hxi
   have hk4 : k = 1 ∨ k = 2 ∨ k = 3 := by omega
   rcases hk4 with rfl | rfl | rfl
   all_goals
    subst hkI
    go_enter Tryz.func113, Tryz.ntmps113
    go_wp2_with fail
    refine sid.mono ?_
    rintro e w1 ⟨rfl, hw1⟩
    rw [hw1]
    clear hw1 w1
    go_wp2_with fail
    refine bq.mono ?_
    rintro e w1 ⟨rfl, hw1⟩
    rw [hw1]
    clear hw1 w1
    go_wp2
    refine bodyPost_ret (results_tmp2 rfl _ _ _) rfl ?_
    exact ⟨_, _, rfl, HX.out.symm, rfl, FF.out⟩
  | false =>
   have eq : ¬ old = body := by simpa using hq
   have e : sput st d kI body = ((st, d), 0, 13) := by unfold sput; rw [hx, hg]; simp [eq]
   have bq := beq_at hO hV false hq
   have FF : Hid _ := same 0 13 e
   rw [e] at FF ⊢
   obtain ⟨xi, hxi⟩ : ∃ xi, (x.toNat : Int) = xi := ⟨_, rfl⟩
   rw [hxi] at sid hlk
   clear hv hfar hl hok hw hob hT hap hU hX hD hx hO hV same hg eh hUl hbl bW hq eq e hx0 hxi
   have hk4 : k = 1 ∨ k = 2 ∨ k = 3 := by omega
   rcases hk4 with rfl | rfl | rfl
   all_goals
    subst hkI
    go_enter Tryz.func113, Tryz.ntmps113
    go_wp2_with fail
    refine sid.mono ?_
    rintro e w1 ⟨rfl, hw1⟩
    rw [hw1]
    clear hw1 w1
    go_wp2_with fail
    refine bq.mono ?_
    rintro e w1 ⟨rfl, hw1⟩
    rw [hw1]
    clear hw1 w1
    go_wp2
    refine bodyPost_ret (results_tmp2 rfl _ _ _) rfl ?_
    exact ⟨_, _, rfl, rfl, rfl, FF.out⟩
 | none =>
  have eh : st.has kI x = false := by unfold St.has; rw [hg]; rfl
  rw [eh] at hlk
  have hv0 := hgone hg
  subst hv0
  clear hthere hgone
  by_cases h0 : x = 0
  ·have e : sput st d kI body = ((st, d), 0, 13) := by unfold sput; rw [hx, hg]; simp [h0]
   have FF : Hid _ := same 0 13 e
   rw [e] at FF ⊢
   rw [hx0.2 h0] at sid hlk
   clear hv hfar hl hok hw hob hT hap hU hX hD hx hV same hg eh hUl hbl bW e hx0 h0
   have hk4 : k = 1 ∨ k = 2 ∨ k = 3 := by omega
   rcases hk4 with rfl | rfl | rfl
   all_goals
    subst hkI
    go_enter Tryz.func113, Tryz.ntmps113
    go_wp2_with fail
    refine sid.mono ?_
    rintro e w1 ⟨rfl, hw1⟩
    rw [hw1]
    clear hw1 w1
    go_wp2
    refine bodyPost_ret (results_tmp2 rfl _ _ _) rfl ?_
    exact ⟨_, _, rfl, rfl, rfl, FF.out⟩
  ·have e : sput st d kI body = (((sapp st d (kI, body)).1, (sapp st d (kI, body)).2.1), if (sapp st d (kI, body)).2.2 = 0 then x else 0, (sapp st d (kI, body)).2.2) := by unfold sput; rw [hx, hg]; simp [h0]
   have had := add_at (hD.below bW) hV hfar hl hn kI (by omega) (by omega) hok hw (λ w2 S hSU hS2 hV2 hl2 =>
    keep_any hS2 (λ i q => .inl q) hl2 kI hk3 hV2 (λ p m c2 e h0 => by cases e; exact .inr ⟨h0, p, rfl, rfl⟩) (by rw [hx]; exact hg) hob)
   obtain ⟨Z, hZ⟩ : ∃ Z, sput st d kI body = Z := ⟨_, rfl⟩
   have EZ : Hid (Z = (((sapp st d (kI, body)).1, (sapp st d (kI, body)).2.1), if (sapp st d (kI, body)).2.2 = 0 then x else 0, (sapp st d (kI, body)).2.2)) := hZ.symm.trans e
   rw [hZ]
   have n0 : ¬ (x.toNat : Int) = 0 := λ q => h0 (hx0.1 q)
   have REG : Hid (Below w.heap.size w W /\ ∀ i, U i ∨ Blk a n i -> i < w.heap.size) := ⟨bW, λ i q => q.elim (hUl i) (hbl i)⟩
   obtain ⟨xi, hxi⟩ : ∃ xi, (x.toNat : Int) = xi := ⟨_, rfl⟩
   rw [hxi] at sid hlk n0
   have m1 : (xi == 0) = false := by simpa using n0
   have HX : Hid ((x.toNat : Int) = xi) := hxi
   clear hv hfar hl hn hok hw hob hT hap hU hX hD hx hV same hg eh hUl hbl bW e hx0 h0 hxi n0 hZ
   have hk4 : k = 1 ∨ k = 2 ∨ k = 3 := by omega
   rcases hk4 with rfl | rfl | rfl
   all_goals
    subst hkI
    go_enter Tryz.func113, Tryz.ntmps113
    go_wp2_with fail
    refine sid.mono ?_
    rintro e w1 ⟨rfl, hw1⟩
    rw [hw1]
    clear hw1 w1
    go_wp2_with fail
    refine had.mono ?_
    rintro e w2 ⟨r2, rfl, R2⟩
    have FF : Hid _ := And.intro R2.out.1 (And.intro (Duo.regrown REG.out.1 R2.out.2.1 R2.out.2.2.size REG.out.2) ((Turned.ofBelow (S := U) REG.out.1).trans R2.out.2.2 (λ _ _ q => q)))
    clear R2
    by_cases hz : r2 = 0
    ·subst hz
     go_wp2
     refine bodyPost_ret (results_tmp2 rfl _ _ _) rfl ?_
     exact ⟨_, _, rfl, by rw [EZ.out]; exact ⟨by rw [if_pos FF.out.1.symm]; exact HX.out.symm, FF.out.1, FF.out.2⟩⟩
    ·have m0 : (r2 != 0) = true := by simpa using hz
     go_wp2
     refine bodyPost_ret (results_tmp2 rfl _ _ _) rfl ?_
     exact ⟨_, _, rfl, by rw [EZ.out]; exact ⟨by rw [if_neg (λ q => hz (FF.out.1.trans q))]; rfl, FF.out.1, FF.out.2⟩⟩
end
end Go.Proofs.YtjlokpjflgbgdaaGreat
