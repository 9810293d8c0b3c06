/-
  The reader of bytes (object.reader): take, number, count, text, each by a contract over what is left of the bytes. No condition.
-/
import Derived.Test.YtadjcmekpcimjaaNum
namespace Go.Proofs.Ytadjcmekpcimjaa
open Go.RowKit

/-- Two cells in a block of their own. -/
def Box (w : World) (B : Nat) (t : TypeId) (x y : Value) : Prop := w.heap[B]? = some (.cells #[x, y] t (0, 0))
section
variable {w w' : World} {B : Nat} {t : TypeId} {x y : Value}
theorem Box.lt (h : Box w B t x y) : B < w.heap.size := (Array.getElem?_eq_some_iff.1 h).1
theorem Box.below (h : Box w B t x y) (hb : Below w.heap.size w w') : Box w' B t x y := (hb.block B h.lt).trans h
theorem Box.turned {S : Nat → Prop} (h : Box w B t x y) (ht : Turned S w w') (hS : ¬ S B) : Box w' B t x y := (ht.block B h.lt hS).trans h
theorem Box.cells (h : Box w B t x y) : w.cell? ⟨B, 0, none⟩ = some x ∧ w.cell? ⟨B, 1, none⟩ = some y := by
  unfold Box at h
  simp [World.cell?, h]
theorem Box.thaw (h : Box w B t x y) : w.frozen? ⟨B, 0, none⟩ = false ∧ w.frozen? ⟨B, 1, none⟩ = false := by
  unfold Box at h
  simp [World.frozen?, h]
theorem Box.new (w : World) (t : TypeId) (x y : Value) : Box (w.alloc (.cells #[x, y] t)) w.heap.size t x y := by
  unfold Box World.alloc
  simp
theorem Box.put (h : Box w B t x y) (x' y' : Value) : Box ((w.setCell ⟨B, 0, none⟩ x').setCell ⟨B, 1, none⟩ y') B t x' y' := by
  unfold Box at h ⊢
  simp [World.setCell, Array.getElem?_modify, h]
theorem Box.put0 (h : Box w B t x y) (x' : Value) : Box (w.setCell ⟨B, 0, none⟩ x') B t x' y := by
  unfold Box at h ⊢
  simp [World.setCell, Array.getElem?_modify, h]
end

theorem BAt.turned {S : Nat → Prop} {w w' : World} {a : Option Addr} {n c : Nat} {bs : Bs} (h : BAt w (.slice a n c) bs) (ht : Turned S w w') (hS : 0 < n → ∀ p, a = some p → ¬ S p.block) : BAt w' (.slice a n c) bs := by
  obtain ⟨ao, c', e, h1, h2, h3⟩ := h
  cases e
  exact ⟨a, c, rfl, h1, h2, h3.turned ht hS⟩

/-- A reader at a block: what is left lies in a block ahead of it. -/
structure Rdr (w : World) (R : Nat) (r : Rs) : Prop where
  at_ : ∃ a c, Box w R 72 (.slice a r.1.length c) (.bool r.2) ∧ ∀ u, Below R w u → BAt u (.slice a r.1.length c) r.1

theorem Rdr.lt {w : World} {R : Nat} {r : Rs} (h : Rdr w R r) : R < w.heap.size := by
  obtain ⟨a, c, h1, _⟩ := h.at_
  exact h1.lt
theorem Rdr.over {w w' : World} {R : Nat} {r : Rs} (h : Rdr w R r) (hb : Below (R + 1) w w') : Rdr w' R r := by
  obtain ⟨a, c, h1, h2⟩ := h.at_
  exact ⟨a, c, (hb.block R (Nat.lt_succ_self R)).trans h1, fun u hu => h2 u ((hb.mono (Nat.le_succ R)).trans hu)⟩
theorem Rdr.below {w w' : World} {R : Nat} {r : Rs} (h : Rdr w R r) (hb : Below w.heap.size w w') : Rdr w' R r := h.over (hb.mono h.lt)
theorem Rdr.new {w : World} {a : Option Addr} {n c : Nat} {bs : Bs} (h : BAt w (.slice a n c) bs) (hl : bs.length = n) : Rdr (w.alloc (.cells #[.slice a n c, .bool false] 72)) w.heap.size (bs, false) := by
  subst hl
  exact ⟨a, c, Box.new _ _ _ _, fun u hu => h.below ((bz1 w _).trans hu)⟩

theorem turn_at {w : World} {R : Nat} (h : R < w.heap.size) {w' : World} (ht : Turned (fun i => i = R) w w') : Below R w w' := ht.below (Nat.le_of_lt h) (fun k hk q => by have q' : k = R := q; omega)

set_option maxHeartbeats 1600000 in
set_option maxRecDepth 100000 in
theorem take_short {w : World} {R : Nat} {r : Rs} (h : Rdr w R r) (k : Nat) (hk : r.1.length < k) :
    Calls Try.prog 37 #[.pointer (some ⟨R, 0, none⟩), .int .i64 (k : Int)] w fun e w' => e = .returned (.slice none 0 0) ∧ Hid (Rdr w' R ([], true) ∧ Turned (fun i => i = R) w w') := by
  obtain ⟨a, c, h1, h2⟩ := h.at_
  obtain ⟨n, hn⟩ : ∃ n, r.1.length = n := ⟨_, rfl⟩
  rw [hn] at h1 hk
  have q : (n : Int) < (k : Int) := by omega
  obtain ⟨x0, x1⟩ := h1.cells
  obtain ⟨f0, f1⟩ := h1.thaw
  have H : Hid (Box w R 72 (.slice a n c) (.bool r.2)) := h1
  clear h h1 h2 hn
  go_enter Try.func37, Try.ntmps37
  go_wp2
  go_ret
  refine ⟨rfl, ⟨none, 0, H.out.put _ _, fun u _ => ⟨none, 0, rfl, Nat.le_refl _, by omega, RdG.nil _ _ _⟩⟩, ?_⟩
  exact ((Turned.refl (fun i => i = R) w).setCell (p := ⟨R, 0, none⟩) (.inl (show R = R from rfl)) _).setCell (p := ⟨R, 1, none⟩) (.inl (show R = R from rfl)) _

set_option maxHeartbeats 1600000 in
set_option maxRecDepth 100000 in
theorem take_done {w : World} {R : Nat} {r : Rs} (h : Rdr w R r) (k : Nat) (hk : ¬ r.1.length < k) :
    Calls Try.prog 37 #[.pointer (some ⟨R, 0, none⟩), .int .i64 (k : Int)] w fun e w' => ∃ a c, e = .returned (.slice a k c) ∧ Hid (BAt w' (.slice a k c) (r.1.take k) ∧ Rdr w' R (r.1.drop k, r.2) ∧ Turned (fun i => i = R) w w') := by
  obtain ⟨a, c, h1, h2⟩ := h.at_
  obtain ⟨n, hn⟩ : ∃ n, r.1.length = n := ⟨_, rfl⟩
  rw [hn] at h1 h2 hk
  have q : decide ((n : Int) < (k : Int)) = false := by rw [decide_eq_false_iff_not]; omega
  have o : (n ≤ c ∧ c ≤ 9223372036854775807) ∧ ∀ u, Below R w u → RdG encB u a r.1 := by
    constructor
    · obtain ⟨ao, c', e, o1, o2, _⟩ := h2 w (Below.refl _ _)
      rw [hn] at e o1
      cases e
      exact ⟨o1, o2⟩
    · intro u hu
      obtain ⟨ao, c', e, _, _, o3⟩ := h2 u hu
      cases e
      exact o3
  obtain ⟨a2, c2, s2, p1, p2, r2⟩ := sliceB_l (ao := a) (n := n) (c := c) (k := k) o.1.1 (by omega)
  obtain ⟨a3, c3, s3, p3, p4, r3⟩ := sliceB_h (ao := a) (n := n) (c := c) (k := k) o.1.1 (by omega)
  obtain ⟨x0, x1⟩ := h1.cells
  obtain ⟨f0, f1⟩ := h1.thaw
  have l1 : (r.1.take k).length = k := by rw [List.length_take]; omega
  have l2 : (r.1.drop k).length = n - k := by rw [List.length_drop]; omega
  have H : Hid (Box w R 72 (.slice a n c) (.bool r.2) ∧ (∀ u, Below R w u → BAt u (.slice a3 k c3) (r.1.take k)) ∧ (∀ u, Below R w u → BAt u (.slice a2 (n - k) c2) (r.1.drop k)) ∧ (r.1.drop k).length = n - k) := by
    have o2 := o.1.2
    refine ⟨h1, fun u hu => ⟨a3, c3, by rw [l1], by rw [l1]; exact p3, by omega, r3 u _ (o.2 u hu)⟩, fun u hu => ⟨a2, c2, by rw [l2], by rw [l2]; exact p1, by omega, r2 u _ hn (o.2 u hu)⟩, l2⟩
  clear h h1 h2 hn o p1 p2 p3 p4 r2 r3 l1 l2
  go_enter Try.func37, Try.ntmps37
  go_wp2
  go_ret
  have ht : Turned (fun i => i = R) w (w.setCell ⟨R, 0, none⟩ (.slice a2 (n - k) c2)) := (Turned.refl (fun i => i = R) w).setCell (p := ⟨R, 0, none⟩) (.inl (show R = R from rfl)) _
  have hb := turn_at H.out.1.lt ht
  refine ⟨a3, c3, rfl, H.out.2.1 _ hb, ⟨a2, c2, ?_⟩, ht⟩
  simp only
  rw [H.out.2.2.2]
  exact ⟨H.out.1.put0 _, fun u hu => H.out.2.2.1 u (hb.trans hu)⟩

/-- take. -/
theorem take_any {w : World} {R : Nat} {r : Rs} (h : Rdr w R r) (k : Nat) :
    Calls Try.prog 37 #[.pointer (some ⟨R, 0, none⟩), .int .i64 (k : Int)] w fun e w' => ∃ a n c, e = .returned (.slice a n c) ∧ Hid (n = (rtake k r).1.length ∧ BAt w' (.slice a n c) (rtake k r).1 ∧ Rdr w' R (rtake k r).2 ∧ Turned (fun i => i = R) w w') := by
  by_cases hk : r.1.length < k
  · have e : rtake k r = ([], ([], true)) := by unfold rtake; rw [if_pos hk]
    rw [e]
    refine (take_short h k hk).mono ?_
    rintro e w' ⟨rfl, J⟩
    exact ⟨none, 0, 0, rfl, rfl, ⟨none, 0, rfl, Nat.le_refl _, by omega, RdG.nil _ _ _⟩, J.out.1, J.out.2⟩
  · have e : rtake k r = (r.1.take k, (r.1.drop k, r.2)) := by unfold rtake; rw [if_neg hk]
    rw [e]
    refine (take_done h k hk).mono ?_
    rintro e w' ⟨a, c, rfl, J⟩
    exact ⟨a, k, c, rfl, by rw [List.length_take]; omega, J.out.1, J.out.2.1, J.out.2.2⟩

set_option maxHeartbeats 1600000 in
set_option maxRecDepth 100000 in
/-- number. -/
theorem num_any {w : World} {R : Nat} {r : Rs} (h : Rdr w R r) (v : Nat) (r' : Rs) (hv : rnum r = (v, r')) :
    Calls Try.prog 29 #[.pointer (some ⟨R, 0, none⟩)] w fun e w' => e = .returned (.int .u64 (v : Int)) ∧ Hid (Rdr w' R r' ∧ Turned (fun i => i = R) w w') := by
  have ht := take_any h 8
  have hle := rtake_len 8 r
  unfold rnum at hv
  obtain ⟨t, ht0⟩ : ∃ t, rtake 8 r = t := ⟨_, rfl⟩
  rw [ht0] at ht hv hle
  obtain ⟨hv1, rfl⟩ : val t.1 = v ∧ t.2 = r' := by simpa using hv
  clear hv ht0 h
  go_enter Try.func29, Try.ntmps29
  go_wp2_with fail
  refine ht.mono ?_
  rintro e w1 ⟨a, n, c, rfl, J⟩
  have hn := numberOf_any J.out.2.1 J.out.1.symm (by rw [J.out.1]; exact hle)
  rw [hv1] at hn
  clear ht hv1
  go_wp2_with fail
  refine hn.mono ?_
  rintro e w2 ⟨rfl, rfl⟩
  go_wp2
  go_ret
  exact ⟨rfl, J.out.2.2.1, J.out.2.2.2⟩

set_option maxHeartbeats 1600000 in
set_option maxRecDepth 100000 in
/-- count. -/
theorem cnt_any {w : World} {R : Nat} {r : Rs} (h : Rdr w R r) (v : Nat) (r' : Rs) (hv : rcnt r = (v, r')) :
    Calls Try.prog 32 #[.pointer (some ⟨R, 0, none⟩)] w fun e w' => e = .returned (.int .i64 (v : Int)) ∧ Hid (Rdr w' R r' ∧ Turned (fun i => i = R) w w') := by
  have ht := take_any h 1
  have hle := rtake_len 1 r
  have hv2 := rcnt_le r
  rw [hv] at hv2
  unfold rcnt at hv
  obtain ⟨t, ht0⟩ : ∃ t, rtake 1 r = t := ⟨_, rfl⟩
  rw [ht0] at ht hv hle
  obtain ⟨hv1, rfl⟩ : val t.1 = v ∧ t.2 = r' := by simpa using hv
  clear hv ht0 h
  go_enter Try.func32, Try.ntmps32
  go_wp2_with fail
  refine ht.mono ?_
  rintro e w1 ⟨a, n, c, rfl, J⟩
  have hn := numberOf_any J.out.2.1 J.out.1.symm (by rw [J.out.1]; omega)
  rw [hv1] at hn
  have hw : IntKind.i64.wrap (v : Int) = (v : Int) := by rw [IntKind.wrap_i64]; omega
  clear ht hv1
  go_wp2_with fail
  refine hn.mono ?_
  rintro e w2 ⟨rfl, rfl⟩
  go_wp2
  go_ret
  exact ⟨rfl, J.out.2.2.1, J.out.2.2.2⟩

set_option maxHeartbeats 1600000 in
set_option maxRecDepth 100000 in
/-- text. -/
theorem txt_any {w : World} {R : Nat} {r : Rs} (h : Rdr w R r) (t : ByteArray) (r' : Rs) (hv : rtxt r = (t.data.toList, r')) :
    Calls Try.prog 28 #[.pointer (some ⟨R, 0, none⟩)] w fun e w' => e = .returned (.string t) ∧ Hid (Rdr w' R r' ∧ Turned (fun i => i = R) w w') := by
  obtain ⟨n, r1, hc⟩ : ∃ n r1, rcnt r = (n, r1) := ⟨_, _, rfl⟩
  have hcn := cnt_any h n r1 hc
  unfold rtxt at hv
  rw [hc] at hv
  simp only at hv
  have HV : Hid (rtake n r1 = (t.data.toList, r')) := hv
  clear hv hc h
  go_enter Try.func28, Try.ntmps28
  go_wp2_with fail
  refine hcn.mono ?_
  rintro e w1 ⟨rfl, J⟩
  have ht := take_any J.out.1 n
  rw [HV.out] at ht
  clear hcn
  go_wp2_with fail
  refine ht.mono ?_
  rintro e w2 ⟨a, m, c, rfl, K⟩
  have hcv : (convert 23 9 (.slice a m c)).run Try.prog w2 = .ok (.string t) w2 := by
    have := conv_str K.out.2.1
    simpa using this
  clear ht
  go_wp2
  go_ret
  exact ⟨rfl, K.out.2.2.1, J.out.2.trans K.out.2.2.2 (fun _ _ q => q)⟩

end Go.Proofs.Ytadjcmekpcimjaa
