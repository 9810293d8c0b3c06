/-
  Clone of the program's disk, by a contract: a disk like it in new blocks; nothing that was there is turned. No condition.
-/
import Derived.Test.YtlhlipjbcapidaaTrim
namespace Go.Proofs.Ytlhlipjbcapidaa
open Go.RowKit Go.Maps

theorem size_of_keys {w : World} {m n : Nat} {D : DataW Value} (ho : w.ownsMap Try.prog 9 heldR m n D) {F : Fs} (hr : FRise F) (hh : ∀ x, has D (.string x) = (fget F x).isSome) : Maps.size D = F.length := by
  obtain ⟨es, hD, hpw, _⟩ := ho.entries keyedS
  obtain ⟨es', hD', hko⟩ := ho.keysOf
  obtain rfl : es = es' := by rw [hD] at hD'; simpa using hD'
  subst hD
  have := (perm_strKeys hpw (fun p hp => by obtain ⟨v, hv⟩ := hko p hp; obtain ⟨x, _, hx, _⟩ := Maps.keyOf_str Try.underlying9 hv; exact ⟨x, hx⟩) (names_nodup hr) (fun x => by rw [hh x, names_mem])).length_eq
  rw [List.length_map] at this
  rw [this]
  simp [Maps.size, strKeys]

/-- Files that are copied one by one: those that are no longer to come lie there. -/
structure Copied (B : Nat) (wr : World) (m : Nat) (F : Fs) (left : Lit → Bool) (cnt : Nat) (f : Bs → Option Value) (c : Nat) : Prop where
  map : MapIs wr m f c
  few : c + cnt ≤ F.length
  til : ∀ x, left (.string x) = true → f x = none
  no : ∀ x, fget F x = none → f x = none
  yes : ∀ x bs, fget F x = some bs → left (.string x) = false → ∃ v, f x = some v ∧ OwnB wr v bs
  apart : ∀ x y u v g, x ≠ y → f x = some u → f y = some v → u.ownBlock = some g → v.ownBlock ≠ some g
  own : ∀ x v g, f x = some v → v.ownBlock = some g → B ≤ g ∧ g < wr.heap.size

theorem Copied.turned {B : Nat} {wr w' : World} {m : Nat} {F : Fs} {left : Lit → Bool} {cnt : Nat} {f : Bs → Option Value} {c : Nat} (h : Copied B wr m F left cnt f c) {T : Nat → Prop} (ht : Turned T wr w') (hm : ¬ T m) (hf : ∀ x v g, f x = some v → v.ownBlock = some g → ¬ T g) : Copied B w' m F left cnt f c where
  map := h.map.turned ht hm
  few := h.few
  til := h.til
  no := h.no
  yes := fun x bs hx hl => by
    obtain ⟨v, hv, ho⟩ := h.yes x bs hx hl
    exact ⟨v, hv, ho.turned ht (fun g hg => hf x v g hv hg)⟩
  apart := h.apart
  own := fun x v g hx hg => ⟨(h.own x v g hx hg).1, Nat.lt_of_lt_of_le (h.own x v g hx hg).2 ht.size⟩

section
variable {S : Nat → Prop} {w : World} {b m : Nat} {f : Bs → Option Value} {a k : Int} {d : Dk}

theorem sameKey_str (x y : Bs) : (Lit.string x).sameKey (.string y) = decide (x = y) := by
  by_cases h : x = y
  · subst h; simp [Lit.sameKey]
  · rw [Maps.sameKey_ne (key_ne h)]; simp [h]

/-- One file more is copied. -/
theorem Copied.step {B : Nat} {wr w' : World} {m2 : Nat} {F : Fs} {left : Lit → Bool} {cnt cnt' : Nat} {f2 : Bs → Option Value} {c : Nat} (h : Copied B wr m2 F left cnt f2 c) {x bs : Bs} (hx : fget F x = some bs) (hlt : cnt' < cnt) {v : Value} (hv : OwnB wr v bs) (hvB : ∀ g, v.ownBlock = some g → B ≤ g)
    (hap : ∀ y u g, f2 y = some u → u.ownBlock = some g → v.ownBlock ≠ some g) (hg : wr.grownBy w' (some m2)) (hm : MapIs w' m2 (fput f2 x v) (c + 1)) :
    Copied B w' m2 F (fun z => left z && !z.sameKey (.string x)) cnt' (fput f2 x v) (c + 1) := by
  have ht : Turned (fun i => i = m2) wr w' := grown_turned hg
  have ne_m : ∀ {u : Value} {cs : Bs} {g : Nat}, OwnB wr u cs → u.ownBlock = some g → g ≠ m2 := by
    intro u cs g ho hg e
    obtain ⟨cur, hc⟩ := ho.block hg
    obtain ⟨es, cl, hmb⟩ := h.map.block
    rw [e, hmb] at hc
    cases hc
  refine ⟨hm, by have := h.few; omega, ?_, ?_, ?_, ?_, ?_⟩
  · intro y hy
    simp only [Bool.and_eq_true, Bool.not_eq_true', sameKey_str, decide_eq_false_iff_not] at hy
    unfold fput
    rw [if_neg hy.2]
    exact h.til y hy.1
  · intro y hy
    unfold fput
    have e : y ≠ x := fun e => by rw [e, hx] at hy; cases hy
    rw [if_neg e]
    exact h.no y hy
  · intro y cs hy hly
    unfold fput
    by_cases e : y = x
    · rw [if_pos e]
      rw [e, hx] at hy
      cases hy
      exact ⟨v, rfl, hv.turned ht (fun g hg => ne_m hv hg)⟩
    · rw [if_neg e]
      have hly' : left (.string y) = false := by
        simp only [sameKey_str, e, decide_false, Bool.not_false, Bool.and_true] at hly
        exact hly
      obtain ⟨u, hu, ho⟩ := h.yes y cs hy hly'
      exact ⟨u, hu, ho.turned ht (fun g hg => ne_m ho hg)⟩
  · intro y z u u' g hyz hy hz hu
    unfold fput at hy hz
    by_cases e1 : y = x
    · rw [if_pos e1] at hy
      cases hy
      rw [if_neg (fun q => hyz (by rw [e1, q]))] at hz
      intro q
      exact hap z u' g hz q hu
    · rw [if_neg e1] at hy
      by_cases e2 : z = x
      · rw [if_pos e2] at hz
        cases hz
        exact hap y u g hy hu
      · rw [if_neg e2] at hz
        exact h.apart y z u u' g hyz hy hz hu
  · intro y u g hy hu
    unfold fput at hy
    by_cases e : y = x
    · rw [if_pos e] at hy
      cases hy
      exact ⟨hvB g hu, Nat.lt_of_lt_of_le (hv.lt g hu).2 ht.size⟩
    · rw [if_neg e] at hy
      exact ⟨(h.own y u g hy hu).1, Nat.lt_of_lt_of_le (h.own y u g hy hu).2 ht.size⟩

/-- What a round of the copying stands on. -/
structure Twin (w wr : World) (b m c m2 r : Nat) (f : Bs → Option Value) (a k : Int) (d : Dk) (S : Nat → Prop) (D : DataW Value) (left : Lit → Bool) (cnt : Nat) (f2 : Bs → Option Value) (n2 : Nat) : Prop where
  disk : DiskM wr b m f a k d S
  rng : wr.ranges Try.prog 9 heldR m r d.files.length D left cnt
  box : wr.heap[c]? = some (.cells #[.map (some m2), .int .i64 (d.writes : Int), .bool d.dead, .bool d.armed, .int .i64 a, .int .i64 k] 58 (0, 0))
  cop : Copied w.heap.size wr m2 d.files left cnt f2 n2
  bel : Below w.heap.size w wr
  far : w.heap.size ≤ c ∧ w.heap.size ≤ m2 ∧ w.heap.size ≤ r ∧ c ≠ m2 ∧ r ≠ c ∧ r ≠ m2

theorem twin_start (h : DiskM w b m f a k d S) {D : DataW Value} (w3 : World) {w4 : World} (hw3 : w3 = (w.alloc (.cells #[.map (some (w.heap.size + 1)), .int .i64 (d.writes : Int), .bool d.dead, .bool d.armed, .int .i64 a, .int .i64 k] 58)).alloc (.map #[] 0))
    (hg : w3.grownBy w4 none) (hrg : w4.ranges Try.prog 9 heldR m w3.heap.size d.files.length D (has D) (Maps.size D)) (hsz : Maps.size D = d.files.length) (hh : ∀ x, has D (.string x) = (f x).isSome) :
    Twin w w4 b m w.heap.size (w.heap.size + 1) (w.heap.size + 2) f a k d S D (has D) (Maps.size D) (fun _ => none) 0 := by
  have sz3 : w3.heap.size = w.heap.size + 2 := by rw [hw3]; simp
  have B3 : Below w.heap.size w w3 := by rw [hw3]; exact bz2 _ _ _
  have B4 : Below w3.heap.size w3 w4 := ⟨hg.os, hg.tape, hg.output, hg.size, fun i hi => hg.block i hi (by simp)⟩
  have B : Below w.heap.size w w4 := B3.trans (B4.mono B3.size)
  rw [sz3] at hrg
  refine ⟨DiskX.below h B, hrg, ?_, ⟨?_, by omega, fun _ _ => rfl, fun _ _ => rfl, ?_, fun _ _ _ _ _ _ q => (by cases q), fun _ _ _ q => (by cases q)⟩, B, ⟨by omega, by omega, by omega, by omega, by omega, by omega⟩⟩
  · rw [hg.block _ (by omega) (by simp), hw3]
    exact (Below.heap_alloc _ _ w.heap.size (by simp)).trans (heap_alloc_new w _)
  · have hm : w4.heap[w.heap.size + 1]? = some (.map #[] 0) := by
      rw [hg.block _ (by omega) (by simp), hw3]
      have := heap_alloc_new (w.alloc (.cells #[.map (some (w.heap.size + 1)), .int .i64 (d.writes : Int), .bool d.dead, .bool d.armed, .int .i64 a, .int .i64 k] 58)) (.map #[] 0)
      rw [show (w.alloc (.cells #[.map (some (w.heap.size + 1)), .int .i64 (d.writes : Int), .bool d.dead, .bool d.armed, .int .i64 a, .int .i64 k] 58)).heap.size = w.heap.size + 1 by simp] at this
      exact this
    exact (files_none w4 (w.heap.size + 1) (fun _ => False) hm).map
  · intro x bs hx hl
    have e := h.some_iff x
    rw [hh x, e, hx] at hl
    cases hl

theorem twin_end {wr : World} {c m2 r : Nat} {D : DataW Value} {left : Lit → Bool} {cnt : Nat} {f2 : Bs → Option Value} {n2 : Nat} (T : Twin w wr b m c m2 r f a k d S D left cnt f2 n2) (hk : d.ok) (hl : ∀ kl, left kl = false) : DiskAt wr c d (fun i => w.heap.size ≤ i ∧ i < wr.heap.size) := by
  refine ⟨m2, f2, a, k, ⟨T.box, T.disk.cut, ⟨?_, T.cop.no, fun x bs hx => ?_, T.cop.apart, T.cop.own⟩, ⟨⟨T.far.1, (Array.getElem?_eq_some_iff.1 T.box).1⟩, ⟨T.far.2.1, T.cop.map.lt⟩⟩, fun i hi => hi.2⟩⟩
  · have hm := T.cop.map
    have e : n2 = d.files.length := by
      obtain ⟨D2, ho, hs, hh, _⟩ := T.cop.map
      rw [← hs]
      refine size_of_keys ho hk.rise (fun x => ?_)
      rw [hh x]
      cases e : fget d.files x with
      | none => rw [T.cop.no x e]; rfl
      | some bs =>
        obtain ⟨v, hv, _⟩ := T.cop.yes x bs e (hl _)
        rw [hv]; rfl
    rw [← e]
    exact hm
  · obtain ⟨v, hv, ho⟩ := T.cop.yes x bs hx (hl _)
    exact ⟨v, hv, .inr ho⟩

theorem BAt.drew {w : World} {v : Value} {bs : Bs} (h : BAt w v bs) : BAt w.drew v bs := h

section
variable {wr : World} {c m2 r : Nat} {D : DataW Value} {left : Lit → Bool} {cnt : Nat} {f2 : Bs → Option Value} {n2 : Nat}

theorem Twin.entry (T : Twin w wr b m c m2 r f a k d S D left cnt f2 n2) (hh : ∀ x, Maps.has D (.string x) = (f x).isSome) (ha : ∀ x v, f x = some v → ∀ zd, D.atKey (.string x) zd = .held v) {x : Bs} {v : Value} {yd : DataW Value} {yp : List MemPlace} (hv : heldR v = some (yd, yp)) (hat : ∀ zd, D.atKey (.string x) zd = yd) :
    ∃ bs, fget d.files x = some bs ∧ f x = some v ∧ OwnB wr v bs := by
  have e0 : DataW.held v = yd := congrArg Prod.fst (Option.some.inj hv)
  have h1 : (f x).isSome = true := by rw [← hh x]; exact has_true_of_atKey hat
  rcases T.disk.file x with ⟨_, q⟩ | ⟨bs, u, q1, q2, q3⟩
  · rw [q] at h1; cases h1
  · have e1 := (ha x u q2 .nil).symm.trans (hat .nil)
    rw [← e0] at e1
    cases e1
    exact ⟨bs, q1, q2, q3.elim False.elim id⟩

theorem Twin.far_row (T : Twin w wr b m c m2 r f a k d S D left cnt f2 n2) (hS : ∀ i, S i → i < w.heap.size) {x : Bs} {v : Value} {g : Nat} (hx : f x = some v) (hg : v.ownBlock = some g) (e : g = r) : False := by
  have := hS g (T.disk.files.own x v g hx hg)
  have := T.far.2.2.1
  omega

theorem Twin.row (T : Twin w wr b m c m2 r f a k d S D left cnt f2 n2) {x : Bs} {v : Value} (hx : f2 x = some v) : ∃ bs, OwnB wr v bs := by
  cases e : fget d.files x with
  | none => rw [T.cop.no x e] at hx; cases hx
  | some bs =>
    have hl : left (.string x) = false := by
      cases q : left (.string x) with
      | false => rfl
      | true => rw [T.cop.til x q] at hx; cases hx
    obtain ⟨u, hu, ho⟩ := T.cop.yes x bs e hl
    rw [hu] at hx
    cases hx
    exact ⟨bs, ho⟩

theorem Twin.row_ne (T : Twin w wr b m c m2 r f a k d S D left cnt f2 n2) {x : Bs} {v : Value} {g : Nat} (hx : f2 x = some v) (hg : v.ownBlock = some g) : g ≠ r ∧ g ≠ c ∧ g ≠ m2 := by
  obtain ⟨bs, ho⟩ := T.row hx
  obtain ⟨cur, hc⟩ := ho.block hg
  refine ⟨fun e => ?_, fun e => ?_, fun e => ?_⟩
  · obtain ⟨es, clock, since, seen, c0, _, _, _, _, hr, _⟩ := T.rng
    rw [e, hr] at hc
    cases hc
  · rw [e, T.box] at hc
    cases hc
  · obtain ⟨es, cl, hm⟩ := T.cop.map.block
    rw [e, hm] at hc
    cases hc

theorem Twin.next (T : Twin w wr b m c m2 r f a k d S D left cnt f2 n2) {w2 : World} (_hS : ∀ i, S i → i < w.heap.size) (hg : wr.grownBy w2 (some r)) :
    w2.heap[c]? = some (.cells #[.map (some m2), .int .i64 (d.writes : Int), .bool d.dead, .bool d.armed, .int .i64 a, .int .i64 k] 58 (0, 0)) ∧ MapIs w2 m2 f2 n2 := by
  have t := grown_turned hg
  exact ⟨(t.block c (Array.getElem?_eq_some_iff.1 T.box).1 (fun e => T.far.2.2.2.2.1 e.symm)).trans T.box, T.cop.map.turned t (fun e => T.far.2.2.2.2.2 e.symm)⟩

theorem grown_of_below {w w' : World} (h : Below w.heap.size w w') : w.grownBy w' none := ⟨h.os, h.tape, h.output, h.size, fun i hi _ => h.block i hi⟩

theorem Twin.step (T : Twin w wr b m c m2 r f a k d S D left cnt f2 n2) (hS : ∀ i, S i → i < w.heap.size) {w2 w3 w4 : World} {cnt2 : Nat} {x bs : Bs} {v3 : Value} (hg2 : wr.grownBy w2 (some r)) (hrg2 : w2.ranges Try.prog 9 heldR m r d.files.length D (fun z => left z && !z.sameKey (.string x)) cnt2) (hlt : cnt2 < cnt) (hx : fget d.files x = some bs)
    (B3 : Below w2.heap.size w2 w3) (O3 : OwnG encB 5 w3 w2.heap.size v3 bs) (hg4 : w3.grownBy w4 (some m2)) (hm4 : MapIs w4 m2 (fput f2 x v3) (n2 + 1)) :
    Twin w w4 b m c m2 r f a k d S D (fun z => left z && !z.sameKey (.string x)) cnt2 (fput f2 x v3) (n2 + 1) := by
  have t2 := grown_turned hg2
  have t4 := grown_turned hg4
  have hmS := T.disk.mine.2
  have hm2 : m2 ≠ m := fun e => by have := hS m hmS; have := T.far.2.1; omega
  have hrS : ∀ i, S i → ¬ i = r := fun i hi e => by have := hS i hi; have := T.far.2.2.1; omega
  have hmS2 : ∀ i, S i → ¬ i = m2 := fun i hi e => by have := hS i hi; have := T.far.2.1; omega
  have s2 : w.heap.size ≤ w2.heap.size := Nat.le_trans T.bel.size hg2.size
  refine ⟨((T.disk.stays t2 hrS).below B3).stays t4 hmS2, (hrg2.kept (grown_of_below B3) (by simp) (by simp)).kept hg4 (by simpa using fun e => hm2 e.symm) (by simpa using T.far.2.2.2.2.2), ?_, ?_, ?_, T.far⟩
  · rw [t4.block c (Nat.lt_of_lt_of_le (Array.getElem?_eq_some_iff.1 (T.next hS hg2).1).1 B3.size) T.far.2.2.2.1, B3.block c (Array.getElem?_eq_some_iff.1 (T.next hS hg2).1).1]
    exact (T.next hS hg2).1
  · have c3 := (T.cop.turned t2 (fun e => T.far.2.2.2.2.2 e.symm) (fun x v g hx hg e => (T.row_ne hx hg).1 e)).turned (Turned.ofBelow (S := fun _ => False) B3) (fun q => q) (fun _ _ _ _ _ q => q)
    refine c3.step hx hlt (OwnG.low O3 (Nat.zero_le _)) (fun g hg => Nat.le_trans s2 (O3.lt g hg).1) (fun y u g hy hu q => ?_) hg4 hm4
    have h1 := (T.cop.own y u g hy hu).2
    have h2 := (O3.lt g q).1
    have h3 := hg2.size
    omega
  · have b2 : Below w.heap.size w w2 := T.bel.trans (t2.below T.bel.size (fun i hi e => by have := T.far.2.2.1; omega))
    have b3 : Below w.heap.size w w3 := b2.trans (B3.mono s2)
    exact b3.trans (t4.below b3.size (fun i hi e => by have := T.far.2.1; omega))
end

set_option maxHeartbeats 1600000 in
set_option maxRecDepth 100000 in
theorem clone_walk (h : DiskM w b m f a k d S) (hk : d.ok) (D : DataW Value) (ho : w.ownsMap Try.prog 9 heldR m d.files.length D) (hsz : Maps.size D = d.files.length) (hh : ∀ x, Maps.has D (.string x) = (f x).isSome) (ha : ∀ x v, f x = some v → ∀ zd, D.atKey (.string x) zd = .held v) :
    Calls Try.prog 34 #[.pointer (some ⟨b, 0, none⟩)] w fun e w' => ∃ c, e = .returned (.pointer (some ⟨c, 0, none⟩)) ∧ DiskAt w' c d (fun i => w.heap.size ≤ i ∧ i < w'.heap.size) ∧ Below w.heap.size w w' := by
  obtain ⟨c0, c1, c2, c3, c4, c5, cf⟩ := h.cell
  have hlen := h.files.map.len
  have hmk : ∀ W : World, (Instr.makeMap 54 (some (.int .i64 (d.files.length : Int)))).run Try.prog W = .ok (.map (some W.heap.size)) (W.alloc (.map #[] 0)) := by
    intro W
    simp [Instr.makeMap, asInt, asIntOf]
  obtain ⟨L, hL⟩ : ∃ L, d.files.length = L := ⟨_, rfl⟩
  rw [hL] at hlen hmk
  have hl1 := (DiskX.below h (bz1 w (.cells #[.map (some m), .int .i64 (d.writes : Int), .bool d.dead, .bool d.armed, .int .i64 a, .int .i64 k] 58))).files.map.len
  rw [hL] at hl1
  have H : Hid _ := h
  have lb := h.lt_b
  clear h cf
  go_enter Try.func34, Try.ntmps34
  have O3 := (ho.alloc (.cells #[.map (some (w.heap.size + 1)), .int .i64 (d.writes : Int), .bool d.dead, .bool d.armed, .int .i64 a, .int .i64 k] 58)).alloc (.map #[] 0)
  go_wp2_with (at_range; (refine wpList_range_own _ rfl _ 54 rfl 9 31 keyedS Try.underlying54 heldR m _ D rfl O3 ?_; intro w4 hrg hg4 hs4))
  go_frame
  obtain ⟨w3, hw3⟩ : ∃ w3, (w.alloc (.cells #[.map (some (w.heap.size + 1)), .int .i64 (d.writes : Int), .bool d.dead, .bool d.armed, .int .i64 a, .int .i64 k] 58)).alloc (.map #[] 0) = w3 := ⟨_, rfl⟩
  rw [hw3] at hg4 hrg hs4 ⊢
  have TW := twin_start H.out w3 hw3.symm hg4 hrg hsz hh
  rw [show w3.heap.size = w.heap.size + 2 by rw [← hw3]; simp]
  have KK : Hid (d.ok ∧ (∀ x, Maps.has D (.string x) = (f x).isSome) ∧ (∀ x v, f x = some v → ∀ zd, D.atKey (.string x) zd = .held v)) := ⟨hk, hh, ha⟩
  clear hw3 hg4 hrg hs4 O3 hlen hmk hl1 ho hsz hk hh ha c0 c1 c2 c3 c4 c5
  go_loopw [4] (fun _ wr => ∃ left cnt f2 n2, Twin w wr b m w.heap.size (w.heap.size + 1) (w.heap.size + 2) f a k d S D left cnt f2 n2) (fun _ wr => wr.rangeLeft m (w.heap.size + 2))
  case atStart => exact ⟨_, _, _, _, TW⟩
  case round =>
    obtain ⟨left, cnt, f2, n2, T⟩ := hrel
    have hrg := T.rng
    go_wp2_with (first
      | (at_next; refine wpList_next_ranges _ rfl _ rfl 9 keyedS heldR encStr id (fun key kl hk => by obtain ⟨x, hx, _⟩ := Maps.keyOf_str Try.underlying9 hk; exact ⟨x, hx⟩) (fun v _ _ => ⟨v, rfl⟩) m (w.heap.size + 2) _ _ _ _ rfl hrg ?_ ?_)
      | go_in)
    · intro hc0 hl0
      go_wp2
      go_ret
      exact ⟨w.heap.size, rfl, twin_end T KK.out.1 hl0, T.bel⟩
    · intro x c kl yd yp w2 cnt2 hkey hlk hv hat hrg2 hlt hg2 hs2 hen
      obtain ⟨x', ex, rfl, hxl⟩ := Maps.keyOf_str Try.underlying9 hkey
      obtain rfl : x = x' := encStr_inj ex
      obtain ⟨bs, hbs, hfx, hO⟩ := T.entry KK.out.2.1 KK.out.2.2 hv hat
      have T2 := T.next H.out.lt hg2
      have hB : BAt w2 c bs := OwnB.at (hO.turned (grown_turned hg2) (fun g hg e => T.far_row H.out.lt hfx hg e))
      have hbl : bs.length ≤ 262144 := KK.out.1.get hbs
      have k0 : w2.cell? ⟨w.heap.size, 0, none⟩ = some (.map (some (w.heap.size + 1))) := by simp [World.cell?, T2.1]
      have n2l : n2 ≤ 1000 := by have := T.cop.few; have := KK.out.1.few; omega
      have Z : Hid (BAt w2 c bs ∧ f2 x = none ∧ fget d.files x = some bs ∧ left (.string x) = true ∧ wr.grownBy w2 (some (w.heap.size + 2)) ∧ w2.ranges Try.prog 9 heldR m (w.heap.size + 2) d.files.length D (fun z => left z && !z.sameKey (.string x)) cnt2 ∧ cnt2 < cnt ∧ MapIs w2 (w.heap.size + 1) f2 n2 ∧ w2.heap[w.heap.size]? = some (.cells #[.map (some (w.heap.size + 1)), .int .i64 (d.writes : Int), .bool d.dead, .bool d.armed, .int .i64 a, .int .i64 k] 58 (0, 0)) ∧ x.length ≤ maxLen) := ⟨hB, T.cop.til x hlk, hbs, hlk, hg2, by rw [hL]; exact hrg2, hlt, T2.2, T2.1, hxl⟩
      have TT : Hid _ := T
      clear T T2 hB hbs hlk hg2 hrg2 hlt hO hfx hv hat hkey hrg hxl ex hs2
      go_wp2_with fail
      go_region_held3 (fun u => u.cell? ⟨w.heap.size, 0, none⟩ = some (.map (some (w.heap.size + 1)))) (go_keep)
        (first | (go_at_call 35; refine (bclone_any _ (BAt.drew Z.out.1) (by omega)).mono ?_; rintro e w3 ⟨v3, rfl, O3, B0⟩; have B1 := below_drew B0; obtain ⟨w4, hrun, hm4, hg4⟩ := (Z.out.2.2.2.2.2.2.2.1.turned (Turned.ofBelow (S := fun _ => False) B1) (fun q => q)).put ⟨x.toArray⟩ (by rw [str_size]; exact Z.out.2.2.2.2.2.2.2.2.2) (by simp only [maxLen]; omega) v3; have k1 := (B1.cell (p := ⟨w.heap.size, 0, none⟩) (Array.getElem?_eq_some_iff.1 Z.out.2.2.2.2.2.2.2.2.1).1).trans k0; have k2 := (grown_cell hg4 (p := ⟨w.heap.size, 0, none⟩) (Nat.lt_of_lt_of_le (Array.getElem?_eq_some_iff.1 Z.out.2.2.2.2.2.2.2.2.1).1 B1.size) (by simp)).trans k1; have M : Hid (Below w2.heap.size w2 w3 ∧ OwnG encB 5 w3 w2.heap.size v3 bs ∧ w3.grownBy w4 (some (w.heap.size + 1)) ∧ MapIs w4 (w.heap.size + 1) (fput f2 x v3) (n2 + 1)) := ⟨B1, O3, hg4, by rw [show (⟨x.toArray⟩ : ByteArray).data.toList = x from rfl, Z.out.2.1] at hm4; exact hm4⟩; clear B0 B1 O3 hm4 hg4))
      go_wp2
      have E := TT.out.step H.out.lt Z.out.2.2.2.2.1 Z.out.2.2.2.2.2.1 Z.out.2.2.2.2.2.2.1 Z.out.2.2.1 M.out.1 M.out.2.1 M.out.2.2.1 M.out.2.2.2
      go_roundw
      case rel => exact ⟨_, _, _, _, E⟩
      case measure => rw [E.rng.left_eq, TT.out.rng.left_eq]; exact Z.out.2.2.2.2.2.2.1

/-- disk.Clone: a disk like it, in new blocks. -/
theorem clone_at (h : DiskAt w b d S) (hk : d.ok) :
    Calls Try.prog 34 #[.pointer (some ⟨b, 0, none⟩)] w fun e w' => ∃ c, e = .returned (.pointer (some ⟨c, 0, none⟩)) ∧ DiskAt w' c d (fun i => w.heap.size ≤ i ∧ i < w'.heap.size) ∧ Below w.heap.size w w' := by
  obtain ⟨m, f, a, k, h⟩ := h
  obtain ⟨D, ho, hsz, hh, ha⟩ := h.files.map
  exact clone_walk h hk D ho hsz hh ha

end
end Go.Proofs.Ytlhlipjbcapidaa
