/-
  Several texts, laid together.
-/
import Derived.Test.YtikgbjjgpgjmfaaGreatM32
import Derived.Lib.SlBytesConst
import Derived.Test.YtikgbjjgpgjmfaaGreatVOpensMg
import Derived.Test.YtikgbjjgpgjmfaaGreatVNodeMg
import Derived.Test.YtikgbjjgpgjmfaaGreatM11

/-
  Clone of the program's disk, by a contract: a disk like it in new blocks; nothing that was there is turned. No condition.
-/
namespace Go.Proofs.YtikgbjjgpgjmfaaGreat
open Go.RowKit Go.Maps

theorem size_of_keys {w : World} {m n : Nat} {D : DataW Value} (ho : w.ownsMap Tryz.prog 9 heldR m n D) {F : Fs} (hr : FRise F) (hh : ∀ x, has D (.string x) = (fget F x).isSome) : Maps.size D = F.length := by
  obtain ⟨es, hD, hpw, _⟩ := ho.entries keyedS
  obtain ⟨es', hD', hko⟩ := ho.keysOf
  obtain rfl : es = es' := by rw [hD] at hD'; simpa using hD'
  subst hD
  have := (perm_strKeys hpw (fun p hp => by obtain ⟨v, hv⟩ := hko p hp; obtain ⟨x, _, hx, _⟩ := Maps.keyOf_str Tryz.underlying9 hv; exact ⟨x, hx⟩) (names_nodup hr) (fun x => by rw [hh x, names_mem])).length_eq
  rw [List.length_map] at this
  rw [this]
  simp [Maps.size, strKeys]

/-- Files that are copied one by one: those that are no longer to come lie there. -/
structure Copied (B : Nat) (wr : World) (m : Nat) (F : Fs) (left : Lit → Bool) (cnt : Nat) (f : Bs → Option Value) (c : Nat) : Prop where
  map : MapIs wr m f c
  few : c + cnt ≤ F.length
  til : ∀ x, left (.string x) = true → f x = none
  no : ∀ x, fget F x = none → f x = none
  yes : ∀ x bs, fget F x = some bs → left (.string x) = false → ∃ v, f x = some v ∧ OwnB wr v bs
  apart : ∀ x y u v g, x ≠ y → f x = some u → f y = some v → u.ownBlock = some g → v.ownBlock ≠ some g
  own : ∀ x v g, f x = some v → v.ownBlock = some g → B ≤ g ∧ g < wr.heap.size

theorem Copied.turned {B : Nat} {wr w' : World} {m : Nat} {F : Fs} {left : Lit → Bool} {cnt : Nat} {f : Bs → Option Value} {c : Nat} (h : Copied B wr m F left cnt f c) {T : Nat → Prop} (ht : Turned T wr w') (hm : ¬ T m) (hf : ∀ x v g, f x = some v → v.ownBlock = some g → ¬ T g) : Copied B w' m F left cnt f c where
  map := h.map.turned ht hm
  few := h.few
  til := h.til
  no := h.no
  yes := fun x bs hx hl => by
    obtain ⟨v, hv, ho⟩ := h.yes x bs hx hl
    exact ⟨v, hv, ho.turned ht (fun g hg => hf x v g hv hg)⟩
  apart := h.apart
  own := fun x v g hx hg => ⟨(h.own x v g hx hg).1, Nat.lt_of_lt_of_le (h.own x v g hx hg).2 ht.size⟩

section
variable {S : Nat → Prop} {w : World} {b m : Nat} {f : Bs → Option Value} {a k : Int} {d : Dk}

theorem sameKey_str (x y : Bs) : (Lit.string x).sameKey (.string y) = decide (x = y) := by
  by_cases h : x = y
  · subst h; simp [Lit.sameKey]
  · rw [Maps.sameKey_ne (key_ne h)]; simp [h]

/-- One file more is copied. -/
theorem Copied.step {B : Nat} {wr w' : World} {m2 : Nat} {F : Fs} {left : Lit → Bool} {cnt cnt' : Nat} {f2 : Bs → Option Value} {c : Nat} (h : Copied B wr m2 F left cnt f2 c) {x bs : Bs} (hx : fget F x = some bs) (hlt : cnt' < cnt) {v : Value} (hv : OwnB wr v bs) (hvB : ∀ g, v.ownBlock = some g → B ≤ g)
    (hap : ∀ y u g, f2 y = some u → u.ownBlock = some g → v.ownBlock ≠ some g) (hg : wr.grownBy w' (some m2)) (hm : MapIs w' m2 (fput f2 x v) (c + 1)) :
    Copied B w' m2 F (fun z => left z && !z.sameKey (.string x)) cnt' (fput f2 x v) (c + 1) := by
  have ht : Turned (fun i => i = m2) wr w' := grown_turned hg
  have ne_m : ∀ {u : Value} {cs : Bs} {g : Nat}, OwnB wr u cs → u.ownBlock = some g → g ≠ m2 := by
    intro u cs g ho hg e
    obtain ⟨cur, hc⟩ := ho.block hg
    obtain ⟨es, cl, hmb⟩ := h.map.block
    rw [e, hmb] at hc
    cases hc
  refine ⟨hm, by have := h.few; omega, ?_, ?_, ?_, ?_, ?_⟩
  · intro y hy
    simp only [Bool.and_eq_true, Bool.not_eq_true', sameKey_str, decide_eq_false_iff_not] at hy
    unfold fput
    rw [if_neg hy.2]
    exact h.til y hy.1
  · intro y hy
    unfold fput
    have e : y ≠ x := fun e => by rw [e, hx] at hy; cases hy
    rw [if_neg e]
    exact h.no y hy
  · intro y cs hy hly
    unfold fput
    by_cases e : y = x
    · rw [if_pos e]
      rw [e, hx] at hy
      cases hy
      exact ⟨v, rfl, hv.turned ht (fun g hg => ne_m hv hg)⟩
    · rw [if_neg e]
      have hly' : left (.string y) = false := by
        simp only [sameKey_str, e, decide_false, Bool.not_false, Bool.and_true] at hly
        exact hly
      obtain ⟨u, hu, ho⟩ := h.yes y cs hy hly'
      exact ⟨u, hu, ho.turned ht (fun g hg => ne_m ho hg)⟩
  · intro y z u u' g hyz hy hz hu
    unfold fput at hy hz
    by_cases e1 : y = x
    · rw [if_pos e1] at hy
      cases hy
      rw [if_neg (fun q => hyz (by rw [e1, q]))] at hz
      intro q
      exact hap z u' g hz q hu
    · rw [if_neg e1] at hy
      by_cases e2 : z = x
      · rw [if_pos e2] at hz
        cases hz
        exact hap y u g hy hu
      · rw [if_neg e2] at hz
        exact h.apart y z u u' g hyz hy hz hu
  · intro y u g hy hu
    unfold fput at hy
    by_cases e : y = x
    · rw [if_pos e] at hy
      cases hy
      exact ⟨hvB g hu, Nat.lt_of_lt_of_le (hv.lt g hu).2 ht.size⟩
    · rw [if_neg e] at hy
      exact ⟨(h.own y u g hy hu).1, Nat.lt_of_lt_of_le (h.own y u g hy hu).2 ht.size⟩

/-- What a round of the copying stands on. -/
structure Twin (w wr : World) (b m c m2 r : Nat) (f : Bs → Option Value) (a k : Int) (d : Dk) (S : Nat → Prop) (D : DataW Value) (left : Lit → Bool) (cnt : Nat) (f2 : Bs → Option Value) (n2 : Nat) : Prop where
  disk : DiskM wr b m f a k d S
  rng : wr.ranges Tryz.prog 9 heldR m r d.files.length D left cnt
  box : wr.heap[c]? = some (.cells #[.map (some m2), .int .i64 (d.writes : Int), .bool d.dead, .bool d.armed, .int .i64 a, .int .i64 k] 126 (0, 0))
  cop : Copied w.heap.size wr m2 d.files left cnt f2 n2
  bel : Below w.heap.size w wr
  far : w.heap.size ≤ c ∧ w.heap.size ≤ m2 ∧ w.heap.size ≤ r ∧ c ≠ m2 ∧ r ≠ c ∧ r ≠ m2

theorem twin_start (h : DiskM w b m f a k d S) {D : DataW Value} (w3 : World) {w4 : World} (hw3 : w3 = (w.alloc (.cells #[.map (some (w.heap.size + 1)), .int .i64 (d.writes : Int), .bool d.dead, .bool d.armed, .int .i64 a, .int .i64 k] 126)).alloc (.map #[] 0))
    (hg : w3.grownBy w4 none) (hrg : w4.ranges Tryz.prog 9 heldR m w3.heap.size d.files.length D (has D) (Maps.size D)) (hsz : Maps.size D = d.files.length) (hh : ∀ x, has D (.string x) = (f x).isSome) :
    Twin w w4 b m w.heap.size (w.heap.size + 1) (w.heap.size + 2) f a k d S D (has D) (Maps.size D) (fun _ => none) 0 := by
  have sz3 : w3.heap.size = w.heap.size + 2 := by rw [hw3]; simp
  have B3 : Below w.heap.size w w3 := by rw [hw3]; exact bz2 _ _ _
  have B4 : Below w3.heap.size w3 w4 := ⟨hg.os, hg.tape, hg.output, hg.size, fun i hi => hg.block i hi (by simp)⟩
  have B : Below w.heap.size w w4 := B3.trans (B4.mono B3.size)
  rw [sz3] at hrg
  refine ⟨DiskX.below h B, hrg, ?_, ⟨?_, by omega, fun _ _ => rfl, fun _ _ => rfl, ?_, fun _ _ _ _ _ _ q => (by cases q), fun _ _ _ q => (by cases q)⟩, B, ⟨by omega, by omega, by omega, by omega, by omega, by omega⟩⟩
  · rw [hg.block _ (by omega) (by simp), hw3]
    exact (Below.heap_alloc _ _ w.heap.size (by simp)).trans (heap_alloc_new w _)
  · have hm : w4.heap[w.heap.size + 1]? = some (.map #[] 0) := by
      rw [hg.block _ (by omega) (by simp), hw3]
      have := heap_alloc_new (w.alloc (.cells #[.map (some (w.heap.size + 1)), .int .i64 (d.writes : Int), .bool d.dead, .bool d.armed, .int .i64 a, .int .i64 k] 126)) (.map #[] 0)
      rw [show (w.alloc (.cells #[.map (some (w.heap.size + 1)), .int .i64 (d.writes : Int), .bool d.dead, .bool d.armed, .int .i64 a, .int .i64 k] 126)).heap.size = w.heap.size + 1 by simp] at this
      exact this
    exact (files_none w4 (w.heap.size + 1) (fun _ => False) hm).map
  · intro x bs hx hl
    have e := h.some_iff x
    rw [hh x, e, hx] at hl
    cases hl

theorem twin_end {wr : World} {c m2 r : Nat} {D : DataW Value} {left : Lit → Bool} {cnt : Nat} {f2 : Bs → Option Value} {n2 : Nat} (T : Twin w wr b m c m2 r f a k d S D left cnt f2 n2) (hk : d.ok) (hl : ∀ kl, left kl = false) : DiskAt wr c d (fun i => w.heap.size ≤ i ∧ i < wr.heap.size) := by
  refine ⟨m2, f2, a, k, ⟨T.box, T.disk.cut, ⟨?_, T.cop.no, fun x bs hx => ?_, T.cop.apart, T.cop.own⟩, ⟨⟨T.far.1, (Array.getElem?_eq_some_iff.1 T.box).1⟩, ⟨T.far.2.1, T.cop.map.lt⟩⟩, fun i hi => hi.2⟩⟩
  · have hm := T.cop.map
    have e : n2 = d.files.length := by
      obtain ⟨D2, ho, hs, hh, _⟩ := T.cop.map
      rw [← hs]
      refine size_of_keys ho hk.rise (fun x => ?_)
      rw [hh x]
      cases e : fget d.files x with
      | none => rw [T.cop.no x e]; rfl
      | some bs =>
        obtain ⟨v, hv, _⟩ := T.cop.yes x bs e (hl _)
        rw [hv]; rfl
    rw [← e]
    exact hm
  · obtain ⟨v, hv, ho⟩ := T.cop.yes x bs hx (hl _)
    exact ⟨v, hv, .inr ho⟩

theorem BAt.drew {w : World} {v : Value} {bs : Bs} (h : BAt w v bs) : BAt w.drew v bs := h

section
variable {wr : World} {c m2 r : Nat} {D : DataW Value} {left : Lit → Bool} {cnt : Nat} {f2 : Bs → Option Value} {n2 : Nat}

theorem Twin.entry (T : Twin w wr b m c m2 r f a k d S D left cnt f2 n2) (hh : ∀ x, Maps.has D (.string x) = (f x).isSome) (ha : ∀ x v, f x = some v → ∀ zd, D.atKey (.string x) zd = .held v) {x : Bs} {v : Value} {yd : DataW Value} {yp : List MemPlace} (hv : heldR v = some (yd, yp)) (hat : ∀ zd, D.atKey (.string x) zd = yd) :
    ∃ bs, fget d.files x = some bs ∧ f x = some v ∧ OwnB wr v bs := by
  have e0 : DataW.held v = yd := congrArg Prod.fst (Option.some.inj hv)
  have h1 : (f x).isSome = true := by rw [← hh x]; exact has_true_of_atKey hat
  rcases T.disk.file x with ⟨_, q⟩ | ⟨bs, u, q1, q2, q3⟩
  · rw [q] at h1; cases h1
  · have e1 := (ha x u q2 .nil).symm.trans (hat .nil)
    rw [← e0] at e1
    cases e1
    exact ⟨bs, q1, q2, q3.elim False.elim id⟩

theorem Twin.far_row (T : Twin w wr b m c m2 r f a k d S D left cnt f2 n2) (hS : ∀ i, S i → i < w.heap.size) {x : Bs} {v : Value} {g : Nat} (hx : f x = some v) (hg : v.ownBlock = some g) (e : g = r) : False := by
  have := hS g (T.disk.files.own x v g hx hg)
  have := T.far.2.2.1
  omega

theorem Twin.row (T : Twin w wr b m c m2 r f a k d S D left cnt f2 n2) {x : Bs} {v : Value} (hx : f2 x = some v) : ∃ bs, OwnB wr v bs := by
  cases e : fget d.files x with
  | none => rw [T.cop.no x e] at hx; cases hx
  | some bs =>
    have hl : left (.string x) = false := by
      cases q : left (.string x) with
      | false => rfl
      | true => rw [T.cop.til x q] at hx; cases hx
    obtain ⟨u, hu, ho⟩ := T.cop.yes x bs e hl
    rw [hu] at hx
    cases hx
    exact ⟨bs, ho⟩

theorem Twin.row_ne (T : Twin w wr b m c m2 r f a k d S D left cnt f2 n2) {x : Bs} {v : Value} {g : Nat} (hx : f2 x = some v) (hg : v.ownBlock = some g) : g ≠ r ∧ g ≠ c ∧ g ≠ m2 := by
  obtain ⟨bs, ho⟩ := T.row hx
  obtain ⟨cur, hc⟩ := ho.block hg
  refine ⟨fun e => ?_, fun e => ?_, fun e => ?_⟩
  · obtain ⟨es, clock, since, seen, c0, _, _, _, _, hr, _⟩ := T.rng
    rw [e, hr] at hc
    cases hc
  · rw [e, T.box] at hc
    cases hc
  · obtain ⟨es, cl, hm⟩ := T.cop.map.block
    rw [e, hm] at hc
    cases hc

theorem Twin.next (T : Twin w wr b m c m2 r f a k d S D left cnt f2 n2) {w2 : World} (_hS : ∀ i, S i → i < w.heap.size) (hg : wr.grownBy w2 (some r)) :
    w2.heap[c]? = some (.cells #[.map (some m2), .int .i64 (d.writes : Int), .bool d.dead, .bool d.armed, .int .i64 a, .int .i64 k] 126 (0, 0)) ∧ MapIs w2 m2 f2 n2 := by
  have t := grown_turned hg
  exact ⟨(t.block c (Array.getElem?_eq_some_iff.1 T.box).1 (fun e => T.far.2.2.2.2.1 e.symm)).trans T.box, T.cop.map.turned t (fun e => T.far.2.2.2.2.2 e.symm)⟩

theorem grown_of_below {w w' : World} (h : Below w.heap.size w w') : w.grownBy w' none := ⟨h.os, h.tape, h.output, h.size, fun i hi _ => h.block i hi⟩

theorem Twin.step (T : Twin w wr b m c m2 r f a k d S D left cnt f2 n2) (hS : ∀ i, S i → i < w.heap.size) {w2 w3 w4 : World} {cnt2 : Nat} {x bs : Bs} {v3 : Value} (hg2 : wr.grownBy w2 (some r)) (hrg2 : w2.ranges Tryz.prog 9 heldR m r d.files.length D (fun z => left z && !z.sameKey (.string x)) cnt2) (hlt : cnt2 < cnt) (hx : fget d.files x = some bs)
    (B3 : Below w2.heap.size w2 w3) (O3 : OwnG encB 5 w3 w2.heap.size v3 bs) (hg4 : w3.grownBy w4 (some m2)) (hm4 : MapIs w4 m2 (fput f2 x v3) (n2 + 1)) :
    Twin w w4 b m c m2 r f a k d S D (fun z => left z && !z.sameKey (.string x)) cnt2 (fput f2 x v3) (n2 + 1) := by
  have t2 := grown_turned hg2
  have t4 := grown_turned hg4
  have hmS := T.disk.mine.2
  have hm2 : m2 ≠ m := fun e => by have := hS m hmS; have := T.far.2.1; omega
  have hrS : ∀ i, S i → ¬ i = r := fun i hi e => by have := hS i hi; have := T.far.2.2.1; omega
  have hmS2 : ∀ i, S i → ¬ i = m2 := fun i hi e => by have := hS i hi; have := T.far.2.1; omega
  have s2 : w.heap.size ≤ w2.heap.size := Nat.le_trans T.bel.size hg2.size
  refine ⟨((T.disk.stays t2 hrS).below B3).stays t4 hmS2, (hrg2.kept (grown_of_below B3) (by simp) (by simp)).kept hg4 (by simpa using fun e => hm2 e.symm) (by simpa using T.far.2.2.2.2.2), ?_, ?_, ?_, T.far⟩
  · rw [t4.block c (Nat.lt_of_lt_of_le (Array.getElem?_eq_some_iff.1 (T.next hS hg2).1).1 B3.size) T.far.2.2.2.1, B3.block c (Array.getElem?_eq_some_iff.1 (T.next hS hg2).1).1]
    exact (T.next hS hg2).1
  · have c3 := (T.cop.turned t2 (fun e => T.far.2.2.2.2.2 e.symm) (fun x v g hx hg e => (T.row_ne hx hg).1 e)).turned (Turned.ofBelow (S := fun _ => False) B3) (fun q => q) (fun _ _ _ _ _ q => q)
    refine c3.step hx hlt (OwnG.low O3 (Nat.zero_le _)) (fun g hg => Nat.le_trans s2 (O3.lt g hg).1) (fun y u g hy hu q => ?_) hg4 hm4
    have h1 := (T.cop.own y u g hy hu).2
    have h2 := (O3.lt g q).1
    have h3 := hg2.size
    omega
  · have b2 : Below w.heap.size w w2 := T.bel.trans (t2.below T.bel.size (fun i hi e => by have := T.far.2.2.1; omega))
    have b3 : Below w.heap.size w w3 := b2.trans (B3.mono s2)
    exact b3.trans (t4.below b3.size (fun i hi e => by have := T.far.2.1; omega))
end

end

end Go.Proofs.YtikgbjjgpgjmfaaGreat

/-
  Bytes as texts, parts as they are written down, and the statements' awake, which returns true and turns nothing that was there. No condition.
-/
namespace Go.Proofs.YtikgbjjgpgjmfaaGreat
open Go.RowKit

theorem Dk.ok0 : dk0.ok := ⟨List.Pairwise.nil, (by decide), (by intro f h; cases h), (by decide)⟩

end Go.Proofs.YtikgbjjgpgjmfaaGreat

/-
  The statements' Fresh: a world without anything.
-/
namespace Go.Proofs.YtikgbjjgpgjmfaaGreat
open Go.RowKit

theorem open_none : sopen dk0 = (st0, dk0, 0) := by
  have e : ofile dk0 = [] := rfl
  unfold sopen
  rw [e, sread_nil]
  rfl

/-- The world of the statements, as a value. -/
abbrev wdV (s b : Nat) (d : Dk) (vf vo vr vt bv tv cv : Value) : Array Value := wdC (.pointer (some ⟨b, 0, none⟩)) (.pointer (some ⟨s, 0, none⟩)) vf (d.writes : Int) d.armed d.dead (d.after : Int) (d.keep : Int) vo vr vt bv tv cv

/-- Cells of a block are laid, one behind the other. -/
def layL (w : World) (Q : Nat) : List Value → Nat → World
  | [], _ => w
  | v :: t, j => layL (w.setCell ⟨Q, j, none⟩ v) Q t (j + 1)
theorem lay_all {W : World} (Q : Nat) (vs : List Value) (j : Nat) : Turned (fun i => i = Q) W (layL W Q vs j) := by
  induction vs generalizing W j with
  | nil => exact Turned.refl _ _
  | cons v t ih => exact (turned_set (b := Q) j v).trans (ih (j + 1)) (fun i _ q => q)

theorem fresh_end {w w3 w4 w5 : World} {s b : Nat} (h : Duo w3 s b st0 dk0 (fun i => w.heap.size < i ∧ i < w3.heap.size)) (hb : Below w.heap.size w w3) (ht : Turned (fun i => i = w.heap.size) w3 w4) (b4 : Below w4.heap.size w4 w5) : Duo w5 s b st0 dk0 (fun i => w.heap.size ≤ i ∧ i < w5.heap.size) ∧ Below w.heap.size w w5 := by
  have bt := hb.trans (ht.below hb.size (fun i hi q => by have q' : i = w.heap.size := q; omega))
  have s3 := b4.size
  have s4 := ht.size
  refine ⟨((h.stays ht (fun i hi q => ?_)).below b4).mono (fun i hi => ?_) (fun i hi => hi.2), bt.trans (b4.mono bt.size)⟩
  · have q' : i = w.heap.size := q
    omega
  · omega

set_option maxHeartbeats 3200000 in
set_option maxRecDepth 100000 in
/-- Fresh. -/
theorem fresh_any (w : World) :
    Calls Tryz.prog 8 #[] w fun e w' => ∃ s b, e = .returned (.tuple #[.agg (wdV s b dk0 nilV nilV nilV nilV nilV nilV nilV), .bool true]) ∧ Hid (Duo w' s b st0 dk0 (fun i => w.heap.size ≤ i ∧ i < w'.heap.size) ∧ Below w.heap.size w w') := by
  obtain ⟨W, hW⟩ : ∃ W, w.alloc (.cells #[.pointer none, .pointer none, nilV, .int .i64 0, .bool false, .bool false, .int .i64 0, .int .i64 0, nilV, nilV, nilV, nilV, nilV, nilV] 35) = W := ⟨_, rfl⟩
  have NB : Hid (BoxA W w.heap.size 35 #[.pointer none, .pointer none, nilV, .int .i64 0, .bool false, .bool false, .int .i64 0, .int .i64 0, nilV, nilV, nilV, nilV, nilV, nilV] ∧ Below w.heap.size w W) := by
    rw [← hW]
    exact ⟨BoxA.new _ _ _, bz1 _ _⟩
  have hro := fun w1 => ropen_none w1
  have HRO : Hid (∀ w1, Calls Tryz.prog 32 #[.agg #[nilV, .int .i64 0, .bool false, .bool false, .int .i64 0, .int .i64 0]] w1 fun e w' => e = .returned (.tuple #[.agg #[nilV, .int .i64 0, .bool false, .bool false, .int .i64 0, .int .i64 0, nilV, nilV, nilV], .int .i64 0]) ∧ Below w1.heap.size w1 w') := hro
  clear hro
  go_enter Tryz.func8, Tryz.ntmps8
  go_wp2_with fail
  refine (new_any W).mono ?_
  rintro e w1 ⟨b, rfl, hd1, b1⟩
  have HD1 : Hid (DiskAt w1 b dk0 (fun i => W.heap.size ≤ i ∧ i < w1.heap.size) ∧ Below W.heap.size W w1) := ⟨hd1, b1⟩
  clear hd1 b1
  go_wp2_with fail
  have hos := open_store HD1.out.1 Dk.ok0 (by decide)
  rw [open_none] at hos
  refine hos.mono ?_
  rintro e w2 ⟨T', HL, (⟨_, s, rfl, HS⟩ | ⟨r, rfl, hr⟩)⟩
  · have HT : Hid (Turned (fun i => W.heap.size ≤ i ∧ i < w1.heap.size) w1 w2 ∧ Below W.heap.size W w2) := by
      have t := HL.out.2.2
      exact ⟨t, HD1.out.2.trans (t.below HD1.out.2.size (fun i hi q => by have := q.1; omega))⟩
    clear hos
    go_wp2_with fail
    refine (HRO.out w2).mono ?_
    rintro e w3 ⟨rfl, b3⟩
    have B3 : Hid (Below w2.heap.size w2 w3) := b3
    have HX : Hid (Duo w3 s b st0 dk0 (fun i => w.heap.size < i ∧ i < w3.heap.size) ∧ Below W.heap.size W w3) := by
      have bW3 := HT.out.2.trans (b3.mono HT.out.2.size)
      obtain ⟨S, h1, h2⟩ := HS.out
      obtain ⟨l1, l2, l3⟩ := HL.out
      have eW : w.heap.size < W.heap.size := NB.out.1.lt
      have s1 := HD1.out.2.size
      have s2 := HT.out.1.size
      have s3 := b3.size
      refine ⟨⟨S, T', h1.below b3, l1.below b3, fun i hi => (h2 i hi).2, fun i hi => ?_, fun i hi => hi.2⟩, bW3⟩
      rcases hi with q | q
      · have := (h2 i q).1
        have := h1.lt i q
        omega
      · have := l1.lt i q
        rcases l2 i q with r | r <;> omega
    clear b3
    have x := NB.out.1.below HX.out.2 NB.out.1.lt
    have x0 := x.cell (j := 0) rfl
    have f0 := x.thaw 0
    have x1 := x.cell (j := 1) rfl
    have f1 := x.thaw 1
    have x2 := x.cell (j := 2) rfl
    have f2 := x.thaw 2
    have x3 := x.cell (j := 3) rfl
    have f3 := x.thaw 3
    have x4 := x.cell (j := 4) rfl
    have f4 := x.thaw 4
    have x5 := x.cell (j := 5) rfl
    have f5 := x.thaw 5
    have x6 := x.cell (j := 6) rfl
    have f6 := x.thaw 6
    have x7 := x.cell (j := 7) rfl
    have f7 := x.thaw 7
    have x8 := x.cell (j := 8) rfl
    have f8 := x.thaw 8
    have x9 := x.cell (j := 9) rfl
    have f9 := x.thaw 9
    have x10 := x.cell (j := 10) rfl
    have f10 := x.thaw 10
    have x11 := x.cell (j := 11) rfl
    have f11 := x.thaw 11
    have x12 := x.cell (j := 12) rfl
    have f12 := x.thaw 12
    have x13 := x.cell (j := 13) rfl
    have f13 := x.thaw 13
    clear x
    have l0 : w.heap.size < w3.heap.size := by have := NB.out.1.lt; have := HX.out.2.size; omega
    go_wp2
    refine bodyPost_ret (v := .tuple #[.agg #[.pointer (some ⟨b, 0, none⟩), .pointer (some ⟨s, 0, none⟩), nilV, .int .i64 0, .bool false, .bool false, .int .i64 0, .int .i64 0, nilV, nilV, nilV, nilV, nilV, nilV], .bool true]) ?_ rfl ⟨s, b, rfl, ?_⟩
    · simp [results, Tryz.f8]
      go_simp
    · have ht := lay_all (W := w3) w.heap.size [.pointer (some ⟨b, 0, none⟩), .pointer (some ⟨s, 0, none⟩), nilV, .int .i64 0, .bool false, .bool false, .int .i64 0, .int .i64 0, nilV, nilV, nilV, nilV, nilV, nilV] 0
      simp only [layL, Nat.reduceAdd] at ht
      exact fresh_end HX.out.1 (NB.out.2.trans (HX.out.2.mono NB.out.2.size)) ht (bz1 _ _)
  · exact absurd hr.out.1.symm hr.out.2

end Go.Proofs.YtikgbjjgpgjmfaaGreat

/-
  The statements' awake: a blob is there once.
-/
namespace Go.Proofs.YtikgbjjgpgjmfaaGreat
open Go.RowKit

def ks : St := (sblob st0 dk0 [120]).1.1
def kd : Dk := (sblob st0 dk0 [120]).1.2
theorem k_one : sblob st0 dk0 [120] = ((ks, kd), 589771473169207484, 0) := by
  have e : (sblob st0 dk0 [120]).2 = (589771473169207484, 0) := by kernel_rfl
  exact Prod.ext (Prod.ext rfl rfl) e
theorem k_two : sblob ks kd [120] = ((ks, kd), 589771473169207484, 0) := by
  have e1 : oid 1 [120] = 589771473169207484 := by kernel_rfl
  have e : oget ks.objs 1 589771473169207484 = some [120] := by kernel_rfl
  unfold sblob
  rw [if_neg (by decide)]
  unfold sput
  rw [e1, e]
  rfl
theorem k_three : stree ks kd [([97], 589771473169207485)] = ((ks, kd), 0, 5) := by
  have e1 : (ftree [([97], 589771473169207485)]).2 = 0 := by kernel_rfl
  have e2 : ks.blobs [([97], 589771473169207485)] = false := by kernel_rfl
  unfold stree
  rw [if_neg (by rw [e1]; decide), if_pos e2]
theorem k_ok : kd.ok := by
  have e : kd = (dapp dk0 fileN (fseal (1, [120])).1).1 := by kernel_rfl
  rw [e]
  exact ok_app Dk.ok0 _ _
theorem k_num : kd.writes = 1 ∧ ks.objs.length = 1 := ⟨by kernel_rfl, by kernel_rfl⟩


theorem blob_k {w : World} {s b : Nat} {U : Nat → Prop} {v : Value} {xss : List Bs} {st st' : St} {d d' : Dk} (i : Int) (hD : Duo w s b st d U) (hp : PartsB w v xss) (hf : xss.flatten = [120]) (hl : xss.length ≤ 2) (hx : ∀ x ∈ xss, x.length ≤ 1) (hok : d.ok) (hw : d.writes ≤ 1) (ho : st.objs.length ≤ 1) {I : UInt64} (hQ : sblob st d [120] = ((st', d'), I, 0)) (hi : (I.toNat : Int) = i) :
    Calls Tryz.prog 25 #[.pointer (some ⟨s, 0, none⟩), v] w fun e w' => e = .returned (.tuple #[.int .u64 i, .int .i64 0]) ∧ Hid (Duo w' s b st' d' (Since U w w') ∧ Turned U w w') := by
  refine (blob_any hD hp (by omega) (fun x q => Nat.le_trans (hx x q) (by omega)) hok (by omega) (by omega)).mono ?_
  rintro e w' ⟨i', r, rfl, h⟩
  have h' := h.out
  rw [hf, hQ] at h'
  obtain ⟨rfl, rfl, h3, h4⟩ := h'
  exact ⟨by rw [hi], h3, h4⟩

theorem hid {p : Prop} (h : p) : Hid p := h
theorem part_lit2 (w : World) (fr : Nat × Nat) (c : Array Value) (hc : c = #[.int .u8 120]) : PartsB ((w.alloc (.cells c 5 fr)).alloc (.cells #[.slice none 0 0, .slice (some ⟨w.heap.size, 0, none⟩) 1 1] 39)) (.slice (some ⟨w.heap.size + 1, 0, none⟩) 2 2) [[], [120]] := by
  have := parts_two (w := w.alloc (.cells c 5 fr)) (u := .slice none 0 0) (x := []) ⟨none, 0, rfl, Nat.le_refl _, by omega, RdG.nil _ _ _⟩ (bat_lit w [120] 5 fr c hc 1 rfl (by simp)) 39
  rw [show (w.alloc (.cells c 5 fr)).heap.size = w.heap.size + 1 by simp] at this
  exact this

theorem tree_k {w : World} {s b : Nat} {U : Nat → Prop} {a : Option Addr} {c : Nat} (hD : Duo w s b ks kd U) (hr : RdG encE w a [([97], 589771473169207485)]) (hc : 1 ≤ c) :
    Calls Tryz.prog 27 #[.pointer (some ⟨s, 0, none⟩), .slice a 1 c] w fun e w' => e = .returned (.tuple #[.int .u64 0, .int .i64 5]) ∧ Hid (Duo w' s b ks kd (Since U w w') ∧ Turned U w w') := by
  have n1 := k_num.1
  have n2 := k_num.2
  refine (tree_put hD hr rfl (by simp) (by intro e he; simp at he; subst he; decide) hc k_ok (by omega) (by omega)).mono ?_
  rintro e w' ⟨i', r, rfl, h⟩
  have h' := h.out
  rw [k_three] at h'
  obtain ⟨rfl, rfl, h3, h4⟩ := h'
  exact ⟨rfl, h3, h4⟩

/-- A step of the store: what is kept. -/
structure Kp (w w1 W : World) (s b : Nat) (st : St) (d : Dk) (cs : Array Value) (U : Nat → Prop) : Prop where
  box : BoxA W w1.heap.size 35 cs
  duo : Duo W s b st d U
  bel : Below w.heap.size w W
  far : ∀ i, U i → w.heap.size ≤ i ∧ i ≠ w1.heap.size
theorem Kp.on {w w1 W : World} {s b : Nat} {st : St} {d : Dk} {cs : Array Value} {U : Nat → Prop} (h : Kp w w1 W s b st d cs U) {X W' : World} {st' : St} {d' : Dk} (hb : Below W.heap.size W X) (hd : Duo W' s b st' d' (Since U X W')) (ht : Turned U X W') : Kp w w1 W' s b st' d' cs (Since U X W') := by
  have s1 := hb.size
  have l0 := h.box.lt
  have s0 := h.bel.size
  have bX := h.bel.trans (hb.mono h.bel.size)
  refine ⟨(h.box.below hb h.box.lt).turned ht (fun q => (h.far _ q).2 rfl), hd, bX.trans (ht.below bX.size (fun i hi q => by have := (h.far i q).1; omega)), fun i q => ?_⟩
  rcases q with q | q
  · exact h.far i q
  · have := q.1
    omega

set_option maxHeartbeats 3200000 in
set_option maxRecDepth 100000 in
/-- awake. -/
theorem awake_any (w : World) :
    Calls Tryz.prog 7 #[] w fun e w' => e = .returned (.bool true) ∧ Below w.heap.size w w' := by
  go_enter Tryz.func7, Tryz.ntmps7
  go_wp2_with fail
  refine (fresh_any w).mono ?_
  rintro e w1 ⟨s, b, rfl, H1⟩
  go_upto_region 4 with fail
  obtain ⟨W, hW⟩ : ∃ W, w1.alloc (.cells (wdV s b dk0 nilV nilV nilV nilV nilV nilV nilV) 35) = W := ⟨_, rfl⟩
  have K1 : Hid (Kp w w1 W s b st0 dk0 (wdV s b dk0 nilV nilV nilV nilV nilV nilV nilV) (fun i => w.heap.size ≤ i ∧ i < w1.heap.size)) := by
    rw [← hW]
    exact ⟨BoxA.new _ _ _, H1.out.1.below (bz1 _ _), H1.out.2.trans ((bz1 _ _).mono H1.out.2.size), fun i q => ⟨q.1, by omega⟩⟩
  rw [hW]
  clear hW H1
  have kc := fun (w : World) (C : Array Value) (n c : Nat) => Lib.run_convert_bytes_const (P := Tryz.prog) w 39 5 C n c Tryz.underlying39 Tryz.underlying5
  have x1 := K1.out.box.cell (j := 1) rfl
  go_wp2_with fail
  refine (blob_k 589771473169207484 (K1.out.duo.below (bz2 W _ _)) (part_lit W [120] 5 39 _ _ rfl 1 rfl (by simp)) rfl (by simp) (by simp) Dk.ok0 (by decide) (by decide) k_one (by decide)).mono ?_
  rintro e w2 ⟨rfl, H2⟩
  have K2 := hid (K1.out.on (bz2 W _ _) H2.out.1 H2.out.2)
  clear x1
  have x1 := K2.out.box.cell (j := 1) rfl
  clear H2
  go_wp2_with fail
  refine (blob_k 589771473169207484 (K2.out.duo.below (bz2 w2 _ _)) (part_lit2 w2 _ _ rfl) rfl (by simp) (by simp) k_ok (by rw [k_num.1]; decide) (by rw [k_num.2]; decide) k_two (by decide)).mono ?_
  rintro e w3 ⟨rfl, H3⟩
  have K3 := hid (K2.out.on (bz2 w2 _ _) H3.out.1 H3.out.2)
  clear x1 H3
  have x1 := K3.out.box.cell (j := 1) rfl
  go_wp2_with fail
  refine (tree_k (K3.out.duo.below (bz1 w3 _)) (rd_one encE w3 ([97], 589771473169207485) 69 _ rfl) (by omega)).mono ?_
  rintro e w4 ⟨rfl, H4⟩
  have K4 := hid (K3.out.on (bz1 w3 _) H4.out.1 H4.out.2)
  clear x1 H4
  have x0 := K4.out.box.cell (j := 0) rfl
  obtain ⟨S, T, q1, q2, _⟩ := K4.out.duo
  have hwr := writes_at q2
  rw [k_num.1] at hwr
  go_wp2_with fail
  refine hwr.mono ?_
  rintro e w5 ⟨rfl, hw5⟩
  rw [hw5]
  go_wp2
  go_ret
  exact ⟨rfl, K4.out.bel⟩

end Go.Proofs.YtikgbjjgpgjmfaaGreat
