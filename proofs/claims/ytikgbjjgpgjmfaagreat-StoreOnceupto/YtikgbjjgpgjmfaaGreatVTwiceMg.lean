/-
  The second put of a round: an awake disk, and what holds between.
-/
import Derived.Test.YtikgbjjgpgjmfaaGreatM40
namespace Go.Proofs.YtikgbjjgpgjmfaaGreat
open Go.RowKit

/-- The power is on, and will not go off. -/
def Calm (d : Dk) : Prop := d.armed = false ∧ d.dead = false

theorem dlay_calm {d : Dk} (h : Calm d) (n own more : Bs) : Calm (dlay d n own more).1 ∧ ((dlay d n own more).2 ≠ 0 → (dlay d n own more).1 = d) := by
  obtain ⟨ha, hd⟩ := h
  have e : dnext d = ({ d with writes := d.writes + 1 }, true, false) := by
    unfold dnext
    rw [ha, hd]
    simp
  unfold dlay
  rw [e]
  by_cases h1 : isName n = false
  · rw [if_pos h1]; exact ⟨⟨ha, hd⟩, fun _ => rfl⟩
  rw [if_neg h1]
  by_cases h2 : 262144 < own.length + more.length ∨ (fget d.files n = none ∧ 32 ≤ d.files.length)
  · rw [if_pos h2]; exact ⟨⟨ha, hd⟩, fun _ => rfl⟩
  rw [if_neg h2]
  exact ⟨⟨ha, hd⟩, fun q => absurd rfl q⟩

theorem sput_calm {d : Dk} (h : Calm d) (st : St) (k : Int) (b : Bs) : Calm (sput st d k b).1.2 ∧ ((sput st d k b).2.2 ≠ 0 → (sput st d k b).1 = (st, d)) := by
  unfold sput
  split
  · split
    · exact ⟨h, fun _ => rfl⟩
    · exact ⟨h, fun _ => rfl⟩
  · split
    · exact ⟨h, fun _ => rfl⟩
    · have q := dlay_calm h fileN ((fget d.files fileN).getD []) (fseal (k, b)).1
      unfold sapp
      refine ⟨q.1, fun hq => ?_⟩
      have hq' : (dlay d fileN ((fget d.files fileN).getD []) (fseal (k, b)).1).2 ≠ 0 := hq
      have e2 := q.2 hq'
      unfold dapp
      simp only [hq', if_false, e2]
theorem sblob_calm {d : Dk} (h : Calm d) (st : St) (b : Bs) : Calm (sblob st d b).1.2 ∧ ((sblob st d b).2.2 ≠ 0 → (sblob st d b).1 = (st, d)) := by
  unfold sblob
  split
  · exact ⟨h, fun _ => rfl⟩
  · exact sput_calm h st 1 b
theorem stree_calm {d : Dk} (h : Calm d) (st : St) (es : List En) : Calm (stree st d es).1.2 := by
  unfold stree
  split
  · exact h
  · split
    · exact h
    · exact (sput_calm h st 2 _).1
theorem scom_calm {d : Dk} (h : Calm d) (st : St) (c : Cm) : Calm (scom st d c).1.2 := by
  unfold scom
  split
  · exact h
  · split
    · exact h
    · exact (sput_calm h st 3 _).1

/-- What a call of Play leaves. -/
theorem Rel.more {k : Int} {data : Bs} {ps : List Bs} {qs : List Int} {dt : Int} {st st' : St} {d d' : Dk} {bl tl cl bl' tl' cl' : List UInt64} (h : Rel k data ps qs dt st d bl tl cl st' d' bl' tl' cl') (hc : Calm d) :
    More st st' d d' ∧ Calm d' ∧ bl'.length ≤ bl.length + 1 ∧ tl'.length ≤ tl.length + 1 ∧ cl'.length ≤ cl.length + 1 := by
  have ll : ∀ (x : List UInt64) (i : UInt64) (r : Int), (if r = 0 then x ++ [i] else x).length ≤ x.length + 1 := by
    intro x i r
    split
    · simp
    · omega
  rcases h with ⟨_, rfl, rfl, rfl, rfl, rfl⟩ | ⟨_, Q, rfl, rfl, rfl, rfl, rfl, rfl⟩ | ⟨_, Q, rfl, rfl, rfl, rfl, rfl, rfl⟩ | ⟨_, Q, rfl, rfl, rfl, rfl, rfl, rfl⟩
  · exact ⟨More.same _ _, hc, by omega, by omega, by omega⟩
  · exact ⟨sblob_more _ _ _, (sblob_calm hc _ _).1, ll _ _ _, by omega, by omega⟩
  · exact ⟨stree_more _ _ _, stree_calm hc _ _, by omega, ll _ _ _, by omega⟩
  · exact ⟨scom_more _ _ _, scom_calm hc _ _, by omega, by omega, ll _ _ _⟩

/-- The store was called between. -/
theorem WI.call {B : Nat} {E : Nat → Prop} {W u1 : World} {s b : Nat} {vf vo vr vt xb xt xc : Value} {U U' : Nat → Prop} {st st' : St} {d d' : Dk} {bl tl cl : List UInt64} (h : WI B E W s b vf vo vr vt xb xt xc U st d bl tl cl) (hB : B ≤ W.heap.size) (ha : Aft W u1 s b st' d' U U') :
    RMS (Zb E (Rows U' xb xt xc)) u1 (rm d vf vo vr vt) st d ∧ (∀ i, Zb E (Rows U' xb xt xc) i → i < u1.heap.size) ∧
    ∀ u2 vf' vo' vr' vt', Below u1.heap.size u1 u2 → RMS (Zb E (Rows U' xb xt xc)) u2 (rm d' vf' vo' vr' vt') st' d' → WI B E u2 s b vf' vo' vr' vt' xb xt xc U' st' d' bl tl cl := by
  obtain ⟨a1, a2, a3, a4⟩ := ha
  have sW := a4.size
  have mv : RMS (Zb E (Rows U' xb xt xc)) u1 (rm d vf vo vr vt) st d := by
    refine (h.ref.into (fun i hi q => ?_)).turned a4 (fun i q => .inl (.inl (a3 i q)))
    rcases q with (q | q) | q
    · rcases a2 i q with r | r
      · exact .inl (.inl r)
      · omega
    · exact .inl (.inr q)
    · exact .inr q
  refine ⟨mv, fun i q => ?_, fun u2 vf' vo' vr' vt' hb hr => ?_⟩
  · rcases q with (q | q) | q
    · exact a1.lt i q
    · exact Nat.lt_of_lt_of_le (h.lt i (.inr q)).2 sW
    · exact Nat.lt_of_lt_of_le (h.elt i q) sW
  · have nb : ∀ {x : Value}, (∀ g, x.ownBlock = some g → ¬ U g) → (∀ g, x.ownBlock = some g → g < W.heap.size) → ∀ g, x.ownBlock = some g → ¬ U' g := by
      intro x q1 q2 g hg r
      rcases a2 g r with r | r
      · exact q1 g hg r
      · have := q2 g hg
        omega
    have tB := fun g hg => (h.ob.lt g hg).2
    have tT := fun g hg => (h.ot.lt g hg).2
    have tC := fun g hg => (h.oc.lt g hg).2
    have far' : ∀ i, Rows U' xb xt xc i → ¬ E i := by
      rintro i (q | q) r
      · rcases a2 i q with q | q
        · exact h.fe i (.inl q) r
        · have := h.elt i r
          omega
      · exact h.fe i (.inr q) r
    refine ⟨a1.below hb, fun i q => ?_, hr, far', fun i q => Nat.lt_of_lt_of_le (h.elt i q) (Nat.le_trans sW hb.size), (h.ob.stays a4 h.fb).below hb, (h.ot.stays a4 h.ft).below hb, (h.oc.stays a4 h.fc).below hb, nb h.fb tB, nb h.ft tT, nb h.fc tC, h.bt, h.bc, h.tc⟩
    rcases a2 i q with r | r
    · exact h.low i r
    · omega

/-- How often was written. -/
theorem writes_duo {w : World} {s b : Nat} {st : St} {d : Dk} {U : Nat → Prop} (h : Duo w s b st d U) : Calls Tryz.prog 22 #[.pointer (some ⟨b, 0, none⟩)] w fun e w' => e = .returned (.int .i64 (d.writes : Int)) ∧ w' = w := by
  obtain ⟨S, T, _, h2, _⟩ := h
  exact writes_at h2

/-- A blob of one part. -/
theorem blob_one {w : World} {s b : Nat} {st : St} {d : Dk} {U : Nat → Prop} {u : Value} {x : Bs} (hD : Duo w s b st d U) (hB : BAt w u x) (hx : x.length ≤ 140737488355328) (hok : d.ok) (hw : d.writes ≤ 1000000) (hob : st.size ≤ 1000000) :
    Calls Tryz.prog 25 #[.pointer (some ⟨s, 0, none⟩), .slice (some ⟨w.heap.size, 0, none⟩) 1 1] (w.alloc (.cells #[u] 39)) fun e w' => ∃ i r, e = .returned (.tuple #[.int .u64 i, .int .i64 r]) ∧ Hid (i = ((sblob st d x).2.1.toNat : Int) ∧ r = (sblob st d x).2.2 ∧ ∃ U', Aft w w' s b (sblob st d x).1.1 (sblob st d x).1.2 U U') := by
  have h := blob_any (U := U) (hD.below (bz1 w (.cells #[u] 39))) (parts_one hB 39) (by simp) (by
    intro y hy
    simp at hy
    subst hy
    exact hx) hok hw (by unfold St.size at hob; omega)
  have e : [x].flatten = x := by simp
  rw [e] at h
  refine h.mono ?_
  rintro e w' ⟨i, r, rfl, H⟩
  obtain ⟨h1, h2, h3, h4⟩ := H.out
  exact ⟨i, r, rfl, h1, h2, _, Aft.of (bz1 _ _) h3 h4⟩

theorem Aft.undrew {W u : World} {s b : Nat} {st : St} {d : Dk} {U U' : Nat → Prop} (h : Aft W.drew u s b st d U U') : Aft W u s b st d U U' :=
  ⟨h.1, h.2.1, h.2.2.1, (Turned.ofBelow (S := U) (Below.refl _ W).drew).trans h.2.2.2 (fun _ _ q => q)⟩
theorem aft_below {B : Nat} {E : Nat → Prop} {w W u : World} {s b : Nat} {vf vo vr vt xb xt xc : Value} {U U' : Nat → Prop} {st st' : St} {d d' : Dk} {bl tl cl : List UInt64} (h : WI B E W s b vf vo vr vt xb xt xc U st d bl tl cl) (h0 : Below B w W) (ha : Aft W u s b st' d' U U') (hB : B ≤ W.heap.size) : Below B w u :=
  h0.trans (ha.2.2.2.below hB (fun i hi q => by have := h.low i q; omega))

/-- The last of a row. -/
theorem OwnG.last {w : World} {B xn xc : Nat} {xa : Option Addr} {l : List UInt64} {x : UInt64} (h : OwnG encU 56 w B (.slice xa xn xc) (l ++ [x])) : ∃ g off, xa = some ⟨g, off, none⟩ ∧ g < w.heap.size ∧ w.cell? ⟨g, off + l.length, none⟩ = some (.int .u64 (x.toNat : Int)) ∧ xn = l.length + 1 := by
  have hn : (l ++ [x]).length = xn := own_len h
  have hx : (l ++ [x])[l.length]? = some x := by simp
  obtain ⟨g, off, rfl, _⟩ := (OwnG.rdc h).1.some_of hx
  have q := (OwnG.rdc h).1.nums hx
  refine ⟨g, off, rfl, q.1, q.2, ?_⟩
  simp at hn
  omega
theorem OwnG.size {w : World} {B xn xc : Nat} {xa : Option Addr} {l : List UInt64} (h : OwnG encU 56 w B (.slice xa xn xc) l) : l.length = xn := own_len h

/-- Between two calls of a round: the world's block is R, the old one's O. -/
structure Mi (co : Array Value) (B R O : Nat) (w0 u : World) (s b : Nat) (vf vo vr vt xb xt xc : Value) (U : Nat → Prop) (st : St) (d : Dk) (bl tl cl : List UInt64) : Prop where
  inv : WI B (fun j => j = R ∨ j = O) u s b vf vo vr vt xb xt xc U st d bl tl cl
  box : BoxA u R 35 (wdV s b d vf vo vr vt xb xt xc)
  bel : Below B w0 u
  hR : B ≤ R
  old : BoxA u O 35 co

section
variable {co : Array Value} {B R O : Nat} {w0 u u' : World} {s b : Nat} {vf vo vr vt xb xt xc : Value} {U : Nat → Prop} {st : St} {d : Dk} {bl tl cl : List UInt64}

theorem Mi.size (h : Mi co B R O w0 u s b vf vo vr vt xb xt xc U st d bl tl cl) : B ≤ u.heap.size := Nat.le_trans h.hR (Nat.le_of_lt h.box.lt)
theorem Mi.below (h : Mi co B R O w0 u s b vf vo vr vt xb xt xc U st d bl tl cl) (hb : Below u.heap.size u u') : Mi co B R O w0 u' s b vf vo vr vt xb xt xc U st d bl tl cl :=
  ⟨h.inv.below hb, h.box.below hb h.box.lt, h.bel.trans (hb.mono h.size), h.hR, h.old.below hb h.old.lt⟩
theorem Mi.aft {st' : St} {d' : Dk} {U' : Nat → Prop} (h : Mi co B R O w0 u s b vf vo vr vt xb xt xc U st d bl tl cl) (ha : Aft u u' s b st' d' U U') : BoxA u' R 35 (wdV s b d vf vo vr vt xb xt xc) ∧ Below B w0 u' :=
  ⟨h.box.turned ha.2.2.2 (fun q => h.inv.fe R (.inl q) (.inl rfl)), h.bel.trans (ha.2.2.2.below h.size (fun i hi q => by have := h.inv.low i q; omega))⟩
/-- The store was called, and told nothing new. -/
theorem Mi.again {U' : Nat → Prop} (h : Mi co B R O w0 u s b vf vo vr vt xb xt xc U st d bl tl cl) (ha : Aft u u' s b st d U U') : Mi co B R O w0 u' s b vf vo vr vt xb xt xc U' st d bl tl cl := by
  have q := h.inv.call h.size ha
  have r := h.aft ha
  exact ⟨q.2.2 u' _ _ _ _ (Below.refl _ _) q.1, r.1, r.2, h.hR, h.old.turned ha.2.2.2 (fun q => h.inv.fe O (.inl q) (.inr rfl))⟩
/-- A block that was made since was turned. -/
theorem Mi.turn {w1 w2 : World} {g : Nat} (h : Mi co B R O w0 u s b vf vo vr vt xb xt xc U st d bl tl cl) (hb : Below u.heap.size u w1) (hg : u.heap.size ≤ g ∧ g < w1.heap.size) (ht : Turned (fun i => i = g) w1 w2) : Mi co B R O w0 w2 s b vf vo vr vt xb xt xc U st d bl tl cl := by
  have h1 := h.inv.more (G := fun i => i = g) hb (fun i q => by have q' : i = g := q; omega)
  have h2 := h1.turn ht (fun i q => .inr q)
  have h3 := h.below hb
  have hs := h.size
  exact ⟨h2.less (fun i q => .inl q), h3.box.turned ht (fun q => by have q' : R = g := q; have := h.box.lt; omega), h3.bel.trans (ht.below h3.size (fun i hi q => by have q' : i = g := q; omega)), h.hR, h3.old.turned ht (fun q => by have q' : O = g := q; have := h.old.lt; omega)⟩

/-- A blob is put again. -/
theorem again_blob {X : World} {v : Value} {x : Bs} {st0 : St} {d0 : Dk} {Q} (h : Mi co B R O w0 X s b vf vo vr vt xb xt xc U st d bl tl cl) (hQ : sblob st0 d0 x = Q) (hz : Q.2.2 = 0) (e1 : st = Q.1.1) (e2 : d = Q.1.2) (hB : BAt X v x) (hx : x.length ≤ 140737488355328) (hok : d.ok) (hw : d.writes ≤ 1000000) (hob : st.size ≤ 1000000) (qi : Int) (hqi : (Q.2.1.toNat : Int) = qi) :
    Calls Tryz.prog 25 #[.pointer (some ⟨s, 0, none⟩), .slice (some ⟨X.heap.size, 0, none⟩) 1 1] (X.alloc (.cells #[v] 39)) fun e w' => ∃ i r, e = .returned (.tuple #[.int .u64 i, .int .i64 r]) ∧ Hid (i = qi ∧ r = 0 ∧ ∃ U', Mi co B R O w0 w' s b vf vo vr vt xb xt xc U' st d bl tl cl) := by
  have hag : sblob st d x = ((st, d), Q.2.1, 0) := by
    rw [e1, e2]
    have := sblob_again (st := st0) (d := d0) (b := x) (by rw [hQ]; exact hz)
    rw [hQ] at this
    exact this
  have hc := blob_one h.inv.duo hB hx hok hw hob
  rw [hag] at hc
  refine hc.mono ?_
  rintro e w' ⟨i, r, rfl, H⟩
  obtain ⟨h1, h2, U', h3⟩ := H.out
  exact ⟨i, r, rfl, by rw [h1]; exact hqi, h2, U', h.again h3⟩

/-- A tree is put again. -/
theorem again_tree {X : World} {es : List En} {N : Nat} {st0 : St} {d0 : Dk} {Q} (h : Mi co B R O w0 X s b vf vo vr vt xb xt xc U st d bl tl cl) (hQ : stree st0 d0 es = Q) (hz : Q.2.2 = 0) (e1 : st = Q.1.1) (e2 : d = Q.1.2) (hl : es.length = N) (hn : N ≤ 4000000000000000000) (hf : Fine es) (hok : d.ok) (hw : d.writes ≤ 1000000) (hob : st.size ≤ 1000000) (qi : Int) (hqi : (Q.2.1.toNat : Int) = qi) (w3 : World) (b3 : Below X.heap.size X w3) {base : Nat} (ea : Option Addr) (ec : Nat) (ho : OwnG encE 69 w3 base (.slice ea N ec) es) :
    Calls Tryz.prog 27 #[.pointer (some ⟨s, 0, none⟩), .slice ea N ec] w3 fun e w' => ∃ v, e = .returned v ∧ Hid (v = .tuple #[.int .u64 qi, .int .i64 0] ∧ ∃ U', Mi co B R O w0 w' s b vf vo vr vt xb xt xc U' st d bl tl cl) := by
  have hag : stree st d es = ((st, d), Q.2.1, 0) := by
    rw [e1, e2]
    have := stree_again (st := st0) (d := d0) (es := es) (by rw [hQ]; exact hz)
    rw [hQ] at this
    exact this
  have h' := h.below b3
  have hc := tree_put h'.inv.duo ho.rdc.1 hl hn hf ho.rdc.2 hok hw (by unfold St.size at hob; omega)
  rw [hag] at hc
  refine hc.mono ?_
  rintro e w' ⟨i, r, rfl, H⟩
  obtain ⟨h1, h2, h3, h4⟩ := H.out
  exact ⟨_, rfl, by rw [h1, h2, hqi], _, h'.again (Aft.of (Below.refl _ _) h3 h4)⟩

/-- A commit is put again. -/
theorem again_com {X : World} {cm : Cm} {N : Nat} {st0 : St} {d0 : Dk} {Q} (h : Mi co B R O w0 X s b vf vo vr vt xb xt xc U st d bl tl cl) (hQ : scom st0 d0 cm = Q) (hz : Q.2.2 = 0) (e1 : st = Q.1.1) (e2 : d = Q.1.2) (hl : cm.ps.length = N) (hn : N ≤ 4000000000000000000) (nt : ByteArray) (hnt : nt = ⟨cm.note.toArray⟩) (dt : Int) (hdt : cm.date = dt) (tr : Int) (htr : (cm.tree.toNat : Int) = tr) (hok : d.ok) (hw : d.writes ≤ 1000000) (hob : st.size ≤ 1000000) (qi : Int) (hqi : (Q.2.1.toNat : Int) = qi) (w3 : World) (b3 : Below X.heap.size X w3) {base : Nat} (ea : Option Addr) (ec : Nat) (ho : OwnG encU 56 w3 base (.slice ea N ec) cm.ps) :
    Calls Tryz.prog 29 #[.pointer (some ⟨s, 0, none⟩), .agg #[.int .u64 tr, .slice ea N ec, .int .i64 dt, .string nt]] w3 fun e w' => ∃ v, e = .returned v ∧ Hid (v = .tuple #[.int .u64 qi, .int .i64 0] ∧ ∃ U', Mi co B R O w0 w' s b vf vo vr vt xb xt xc U' st d bl tl cl) := by
  have hag : scom st d cm = ((st, d), Q.2.1, 0) := by
    rw [e1, e2]
    have := scom_again (st := st0) (d := d0) (c := cm) (by rw [hQ]; exact hz)
    rw [hQ] at this
    exact this
  have h' := h.below b3
  have hc := com_put h'.inv.duo ho.rdc.1 hl hn ho.rdc.2 nt hnt dt hdt hok hw (by unfold St.size at hob; omega)
  rw [hag, htr] at hc
  refine hc.mono ?_
  rintro e w' ⟨i, r, rfl, H⟩
  obtain ⟨h1, h2, h3, h4⟩ := H.out
  exact ⟨_, rfl, by rw [h1, h2, hqi], _, h'.again (Aft.of (Below.refl _ _) h3 h4)⟩

theorem Mi.drew (h : Mi co B R O w0 u s b vf vo vr vt xb xt xc U st d bl tl cl) : Mi co B R O w0 u.drew s b vf vo vr vt xb xt xc U st d bl tl cl := h.below (Below.refl _ _).drew
theorem enters_LEntries : ∀ args w, (callFunc 28 args).run Tryz.prog w = .ok (.enter 28 args) w := enters_of Tryz.func28 (by kernel_rfl) rfl
theorem enters_LNode : ∀ args w, (callFunc 30 args).run Tryz.prog w = .ok (.enter 30 args) w := enters_of Tryz.func30 (by kernel_rfl) rfl
theorem enters_STree : ∀ args w, (callFunc 27 args).run Tryz.prog w = .ok (.enter 27 args) w := enters_of Tryz.func27 (by kernel_rfl) rfl
theorem enters_SCommit : ∀ args w, (callFunc 29 args).run Tryz.prog w = .ok (.enter 29 args) w := enters_of Tryz.func29 (by kernel_rfl) rfl
end

/-- Where a row lies. -/
theorem OwnG.head {α : Type} {E : Enc α} {e : TypeId} {w : World} {base n c : Nat} {a : Option Addr} {xs : List α} (h : OwnG E e w base (.slice a n c) xs) (h0 : 0 < xs.length) : ∃ g, a = some ⟨g, 0, none⟩ := by
  obtain ⟨a', c', q, _, _, _, r⟩ := OwnG.form h
  cases q
  exact r h0
theorem set_moves {xs : Bs} {j : Nat} {y z : UInt8} (hy : xs[j]? = some y) (hz : z ≠ y) : xs.set j z ≠ xs := by
  intro q
  have hj : j < xs.length := (List.getElem?_eq_some_iff.1 hy).1
  have h1 := congrArg (·[j]?) q
  simp only [List.getElem?_set_self hj, hy, Option.some.injEq] at h1
  exact hz h1

/-- The store took something, and the reference did: its cells in the world's block. -/
theorem Mi.took {co : Array Value} {B R O : Nat} {w0 u u1 u2 : World} {s b : Nat} {vf vo vr vt xb xt xc vf' vo' vr' vt' : Value} {U U' : Nat → Prop} {st st' : St} {d d' : Dk} {bl tl cl : List UInt64} (h : Mi co B R O w0 u s b vf vo vr vt xb xt xc U st d bl tl cl) (ha : Aft u u1 s b st' d' U U') (hb : Below u1.heap.size u1 u2) (hr : RMS (Zb (fun j => j = R ∨ j = O) (Rows U' xb xt xc)) u2 (rm d' vf' vo' vr' vt') st' d') (hne : O ≠ R) :
    Mi co B R O w0 (layL u2 R [vf', .int .i64 (d'.writes : Int), .bool d'.armed, .bool d'.dead, .int .i64 (d'.after : Int), .int .i64 (d'.keep : Int), vo', vr', vt'] 2) s b vf' vo' vr' vt' xb xt xc U' st' d' bl tl cl := by
  have q := h.inv.call h.size ha
  have r := h.aft ha
  have ho := h.old.turned ha.2.2.2 (fun q => h.inv.fe O (.inl q) (.inr rfl))
  have hT := lay_all (W := u2) R [vf', .int .i64 (d'.writes : Int), .bool d'.armed, .bool d'.dead, .int .i64 (d'.after : Int), .int .i64 (d'.keep : Int), vo', vr', vt'] 2
  have hM := (r.1.below hb r.1.lt).lays [vf', .int .i64 (d'.writes : Int), .bool d'.armed, .bool d'.dead, .int .i64 (d'.after : Int), .int .i64 (d'.keep : Int), vo', vr', vt'] 2
  rw [set9] at hM
  have hs : B ≤ u1.heap.size := Nat.le_trans h.hR (Nat.le_of_lt r.1.lt)
  have b2 := r.2.trans (hb.mono hs)
  exact ⟨(q.2.2 u2 _ _ _ _ hb hr).turn hT (fun i q => .inl q), hM, b2.trans (hT.below (Nat.le_trans hs hb.size) (fun i hi q => by have q' : i = R := q; have := h.hR; omega)), h.hR, (ho.below hb ho.lt).turned hT (fun q => hne q)⟩

theorem xor_moves {y m : UInt8} (hm : m ≠ 0) : y ^^^ m ≠ y := by
  intro h
  apply hm
  have := congrArg (y ^^^ ·) h
  simpa [← UInt8.xor_assoc] using this

end Go.Proofs.YtikgbjjgpgjmfaaGreat
