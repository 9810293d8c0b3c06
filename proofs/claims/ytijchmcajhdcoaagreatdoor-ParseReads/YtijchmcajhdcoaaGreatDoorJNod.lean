import Derived.Test.YtijchmcajhdcoaaGreatDoorBSho
import Derived.Test.YtijchmcajhdcoaaGreatDoorBKid
/-!
  The laws' Node by a contract: the same tree anew. No condition but that a tree has not too many nodes.
-/
namespace Go.Proofs.YtijchmcajhdcoaaGreatDoor
open Go.RowKit

section
variable {w : World} {B : Nat} {t : TypeId} {a b c d e f : Value}
theorem Box6.put4 (h : Box6 w B t a b c d e f) (x : Value) : Box6 (w.setCell ⟨B, 4, none⟩ x) B t a b c d x f := by
  unfold Box6 at h ⊢
  simp [World.setCell, Array.getElem?_modify, h]
end

theorem step_callB {ops : Array Oper} {o : Oper} {a : Act} {w : World} {K : Act → World → Prop} {Q : Exit → Act → World → Prop} {X : Prop} (hg : o.guard = none) (x : Operand) (f : Nat) (ts : Array TypeId)
    (hop : o.op = .call { callee := .value (.func f), args := #[x], argTypes := ts }) (en : ∀ args w, (callFunc f args).run Tryz.prog w = .ok (.enter f args) w) (u1 : Value) (hx : a.eval x = u1) (R : Value → World → Prop)
    (hc : Calls Tryz.prog f #[u1] w fun e w' => ∃ v, e = .returned v ∧ R v w') (h : ∀ v w', R v w' → K (a.put o.dst v) w') :
    if Region.wanted o (yielded ops a.tmps) = true then Oper.wp Tryz.prog o a w K Q else X := by
  have hw : Region.wanted o (yielded ops a.tmps) = true := by simp [Region.wanted, hg]
  rw [if_pos hw]
  unfold Oper.wp
  have e : (execOp a.eval o).run Tryz.prog w = .ok (.enter f #[u1]) w := by
    have hf : a.eval (.func f) = .func (.func f) #[] #[] := rfl
    simp [execOp, hop, resolve, invoke, hx, hf, Deferred.ofValue, en]
  rw [e, Oper.upon_enter]
  refine hc.mono ?_
  rintro e w' ⟨v, rfl, hr⟩
  exact h v w' hr

theorem infoR : (Tryz.prog.info? 34).map (fun i => (i.zero, i.size, i.bytes)) = some (some (.agg #[.int .i64 0, .string ⟨#[]⟩, .int .i64 0, .int .u64 0, .slice none 0 0, .int .i64 0]), 6, 72) := by kernel_rfl
theorem enters_lNode : ∀ args w, (callFunc 8 args).run Tryz.prog w = .ok (.enter 8 args) w := enters_of Tryz.func8 (by kernel_rfl) rfl

/-- What Node answers of a tree: the tree, its rows new. -/
def Nw (w : World) (x : Nd) (v : Value) (w' : World) : Prop := ∃ nv : NV, v = nv.val ∧ NdIn (Bt w.heap.size w'.heap.size) w' nv x ∧ Below w.heap.size w w'

/-- What stands at the head of a round of Node. -/
structure NoI (ks : List Nd) (m1 m2 m3 : Nat) (vo : Int) (vt : Bs) (vn vi : Int) (va : Option Addr) (vl vc : Nat) (vp : Int) (w wr : World) (i : Nat) (la : Option Addr) (lc : Nat) (us : List NV) : Prop where
  arg : Box6 wr m1 28 (.int .i64 vo) (.string ⟨vt.toArray⟩) (.int .i64 vn) (.int .u64 vi) (.slice va vl vc) (.int .i64 vp)
  res : Box6 wr m2 34 (.int .i64 0) (.string ⟨#[]⟩) (.int .i64 0) (.int .u64 0) (.slice none 0 0) (.int .i64 0)
  box : Box6 wr m3 34 (.int .i64 vo) (.string ⟨vt.toArray⟩) (.int .i64 vn) (.int .u64 vi) (.slice la i lc) (.int .i64 vp)
  own : OwnG encN 34 wr (m3 + 1) (.slice la i lc) us
  len : us.length = i
  nds : NdsIn (fun g => m3 < g ∧ g < wr.heap.size ∧ (Value.slice la i lc).ownBlock ≠ some g) wr us (ks.take i)
  below : Below w.heap.size w wr

section
variable {ks : List Nd} {m1 m2 m3 i lc : Nat} {vo vn vi vp : Int} {vt : Bs} {va la : Option Addr} {vl vc : Nat} {w wr : World} {us : List NV}
/-- Behind one kid. -/
theorem node_mid {x : Nd} {x3 : NV} {w3 w4 : World} {a4 : Option Addr} {c4 : Nat} (h : NoI ks m1 m2 m3 vo vt vn vi va vl vc vp w wr i la lc us) (hn : NdIn (Bt wr.heap.size w3.heap.size) w3 x3 x) (hb : Below wr.heap.size wr w3)
    {cs : Array Value} (ho : OwnG encN 34 w4 (m3 + 1) (.slice a4 (i + 1) c4) (us ++ [x3])) (hb4 : Below (m3 + 1) (w3.alloc (.cells cs 34)) w4)
    (hm : Moved (w3.alloc (.cells cs 34)) (.slice la i lc) (.slice a4 (i + 1) c4)) (ht : Turned (fun k => (Value.slice la i lc).ownBlock = some k) (w3.alloc (.cells cs 34)) w4)
    (hk : ks.take (i + 1) = ks.take i ++ [x]) (hlt : m1 < m2 ∧ m2 < m3 ∧ w.heap.size ≤ m1) (hw : Below w.heap.size w w4) :
    Box6 w4 m1 28 (.int .i64 vo) (.string ⟨vt.toArray⟩) (.int .i64 vn) (.int .u64 vi) (.slice va vl vc) (.int .i64 vp) ∧ Box6 w4 m2 34 (.int .i64 0) (.string ⟨#[]⟩) (.int .i64 0) (.int .u64 0) (.slice none 0 0) (.int .i64 0) ∧
    Box6 w4 m3 34 (.int .i64 vo) (.string ⟨vt.toArray⟩) (.int .i64 vn) (.int .u64 vi) (.slice la i lc) (.int .i64 vp) ∧ OwnG encN 34 w4 (m3 + 1) (.slice a4 (i + 1) c4) (us ++ [x3]) ∧
    NdsIn (fun g => m3 < g ∧ g < w4.heap.size ∧ (Value.slice a4 (i + 1) c4).ownBlock ≠ some g) w4 (us ++ [x3]) (ks.take (i + 1)) ∧ Below w.heap.size w w4 := by
  have z0 := hb.size
  have z1 := h.box.lt
  have z2 := ht.size
  have b1 := bz1 w3 (.cells cs 34)
  have hs1 : (w3.alloc (.cells cs 34)).heap.size = w3.heap.size + 1 := by simp
  have hlo : ∀ g, (Value.slice la i lc).ownBlock = some g → m3 < g ∧ g < wr.heap.size := fun g hg => by have := World.ownsRow.lt h.own g hg; omega
  have tb := turnB hb4
  refine ⟨((h.arg.below hb).below b1).turned tb (by omega), ((h.res.below hb).below b1).turned tb (by omega), ((h.box.below hb).below b1).turned tb (by omega), ho, ?_, hw⟩
  have hq4 : ∀ g, g < wr.heap.size → (Value.slice la i lc).ownBlock ≠ some g → (Value.slice a4 (i + 1) c4).ownBlock ≠ some g := by
    intro g hg hne e
    rcases hm with q | q
    · exact hne (q ▸ e)
    · have := q g e
      omega
  have hq5 : ∀ g, wr.heap.size ≤ g → g < w3.heap.size → (Value.slice a4 (i + 1) c4).ownBlock ≠ some g := by
    intro g hg hg3 e
    rcases hm with q | q
    · have := hlo g (q ▸ e)
      omega
    · have := q g e
      omega
  rw [hk]
  refine NdsIn.snoc ?_ ?_
  · exact (((h.nds.stays hb).stays b1).turned ht (fun g hg e => hg.2.2 e)).mono (fun g hg => ⟨hg.1, by have := hg.2.1; omega, hq4 g hg.2.1 hg.2.2⟩)
  · exact ((hn.below b1).turned ht (fun g hg e => by have := hlo g e; have := hg.1; omega)).mono (fun g hg => ⟨by have := hg.1; omega, by have := hg.2; omega, hq5 g hg.1 hg.2⟩)
/-- The row's slice stored. -/
theorem node_next {w4 : World} {a4 : Option Addr} {c4 : Nat} {zs : List NV}
    (h : Box6 w4 m1 28 (.int .i64 vo) (.string ⟨vt.toArray⟩) (.int .i64 vn) (.int .u64 vi) (.slice va vl vc) (.int .i64 vp) ∧ Box6 w4 m2 34 (.int .i64 0) (.string ⟨#[]⟩) (.int .i64 0) (.int .u64 0) (.slice none 0 0) (.int .i64 0) ∧
    Box6 w4 m3 34 (.int .i64 vo) (.string ⟨vt.toArray⟩) (.int .i64 vn) (.int .u64 vi) (.slice la i lc) (.int .i64 vp) ∧ OwnG encN 34 w4 (m3 + 1) (.slice a4 (i + 1) c4) zs ∧
    NdsIn (fun g => m3 < g ∧ g < w4.heap.size ∧ (Value.slice a4 (i + 1) c4).ownBlock ≠ some g) w4 zs (ks.take (i + 1)) ∧ Below w.heap.size w w4) (hlt : m1 < m2 ∧ m2 < m3 ∧ w.heap.size ≤ m1) (hl : zs.length = i + 1) :
    NoI ks m1 m2 m3 vo vt vn vi va vl vc vp w (w4.setCell ⟨m3, 4, none⟩ (.slice a4 (i + 1) c4)) (i + 1) a4 c4 zs := by
  obtain ⟨h1, h2, h3, h4, h5, h6⟩ := h
  have ht : Turned (fun g => g = m3) w4 (w4.setCell ⟨m3, 4, none⟩ (.slice a4 (i + 1) c4)) := (Turned.refl (fun g => g = m3) w4).setCell (p := ⟨m3, 4, none⟩) (.inl rfl) _
  refine ⟨h1.turned ht (by omega), h2.turned ht (by omega), h3.put4 _, OwnG.stay h4 ht (fun g hg e => by have := (World.ownsRow.lt h4 g hg).1; omega), hl, ?_, h6.trans (ht.below h6.size (fun g hg e => by omega))⟩
  exact (h5.turned ht (fun g hg e => by have := hg.1; omega)).mono (fun g hg => ⟨hg.1, by have := hg.2.1; have := ht.size; omega, hg.2.2⟩)
/-- Behind the last kid. -/
theorem node_last {nk : Fo} (h : NoI (ndL nk) m1 m2 m3 vo vt vn vi va vl vc vp w wr i la lc us) (hlt : m1 < m2 ∧ m2 < m3 ∧ w.heap.size ≤ m1) (hl : i = (ndL nk).length) (x0 x1 x2 x3 x4 x5 : Value) :
    Nw w ⟨vo, vt, vn, vi, nk, vp⟩ (.agg #[.int .i64 vo, .string ⟨vt.toArray⟩, .int .i64 vn, .int .u64 vi, .slice la i lc, .int .i64 vp]) ((((((wr.setCell ⟨m2, 0, none⟩ x0).setCell ⟨m2, 1, none⟩ x1).setCell ⟨m2, 2, none⟩ x2).setCell ⟨m2, 3, none⟩ x3).setCell ⟨m2, 4, none⟩ x4).setCell ⟨m2, 5, none⟩ x5) := by
  have hsz := six_size wr m2 x0 x1 x2 x3 x4 x5
  have htk : (ndL nk).take i = ndL nk := List.take_of_length_le (by omega)
  obtain ⟨ao, cap, e, hc, _, hr, _⟩ := OwnG.form h.own
  have hul := h.len
  obtain ⟨rfl, rfl, rfl⟩ : la = ao ∧ i = us.length ∧ lc = cap := by simpa using e
  refine ⟨⟨vo, vt, vn, vi, la, us.length, lc, vp⟩, rfl, ?_, ?_⟩
  · have hn : NdIn (fun g => m3 < g ∧ g < wr.heap.size) wr ⟨vo, vt, vn, vi, la, us.length, lc, vp⟩ ⟨vo, vt, vn, vi, foOf (ndL nk), vp⟩ := by
      refine NdIn.made vo vt vn vi vp ?_ hr ?_ hc
      · rw [← htk]
        exact h.nds.mono (fun g hg => ⟨hg.1, hg.2.1⟩)
      · intro _ ad ha
        subst ha
        have := World.ownsRow.lt h.own ad.block (own_at_head h.own rfl)
        exact ⟨this.1, this.2⟩
    rw [fo_ndL] at hn
    exact (hn.six (g := m2) (fun q => by have := q.1; omega) x0 x1 x2 x3 x4 x5).mono (fun g hg => ⟨by have := hg.1; omega, by rw [hsz]; exact hg.2⟩)
  · exact h.below.trans ((sixT wr m2 x0 x1 x2 x3 x4 x5).below h.below.size (fun g hg e => by omega))
end

set_option maxHeartbeats 3200000 in
set_option maxRecDepth 100000 in
theorem lnode_any (nd : Nd) : nd.sz ≤ 100000 → ∀ (Q : Nat → Prop) (w : World) (v : NV), NdIn Q w v nd → Calls Tryz.prog 8 #[v.val] w fun e w' => ∃ x, e = .returned x ∧ Nw w nd x w' := by
  induction nd using Nd.ind with
  | h nd ih =>
    intro hsz Q w v hv
    obtain ⟨us, hrd, _, hns, hul⟩ := hv.rows
    have hlen := hns.len
    rw [hul] at hlen
    have hkc := hv.kc
    have hl1 : v.kl ≤ 100000 := by
      have := len_sz nd.kids
      have := hv.kl
      simp only [Nd.sz] at hsz
      omega
    have hih : ∀ (i : Nat) (x : Nd), (ndL nd.kids)[i]? = some x → ∀ (u : World) (kv : NV), NdIn Q u kv x → Calls Tryz.prog 8 #[kv.val] u fun e w' => ∃ x', e = .returned x' ∧ Nw u x x' w' := by
      intro i x hx u kv hk
      have hm := List.mem_of_getElem? hx
      exact ih x hm (by have := ndL_sz _ x hm; simp only [Nd.sz] at hsz ⊢; simp only [Nd.sz] at this; omega) Q u kv hk
    obtain ⟨no, nt, nn, ni, nk, np⟩ := nd
    obtain ⟨vo, vt, vn, vi, va, vl, vc, vp⟩ := v
    obtain rfl : vo = no := hv.op
    obtain rfl : vt = nt := hv.text
    obtain rfl : vn = nn := hv.num
    obtain rfl : vi = ni := hv.id
    obtain rfl : vp = np := hv.pos
    have H : Hid (RdG encN w va us ∧ NdsIn Q w us (ndL nk) ∧ us.length = vl ∧ vl = (ndL nk).length) := ⟨hrd, hns, hul, hlen⟩
    have HI : Hid (∀ (i : Nat) (x : Nd), (ndL nk)[i]? = some x → ∀ (u : World) (kv : NV), NdIn Q u kv x → Calls Tryz.prog 8 #[kv.val] u fun e w' => ∃ x', e = .returned x' ∧ Nw u x x' w') := hih
    clear hrd hns hul hih ih hv hlen hsz
    simp only at hl1 hkc ⊢
    obtain ⟨W1, m1, hW1, hm1, hx1, bW1, _, hB1, hlt1⟩ := lay6 (Below.refl _ w) (Nat.le_refl _) 28 (.int .i64 vo) (.string ⟨vt.toArray⟩) (.int .i64 vn) (.int .u64 vi) (.slice va vl vc) (.int .i64 vp)
    obtain ⟨W2, m2, hW2, hm2, hx2, bW2, c2, hB2, hlt2⟩ := lay6 bW1 bW1.size 34 (.int .i64 0) (.string ⟨#[]⟩) (.int .i64 0) (.int .u64 0) (.slice none 0 0) (.int .i64 0)
    obtain ⟨W3, m3, hW3, hm3, hx3, bW3, c3, hB3, hlt3⟩ := lay6 bW2 bW2.size 34 (.int .i64 vo) (.string ⟨vt.toArray⟩) (.int .i64 vn) (.int .u64 vi) (.slice none 0 0) (.int .i64 vp)
    obtain ⟨s0, s1, s2, s3, s4, s5⟩ := (hx1.below c2).cells
    have HX : Hid (NoI (ndL nk) m1 m2 m3 vo vt vn vi va vl vc vp w W3 0 none 0 []) := ⟨(hx1.below c2).below c3, hx2.below c3, hx3, OwnG.nil _ _ _ _, rfl, .nil, bW3⟩
    have HM : Hid (m1 < m2 ∧ m2 < m3 ∧ w.heap.size ≤ m1) := ⟨by omega, by omega, hB1⟩
    have hm12 : ¬ m1 = m2 := by omega
    have hm13 : ¬ m1 = m3 := by omega
    have hm23 : ¬ m2 = m3 := by omega
    clear hx1 hx2 hx3 bW1 bW2 bW3 c2 c3
    go_enter Tryz.func8, Tryz.ntmps8
    go_upto_region 1 with fail
    clear hW1 hm1 hW2 hm2
    go_upto_region 2 with fail
    clear hW3 hm3 s0 s1 s2 s3 s4 s5
    go_wp2_with fail
    go_loopg [4] vl (fun g iv wr => ∃ (i : Nat) (la : Option Addr) (lc : Nat) (us : List NV), iv = .int .i64 i ∧ i + g = vl ∧ Hid (NoI (ndL nk) m1 m2 m3 vo vt vn vi va vl vc vp w wr i la lc us))
    case atStart => exact ⟨0, none, 0, [], rfl, by omega, HX.out⟩
    case round =>
      obtain ⟨i, la, lc, zs, rfl, hi, HR⟩ := hrel
      clear HX
      obtain ⟨s0, s1, s2, s3, s4, s5⟩ := HR.out.arg.cells
      by_cases hin : i < vl
      · have hii : (i : Int) < (vl : Int) := by omega
        have hi0 : (0 : Int) ≤ (i : Int) := by omega
        obtain ⟨x, hx⟩ : ∃ x, (ndL nk)[i]? = some x := ⟨_, List.getElem?_eq_getElem (by have := H.out.2.2.2; omega)⟩
        obtain ⟨kv, hkv, hkn⟩ := H.out.2.1.get hx
        have hrd := H.out.1.below HR.out.below
        obtain ⟨kb, koff, rfl, hklt⟩ := hrd.some_of hkv
        obtain ⟨k0, k1, k2, k3, k4, k5⟩ := hrd.node hkv
        have hc := HI.out i x hx wr.drew kv (hkn.below HR.out.below.drew)
        have HT : Hid ((ndL nk).take (i + 1) = (ndL nk).take i ++ [x]) := by
          show _ = _
          rw [List.take_add_one, hx]
          rfl
        clear hrd hx hkv hkn
        obtain ⟨ko, kt, kn, ki, ka, kl, kc, kp⟩ := kv
        simp only at k0 k1 k2 k3 k4 k5 hc
        have HC : Hid (Calls Tryz.prog 8 #[.agg #[.int .i64 ko, .string ⟨kt.toArray⟩, .int .i64 kn, .int .u64 ki, .slice ka kl kc, .int .i64 kp]] wr.drew fun e w' => ∃ x', e = .returned x' ∧ Nw wr.drew x x' w') := hc
        clear hc
        obtain ⟨d0, d1, d2, d3, d4, d5⟩ := HR.out.box.cells
        have hlm := HR.out.box.lt
        go_wp2_with fail
        go_region_law
          (first
            | (refine step_callB rfl (.tmp 29) 8 #[28] rfl enters_lNode (.agg #[.int .i64 ko, .string ⟨kt.toArray⟩, .int .i64 kn, .int .u64 ki, .slice ka kl kc, .int .i64 kp]) (by simp [Act.eval]) (Nw wr.drew x) HC.out ?_; rintro v3 w3 ⟨⟨o3, y3, n3, j3, a3, l3, c3, p3⟩, rfl, hn3, hb3⟩; have HN : Hid (NdIn (Bt wr.drew.heap.size w3.heap.size) w3 ⟨o3, y3, n3, j3, a3, l3, c3, p3⟩ x ∧ Below wr.heap.size wr w3) := ⟨hn3, undrewB hb3⟩; clear hn3 hb3; have e4 := (HR.out.box.below HN.out.2).cells.2.2.2.2.1; have f4 := ((HR.out.box.below HN.out.2).below (bz1 w3 (.cells #[.int .i64 o3, .string ⟨y3.toArray⟩, .int .i64 n3, .int .u64 j3, .slice a3 l3 c3, .int .i64 p3] 34))).cells.2.2.2.2.1; simp only [])
            | (refine stepG_at encN 34 32 72 (.agg #[.int .i64 0, .string ⟨#[]⟩, .int .i64 0, .int .u64 0, .slice none 0 0, .int .i64 0]) rfl infoR Tryz.underlying32 rfl (.tmp 24) (.tmp 31) rfl (m3 + 1) (.slice la i lc) zs ⟨o3, y3, n3, j3, a3, l3, c3, p3⟩ (by simp [Act.eval]) ((HR.out.own.below HN.out.2).below (bz1 w3 _)) w3.heap.size (by simp [Act.eval]) (cells_new encN w3 ⟨o3, y3, n3, j3, a3, l3, c3, p3⟩ 34) (by have := HR.out.len; omega) (by have := HR.out.len; simp only [maxLen]; omega) (by have := HN.out.2.size; simp; omega) ?_; intro v4 w4 ho4 hb4 hm4 ht4; obtain ⟨a4, c4, e4, q4, _, r4, _⟩ := OwnG.form ho4; rw [show (zs ++ [(⟨o3, y3, n3, j3, a3, l3, c3, p3⟩ : NV)]).length = i + 1 by rw [List.length_append, HR.out.len]; rfl] at e4; subst e4; have B4 := (HR.out.below).trans ((HN.out.2.mono HR.out.below.size).trans (((bz1 w3 (.cells #[.int .i64 o3, .string ⟨y3.toArray⟩, .int .i64 n3, .int .u64 j3, .slice a3 l3 c3, .int .i64 p3] 34)).mono (by have := HN.out.2.size; have := HR.out.below.size; omega)).trans (hb4.mono (by have := HR.out.box.lt; have := HM.out; omega)))); have X4 : Hid (Box6 w4 m1 28 (.int .i64 vo) (.string ⟨vt.toArray⟩) (.int .i64 vn) (.int .u64 vi) (.slice (some ⟨kb, koff, none⟩) vl vc) (.int .i64 vp) ∧ Box6 w4 m2 34 (.int .i64 0) (.string ⟨#[]⟩) (.int .i64 0) (.int .u64 0) (.slice none 0 0) (.int .i64 0) ∧ Box6 w4 m3 34 (.int .i64 vo) (.string ⟨vt.toArray⟩) (.int .i64 vn) (.int .u64 vi) (.slice la i lc) (.int .i64 vp) ∧ OwnG encN 34 w4 (m3 + 1) (.slice a4 (i + 1) c4) (zs ++ [(⟨o3, y3, n3, j3, a3, l3, c3, p3⟩ : NV)]) ∧ NdsIn (fun g => m3 < g ∧ g < w4.heap.size ∧ (Value.slice a4 (i + 1) c4).ownBlock ≠ some g) w4 (zs ++ [(⟨o3, y3, n3, j3, a3, l3, c3, p3⟩ : NV)]) ((ndL nk).take (i + 1)) ∧ Below w.heap.size w w4) := node_mid HR.out HN.out.1 HN.out.2 ho4 hb4 hm4 ht4 HT.out HM.out B4; obtain ⟨_, _, _, _, z4, _⟩ := X4.out.2.2.1.cells; obtain ⟨_, _, _, _, g4, _⟩ := X4.out.2.2.1.thaw; clear ho4 hb4 hm4 ht4 B4 q4 r4))
        all_goals
          go_wp2
          go_roundg (gk - 1)
          case measure => omega
          case rel => exact ⟨i + 1, a4, c4, _, by go_num, by omega, node_next X4.out HM.out (by rw [List.length_append, HR.out.len]; rfl)⟩
      · obtain rfl : i = vl := by omega
        obtain ⟨d0, d1, d2, d3, d4, d5⟩ := HR.out.box.cells
        obtain ⟨e0, e1, e2, e3, e4, e5⟩ := HR.out.res.cells
        obtain ⟨g0, g1, g2, g3, g4, g5⟩ := HR.out.res.thaw
        go_wp2
        refine bodyPost_ret (v := .agg #[.int .i64 vo, .string ⟨vt.toArray⟩, .int .i64 vn, .int .u64 vi, .slice la i lc, .int .i64 vp]) ?_ rfl ?_
        · simp [results, Tryz.f8]
          go_simp
        · exact ⟨_, rfl, node_last HR.out HM.out H.out.2.2.2 _ _ _ _ _ _⟩

end Go.Proofs.YtijchmcajhdcoaaGreatDoor

/-!
  The reference's Same of trees that are alike, by a contract. No condition but that a tree has not too many nodes.
-/
namespace Go.Proofs.YtijchmcajhdcoaaGreatDoor
open Go.RowKit

theorem ndL_e : ∀ f : Fo, ndL f.e = (ndL f).map Nd.e
  | .nil => rfl
  | .cons op text num id kids pos next => by
    simp only [Fo.e, ndL, List.map_cons, ndL_e next]
    rfl

/-- Alike: but for the places, or in all. -/
def Al (pl : Bool) (x y : Nd) : Prop := x.e = y.e ∧ (pl = true → x = y)
theorem Al.kids {pl : Bool} {x y : Nd} (h : Al pl x y) : (ndL x.kids).length = (ndL y.kids).length ∧ ∀ (i : Nat) (k : Nd), (ndL x.kids)[i]? = some k → ∃ j, (ndL y.kids)[i]? = some j ∧ Al pl k j := by
  have he : x.kids.e = y.kids.e := congrArg Nd.kids h.1
  have hm : (ndL x.kids).map Nd.e = (ndL y.kids).map Nd.e := by rw [← ndL_e, ← ndL_e, he]
  refine ⟨by simpa using congrArg List.length hm, fun i k hk => ?_⟩
  have h1 := congrArg (fun l => l[i]?) hm
  simp only [List.getElem?_map, hk, Option.map_some] at h1
  cases hj : (ndL y.kids)[i]? with
  | none => rw [hj] at h1; cases h1
  | some j =>
    rw [hj] at h1
    refine ⟨j, rfl, by simpa using h1, fun q => ?_⟩
    have := h.2 q
    subst this
    rw [hk] at hj
    exact Option.some.inj hj

set_option maxHeartbeats 3200000 in
set_option maxRecDepth 100000 in
theorem rsame_any (nd : Nd) : nd.sz ≤ 100000 → ∀ (md : Nd) (pl : Bool), Al pl nd md → ∀ (Q R : Nat → Prop) (w : World) (v u : NV), NdIn Q w v nd → NdIn R w u md → Calls Tryz.prog 7 #[v.val, u.val, .bool pl] w fun e w' => e = .returned (.bool true) ∧ Below w.heap.size w w' := by
  induction nd using Nd.ind with
  | h nd ih =>
    intro hsz md pl hal Q R w v u hv hu
    obtain ⟨us, hrd, _, hns, hul⟩ := hv.rows
    obtain ⟨ys, hrd', _, hns', hul'⟩ := hu.rows
    have hlen := hns.len
    rw [hul] at hlen
    have hlen' := hns'.len
    rw [hul'] at hlen'
    obtain ⟨hkl, hks⟩ := hal.kids
    have hkc := hv.kc
    have hkc' := hu.kc
    have hl1 : v.kl ≤ 100000 := by
      have := len_sz nd.kids
      have := hv.kl
      simp only [Nd.sz] at hsz
      omega
    have hih : ∀ (i : Nat) (x y : Nd), (ndL nd.kids)[i]? = some x → Al pl x y → ∀ (W : World) (kv ku : NV), NdIn Q W kv x → NdIn R W ku y → Calls Tryz.prog 7 #[kv.val, ku.val, .bool pl] W fun e w' => e = .returned (.bool true) ∧ Below W.heap.size W w' := by
      intro i x y hx hy W kv ku hk hk'
      have hm := List.mem_of_getElem? hx
      exact ih x hm (by have := ndL_sz _ x hm; simp only [Nd.sz] at hsz ⊢; simp only [Nd.sz] at this; omega) y pl hy Q R W kv ku hk hk'
    have hpp : pl = true → v.pos = u.pos := fun q => by rw [hv.pos, hu.pos, hal.2 q]
    have e1 : v.op = u.op := by rw [hv.op, hu.op]; exact (congrArg Nd.op hal.1 : nd.e.op = md.e.op)
    have e2 : v.text = u.text := by rw [hv.text, hu.text]; exact (congrArg Nd.text hal.1 : nd.e.text = md.e.text)
    have e3 : v.num = u.num := by rw [hv.num, hu.num]; exact (congrArg Nd.num hal.1 : nd.e.num = md.e.num)
    have e4 : v.id = u.id := by rw [hv.id, hu.id]; exact (congrArg Nd.id hal.1 : nd.e.id = md.e.id)
    have HK : Hid (∀ (i : Nat) (k : Nd), (ndL nd.kids)[i]? = some k → ∃ j, (ndL md.kids)[i]? = some j ∧ Al pl k j) := hks
    obtain ⟨no, nt, nn, ni, nk, np⟩ := nd
    obtain ⟨mo, mt, mn, mi, mk, mp⟩ := md
    obtain ⟨vo, vt, vn, vi, va, vl, vc, vp⟩ := v
    obtain ⟨uo, ut, un, ui, ua, ul, uc, up⟩ := u
    simp only at e1 e2 e3 e4 hul hul' hlen hlen' hkl hpp hkc hkc' hl1 hrd hrd' HK
    subst e1 e2 e3 e4
    obtain rfl : vl = ul := by omega
    have H : Hid (RdG encN w va us ∧ NdsIn Q w us (ndL nk) ∧ us.length = vl ∧ vl = (ndL nk).length) := ⟨hrd, hns, hul, hlen⟩
    have H' : Hid (RdG encN w ua ys ∧ NdsIn R w ys (ndL mk)) := ⟨hrd', hns'⟩
    have HI : Hid (∀ (i : Nat) (x y : Nd), (ndL nk)[i]? = some x → Al pl x y → ∀ (W : World) (kv ku : NV), NdIn Q W kv x → NdIn R W ku y → Calls Tryz.prog 7 #[kv.val, ku.val, .bool pl] W fun e w' => e = .returned (.bool true) ∧ Below W.heap.size W w') := hih
    clear hrd hrd' hns hns' hul hul' hih ih hv hu hlen hlen' hkl hks hsz hal
    obtain ⟨W1, m1, hW1, hm1, hx1, bW1, _, hB1, hlt1⟩ := lay6 (Below.refl _ w) (Nat.le_refl _) 34 (.int .i64 vo) (.string ⟨vt.toArray⟩) (.int .i64 vn) (.int .u64 vi) (.slice va vl vc) (.int .i64 vp)
    obtain ⟨W2, m2, hW2, hm2, hx2, bW2, c2, hB2, hlt2⟩ := lay6 bW1 bW1.size 34 (.int .i64 vo) (.string ⟨vt.toArray⟩) (.int .i64 vn) (.int .u64 vi) (.slice ua vl uc) (.int .i64 up)
    have HX : Hid (Box6 W2 m1 34 (.int .i64 vo) (.string ⟨vt.toArray⟩) (.int .i64 vn) (.int .u64 vi) (.slice va vl vc) (.int .i64 vp) ∧ Box6 W2 m2 34 (.int .i64 vo) (.string ⟨vt.toArray⟩) (.int .i64 vn) (.int .u64 vi) (.slice ua vl uc) (.int .i64 up) ∧ Below w.heap.size w W2) := ⟨hx1.below c2, hx2, bW2⟩
    obtain ⟨s0, s1, s2, s3, s4, s5⟩ := HX.out.1.cells
    obtain ⟨q0, q1, q2, q3, q4, q5⟩ := HX.out.2.1.cells
    clear hx1 hx2 bW1 bW2 c2
    cases pl
    all_goals
      first
        | (obtain rfl : vp = up := hpp rfl)
        | clear hpp
      go_enter Tryz.func7, Tryz.ntmps7
      go_upto_region 1 with fail
      clear hW1 hm1 hW2 hm2
      go_wp2_with fail
      clear s0 s1 s2 s3 s4 s5 q0 q1 q2 q3 q4 q5
      go_loopg [7] vl (fun g iv wr => ∃ (i : Nat), iv = .int .i64 i ∧ i + g = vl ∧ Hid (Below W2.heap.size W2 wr))
      case atStart => exact ⟨0, rfl, by omega, Below.refl _ _⟩
      case round =>
        obtain ⟨i, rfl, hi, HB2⟩ := hrel
        have HB : Hid (Below w.heap.size w wr) := HX.out.2.2.trans (HB2.out.mono HX.out.2.2.size)
        obtain ⟨s0, s1, s2, s3, s4, s5⟩ := (HX.out.1.below HB2.out).cells
        obtain ⟨q0, q1, q2, q3, q4, q5⟩ := (HX.out.2.1.below HB2.out).cells
        by_cases hin : i < vl
        · have hii : (i : Int) < (vl : Int) := by omega
          have hi0 : (0 : Int) ≤ (i : Int) := by omega
          obtain ⟨x, hx⟩ : ∃ x, (ndL nk)[i]? = some x := ⟨_, List.getElem?_eq_getElem (by have := H.out.2.2.2; omega)⟩
          obtain ⟨y, hy, hxy⟩ := HK.out i x hx
          obtain ⟨kv, hkv, hkn⟩ := H.out.2.1.get hx
          obtain ⟨ku, hku, hkm⟩ := H'.out.2.get hy
          have hrd := H.out.1.below HB.out
          have hrd' := H'.out.1.below HB.out
          obtain ⟨kb, koff, rfl, _⟩ := hrd.some_of hkv
          obtain ⟨jb, joff, rfl, _⟩ := hrd'.some_of hku
          obtain ⟨k0, k1, k2, k3, k4, k5⟩ := hrd.node hkv
          obtain ⟨j0, j1, j2, j3, j4, j5⟩ := hrd'.node hku
          have hc := HI.out i x y hx hxy wr.drew kv ku (hkn.below HB.out.drew) (hkm.below HB.out.drew)
          have kn0 := fun (U : World) (hU : Below wr.heap.size wr U) => (hrd.below hU).node hkv
          have kn1 := fun (U : World) (hU : Below wr.heap.size wr U) => (hrd'.below hU).node hku
          clear hrd hrd' hx hy hkv hkn hku hkm hxy
          obtain ⟨ko, kt, kn, ki, ka, kl, kc, kp⟩ := kv
          obtain ⟨jo, jt, jn, ji, ja, jl, jc, jp⟩ := ku
          simp only at k0 k1 k2 k3 k4 k5 j0 j1 j2 j3 j4 j5 hc kn0 kn1
          have KS : Hid (∀ U, Below wr.heap.size wr U → U.cell? ⟨m1, 4, none⟩ = some (.slice (some ⟨kb, koff, none⟩) vl vc) ∧ U.cell? ⟨m2, 4, none⟩ = some (.slice (some ⟨jb, joff, none⟩) vl uc) ∧ U.cell? ⟨kb, koff + i * 6, none⟩ = some (.int .i64 ko) ∧ U.cell? ⟨kb, koff + i * 6 + 1, none⟩ = some (.string ⟨kt.toArray⟩) ∧ U.cell? ⟨kb, koff + i * 6 + 2, none⟩ = some (.int .i64 kn) ∧ U.cell? ⟨kb, koff + i * 6 + 3, none⟩ = some (.int .u64 ki) ∧ U.cell? ⟨kb, koff + i * 6 + 4, none⟩ = some (.slice ka kl kc) ∧ U.cell? ⟨kb, koff + i * 6 + 5, none⟩ = some (.int .i64 kp) ∧ U.cell? ⟨jb, joff + i * 6, none⟩ = some (.int .i64 jo) ∧ U.cell? ⟨jb, joff + i * 6 + 1, none⟩ = some (.string ⟨jt.toArray⟩) ∧ U.cell? ⟨jb, joff + i * 6 + 2, none⟩ = some (.int .i64 jn) ∧ U.cell? ⟨jb, joff + i * 6 + 3, none⟩ = some (.int .u64 ji) ∧ U.cell? ⟨jb, joff + i * 6 + 4, none⟩ = some (.slice ja jl jc) ∧ U.cell? ⟨jb, joff + i * 6 + 5, none⟩ = some (.int .i64 jp)) := fun U hU => by
            obtain ⟨a0, a1, a2, a3, a4, a5⟩ := kn0 U hU
            obtain ⟨b0, b1, b2, b3, b4, b5⟩ := kn1 U hU
            exact ⟨((HX.out.1.below HB2.out).below hU).cells.2.2.2.2.1, ((HX.out.2.1.below HB2.out).below hU).cells.2.2.2.2.1, a0, a1, a2, a3, a4, a5, b0, b1, b2, b3, b4, b5⟩
          clear kn0 kn1
          have HC : Hid (Calls Tryz.prog 7 _ _ _) := hc
          clear hc
          go_wp2_with fail
          go_region_held3 (fun W => W.cell? ⟨m1, 4, none⟩ = some (.slice (some ⟨kb, koff, none⟩) vl vc) ∧ W.cell? ⟨m2, 4, none⟩ = some (.slice (some ⟨jb, joff, none⟩) vl uc) ∧
              W.cell? ⟨kb, koff + i * 6, none⟩ = some (.int .i64 ko) ∧ W.cell? ⟨kb, koff + i * 6 + 1, none⟩ = some (.string ⟨kt.toArray⟩) ∧ W.cell? ⟨kb, koff + i * 6 + 2, none⟩ = some (.int .i64 kn) ∧ W.cell? ⟨kb, koff + i * 6 + 3, none⟩ = some (.int .u64 ki) ∧ W.cell? ⟨kb, koff + i * 6 + 4, none⟩ = some (.slice ka kl kc) ∧ W.cell? ⟨kb, koff + i * 6 + 5, none⟩ = some (.int .i64 kp) ∧
              W.cell? ⟨jb, joff + i * 6, none⟩ = some (.int .i64 jo) ∧ W.cell? ⟨jb, joff + i * 6 + 1, none⟩ = some (.string ⟨jt.toArray⟩) ∧ W.cell? ⟨jb, joff + i * 6 + 2, none⟩ = some (.int .i64 jn) ∧ W.cell? ⟨jb, joff + i * 6 + 3, none⟩ = some (.int .u64 ji) ∧ W.cell? ⟨jb, joff + i * 6 + 4, none⟩ = some (.slice ja jl jc) ∧ W.cell? ⟨jb, joff + i * 6 + 5, none⟩ = some (.int .i64 jp))
            (first | with_reducible exact kS | go_keep)
            (first | (go_at_call 7; (with_reducible refine HC.out.mono ?_); rintro e w3 ⟨rfl, b3⟩; have HB3 : Hid (Below W2.heap.size W2 w3) := HB2.out.trans ((undrewB b3).mono HB2.out.size); have kS := KS.out _ (undrewB b3); clear b3))
          go_wp2_with fail
          go_roundg (gk - 1)
          case measure => omega
          case rel => exact ⟨i + 1, by go_num, by omega, HB3.out⟩
        · obtain rfl : i = vl := by omega
          go_wp2_with fail
          go_ret
          exact ⟨rfl, HB.out⟩

end Go.Proofs.YtijchmcajhdcoaaGreatDoor
