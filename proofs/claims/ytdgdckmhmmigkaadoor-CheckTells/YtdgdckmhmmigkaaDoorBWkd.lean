/-
  parse.writeKids by a contract, over write's of the kids. No condition but that a tree isn't too great.
-/
import Derived.Test.YtdgdckmhmmigkaaDoorJSpa
import Derived.Test.YtdgdckmhmmigkaaDoorBRow
import Derived.Test.YtdgdckmhmmigkaaDoorELBld
namespace Go.Proofs.YtdgdckmhmmigkaaDoor
open Go.RowKit

/-- What the program's variables hold lies below a number. -/
def Gb (B : Nat) (w : World) : Prop := ∃ w0, Gl w0 ∧ Inf w0 ∧ w0.heap.size ≤ B ∧ Below w0.heap.size w0 w
theorem Gb.gl {B : Nat} {w : World} (h : Gb B w) : Gl w := by
  obtain ⟨w0, g, _, _, b⟩ := h
  exact g.below b
theorem Gb.inf {B : Nat} {w : World} (h : Gb B w) : Inf w := by
  obtain ⟨w0, _, g, _, b⟩ := h
  exact g.below b
theorem Gb.on {B : Nat} {w w' : World} (h : Gb B w) (hb : Below B w w') : Gb B w' := by
  obtain ⟨w0, g, i, hl, b⟩ := h
  exact ⟨w0, g, i, hl, b.trans (hb.mono hl)⟩
theorem Gb.of {w : World} (hg : Gl w) (hi : Inf w) {B : Nat} (hB : w.heap.size ≤ B) {w' : World} (hb : Below w.heap.size w w') : Gb B w' := ⟨w, hg, hi, hB, hb⟩
theorem NdIn.onB {B : Nat} {w w' : World} {v : NV} {n : Nd} (h : NdIn (fun g => g < B) w v n) (hb : Below B w w') : NdIn (fun g => g < B) w' v n := h.turned (turnB hb) (fun g hg q => by omega)
theorem NdsIn.onB {B : Nat} {w w' : World} {vs : List NV} {ns : List Nd} (h : NdsIn (fun g => g < B) w vs ns) (hb : Below B w w') : NdsIn (fun g => g < B) w' vs ns := h.turned (turnB hb) (fun g hg q => by omega)
theorem okept {e : TypeId} {b : Option Nat} {w w' : World} (h : Below w.heap.size w w') : Lib.OthersKept e b w w' := by
  intro k o hk _ _
  rw [h.block k (Array.getElem?_eq_some_iff.1 hk).1]
  exact hk
theorem Box6.kept {w w' : World} {B b : Nat} {t : TypeId} {a1 a2 a3 a4 a5 a6 : Value} (h : Box6 w B t a1 a2 a3 a4 a5 a6) (k : Lib.OthersKept 5 (some b) w w') (hb : ¬ B = b) (ht : t ≠ 5) : Box6 w' B t a1 a2 a3 a4 a5 a6 := by
  refine k B _ h ?_ ?_
  · simpa using hb
  · intro c fz q
    injection q with _ h2 _
    exact ht h2

/-- write of a tree, wherever the builder stands. -/
def PW (nd : Nd) : Prop := ∀ (B b : Nat) (l : Bs) (w : World) (v : NV), Bd B b l w → B ≤ w.heap.size → NdIn (fun g => g < B) w v nd → Gb B w → l.length + 2 * nd.wt ≤ 4000000 → nd.wt ≤ 90000 →
  Calls Tryd.prog 23 #[.pointer (some ⟨b, 0, none⟩), v.val] w fun e w' => e = .returned (.tuple #[]) ∧ Bd B b (l ++ txt nd.ps) w' ∧ Below B w w' ∧ Lib.OthersKept 5 (some b) w w'

theorem kt_get {nd : Nd} {i : Nat} {x : Nd} (h : (ndL nd.kids)[i]? = some x) : nd.kt[i]? = some (x.op, txt x.ps) := by
  unfold Nd.kt
  rw [List.getElem?_map, h]
  rfl
theorem kt_len (nd : Nd) : nd.kt.length = (ndL nd.kids).length := by simp [Nd.kt]
theorem sum_mono {α : Type} (l : List α) (f g : α → Nat) (h : ∀ x ∈ l, f x ≤ g x) : (l.map f).sum ≤ (l.map g).sum := sum_le l f g h
/-- What is written ahead of a kid, and the kid twice, is no more than twice what the kids weigh. -/
theorem pre_len {nd : Nd} (hw : WfT nd) (bt : Bs) (f o : Int) (hb : bt.length ≤ 3) {i : Nat} {x : Nd} (h : (ndL nd.kids)[i]? = some x) : (wk bt f o (nd.kt.take i)).length + 5 + 2 * x.wt ≤ 2 * fw nd.kids := by
  have h1 := wk_len bt f o 5 (by omega) (nd.kt.take i)
  have h2 : ((nd.kt.take i).map fun k => k.2.length + 5).sum ≤ (((ndL nd.kids).take i).map fun k => 2 * (k.wt + 4)).sum := by
    unfold Nd.kt
    rw [← List.map_take, List.map_map]
    refine sum_le _ _ _ (fun y hy => ?_)
    have := shown_len y (wf_kids _ hw.2 y (List.mem_of_mem_take hy))
    simp only [Function.comp]
    have : 32 ≤ y.wt := by unfold Nd.wt; omega
    omega
  have h3 : (((ndL nd.kids).take (i + 1)).map fun k => 2 * (k.wt + 4)).sum ≤ 2 * fw nd.kids := by
    rw [fw_kids]
    have e : ∀ l : List Nd, (l.map fun k => 2 * (k.wt + 4)).sum = 2 * (l.map fun k => k.wt + 4).sum := by
      intro l
      induction l with
      | nil => rfl
      | cons a l ih => simp only [List.map_cons, List.sum_cons, ih]; omega
    rw [e]
    have := congrArg (fun l => (List.map (fun k : Nd => k.wt + 4) l).sum) (List.take_append_drop (i + 1) (ndL nd.kids))
    simp only [List.map_append, List.sum_append] at this
    omega
  rw [List.take_add_one, h] at h3
  simp only [List.map_append, List.sum_append, Option.toList_some, List.map_cons, List.map_nil, List.sum_cons, List.sum_nil] at h3
  omega

set_option maxHeartbeats 3200000 in
set_option maxRecDepth 100000 in
theorem wkids_any (nd : Nd) (hw : WfT nd) (hP : ∀ k ∈ ndL nd.kids, PW k) (bt : Bs) (hbt : bt.length ≤ 3) (ff oo : Int) (B b : Nat) (l : Bs) (w : World) (v : NV) (hB : Bd B b l w) (hBw : B ≤ w.heap.size) (hv : NdIn (fun g => g < B) w v nd) (hG : Gb B w) (hlen : l.length + 2 * fw nd.kids ≤ 4000000) (hwt : nd.wt ≤ 90000) :
    Calls Tryd.prog 33 #[.pointer (some ⟨b, 0, none⟩), v.val, .string ⟨bt.toArray⟩, .int .i64 ff, .int .i64 oo] w fun e w' => e = .returned (.tuple #[]) ∧ Bd B b (l ++ wk bt ff oo nd.kt) w' ∧ Below B w w' ∧ Lib.OthersKept 5 (some b) w w' := by
  obtain ⟨us, hrd, hub, hns, hul⟩ := hv.rows
  have hlen2 := hns.len
  rw [hul] at hlen2
  have hkc := hv.kc
  have hl1 : v.kl ≤ 4000000 := by
    have h1 := len_sz nd.kids
    have h2 := nd.wt_sz
    have h3 := hv.kl
    simp only [Nd.sz] at h2
    omega
  have hbw : b < w.heap.size := hB.lt
  have hfw : fw nd.kids + 32 ≤ nd.wt := by have : nd.wt = nd.text.length + 32 + fw nd.kids := rfl; omega
  have H : Hid (RdG encN w v.ka us ∧ NdsIn (fun g => g < B) w us (ndL nd.kids) ∧ us.length = v.kl ∧ v.kl = (ndL nd.kids).length ∧ (∀ k ∈ ndL nd.kids, PW k) ∧ Gb B w ∧ WfT nd ∧ (0 < us.length → ∀ a, v.ka = some a → a.block < B)) := ⟨hrd, hns, hul, hlen2, hP, hG, hw, hub⟩
  have HB : Hid (Bd B b l w) := hB
  clear hrd hns hul hlen2 hP hG hw hv hB hub
  obtain ⟨vo, vt, vn, vi, va, vl, vc, vp⟩ := v
  simp only at H hl1 hkc ⊢
  obtain ⟨W1, m6, hW1, hm6, hx1, bW1, _, hB1, hlt1⟩ := lay6 (Below.refl _ w) (Nat.le_refl _) 28 (.int .i64 vo) (.string ⟨vt.toArray⟩) (.int .i64 vn) (.int .u64 vi) (.slice va vl vc) (.int .i64 vp)
  obtain ⟨d0, d1, d2, d3, d4, d5⟩ := hx1.cells
  have H1 : Hid (Below w.heap.size w W1) := bW1
  clear hx1 bW1
  go_enter Tryd.func33, Tryd.ntmps33
  go_upto_region 1 with fail
  clear hW1 hm6
  go_wp2_with fail
  clear d0 d1 d2 d3 d4 d5
  go_loopg [10, 17] vl (fun g wv iv wr => ∃ (i : Nat), iv = .int .i64 i ∧ i + g = vl ∧ Hid (i = 0 → wv = .int .i64 ff) ∧ Hid (Bd B b (l ++ wk bt ff oo (nd.kt.take i)) wr ∧ Below B w wr ∧ Lib.OthersKept 5 (some b) w wr ∧ w.heap.size ≤ wr.heap.size))
  case atStart => exact ⟨0, rfl, by omega, fun _ => rfl, by rw [List.take_zero]; show Bd B b (l ++ []) _; rw [List.append_nil]; exact HB.out.below H1.out, H1.out.mono hBw, okept H1.out, H1.out.size⟩
  case round =>
    obtain ⟨i, rfl, hi, HWV, HI⟩ := hrel
    by_cases hin : i < vl
    · have hii : (i : Int) < (vl : Int) := by omega
      have hi0 : (0 : Int) ≤ (i : Int) := by omega
      obtain ⟨x, hx⟩ : ∃ x, (ndL nd.kids)[i]? = some x := ⟨_, List.getElem?_eq_getElem (by have := H.out.2.2.2.1; omega)⟩
      obtain ⟨kv, hkv, hkn⟩ := (H.out.2.1.onB HI.out.2.1).get hx
      obtain ⟨kb, koff, rfl, hkb⟩ := H.out.1.some_of hkv
      have hkB : kb < B := H.out.2.2.2.2.2.2.2 (by have := (List.getElem?_eq_some_iff.1 hkv).1; omega) _ rfl
      have hrd : RdG encN wr (some ⟨kb, koff, none⟩) us := H.out.1.turnN (turnB HI.out.2.1) (fun _ a e => by cases e; show ¬ B ≤ kb; omega)
      obtain ⟨k0, k1, k2, k3, k4, k5⟩ := hrd.node hkv
      have hpl := pre_len H.out.2.2.2.2.2.2.1 bt ff oo hbt hx
      have hpw := H.out.2.2.2.2.1 x (List.mem_of_getElem? hx)
      have HK : Hid (wk bt ff oo (nd.kt.take (i + 1)) = wk bt ff oo (nd.kt.take i) ++ (if i = 0 then brk ff (x.op, txt x.ps) else bt ++ brk oo (x.op, txt x.ps)) ∧ kv.op = x.op ∧ NdIn (fun g => g < B) wr kv x ∧ PW x ∧ (wk bt ff oo (nd.kt.take i)).length + 5 + 2 * x.wt ≤ 2 * fw nd.kids) := ⟨wk_take bt ff oo (kt_get hx), hkn.op, hkn, hpw, hpl⟩
      have hxl := shown_len x (wf_kids _ H.out.2.2.2.2.2.2.1.2 x (List.mem_of_getElem? hx))
      clear hrd hx hkv hkn hpl hpw hkb
      obtain ⟨ko, kt, kn, ki, ka, kl, kc, kp⟩ := kv
      simp only at k0 k1 k2 k3 k4 k5
      have hox : x.op = ko := HK.out.2.1.symm
      obtain ⟨P, hP⟩ : ∃ P, wk bt ff oo (nd.kt.take i) = P := ⟨_, rfl⟩
      rw [hP, hox] at HK
      rw [hP] at HI
      clear hP hox
      obtain ⟨W2, m8, hW2, hm8, hx2, bW2, _, hB2, hlt2⟩ := lay6 (Below.refl _ wr) (Nat.le_refl _) 28 (.int .i64 ko) (.string ⟨kt.toArray⟩) (.int .i64 kn) (.int .u64 ki) (.slice ka kl kc) (.int .i64 kp)
      have hbm : ¬ m8 = b := by have := HI.out.2.2.2; omega
      have H2 : Hid (Bd B b (l ++ P) W2 ∧ Below B w W2 ∧ Lib.OthersKept 5 (some b) w W2 ∧ w.heap.size ≤ W2.heap.size ∧ Box6 W2 m8 28 (.int .i64 ko) (.string ⟨kt.toArray⟩) (.int .i64 kn) (.int .u64 ki) (.slice ka kl kc) (.int .i64 kp)) :=
        ⟨HI.out.1.below bW2, HI.out.2.1.trans (bW2.mono (by have := HI.out.2.2.2; omega)), HI.out.2.2.1.trans (okept bW2), by have := HI.out.2.2.2; have := bW2.size; omega, hx2⟩
      have HKN : Hid (NdIn (fun g => g < B) W2 ⟨ko, kt, kn, ki, ka, kl, kc, kp⟩ x ∧ Gb B W2) := ⟨HK.out.2.2.1.below bW2, H.out.2.2.2.2.2.1.on (HI.out.2.1.trans (bW2.mono (by have := HI.out.2.2.2; omega)))⟩
      obtain ⟨L, hL⟩ : ∃ L, lvl ko = L := ⟨_, rfl⟩
      have hkl : P.length + 5 + 2 * x.wt ≤ 2 * fw nd.kids := HK.out.2.2.2.2
      have hBW2 : B ≤ W2.heap.size := by have := HI.out.2.2.2; have := bW2.size; omega
      have HW : Hid (Bd B b (l ++ P) W2 ∧ Below B W2 W2 ∧ Lib.OthersKept 5 (some b) W2 W2 ∧ W2.heap.size ≤ W2.heap.size) := ⟨H2.out.1, Below.refl _ _, Lib.OthersKept.refl _ _ _, Nat.le_refl _⟩
      clear hx2 bW2
      obtain ⟨e0, e1, e2, e3, e4, e5⟩ := H2.out.2.2.2.2.cells
      go_upto_region 5 with fail
      clear hW2 hm8
      by_cases h0 : i = 0
      · have hw0 : u10 = .int .i64 ff := HWV.out h0
        subst hw0
        have h0i : ¬ (0 : Int) < (i : Int) := by omega
        have H0 : Hid (i = 0) := h0
        clear h0 HWV
        go_wp2_with fail
        refine (level_any ko _ (HKN.out.2.on HW.out.2.1).inf).mono ?_
        rintro e w4 ⟨rfl, b9⟩
        rw [hL]
        have HW9 : Hid (Bd B b (l ++ P) w4 ∧ Below B W2 w4 ∧ Lib.OthersKept 5 (some b) W2 w4 ∧ W2.heap.size ≤ w4.heap.size) := ⟨HW.out.1.below b9, HW.out.2.1.trans (b9.mono (by have := HW.out.2.2.2; omega)), HW.out.2.2.1.trans (okept b9), by have := HW.out.2.2.2; have := b9.size; omega⟩
        clear HW b9 e0 e1 e2 e3 e4 e5
        have HW := HW9
        clear HW9
        have x9 := (H2.out.2.2.2.2).kept HW.out.2.2.1 hbm (by decide)
        obtain ⟨e0, e1, e2, e3, e4, e5⟩ := x9.cells
        clear x9
        by_cases hq : L < ff
        · have hq1 : ¬ ff ≤ L := by omega
          go_wp2_with fail
          refine (write_any B b (l ++ P) ⟨([40] : Bs).toArray⟩ _ HW.out.1 (by show (l ++ P).length + ([40] : Bs).length ≤ _; simp; omega) (by have := HW.out.2.2.2; omega)).mono ?_
          rintro e w5 ⟨rfl, hB9, hb9, hk9⟩
          have HW9 : Hid (Bd B b (l ++ P ++ [40]) w5 ∧ Below B W2 w5 ∧ Lib.OthersKept 5 (some b) W2 w5 ∧ W2.heap.size ≤ w5.heap.size) := ⟨hB9, HW.out.2.1.trans hb9, HW.out.2.2.1.trans hk9, by have := HW.out.2.2.2; have := hb9.size; omega⟩
          clear HW hB9 hb9 hk9 e0 e1 e2 e3 e4 e5
          have HW := HW9
          clear HW9
          have x9 := (H2.out.2.2.2.2).kept HW.out.2.2.1 hbm (by decide)
          obtain ⟨e0, e1, e2, e3, e4, e5⟩ := x9.cells
          clear x9
          go_wp2_with fail
          refine (HK.out.2.2.2.1 B b (l ++ P ++ [40]) _ ⟨ko, kt, kn, ki, ka, kl, kc, kp⟩ HW.out.1 (by have := HW.out.2.2.2; omega) (HKN.out.1.onB HW.out.2.1) (HKN.out.2.on HW.out.2.1) (by simp; omega) (by omega)).mono ?_
          rintro e w6 ⟨rfl, hB9, hb9, hk9⟩
          have HW9 : Hid (Bd B b (l ++ P ++ [40] ++ txt x.ps) w6 ∧ Below B W2 w6 ∧ Lib.OthersKept 5 (some b) W2 w6 ∧ W2.heap.size ≤ w6.heap.size) := ⟨hB9, HW.out.2.1.trans hb9, HW.out.2.2.1.trans hk9, by have := HW.out.2.2.2; have := hb9.size; omega⟩
          clear HW hB9 hb9 hk9 e0 e1 e2 e3 e4 e5
          have HW := HW9
          clear HW9
          have x9 := (H2.out.2.2.2.2).kept HW.out.2.2.1 hbm (by decide)
          obtain ⟨e0, e1, e2, e3, e4, e5⟩ := x9.cells
          clear x9
          go_wp2_with fail
          refine (write_any B b (l ++ P ++ [40] ++ txt x.ps) ⟨([41] : Bs).toArray⟩ _ HW.out.1 (by show (l ++ P ++ [40] ++ txt x.ps).length + ([41] : Bs).length ≤ _; simp; omega) (by have := HW.out.2.2.2; omega)).mono ?_
          rintro e w7 ⟨rfl, hB9, hb9, hk9⟩
          have HW9 : Hid (Bd B b (l ++ P ++ [40] ++ txt x.ps ++ [41]) w7 ∧ Below B W2 w7 ∧ Lib.OthersKept 5 (some b) W2 w7 ∧ W2.heap.size ≤ w7.heap.size) := ⟨hB9, HW.out.2.1.trans hb9, HW.out.2.2.1.trans hk9, by have := HW.out.2.2.2; have := hb9.size; omega⟩
          clear HW hB9 hb9 hk9 e0 e1 e2 e3 e4 e5
          have HW := HW9
          clear HW9
          have x9 := (H2.out.2.2.2.2).kept HW.out.2.2.1 hbm (by decide)
          obtain ⟨e0, e1, e2, e3, e4, e5⟩ := x9.cells
          clear x9
          go_wp2_with fail
          go_roundg (gk - 1)
          case measure => omega
          case rel =>
            refine ⟨i + 1, by go_num, by omega, fun q => absurd q (by omega), ?_, ?_, ?_, ?_⟩
            · have e9 : l ++ wk bt ff oo (nd.kt.take (i + 1)) = l ++ P ++ [40] ++ txt x.ps ++ [41] := by
                rw [HK.out.1, if_pos H0.out]
                unfold brk
                simp only [hL]
                rw [if_pos hq]
                simp
              rw [e9]
              exact HW.out.1
            · exact H2.out.2.1.trans HW.out.2.1
            · exact H2.out.2.2.1.trans HW.out.2.2.1
            · have := H2.out.2.2.2.1; have := HW.out.2.2.2; omega
        · have hq1 : ff ≤ L := by omega
          go_wp2_with fail
          refine (HK.out.2.2.2.1 B b (l ++ P) _ ⟨ko, kt, kn, ki, ka, kl, kc, kp⟩ HW.out.1 (by have := HW.out.2.2.2; omega) (HKN.out.1.onB HW.out.2.1) (HKN.out.2.on HW.out.2.1) (by simp; omega) (by omega)).mono ?_
          rintro e w5 ⟨rfl, hB9, hb9, hk9⟩
          have HW9 : Hid (Bd B b (l ++ P ++ txt x.ps) w5 ∧ Below B W2 w5 ∧ Lib.OthersKept 5 (some b) W2 w5 ∧ W2.heap.size ≤ w5.heap.size) := ⟨hB9, HW.out.2.1.trans hb9, HW.out.2.2.1.trans hk9, by have := HW.out.2.2.2; have := hb9.size; omega⟩
          clear HW hB9 hb9 hk9 e0 e1 e2 e3 e4 e5
          have HW := HW9
          clear HW9
          have x9 := (H2.out.2.2.2.2).kept HW.out.2.2.1 hbm (by decide)
          obtain ⟨e0, e1, e2, e3, e4, e5⟩ := x9.cells
          clear x9
          go_wp2_with fail
          go_roundg (gk - 1)
          case measure => omega
          case rel =>
            refine ⟨i + 1, by go_num, by omega, fun q => absurd q (by omega), ?_, ?_, ?_, ?_⟩
            · have e9 : l ++ wk bt ff oo (nd.kt.take (i + 1)) = l ++ P ++ txt x.ps := by
                rw [HK.out.1, if_pos H0.out]
                unfold brk
                simp only [hL]
                rw [if_neg (by omega)]
                simp
              rw [e9]
              exact HW.out.1
            · exact H2.out.2.1.trans HW.out.2.1
            · exact H2.out.2.2.1.trans HW.out.2.2.1
            · have := H2.out.2.2.2.1; have := HW.out.2.2.2; omega
      · have h0i : (0 : Int) < (i : Int) := by omega
        clear HWV
        go_wp2_with fail
        refine (write_any B b (l ++ P) ⟨(bt : Bs).toArray⟩ _ HW.out.1 (by show (l ++ P).length + (bt : Bs).length ≤ _; simp; omega) (by have := HW.out.2.2.2; omega)).mono ?_
        rintro e w3 ⟨rfl, hB9, hb9, hk9⟩
        have HW9 : Hid (Bd B b (l ++ P ++ bt) w3 ∧ Below B W2 w3 ∧ Lib.OthersKept 5 (some b) W2 w3 ∧ W2.heap.size ≤ w3.heap.size) := ⟨hB9, HW.out.2.1.trans hb9, HW.out.2.2.1.trans hk9, by have := HW.out.2.2.2; have := hb9.size; omega⟩
        clear HW hB9 hb9 hk9 e0 e1 e2 e3 e4 e5
        have HW := HW9
        clear HW9
        have x9 := (H2.out.2.2.2.2).kept HW.out.2.2.1 hbm (by decide)
        obtain ⟨e0, e1, e2, e3, e4, e5⟩ := x9.cells
        clear x9
        go_wp2_with fail
        refine (level_any ko _ (HKN.out.2.on HW.out.2.1).inf).mono ?_
        rintro e w4 ⟨rfl, b9⟩
        rw [hL]
        have HW9 : Hid (Bd B b (l ++ P ++ bt) w4 ∧ Below B W2 w4 ∧ Lib.OthersKept 5 (some b) W2 w4 ∧ W2.heap.size ≤ w4.heap.size) := ⟨HW.out.1.below b9, HW.out.2.1.trans (b9.mono (by have := HW.out.2.2.2; omega)), HW.out.2.2.1.trans (okept b9), by have := HW.out.2.2.2; have := b9.size; omega⟩
        clear HW b9 e0 e1 e2 e3 e4 e5
        have HW := HW9
        clear HW9
        have x9 := (H2.out.2.2.2.2).kept HW.out.2.2.1 hbm (by decide)
        obtain ⟨e0, e1, e2, e3, e4, e5⟩ := x9.cells
        clear x9
        by_cases hq : L < oo
        · have hq1 : ¬ oo ≤ L := by omega
          go_wp2_with fail
          refine (write_any B b (l ++ P ++ bt) ⟨([40] : Bs).toArray⟩ _ HW.out.1 (by show (l ++ P ++ bt).length + ([40] : Bs).length ≤ _; simp; omega) (by have := HW.out.2.2.2; omega)).mono ?_
          rintro e w5 ⟨rfl, hB9, hb9, hk9⟩
          have HW9 : Hid (Bd B b (l ++ P ++ bt ++ [40]) w5 ∧ Below B W2 w5 ∧ Lib.OthersKept 5 (some b) W2 w5 ∧ W2.heap.size ≤ w5.heap.size) := ⟨hB9, HW.out.2.1.trans hb9, HW.out.2.2.1.trans hk9, by have := HW.out.2.2.2; have := hb9.size; omega⟩
          clear HW hB9 hb9 hk9 e0 e1 e2 e3 e4 e5
          have HW := HW9
          clear HW9
          have x9 := (H2.out.2.2.2.2).kept HW.out.2.2.1 hbm (by decide)
          obtain ⟨e0, e1, e2, e3, e4, e5⟩ := x9.cells
          clear x9
          go_wp2_with fail
          refine (HK.out.2.2.2.1 B b (l ++ P ++ bt ++ [40]) _ ⟨ko, kt, kn, ki, ka, kl, kc, kp⟩ HW.out.1 (by have := HW.out.2.2.2; omega) (HKN.out.1.onB HW.out.2.1) (HKN.out.2.on HW.out.2.1) (by simp; omega) (by omega)).mono ?_
          rintro e w6 ⟨rfl, hB9, hb9, hk9⟩
          have HW9 : Hid (Bd B b (l ++ P ++ bt ++ [40] ++ txt x.ps) w6 ∧ Below B W2 w6 ∧ Lib.OthersKept 5 (some b) W2 w6 ∧ W2.heap.size ≤ w6.heap.size) := ⟨hB9, HW.out.2.1.trans hb9, HW.out.2.2.1.trans hk9, by have := HW.out.2.2.2; have := hb9.size; omega⟩
          clear HW hB9 hb9 hk9 e0 e1 e2 e3 e4 e5
          have HW := HW9
          clear HW9
          have x9 := (H2.out.2.2.2.2).kept HW.out.2.2.1 hbm (by decide)
          obtain ⟨e0, e1, e2, e3, e4, e5⟩ := x9.cells
          clear x9
          go_wp2_with fail
          refine (write_any B b (l ++ P ++ bt ++ [40] ++ txt x.ps) ⟨([41] : Bs).toArray⟩ _ HW.out.1 (by show (l ++ P ++ bt ++ [40] ++ txt x.ps).length + ([41] : Bs).length ≤ _; simp; omega) (by have := HW.out.2.2.2; omega)).mono ?_
          rintro e w7 ⟨rfl, hB9, hb9, hk9⟩
          have HW9 : Hid (Bd B b (l ++ P ++ bt ++ [40] ++ txt x.ps ++ [41]) w7 ∧ Below B W2 w7 ∧ Lib.OthersKept 5 (some b) W2 w7 ∧ W2.heap.size ≤ w7.heap.size) := ⟨hB9, HW.out.2.1.trans hb9, HW.out.2.2.1.trans hk9, by have := HW.out.2.2.2; have := hb9.size; omega⟩
          clear HW hB9 hb9 hk9 e0 e1 e2 e3 e4 e5
          have HW := HW9
          clear HW9
          have x9 := (H2.out.2.2.2.2).kept HW.out.2.2.1 hbm (by decide)
          obtain ⟨e0, e1, e2, e3, e4, e5⟩ := x9.cells
          clear x9
          go_wp2_with fail
          go_roundg (gk - 1)
          case measure => omega
          case rel =>
            refine ⟨i + 1, by go_num, by omega, fun q => absurd q (by omega), ?_, ?_, ?_, ?_⟩
            · have e9 : l ++ wk bt ff oo (nd.kt.take (i + 1)) = l ++ P ++ bt ++ [40] ++ txt x.ps ++ [41] := by
                rw [HK.out.1, if_neg h0]
                unfold brk
                simp only [hL]
                rw [if_pos hq]
                simp
              rw [e9]
              exact HW.out.1
            · exact H2.out.2.1.trans HW.out.2.1
            · exact H2.out.2.2.1.trans HW.out.2.2.1
            · have := H2.out.2.2.2.1; have := HW.out.2.2.2; omega
        · have hq1 : oo ≤ L := by omega
          go_wp2_with fail
          refine (HK.out.2.2.2.1 B b (l ++ P ++ bt) _ ⟨ko, kt, kn, ki, ka, kl, kc, kp⟩ HW.out.1 (by have := HW.out.2.2.2; omega) (HKN.out.1.onB HW.out.2.1) (HKN.out.2.on HW.out.2.1) (by simp; omega) (by omega)).mono ?_
          rintro e w5 ⟨rfl, hB9, hb9, hk9⟩
          have HW9 : Hid (Bd B b (l ++ P ++ bt ++ txt x.ps) w5 ∧ Below B W2 w5 ∧ Lib.OthersKept 5 (some b) W2 w5 ∧ W2.heap.size ≤ w5.heap.size) := ⟨hB9, HW.out.2.1.trans hb9, HW.out.2.2.1.trans hk9, by have := HW.out.2.2.2; have := hb9.size; omega⟩
          clear HW hB9 hb9 hk9 e0 e1 e2 e3 e4 e5
          have HW := HW9
          clear HW9
          have x9 := (H2.out.2.2.2.2).kept HW.out.2.2.1 hbm (by decide)
          obtain ⟨e0, e1, e2, e3, e4, e5⟩ := x9.cells
          clear x9
          go_wp2_with fail
          go_roundg (gk - 1)
          case measure => omega
          case rel =>
            refine ⟨i + 1, by go_num, by omega, fun q => absurd q (by omega), ?_, ?_, ?_, ?_⟩
            · have e9 : l ++ wk bt ff oo (nd.kt.take (i + 1)) = l ++ P ++ bt ++ txt x.ps := by
                rw [HK.out.1, if_neg h0]
                unfold brk
                simp only [hL]
                rw [if_neg (by omega)]
                simp
              rw [e9]
              exact HW.out.1
            · exact H2.out.2.1.trans HW.out.2.1
            · exact H2.out.2.2.1.trans HW.out.2.2.1
            · have := H2.out.2.2.2.1; have := HW.out.2.2.2; omega
    · obtain rfl : i = vl := by omega
      have e1 : nd.kt.take i = nd.kt := List.take_of_length_le (by rw [kt_len]; have := H.out.2.2.2.1; omega)
      rw [e1] at HI
      clear e1 HWV
      go_wp2_with fail
      go_end0
      exact ⟨rfl, HI.out.1, HI.out.2.1, HI.out.2.2.1⟩

end Go.Proofs.YtdgdckmhmmigkaaDoor
