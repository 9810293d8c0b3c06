import Derived.Test.YtijchmcajhdcoaaGreatDoorJSpa
import Derived.Test.YtijchmcajhdcoaaGreatDoorJRow
import Derived.Test.YtijchmcajhdcoaaGreatDoorJBld
/-!
  parse.writeKids by a contract, over write's of the kids. No condition but that a tree isn't too great.
-/
namespace Go.Proofs.YtijchmcajhdcoaaGreatDoor
open Go.RowKit

/-- What the program's variables hold lies below a number. -/
def Gb (B : Nat) (w : World) : Prop := ∃ w0, Gl w0 ∧ Inf w0 ∧ w0.heap.size ≤ B ∧ Below w0.heap.size w0 w
theorem Gb.gl {B : Nat} {w : World} (h : Gb B w) : Gl w := by
  obtain ⟨w0, g, _, _, b⟩ := h
  exact g.below b
theorem Gb.inf {B : Nat} {w : World} (h : Gb B w) : Inf w := by
  obtain ⟨w0, _, g, _, b⟩ := h
  exact g.below b
theorem Gb.on {B : Nat} {w w' : World} (h : Gb B w) (hb : Below B w w') : Gb B w' := by
  obtain ⟨w0, g, i, hl, b⟩ := h
  exact ⟨w0, g, i, hl, b.trans (hb.mono hl)⟩
theorem Gb.of {w : World} (hg : Gl w) (hi : Inf w) {B : Nat} (hB : w.heap.size ≤ B) {w' : World} (hb : Below w.heap.size w w') : Gb B w' := ⟨w, hg, hi, hB, hb⟩
theorem NdIn.onB {B : Nat} {w w' : World} {v : NV} {n : Nd} (h : NdIn (fun g => g < B) w v n) (hb : Below B w w') : NdIn (fun g => g < B) w' v n := h.turned (turnB hb) (fun g hg q => by omega)
theorem NdsIn.onB {B : Nat} {w w' : World} {vs : List NV} {ns : List Nd} (h : NdsIn (fun g => g < B) w vs ns) (hb : Below B w w') : NdsIn (fun g => g < B) w' vs ns := h.turned (turnB hb) (fun g hg q => by omega)
theorem okept {e : TypeId} {b : Option Nat} {w w' : World} (h : Below w.heap.size w w') : Lib.OthersKept e b w w' := by
  intro k o hk _ _
  rw [h.block k (Array.getElem?_eq_some_iff.1 hk).1]
  exact hk
theorem Box6.kept {w w' : World} {B b : Nat} {t : TypeId} {a1 a2 a3 a4 a5 a6 : Value} (h : Box6 w B t a1 a2 a3 a4 a5 a6) (k : Lib.OthersKept 5 (some b) w w') (hb : ¬ B = b) (ht : t ≠ 5) : Box6 w' B t a1 a2 a3 a4 a5 a6 := by
  refine k B _ h ?_ ?_
  · simpa using hb
  · intro c fz q
    injection q with _ h2 _
    exact ht h2

/-- write of a tree, wherever the builder stands. -/
def PW (nd : Nd) : Prop := ∀ (B b : Nat) (l : Bs) (w : World) (v : NV), Bd B b l w → B ≤ w.heap.size → NdIn (fun g => g < B) w v nd → Gb B w → l.length + 2 * nd.wt ≤ 4000000 → nd.wt ≤ 90000 →
  Calls Tryz.prog 24 #[.pointer (some ⟨b, 0, none⟩), v.val] w fun e w' => e = .returned (.tuple #[]) ∧ Bd B b (l ++ txt nd.ps) w' ∧ Below B w w' ∧ Lib.OthersKept 5 (some b) w w'

theorem kt_get {nd : Nd} {i : Nat} {x : Nd} (h : (ndL nd.kids)[i]? = some x) : nd.kt[i]? = some (x.op, txt x.ps) := by
  unfold Nd.kt
  rw [List.getElem?_map, h]
  rfl
theorem kt_len (nd : Nd) : nd.kt.length = (ndL nd.kids).length := by simp [Nd.kt]
theorem sum_mono {α : Type} (l : List α) (f g : α → Nat) (h : ∀ x ∈ l, f x ≤ g x) : (l.map f).sum ≤ (l.map g).sum := sum_le l f g h
/-- What is written ahead of a kid, and the kid twice, is no more than twice what the kids weigh. -/
theorem pre_len {nd : Nd} (hw : WfT nd) (bt : Bs) (f o : Int) (hb : bt.length ≤ 3) {i : Nat} {x : Nd} (h : (ndL nd.kids)[i]? = some x) : (wk bt f o (nd.kt.take i)).length + 5 + 2 * x.wt ≤ 2 * fw nd.kids := by
  have h1 := wk_len bt f o 5 (by omega) (nd.kt.take i)
  have h2 : ((nd.kt.take i).map fun k => k.2.length + 5).sum ≤ (((ndL nd.kids).take i).map fun k => 2 * (k.wt + 4)).sum := by
    unfold Nd.kt
    rw [← List.map_take, List.map_map]
    refine sum_le _ _ _ (fun y hy => ?_)
    have := shown_len y (wf_kids _ hw.2 y (List.mem_of_mem_take hy))
    simp only [Function.comp]
    have : 32 ≤ y.wt := by unfold Nd.wt; omega
    omega
  have h3 : (((ndL nd.kids).take (i + 1)).map fun k => 2 * (k.wt + 4)).sum ≤ 2 * fw nd.kids := by
    rw [fw_kids]
    have e : ∀ l : List Nd, (l.map fun k => 2 * (k.wt + 4)).sum = 2 * (l.map fun k => k.wt + 4).sum := by
      intro l
      induction l with
      | nil => rfl
      | cons a l ih => simp only [List.map_cons, List.sum_cons, ih]; omega
    rw [e]
    have := congrArg (fun l => (List.map (fun k : Nd => k.wt + 4) l).sum) (List.take_append_drop (i + 1) (ndL nd.kids))
    simp only [List.map_append, List.sum_append] at this
    omega
  rw [List.take_add_one, h] at h3
  simp only [List.map_append, List.sum_append, Option.toList_some, List.map_cons, List.map_nil, List.sum_cons, List.sum_nil] at h3
  omega

set_option maxHeartbeats 3200000 in
set_option maxRecDepth 100000 in
theorem wkids_any (nd : Nd) (hw : WfT nd) (hP : ∀ k ∈ ndL nd.kids, PW k) (bt : Bs) (hbt : bt.length ≤ 3) (ff oo : Int) (B b : Nat) (l : Bs) (w : World) (v : NV) (hB : Bd B b l w) (hBw : B ≤ w.heap.size) (hv : NdIn (fun g => g < B) w v nd) (hG : Gb B w) (hlen : l.length + 2 * fw nd.kids ≤ 4000000) (hwt : nd.wt ≤ 90000) :
    Calls Tryz.prog 39 #[.pointer (some ⟨b, 0, none⟩), v.val, .string ⟨bt.toArray⟩, .int .i64 ff, .int .i64 oo] w fun e w' => e = .returned (.tuple #[]) ∧ Bd B b (l ++ wk bt ff oo nd.kt) w' ∧ Below B w w' ∧ Lib.OthersKept 5 (some b) w w' := by
  obtain ⟨us, hrd, hub, hns, hul⟩ := hv.rows
  have hlen2 := hns.len
  rw [hul] at hlen2
  have hkc := hv.kc
  have hl1 : v.kl ≤ 4000000 := by
    have h1 := len_sz nd.kids
    have h2 := nd.wt_sz
    have h3 := hv.kl
    simp only [Nd.sz] at h2
    omega
  have hbw : b < w.heap.size := hB.lt
  have hfw : fw nd.kids + 32 ≤ nd.wt := by have : nd.wt = nd.text.length + 32 + fw nd.kids := rfl; omega
  have H : Hid (RdG encN w v.ka us ∧ NdsIn (fun g => g < B) w us (ndL nd.kids) ∧ us.length = v.kl ∧ v.kl = (ndL nd.kids).length ∧ (∀ k ∈ ndL nd.kids, PW k) ∧ Gb B w ∧ WfT nd ∧ (0 < us.length → ∀ a, v.ka = some a → a.block < B)) := ⟨hrd, hns, hul, hlen2, hP, hG, hw, hub⟩
  have HB : Hid (Bd B b l w) := hB
  clear hrd hns hul hlen2 hP hG hw hv hB hub
  obtain ⟨vo, vt, vn, vi, va, vl, vc, vp⟩ := v
  simp only at H hl1 hkc ⊢
  obtain ⟨W1, m6, hW1, hm6, hx1, bW1, _, hB1, hlt1⟩ := lay6 (Below.refl _ w) (Nat.le_refl _) 28 (.int .i64 vo) (.string ⟨vt.toArray⟩) (.int .i64 vn) (.int .u64 vi) (.slice va vl vc) (.int .i64 vp)
  obtain ⟨d0, d1, d2, d3, d4, d5⟩ := hx1.cells
  have H1 : Hid (Below w.heap.size w W1) := bW1
  clear hx1 bW1
  go_enter Tryz.func39, Tryz.ntmps39
  go_upto_region 1 with fail
  clear hW1 hm6
  go_wp2_with fail
  clear d0 d1 d2 d3 d4 d5
  go_loopg [10, 17] vl (fun g wv iv wr => ∃ (i : Nat), iv = .int .i64 i ∧ i + g = vl ∧ Hid (i = 0 → wv = .int .i64 ff) ∧ Hid (Bd B b (l ++ wk bt ff oo (nd.kt.take i)) wr ∧ Below B w wr ∧ Lib.OthersKept 5 (some b) w wr ∧ w.heap.size ≤ wr.heap.size))
  case atStart => exact ⟨0, rfl, by omega, fun _ => rfl, by rw [List.take_zero]; show Bd B b (l ++ []) _; rw [List.append_nil]; exact HB.out.below H1.out, H1.out.mono hBw, okept H1.out, H1.out.size⟩
  case round =>
    obtain ⟨i, rfl, hi, HWV, HI⟩ := hrel
    by_cases hin : i < vl
    · have hii : (i : Int) < (vl : Int) := by omega
      have hi0 : (0 : Int) ≤ (i : Int) := by omega
      obtain ⟨x, hx⟩ : ∃ x, (ndL nd.kids)[i]? = some x := ⟨_, List.getElem?_eq_getElem (by have := H.out.2.2.2.1; omega)⟩
      obtain ⟨kv, hkv, hkn⟩ := (H.out.2.1.onB HI.out.2.1).get hx
      obtain ⟨kb, koff, rfl, hkb⟩ := H.out.1.some_of hkv
      have hkB : kb < B := H.out.2.2.2.2.2.2.2 (by have := (List.getElem?_eq_some_iff.1 hkv).1; omega) _ rfl
      have hrd : RdG encN wr (some ⟨kb, koff, none⟩) us := H.out.1.turnN (turnB HI.out.2.1) (fun _ a e => by cases e; show ¬ B ≤ kb; omega)
      obtain ⟨k0, k1, k2, k3, k4, k5⟩ := hrd.node hkv
      have hpl := pre_len H.out.2.2.2.2.2.2.1 bt ff oo hbt hx
      have hpw := H.out.2.2.2.2.1 x (List.mem_of_getElem? hx)
      have HK : Hid (wk bt ff oo (nd.kt.take (i + 1)) = wk bt ff oo (nd.kt.take i) ++ (if i = 0 then brk ff (x.op, txt x.ps) else bt ++ brk oo (x.op, txt x.ps)) ∧ kv.op = x.op ∧ NdIn (fun g => g < B) wr kv x ∧ PW x ∧ (wk bt ff oo (nd.kt.take i)).length + 5 + 2 * x.wt ≤ 2 * fw nd.kids) := ⟨wk_take bt ff oo (kt_get hx), hkn.op, hkn, hpw, hpl⟩
      have hxl := shown_len x (wf_kids _ H.out.2.2.2.2.2.2.1.2 x (List.mem_of_getElem? hx))
      clear hrd hx hkv hkn hpl hpw hkb
      obtain ⟨ko, kt, kn, ki, ka, kl, kc, kp⟩ := kv
      simp only at k0 k1 k2 k3 k4 k5
      have hox : x.op = ko := HK.out.2.1.symm
      obtain ⟨P, hP⟩ : ∃ P, wk bt ff oo (nd.kt.take i) = P := ⟨_, rfl⟩
      rw [hP, hox] at HK
      rw [hP] at HI
      clear hP hox
      obtain ⟨W2, m8, hW2, hm8, hx2, bW2, _, hB2, hlt2⟩ := lay6 (Below.refl _ wr) (Nat.le_refl _) 28 (.int .i64 ko) (.string ⟨kt.toArray⟩) (.int .i64 kn) (.int .u64 ki) (.slice ka kl kc) (.int .i64 kp)
      have hbm : ¬ m8 = b := by have := HI.out.2.2.2; omega
      have H2 : Hid (Bd B b (l ++ P) W2 ∧ Below B w W2 ∧ Lib.OthersKept 5 (some b) w W2 ∧ w.heap.size ≤ W2.heap.size ∧ Box6 W2 m8 28 (.int .i64 ko) (.string ⟨kt.toArray⟩) (.int .i64 kn) (.int .u64 ki) (.slice ka kl kc) (.int .i64 kp)) :=
        ⟨HI.out.1.below bW2, HI.out.2.1.trans (bW2.mono (by have := HI.out.2.2.2; omega)), HI.out.2.2.1.trans (okept bW2), by have := HI.out.2.2.2; have := bW2.size; omega, hx2⟩
      have HKN : Hid (NdIn (fun g => g < B) W2 ⟨ko, kt, kn, ki, ka, kl, kc, kp⟩ x ∧ Gb B W2) := ⟨HK.out.2.2.1.below bW2, H.out.2.2.2.2.2.1.on (HI.out.2.1.trans (bW2.mono (by have := HI.out.2.2.2; omega)))⟩
      obtain ⟨L, hL⟩ : ∃ L, lvl ko = L := ⟨_, rfl⟩
      have hkl : P.length + 5 + 2 * x.wt ≤ 2 * fw nd.kids := HK.out.2.2.2.2
      have hBW2 : B ≤ W2.heap.size := by have := HI.out.2.2.2; have := bW2.size; omega
      have HW : Hid (Bd B b (l ++ P) W2 ∧ Below B W2 W2 ∧ Lib.OthersKept 5 (some b) W2 W2 ∧ W2.heap.size ≤ W2.heap.size) := ⟨H2.out.1, Below.refl _ _, Lib.OthersKept.refl _ _ _, Nat.le_refl _⟩
      clear hx2 bW2
      obtain ⟨e0, e1, e2, e3, e4, e5⟩ := H2.out.2.2.2.2.cells
      go_upto_region 5 with fail
      clear hW2 hm8
      by_cases h0 : i = 0
      · have hw0 : u10 = .int .i64 ff := HWV.out h0
        subst hw0
        have h0i : ¬ (0 : Int) < (i : Int) := by omega
        have H0 : Hid (i = 0) := h0
        clear h0 HWV
        go_wp2_with fail
        refine (level_any ko _ (HKN.out.2.on HW.out.2.1).inf).mono ?_
        rintro e w4 ⟨rfl, b9⟩
        rw [hL]
        have HW9 : Hid (Bd B b (l ++ P) w4 ∧ Below B W2 w4 ∧ Lib.OthersKept 5 (some b) W2 w4 ∧ W2.heap.size ≤ w4.heap.size) := ⟨HW.out.1.below b9, HW.out.2.1.trans (b9.mono (by have := HW.out.2.2.2; omega)), HW.out.2.2.1.trans (okept b9), by have := HW.out.2.2.2; have := b9.size; omega⟩
        clear HW b9 e0 e1 e2 e3 e4 e5
        have HW := HW9
        clear HW9
        have x9 := (H2.out.2.2.2.2).kept HW.out.2.2.1 hbm (by decide)
        obtain ⟨e0, e1, e2, e3, e4, e5⟩ := x9.cells
        clear x9
        by_cases hq : L < ff
        · have hq1 : ¬ ff ≤ L := by omega
          go_wp2_with fail
          refine (write_any B b (l ++ P) ⟨([40] : Bs).toArray⟩ _ HW.out.1 (by show (l ++ P).length + ([40] : Bs).length ≤ _; simp; omega) (by have := HW.out.2.2.2; omega)).mono ?_
          rintro e w5 ⟨rfl, hB9, hb9, hk9⟩
          have HW9 : Hid (Bd B b (l ++ P ++ [40]) w5 ∧ Below B W2 w5 ∧ Lib.OthersKept 5 (some b) W2 w5 ∧ W2.heap.size ≤ w5.heap.size) := ⟨hB9, HW.out.2.1.trans hb9, HW.out.2.2.1.trans hk9, by have := HW.out.2.2.2; have := hb9.size; omega⟩
          clear HW hB9 hb9 hk9 e0 e1 e2 e3 e4 e5
          have HW := HW9
          clear HW9
          have x9 := (H2.out.2.2.2.2).kept HW.out.2.2.1 hbm (by decide)
          obtain ⟨e0, e1, e2, e3, e4, e5⟩ := x9.cells
          clear x9
          go_wp2_with fail
          refine (HK.out.2.2.2.1 B b (l ++ P ++ [40]) _ ⟨ko, kt, kn, ki, ka, kl, kc, kp⟩ HW.out.1 (by have := HW.out.2.2.2; omega) (HKN.out.1.onB HW.out.2.1) (HKN.out.2.on HW.out.2.1) (by simp; omega) (by omega)).mono ?_
          rintro e w6 ⟨rfl, hB9, hb9, hk9⟩
          have HW9 : Hid (Bd B b (l ++ P ++ [40] ++ txt x.ps) w6 ∧ Below B W2 w6 ∧ Lib.OthersKept 5 (some b) W2 w6 ∧ W2.heap.size ≤ w6.heap.size) := ⟨hB9, HW.out.2.1.trans hb9, HW.out.2.2.1.trans hk9, by have := HW.out.2.2.2; have := hb9.size; omega⟩
          clear HW hB9 hb9 hk9 e0 e1 e2 e3 e4 e5
          have HW := HW9
          clear HW9
          have x9 := (H2.out.2.2.2.2).kept HW.out.2.2.1 hbm (by decide)
          obtain ⟨e0, e1, e2, e3, e4, e5⟩ := x9.cells
          clear x9
          go_wp2_with fail
          refine (write_any B b (l ++ P ++ [40] ++ txt x.ps) ⟨([41] : Bs).toArray⟩ _ HW.out.1 (by show (l ++ P ++ [40] ++ txt x.ps).length + ([41] : Bs).length ≤ _; simp; omega) (by have := HW.out.2.2.2; omega)).mono ?_
          rintro e w7 ⟨rfl, hB9, hb9, hk9⟩
          have HW9 : Hid (Bd B b (l ++ P ++ [40] ++ txt x.ps ++ [41]) w7 ∧ Below B W2 w7 ∧ Lib.OthersKept 5 (some b) W2 w7 ∧ W2.heap.size ≤ w7.heap.size) := ⟨hB9, HW.out.2.1.trans hb9, HW.out.2.2.1.trans hk9, by have := HW.out.2.2.2; have := hb9.size; omega⟩
          clear HW hB9 hb9 hk9 e0 e1 e2 e3 e4 e5
          have HW := HW9
          clear HW9
          have x9 := (H2.out.2.2.2.2).kept HW.out.2.2.1 hbm (by decide)
          obtain ⟨e0, e1, e2, e3, e4, e5⟩ := x9.cells
          clear x9
          go_wp2_with fail
          go_roundg (gk - 1)
          case measure => omega
          case rel =>
            refine ⟨i + 1, by go_num, by omega, fun q => absurd q (by omega), ?_, ?_, ?_, ?_⟩
            · have e9 : l ++ wk bt ff oo (nd.kt.take (i + 1)) = l ++ P ++ [40] ++ txt x.ps ++ [41] := by
                rw [HK.out.1, if_pos H0.out]
                unfold brk
                simp only [hL]
                rw [if_pos hq]
                simp
              rw [e9]
              exact HW.out.1
            · exact H2.out.2.1.trans HW.out.2.1
            · exact H2.out.2.2.1.trans HW.out.2.2.1
            · have := H2.out.2.2.2.1; have := HW.out.2.2.2; omega
        · have hq1 : ff ≤ L := by omega
          go_wp2_with fail
          refine (HK.out.2.2.2.1 B b (l ++ P) _ ⟨ko, kt, kn, ki, ka, kl, kc, kp⟩ HW.out.1 (by have := HW.out.2.2.2; omega) (HKN.out.1.onB HW.out.2.1) (HKN.out.2.on HW.out.2.1) (by simp; omega) (by omega)).mono ?_
          rintro e w5 ⟨rfl, hB9, hb9, hk9⟩
          have HW9 : Hid (Bd B b (l ++ P ++ txt x.ps) w5 ∧ Below B W2 w5 ∧ Lib.OthersKept 5 (some b) W2 w5 ∧ W2.heap.size ≤ w5.heap.size) := ⟨hB9, HW.out.2.1.trans hb9, HW.out.2.2.1.trans hk9, by have := HW.out.2.2.2; have := hb9.size; omega⟩
          clear HW hB9 hb9 hk9 e0 e1 e2 e3 e4 e5
          have HW := HW9
          clear HW9
          have x9 := (H2.out.2.2.2.2).kept HW.out.2.2.1 hbm (by decide)
          obtain ⟨e0, e1, e2, e3, e4, e5⟩ := x9.cells
          clear x9
          go_wp2_with fail
          go_roundg (gk - 1)
          case measure => omega
          case rel =>
            refine ⟨i + 1, by go_num, by omega, fun q => absurd q (by omega), ?_, ?_, ?_, ?_⟩
            · have e9 : l ++ wk bt ff oo (nd.kt.take (i + 1)) = l ++ P ++ txt x.ps := by
                rw [HK.out.1, if_pos H0.out]
                unfold brk
                simp only [hL]
                rw [if_neg (by omega)]
                simp
              rw [e9]
              exact HW.out.1
            · exact H2.out.2.1.trans HW.out.2.1
            · exact H2.out.2.2.1.trans HW.out.2.2.1
            · have := H2.out.2.2.2.1; have := HW.out.2.2.2; omega
      · have h0i : (0 : Int) < (i : Int) := by omega
        clear HWV
        go_wp2_with fail
        refine (write_any B b (l ++ P) ⟨(bt : Bs).toArray⟩ _ HW.out.1 (by show (l ++ P).length + (bt : Bs).length ≤ _; simp; omega) (by have := HW.out.2.2.2; omega)).mono ?_
        rintro e w3 ⟨rfl, hB9, hb9, hk9⟩
        have HW9 : Hid (Bd B b (l ++ P ++ bt) w3 ∧ Below B W2 w3 ∧ Lib.OthersKept 5 (some b) W2 w3 ∧ W2.heap.size ≤ w3.heap.size) := ⟨hB9, HW.out.2.1.trans hb9, HW.out.2.2.1.trans hk9, by have := HW.out.2.2.2; have := hb9.size; omega⟩
        clear HW hB9 hb9 hk9 e0 e1 e2 e3 e4 e5
        have HW := HW9
        clear HW9
        have x9 := (H2.out.2.2.2.2).kept HW.out.2.2.1 hbm (by decide)
        obtain ⟨e0, e1, e2, e3, e4, e5⟩ := x9.cells
        clear x9
        go_wp2_with fail
        refine (level_any ko _ (HKN.out.2.on HW.out.2.1).inf).mono ?_
        rintro e w4 ⟨rfl, b9⟩
        rw [hL]
        have HW9 : Hid (Bd B b (l ++ P ++ bt) w4 ∧ Below B W2 w4 ∧ Lib.OthersKept 5 (some b) W2 w4 ∧ W2.heap.size ≤ w4.heap.size) := ⟨HW.out.1.below b9, HW.out.2.1.trans (b9.mono (by have := HW.out.2.2.2; omega)), HW.out.2.2.1.trans (okept b9), by have := HW.out.2.2.2; have := b9.size; omega⟩
        clear HW b9 e0 e1 e2 e3 e4 e5
        have HW := HW9
        clear HW9
        have x9 := (H2.out.2.2.2.2).kept HW.out.2.2.1 hbm (by decide)
        obtain ⟨e0, e1, e2, e3, e4, e5⟩ := x9.cells
        clear x9
        by_cases hq : L < oo
        · have hq1 : ¬ oo ≤ L := by omega
          go_wp2_with fail
          refine (write_any B b (l ++ P ++ bt) ⟨([40] : Bs).toArray⟩ _ HW.out.1 (by show (l ++ P ++ bt).length + ([40] : Bs).length ≤ _; simp; omega) (by have := HW.out.2.2.2; omega)).mono ?_
          rintro e w5 ⟨rfl, hB9, hb9, hk9⟩
          have HW9 : Hid (Bd B b (l ++ P ++ bt ++ [40]) w5 ∧ Below B W2 w5 ∧ Lib.OthersKept 5 (some b) W2 w5 ∧ W2.heap.size ≤ w5.heap.size) := ⟨hB9, HW.out.2.1.trans hb9, HW.out.2.2.1.trans hk9, by have := HW.out.2.2.2; have := hb9.size; omega⟩
          clear HW hB9 hb9 hk9 e0 e1 e2 e3 e4 e5
          have HW := HW9
          clear HW9
          have x9 := (H2.out.2.2.2.2).kept HW.out.2.2.1 hbm (by decide)
          obtain ⟨e0, e1, e2, e3, e4, e5⟩ := x9.cells
          clear x9
          go_wp2_with fail
          refine (HK.out.2.2.2.1 B b (l ++ P ++ bt ++ [40]) _ ⟨ko, kt, kn, ki, ka, kl, kc, kp⟩ HW.out.1 (by have := HW.out.2.2.2; omega) (HKN.out.1.onB HW.out.2.1) (HKN.out.2.on HW.out.2.1) (by simp; omega) (by omega)).mono ?_
          rintro e w6 ⟨rfl, hB9, hb9, hk9⟩
          have HW9 : Hid (Bd B b (l ++ P ++ bt ++ [40] ++ txt x.ps) w6 ∧ Below B W2 w6 ∧ Lib.OthersKept 5 (some b) W2 w6 ∧ W2.heap.size ≤ w6.heap.size) := ⟨hB9, HW.out.2.1.trans hb9, HW.out.2.2.1.trans hk9, by have := HW.out.2.2.2; have := hb9.size; omega⟩
          clear HW hB9 hb9 hk9 e0 e1 e2 e3 e4 e5
          have HW := HW9
          clear HW9
          have x9 := (H2.out.2.2.2.2).kept HW.out.2.2.1 hbm (by decide)
          obtain ⟨e0, e1, e2, e3, e4, e5⟩ := x9.cells
          clear x9
          go_wp2_with fail
          refine (write_any B b (l ++ P ++ bt ++ [40] ++ txt x.ps) ⟨([41] : Bs).toArray⟩ _ HW.out.1 (by show (l ++ P ++ bt ++ [40] ++ txt x.ps).length + ([41] : Bs).length ≤ _; simp; omega) (by have := HW.out.2.2.2; omega)).mono ?_
          rintro e w7 ⟨rfl, hB9, hb9, hk9⟩
          have HW9 : Hid (Bd B b (l ++ P ++ bt ++ [40] ++ txt x.ps ++ [41]) w7 ∧ Below B W2 w7 ∧ Lib.OthersKept 5 (some b) W2 w7 ∧ W2.heap.size ≤ w7.heap.size) := ⟨hB9, HW.out.2.1.trans hb9, HW.out.2.2.1.trans hk9, by have := HW.out.2.2.2; have := hb9.size; omega⟩
          clear HW hB9 hb9 hk9 e0 e1 e2 e3 e4 e5
          have HW := HW9
          clear HW9
          have x9 := (H2.out.2.2.2.2).kept HW.out.2.2.1 hbm (by decide)
          obtain ⟨e0, e1, e2, e3, e4, e5⟩ := x9.cells
          clear x9
          go_wp2_with fail
          go_roundg (gk - 1)
          case measure => omega
          case rel =>
            refine ⟨i + 1, by go_num, by omega, fun q => absurd q (by omega), ?_, ?_, ?_, ?_⟩
            · have e9 : l ++ wk bt ff oo (nd.kt.take (i + 1)) = l ++ P ++ bt ++ [40] ++ txt x.ps ++ [41] := by
                rw [HK.out.1, if_neg h0]
                unfold brk
                simp only [hL]
                rw [if_pos hq]
                simp
              rw [e9]
              exact HW.out.1
            · exact H2.out.2.1.trans HW.out.2.1
            · exact H2.out.2.2.1.trans HW.out.2.2.1
            · have := H2.out.2.2.2.1; have := HW.out.2.2.2; omega
        · have hq1 : oo ≤ L := by omega
          go_wp2_with fail
          refine (HK.out.2.2.2.1 B b (l ++ P ++ bt) _ ⟨ko, kt, kn, ki, ka, kl, kc, kp⟩ HW.out.1 (by have := HW.out.2.2.2; omega) (HKN.out.1.onB HW.out.2.1) (HKN.out.2.on HW.out.2.1) (by simp; omega) (by omega)).mono ?_
          rintro e w5 ⟨rfl, hB9, hb9, hk9⟩
          have HW9 : Hid (Bd B b (l ++ P ++ bt ++ txt x.ps) w5 ∧ Below B W2 w5 ∧ Lib.OthersKept 5 (some b) W2 w5 ∧ W2.heap.size ≤ w5.heap.size) := ⟨hB9, HW.out.2.1.trans hb9, HW.out.2.2.1.trans hk9, by have := HW.out.2.2.2; have := hb9.size; omega⟩
          clear HW hB9 hb9 hk9 e0 e1 e2 e3 e4 e5
          have HW := HW9
          clear HW9
          have x9 := (H2.out.2.2.2.2).kept HW.out.2.2.1 hbm (by decide)
          obtain ⟨e0, e1, e2, e3, e4, e5⟩ := x9.cells
          clear x9
          go_wp2_with fail
          go_roundg (gk - 1)
          case measure => omega
          case rel =>
            refine ⟨i + 1, by go_num, by omega, fun q => absurd q (by omega), ?_, ?_, ?_, ?_⟩
            · have e9 : l ++ wk bt ff oo (nd.kt.take (i + 1)) = l ++ P ++ bt ++ txt x.ps := by
                rw [HK.out.1, if_neg h0]
                unfold brk
                simp only [hL]
                rw [if_neg (by omega)]
                simp
              rw [e9]
              exact HW.out.1
            · exact H2.out.2.1.trans HW.out.2.1
            · exact H2.out.2.2.1.trans HW.out.2.2.1
            · have := H2.out.2.2.2.1; have := HW.out.2.2.2; omega
    · obtain rfl : i = vl := by omega
      have e1 : nd.kt.take i = nd.kt := List.take_of_length_le (by rw [kt_len]; have := H.out.2.2.2.1; omega)
      rw [e1] at HI
      clear e1 HWV
      go_wp2_with fail
      go_end0
      exact ⟨rfl, HI.out.1, HI.out.2.1, HI.out.2.2.1⟩

end Go.Proofs.YtijchmcajhdcoaaGreatDoor

/-!
  parse.write and parse.Show by contracts. No condition but that the program's variables hold what its text lays there, and that a tree isn't too great.
-/
namespace Go.Proofs.YtijchmcajhdcoaaGreatDoor
open Go.RowKit

theorem infNe {op : Int} (ho : ¬ (op = 6 ∨ op = 7 ∨ op = 8 ∨ op = 9 ∨ op = 10)) : ∀ (i : Nat) (x : Ifx), infL[i]? = some x → ¬ x.1 = op := by
  intro i x hx e
  match i, hx with
  | 0, hx => cases hx; exact ho (.inl e.symm)
  | 1, hx => cases hx; exact ho (.inr (.inl e.symm))
  | 2, hx => cases hx; exact ho (.inr (.inr (.inl e.symm)))
  | 3, hx => cases hx; exact ho (.inr (.inr (.inr (.inl e.symm))))
  | 4, hx => cases hx; exact ho (.inr (.inr (.inr (.inr e.symm))))

/-- One token, written down. -/
theorem write_one (t : Tk) (ht : Gd t) (hl : (st t).length ≤ 100000) (w : World) (hg : Gl w) (cs : Array Value) (hc : cs = (encT.cells t).toArray) :
    Calls Tryz.prog 38 #[.slice (some ⟨w.heap.size, 0, none⟩) 1 1] (w.alloc (.cells cs 51)) fun e w' => e = .returned (.string ⟨(st t).toArray⟩) ∧ Below (w.alloc (.cells cs 51)).heap.size (w.alloc (.cells cs 51)) w' := by
  have hr := rdG_new encT w [t] 51 cs (by rw [hc]; simp [Enc.all])
  have e : YtijchmcajhdcoaaGreatDoor.wr [t] = st t := by simp [YtijchmcajhdcoaaGreatDoor.wr, jn]
  have := lwrite_any (ao := some ⟨w.heap.size, 0, none⟩) (n := 1) (c := 1) (ts := [t]) (w.alloc (.cells cs 51)) hr rfl (Nat.le_refl _) (by omega) (by simpa using ht) (by rw [e]; exact hl) (hg.below (bz1 w _))
  rw [e] at this
  exact this

set_option maxHeartbeats 3200000 in
set_option maxRecDepth 100000 in
theorem write_name (nd : Nd) (hw : WfT nd) (hop : nd.op = 1) : PW nd := by
  intro B b l w v hB hBw hv hG hlen hwt
  have hvo := hv.op
  have hvt := hv.text
  have hvn := hv.num
  have hvi := hv.id
  rw [hop] at hvo
  have hbw : b < w.heap.size := hB.lt
  have hsl := shown_len nd hw
  have hi30 : (Tryz.prog.info? 97).map (·.size) = some infV.size := by kernel_rfl
  have hV := infAt
  have hGi : ∀ u, Below B w u → ∃ tt fz, u.heap[0]? = some (.cells infV tt fz) := fun u hu => (hG.on hu).inf
  obtain ⟨V, hVe⟩ : ∃ V, infV = V := ⟨_, rfl⟩
  rw [hVe] at hi30 hV hGi
  clear hVe
  have HGI : Hid (∀ u, Below B w u → ∃ tt fz, u.heap[0]? = some (.cells V tt fz)) := hGi
  clear hGi
  obtain ⟨vo, vt, vn, vi, va, vl, vc, vp⟩ := v
  simp only at hvo hvt hvn hvi ⊢
  subst hvo
  have HF : Hid (vt = nd.text ∧ vn = nd.num ∧ vi = nd.id) := ⟨hvt, hvn, hvi⟩
  clear hvt hvn hvi
  have HV : Hid (NdIn (fun g => g < B) w ⟨1, vt, vn, vi, va, vl, vc, vp⟩ nd ∧ Gb B w ∧ WfT nd ∧ nd.op = 1) := ⟨hv, hG, hw, hop⟩
  clear hv hG hw hop
  obtain ⟨W3, m3, hW3, hm3, hx3, bW3, _, hB3, hlt3⟩ := lay6 (Below.refl _ w) (Nat.le_refl _) 28 (.int .i64 1) (.string ⟨vt.toArray⟩) (.int .i64 vn) (.int .u64 vi) (.slice va vl vc) (.int .i64 vp)
  have hmb : ¬ m3 = b := by omega
  obtain ⟨e0, e1, e2, e3, e4, e5⟩ := hx3.cells
  have H3 : Hid (Below w.heap.size w W3 ∧ Box6 W3 m3 28 (.int .i64 1) (.string ⟨vt.toArray⟩) (.int .i64 vn) (.int .u64 vi) (.slice va vl vc) (.int .i64 vp)) := ⟨bW3, hx3⟩
  have hs3 := bW3.size
  have HW : Hid (Bd B b l W3 ∧ Below B w W3 ∧ Lib.OthersKept 5 (some b) W3 W3 ∧ W3.heap.size ≤ W3.heap.size) := ⟨hB.below bW3, bW3.mono hBw, Lib.OthersKept.refl _ _ _, Nat.le_refl _⟩
  clear hx3 bW3 hB
  go_enter Tryz.func24, Tryz.ntmps24
  go_upto_region 1 with fail
  clear hW3 hm3
  rw [shown_name HV.out.2.2.2, ← HF.out.1] at hsl
  go_wp2_with fail
  refine (write_any B b (l) ⟨(vt : Bs).toArray⟩ _ HW.out.1 (by show (l).length + (vt : Bs).length ≤ _; omega) (by have := HW.out.2.2.2; omega)).mono ?_
  rintro e w4 ⟨rfl, hB9, hb9, hk9⟩
  have HW9 : Hid (Bd B b (l ++ vt) w4 ∧ Below B w w4 ∧ Lib.OthersKept 5 (some b) W3 w4 ∧ W3.heap.size ≤ w4.heap.size) := ⟨hB9, HW.out.2.1.trans hb9, HW.out.2.2.1.trans hk9, by have := HW.out.2.2.2; have := hb9.size; omega⟩
  clear HW hB9 hb9 hk9 e0 e1 e2 e3 e4 e5
  have HW := HW9
  clear HW9
  have x9 := H3.out.2.kept HW.out.2.2.1 hmb (by decide)
  obtain ⟨e0, e1, e2, e3, e4, e5⟩ := x9.cells
  clear x9
  have HK : Hid (l ++ vt = l ++ txt nd.ps) := by
    show _ = _
    rw [shown_name HV.out.2.2.2, HF.out.1]
  rw [HK.out] at HW
  clear HK
  go_upto_region 22 with fail
  clear e0 e1 e2 e3 e4 e5
  obtain ⟨tt, fz, hinf⟩ := HGI.out _ HW.out.2.1
  go_wp2_with (refine wpList_load_row rfl 97 _ rfl 0 rfl tt _ fz _ hinf Tryz.underlying97 rfl hi30 ?_)
  clear hinf
  go_loopg [78] 5 (fun g v wr => ∃ (i : Nat), v = .int .i64 i ∧ i + g = 5 ∧ Hid (Below w4.heap.size w4 wr))
  case atStart => exact ⟨0, rfl, rfl, Below.refl _ _⟩
  case round =>
    obtain ⟨i, rfl, hi, HB⟩ := hrel
    obtain ⟨e0, e1, e2, e3, e4, e5⟩ := ((H3.out.2.kept HW.out.2.2.1 hmb (by decide)).below HB.out).cells
    by_cases h5 : i < 5
    · have hii : (i : Int) < 5 := by omega
      obtain ⟨z, hz, hidx⟩ := hV i h5
      have hne := infNe (op := 1) (by decide) i z hz
      obtain ⟨o, g, wt, lv, f, s⟩ := z
      simp only at hidx hne
      have hne1 : (o == 1) = false := by rw [beq_eq_false_iff_ne]; exact hne
      clear hz
      obtain ⟨Wa, ma, hWa, hma, hxa, bWa, ba, hBa, hlta⟩ := lay6 HB.out HB.out.size 96 (.int .i64 o) (.string ⟨g.toArray⟩) (.string ⟨wt.toArray⟩) (.int .i64 lv) (.int .i64 f) (.int .i64 s)
      obtain ⟨f0, f1, f2, f3, f4, f5⟩ := hxa.cells
      obtain ⟨z0, z1, z2, z3, z4, z5⟩ := ((H3.out.2.kept HW.out.2.2.1 hmb (by decide)).below bWa).cells
      have HBa : Hid (Below w4.heap.size w4 Wa) := bWa
      clear hxa bWa ba
      go_upto_region 25 with fail
      clear hWa hma
      go_wp2_with fail
      go_roundg (gk - 1)
      case measure => omega
      case rel => exact ⟨i + 1, by go_num, by omega, HBa.out⟩
    · obtain rfl : i = 5 := by omega
      go_wp2_with fail
      go_end0
      exact ⟨rfl, HW.out.1.below HB.out, HW.out.2.1.trans (HB.out.mono (by have := HW.out.2.2.2; omega)), ((okept H3.out.1).trans HW.out.2.2.1).trans (okept HB.out)⟩

set_option maxHeartbeats 3200000 in
set_option maxRecDepth 100000 in
theorem write_hash (nd : Nd) (hw : WfT nd) (hop : nd.op = 2) : PW nd := by
  intro B b l w v hB hBw hv hG hlen hwt
  have hvo := hv.op
  have hvt := hv.text
  have hvn := hv.num
  have hvi := hv.id
  rw [hop] at hvo
  have hbw : b < w.heap.size := hB.lt
  have hsl := shown_len nd hw
  have hi30 : (Tryz.prog.info? 97).map (·.size) = some infV.size := by kernel_rfl
  have hV := infAt
  have hGi : ∀ u, Below B w u → ∃ tt fz, u.heap[0]? = some (.cells infV tt fz) := fun u hu => (hG.on hu).inf
  obtain ⟨V, hVe⟩ : ∃ V, infV = V := ⟨_, rfl⟩
  rw [hVe] at hi30 hV hGi
  clear hVe
  have HGI : Hid (∀ u, Below B w u → ∃ tt fz, u.heap[0]? = some (.cells V tt fz)) := hGi
  clear hGi
  obtain ⟨vo, vt, vn, vi, va, vl, vc, vp⟩ := v
  simp only at hvo hvt hvn hvi ⊢
  subst hvo
  have HF : Hid (vt = nd.text ∧ vn = nd.num ∧ vi = nd.id) := ⟨hvt, hvn, hvi⟩
  clear hvt hvn hvi
  have HV : Hid (NdIn (fun g => g < B) w ⟨2, vt, vn, vi, va, vl, vc, vp⟩ nd ∧ Gb B w ∧ WfT nd ∧ nd.op = 2) := ⟨hv, hG, hw, hop⟩
  clear hv hG hw hop
  obtain ⟨W3, m3, hW3, hm3, hx3, bW3, _, hB3, hlt3⟩ := lay6 (Below.refl _ w) (Nat.le_refl _) 28 (.int .i64 2) (.string ⟨vt.toArray⟩) (.int .i64 vn) (.int .u64 vi) (.slice va vl vc) (.int .i64 vp)
  have hmb : ¬ m3 = b := by omega
  obtain ⟨e0, e1, e2, e3, e4, e5⟩ := hx3.cells
  have H3 : Hid (Below w.heap.size w W3 ∧ Box6 W3 m3 28 (.int .i64 2) (.string ⟨vt.toArray⟩) (.int .i64 vn) (.int .u64 vi) (.slice va vl vc) (.int .i64 vp)) := ⟨bW3, hx3⟩
  have hs3 := bW3.size
  have HW : Hid (Bd B b l W3 ∧ Below B w W3 ∧ Lib.OthersKept 5 (some b) W3 W3 ∧ W3.heap.size ≤ W3.heap.size) := ⟨hB.below bW3, bW3.mono hBw, Lib.OthersKept.refl _ _ _, Nat.le_refl _⟩
  clear hx3 bW3 hB
  go_enter Tryz.func24, Tryz.ntmps24
  go_upto_region 1 with fail
  clear hW3 hm3
  have hgd : Gd (haT vi) ∧ vt = vt ∧ (st (haT vi)).length ≤ 100000 ∧ txt nd.ps = st (haT vi) := by
    rw [shown_hash HV.out.2.2.2, ← HF.out.2.2] at hsl ⊢
    refine ⟨?_, rfl, by omega, rfl⟩
    have hwf := HV.out.2.2.1.1
    rw [HV.out.2.2.2, ← HF.out.2.2] at hwf
    unfold WfN at hwf
    simp at hwf
    exact hwf.2.2.1
  have HGD : Hid (Gd (haT vi) ∧ (st (haT vi)).length ≤ 100000 ∧ txt nd.ps = st (haT vi)) := ⟨hgd.1, hgd.2.2.1, hgd.2.2.2⟩
  rw [HGD.out.2.2] at hsl
  clear hgd
  go_wp2_with fail
  refine (write_one (haT vi) HGD.out.1 HGD.out.2.1 _ (HV.out.2.1.on HW.out.2.1).gl _ (by simp [encT, haT])).mono ?_
  rintro e w4 ⟨rfl, b9⟩
  have HW9 : Hid (Bd B b (l) w4 ∧ Below B w w4 ∧ Lib.OthersKept 5 (some b) W3 w4 ∧ W3.heap.size ≤ w4.heap.size) := ⟨(HW.out.1.below (bz1 _ _)).below b9, (HW.out.2.1.trans ((bz1 _ _).mono (by have := HW.out.2.2.2; omega))).trans (b9.mono (by have := HW.out.2.2.2; simp; omega)), (HW.out.2.2.1.trans (okept (bz1 _ _))).trans (okept b9), by have := HW.out.2.2.2; have := b9.size; simp at this; omega⟩
  clear HW b9 e0 e1 e2 e3 e4 e5
  have HW := HW9
  clear HW9
  have x9 := H3.out.2.kept HW.out.2.2.1 hmb (by decide)
  obtain ⟨e0, e1, e2, e3, e4, e5⟩ := x9.cells
  clear x9
  go_wp2_with fail
  refine (write_any B b (l) ⟨(st (haT vi) : Bs).toArray⟩ _ HW.out.1 (by show (l).length + (st (haT vi) : Bs).length ≤ _; omega) (by have := HW.out.2.2.2; omega)).mono ?_
  rintro e w5 ⟨rfl, hB9, hb9, hk9⟩
  have HW9 : Hid (Bd B b (l ++ st (haT vi)) w5 ∧ Below B w w5 ∧ Lib.OthersKept 5 (some b) W3 w5 ∧ W3.heap.size ≤ w5.heap.size) := ⟨hB9, HW.out.2.1.trans hb9, HW.out.2.2.1.trans hk9, by have := HW.out.2.2.2; have := hb9.size; omega⟩
  clear HW hB9 hb9 hk9 e0 e1 e2 e3 e4 e5
  have HW := HW9
  clear HW9
  have x9 := H3.out.2.kept HW.out.2.2.1 hmb (by decide)
  obtain ⟨e0, e1, e2, e3, e4, e5⟩ := x9.cells
  clear x9
  have HK : Hid (l ++ st (haT vi) = l ++ txt nd.ps) := by
    show _ = _
    rw [HGD.out.2.2]
  rw [HK.out] at HW
  clear HK
  go_upto_region 22 with fail
  clear e0 e1 e2 e3 e4 e5
  obtain ⟨tt, fz, hinf⟩ := HGI.out _ HW.out.2.1
  go_wp2_with (refine wpList_load_row rfl 97 _ rfl 0 rfl tt _ fz _ hinf Tryz.underlying97 rfl hi30 ?_)
  clear hinf
  go_loopg [78] 5 (fun g v wr => ∃ (i : Nat), v = .int .i64 i ∧ i + g = 5 ∧ Hid (Below w5.heap.size w5 wr))
  case atStart => exact ⟨0, rfl, rfl, Below.refl _ _⟩
  case round =>
    obtain ⟨i, rfl, hi, HB⟩ := hrel
    obtain ⟨e0, e1, e2, e3, e4, e5⟩ := ((H3.out.2.kept HW.out.2.2.1 hmb (by decide)).below HB.out).cells
    by_cases h5 : i < 5
    · have hii : (i : Int) < 5 := by omega
      obtain ⟨z, hz, hidx⟩ := hV i h5
      have hne := infNe (op := 2) (by decide) i z hz
      obtain ⟨o, g, wt, lv, f, s⟩ := z
      simp only at hidx hne
      have hne1 : (o == 2) = false := by rw [beq_eq_false_iff_ne]; exact hne
      clear hz
      obtain ⟨Wa, ma, hWa, hma, hxa, bWa, ba, hBa, hlta⟩ := lay6 HB.out HB.out.size 96 (.int .i64 o) (.string ⟨g.toArray⟩) (.string ⟨wt.toArray⟩) (.int .i64 lv) (.int .i64 f) (.int .i64 s)
      obtain ⟨f0, f1, f2, f3, f4, f5⟩ := hxa.cells
      obtain ⟨z0, z1, z2, z3, z4, z5⟩ := ((H3.out.2.kept HW.out.2.2.1 hmb (by decide)).below bWa).cells
      have HBa : Hid (Below w5.heap.size w5 Wa) := bWa
      clear hxa bWa ba
      go_upto_region 25 with fail
      clear hWa hma
      go_wp2_with fail
      go_roundg (gk - 1)
      case measure => omega
      case rel => exact ⟨i + 1, by go_num, by omega, HBa.out⟩
    · obtain rfl : i = 5 := by omega
      go_wp2_with fail
      go_end0
      exact ⟨rfl, HW.out.1.below HB.out, HW.out.2.1.trans (HB.out.mono (by have := HW.out.2.2.2; omega)), ((okept H3.out.1).trans HW.out.2.2.1).trans (okept HB.out)⟩

set_option maxHeartbeats 3200000 in
set_option maxRecDepth 100000 in
theorem write_num (nd : Nd) (hw : WfT nd) (hop : nd.op = 3) : PW nd := by
  intro B b l w v hB hBw hv hG hlen hwt
  have hvo := hv.op
  have hvt := hv.text
  have hvn := hv.num
  have hvi := hv.id
  rw [hop] at hvo
  have hbw : b < w.heap.size := hB.lt
  have hsl := shown_len nd hw
  have hi30 : (Tryz.prog.info? 97).map (·.size) = some infV.size := by kernel_rfl
  have hV := infAt
  have hGi : ∀ u, Below B w u → ∃ tt fz, u.heap[0]? = some (.cells infV tt fz) := fun u hu => (hG.on hu).inf
  obtain ⟨V, hVe⟩ : ∃ V, infV = V := ⟨_, rfl⟩
  rw [hVe] at hi30 hV hGi
  clear hVe
  have HGI : Hid (∀ u, Below B w u → ∃ tt fz, u.heap[0]? = some (.cells V tt fz)) := hGi
  clear hGi
  obtain ⟨vo, vt, vn, vi, va, vl, vc, vp⟩ := v
  simp only at hvo hvt hvn hvi ⊢
  subst hvo
  have HF : Hid (vt = nd.text ∧ vn = nd.num ∧ vi = nd.id) := ⟨hvt, hvn, hvi⟩
  clear hvt hvn hvi
  have HV : Hid (NdIn (fun g => g < B) w ⟨3, vt, vn, vi, va, vl, vc, vp⟩ nd ∧ Gb B w ∧ WfT nd ∧ nd.op = 3) := ⟨hv, hG, hw, hop⟩
  clear hv hG hw hop
  obtain ⟨W3, m3, hW3, hm3, hx3, bW3, _, hB3, hlt3⟩ := lay6 (Below.refl _ w) (Nat.le_refl _) 28 (.int .i64 3) (.string ⟨vt.toArray⟩) (.int .i64 vn) (.int .u64 vi) (.slice va vl vc) (.int .i64 vp)
  have hmb : ¬ m3 = b := by omega
  obtain ⟨e0, e1, e2, e3, e4, e5⟩ := hx3.cells
  have H3 : Hid (Below w.heap.size w W3 ∧ Box6 W3 m3 28 (.int .i64 3) (.string ⟨vt.toArray⟩) (.int .i64 vn) (.int .u64 vi) (.slice va vl vc) (.int .i64 vp)) := ⟨bW3, hx3⟩
  have hs3 := bW3.size
  have HW : Hid (Bd B b l W3 ∧ Below B w W3 ∧ Lib.OthersKept 5 (some b) W3 W3 ∧ W3.heap.size ≤ W3.heap.size) := ⟨hB.below bW3, bW3.mono hBw, Lib.OthersKept.refl _ _ _, Nat.le_refl _⟩
  clear hx3 bW3 hB
  go_enter Tryz.func24, Tryz.ntmps24
  go_upto_region 1 with fail
  clear hW3 hm3
  have hgd : Gd (nuT vn) ∧ vt = vt ∧ (st (nuT vn)).length ≤ 100000 ∧ txt nd.ps = st (nuT vn) := by
    rw [shown_num HV.out.2.2.2, ← HF.out.2.1] at hsl ⊢
    refine ⟨?_, rfl, by omega, rfl⟩
    have hwf := HV.out.2.2.1.1
    rw [HV.out.2.2.2, ← HF.out.2.1] at hwf
    unfold WfN at hwf
    simp at hwf
    exact hwf.2.1
  have HGD : Hid (Gd (nuT vn) ∧ (st (nuT vn)).length ≤ 100000 ∧ txt nd.ps = st (nuT vn)) := ⟨hgd.1, hgd.2.2.1, hgd.2.2.2⟩
  rw [HGD.out.2.2] at hsl
  clear hgd
  go_wp2_with fail
  refine (write_one (nuT vn) HGD.out.1 HGD.out.2.1 _ (HV.out.2.1.on HW.out.2.1).gl _ (by simp [encT, nuT])).mono ?_
  rintro e w4 ⟨rfl, b9⟩
  have HW9 : Hid (Bd B b (l) w4 ∧ Below B w w4 ∧ Lib.OthersKept 5 (some b) W3 w4 ∧ W3.heap.size ≤ w4.heap.size) := ⟨(HW.out.1.below (bz1 _ _)).below b9, (HW.out.2.1.trans ((bz1 _ _).mono (by have := HW.out.2.2.2; omega))).trans (b9.mono (by have := HW.out.2.2.2; simp; omega)), (HW.out.2.2.1.trans (okept (bz1 _ _))).trans (okept b9), by have := HW.out.2.2.2; have := b9.size; simp at this; omega⟩
  clear HW b9 e0 e1 e2 e3 e4 e5
  have HW := HW9
  clear HW9
  have x9 := H3.out.2.kept HW.out.2.2.1 hmb (by decide)
  obtain ⟨e0, e1, e2, e3, e4, e5⟩ := x9.cells
  clear x9
  go_wp2_with fail
  refine (write_any B b (l) ⟨(st (nuT vn) : Bs).toArray⟩ _ HW.out.1 (by show (l).length + (st (nuT vn) : Bs).length ≤ _; omega) (by have := HW.out.2.2.2; omega)).mono ?_
  rintro e w5 ⟨rfl, hB9, hb9, hk9⟩
  have HW9 : Hid (Bd B b (l ++ st (nuT vn)) w5 ∧ Below B w w5 ∧ Lib.OthersKept 5 (some b) W3 w5 ∧ W3.heap.size ≤ w5.heap.size) := ⟨hB9, HW.out.2.1.trans hb9, HW.out.2.2.1.trans hk9, by have := HW.out.2.2.2; have := hb9.size; omega⟩
  clear HW hB9 hb9 hk9 e0 e1 e2 e3 e4 e5
  have HW := HW9
  clear HW9
  have x9 := H3.out.2.kept HW.out.2.2.1 hmb (by decide)
  obtain ⟨e0, e1, e2, e3, e4, e5⟩ := x9.cells
  clear x9
  have HK : Hid (l ++ st (nuT vn) = l ++ txt nd.ps) := by
    show _ = _
    rw [HGD.out.2.2]
  rw [HK.out] at HW
  clear HK
  go_upto_region 22 with fail
  clear e0 e1 e2 e3 e4 e5
  obtain ⟨tt, fz, hinf⟩ := HGI.out _ HW.out.2.1
  go_wp2_with (refine wpList_load_row rfl 97 _ rfl 0 rfl tt _ fz _ hinf Tryz.underlying97 rfl hi30 ?_)
  clear hinf
  go_loopg [78] 5 (fun g v wr => ∃ (i : Nat), v = .int .i64 i ∧ i + g = 5 ∧ Hid (Below w5.heap.size w5 wr))
  case atStart => exact ⟨0, rfl, rfl, Below.refl _ _⟩
  case round =>
    obtain ⟨i, rfl, hi, HB⟩ := hrel
    obtain ⟨e0, e1, e2, e3, e4, e5⟩ := ((H3.out.2.kept HW.out.2.2.1 hmb (by decide)).below HB.out).cells
    by_cases h5 : i < 5
    · have hii : (i : Int) < 5 := by omega
      obtain ⟨z, hz, hidx⟩ := hV i h5
      have hne := infNe (op := 3) (by decide) i z hz
      obtain ⟨o, g, wt, lv, f, s⟩ := z
      simp only at hidx hne
      have hne1 : (o == 3) = false := by rw [beq_eq_false_iff_ne]; exact hne
      clear hz
      obtain ⟨Wa, ma, hWa, hma, hxa, bWa, ba, hBa, hlta⟩ := lay6 HB.out HB.out.size 96 (.int .i64 o) (.string ⟨g.toArray⟩) (.string ⟨wt.toArray⟩) (.int .i64 lv) (.int .i64 f) (.int .i64 s)
      obtain ⟨f0, f1, f2, f3, f4, f5⟩ := hxa.cells
      obtain ⟨z0, z1, z2, z3, z4, z5⟩ := ((H3.out.2.kept HW.out.2.2.1 hmb (by decide)).below bWa).cells
      have HBa : Hid (Below w5.heap.size w5 Wa) := bWa
      clear hxa bWa ba
      go_upto_region 25 with fail
      clear hWa hma
      go_wp2_with fail
      go_roundg (gk - 1)
      case measure => omega
      case rel => exact ⟨i + 1, by go_num, by omega, HBa.out⟩
    · obtain rfl : i = 5 := by omega
      go_wp2_with fail
      go_end0
      exact ⟨rfl, HW.out.1.below HB.out, HW.out.2.1.trans (HB.out.mono (by have := HW.out.2.2.2; omega)), ((okept H3.out.1).trans HW.out.2.2.1).trans (okept HB.out)⟩

set_option maxHeartbeats 3200000 in
set_option maxRecDepth 100000 in
theorem write_text (nd : Nd) (hw : WfT nd) (hop : nd.op = 4) : PW nd := by
  intro B b l w v hB hBw hv hG hlen hwt
  have hvo := hv.op
  have hvt := hv.text
  have hvn := hv.num
  have hvi := hv.id
  rw [hop] at hvo
  have hbw : b < w.heap.size := hB.lt
  have hsl := shown_len nd hw
  have hi30 : (Tryz.prog.info? 97).map (·.size) = some infV.size := by kernel_rfl
  have hV := infAt
  have hGi : ∀ u, Below B w u → ∃ tt fz, u.heap[0]? = some (.cells infV tt fz) := fun u hu => (hG.on hu).inf
  obtain ⟨V, hVe⟩ : ∃ V, infV = V := ⟨_, rfl⟩
  rw [hVe] at hi30 hV hGi
  clear hVe
  have HGI : Hid (∀ u, Below B w u → ∃ tt fz, u.heap[0]? = some (.cells V tt fz)) := hGi
  clear hGi
  obtain ⟨vo, vt, vn, vi, va, vl, vc, vp⟩ := v
  simp only at hvo hvt hvn hvi ⊢
  subst hvo
  have HF : Hid (vt = nd.text ∧ vn = nd.num ∧ vi = nd.id) := ⟨hvt, hvn, hvi⟩
  clear hvt hvn hvi
  have HV : Hid (NdIn (fun g => g < B) w ⟨4, vt, vn, vi, va, vl, vc, vp⟩ nd ∧ Gb B w ∧ WfT nd ∧ nd.op = 4) := ⟨hv, hG, hw, hop⟩
  clear hv hG hw hop
  obtain ⟨W3, m3, hW3, hm3, hx3, bW3, _, hB3, hlt3⟩ := lay6 (Below.refl _ w) (Nat.le_refl _) 28 (.int .i64 4) (.string ⟨vt.toArray⟩) (.int .i64 vn) (.int .u64 vi) (.slice va vl vc) (.int .i64 vp)
  have hmb : ¬ m3 = b := by omega
  obtain ⟨e0, e1, e2, e3, e4, e5⟩ := hx3.cells
  have H3 : Hid (Below w.heap.size w W3 ∧ Box6 W3 m3 28 (.int .i64 4) (.string ⟨vt.toArray⟩) (.int .i64 vn) (.int .u64 vi) (.slice va vl vc) (.int .i64 vp)) := ⟨bW3, hx3⟩
  have hs3 := bW3.size
  have HW : Hid (Bd B b l W3 ∧ Below B w W3 ∧ Lib.OthersKept 5 (some b) W3 W3 ∧ W3.heap.size ≤ W3.heap.size) := ⟨hB.below bW3, bW3.mono hBw, Lib.OthersKept.refl _ _ _, Nat.le_refl _⟩
  clear hx3 bW3 hB
  go_enter Tryz.func24, Tryz.ntmps24
  go_upto_region 1 with fail
  clear hW3 hm3
  have hgd : Gd (txT vt) ∧ vt = vt ∧ (st (txT vt)).length ≤ 100000 ∧ txt nd.ps = st (txT vt) := by
    rw [shown_text HV.out.2.2.2, ← HF.out.1] at hsl ⊢
    refine ⟨?_, rfl, by omega, rfl⟩
    have hwf := HV.out.2.2.1.1
    rw [HV.out.2.2.2, ← HF.out.1] at hwf
    unfold WfN at hwf
    simp at hwf
    exact hwf.1
  have HGD : Hid (Gd (txT vt) ∧ (st (txT vt)).length ≤ 100000 ∧ txt nd.ps = st (txT vt)) := ⟨hgd.1, hgd.2.2.1, hgd.2.2.2⟩
  rw [HGD.out.2.2] at hsl
  clear hgd
  go_wp2_with fail
  refine (write_one (txT vt) HGD.out.1 HGD.out.2.1 _ (HV.out.2.1.on HW.out.2.1).gl _ (by simp [encT, txT])).mono ?_
  rintro e w4 ⟨rfl, b9⟩
  have HW9 : Hid (Bd B b (l) w4 ∧ Below B w w4 ∧ Lib.OthersKept 5 (some b) W3 w4 ∧ W3.heap.size ≤ w4.heap.size) := ⟨(HW.out.1.below (bz1 _ _)).below b9, (HW.out.2.1.trans ((bz1 _ _).mono (by have := HW.out.2.2.2; omega))).trans (b9.mono (by have := HW.out.2.2.2; simp; omega)), (HW.out.2.2.1.trans (okept (bz1 _ _))).trans (okept b9), by have := HW.out.2.2.2; have := b9.size; simp at this; omega⟩
  clear HW b9 e0 e1 e2 e3 e4 e5
  have HW := HW9
  clear HW9
  have x9 := H3.out.2.kept HW.out.2.2.1 hmb (by decide)
  obtain ⟨e0, e1, e2, e3, e4, e5⟩ := x9.cells
  clear x9
  go_wp2_with fail
  refine (write_any B b (l) ⟨(st (txT vt) : Bs).toArray⟩ _ HW.out.1 (by show (l).length + (st (txT vt) : Bs).length ≤ _; omega) (by have := HW.out.2.2.2; omega)).mono ?_
  rintro e w5 ⟨rfl, hB9, hb9, hk9⟩
  have HW9 : Hid (Bd B b (l ++ st (txT vt)) w5 ∧ Below B w w5 ∧ Lib.OthersKept 5 (some b) W3 w5 ∧ W3.heap.size ≤ w5.heap.size) := ⟨hB9, HW.out.2.1.trans hb9, HW.out.2.2.1.trans hk9, by have := HW.out.2.2.2; have := hb9.size; omega⟩
  clear HW hB9 hb9 hk9 e0 e1 e2 e3 e4 e5
  have HW := HW9
  clear HW9
  have x9 := H3.out.2.kept HW.out.2.2.1 hmb (by decide)
  obtain ⟨e0, e1, e2, e3, e4, e5⟩ := x9.cells
  clear x9
  have HK : Hid (l ++ st (txT vt) = l ++ txt nd.ps) := by
    show _ = _
    rw [HGD.out.2.2]
  rw [HK.out] at HW
  clear HK
  go_upto_region 22 with fail
  clear e0 e1 e2 e3 e4 e5
  obtain ⟨tt, fz, hinf⟩ := HGI.out _ HW.out.2.1
  go_wp2_with (refine wpList_load_row rfl 97 _ rfl 0 rfl tt _ fz _ hinf Tryz.underlying97 rfl hi30 ?_)
  clear hinf
  go_loopg [78] 5 (fun g v wr => ∃ (i : Nat), v = .int .i64 i ∧ i + g = 5 ∧ Hid (Below w5.heap.size w5 wr))
  case atStart => exact ⟨0, rfl, rfl, Below.refl _ _⟩
  case round =>
    obtain ⟨i, rfl, hi, HB⟩ := hrel
    obtain ⟨e0, e1, e2, e3, e4, e5⟩ := ((H3.out.2.kept HW.out.2.2.1 hmb (by decide)).below HB.out).cells
    by_cases h5 : i < 5
    · have hii : (i : Int) < 5 := by omega
      obtain ⟨z, hz, hidx⟩ := hV i h5
      have hne := infNe (op := 4) (by decide) i z hz
      obtain ⟨o, g, wt, lv, f, s⟩ := z
      simp only at hidx hne
      have hne1 : (o == 4) = false := by rw [beq_eq_false_iff_ne]; exact hne
      clear hz
      obtain ⟨Wa, ma, hWa, hma, hxa, bWa, ba, hBa, hlta⟩ := lay6 HB.out HB.out.size 96 (.int .i64 o) (.string ⟨g.toArray⟩) (.string ⟨wt.toArray⟩) (.int .i64 lv) (.int .i64 f) (.int .i64 s)
      obtain ⟨f0, f1, f2, f3, f4, f5⟩ := hxa.cells
      obtain ⟨z0, z1, z2, z3, z4, z5⟩ := ((H3.out.2.kept HW.out.2.2.1 hmb (by decide)).below bWa).cells
      have HBa : Hid (Below w5.heap.size w5 Wa) := bWa
      clear hxa bWa ba
      go_upto_region 25 with fail
      clear hWa hma
      go_wp2_with fail
      go_roundg (gk - 1)
      case measure => omega
      case rel => exact ⟨i + 1, by go_num, by omega, HBa.out⟩
    · obtain rfl : i = 5 := by omega
      go_wp2_with fail
      go_end0
      exact ⟨rfl, HW.out.1.below HB.out, HW.out.2.1.trans (HB.out.mono (by have := HW.out.2.2.2; omega)), ((okept H3.out.1).trans HW.out.2.2.1).trans (okept HB.out)⟩

set_option maxHeartbeats 3200000 in
set_option maxRecDepth 100000 in
theorem write_call (nd : Nd) (hw : WfT nd) (hop : nd.op = 5) (hP : ∀ k ∈ ndL nd.kids, PW k) : PW nd := by
  intro B b l w v hB hBw hv hG hlen hwt
  have hvo := hv.op
  have hvt := hv.text
  have hvn := hv.num
  have hvi := hv.id
  rw [hop] at hvo
  have hbw : b < w.heap.size := hB.lt
  have hsl := shown_len nd hw
  have hi30 : (Tryz.prog.info? 97).map (·.size) = some infV.size := by kernel_rfl
  have hV := infAt
  have hGi : ∀ u, Below B w u → ∃ tt fz, u.heap[0]? = some (.cells infV tt fz) := fun u hu => (hG.on hu).inf
  obtain ⟨V, hVe⟩ : ∃ V, infV = V := ⟨_, rfl⟩
  rw [hVe] at hi30 hV hGi
  clear hVe
  have HGI : Hid (∀ u, Below B w u → ∃ tt fz, u.heap[0]? = some (.cells V tt fz)) := hGi
  clear hGi
  obtain ⟨vo, vt, vn, vi, va, vl, vc, vp⟩ := v
  simp only at hvo hvt hvn hvi ⊢
  subst hvo
  have HF : Hid (vt = nd.text ∧ vn = nd.num ∧ vi = nd.id) := ⟨hvt, hvn, hvi⟩
  clear hvt hvn hvi
  have HV : Hid (NdIn (fun g => g < B) w ⟨5, vt, vn, vi, va, vl, vc, vp⟩ nd ∧ Gb B w ∧ WfT nd ∧ nd.op = 5) := ⟨hv, hG, hw, hop⟩
  clear hv hG hw hop
  obtain ⟨W3, m3, hW3, hm3, hx3, bW3, _, hB3, hlt3⟩ := lay6 (Below.refl _ w) (Nat.le_refl _) 28 (.int .i64 5) (.string ⟨vt.toArray⟩) (.int .i64 vn) (.int .u64 vi) (.slice va vl vc) (.int .i64 vp)
  have hmb : ¬ m3 = b := by omega
  obtain ⟨e0, e1, e2, e3, e4, e5⟩ := hx3.cells
  have H3 : Hid (Below w.heap.size w W3 ∧ Box6 W3 m3 28 (.int .i64 5) (.string ⟨vt.toArray⟩) (.int .i64 vn) (.int .u64 vi) (.slice va vl vc) (.int .i64 vp)) := ⟨bW3, hx3⟩
  have hs3 := bW3.size
  have HW : Hid (Bd B b l W3 ∧ Below B w W3 ∧ Lib.OthersKept 5 (some b) W3 W3 ∧ W3.heap.size ≤ W3.heap.size) := ⟨hB.below bW3, bW3.mono hBw, Lib.OthersKept.refl _ _ _, Nat.le_refl _⟩
  clear hx3 bW3 hB
  go_enter Tryz.func24, Tryz.ntmps24
  go_upto_region 1 with fail
  clear hW3 hm3
  rw [shown_call HV.out.2.2.2, ← HF.out.1] at hsl
  simp only [List.length_append, List.length_singleton] at hsl
  have hwk : (wk [44, 32] 1 1 nd.kt).length + vt.length + 2 ≤ nd.wt := by omega
  have hvl : vt.length + 32 ≤ nd.wt := by have : nd.wt = nd.text.length + 32 + fw nd.kids := rfl; rw [← HF.out.1] at this; omega
  have hfw : nd.wt = vt.length + 32 + fw nd.kids := by have : nd.wt = nd.text.length + 32 + fw nd.kids := rfl; rw [← HF.out.1] at this; exact this
  go_wp2_with fail
  have htx : (⟨vt.toArray⟩ : ByteArray) ++ ⟨#[40]⟩ = ⟨(vt ++ [40]).toArray⟩ := txt_app vt [40]
  rw [htx]
  clear htx
  refine (write_any B b (l) ⟨((vt ++ [40]) : Bs).toArray⟩ _ HW.out.1 (by show (l).length + ((vt ++ [40]) : Bs).length ≤ _; simp; omega) (by have := HW.out.2.2.2; omega)).mono ?_
  rintro e w4 ⟨rfl, hB9, hb9, hk9⟩
  have HW9 : Hid (Bd B b (l ++ (vt ++ [40])) w4 ∧ Below B w w4 ∧ Lib.OthersKept 5 (some b) W3 w4 ∧ W3.heap.size ≤ w4.heap.size) := ⟨hB9, HW.out.2.1.trans hb9, HW.out.2.2.1.trans hk9, by have := HW.out.2.2.2; have := hb9.size; omega⟩
  clear HW hB9 hb9 hk9 e0 e1 e2 e3 e4 e5
  have HW := HW9
  clear HW9
  have x9 := H3.out.2.kept HW.out.2.2.1 hmb (by decide)
  obtain ⟨e0, e1, e2, e3, e4, e5⟩ := x9.cells
  clear x9
  go_wp2_with fail
  refine (wkids_any nd HV.out.2.2.1 hP [44, 32] (by decide) 1 1 B b (l ++ (vt ++ [40])) _ ⟨5, vt, vn, vi, va, vl, vc, vp⟩ HW.out.1 (by have := HW.out.2.2.2; omega) (HV.out.1.onB HW.out.2.1) (HV.out.2.1.on HW.out.2.1) (by first | omega | (simp; omega)) hwt).mono ?_
  rintro e w5 ⟨rfl, hB9, hb9, hk9⟩
  have HW9 : Hid (Bd B b (l ++ (vt ++ [40]) ++ wk [44, 32] 1 1 nd.kt) w5 ∧ Below B w w5 ∧ Lib.OthersKept 5 (some b) W3 w5 ∧ W3.heap.size ≤ w5.heap.size) := ⟨hB9, HW.out.2.1.trans hb9, HW.out.2.2.1.trans hk9, by have := HW.out.2.2.2; have := hb9.size; omega⟩
  clear HW hB9 hb9 hk9 e0 e1 e2 e3 e4 e5
  have HW := HW9
  clear HW9
  have x9 := H3.out.2.kept HW.out.2.2.1 hmb (by decide)
  obtain ⟨e0, e1, e2, e3, e4, e5⟩ := x9.cells
  clear x9
  go_wp2_with fail
  refine (write_any B b (l ++ (vt ++ [40]) ++ wk [44, 32] 1 1 nd.kt) ⟨([41] : Bs).toArray⟩ _ HW.out.1 (by show (l ++ (vt ++ [40]) ++ wk [44, 32] 1 1 nd.kt).length + ([41] : Bs).length ≤ _; simp; omega) (by have := HW.out.2.2.2; omega)).mono ?_
  rintro e w6 ⟨rfl, hB9, hb9, hk9⟩
  have HW9 : Hid (Bd B b (l ++ (vt ++ [40]) ++ wk [44, 32] 1 1 nd.kt ++ [41]) w6 ∧ Below B w w6 ∧ Lib.OthersKept 5 (some b) W3 w6 ∧ W3.heap.size ≤ w6.heap.size) := ⟨hB9, HW.out.2.1.trans hb9, HW.out.2.2.1.trans hk9, by have := HW.out.2.2.2; have := hb9.size; omega⟩
  clear HW hB9 hb9 hk9 e0 e1 e2 e3 e4 e5
  have HW := HW9
  clear HW9
  have x9 := H3.out.2.kept HW.out.2.2.1 hmb (by decide)
  obtain ⟨e0, e1, e2, e3, e4, e5⟩ := x9.cells
  clear x9
  have HK : Hid (l ++ (vt ++ [40]) ++ wk [44, 32] 1 1 nd.kt ++ [41] = l ++ txt nd.ps) := by
    show _ = _
    rw [shown_call HV.out.2.2.2, HF.out.1]; simp
  rw [HK.out] at HW
  clear HK
  go_upto_region 22 with fail
  clear e0 e1 e2 e3 e4 e5
  obtain ⟨tt, fz, hinf⟩ := HGI.out _ HW.out.2.1
  go_wp2_with (refine wpList_load_row rfl 97 _ rfl 0 rfl tt _ fz _ hinf Tryz.underlying97 rfl hi30 ?_)
  clear hinf
  go_loopg [78] 5 (fun g v wr => ∃ (i : Nat), v = .int .i64 i ∧ i + g = 5 ∧ Hid (Below w6.heap.size w6 wr))
  case atStart => exact ⟨0, rfl, rfl, Below.refl _ _⟩
  case round =>
    obtain ⟨i, rfl, hi, HB⟩ := hrel
    obtain ⟨e0, e1, e2, e3, e4, e5⟩ := ((H3.out.2.kept HW.out.2.2.1 hmb (by decide)).below HB.out).cells
    by_cases h5 : i < 5
    · have hii : (i : Int) < 5 := by omega
      obtain ⟨z, hz, hidx⟩ := hV i h5
      have hne := infNe (op := 5) (by decide) i z hz
      obtain ⟨o, g, wt, lv, f, s⟩ := z
      simp only at hidx hne
      have hne1 : (o == 5) = false := by rw [beq_eq_false_iff_ne]; exact hne
      clear hz
      obtain ⟨Wa, ma, hWa, hma, hxa, bWa, ba, hBa, hlta⟩ := lay6 HB.out HB.out.size 96 (.int .i64 o) (.string ⟨g.toArray⟩) (.string ⟨wt.toArray⟩) (.int .i64 lv) (.int .i64 f) (.int .i64 s)
      obtain ⟨f0, f1, f2, f3, f4, f5⟩ := hxa.cells
      obtain ⟨z0, z1, z2, z3, z4, z5⟩ := ((H3.out.2.kept HW.out.2.2.1 hmb (by decide)).below bWa).cells
      have HBa : Hid (Below w6.heap.size w6 Wa) := bWa
      clear hxa bWa ba
      go_upto_region 25 with fail
      clear hWa hma
      go_wp2_with fail
      go_roundg (gk - 1)
      case measure => omega
      case rel => exact ⟨i + 1, by go_num, by omega, HBa.out⟩
    · obtain rfl : i = 5 := by omega
      go_wp2_with fail
      go_end0
      exact ⟨rfl, HW.out.1.below HB.out, HW.out.2.1.trans (HB.out.mono (by have := HW.out.2.2.2; omega)), ((okept H3.out.1).trans HW.out.2.2.1).trans (okept HB.out)⟩

set_option maxHeartbeats 3200000 in
set_option maxRecDepth 100000 in
theorem write_not (nd : Nd) (hw : WfT nd) (hop : nd.op = 11) (hP : ∀ k ∈ ndL nd.kids, PW k) : PW nd := by
  intro B b l w v hB hBw hv hG hlen hwt
  have hvo := hv.op
  have hvt := hv.text
  have hvn := hv.num
  have hvi := hv.id
  rw [hop] at hvo
  have hbw : b < w.heap.size := hB.lt
  have hsl := shown_len nd hw
  have hi30 : (Tryz.prog.info? 97).map (·.size) = some infV.size := by kernel_rfl
  have hV := infAt
  have hGi : ∀ u, Below B w u → ∃ tt fz, u.heap[0]? = some (.cells infV tt fz) := fun u hu => (hG.on hu).inf
  obtain ⟨V, hVe⟩ : ∃ V, infV = V := ⟨_, rfl⟩
  rw [hVe] at hi30 hV hGi
  clear hVe
  have HGI : Hid (∀ u, Below B w u → ∃ tt fz, u.heap[0]? = some (.cells V tt fz)) := hGi
  clear hGi
  obtain ⟨vo, vt, vn, vi, va, vl, vc, vp⟩ := v
  simp only at hvo hvt hvn hvi ⊢
  subst hvo
  have HF : Hid (vt = nd.text ∧ vn = nd.num ∧ vi = nd.id) := ⟨hvt, hvn, hvi⟩
  clear hvt hvn hvi
  have HV : Hid (NdIn (fun g => g < B) w ⟨11, vt, vn, vi, va, vl, vc, vp⟩ nd ∧ Gb B w ∧ WfT nd ∧ nd.op = 11) := ⟨hv, hG, hw, hop⟩
  clear hv hG hw hop
  obtain ⟨W3, m3, hW3, hm3, hx3, bW3, _, hB3, hlt3⟩ := lay6 (Below.refl _ w) (Nat.le_refl _) 28 (.int .i64 11) (.string ⟨vt.toArray⟩) (.int .i64 vn) (.int .u64 vi) (.slice va vl vc) (.int .i64 vp)
  have hmb : ¬ m3 = b := by omega
  obtain ⟨e0, e1, e2, e3, e4, e5⟩ := hx3.cells
  have H3 : Hid (Below w.heap.size w W3 ∧ Box6 W3 m3 28 (.int .i64 11) (.string ⟨vt.toArray⟩) (.int .i64 vn) (.int .u64 vi) (.slice va vl vc) (.int .i64 vp)) := ⟨bW3, hx3⟩
  have hs3 := bW3.size
  have HW : Hid (Bd B b l W3 ∧ Below B w W3 ∧ Lib.OthersKept 5 (some b) W3 W3 ∧ W3.heap.size ≤ W3.heap.size) := ⟨hB.below bW3, bW3.mono hBw, Lib.OthersKept.refl _ _ _, Nat.le_refl _⟩
  clear hx3 bW3 hB
  go_enter Tryz.func24, Tryz.ntmps24
  go_upto_region 1 with fail
  clear hW3 hm3
  have hkl : len nd.kids = 1 := by
    have hwf := HV.out.2.2.1.1
    rw [HV.out.2.2.2] at hwf
    unfold WfN at hwf
    simp at hwf
    exact hwf.2.2.2
  have HKL : Hid (len nd.kids = 1) := hkl
  rw [shown_not HV.out.2.2.2 hkl] at hsl
  clear hkl
  simp only [List.length_append, List.length_singleton] at hsl
  have hfw : nd.wt = vt.length + 32 + fw nd.kids := by have : nd.wt = nd.text.length + 32 + fw nd.kids := rfl; rw [← HF.out.1] at this; exact this
  go_wp2_with fail
  refine (write_any B b (l) ⟨([33] : Bs).toArray⟩ _ HW.out.1 (by show (l).length + ([33] : Bs).length ≤ _; simp; omega) (by have := HW.out.2.2.2; omega)).mono ?_
  rintro e w4 ⟨rfl, hB9, hb9, hk9⟩
  have HW9 : Hid (Bd B b (l ++ [33]) w4 ∧ Below B w w4 ∧ Lib.OthersKept 5 (some b) W3 w4 ∧ W3.heap.size ≤ w4.heap.size) := ⟨hB9, HW.out.2.1.trans hb9, HW.out.2.2.1.trans hk9, by have := HW.out.2.2.2; have := hb9.size; omega⟩
  clear HW hB9 hb9 hk9 e0 e1 e2 e3 e4 e5
  have HW := HW9
  clear HW9
  have x9 := H3.out.2.kept HW.out.2.2.1 hmb (by decide)
  obtain ⟨e0, e1, e2, e3, e4, e5⟩ := x9.cells
  clear x9
  go_wp2_with fail
  refine (wkids_any nd HV.out.2.2.1 hP [] (by decide) 4 4 B b (l ++ [33]) _ ⟨11, vt, vn, vi, va, vl, vc, vp⟩ HW.out.1 (by have := HW.out.2.2.2; omega) (HV.out.1.onB HW.out.2.1) (HV.out.2.1.on HW.out.2.1) (by first | omega | (simp; omega)) hwt).mono ?_
  rintro e w5 ⟨rfl, hB9, hb9, hk9⟩
  have HW9 : Hid (Bd B b (l ++ [33] ++ wk [] 4 4 nd.kt) w5 ∧ Below B w w5 ∧ Lib.OthersKept 5 (some b) W3 w5 ∧ W3.heap.size ≤ w5.heap.size) := ⟨hB9, HW.out.2.1.trans hb9, HW.out.2.2.1.trans hk9, by have := HW.out.2.2.2; have := hb9.size; omega⟩
  clear HW hB9 hb9 hk9 e0 e1 e2 e3 e4 e5
  have HW := HW9
  clear HW9
  have x9 := H3.out.2.kept HW.out.2.2.1 hmb (by decide)
  obtain ⟨e0, e1, e2, e3, e4, e5⟩ := x9.cells
  clear x9
  have HK : Hid (l ++ [33] ++ wk [] 4 4 nd.kt = l ++ txt nd.ps) := by
    show _ = _
    rw [shown_not HV.out.2.2.2 HKL.out]; simp
  rw [HK.out] at HW
  clear HK
  go_upto_region 22 with fail
  clear e0 e1 e2 e3 e4 e5
  obtain ⟨tt, fz, hinf⟩ := HGI.out _ HW.out.2.1
  go_wp2_with (refine wpList_load_row rfl 97 _ rfl 0 rfl tt _ fz _ hinf Tryz.underlying97 rfl hi30 ?_)
  clear hinf
  go_loopg [78] 5 (fun g v wr => ∃ (i : Nat), v = .int .i64 i ∧ i + g = 5 ∧ Hid (Below w5.heap.size w5 wr))
  case atStart => exact ⟨0, rfl, rfl, Below.refl _ _⟩
  case round =>
    obtain ⟨i, rfl, hi, HB⟩ := hrel
    obtain ⟨e0, e1, e2, e3, e4, e5⟩ := ((H3.out.2.kept HW.out.2.2.1 hmb (by decide)).below HB.out).cells
    by_cases h5 : i < 5
    · have hii : (i : Int) < 5 := by omega
      obtain ⟨z, hz, hidx⟩ := hV i h5
      have hne := infNe (op := 11) (by decide) i z hz
      obtain ⟨o, g, wt, lv, f, s⟩ := z
      simp only at hidx hne
      have hne1 : (o == 11) = false := by rw [beq_eq_false_iff_ne]; exact hne
      clear hz
      obtain ⟨Wa, ma, hWa, hma, hxa, bWa, ba, hBa, hlta⟩ := lay6 HB.out HB.out.size 96 (.int .i64 o) (.string ⟨g.toArray⟩) (.string ⟨wt.toArray⟩) (.int .i64 lv) (.int .i64 f) (.int .i64 s)
      obtain ⟨f0, f1, f2, f3, f4, f5⟩ := hxa.cells
      obtain ⟨z0, z1, z2, z3, z4, z5⟩ := ((H3.out.2.kept HW.out.2.2.1 hmb (by decide)).below bWa).cells
      have HBa : Hid (Below w5.heap.size w5 Wa) := bWa
      clear hxa bWa ba
      go_upto_region 25 with fail
      clear hWa hma
      go_wp2_with fail
      go_roundg (gk - 1)
      case measure => omega
      case rel => exact ⟨i + 1, by go_num, by omega, HBa.out⟩
    · obtain rfl : i = 5 := by omega
      go_wp2_with fail
      go_end0
      exact ⟨rfl, HW.out.1.below HB.out, HW.out.2.1.trans (HB.out.mono (by have := HW.out.2.2.2; omega)), ((okept H3.out.1).trans HW.out.2.2.1).trans (okept HB.out)⟩

set_option maxHeartbeats 3200000 in
set_option maxRecDepth 100000 in
theorem write_up0 (nd : Nd) (hw : WfT nd) (hop : nd.op = 12) (hP : ∀ k ∈ ndL nd.kids, PW k) (hn0 : nd.num = 0) : PW nd := by
  intro B b l w v hB hBw hv hG hlen hwt
  have hvo := hv.op
  have hvt := hv.text
  have hvn := hv.num
  have hvi := hv.id
  rw [hop] at hvo
  have hbw : b < w.heap.size := hB.lt
  have hsl := shown_len nd hw
  have hi30 : (Tryz.prog.info? 97).map (·.size) = some infV.size := by kernel_rfl
  have hV := infAt
  have hGi : ∀ u, Below B w u → ∃ tt fz, u.heap[0]? = some (.cells infV tt fz) := fun u hu => (hG.on hu).inf
  obtain ⟨V, hVe⟩ : ∃ V, infV = V := ⟨_, rfl⟩
  rw [hVe] at hi30 hV hGi
  clear hVe
  have HGI : Hid (∀ u, Below B w u → ∃ tt fz, u.heap[0]? = some (.cells V tt fz)) := hGi
  clear hGi
  obtain ⟨vo, vt, vn, vi, va, vl, vc, vp⟩ := v
  simp only at hvo hvt hvn hvi ⊢
  subst hvo
  have HF : Hid (vt = nd.text ∧ vn = nd.num ∧ vi = nd.id) := ⟨hvt, hvn, hvi⟩
  clear hvt hvn hvi
  have HV : Hid (NdIn (fun g => g < B) w ⟨12, vt, vn, vi, va, vl, vc, vp⟩ nd ∧ Gb B w ∧ WfT nd ∧ nd.op = 12) := ⟨hv, hG, hw, hop⟩
  clear hv hG hw hop
  obtain ⟨W3, m3, hW3, hm3, hx3, bW3, _, hB3, hlt3⟩ := lay6 (Below.refl _ w) (Nat.le_refl _) 28 (.int .i64 12) (.string ⟨vt.toArray⟩) (.int .i64 vn) (.int .u64 vi) (.slice va vl vc) (.int .i64 vp)
  have hmb : ¬ m3 = b := by omega
  obtain ⟨e0, e1, e2, e3, e4, e5⟩ := hx3.cells
  have H3 : Hid (Below w.heap.size w W3 ∧ Box6 W3 m3 28 (.int .i64 12) (.string ⟨vt.toArray⟩) (.int .i64 vn) (.int .u64 vi) (.slice va vl vc) (.int .i64 vp)) := ⟨bW3, hx3⟩
  have hs3 := bW3.size
  have HW : Hid (Bd B b l W3 ∧ Below B w W3 ∧ Lib.OthersKept 5 (some b) W3 W3 ∧ W3.heap.size ≤ W3.heap.size) := ⟨hB.below bW3, bW3.mono hBw, Lib.OthersKept.refl _ _ _, Nat.le_refl _⟩
  clear hx3 bW3 hB
  go_enter Tryz.func24, Tryz.ntmps24
  go_upto_region 1 with fail
  clear hW3 hm3
  have hkl : len nd.kids = 1 := by
    have hwf := HV.out.2.2.1.1
    rw [HV.out.2.2.2] at hwf
    unfold WfN at hwf
    simp at hwf
    exact hwf.2.2.2
  have HKL : Hid (len nd.kids = 1) := hkl
  rw [shown_up HV.out.2.2.2 hkl, if_pos hn0] at hsl
  clear hkl
  simp only [List.length_append, List.length_singleton] at hsl
  have hfw : nd.wt = vt.length + 32 + fw nd.kids := by have : nd.wt = nd.text.length + 32 + fw nd.kids := rfl; rw [← HF.out.1] at this; exact this
  have hvn0 : vn = 0 := by rw [HF.out.2.1]; exact hn0
  subst hvn0
  have HN0 : Hid (nd.num = 0) := hn0
  clear hn0
  go_wp2_with fail
  refine (wkids_any nd HV.out.2.2.1 hP [] (by decide) 5 5 B b (l) _ ⟨12, vt, 0, vi, va, vl, vc, vp⟩ HW.out.1 (by have := HW.out.2.2.2; omega) (HV.out.1.onB HW.out.2.1) (HV.out.2.1.on HW.out.2.1) (by first | omega | (simp; omega)) hwt).mono ?_
  rintro e w4 ⟨rfl, hB9, hb9, hk9⟩
  have HW9 : Hid (Bd B b (l ++ wk [] 5 5 nd.kt) w4 ∧ Below B w w4 ∧ Lib.OthersKept 5 (some b) W3 w4 ∧ W3.heap.size ≤ w4.heap.size) := ⟨hB9, HW.out.2.1.trans hb9, HW.out.2.2.1.trans hk9, by have := HW.out.2.2.2; have := hb9.size; omega⟩
  clear HW hB9 hb9 hk9 e0 e1 e2 e3 e4 e5
  have HW := HW9
  clear HW9
  have x9 := H3.out.2.kept HW.out.2.2.1 hmb (by decide)
  obtain ⟨e0, e1, e2, e3, e4, e5⟩ := x9.cells
  clear x9
  go_wp2_with fail
  refine (write_any B b (l ++ wk [] 5 5 nd.kt) ⟨([94] : Bs).toArray⟩ _ HW.out.1 (by show (l ++ wk [] 5 5 nd.kt).length + ([94] : Bs).length ≤ _; simp; omega) (by have := HW.out.2.2.2; omega)).mono ?_
  rintro e w5 ⟨rfl, hB9, hb9, hk9⟩
  have HW9 : Hid (Bd B b (l ++ wk [] 5 5 nd.kt ++ [94]) w5 ∧ Below B w w5 ∧ Lib.OthersKept 5 (some b) W3 w5 ∧ W3.heap.size ≤ w5.heap.size) := ⟨hB9, HW.out.2.1.trans hb9, HW.out.2.2.1.trans hk9, by have := HW.out.2.2.2; have := hb9.size; omega⟩
  clear HW hB9 hb9 hk9 e0 e1 e2 e3 e4 e5
  have HW := HW9
  clear HW9
  have x9 := H3.out.2.kept HW.out.2.2.1 hmb (by decide)
  obtain ⟨e0, e1, e2, e3, e4, e5⟩ := x9.cells
  clear x9
  have HK : Hid (l ++ wk [] 5 5 nd.kt ++ [94] = l ++ txt nd.ps) := by
    show _ = _
    rw [shown_up HV.out.2.2.2 HKL.out, if_pos HN0.out]; simp
  rw [HK.out] at HW
  clear HK
  go_upto_region 22 with fail
  clear e0 e1 e2 e3 e4 e5
  obtain ⟨tt, fz, hinf⟩ := HGI.out _ HW.out.2.1
  go_wp2_with (refine wpList_load_row rfl 97 _ rfl 0 rfl tt _ fz _ hinf Tryz.underlying97 rfl hi30 ?_)
  clear hinf
  go_loopg [78] 5 (fun g v wr => ∃ (i : Nat), v = .int .i64 i ∧ i + g = 5 ∧ Hid (Below w5.heap.size w5 wr))
  case atStart => exact ⟨0, rfl, rfl, Below.refl _ _⟩
  case round =>
    obtain ⟨i, rfl, hi, HB⟩ := hrel
    obtain ⟨e0, e1, e2, e3, e4, e5⟩ := ((H3.out.2.kept HW.out.2.2.1 hmb (by decide)).below HB.out).cells
    by_cases h5 : i < 5
    · have hii : (i : Int) < 5 := by omega
      obtain ⟨z, hz, hidx⟩ := hV i h5
      have hne := infNe (op := 12) (by decide) i z hz
      obtain ⟨o, g, wt, lv, f, s⟩ := z
      simp only at hidx hne
      have hne1 : (o == 12) = false := by rw [beq_eq_false_iff_ne]; exact hne
      clear hz
      obtain ⟨Wa, ma, hWa, hma, hxa, bWa, ba, hBa, hlta⟩ := lay6 HB.out HB.out.size 96 (.int .i64 o) (.string ⟨g.toArray⟩) (.string ⟨wt.toArray⟩) (.int .i64 lv) (.int .i64 f) (.int .i64 s)
      obtain ⟨f0, f1, f2, f3, f4, f5⟩ := hxa.cells
      obtain ⟨z0, z1, z2, z3, z4, z5⟩ := ((H3.out.2.kept HW.out.2.2.1 hmb (by decide)).below bWa).cells
      have HBa : Hid (Below w5.heap.size w5 Wa) := bWa
      clear hxa bWa ba
      go_upto_region 25 with fail
      clear hWa hma
      go_wp2_with fail
      go_roundg (gk - 1)
      case measure => omega
      case rel => exact ⟨i + 1, by go_num, by omega, HBa.out⟩
    · obtain rfl : i = 5 := by omega
      go_wp2_with fail
      go_end0
      exact ⟨rfl, HW.out.1.below HB.out, HW.out.2.1.trans (HB.out.mono (by have := HW.out.2.2.2; omega)), ((okept H3.out.1).trans HW.out.2.2.1).trans (okept HB.out)⟩

set_option maxHeartbeats 3200000 in
set_option maxRecDepth 100000 in
theorem write_upK (nd : Nd) (hw : WfT nd) (hop : nd.op = 12) (hP : ∀ k ∈ ndL nd.kids, PW k) (hn0 : nd.num ≠ 0) : PW nd := by
  intro B b l w v hB hBw hv hG hlen hwt
  have hvo := hv.op
  have hvt := hv.text
  have hvn := hv.num
  have hvi := hv.id
  rw [hop] at hvo
  have hbw : b < w.heap.size := hB.lt
  have hsl := shown_len nd hw
  have hi30 : (Tryz.prog.info? 97).map (·.size) = some infV.size := by kernel_rfl
  have hV := infAt
  have hGi : ∀ u, Below B w u → ∃ tt fz, u.heap[0]? = some (.cells infV tt fz) := fun u hu => (hG.on hu).inf
  obtain ⟨V, hVe⟩ : ∃ V, infV = V := ⟨_, rfl⟩
  rw [hVe] at hi30 hV hGi
  clear hVe
  have HGI : Hid (∀ u, Below B w u → ∃ tt fz, u.heap[0]? = some (.cells V tt fz)) := hGi
  clear hGi
  obtain ⟨vo, vt, vn, vi, va, vl, vc, vp⟩ := v
  simp only at hvo hvt hvn hvi ⊢
  subst hvo
  have HF : Hid (vt = nd.text ∧ vn = nd.num ∧ vi = nd.id) := ⟨hvt, hvn, hvi⟩
  clear hvt hvn hvi
  have HV : Hid (NdIn (fun g => g < B) w ⟨12, vt, vn, vi, va, vl, vc, vp⟩ nd ∧ Gb B w ∧ WfT nd ∧ nd.op = 12) := ⟨hv, hG, hw, hop⟩
  clear hv hG hw hop
  obtain ⟨W3, m3, hW3, hm3, hx3, bW3, _, hB3, hlt3⟩ := lay6 (Below.refl _ w) (Nat.le_refl _) 28 (.int .i64 12) (.string ⟨vt.toArray⟩) (.int .i64 vn) (.int .u64 vi) (.slice va vl vc) (.int .i64 vp)
  have hmb : ¬ m3 = b := by omega
  obtain ⟨e0, e1, e2, e3, e4, e5⟩ := hx3.cells
  have H3 : Hid (Below w.heap.size w W3 ∧ Box6 W3 m3 28 (.int .i64 12) (.string ⟨vt.toArray⟩) (.int .i64 vn) (.int .u64 vi) (.slice va vl vc) (.int .i64 vp)) := ⟨bW3, hx3⟩
  have hs3 := bW3.size
  have HW : Hid (Bd B b l W3 ∧ Below B w W3 ∧ Lib.OthersKept 5 (some b) W3 W3 ∧ W3.heap.size ≤ W3.heap.size) := ⟨hB.below bW3, bW3.mono hBw, Lib.OthersKept.refl _ _ _, Nat.le_refl _⟩
  clear hx3 bW3 hB
  go_enter Tryz.func24, Tryz.ntmps24
  go_upto_region 1 with fail
  clear hW3 hm3
  have hkl : len nd.kids = 1 := by
    have hwf := HV.out.2.2.1.1
    rw [HV.out.2.2.2] at hwf
    unfold WfN at hwf
    simp at hwf
    exact hwf.2.2.2
  have HKL : Hid (len nd.kids = 1) := hkl
  rw [shown_up HV.out.2.2.2 hkl, if_neg hn0, ← HF.out.2.1] at hsl
  clear hkl
  simp only [List.length_append, List.length_singleton] at hsl
  have hfw : nd.wt = vt.length + 32 + fw nd.kids := by have : nd.wt = nd.text.length + 32 + fw nd.kids := rfl; rw [← HF.out.1] at this; exact this
  have hvn0 : ¬ vn = 0 := by rw [HF.out.2.1]; exact hn0
  have hvn1 : (vn == 0) = false := by rw [beq_eq_false_iff_ne]; exact hvn0
  have hvn2 : (vn != 0) = true := by simpa using hvn0
  have HGD : Hid (Gd (nuT vn) ∧ (st (nuT vn)).length ≤ 100000) := by
    have hwf := HV.out.2.2.1.1
    rw [HV.out.2.2.2] at hwf
    unfold WfN at hwf
    simp [hn0] at hwf
    rw [← HF.out.2.1] at hwf
    exact ⟨hwf.2.1, by have := num_len hwf.2.1; omega⟩
  have HN0 : Hid (nd.num ≠ 0) := hn0
  clear hn0
  go_wp2_with fail
  refine (wkids_any nd HV.out.2.2.1 hP [] (by decide) 5 5 B b (l) _ ⟨12, vt, vn, vi, va, vl, vc, vp⟩ HW.out.1 (by have := HW.out.2.2.2; omega) (HV.out.1.onB HW.out.2.1) (HV.out.2.1.on HW.out.2.1) (by first | omega | (simp; omega)) hwt).mono ?_
  rintro e w4 ⟨rfl, hB9, hb9, hk9⟩
  have HW9 : Hid (Bd B b (l ++ wk [] 5 5 nd.kt) w4 ∧ Below B w w4 ∧ Lib.OthersKept 5 (some b) W3 w4 ∧ W3.heap.size ≤ w4.heap.size) := ⟨hB9, HW.out.2.1.trans hb9, HW.out.2.2.1.trans hk9, by have := HW.out.2.2.2; have := hb9.size; omega⟩
  clear HW hB9 hb9 hk9 e0 e1 e2 e3 e4 e5
  have HW := HW9
  clear HW9
  have x9 := H3.out.2.kept HW.out.2.2.1 hmb (by decide)
  obtain ⟨e0, e1, e2, e3, e4, e5⟩ := x9.cells
  clear x9
  go_wp2_with fail
  refine (write_any B b (l ++ wk [] 5 5 nd.kt) ⟨([94] : Bs).toArray⟩ _ HW.out.1 (by show (l ++ wk [] 5 5 nd.kt).length + ([94] : Bs).length ≤ _; simp; omega) (by have := HW.out.2.2.2; omega)).mono ?_
  rintro e w5 ⟨rfl, hB9, hb9, hk9⟩
  have HW9 : Hid (Bd B b (l ++ wk [] 5 5 nd.kt ++ [94]) w5 ∧ Below B w w5 ∧ Lib.OthersKept 5 (some b) W3 w5 ∧ W3.heap.size ≤ w5.heap.size) := ⟨hB9, HW.out.2.1.trans hb9, HW.out.2.2.1.trans hk9, by have := HW.out.2.2.2; have := hb9.size; omega⟩
  clear HW hB9 hb9 hk9 e0 e1 e2 e3 e4 e5
  have HW := HW9
  clear HW9
  have x9 := H3.out.2.kept HW.out.2.2.1 hmb (by decide)
  obtain ⟨e0, e1, e2, e3, e4, e5⟩ := x9.cells
  clear x9
  go_wp2_with fail
  refine (write_one (nuT vn) HGD.out.1 HGD.out.2 _ (HV.out.2.1.on HW.out.2.1).gl _ (by simp [encT, nuT])).mono ?_
  rintro e w6 ⟨rfl, b9⟩
  have HW9 : Hid (Bd B b (l ++ wk [] 5 5 nd.kt ++ [94]) w6 ∧ Below B w w6 ∧ Lib.OthersKept 5 (some b) W3 w6 ∧ W3.heap.size ≤ w6.heap.size) := ⟨(HW.out.1.below (bz1 _ _)).below b9, (HW.out.2.1.trans ((bz1 _ _).mono (by have := HW.out.2.2.2; omega))).trans (b9.mono (by have := HW.out.2.2.2; simp; omega)), (HW.out.2.2.1.trans (okept (bz1 _ _))).trans (okept b9), by have := HW.out.2.2.2; have := b9.size; simp at this; omega⟩
  clear HW b9 e0 e1 e2 e3 e4 e5
  have HW := HW9
  clear HW9
  have x9 := H3.out.2.kept HW.out.2.2.1 hmb (by decide)
  obtain ⟨e0, e1, e2, e3, e4, e5⟩ := x9.cells
  clear x9
  go_wp2_with fail
  refine (write_any B b (l ++ wk [] 5 5 nd.kt ++ [94]) ⟨(st (nuT vn) : Bs).toArray⟩ _ HW.out.1 (by show (l ++ wk [] 5 5 nd.kt ++ [94]).length + (st (nuT vn) : Bs).length ≤ _; simp; omega) (by have := HW.out.2.2.2; omega)).mono ?_
  rintro e w7 ⟨rfl, hB9, hb9, hk9⟩
  have HW9 : Hid (Bd B b (l ++ wk [] 5 5 nd.kt ++ [94] ++ st (nuT vn)) w7 ∧ Below B w w7 ∧ Lib.OthersKept 5 (some b) W3 w7 ∧ W3.heap.size ≤ w7.heap.size) := ⟨hB9, HW.out.2.1.trans hb9, HW.out.2.2.1.trans hk9, by have := HW.out.2.2.2; have := hb9.size; omega⟩
  clear HW hB9 hb9 hk9 e0 e1 e2 e3 e4 e5
  have HW := HW9
  clear HW9
  have x9 := H3.out.2.kept HW.out.2.2.1 hmb (by decide)
  obtain ⟨e0, e1, e2, e3, e4, e5⟩ := x9.cells
  clear x9
  have HK : Hid (l ++ wk [] 5 5 nd.kt ++ [94] ++ st (nuT vn) = l ++ txt nd.ps) := by
    show _ = _
    rw [shown_up HV.out.2.2.2 HKL.out, if_neg HN0.out, HF.out.2.1]; simp
  rw [HK.out] at HW
  clear HK
  go_upto_region 22 with fail
  clear e0 e1 e2 e3 e4 e5
  obtain ⟨tt, fz, hinf⟩ := HGI.out _ HW.out.2.1
  go_wp2_with (refine wpList_load_row rfl 97 _ rfl 0 rfl tt _ fz _ hinf Tryz.underlying97 rfl hi30 ?_)
  clear hinf
  go_loopg [78] 5 (fun g v wr => ∃ (i : Nat), v = .int .i64 i ∧ i + g = 5 ∧ Hid (Below w7.heap.size w7 wr))
  case atStart => exact ⟨0, rfl, rfl, Below.refl _ _⟩
  case round =>
    obtain ⟨i, rfl, hi, HB⟩ := hrel
    obtain ⟨e0, e1, e2, e3, e4, e5⟩ := ((H3.out.2.kept HW.out.2.2.1 hmb (by decide)).below HB.out).cells
    by_cases h5 : i < 5
    · have hii : (i : Int) < 5 := by omega
      obtain ⟨z, hz, hidx⟩ := hV i h5
      have hne := infNe (op := 12) (by decide) i z hz
      obtain ⟨o, g, wt, lv, f, s⟩ := z
      simp only at hidx hne
      have hne1 : (o == 12) = false := by rw [beq_eq_false_iff_ne]; exact hne
      clear hz
      obtain ⟨Wa, ma, hWa, hma, hxa, bWa, ba, hBa, hlta⟩ := lay6 HB.out HB.out.size 96 (.int .i64 o) (.string ⟨g.toArray⟩) (.string ⟨wt.toArray⟩) (.int .i64 lv) (.int .i64 f) (.int .i64 s)
      obtain ⟨f0, f1, f2, f3, f4, f5⟩ := hxa.cells
      obtain ⟨z0, z1, z2, z3, z4, z5⟩ := ((H3.out.2.kept HW.out.2.2.1 hmb (by decide)).below bWa).cells
      have HBa : Hid (Below w7.heap.size w7 Wa) := bWa
      clear hxa bWa ba
      go_upto_region 25 with fail
      clear hWa hma
      go_wp2_with fail
      go_roundg (gk - 1)
      case measure => omega
      case rel => exact ⟨i + 1, by go_num, by omega, HBa.out⟩
    · obtain rfl : i = 5 := by omega
      go_wp2_with fail
      go_end0
      exact ⟨rfl, HW.out.1.below HB.out, HW.out.2.1.trans (HB.out.mono (by have := HW.out.2.2.2; omega)), ((okept H3.out.1).trans HW.out.2.2.1).trans (okept HB.out)⟩

set_option maxHeartbeats 3200000 in
set_option maxRecDepth 100000 in
theorem write_bin {op : Int} {j : Nat} {g0 bt : Bs} {lv0 ff oo : Int} (hj : infL[j]? = some (op, g0, bt, lv0, ff, oo)) (nd : Nd) (hw : WfT nd) (hop : nd.op = op) (hP : ∀ k ∈ ndL nd.kids, PW k) : PW nd := by
  intro B b l w v hB hBw hv hG hlen hwt
  have hvo := hv.op
  have hvt := hv.text
  have hvn := hv.num
  have hvi := hv.id
  rw [hop] at hvo
  have hbw : b < w.heap.size := hB.lt
  have hsl := shown_len nd hw
  have hi30 : (Tryz.prog.info? 97).map (·.size) = some infV.size := by kernel_rfl
  have hV := infAt
  have hGi : ∀ u, Below B w u → ∃ tt fz, u.heap[0]? = some (.cells infV tt fz) := fun u hu => (hG.on hu).inf
  obtain ⟨V, hVe⟩ : ∃ V, infV = V := ⟨_, rfl⟩
  rw [hVe] at hi30 hV hGi
  clear hVe
  have HGI : Hid (∀ u, Below B w u → ∃ tt fz, u.heap[0]? = some (.cells V tt fz)) := hGi
  clear hGi
  obtain ⟨vo, vt, vn, vi, va, vl, vc, vp⟩ := v
  simp only at hvo hvt hvn hvi ⊢
  have hvo' := hvo.symm
  clear hvo
  subst hvo'
  have HF : Hid (vt = nd.text ∧ vn = nd.num ∧ vi = nd.id) := ⟨hvt, hvn, hvi⟩
  clear hvt hvn hvi
  have HV : Hid (NdIn (fun g => g < B) w ⟨op, vt, vn, vi, va, vl, vc, vp⟩ nd ∧ Gb B w ∧ WfT nd ∧ nd.op = op) := ⟨hv, hG, hw, hop⟩
  clear hv hG hw hop
  obtain ⟨W3, m3, hW3, hm3, hx3, bW3, _, hB3, hlt3⟩ := lay6 (Below.refl _ w) (Nat.le_refl _) 28 (.int .i64 op) (.string ⟨vt.toArray⟩) (.int .i64 vn) (.int .u64 vi) (.slice va vl vc) (.int .i64 vp)
  have hmb : ¬ m3 = b := by omega
  obtain ⟨e0, e1, e2, e3, e4, e5⟩ := hx3.cells
  have H3 : Hid (Below w.heap.size w W3 ∧ Box6 W3 m3 28 (.int .i64 op) (.string ⟨vt.toArray⟩) (.int .i64 vn) (.int .u64 vi) (.slice va vl vc) (.int .i64 vp)) := ⟨bW3, hx3⟩
  have hs3 := bW3.size
  have HW : Hid (Bd B b l W3 ∧ Below B w W3 ∧ Lib.OthersKept 5 (some b) W3 W3 ∧ W3.heap.size ≤ W3.heap.size) := ⟨hB.below bW3, bW3.mono hBw, Lib.OthersKept.refl _ _ _, Nat.le_refl _⟩
  clear hx3 bW3 hB
  go_enter Tryz.func24, Tryz.ntmps24
  go_upto_region 1 with fail
  clear hW3 hm3
  have hkl : len nd.kids = 2 := by
    have hwf := HV.out.2.2.1.1
    rw [HV.out.2.2.2] at hwf
    have h5 : op = 6 ∨ op = 7 ∨ op = 8 ∨ op = 9 ∨ op = 10 := by
      match j, hj with
      | 0, hj => cases hj; exact .inl rfl
      | 1, hj => cases hj; exact .inr (.inl rfl)
      | 2, hj => cases hj; exact .inr (.inr (.inl rfl))
      | 3, hj => cases hj; exact .inr (.inr (.inr (.inl rfl)))
      | 4, hj => cases hj; exact .inr (.inr (.inr (.inr rfl)))
    rcases hwf with h | h | h | h | h | h | h | h
    · omega
    · omega
    · omega
    · omega
    · omega
    · exact h.2.2.2.2
    · omega
    · omega
  have hbt : bt.length ≤ 3 := by
    match j, hj with
    | 0, hj => cases hj; decide
    | 1, hj => cases hj; decide
    | 2, hj => cases hj; decide
    | 3, hj => cases hj; decide
    | 4, hj => cases hj; decide
  have hne : ¬ op = 1 ∧ ¬ op = 2 ∧ ¬ op = 3 ∧ ¬ op = 4 ∧ ¬ op = 5 ∧ ¬ op = 11 ∧ ¬ op = 12 := by
    match j, hj with
    | 0, hj => cases hj; decide
    | 1, hj => cases hj; decide
    | 2, hj => cases hj; decide
    | 3, hj => cases hj; decide
    | 4, hj => cases hj; decide
  have n1 : (op == 1) = false := by rw [beq_eq_false_iff_ne]; exact hne.1
  have n2 : (op == 2) = false := by rw [beq_eq_false_iff_ne]; exact hne.2.1
  have n3 : (op == 3) = false := by rw [beq_eq_false_iff_ne]; exact hne.2.2.1
  have n4 : (op == 4) = false := by rw [beq_eq_false_iff_ne]; exact hne.2.2.2.1
  have n5 : (op == 5) = false := by rw [beq_eq_false_iff_ne]; exact hne.2.2.2.2.1
  have n11 : (op == 11) = false := by rw [beq_eq_false_iff_ne]; exact hne.2.2.2.2.2.1
  have n12 : (op == 12) = false := by rw [beq_eq_false_iff_ne]; exact hne.2.2.2.2.2.2
  have HT : Hid (txt nd.ps = wk bt ff oo nd.kt) := shown_bin hj HV.out.2.2.2 hkl
  have HJ : Hid (infL[j]? = some (op, g0, bt, lv0, ff, oo) ∧ bt.length ≤ 3) := ⟨hj, hbt⟩
  have hj5 : j < 5 := (List.getElem?_eq_some_iff.1 hj).1
  clear hkl hbt hne hj hsl
  have hfw : nd.wt = vt.length + 32 + fw nd.kids := by have : nd.wt = nd.text.length + 32 + fw nd.kids := rfl; rw [← HF.out.1] at this; exact this
  go_upto_region 22 with fail
  clear e0 e1 e2 e3 e4 e5
  obtain ⟨tt, fz, hinf⟩ := HGI.out _ HW.out.2.1
  go_wp2_with (refine wpList_load_row rfl 97 _ rfl 0 rfl tt _ fz _ hinf Tryz.underlying97 rfl hi30 ?_)
  clear hinf
  go_loopg [78] 5 (fun g v wr => ∃ (i : Nat), v = .int .i64 i ∧ i + g = 5 ∧ Hid ((i ≤ j → Bd B b l wr) ∧ (j < i → Bd B b (l ++ wk bt ff oo nd.kt) wr) ∧ Below B w wr ∧ Lib.OthersKept 5 (some b) W3 wr ∧ W3.heap.size ≤ wr.heap.size))
  case atStart => exact ⟨0, rfl, rfl, fun _ => HW.out.1, fun q => by omega, HW.out.2.1, HW.out.2.2.1, HW.out.2.2.2⟩
  case round =>
    obtain ⟨i, rfl, hi, HI⟩ := hrel
    by_cases h5 : i < 5
    · have hii : (i : Int) < 5 := by omega
      obtain ⟨z, hz, hidx⟩ := hV i h5
      by_cases hej : i = j
      · subst hej
        obtain rfl := Option.some.inj (hz.symm.trans HJ.out.1)
        simp only at hidx
        clear hz
        obtain ⟨Wa, ma, hWa, hma, hxa, bWa, ba, hBa, hlta⟩ := lay6 (Below.refl _ wr) (Nat.le_refl _) 96 (.int .i64 op) (.string ⟨g0.toArray⟩) (.string ⟨bt.toArray⟩) (.int .i64 lv0) (.int .i64 ff) (.int .i64 oo)
        obtain ⟨f0, f1, f2, f3, f4, f5⟩ := hxa.cells
        obtain ⟨z0, z1, z2, z3, z4, z5⟩ := ((H3.out.2.kept HI.out.2.2.2.1 hmb (by decide)).below bWa).cells
        have HA : Hid (Bd B b l Wa ∧ Below B w Wa ∧ Lib.OthersKept 5 (some b) W3 Wa ∧ W3.heap.size ≤ Wa.heap.size) := ⟨(HI.out.1 (Nat.le_refl _)).below bWa, HI.out.2.2.1.trans (bWa.mono (by have := HI.out.2.2.2.2; omega)), HI.out.2.2.2.1.trans (okept bWa), by have := HI.out.2.2.2.2; have := bWa.size; omega⟩
        clear hxa bWa ba
        go_upto_region 25 with fail
        clear hWa hma
        go_wp2_with fail
        refine (wkids_any nd HV.out.2.2.1 hP bt HJ.out.2 ff oo B b l _ ⟨op, vt, vn, vi, va, vl, vc, vp⟩ HA.out.1 (by have := HA.out.2.2.2; omega) (HV.out.1.onB HA.out.2.1) (HV.out.2.1.on HA.out.2.1) (by omega) hwt).mono ?_
        rintro e w5 ⟨rfl, hB9, hb9, hk9⟩
        have HE : Hid (Bd B b (l ++ wk bt ff oo nd.kt) w5 ∧ Below B w w5 ∧ Lib.OthersKept 5 (some b) W3 w5 ∧ W3.heap.size ≤ w5.heap.size) := ⟨hB9, HA.out.2.1.trans hb9, HA.out.2.2.1.trans hk9, by have := HA.out.2.2.2; have := hb9.size; omega⟩
        clear hB9 hb9 hk9 z0 z1 z2 z3 z4 z5 f0 f1 f2 f3 f4 f5
        go_wp2_with fail
        go_roundg (gk - 1)
        case measure => omega
        case rel => exact ⟨i + 1, by go_num, by omega, fun q => by omega, fun _ => HE.out.1, HE.out.2.1, HE.out.2.2.1, HE.out.2.2.2⟩
      · have hne : ¬ z.1 = op := fun e => hej (inf_op hz HJ.out.1 e)
        obtain ⟨o, g, wt, lv, f, s⟩ := z
        simp only at hidx hne
        have hne1 : (o == op) = false := by rw [beq_eq_false_iff_ne]; exact hne
        have HEJ : Hid (¬ i = j) := hej
        clear hz hej
        obtain ⟨Wa, ma, hWa, hma, hxa, bWa, ba, hBa, hlta⟩ := lay6 (Below.refl _ wr) (Nat.le_refl _) 96 (.int .i64 o) (.string ⟨g.toArray⟩) (.string ⟨wt.toArray⟩) (.int .i64 lv) (.int .i64 f) (.int .i64 s)
        obtain ⟨f0, f1, f2, f3, f4, f5⟩ := hxa.cells
        obtain ⟨z0, z1, z2, z3, z4, z5⟩ := ((H3.out.2.kept HI.out.2.2.2.1 hmb (by decide)).below bWa).cells
        have HBa : Hid (Below wr.heap.size wr Wa) := bWa
        clear hxa bWa ba
        go_upto_region 25 with fail
        clear hWa hma
        go_wp2_with fail
        go_roundg (gk - 1)
        case measure => omega
        case rel => exact ⟨i + 1, by go_num, by omega, fun q => (HI.out.1 (by have := HEJ.out; omega)).below HBa.out, fun q => (HI.out.2.1 (by have := HEJ.out; omega)).below HBa.out, HI.out.2.2.1.trans (HBa.out.mono (by have := HI.out.2.2.2.2; omega)), HI.out.2.2.2.1.trans (okept HBa.out), by have := HI.out.2.2.2.2; have := HBa.out.size; omega⟩
    · obtain rfl : i = 5 := by omega
      go_wp2_with fail
      go_end0
      exact ⟨rfl, by rw [HT.out]; exact HI.out.2.1 hj5, HI.out.2.2.1, (okept H3.out.1).trans HI.out.2.2.2.1⟩

/-- write of whatever tree can be read. -/
theorem write_any2 (nd : Nd) : WfT nd → PW nd := by
  induction nd using Nd.ind with
  | h nd ih =>
    intro hw
    have hP : ∀ k ∈ ndL nd.kids, PW k := fun k hk => ih k hk (wf_kids _ hw.2 k hk)
    rcases hw.1 with ⟨h, _⟩ | ⟨h, _⟩ | ⟨h, _⟩ | ⟨h, _⟩ | ⟨h, _⟩ | ⟨h, _⟩ | ⟨h, _⟩ | ⟨h, _⟩
    · exact write_name nd hw h
    · exact write_hash nd hw h
    · exact write_num nd hw h
    · exact write_text nd hw h
    · exact write_call nd hw h hP
    · rcases h with h | h | h | h | h
      · exact write_bin (j := 0) rfl nd hw h hP
      · exact write_bin (j := 1) rfl nd hw h hP
      · exact write_bin (j := 2) rfl nd hw h hP
      · exact write_bin (j := 3) rfl nd hw h hP
      · exact write_bin (j := 4) rfl nd hw h hP
    · exact write_not nd hw h hP
    · by_cases h0 : nd.num = 0
      · exact write_up0 nd hw h hP h0
      · exact write_upK nd hw h hP h0

end Go.Proofs.YtijchmcajhdcoaaGreatDoor
