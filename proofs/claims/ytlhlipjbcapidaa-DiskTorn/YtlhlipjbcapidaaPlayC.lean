/-
  The statements' play, where bytes are put or appended in two parts. No condition but that what is handed in is no longer than any memory holds.
-/
import Derived.Test.YtlhlipjbcapidaaPlayB
namespace Go.Proofs.Ytlhlipjbcapidaa
open Go.RowKit

/-- Two rows of bytes in blocks from B on, below A; nothing else was turned. -/
structure Rows2 (B A : Nat) (w4 wq : World) (v1 v2 : Value) (xs ys : Bs) : Prop where
  o1 : OwnG encB 5 wq B v1 xs
  o2 : OwnG encB 5 wq B v2 ys
  ne : ∀ g, v1.ownBlock = some g → v2.ownBlock ≠ some g
  l1 : ∀ g, v1.ownBlock = some g → g < A
  l2 : ∀ g, v2.ownBlock = some g → g < A
  tu : Turned (fun i => B ≤ i ∧ i < A) w4 wq

theorem Rows2.put1 {B A : Nat} {w4 wq : World} {g n c : Nat} {v2 : Value} {xs ys : Bs} (h : Rows2 B A w4 wq (.slice (some ⟨g, 0, none⟩) n c) v2 xs ys) {j : Nat} (hj : j < xs.length) (y : UInt8) : Rows2 B A w4 (wq.setCell ⟨g, j, none⟩ (.int .u8 (y.toNat : Int))) (.slice (some ⟨g, 0, none⟩) n c) v2 (xs.set j y) ys :=
  ⟨byte_put h.o1 hj y, h.o2.stays (turned_set j _) (fun g' hg q => h.ne g rfl (by rw [hg, q])), h.ne, h.l1, h.l2, h.tu.trans (turned_set j _) (fun i _ q => by have := (h.o1.lt g rfl).1; have := h.l1 g rfl; have q' : i = g := q; omega)⟩

theorem Rows2.put2 {B A : Nat} {w4 wq : World} {g n c : Nat} {v1 : Value} {xs ys : Bs} (h : Rows2 B A w4 wq v1 (.slice (some ⟨g, 0, none⟩) n c) xs ys) {j : Nat} (hj : j < ys.length) (y : UInt8) : Rows2 B A w4 (wq.setCell ⟨g, j, none⟩ (.int .u8 (y.toNat : Int))) v1 (.slice (some ⟨g, 0, none⟩) n c) xs (ys.set j y) :=
  ⟨h.o1.stays (turned_set j _) (fun g' hg q => h.ne g' hg (by rw [show g' = g from q]; rfl)), byte_put h.o2 hj y, h.ne, h.l1, h.l2, h.tu.trans (turned_set j _) (fun i _ q => by have := (h.o2.lt g rfl).1; have := h.l2 g rfl; have q' : i = g := q; omega)⟩

theorem Six.put6 {w : World} {B : Nat} {a0 a1 a2 a3 a4 a5 : Value} (h : Six w B a0 a1 a2 a3 a4 a5) (v0 v1 v2 v3 v4 v5 : Value) : Six ((((((w.setCell ⟨B, 0, none⟩ v0).setCell ⟨B, 1, none⟩ v1).setCell ⟨B, 2, none⟩ v2).setCell ⟨B, 3, none⟩ v3).setCell ⟨B, 4, none⟩ v4).setCell ⟨B, 5, none⟩ v5) B v0 v1 v2 v3 v4 v5 := by
  unfold Six at h ⊢
  simp [World.setCell, Array.getElem?_modify, h]

section
variable {S Z : Nat → Prop} {w : World} {b : Nat} {d : Dk}

set_option maxHeartbeats 6400000 in
set_option maxRecDepth 100000 in
theorem play_put (hS : ∀ i, S i → i < w.heap.size) (h : DiskAt w b d S) (hk : d.ok) (hw : d.writes ≤ 1000000) {ao : Option Addr} {L c : Nat} (hSZ : ∀ i, S i → Z i) (hZ : ∀ i, Z i → i < w.heap.size) (hv : RVS Z w (rv ao L c d) d) {nm tt data : Bs} {da : Option Addr} {n dc : Nat} {N keep : Int} (mask : UInt8) (ha : ActAt S w nm tt da n dc N keep data) :
    Calls Try.prog 9 #[.pointer (some ⟨b, 0, none⟩), rv ao L c d, actV (0) nm tt da n dc N keep (mask.toNat : Int)] w fun e w' => ∃ b' v', e = .returned (.tuple #[.pointer (some ⟨b', 0, none⟩), v', .bool true]) ∧ Left S Z w w' d b' v' := by
  obtain ⟨W, hW⟩ : ∃ W, ((w.alloc (.cells #[.slice ao L c, .int .i64 (d.writes : Int), .bool d.armed, .bool d.dead, .int .i64 (d.after : Int), .int .i64 (d.keep : Int)] 28)).alloc (.cells #[.int .i64 (0), tx nm, tx tt, .slice da n dc, .int .i64 N, .int .i64 keep, .int .u8 (mask.toNat : Int)] 33)).alloc (.cells #[.slice none 0 0, .int .i64 0, .bool false, .bool false, .int .i64 0, .int .i64 0] 28) = W := ⟨_, rfl⟩
  have T3 := three_blocks w (.slice ao L c) (.int .i64 (d.writes : Int)) (.bool d.armed) (.bool d.dead) (.int .i64 (d.after : Int)) (.int .i64 (d.keep : Int)) (0) nm tt da n dc N keep (mask.toNat : Int) (.slice none 0 0) (.int .i64 0) (.bool false) (.bool false) (.int .i64 0) (.int .i64 0) W hW
  have H : Hid ((∀ i, S i → i < w.heap.size) ∧ DiskAt W b d S ∧ d.ok ∧ d.writes ≤ 1000000 ∧ RVS Z w (rv ao L c d) d ∧ ActAt S w nm tt da n dc N keep data) := ⟨hS, h.below T3.1, hk, hw, hv, ha⟩
  have HT : Hid (Below w.heap.size w W ∧ W.heap.size = w.heap.size + 3 ∧ Six W w.heap.size (.slice ao L c) (.int .i64 (d.writes : Int)) (.bool d.armed) (.bool d.dead) (.int .i64 (d.after : Int)) (.int .i64 (d.keep : Int)) ∧ Seven W (w.heap.size + 1) (0) nm tt da n dc N keep (mask.toNat : Int) ∧ Six W (w.heap.size + 2) (.slice none 0 0) (.int .i64 0) (.bool false) (.bool false) (.int .i64 0) (.int .i64 0)) := T3
  have HZ : Hid ((∀ i, S i → Z i) ∧ ∀ i, Z i → i < w.heap.size) := ⟨hSZ, hZ⟩
  clear hS h hk hw hv ha T3 hSZ hZ
  obtain ⟨x0, x1, x2, x3, x4, x5⟩ := HT.out.2.2.1.cells
  obtain ⟨y0, y1, y2, y3, y4, y5, y6⟩ := HT.out.2.2.2.1.cells
  obtain ⟨k, hk⟩ : ∃ k : Nat, min (max N 0) (n : Int) = (k : Int) := ⟨(min (max N 0) (n : Int)).toNat, by omega⟩
  have hpa := parts_any (kind := 0) (nm := nm) (tt := tt) (keep := keep) (mask := (mask.toNat : Int)) (H.out.2.2.2.2.2.rd.below HT.out.1) H.out.2.2.2.2.2.len H.out.2.2.2.2.2.cap H.out.2.2.2.2.2.n47 k hk
  have hfl : ([data.take k, data.drop k] : List Bs).flatten = data := by simp
  have hxl : ∀ x ∈ [data.take k, data.drop k], x.length ≤ 140737488355328 := by
    intro x hx
    have h1 := H.out.2.2.2.2.2.len
    have h2 := H.out.2.2.2.2.2.n47
    simp at hx
    rcases hx with rfl | rfl <;> simp <;> omega
  have HF : Hid _ := And.intro hfl hxl
  obtain ⟨D', hD'⟩ : ∃ D', (dput d nm data).1 = D' := ⟨_, rfl⟩
  obtain ⟨cd, hcd⟩ : ∃ cd, (dput d nm data).2 = cd := ⟨_, rfl⟩
  have hok : D'.ok := by rw [← hD']; exact ok_put H.out.2.2.1 nm data
  have hwr : D'.writes ≤ d.writes + 1 := by rw [← hD']; exact wr_put d nm data
  clear hk hfl hxl
  go_enter Try.func9, Try.ntmps9
  go_wp2_with fail
  refine hpa.mono ?_
  rintro e w1 ⟨v1, v2, rfl, P1, B1⟩
  obtain ⟨a1, c1, rfl, _, _, _, q1⟩ := OwnG.form P1.out.1
  obtain ⟨a2, c2, rfl, _, _, _, q2⟩ := OwnG.form P1.out.2.1
  obtain ⟨n1, hn1⟩ : ∃ n1, (data.take k).length = n1 := ⟨_, rfl⟩
  obtain ⟨n2, hn2⟩ : ∃ n2, (data.drop k).length = n2 := ⟨_, rfl⟩
  rw [hn1, hn2] at P1 ⊢
  rw [hn1] at q1
  rw [hn2] at q2
  have HP : Hid (OwnG encB 5 w1 W.heap.size (.slice a1 n1 c1) (data.take k) ∧ OwnG encB 5 w1 W.heap.size (.slice a2 n2 c2) (data.drop k) ∧ (∀ g, (Value.slice a1 n1 c1).ownBlock = some g → (Value.slice a2 n2 c2).ownBlock ≠ some g) ∧ Below W.heap.size W w1 ∧ (0 < n1 → ∃ g, a1 = some ⟨g, 0, none⟩) ∧ (0 < n2 → ∃ g, a2 = some ⟨g, 0, none⟩)) := ⟨P1.out.1, P1.out.2.1, P1.out.2.2, B1, q1, q2⟩
  have hnn : n1 ≤ 140737488355328 ∧ n2 ≤ 140737488355328 := by rw [← hn1, ← hn2]; exact ⟨HF.out.2 _ (by simp), HF.out.2 _ (by simp)⟩
  have hn1' := hnn.1
  have hn2' := hnn.2
  clear P1 B1 q1 q2 hpa hn1 hn2 hnn
  obtain ⟨A1, hA1⟩ : ∃ A1, w1.alloc (.cells #[.slice a1 n1 c1, .slice a2 n2 c2] 31) = A1 := ⟨_, rfl⟩
  have bA : Below w1.heap.size w1 A1 := by rw [← hA1]; exact bz1 _ _
  have bWA : Below W.heap.size W A1 := HP.out.2.2.2.1.trans (bA.mono HP.out.2.2.2.1.size)
  have sA : A1.heap.size = w1.heap.size + 1 := by rw [← hA1]; simp
  have pp : PartsB A1 (.slice (some ⟨w1.heap.size, 0, none⟩) 2 2) [data.take k, data.drop k] := by rw [← hA1]; exact parts_two (OwnB.at (OwnG.low HP.out.1 (Nat.zero_le _))) (OwnB.at (OwnG.low HP.out.2.1 (Nat.zero_le _))) 31
  have hp := put_at (H.out.2.1.below bWA) H.out.2.2.1 (by have := H.out.2.2.2.1; omega) nm H.out.2.2.2.2.2.nm47 pp (by simp) HF.out.2
  rw [HF.out.1, hD', hcd] at hp
  have HA : Hid (Below W.heap.size W A1 ∧ Below w1.heap.size w1 A1 ∧ A1.heap.size = w1.heap.size + 1) := ⟨bWA, bA, sA⟩
  clear bA sA pp
  clear x0 x1 x2 x3 x4 x5 y0 y1 y2 y3 y4 y5 y6
  obtain ⟨y0, y1, y2, y3, y4, y5, y6⟩ := (HT.out.2.2.2.1.below HP.out.2.2.2.1).cells
  go_wp2_with fail
  refine hp.mono ?_
  rintro e w2 ⟨r, rfl, hr, D1, T1⟩
  have er : r = cd := hr.out
  subst er
  have hS1 : ∀ i, Since S A1 w2 i → S i ∨ A1.heap.size ≤ i := fun i q => q.elim .inl (fun q => .inr q.1)
  have hWA := bWA.size
  have hW3 := HT.out.2.1
  have bwA : Below w.heap.size w A1 := HT.out.1.trans (bWA.mono HT.out.1.size)
  have tw : Turned S w w2 := (Turned.ofBelow (S := S) bwA).trans T1 (fun i _ q => q)
  have n1' : ∀ j, ¬ S (w.heap.size + j) := fun j q => by have := H.out.1 _ q; omega
  have sx := (HT.out.2.2.1.below bWA).turned T1 (n1' 0)
  have sy := (HT.out.2.2.2.1.below bWA).turned T1 (n1' 1)
  have sz := (HT.out.2.2.2.2.below bWA).turned T1 (n1' 2)
  have V1 : RVS (Upto (Since S A1 w2) Z w A1.heap.size) w2 (rv ao L c d) d := H.out.2.2.2.2.1.into HZ.out.1 tw (fun i hi q => by
    rcases q with q | q | q
    · rcases hS1 i q with q | q
      · exact HZ.out.1 _ q
      · omega
    · exact q
    · omega)
  have hU : ∀ i, Upto (Since S A1 w2) Z w A1.heap.size i → i < w2.heap.size := fun i q => by
    rcases q with q | q | q
    · exact D1.lt i q
    · exact Nat.lt_of_lt_of_le (HZ.out.2 i q) tw.size
    · exact Nat.lt_of_lt_of_le q.2 T1.size
  have hq := rput_any hU V1 H.out.2.2.1 (by have := H.out.2.2.2.1; omega) nm data H.out.2.2.2.2.2.nm47 (by rw [H.out.2.2.2.2.2.len]; exact H.out.2.2.2.2.2.n47)
  rw [hD', hcd] at hq
  have hcs : (convert 31 9 (.slice da n dc)).run Try.prog w2 = .ok (tx data) w2 := by
    have a := H.out.2.2.2.2.2
    have hl := a.len
    subst hl
    exact conv_str ⟨da, dc, rfl, a.cap, a.cap63, a.rd.turned tw a.far⟩
  have R2 : OwnG encB 5 w2 W.heap.size (.slice a1 n1 c1) (data.take k) ∧ OwnG encB 5 w2 W.heap.size (.slice a2 n2 c2) (data.drop k) := by
    refine ⟨(HP.out.1.below HA.out.2.1).stays T1 (fun g hg q => ?_), (HP.out.2.1.below HA.out.2.1).stays T1 (fun g hg q => ?_)⟩
    · have := (HP.out.1.lt g hg).1; have := H.out.1 g q; omega
    · have := (HP.out.2.1.lt g hg).1; have := H.out.1 g q; omega
  have HE1 : Hid ((∀ i, Since S A1 w2 i → S i ∨ A1.heap.size ≤ i) ∧ DiskAt w2 b D' (Since S A1 w2) ∧ Turned S w w2 ∧ Six w2 w.heap.size (.slice ao L c) (.int .i64 (d.writes : Int)) (.bool d.armed) (.bool d.dead) (.int .i64 (d.after : Int)) (.int .i64 (d.keep : Int)) ∧ Six w2 (w.heap.size + 2) (.slice none 0 0) (.int .i64 0) (.bool false) (.bool false) (.int .i64 0) (.int .i64 0) ∧ OwnG encB 5 w2 W.heap.size (.slice a1 n1 c1) (data.take k) ∧ OwnG encB 5 w2 W.heap.size (.slice a2 n2 c2) (data.drop k)) := ⟨hS1, D1, tw, sx, sz, R2.1, R2.2⟩
  clear y0 y1 y2 y3 y4 y5 y6 hr hS1 tw n1' V1 hU D1 T1 hp R2 bwA bWA hWA hW3
  obtain ⟨x0, x1, x2, x3, x4, x5⟩ := sx.cells
  obtain ⟨y0, y1, y2, y3, y4, y5, y6⟩ := sy.cells
  clear sx sy sz
  go_wp2_with fail
  refine hq.mono ?_
  rintro e w3 ⟨v3, rfl, V3, B3⟩
  obtain ⟨a3, M, c3, rfl, hM, hc3, R3, F3⟩ := V3
  obtain ⟨x0', x1', x2', x3', x4', x5'⟩ := (HE1.out.2.2.2.1.below B3).cells
  obtain ⟨f0, f1, f2, f3, f4, f5⟩ := (HE1.out.2.2.2.1.below B3).thaw
  obtain ⟨w4, hw4⟩ : ∃ w4, (((((w3.setCell ⟨w.heap.size, 0, none⟩ (.slice a3 M c3)).setCell ⟨w.heap.size, 1, none⟩ (.int .i64 (D'.writes : Int))).setCell ⟨w.heap.size, 2, none⟩ (.bool D'.armed)).setCell ⟨w.heap.size, 3, none⟩ (.bool D'.dead)).setCell ⟨w.heap.size, 4, none⟩ (.int .i64 (D'.after : Int))).setCell ⟨w.heap.size, 5, none⟩ (.int .i64 (D'.keep : Int)) = w4 := ⟨_, rfl⟩
  have t4 : Turned (fun i => i = w.heap.size) w3 w4 := by rw [← hw4]; exact laid_one (T := fun i => i = w.heap.size) rfl _ _ _ _ _ _
  have s4 : Six w4 w.heap.size (.slice a3 M c3) (.int .i64 (D'.writes : Int)) (.bool D'.armed) (.bool D'.dead) (.int .i64 (D'.after : Int)) (.int .i64 (D'.keep : Int)) := by rw [← hw4]; exact (HE1.out.2.2.2.1.below B3).put6 _ _ _ _ _ _
  have hW3 := HT.out.2.1
  have hA1s := HA.out.2.2
  have hAW := HA.out.1.size
  have sz4 : Six w4 (w.heap.size + 2) (.slice none 0 0) (.int .i64 0) (.bool false) (.bool false) (.int .i64 0) (.int .i64 0) := (HE1.out.2.2.2.2.1.below B3).turned t4 (by omega)
  have hR2 : Rows2 W.heap.size A1.heap.size w4 w4 (.slice a1 n1 c1) (.slice a2 n2 c2) (data.take k) (data.drop k) := by
    have ls1 : ∀ g, (Value.slice a1 n1 c1).ownBlock = some g → g < w1.heap.size := fun g hg => (HP.out.1.lt g hg).2
    have ls2 : ∀ g, (Value.slice a2 n2 c2).ownBlock = some g → g < w1.heap.size := fun g hg => (HP.out.2.1.lt g hg).2
    refine ⟨(HE1.out.2.2.2.2.2.1.below B3).stays t4 (fun g hg q => ?_), (HE1.out.2.2.2.2.2.2.below B3).stays t4 (fun g hg q => ?_), HP.out.2.2.1, fun g hg => ?_, fun g hg => ?_, Turned.refl _ _⟩
    · have := (HP.out.1.lt g hg).1; have q' : g = w.heap.size := q; omega
    · have := (HP.out.2.1.lt g hg).1; have q' : g = w.heap.size := q; omega
    · have := ls1 g hg; omega
    · have := ls2 g hg; omega
  have HE : Hid ((∀ i, Since S A1 w2 i → S i ∨ A1.heap.size ≤ i) ∧ DiskAt w3 b D' (Since S A1 w2) ∧ RVS (Upto (Since S A1 w2) Z w A1.heap.size) w3 (rv a3 M c3 D') D' ∧ D'.ok ∧ D'.writes ≤ d.writes + 1 ∧ Turned S w w3 ∧ Turned (fun i => i = w.heap.size) w3 w4 ∧ Six w4 w.heap.size (.slice a3 M c3) (.int .i64 (D'.writes : Int)) (.bool D'.armed) (.bool D'.dead) (.int .i64 (D'.after : Int)) (.int .i64 (D'.keep : Int)) ∧ Six w4 (w.heap.size + 2) (.slice none 0 0) (.int .i64 0) (.bool false) (.bool false) (.int .i64 0) (.int .i64 0) ∧ Rows2 W.heap.size A1.heap.size w4 w4 (.slice a1 n1 c1) (.slice a2 n2 c2) (data.take k) (data.drop k)) := ⟨HE1.out.1, HE1.out.2.1.below B3, ⟨a3, M, c3, rfl, hM, hc3, R3, F3⟩, hok, hwr, HE1.out.2.2.1.trans (Turned.ofBelow (S := S) B3) (fun i _ q => q), t4, s4, sz4, hR2⟩
  clear x0 x1 x2 x3 x4 x5 y0 y1 y2 y3 y4 y5 y6 hM hc3 R3 F3 B3 HE1 hq hok hwr hD' hcd t4 s4 sz4 hR2 hcs hA1s hAW hW3
  go_wp2_with fail
  go_loopg [13] n1 (fun m jv wr => ∃ (j : Nat) (xs : Bs), jv = .int .i64 j ∧ j + m = n1 ∧ Hid (Rows2 W.heap.size A1.heap.size w4 wr (.slice a1 n1 c1) (.slice a2 n2 c2) xs (data.drop k)))
  case atStart => exact ⟨0, _, rfl, by omega, HE.out.2.2.2.2.2.2.2.2.2⟩
  case round =>
    obtain ⟨j, xs, rfl, hj, HQ⟩ := hrel
    by_cases hjn : j < n1
    · have jd : (j : Int) < (n1 : Int) := by omega
      obtain ⟨h3, rfl⟩ := HP.out.2.2.2.2.1 (by omega)
      have hbl : xs.length = n1 := own_len HQ.out.o1
      obtain ⟨y, hy, ky, fy⟩ := byte_at HQ.out.o1 (i := j) (by omega)
      clear hy
      go_wp2
      go_roundg (gk - 1)
      case measure => omega
      case rel =>
        refine ⟨j + 1, xs.set j (y + 1), by go_num, by omega, ?_⟩
        rw [← byte_up]
        exact HQ.out.put1 (by omega) (y + 1)
    · obtain rfl : j = n1 := by omega
      obtain ⟨wo, hwo⟩ : ∃ wo, wo = wr := ⟨_, rfl⟩
      subst hwo
      go_wp2_with fail
      go_loopg [14] n2 (fun m jv wr => ∃ (i : Nat) (ys : Bs), jv = .int .i64 i ∧ i + m = n2 ∧ Hid (Rows2 W.heap.size A1.heap.size w4 wr (.slice a1 j c1) (.slice a2 n2 c2) xs ys))
      case atStart => exact ⟨0, _, rfl, by omega, HQ⟩
      case round =>
        obtain ⟨i, ys, rfl, hi, HY⟩ := hrel
        by_cases hin : i < n2
        · have id : (i : Int) < (n2 : Int) := by omega
          obtain ⟨h3, rfl⟩ := HP.out.2.2.2.2.2 (by omega)
          have hbl : ys.length = n2 := own_len HY.out.o2
          obtain ⟨y, hy, ky, fy⟩ := byte_at HY.out.o2 (i := i) (by omega)
          clear hy
          go_wp2
          go_roundg (gk - 1)
          case measure => omega
          case rel =>
            refine ⟨i + 1, ys.set i (y + 1), by go_num, by omega, ?_⟩
            rw [← byte_up]
            exact HY.out.put2 (by omega) (y + 1)
        · obtain rfl : i = n2 := by omega
          have hW3 := HT.out.2.1
          have hA1s := HA.out.1.size
          have sx := HE.out.2.2.2.2.2.2.2.1.turned HY.out.tu (by omega)
          have sz := HE.out.2.2.2.2.2.2.2.2.1.turned HY.out.tu (by omega)
          obtain ⟨x0, x1, x2, x3, x4, x5⟩ := sx.cells
          obtain ⟨z0, z1, z2, z3, z4, z5⟩ := sz.cells
          obtain ⟨g0, g1, g2, g3, g4, g5⟩ := sz.thaw
          have s2 : w.heap.size + 2 < wr.heap.size := sz.lt
          have ne : w.heap.size ≠ w.heap.size + 2 := by omega
          have ne' : w.heap.size + 2 ≠ w.heap.size := by omega
          have TT : Hid (Turned (fun i => w.heap.size ≤ i ∧ i < A1.heap.size) w3 wr) := by
            have t4 : Turned (fun i => w.heap.size ≤ i ∧ i < A1.heap.size) w3 w4 := HE.out.2.2.2.2.2.2.1.mono (fun i _ q => by have q' : i = w.heap.size := q; omega)
            exact t4.trans HY.out.tu (fun i _ q => by omega)
          clear sx sz hW3 hA1s
          go_wp2_with fail
          go_region
          go_wp2
          refine bodyPost_ret (v := .tuple #[.pointer (some ⟨b, 0, none⟩), rv a3 M c3 D', .bool true]) ?_ rfl ⟨_, _, rfl, ?_⟩
          · simp [results, Try.f9]
            go_simp
          · have hW3 := HT.out.2.1
            have hA1s := HA.out.1.size
            exact play_close H.out.1 HE.out.1 (by omega) HE.out.2.1 HE.out.2.2.1 HE.out.2.2.2.1 HE.out.2.2.2.2.1 HE.out.2.2.2.2.2.1 (TT.out.trans (laid_one (T := fun i => w.heap.size ≤ i ∧ i < A1.heap.size) (by omega) _ _ _ _ _ _).drew (fun i _ q => q))

set_option maxHeartbeats 6400000 in
set_option maxRecDepth 100000 in
theorem play_app (hS : ∀ i, S i → i < w.heap.size) (h : DiskAt w b d S) (hk : d.ok) (hw : d.writes ≤ 1000000) {ao : Option Addr} {L c : Nat} (hSZ : ∀ i, S i → Z i) (hZ : ∀ i, Z i → i < w.heap.size) (hv : RVS Z w (rv ao L c d) d) {nm tt data : Bs} {da : Option Addr} {n dc : Nat} {N keep : Int} (mask : UInt8) (ha : ActAt S w nm tt da n dc N keep data) :
    Calls Try.prog 9 #[.pointer (some ⟨b, 0, none⟩), rv ao L c d, actV (1) nm tt da n dc N keep (mask.toNat : Int)] w fun e w' => ∃ b' v', e = .returned (.tuple #[.pointer (some ⟨b', 0, none⟩), v', .bool true]) ∧ Left S Z w w' d b' v' := by
  obtain ⟨W, hW⟩ : ∃ W, ((w.alloc (.cells #[.slice ao L c, .int .i64 (d.writes : Int), .bool d.armed, .bool d.dead, .int .i64 (d.after : Int), .int .i64 (d.keep : Int)] 28)).alloc (.cells #[.int .i64 (1), tx nm, tx tt, .slice da n dc, .int .i64 N, .int .i64 keep, .int .u8 (mask.toNat : Int)] 33)).alloc (.cells #[.slice none 0 0, .int .i64 0, .bool false, .bool false, .int .i64 0, .int .i64 0] 28) = W := ⟨_, rfl⟩
  have T3 := three_blocks w (.slice ao L c) (.int .i64 (d.writes : Int)) (.bool d.armed) (.bool d.dead) (.int .i64 (d.after : Int)) (.int .i64 (d.keep : Int)) (1) nm tt da n dc N keep (mask.toNat : Int) (.slice none 0 0) (.int .i64 0) (.bool false) (.bool false) (.int .i64 0) (.int .i64 0) W hW
  have H : Hid ((∀ i, S i → i < w.heap.size) ∧ DiskAt W b d S ∧ d.ok ∧ d.writes ≤ 1000000 ∧ RVS Z w (rv ao L c d) d ∧ ActAt S w nm tt da n dc N keep data) := ⟨hS, h.below T3.1, hk, hw, hv, ha⟩
  have HT : Hid (Below w.heap.size w W ∧ W.heap.size = w.heap.size + 3 ∧ Six W w.heap.size (.slice ao L c) (.int .i64 (d.writes : Int)) (.bool d.armed) (.bool d.dead) (.int .i64 (d.after : Int)) (.int .i64 (d.keep : Int)) ∧ Seven W (w.heap.size + 1) (1) nm tt da n dc N keep (mask.toNat : Int) ∧ Six W (w.heap.size + 2) (.slice none 0 0) (.int .i64 0) (.bool false) (.bool false) (.int .i64 0) (.int .i64 0)) := T3
  have HZ : Hid ((∀ i, S i → Z i) ∧ ∀ i, Z i → i < w.heap.size) := ⟨hSZ, hZ⟩
  clear hS h hk hw hv ha T3 hSZ hZ
  obtain ⟨x0, x1, x2, x3, x4, x5⟩ := HT.out.2.2.1.cells
  obtain ⟨y0, y1, y2, y3, y4, y5, y6⟩ := HT.out.2.2.2.1.cells
  obtain ⟨k, hk⟩ : ∃ k : Nat, min (max N 0) (n : Int) = (k : Int) := ⟨(min (max N 0) (n : Int)).toNat, by omega⟩
  have hpa := parts_any (kind := 1) (nm := nm) (tt := tt) (keep := keep) (mask := (mask.toNat : Int)) (H.out.2.2.2.2.2.rd.below HT.out.1) H.out.2.2.2.2.2.len H.out.2.2.2.2.2.cap H.out.2.2.2.2.2.n47 k hk
  have hfl : ([data.take k, data.drop k] : List Bs).flatten = data := by simp
  have hxl : ∀ x ∈ [data.take k, data.drop k], x.length ≤ 140737488355328 := by
    intro x hx
    have h1 := H.out.2.2.2.2.2.len
    have h2 := H.out.2.2.2.2.2.n47
    simp at hx
    rcases hx with rfl | rfl <;> simp <;> omega
  have HF : Hid _ := And.intro hfl hxl
  obtain ⟨D', hD'⟩ : ∃ D', (dapp d nm data).1 = D' := ⟨_, rfl⟩
  obtain ⟨cd, hcd⟩ : ∃ cd, (dapp d nm data).2 = cd := ⟨_, rfl⟩
  have hok : D'.ok := by rw [← hD']; exact ok_app H.out.2.2.1 nm data
  have hwr : D'.writes ≤ d.writes + 1 := by rw [← hD']; exact wr_app d nm data
  clear hk hfl hxl
  go_enter Try.func9, Try.ntmps9
  go_wp2_with fail
  refine hpa.mono ?_
  rintro e w1 ⟨v1, v2, rfl, P1, B1⟩
  obtain ⟨a1, c1, rfl, _, _, _, q1⟩ := OwnG.form P1.out.1
  obtain ⟨a2, c2, rfl, _, _, _, q2⟩ := OwnG.form P1.out.2.1
  obtain ⟨n1, hn1⟩ : ∃ n1, (data.take k).length = n1 := ⟨_, rfl⟩
  obtain ⟨n2, hn2⟩ : ∃ n2, (data.drop k).length = n2 := ⟨_, rfl⟩
  rw [hn1, hn2] at P1 ⊢
  rw [hn1] at q1
  rw [hn2] at q2
  have HP : Hid (OwnG encB 5 w1 W.heap.size (.slice a1 n1 c1) (data.take k) ∧ OwnG encB 5 w1 W.heap.size (.slice a2 n2 c2) (data.drop k) ∧ (∀ g, (Value.slice a1 n1 c1).ownBlock = some g → (Value.slice a2 n2 c2).ownBlock ≠ some g) ∧ Below W.heap.size W w1 ∧ (0 < n1 → ∃ g, a1 = some ⟨g, 0, none⟩) ∧ (0 < n2 → ∃ g, a2 = some ⟨g, 0, none⟩)) := ⟨P1.out.1, P1.out.2.1, P1.out.2.2, B1, q1, q2⟩
  have hnn : n1 ≤ 140737488355328 ∧ n2 ≤ 140737488355328 := by rw [← hn1, ← hn2]; exact ⟨HF.out.2 _ (by simp), HF.out.2 _ (by simp)⟩
  have hn1' := hnn.1
  have hn2' := hnn.2
  clear P1 B1 q1 q2 hpa hn1 hn2 hnn
  obtain ⟨A1, hA1⟩ : ∃ A1, w1.alloc (.cells #[.slice a1 n1 c1, .slice a2 n2 c2] 31) = A1 := ⟨_, rfl⟩
  have bA : Below w1.heap.size w1 A1 := by rw [← hA1]; exact bz1 _ _
  have bWA : Below W.heap.size W A1 := HP.out.2.2.2.1.trans (bA.mono HP.out.2.2.2.1.size)
  have sA : A1.heap.size = w1.heap.size + 1 := by rw [← hA1]; simp
  have pp : PartsB A1 (.slice (some ⟨w1.heap.size, 0, none⟩) 2 2) [data.take k, data.drop k] := by rw [← hA1]; exact parts_two (OwnB.at (OwnG.low HP.out.1 (Nat.zero_le _))) (OwnB.at (OwnG.low HP.out.2.1 (Nat.zero_le _))) 31
  have hp := append_at (H.out.2.1.below bWA) H.out.2.2.1 (by have := H.out.2.2.2.1; omega) nm H.out.2.2.2.2.2.nm47 pp (by simp) HF.out.2
  rw [HF.out.1, hD', hcd] at hp
  have HA : Hid (Below W.heap.size W A1 ∧ Below w1.heap.size w1 A1 ∧ A1.heap.size = w1.heap.size + 1) := ⟨bWA, bA, sA⟩
  clear bA sA pp
  clear x0 x1 x2 x3 x4 x5 y0 y1 y2 y3 y4 y5 y6
  obtain ⟨y0, y1, y2, y3, y4, y5, y6⟩ := (HT.out.2.2.2.1.below HP.out.2.2.2.1).cells
  go_wp2_with fail
  refine hp.mono ?_
  rintro e w2 ⟨r, rfl, hr, D1, T1⟩
  have er : r = cd := hr.out
  subst er
  have hS1 : ∀ i, Since S A1 w2 i → S i ∨ A1.heap.size ≤ i := fun i q => q.elim .inl (fun q => .inr q.1)
  have hWA := bWA.size
  have hW3 := HT.out.2.1
  have bwA : Below w.heap.size w A1 := HT.out.1.trans (bWA.mono HT.out.1.size)
  have tw : Turned S w w2 := (Turned.ofBelow (S := S) bwA).trans T1 (fun i _ q => q)
  have n1' : ∀ j, ¬ S (w.heap.size + j) := fun j q => by have := H.out.1 _ q; omega
  have sx := (HT.out.2.2.1.below bWA).turned T1 (n1' 0)
  have sy := (HT.out.2.2.2.1.below bWA).turned T1 (n1' 1)
  have sz := (HT.out.2.2.2.2.below bWA).turned T1 (n1' 2)
  have V1 : RVS (Upto (Since S A1 w2) Z w A1.heap.size) w2 (rv ao L c d) d := H.out.2.2.2.2.1.into HZ.out.1 tw (fun i hi q => by
    rcases q with q | q | q
    · rcases hS1 i q with q | q
      · exact HZ.out.1 _ q
      · omega
    · exact q
    · omega)
  have hU : ∀ i, Upto (Since S A1 w2) Z w A1.heap.size i → i < w2.heap.size := fun i q => by
    rcases q with q | q | q
    · exact D1.lt i q
    · exact Nat.lt_of_lt_of_le (HZ.out.2 i q) tw.size
    · exact Nat.lt_of_lt_of_le q.2 T1.size
  have hq := rapp_any hU V1 H.out.2.2.1 (by have := H.out.2.2.2.1; omega) nm data H.out.2.2.2.2.2.nm47 (by rw [H.out.2.2.2.2.2.len]; exact H.out.2.2.2.2.2.n47)
  rw [hD', hcd] at hq
  have hcs : (convert 31 9 (.slice da n dc)).run Try.prog w2 = .ok (tx data) w2 := by
    have a := H.out.2.2.2.2.2
    have hl := a.len
    subst hl
    exact conv_str ⟨da, dc, rfl, a.cap, a.cap63, a.rd.turned tw a.far⟩
  have R2 : OwnG encB 5 w2 W.heap.size (.slice a1 n1 c1) (data.take k) ∧ OwnG encB 5 w2 W.heap.size (.slice a2 n2 c2) (data.drop k) := by
    refine ⟨(HP.out.1.below HA.out.2.1).stays T1 (fun g hg q => ?_), (HP.out.2.1.below HA.out.2.1).stays T1 (fun g hg q => ?_)⟩
    · have := (HP.out.1.lt g hg).1; have := H.out.1 g q; omega
    · have := (HP.out.2.1.lt g hg).1; have := H.out.1 g q; omega
  have HE1 : Hid ((∀ i, Since S A1 w2 i → S i ∨ A1.heap.size ≤ i) ∧ DiskAt w2 b D' (Since S A1 w2) ∧ Turned S w w2 ∧ Six w2 w.heap.size (.slice ao L c) (.int .i64 (d.writes : Int)) (.bool d.armed) (.bool d.dead) (.int .i64 (d.after : Int)) (.int .i64 (d.keep : Int)) ∧ Six w2 (w.heap.size + 2) (.slice none 0 0) (.int .i64 0) (.bool false) (.bool false) (.int .i64 0) (.int .i64 0) ∧ OwnG encB 5 w2 W.heap.size (.slice a1 n1 c1) (data.take k) ∧ OwnG encB 5 w2 W.heap.size (.slice a2 n2 c2) (data.drop k)) := ⟨hS1, D1, tw, sx, sz, R2.1, R2.2⟩
  clear y0 y1 y2 y3 y4 y5 y6 hr hS1 tw n1' V1 hU D1 T1 hp R2 bwA bWA hWA hW3
  obtain ⟨x0, x1, x2, x3, x4, x5⟩ := sx.cells
  obtain ⟨y0, y1, y2, y3, y4, y5, y6⟩ := sy.cells
  clear sx sy sz
  go_wp2_with fail
  refine hq.mono ?_
  rintro e w3 ⟨v3, rfl, V3, B3⟩
  obtain ⟨a3, M, c3, rfl, hM, hc3, R3, F3⟩ := V3
  obtain ⟨x0', x1', x2', x3', x4', x5'⟩ := (HE1.out.2.2.2.1.below B3).cells
  obtain ⟨f0, f1, f2, f3, f4, f5⟩ := (HE1.out.2.2.2.1.below B3).thaw
  obtain ⟨w4, hw4⟩ : ∃ w4, (((((w3.setCell ⟨w.heap.size, 0, none⟩ (.slice a3 M c3)).setCell ⟨w.heap.size, 1, none⟩ (.int .i64 (D'.writes : Int))).setCell ⟨w.heap.size, 2, none⟩ (.bool D'.armed)).setCell ⟨w.heap.size, 3, none⟩ (.bool D'.dead)).setCell ⟨w.heap.size, 4, none⟩ (.int .i64 (D'.after : Int))).setCell ⟨w.heap.size, 5, none⟩ (.int .i64 (D'.keep : Int)) = w4 := ⟨_, rfl⟩
  have t4 : Turned (fun i => i = w.heap.size) w3 w4 := by rw [← hw4]; exact laid_one (T := fun i => i = w.heap.size) rfl _ _ _ _ _ _
  have s4 : Six w4 w.heap.size (.slice a3 M c3) (.int .i64 (D'.writes : Int)) (.bool D'.armed) (.bool D'.dead) (.int .i64 (D'.after : Int)) (.int .i64 (D'.keep : Int)) := by rw [← hw4]; exact (HE1.out.2.2.2.1.below B3).put6 _ _ _ _ _ _
  have hW3 := HT.out.2.1
  have hA1s := HA.out.2.2
  have hAW := HA.out.1.size
  have sz4 : Six w4 (w.heap.size + 2) (.slice none 0 0) (.int .i64 0) (.bool false) (.bool false) (.int .i64 0) (.int .i64 0) := (HE1.out.2.2.2.2.1.below B3).turned t4 (by omega)
  have hR2 : Rows2 W.heap.size A1.heap.size w4 w4 (.slice a1 n1 c1) (.slice a2 n2 c2) (data.take k) (data.drop k) := by
    have ls1 : ∀ g, (Value.slice a1 n1 c1).ownBlock = some g → g < w1.heap.size := fun g hg => (HP.out.1.lt g hg).2
    have ls2 : ∀ g, (Value.slice a2 n2 c2).ownBlock = some g → g < w1.heap.size := fun g hg => (HP.out.2.1.lt g hg).2
    refine ⟨(HE1.out.2.2.2.2.2.1.below B3).stays t4 (fun g hg q => ?_), (HE1.out.2.2.2.2.2.2.below B3).stays t4 (fun g hg q => ?_), HP.out.2.2.1, fun g hg => ?_, fun g hg => ?_, Turned.refl _ _⟩
    · have := (HP.out.1.lt g hg).1; have q' : g = w.heap.size := q; omega
    · have := (HP.out.2.1.lt g hg).1; have q' : g = w.heap.size := q; omega
    · have := ls1 g hg; omega
    · have := ls2 g hg; omega
  have HE : Hid ((∀ i, Since S A1 w2 i → S i ∨ A1.heap.size ≤ i) ∧ DiskAt w3 b D' (Since S A1 w2) ∧ RVS (Upto (Since S A1 w2) Z w A1.heap.size) w3 (rv a3 M c3 D') D' ∧ D'.ok ∧ D'.writes ≤ d.writes + 1 ∧ Turned S w w3 ∧ Turned (fun i => i = w.heap.size) w3 w4 ∧ Six w4 w.heap.size (.slice a3 M c3) (.int .i64 (D'.writes : Int)) (.bool D'.armed) (.bool D'.dead) (.int .i64 (D'.after : Int)) (.int .i64 (D'.keep : Int)) ∧ Six w4 (w.heap.size + 2) (.slice none 0 0) (.int .i64 0) (.bool false) (.bool false) (.int .i64 0) (.int .i64 0) ∧ Rows2 W.heap.size A1.heap.size w4 w4 (.slice a1 n1 c1) (.slice a2 n2 c2) (data.take k) (data.drop k)) := ⟨HE1.out.1, HE1.out.2.1.below B3, ⟨a3, M, c3, rfl, hM, hc3, R3, F3⟩, hok, hwr, HE1.out.2.2.1.trans (Turned.ofBelow (S := S) B3) (fun i _ q => q), t4, s4, sz4, hR2⟩
  clear x0 x1 x2 x3 x4 x5 y0 y1 y2 y3 y4 y5 y6 hM hc3 R3 F3 B3 HE1 hq hok hwr hD' hcd t4 s4 sz4 hR2 hcs hA1s hAW hW3
  go_wp2_with fail
  go_loopg [13] n1 (fun m jv wr => ∃ (j : Nat) (xs : Bs), jv = .int .i64 j ∧ j + m = n1 ∧ Hid (Rows2 W.heap.size A1.heap.size w4 wr (.slice a1 n1 c1) (.slice a2 n2 c2) xs (data.drop k)))
  case atStart => exact ⟨0, _, rfl, by omega, HE.out.2.2.2.2.2.2.2.2.2⟩
  case round =>
    obtain ⟨j, xs, rfl, hj, HQ⟩ := hrel
    by_cases hjn : j < n1
    · have jd : (j : Int) < (n1 : Int) := by omega
      obtain ⟨h3, rfl⟩ := HP.out.2.2.2.2.1 (by omega)
      have hbl : xs.length = n1 := own_len HQ.out.o1
      obtain ⟨y, hy, ky, fy⟩ := byte_at HQ.out.o1 (i := j) (by omega)
      clear hy
      go_wp2
      go_roundg (gk - 1)
      case measure => omega
      case rel =>
        refine ⟨j + 1, xs.set j (y + 1), by go_num, by omega, ?_⟩
        rw [← byte_up]
        exact HQ.out.put1 (by omega) (y + 1)
    · obtain rfl : j = n1 := by omega
      obtain ⟨wo, hwo⟩ : ∃ wo, wo = wr := ⟨_, rfl⟩
      subst hwo
      go_wp2_with fail
      go_loopg [14] n2 (fun m jv wr => ∃ (i : Nat) (ys : Bs), jv = .int .i64 i ∧ i + m = n2 ∧ Hid (Rows2 W.heap.size A1.heap.size w4 wr (.slice a1 j c1) (.slice a2 n2 c2) xs ys))
      case atStart => exact ⟨0, _, rfl, by omega, HQ⟩
      case round =>
        obtain ⟨i, ys, rfl, hi, HY⟩ := hrel
        by_cases hin : i < n2
        · have id : (i : Int) < (n2 : Int) := by omega
          obtain ⟨h3, rfl⟩ := HP.out.2.2.2.2.2 (by omega)
          have hbl : ys.length = n2 := own_len HY.out.o2
          obtain ⟨y, hy, ky, fy⟩ := byte_at HY.out.o2 (i := i) (by omega)
          clear hy
          go_wp2
          go_roundg (gk - 1)
          case measure => omega
          case rel =>
            refine ⟨i + 1, ys.set i (y + 1), by go_num, by omega, ?_⟩
            rw [← byte_up]
            exact HY.out.put2 (by omega) (y + 1)
        · obtain rfl : i = n2 := by omega
          have hW3 := HT.out.2.1
          have hA1s := HA.out.1.size
          have sx := HE.out.2.2.2.2.2.2.2.1.turned HY.out.tu (by omega)
          have sz := HE.out.2.2.2.2.2.2.2.2.1.turned HY.out.tu (by omega)
          obtain ⟨x0, x1, x2, x3, x4, x5⟩ := sx.cells
          obtain ⟨z0, z1, z2, z3, z4, z5⟩ := sz.cells
          obtain ⟨g0, g1, g2, g3, g4, g5⟩ := sz.thaw
          have s2 : w.heap.size + 2 < wr.heap.size := sz.lt
          have ne : w.heap.size ≠ w.heap.size + 2 := by omega
          have ne' : w.heap.size + 2 ≠ w.heap.size := by omega
          have TT : Hid (Turned (fun i => w.heap.size ≤ i ∧ i < A1.heap.size) w3 wr) := by
            have t4 : Turned (fun i => w.heap.size ≤ i ∧ i < A1.heap.size) w3 w4 := HE.out.2.2.2.2.2.2.1.mono (fun i _ q => by have q' : i = w.heap.size := q; omega)
            exact t4.trans HY.out.tu (fun i _ q => by omega)
          clear sx sz hW3 hA1s
          go_wp2_with fail
          go_region
          go_wp2
          refine bodyPost_ret (v := .tuple #[.pointer (some ⟨b, 0, none⟩), rv a3 M c3 D', .bool true]) ?_ rfl ⟨_, _, rfl, ?_⟩
          · simp [results, Try.f9]
            go_simp
          · have hW3 := HT.out.2.1
            have hA1s := HA.out.1.size
            exact play_close H.out.1 HE.out.1 (by omega) HE.out.2.1 HE.out.2.2.1 HE.out.2.2.2.1 HE.out.2.2.2.2.1 HE.out.2.2.2.2.2.1 (TT.out.trans (laid_one (T := fun i => w.heap.size ≤ i ∧ i < A1.heap.size) (by omega) _ _ _ _ _ _).drew (fun i _ q => q))

end
end Go.Proofs.Ytlhlipjbcapidaa
