/-
  Several texts, laid together.
-/
import Derived.Test.YtikgbjjgpgjmfaaGreatVEntsMg
import Derived.Test.YtikgbjjgpgjmfaaGreatM31
import Derived.Test.YtikgbjjgpgjmfaaGreatM10
import Derived.Test.YtikgbjjgpgjmfaaGreatM24
import Derived.Test.YtikgbjjgpgjmfaaGreatM15
import Derived.Test.YtikgbjjgpgjmfaaGreatFOpenMg

/-
  The reference's Open of a disk without anything.
-/
namespace Go.Proofs.YtikgbjjgpgjmfaaGreat
open Go.RowKit

abbrev nilV : Value := .slice none 0 0
abbrev rm0 : Value := rm dk0 nilV nilV nilV nilV
theorem lg_nil {α : Type} (E : Enc α) (Z : Nat → Prop) (w : World) : LG E Z w none 0 0 [] := ⟨rfl, Nat.le_refl _, RdG.nil _ _ _, fun h => absurd h (by omega)⟩
theorem rms0 (Z : Nat → Prop) (w : World) : RMS Z w rm0 st0 dk0 :=
  ⟨none, 0, 0, none, 0, 0, none, 0, 0, none, 0, 0, rfl, lg_nil _ _ _, lg_nil _ _ _, lg_nil _ _ _, lg_nil _ _ _⟩
theorem rcut_none : (fcut []).1.length = 0 := by
  rw [fcut]
  simp

set_option maxHeartbeats 3200000 in
set_option maxRecDepth 100000 in
theorem ropen_none (w : World) :
    Calls Tryz.prog 32 #[.agg #[nilV, .int .i64 0, .bool false, .bool false, .int .i64 0, .int .i64 0]] w fun e w' => e = .returned (.tuple #[rm0, .int .i64 0]) ∧ Below w.heap.size w w' := by
  obtain ⟨W, hW⟩ : ∃ W, ((w.alloc (.cells #[nilV, .int .i64 0, .bool false, .bool false, .int .i64 0, .int .i64 0] 28)).alloc zeroC).alloc zeroC = W := ⟨_, rfl⟩
  have NB : Hid (BoxA W w.heap.size 28 #[nilV, .int .i64 0, .bool false, .bool false, .int .i64 0, .int .i64 0] ∧ BoxA W (w.heap.size + 1) 32 #[nilV, .int .i64 0, .bool false, .bool false, .int .i64 0, .int .i64 0, nilV, nilV, nilV] ∧ BoxA W (w.heap.size + 2) 32 #[nilV, .int .i64 0, .bool false, .bool false, .int .i64 0, .int .i64 0, nilV, nilV, nilV] ∧ Below w.heap.size w W) := by
    rw [← hW]
    exact node_boxes3 _ _ _ _ _ _ _
  have HW : Hid (((w.alloc (.cells #[nilV, .int .i64 0, .bool false, .bool false, .int .i64 0, .int .i64 0] 28)).alloc zeroC).alloc zeroC = W) := hW
  clear hW
  have hda : Hid (Calls Tryz.prog 76 #[.agg #[nilV, .int .i64 0, .bool false, .bool false, .int .i64 0, .int .i64 0], .string ⟨#[111, 98, 106, 101, 99, 116, 115]⟩] W fun e w' => e = .returned (.string ⟨#[]⟩) ∧ Below W.heap.size W w') := data_none (c := 0) dk0 fileN W (RdG.nil _ _ _) rfl (by omega) rfl
  have hcu : Hid (∀ w1, Calls Tryz.prog 77 #[.string ⟨#[]⟩] w1 fun e w' => ∃ a c n r, e = .returned (.tuple #[.slice a 0 c, .int .i64 n, .int .i64 r]) ∧ Below w1.heap.size w1 w') := by
    intro w1
    refine (rcut_any [] w1 (by simp)).mono ?_
    rintro e w' ⟨lv, rfl, h⟩
    obtain ⟨a, c, e5, _, _, _, _⟩ := OwnG.form h.out.1
    have e0 := rcut_none
    rw [e0] at e5
    exact ⟨a, c, _, _, by rw [e5], h.out.2⟩
  have x0 := NB.out.1.cell (j := 0) rfl
  have x1 := NB.out.1.cell (j := 1) rfl
  have x2 := NB.out.1.cell (j := 2) rfl
  have x3 := NB.out.1.cell (j := 3) rfl
  have x4 := NB.out.1.cell (j := 4) rfl
  have x5 := NB.out.1.cell (j := 5) rfl
  go_enter Tryz.func32, Tryz.ntmps32
  go_upto_region 2 with fail
  rw [HW.out]
  go_wp2_with fail
  refine hda.out.mono ?_
  rintro e w1 ⟨rfl, b1⟩
  have B1 : Hid (Below W.heap.size W w1) := b1
  clear b1
  go_wp2_with fail
  refine (hcu.out w1).mono ?_
  rintro e w2 ⟨a, c, n, r, rfl, b2⟩
  have B2 : Hid (Below W.heap.size W w2) := B1.out.trans (b2.mono B1.out.size)
  clear b2 x0 x1 x2 x3 x4 x5
  go_wp2_with fail
  go_loopg [9, 10] 0 (fun m av iv wr => av = .int .i64 0 ∧ iv = .int .i64 0 ∧ Hid (Below W.heap.size W wr))
  case atStart => exact ⟨rfl, rfl, B2.out⟩
  case round =>
    obtain ⟨rfl, rfl, HR⟩ := hrel
    have y := fun (j : Nat) (v : Value) (h : #[nilV, .int .i64 0, .bool false, .bool false, .int .i64 0, .int .i64 0, nilV, nilV, nilV][j]? = some v) => (NB.out.2.2.1.below HR.out NB.out.2.2.1.lt).cell h
    have y0 := y 0 _ rfl
    have y1 := y 1 _ rfl
    have y2 := y 2 _ rfl
    have y3 := y 3 _ rfl
    have y4 := y 4 _ rfl
    have y5 := y 5 _ rfl
    have y6 := y 6 _ rfl
    have y7 := y 7 _ rfl
    have y8 := y 8 _ rfl
    have z := fun (j : Nat) (v : Value) (h : #[nilV, .int .i64 0, .bool false, .bool false, .int .i64 0, .int .i64 0, nilV, nilV, nilV][j]? = some v) => (NB.out.2.1.below HR.out NB.out.2.1.lt).cell h
    have f := (NB.out.2.1.below HR.out NB.out.2.1.lt).thaw
    have z0 := z 0 _ rfl
    have z1 := z 1 _ rfl
    have z2 := z 2 _ rfl
    have z3 := z 3 _ rfl
    have z4 := z 4 _ rfl
    have z5 := z 5 _ rfl
    have z6 := z 6 _ rfl
    have z7 := z 7 _ rfl
    have z8 := z 8 _ rfl
    have f0 := f 0
    have f1 := f 1
    have f2 := f 2
    have f3 := f 3
    have f4 := f 4
    have f5 := f 5
    have f6 := f 6
    have f7 := f 7
    have f8 := f 8
    have sz : (⟨#[]⟩ : ByteArray).size = 0 := rfl
    clear y z f
    go_wp2
    refine bodyPost_ret (v := .tuple #[.agg #[nilV, .int .i64 0, .bool false, .bool false, .int .i64 0, .int .i64 0, nilV, nilV, nilV], .int .i64 0]) ?_ rfl ⟨rfl, ?_⟩
    · simp [results, Tryz.f32]
      go_simp
    · have ht := lay_nine wr (w.heap.size + 1) nilV (.int .i64 0) (.bool false) (.bool false) (.int .i64 0) (.int .i64 0) nilV nilV nilV
      have b := NB.out.2.2.2.trans (HR.out.mono NB.out.2.2.2.size)
      exact b.trans (ht.below b.size (fun k hk q => by have q' : k = w.heap.size + 1 := q; omega))

end Go.Proofs.YtikgbjjgpgjmfaaGreat

/-
  Trim, Rename and Remove of the program's disk, each by a contract over the document's disk. No condition but that what is handed in is no longer than any memory holds.
-/
namespace Go.Proofs.YtikgbjjgpgjmfaaGreat
open Go.RowKit

theorem out_len {l : Fs} {n v : Bs} (h : FRise l) (hv : fget l n = some v) : (fout l n).length = l.length - 1 := by
  have e : fwith (fout l n) n v = l := by
    refine fs_ext (rise_with n v (rise_out n h)) h (fun m => ?_)
    rw [fget_with n v m (rise_out n h), fget_out]
    by_cases q : n = m
    · rw [if_pos q, ← q, hv]
    · rw [if_neg q, if_neg q]
  have hl := with_len n v (rise_out n h)
  rw [e, fget_out, if_pos rfl] at hl
  simp at hl
  omega

/-- delete(m, k), as one step. -/
theorem del_step {ops : Array Oper} {rest : List Oper} {o : Oper} {a : Act} {w : World} {Q : Exit → Act → World → Prop} (hgd : o.guard = none) (mo x : Operand)
    (hop : o.op = .call { callee := .builtin .delete, args := #[mo, x], argTypes := #[122, 9] }) (m c : Nat) (f : Bs → Option Value) (hm : a.eval mo = .map (some m)) (h : MapIs w m f c) (n : Bs) (hn : n.length ≤ maxLen) (hx : a.eval x = tx n) (hi : (f n).isSome = true)
    (hK : ∀ w', MapIs w' m (fdel f n) (c - 1) → w.grownBy w' (some m) → wpList Tryz.prog ops Q rest (a.put o.dst (.tuple #[])) w') : wpList Tryz.prog ops Q (o :: rest) a w := by
  refine wpList_plain hgd fun K' hK' => ?_
  obtain ⟨w', hrun, r1, r2⟩ := h.del ⟨n.toArray⟩ (by rw [str_size]; exact hn) hi o.type
  unfold Oper.wp
  simp [execOp, hop, resolve, invoke, builtin, hm, hx, hrun, Result.andThen]
  exact hK' _ _ (hK w' r1 r2)

section
variable {S : Nat → Prop} {X : Bs → Prop} {w : World} {b m : Nat} {f : Bs → Option Value} {a k : Int} {d : Dk}

theorem DiskM.outOf (h : DiskM w b m f a k d S) (hr : FRise d.files) {n bs : Bs} (hb : fget d.files n = some bs) {w' : World} (hg : w.grownBy w' (some m)) (hm : MapIs w' m (fdel f n) (d.files.length - 1)) : DiskM w' b m (fdel f n) a k { d with files := fout d.files n } S := by
  have ht : Turned (fun i => i = m) w w' := grown_turned hg
  refine ⟨?_, h.cut, ⟨?_, ?_, ?_, ?_, ?_⟩, h.mine, fun i hi => Nat.lt_of_lt_of_le (h.lt i hi) hg.size⟩
  · rw [ht.block b h.lt_b (fun e => h.m_ne e.symm)]
    exact h.cells
  · show MapIs w' m (fdel f n) (fout d.files n).length
    rw [out_len hr hb]
    exact hm
  · intro x hx
    unfold fdel
    split
    · rfl
    · rename_i e
      have hx' : fget (fout d.files n) x = none := hx
      rw [fget_out, if_neg (fun q => e q.symm)] at hx'
      exact h.files.no x hx'
  · intro x cs hx
    have hx' : fget (fout d.files n) x = some cs := hx
    rw [fget_out] at hx'
    by_cases e : n = x
    · rw [if_pos e] at hx'; cases hx'
    · rw [if_neg e] at hx'
      obtain ⟨u, hu, ho⟩ := h.files.yes x cs hx'
      refine ⟨u, ?_, .inr ((ho.elim False.elim id).turned ht (fun g hg' => (DiskM.row_ne h hu hg').2))⟩
      unfold fdel
      rw [if_neg (fun q => e q.symm)]
      exact hu
  · intro x y u v g hxy hx hy hu
    unfold fdel at hx hy
    split at hx
    · cases hx
    · split at hy
      · cases hy
      · exact h.files.apart x y u v g hxy hx hy hu
  · intro x u g hx hu
    unfold fdel at hx
    split at hx
    · cases hx
    · exact h.files.own x u g hx hu

theorem turned_mine {w' : World} (hb : S b) (h : Turned (fun i => i = b) w w') : Turned S w w' := h.mono (T := S) (fun i _ e => by rw [e]; exact hb)

theorem DiskM.since {w' : World} {d' : Dk} {f' : Bs → Option Value} {a' : Int} (hD : DiskM w' b m f' a' k d' S) (w : World) : DiskAt w' b d' (Since S w w') :=
  ⟨m, f', a', k, DiskX.mono hD (fun _ q => .inl q) (fun _ q => q) (fun i hi => by
    rcases hi with q | q
    · exact hD.lt i q
    · exact q.2)⟩

end

end Go.Proofs.YtikgbjjgpgjmfaaGreat

/-
  Trim and Spoil of the program's disk, each by a contract over the document's disk. No condition but that what is handed in is no longer than any memory holds.
-/
namespace Go.Proofs.YtikgbjjgpgjmfaaGreat
open Go.RowKit

section
variable {S : Nat → Prop} {w : World} {b m : Nat} {f : Bs → Option Value} {a k : Int} {d : Dk}

set_option maxHeartbeats 800000 in
set_option maxRecDepth 100000 in
theorem trim_bad (b : Nat) (n : Bs) (z : Int) (hg : isName n = false) : Calls Tryz.prog 61 #[.pointer (some ⟨b, 0, none⟩), tx n, .int .i64 z] w fun e w' => e = .returned (.int .i64 2) ∧ w' = w := by
  have hc := find_bad (w := w) b n hg
  clear hg
  go_enter Tryz.func61, Tryz.ntmps61
  go_wp2_with fail
  refine hc.mono ?_
  rintro e w1 ⟨rfl, rfl⟩
  go_wp2
  go_ret
  exact ⟨rfl, rfl⟩

set_option maxHeartbeats 800000 in
set_option maxRecDepth 100000 in
theorem trim_none (h : DiskM w b m f a k d S) (n : Bs) (z : Int) (hg : isName n = true) (hn : n.length ≤ maxLen) (hf : f n = none) : Calls Tryz.prog 61 #[.pointer (some ⟨b, 0, none⟩), tx n, .int .i64 z] w fun e w' => e = .returned (.int .i64 5) ∧ w' = w := by
  have hc := find_none h n hg hn hf
  clear h hg hf
  go_enter Tryz.func61, Tryz.ntmps61
  go_wp2_with fail
  refine hc.mono ?_
  rintro e w1 ⟨rfl, rfl⟩
  go_wp2
  go_ret
  exact ⟨rfl, rfl⟩

set_option maxHeartbeats 800000 in
set_option maxRecDepth 100000 in
theorem trim_range (h : DiskM w b m f a k d S) (n : Bs) (z : Int) (hg : isName n = true) (hn : n.length ≤ maxLen) {v : Value} {bs : Bs} (hf : f n = some v) (hO : OwnB w v bs) (hz : z < 0 ∨ (bs.length : Int) < z) :
    Calls Tryz.prog 61 #[.pointer (some ⟨b, 0, none⟩), tx n, .int .i64 z] w fun e w' => e = .returned (.int .i64 3) ∧ w' = w := by
  have hc := find_ok h n hg hn hf
  obtain ⟨ao, cc, rfl, _⟩ := OwnG.form hO
  obtain ⟨L, hL⟩ : ∃ L, bs.length = L := ⟨_, rfl⟩
  rw [hL] at hz hc
  clear h hg hf hO hL
  by_cases h0 : z < 0
  · have p : decide (z < 0) = true := by simpa using h0
    go_enter Tryz.func61, Tryz.ntmps61
    go_wp2_with fail
    refine hc.mono ?_
    rintro e w1 ⟨rfl, rfl⟩
    go_wp2
    go_ret
    exact ⟨rfl, rfl⟩
  · have p : decide (z < 0) = false := by simpa using h0
    have p2 : decide ((L : Int) < z) = true := by rw [decide_eq_true_eq]; omega
    go_enter Tryz.func61, Tryz.ntmps61
    go_wp2_with fail
    refine hc.mono ?_
    rintro e w1 ⟨rfl, rfl⟩
    go_wp2
    go_ret
    exact ⟨rfl, rfl⟩

set_option maxHeartbeats 800000 in
set_option maxRecDepth 100000 in
theorem trim_off (h : DiskM w b m f a k d S) (n : Bs) (z : Int) (hg : isName n = true) (hn : n.length ≤ maxLen) {v : Value} {bs : Bs} (hf : f n = some v) (hO : OwnB w v bs) (h0 : 0 ≤ z) (h1 : z ≤ (bs.length : Int)) (hb : d.after < 9223372036854775808) (hw : d.writes < 4611686018427387904) (hdo : (dnext d).2.1 = false) :
    Calls Tryz.prog 61 #[.pointer (some ⟨b, 0, none⟩), tx n, .int .i64 z] w fun e w' => e = .returned (.int .i64 8) ∧ ∃ a', DiskM w' b m f a' k (dnext d).1 S ∧ Turned (fun i => i = b) w w' := by
  have hc := find_ok h n hg hn hf
  have hwr := write_any h hb hw
  obtain ⟨ao, cc, rfl, _⟩ := OwnG.form hO
  obtain ⟨L, hL⟩ : ∃ L, bs.length = L := ⟨_, rfl⟩
  rw [hL] at h1 hc
  clear h hg hf hO hL
  have p : decide (z < 0) = false := by simpa using h0
  have p2 : decide ((L : Int) < z) = false := by rw [decide_eq_false_iff_not]; omega
  go_enter Tryz.func61, Tryz.ntmps61
  go_wp2_with fail
  refine hc.mono ?_
  rintro e w1 ⟨rfl, hw1⟩
  rw [hw1]
  clear hw1 w1
  go_wp2_with fail
  refine hwr.mono ?_
  rintro e w2 ⟨r, a', rfl, hr, hD, ht2⟩
  have er : r = 8 := by rw [hr.out, if_neg (by rw [hdo]; simp)]
  subst er
  have W2 : Hid (DiskM w2 b m f a' k (dnext d).1 S ∧ Turned (fun i => i = b) w w2) := ⟨hD, ht2⟩
  clear hD ht2 hr
  go_wp2
  go_ret
  exact ⟨rfl, a', W2.out⟩

/-- A file in new blocks, put into a disk. -/
theorem fresh_mid {w1 w2 w3 : World} {v3 : Value} {cs : Bs} {a' : Int} {d' : Dk} (h : S b) (hS : ∀ i, S i → i < w.heap.size) (T1 : Turned (fun i => i = b) w w1) (hD : DiskM w1 b m f a' k d' S) (hw2 : w1 = w2) (B3 : Below w2.heap.size w2 w3) (hO : OwnG encB 5 w3 w2.heap.size v3 cs) :
    DiskM w3 b m f a' k d' (Since S w w3) ∧ OwnB w3 v3 cs ∧ (∀ y u g, f y = some u → u.ownBlock = some g → v3.ownBlock ≠ some g) ∧ (∀ g, v3.ownBlock = some g → Since S w w3 g) ∧ Turned S w w3 := by
  subst hw2
  have hsz := T1.size
  refine ⟨DiskX.mono (DiskX.below hD B3) (fun _ q => .inl q) (fun _ q => q) (fun i hi => ?_), OwnG.low hO (Nat.zero_le _), ?_, ?_, (turned_mine h T1).trans (Turned.ofBelow (S := S) B3) (fun _ _ q => q)⟩
  · rcases hi with q | q
    · exact Nat.lt_of_lt_of_le (hS i q) (Nat.le_trans hsz B3.size)
    · exact q.2
  · intro y u g hu hg q
    have h1 := (hO.lt g q).1
    have h2 := DiskM.row_lt hD hu hg
    omega
  · intro g hg
    have h1 := hO.lt g hg
    exact .inr ⟨by omega, h1.2⟩

set_option maxHeartbeats 1600000 in
set_option maxRecDepth 100000 in
theorem trim_ok (h : DiskM w b m f a k d S) (hrise : FRise d.files) (hfl : d.files.length ≤ 1000) (n : Bs) (z : Nat) (hg : isName n = true) (hn : n.length ≤ 140737488355328) {v : Value} {bs : Bs} (hf : f n = some v) (hO : OwnB w v bs) (hbl : bs.length ≤ 262144) (h1 : z ≤ bs.length) (hb : d.after < 9223372036854775808) (hw : d.writes < 4611686018427387904) (hdo : (dnext d).2.1 = true) :
    Calls Tryz.prog 61 #[.pointer (some ⟨b, 0, none⟩), tx n, .int .i64 (z : Int)] w fun e w' => e = .returned (.int .i64 0) ∧ DiskAt w' b { (dnext d).1 with files := fwith d.files n (bs.take z) } (Since S w w') ∧ Turned S w w' := by
  have hc := find_ok h n hg (by simp only [maxLen]; omega) hf
  have hwr := write_any h hb hw
  have H : Hid (DiskM w b m f a k d S ∧ FRise d.files ∧ d.files.length ≤ 1000 ∧ f n = some v ∧ OwnB w v bs) := ⟨h, hrise, hfl, hf, hO⟩
  obtain ⟨v', hsl, hsb⟩ := bslice_j (j := z) w (OwnB.at hO) h1
  have SB : Hid (∀ w, BAt w v bs → BAt w v' (bs.take z)) := hsb
  obtain ⟨ao, cc, rfl, _⟩ := OwnG.form hO
  obtain ⟨L, hL⟩ : ∃ L, bs.length = L := ⟨_, rfl⟩
  rw [hL] at h1 hc H SB hsl hbl
  have LL : Hid (bs.length = L) := hL
  clear h hg hf hO hL hsb
  have p : decide ((z : Int) < 0) = false := by rw [decide_eq_false_iff_not]; omega
  have p2 : decide ((L : Int) < (z : Int)) = false := by rw [decide_eq_false_iff_not]; omega
  go_enter Tryz.func61, Tryz.ntmps61
  go_wp2_with fail
  refine hc.mono ?_
  rintro e w1 ⟨rfl, hw1⟩
  rw [hw1]
  clear hw1 w1
  go_wp2_with fail
  refine hwr.mono ?_
  rintro e w2 ⟨r, a', rfl, hr, hD, ht2⟩
  have er : r = 0 := by rw [hr.out, if_pos hdo]
  subst er
  have ef : (dnext d).1.files = d.files := dnext_files d
  have W2 : Hid (DiskM w2 b m f a' k (dnext d).1 S ∧ Turned (fun i => i = b) w w2) := ⟨hD, ht2⟩
  have b2 : OwnB w2 (.slice ao L cc) bs := H.out.2.2.2.2.turned ht2 (fun g hg e => (DiskM.row_ne H.out.1 H.out.2.2.2.1 hg).1 e)
  have hcl := bclone_any w2 (SB.out w2 (OwnB.at b2)) (by rw [List.length_take, LL.out]; omega)
  clear hD ht2 hr hwr hc b2
  go_wp2_with fail
  refine hcl.mono ?_
  rintro e w3 ⟨v3, rfl, O3, B3⟩
  have F := fresh_mid H.out.1.mine.1 H.out.1.lt W2.out.2 W2.out.1 rfl B3 O3
  have hs := set_any F.1 (by rw [ef]; exact H.out.2.1) (by rw [ef]; exact H.out.2.2.1) hn (fun _ q => q.elim) F.2.1 (fun y u g _ hu hg => F.2.2.1 y u g hu hg) F.2.2.2.1
  have FT : Hid (Turned S w w3) := F.2.2.2.2
  clear F O3 B3 hcl
  go_wp2_with fail
  refine hs.mono ?_
  rintro e w4 ⟨rfl, D4, T4⟩
  have E := lay_end H.out.1.mine.2 FT.out D4 T4
  rw [ef] at E
  clear D4 T4 hs
  go_wp2
  go_ret
  exact ⟨rfl, E.1, E.2⟩

/-- disk.Trim. -/
theorem trim_at (h : DiskAt w b d S) (hk : d.ok) (hw : d.writes < 4611686018427387904) (n : Bs) (hn : n.length ≤ 140737488355328) (z : Int) :
    Calls Tryz.prog 61 #[.pointer (some ⟨b, 0, none⟩), tx n, .int .i64 z] w fun e w' => ∃ r, e = .returned (.int .i64 r) ∧ Hid (r = (dtrim d n z).2) ∧ DiskAt w' b (dtrim d n z).1 (Since S w w') ∧ Turned S w w' := by
  obtain ⟨m, f, a, k, h⟩ := h
  have hn' : n.length ≤ maxLen := by simp only [maxLen]; omega
  unfold dtrim
  by_cases hg : isName n = false
  · refine (trim_bad b n z hg).mono ?_
    rintro e w' ⟨rfl, rfl⟩
    rw [if_pos hg]
    exact ⟨2, rfl, rfl, DiskM.same h, Turned.refl _ _⟩
  · rw [if_neg hg]
    have hg' : isName n = true := by simpa using hg
    rcases h.file n with ⟨h1, h2⟩ | ⟨bs, v, h1, h2, ho⟩
    · refine (trim_none h n z hg' hn' h2).mono ?_
      rintro e w' ⟨rfl, rfl⟩
      rw [h1]
      exact ⟨5, rfl, rfl, DiskM.same h, Turned.refl _ _⟩
    · rw [h1]
      have ho : OwnB w v bs := ho.elim False.elim id
      by_cases hz : z < 0 ∨ (bs.length : Int) < z
      · refine (trim_range h n z hg' hn' h2 ho hz).mono ?_
        rintro e w' ⟨rfl, rfl⟩
        simp only [hz, if_true]
        exact ⟨3, rfl, rfl, DiskM.same h, Turned.refl _ _⟩
      · obtain ⟨q, rfl⟩ : ∃ q : Nat, z = (q : Int) := ⟨z.toNat, by omega⟩
        by_cases hdo : (dnext d).2.1 = true
        · refine (trim_ok h hk.rise (by have := hk.few; omega) n q hg' hn h2 ho (hk.get h1) (by omega) hk.after hw hdo).mono ?_
          rintro e w' ⟨rfl, h3, h4⟩
          simp only [hz, hdo, if_true, if_false, Int.toNat_natCast]
          exact ⟨0, rfl, rfl, h3, h4⟩
        · have hdo' : (dnext d).2.1 = false := by simpa using hdo
          refine (trim_off h n q hg' hn' h2 ho (by omega) (by omega) hk.after hw hdo').mono ?_
          rintro e w' ⟨rfl, a', h3, h4⟩
          simp only [hz, hdo', Bool.false_eq_true, if_false]
          exact ⟨8, rfl, rfl, DiskM.since h3 w, turned_mine h.mine.1 h4⟩

/-- A byte of a file is stored anew. -/
theorem DiskM.stored (h : DiskM w b m f a k d S) (hr : FRise d.files) {n bs : Bs} {g cap : Nat} (hf : f n = some (.slice (some ⟨g, 0, none⟩) bs.length cap)) (hO : OwnB w (.slice (some ⟨g, 0, none⟩) bs.length cap) bs) (hb : fget d.files n = some bs) {i : Nat} (hi : i < bs.length) (y : UInt8) :
    DiskM (w.setCell ⟨g, i, none⟩ (.int .u8 (y.toNat : Int))) b m f a k { d with files := fwith d.files n (bs.set i y) } S ∧ Turned S w (w.setCell ⟨g, i, none⟩ (.int .u8 (y.toNat : Int))) := by
  have T : Turned (fun j => j = g) w (w.setCell ⟨g, i, none⟩ (.int .u8 (y.toNat : Int))) := turned_set i _
  obtain ⟨n1, n2⟩ := DiskM.row_ne h hf (g := g) rfl
  refine ⟨⟨?_, h.cut, ⟨?_, ?_, ?_, h.files.apart, h.files.own⟩, h.mine, fun j hj => Nat.lt_of_lt_of_le (h.lt j hj) T.size⟩, T.mono (T := S) (fun j _ e => by rw [e]; exact h.files.own n _ g hf rfl)⟩
  · rw [T.block b h.lt_b (fun e => n1 e.symm)]
    exact h.cells
  · show MapIs _ m f (fwith d.files n (bs.set i y)).length
    rw [with_len n _ hr, hb]
    exact h.files.map.turned T (fun e => n2 e.symm)
  · intro x hx
    have hx' : fget (fwith d.files n (bs.set i y)) x = none := hx
    rw [fget_with n _ x hr] at hx'
    by_cases e : n = x
    · rw [if_pos e] at hx'; cases hx'
    · rw [if_neg e] at hx'
      exact h.files.no x hx'
  · intro x cs hx
    have hx' : fget (fwith d.files n (bs.set i y)) x = some cs := hx
    rw [fget_with n _ x hr] at hx'
    by_cases e : n = x
    · rw [if_pos e] at hx'
      cases hx'
      subst e
      refine ⟨_, hf, .inr ?_⟩
      have := OwnG.put (E := encB) hO (i := i) (j := 0) (x := bs[i]) (List.getElem?_eq_getElem hi) (by decide) y (.int .u8 (y.toNat : Int)) rfl
      have e0 : i * encB.size + 0 = i := by show i * 1 + 0 = i; omega
      rw [e0] at this
      exact this
    · rw [if_neg e] at hx'
      obtain ⟨u, hu, ho⟩ := h.files.yes x cs hx'
      refine ⟨u, hu, .inr ((ho.elim False.elim id).turned T (fun g' hg' q => ?_))⟩
      exact h.files.apart x n u _ g' (fun q => e q.symm) hu hf hg' (by rw [q]; rfl)

end

end Go.Proofs.YtikgbjjgpgjmfaaGreat

/-
  The store's read and Open, each by a contract over the document's store and disk. No condition but the lengths that any memory holds.
-/
namespace Go.Proofs.YtikgbjjgpgjmfaaGreat
open Go.RowKit

section
variable {w : World} {s b : Nat} {st : St} {S : Nat → Prop}

/-- keep, of a frame that fits. -/
theorem keep_fit {S' : Nat → Prop} (h : StoreAt w s b st S) (hSS : ∀ i, S i → S' i) (hSl : ∀ i, S' i → i < w.heap.size) (hok : st.ok) (hsz : st.size ≤ 1000000) (k : Int) {a : Option Addr} {n c : Nat} {body : Bs} (hv : BAt w (.slice a n c) body) (hl : body.length = n) (hn : n ≤ 8192) (hin : Within S' (.slice a n c)) (hf : st.fits (k, body) = true) :
    Calls Tryz.prog 101 #[.pointer (some ⟨s, 0, none⟩), .agg #[.int .i64 k, .slice a n c]] w fun e w' => e = .returned (.tuple #[]) ∧ StoreAt w' s b (st.take (k, body)) S' ∧ Turned S w w' := by
  have hz : st.objs.length ≤ 1000000 ∧ st.refs.length ≤ 1000000 ∧ st.tags.length ≤ 1000000 := by unfold St.size at hsz; omega
  have hob : k = 1 ∨ k = 2 ∨ k = 3 → Calls Tryz.prog 101 #[.pointer (some ⟨s, 0, none⟩), .agg #[.int .i64 k, .slice a n c]] w fun e w' => e = .returned (.tuple #[]) ∧ StoreAt w' s b (st.take (k, body)) S' ∧ Turned S w w' :=
    fun hk => keep_any h hSS hSl k hk hv hin (fits_obj hf hk).2.2 hz.1
  have fin : ∀ w', StoreAt w' s b (st.take (k, body)) S → Turned S w w' → StoreAt w' s b (st.take (k, body)) S' ∧ Turned S w w' :=
    fun w' q1 q2 => ⟨q1.mono hSS (fun i q => Nat.lt_of_lt_of_le (hSl i q) q2.size), q2⟩
  rcases fits_kind hf with q | q | q | q | q
  · exact hob (.inl q)
  · exact hob (.inr (.inl q))
  · exact hob (.inr (.inr q))
  · have q : k = 4 := q
    subst q
    have hlab := fits_lab hf (.inl rfl)
    refine (keep_ref h hok.refs hz.2.1 hv hl (by have := hlab.1; simp only at this; omega) (by omega) (hlab.2.2.2.1 rfl)).mono ?_
    rintro e w' ⟨rfl, q1, q2⟩
    exact ⟨rfl, fin w' q1 q2⟩
  · have q : k = 5 := q
    subst q
    have hlab := fits_lab hf (.inr rfl)
    refine (keep_tag h hok.tags hz.2.2 hv hl (by have := hlab.1; simp only at this; omega) (by omega)).mono ?_
    rintro e w' ⟨rfl, q1, q2⟩
    exact ⟨rfl, fin w' q1 q2⟩

/-- What stands in a round of read: the store, and the file apart from it. -/
structure RdI (w : World) (s b : Nat) (S : Nat → Prop) (fa : Option Addr) (fn fc : Nat) (file : Bs) (s0 : St) (wr : World) (st : St) (d : Nat) : Prop where
  at_ : StoreAt wr s b st (Since S w wr)
  tu : Turned S w wr
  rd : ReadAt s0 file st d
  fl : BAt wr (.slice fa fn fc) file

theorem since_turned {S : Nat → Prop} {w w1 w2 : World} (h : Turned S w w1) (k : Turned (Since S w w1) w1 w2) : Turned S w w2 := h.trans k (fun i hi q => q.elim (fun q => q) (fun q => by omega))

set_option maxHeartbeats 6400000 in
set_option maxRecDepth 100000 in
/-- read. -/
theorem read_any (h : StoreAt w s b st S) (hok : st.ok) (hs0 : st.size = 0) {fa : Option Addr} {fn fc : Nat} {file : Bs} (hv : BAt w (.slice fa fn fc) file) (hl : file.length = fn) (hn : fn ≤ 262144) (hfar : ∀ i, Blk fa fn i → ¬ S i) :
    Calls Tryz.prog 60 #[.pointer (some ⟨s, 0, none⟩), .slice fa fn fc] w fun e w' => ∃ g : Nat, e = .returned (.int .i64 (g : Int)) ∧ Hid (g = (sread st file).2 ∧ StoreAt w' s b (sread st file).1 (Since S w w') ∧ Turned S w w' ∧ BAt w' (.slice fa fn fc) file) := by
  have hcap : fn ≤ fc := by
    obtain ⟨ao, c', e, h1, _, _⟩ := hv
    cases e
    exact h1
  have hblk := hv.blk
  have H : Hid (file.length = fn ∧ (∀ i, Blk fa fn i → ¬ S i) ∧ (∀ i, Blk fa fn i → i < w.heap.size)) := ⟨hl, hfar, hblk⟩
  have I0 : Hid (RdI w s b S fa fn fc file st w st 0) := ⟨h.mono (fun _ q => .inl q) (fun i q => q.elim (h.lt i) (fun q => q.2)), Turned.refl _ _, ReadAt.start file hok hs0, hv⟩
  obtain ⟨s0, hs⟩ : ∃ s0, s0 = st := ⟨_, rfl⟩
  rw [← hs]
  rw [← hs] at I0
  clear h hok hs0 hv hl hfar hblk hs
  go_enter Tryz.func60, Tryz.ntmps60
  go_wp2_with fail
  go_loopg [5] fn (fun m iv wr => ∃ d : Nat, iv = .int .i64 (d : Int) ∧ d + m = fn ∧ ∃ st, Hid (RdI w s b S fa fn fc file s0 wr st d))
  case atStart => exact ⟨0, rfl, by omega, s0, I0⟩
  case round =>
    obtain ⟨d, rfl, hd, st, I⟩ := hrel
    by_cases hdn : d < fn
    · have id : (d : Int) < (fn : Int) := by omega
      obtain ⟨a1, c1, sl, q1, q1', r1⟩ := sliceB_l (ao := fa) (n := fn) (c := fc) (k := d) hcap (by omega)
      have hrd : RdG encB wr fa file ∧ fc ≤ 9223372036854775807 := by
        obtain ⟨ao, c', e, h1, h2, h3⟩ := I.out.fl
        cases e
        exact ⟨h3, h2⟩
      have hB1 : BAt wr (.slice a1 (fn - d) c1) (file.drop d) := ⟨a1, c1, by rw [List.length_drop, H.out.1], by rw [List.length_drop, H.out.1]; exact q1, by omega, r1 wr file H.out.1 hrd.1⟩
      have hop := open_any hB1 (by rw [List.length_drop, H.out.1]) (by omega)
      obtain ⟨fk, hfk⟩ : ∃ fk, (fopen (file.drop d)).1.1 = fk := ⟨_, rfl⟩
      obtain ⟨fb, hfb⟩ : ∃ fb, (fopen (file.drop d)).1.2 = fb := ⟨_, rfl⟩
      obtain ⟨fs, hfs⟩ : ∃ fs, (fopen (file.drop d)).2.1 = fs := ⟨_, rfl⟩
      obtain ⟨fe, hfe⟩ : ∃ fe, (fopen (file.drop d)).2.2 = fe := ⟨_, rfl⟩
      rw [hfk, hfb, hfs, hfe] at hop
      have EF : Hid ((fopen (file.drop d)).1 = (fk, fb) ∧ (fopen (file.drop d)).2.1 = fs ∧ (fopen (file.drop d)).2.2 = fe) := ⟨by rw [← hfk, ← hfb], hfs, hfe⟩
      clear r1 hrd hB1 hfk hfb hfs hfe q1'
      go_wp2_with fail
      refine hop.mono ?_
      rintro e w1 ⟨fv, rfl, O1⟩
      obtain ⟨a2, c2, n2, hv2, N2⟩ : ∃ a2 c2 n2, fv = .slice a2 n2 c2 ∧ Hid (fb.length = n2) := by
        obtain ⟨a2, c2, e, _⟩ := OwnG.form O1.out.1
        exact ⟨a2, c2, _, e, rfl⟩
      subst hv2
      obtain ⟨wA, hwA⟩ : ∃ wA, w1.alloc (.cells #[.int .i64 fk, .slice a2 n2 c2] 172) = wA := ⟨_, rfl⟩
      have bA : Below w1.heap.size w1 wA := by rw [← hwA]; exact bz1 _ _
      have bxA : Box wA w1.heap.size 172 (.int .i64 fk) (.slice a2 n2 c2) := by rw [← hwA]; exact Box.new _ _ _ _
      obtain ⟨x0, x1⟩ := bxA.cells
      have B1 : Below wr.heap.size wr wA := O1.out.2.trans (bA.mono O1.out.2.size)
      have hva : BAt wA (.slice a2 n2 c2) fb := (OwnB.at (OwnG.low O1.out.1 (Nat.zero_le _))).below bA
      have hnew : NewRow wr a2 n2 := O1.out.1.newRow (Nat.le_refl _)
      have G : Hid (Below wr.heap.size wr wA ∧ BAt wA (.slice a2 n2 c2) fb ∧ NewRow wr a2 n2 ∧ Box wA w1.heap.size 172 (.int .i64 fk) (.slice a2 n2 c2)) := ⟨B1, hva, hnew, bxA⟩
      clear hop O1 bA bxA B1 hva hnew
      by_cases he : fe = 0
      · subst he
        have hbl : fb.length ≤ 8192 := by
          have := fopen_body EF.out.2.2
          rw [EF.out.1] at this
          exact this
        obtain ⟨g, hg⟩ : ∃ g, st.fits (fk, fb) = g := ⟨_, rfl⟩
        have hfi := sfits_any (I.out.at_.below G.out.1) G.out.2.1 N2.out (by have := N2.out; omega) fk g hg
        have HG : Hid (st.fits (fk, fb) = g ∧ fb.length ≤ 8192) := ⟨hg, hbl⟩
        clear hg hbl
        cases g with
        | false =>
          have hst := I.out.rd.stop (by rw [EF.out.1]; rw [HG.out.1]; simp)
          go_wp2_with fail
          refine hfi.mono ?_
          rintro e w2 ⟨rfl, B2⟩
          have B3 : Hid (Below wr.heap.size wr w2) := G.out.1.trans (B2.mono G.out.1.size)
          have HS : Hid (sread s0 file = (st, d)) := hst
          clear B2 hfi hst
          go_wp2
          go_ret
          refine ⟨d, rfl, ?_⟩
          rw [HS.out]
          have t2 : Turned S w w2 := I.out.tu.trans (Turned.ofBelow (S := S) B3.out) (fun _ _ q => q)
          refine ⟨rfl, (I.out.at_.below B3.out).mono (fun i q => q.elim .inl (fun q => .inr ⟨q.1, Nat.lt_of_lt_of_le q.2 B3.out.size⟩)) (fun i q => ?_), t2, I.out.fl.below B3.out⟩
          rcases q with q | q
          · exact Nat.lt_of_lt_of_le (I.out.at_.lt i (.inl q)) B3.out.size
          · exact q.2
        | true =>
          have hst := I.out.rd.step (by rw [H.out.1]; exact hdn) EF.out.2.2 (by rw [EF.out.1]; exact HG.out.1) (by rw [EF.out.1]; exact HG.out.2)
          have hf9 := fopen_n EF.out.2.2
          rw [EF.out.1, EF.out.2.1, List.length_drop, H.out.1] at hf9
          rw [EF.out.1, EF.out.2.1] at hst
          have l1 : fs ≤ fn - d := hf9.2.1
          have l9 : 9 ≤ fs := hf9.1
          have HS : Hid (ReadAt s0 file (st.take (fk, fb)) (d + fs)) := hst
          clear hst hf9
          go_wp2_with fail
          refine hfi.mono ?_
          rintro e w2 ⟨rfl, B2⟩
          have B3 : Hid (Below wr.heap.size wr w2 ∧ Below wA.heap.size wA w2) := ⟨G.out.1.trans (B2.mono G.out.1.size), B2⟩
          obtain ⟨y0, y1⟩ := (G.out.2.2.2.below B2).cells
          have szs := I.out.rd.size
          have hke := keep_fit (S' := Since S w w2) (I.out.at_.below B3.out.1) (fun i q => q.elim .inl (fun q => .inr ⟨q.1, Nat.lt_of_lt_of_le q.2 B3.out.1.size⟩))
            (fun i q => q.elim (fun q => Nat.lt_of_lt_of_le (I.out.at_.lt i (.inl q)) B3.out.1.size) (fun q => q.2)) I.out.rd.ok (by omega) fk (G.out.2.1.below B2) N2.out (by have := N2.out; have := HG.out.2; omega)
            (fun p m c3 e h0 => by
              simp only [Value.slice.injEq] at e
              obtain ⟨e1, e2, _⟩ := e
              have h1 := G.out.2.2.1 (by omega) p e1
              have h2 := (G.out.2.1.below B2).blk p.block ⟨by omega, p, e1, rfl⟩
              exact .inr ⟨Nat.le_trans I.out.tu.size h1, h2⟩) HG.out.1
          clear B2 hfi szs
          go_wp2_with fail
          refine hke.mono ?_
          rintro e w3 ⟨rfl, S3, T3⟩
          have I3 : Hid (RdI w s b S fa fn fc file s0 w3 (st.take (fk, fb)) (d + fs)) := by
            refine ⟨S3.mono (fun i q => q.elim .inl (fun q => .inr ⟨q.1, Nat.lt_of_lt_of_le q.2 T3.size⟩)) (fun i q => q.elim (fun q => S3.lt i (.inl q)) (fun q => q.2)), ?_, HS.out, ?_⟩
            · refine (I.out.tu.trans (Turned.ofBelow (S := S) B3.out.1) (fun _ _ q => q)).trans T3 (fun i hi q => q.elim (fun q => q) (fun q => by omega))
            · refine (I.out.fl.below B3.out.1).turned T3 (fun h0 p hp q => ?_)
              rcases q with q | q
              · exact H.out.2.1 _ ⟨h0, p, hp, rfl⟩ q
              · have := H.out.2.2 _ ⟨h0, p, hp, rfl⟩
                omega
          clear S3 T3 hke y0 y1 x0 x1
          go_wp2
          go_roundg (fn - (d + fs))
          case measure => omega
          case rel => exact ⟨d + fs, by go_num, by omega, _, I3⟩
      · have m0 : (fe != 0) = true := by simpa using he
        have hst := I.out.rd.stop (fun q => he (EF.out.2.2.symm.trans q.1))
        have HS : Hid (sread s0 file = (st, d)) := hst
        clear hst
        go_wp2
        go_ret
        refine ⟨d, rfl, ?_⟩
        rw [HS.out]
        have B3 := G.out.1
        have t2 : Turned S w wA := I.out.tu.trans (Turned.ofBelow (S := S) B3) (fun _ _ q => q)
        refine ⟨rfl, (I.out.at_.below B3).mono (fun i q => q.elim .inl (fun q => .inr ⟨q.1, Nat.lt_of_lt_of_le q.2 B3.size⟩)) (fun i q => ?_), t2, I.out.fl.below B3⟩
        rcases q with q | q
        · exact Nat.lt_of_lt_of_le (I.out.at_.lt i (.inl q)) B3.size
        · exact q.2
    · have hst := I.out.rd.done (by rw [H.out.1]; exact hdn)
      have HS : Hid (sread s0 file = (st, d)) := hst
      have t : decide ((d : Int) < (fn : Int)) = false := by rw [decide_eq_false_iff_not]; omega
      clear hst
      go_wp2
      go_ret
      refine ⟨d, rfl, ?_⟩
      rw [HS.out]
      exact ⟨rfl, I.out.at_, I.out.tu, I.out.fl⟩

/-- A store without anything. -/
theorem StoreX.zero {w : World} {s b : Nat} {M : Nat → Nat} {r t : Nat} {S : Nat → Prop} (hc : w.heap[s]? = some (.cells #[.pointer (some ⟨b, 0, none⟩), .map (some (M 0)), .map (some (M 1)), .map (some (M 2)), .map (some (M 3)), .map (some r), .map (some t)] 131 (0, 0)))
    (hm : ∀ k, k < 4 → w.heap[M k]? = some (.map #[] 0)) (hr : w.heap[r]? = some (.map #[] 0)) (ht : w.heap[t]? = some (.map #[] 0)) (hi : ∀ j k, j < 4 → k < 4 → M j = M k → j = k) (ha : (∀ k, k < 4 → M k ≠ r ∧ M k ≠ t) ∧ r ≠ t) (ho : S s ∧ S r ∧ S t ∧ ∀ k, k < 4 → S (M k)) (hl : ∀ i, S i → i < w.heap.size) :
    StoreX w s b M r t (fun _ _ => none) st0 S where
  cells := hc
  objs := fun k hk => ⟨0, Nat.zero_le _, MapG.new (hm k hk)⟩
  refs := MapG.new hr
  tags := MapG.new ht
  gone := fun _ _ _ _ => rfl
  there := fun k hk i bs h => by simp [st0, oget] at h
  inj := hi
  apart := ha
  own := ho
  lt := hl

end

end Go.Proofs.YtikgbjjgpgjmfaaGreat
