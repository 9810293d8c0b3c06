/-
  The law FrameOpens, walked: of any bytes it returns true, and what was there is as it was. No condition.
-/
import Derived.Test.YtlcaphickofccaaAwake
namespace Go.Proofs.Ytlcaphickofccaa
open Go.RowKit

theorem rcut_at (bs : Bs) (w : World) (hn : bs.length ≤ 1000000000000) (s : ByteArray) (hs : s = ⟨bs.toArray⟩) (fs : List Fr) (fd : Nat) (fx : Int) (h : fcut bs = (fs, fd, fx)) :
    Calls Try.prog 14 #[.string s] w fun e w' => ∃ lv, e = .returned (.tuple #[lv, .int .i64 (fd : Int), .int .i64 fx]) ∧ Hid (OwnG encR 33 w' w.heap.size lv fs ∧ Below w.heap.size w w') := by
  have := rcut_any bs w hn
  rw [h, show tx bs = .string s by rw [hs]] at this
  exact this

theorem cut_many : ∀ (m : Nat) (b : Bs), b.length ≤ m → 9 * (fcut b).1.length ≤ b.length
  | 0, b, h => by
    obtain rfl : b = [] := List.eq_nil_of_length_eq_zero (by omega)
    rw [fcut_nil]; simp
  | m + 1, b, h => by
    by_cases h0 : 0 < b.length
    · by_cases he : (fopen b).2.2 = 0
      · have hn := fopen_n he
        have ih := cut_many m (b.drop (fopen b).2.1) (by rw [List.length_drop]; omega)
        rw [fcut_step h0 he]
        rw [List.length_drop] at ih
        simp only [List.length_cons]
        omega
      · rw [fcut_stop h0 he]; simp
    · obtain rfl : b = [] := List.eq_nil_of_length_eq_zero (by omega)
      rw [fcut_nil]; simp
theorem cut_most (b : Bs) : 9 * (fcut b).1.length ≤ b.length := cut_many _ b (Nat.le_refl _)

theorem OwnG.rd {α : Type} {E : Enc α} {e : TypeId} {w : World} {base n cap : Nat} {ao : Option Addr} {xs : List α} (h : OwnG E e w base (.slice ao n cap) xs) : RdG E w ao xs := by
  obtain ⟨a, c, q, _, _, r, _⟩ := OwnG.form h
  cases q
  exact r

/-- All that lies about while the bytes of the opened frame are raised. -/
structure OL (W : World) (v3 ba : Value) (bs : Bs) (B : Nat) (w : World) (fk : Int) (fv lv rv : Value) (vs : List FV) (fs : List Fr) (s3 s4 : Nat) : Prop where
  bel : Below W.heap.size W w
  low : W.heap.size ≤ s3
  mine : ∃ base, OwnG encB 5 w base v3 bs
  mineLt : ∀ g, v3.ownBlock = some g → g < s3
  their : BAt W ba bs
  box : Box w B 29 (.int .i64 fk) fv
  boxAt : s4 ≤ B
  row : ∃ base, s4 ≤ base ∧ OwnG encV 29 w base lv vs
  at_ : Fvs w vs fs
  far : FarV (fun k => k < s4) vs
  ref : ∃ base, s4 ≤ base ∧ OwnG encR 33 w base rv fs

theorem OL.turned {W w w' : World} {v3 ba fv lv rv : Value} {bs : Bs} {B s3 s4 : Nat} {fk : Int} {vs : List FV} {fs : List Fr} (h : OL W v3 ba bs B w fk fv lv rv vs fs s3 s4) (ht : Turned (fun k => s3 ≤ k ∧ k < s4) w w') : OL W v3 ba bs B w' fk fv lv rv vs fs s3 s4 where
  bel := h.bel.trans (ht.below h.bel.size (fun k hk q => by have := h.low; omega))
  low := h.low
  mine := by
    obtain ⟨base, o⟩ := h.mine
    exact ⟨base, o.stays ht (fun g hg q => by have := h.mineLt g hg; omega)⟩
  mineLt := h.mineLt
  their := h.their
  box := h.box.turned ht (fun q => by have := h.boxAt; omega)
  boxAt := h.boxAt
  row := by
    obtain ⟨base, hb, o⟩ := h.row
    exact ⟨base, hb, o.stays ht (fun g hg q => by have := (o.lt g hg).1; omega)⟩
  at_ := h.at_.turned ht (h.far.mono (fun i q => q.2))
  far := h.far
  ref := by
    obtain ⟨base, hb, o⟩ := h.ref
    exact ⟨base, hb, o.stays ht (fun g hg q => by have := (o.lt g hg).1; omega)⟩

set_option maxHeartbeats 6400000 in
set_option maxRecDepth 100000 in
theorem opens_walk (ba : Option Addr) (n c : Nat) (bs : Bs) (W : World) (hb : BAt W (.slice ba n c) bs) (hl : bs.length = n) :
    Calls Try.prog 4 #[.slice ba n c] W fun e w' => e = .returned (.bool true) ∧ Below W.heap.size W w' := by
  have H : Hid (BAt W (.slice ba n c) bs ∧ bs.length = n) := ⟨hb, hl⟩
  clear hb hl
  go_enter Try.func4, Try.ntmps4
  go_wp2_with fail
  refine (awake_walk W).mono ?_
  rintro e w0 ⟨rfl, B0⟩
  have HB : Hid (Below W.heap.size W w0) := B0
  clear B0
  by_cases hbig : 100000 < n
  · have hb2 : (100000 : Int) < (n : Int) := by omega
    go_wp2
    go_ret
    exact ⟨rfl, HB.out⟩
  have hb2 : decide ((100000 : Int) < (n : Int)) = false := by rw [decide_eq_false_iff_not]; omega
  go_wp2_with (at_builtin; (refine appB rfl (.tmp 22) (.tmp 23) rfl w0.heap.size _ _ [] bs rfl (ownB_zero w0) rfl ((H.out.1.below HB.out).below (bz1 w0 _)) (by rw [H.out.2]; simp; omega) (by simp) ?_; intro v3 w3 ho3 hb3 _ _))
  rw [List.nil_append] at ho3
  obtain ⟨a3, c3, rfl, _, _, _, _⟩ := OwnG.form ho3
  rw [H.out.2] at ho3 ⊢
  have B3 : Below W.heap.size W w3 := HB.out.trans (((bz1 w0 _).trans hb3).mono HB.out.size)
  have hop := open_any (OwnB.at (OwnG.low ho3 (Nat.zero_le _))) H.out.2 (by omega)
  obtain ⟨fo, hfo⟩ : ∃ fo, fopen bs = fo := ⟨_, rfl⟩
  rw [hfo] at hop
  obtain ⟨⟨fk, fb⟩, fn, fe⟩ := fo
  simp only at hop
  obtain ⟨s, hs⟩ : ∃ s : ByteArray, s = ⟨bs.toArray⟩ := ⟨_, rfl⟩
  have H3 : Hid (OwnG encB 5 w3 w0.heap.size (.slice a3 n c3) bs ∧ Below W.heap.size W w3 ∧ fopen bs = ((fk, fb), fn, fe) ∧ s = ⟨bs.toArray⟩) := ⟨ho3, B3, hfo, hs⟩
  clear ho3 B3 hb3 hfo hs HB
  go_wp2_with fail
  refine hop.mono ?_
  rintro e w4 ⟨fv, rfl, J4⟩
  clear hop
  obtain ⟨fa, fc, rfl, _, _, _, qf⟩ := OwnG.form J4.out.1
  obtain ⟨bl, hbl⟩ : ∃ bl, fb.length = bl := ⟨_, rfl⟩
  rw [hbl] at J4 qf ⊢
  have hbm : bl ≤ 9223372036854775807 := by omega
  obtain ⟨w5, hw5⟩ : ∃ w5, w4.alloc (.cells #[.int .i64 fk, .slice fa bl fc] 29) = w5 := ⟨_, rfl⟩
  have b5 : Below w4.heap.size w4 w5 := by rw [← hw5]; exact bz1 _ _
  have bx5 : Box w5 w4.heap.size 29 (.int .i64 fk) (.slice fa bl fc) := by rw [← hw5]; exact Box.new w4 _ _ _
  have B5 : Below W.heap.size W w5 := H3.out.2.1.trans ((J4.out.2.trans (b5.mono J4.out.2.size)).mono H3.out.2.1.size)
  have hcb : (convert 24 9 (.slice ba n c)).run Try.prog w5 = .ok (.string s) w5 := by
    have := conv_str (H.out.1.below B5)
    rw [H3.out.2.2.2]
    exact this
  have hro := ropen_at bs w5 s H3.out.2.2.2 fk fb fn fe H3.out.2.2.1
  have H5 : Hid (OwnG encB 5 w5 w3.heap.size (.slice fa bl fc) fb ∧ Box w5 w4.heap.size 29 (.int .i64 fk) (.slice fa bl fc) ∧ Below W.heap.size W w5 ∧ OwnG encB 5 w5 w0.heap.size (.slice a3 n c3) bs ∧ w3.heap.size ≤ w4.heap.size ∧ fb.length = bl ∧ (0 < bl → ∃ g, fa = some ⟨g, 0, none⟩) ∧ ∀ g, (Value.slice fa bl fc).ownBlock = some g → w3.heap.size ≤ g ∧ g < w4.heap.size) :=
    ⟨J4.out.1.below b5, bx5, B5, (H3.out.1.below J4.out.2).below b5, J4.out.2.size, hbl, qf, fun g hg => J4.out.1.lt g hg⟩
  clear J4 b5 bx5 B5 hbl qf
  go_wp2_with fail
  refine hro.mono ?_
  rintro e w6 ⟨rfl, B6⟩
  clear hro hcb
  obtain ⟨w7, hw7⟩ : ∃ w7, w6.alloc (.cells #[.int .i64 fk, tx fb] 33) = w7 := ⟨_, rfl⟩
  have b7 : Below w5.heap.size w5 w7 := by rw [← hw7]; exact B6.trans ((bz1 _ _).mono B6.size)
  have bx7 : Box w7 w6.heap.size 33 (.int .i64 fk) (tx fb) := by rw [← hw7]; exact Box.new w6 _ _ _
  obtain ⟨x0, x1⟩ := (H5.out.2.1.below b7).cells
  obtain ⟨y0, y1⟩ := bx7.cells
  have hcs := conv_str (OwnB.at (OwnG.low (H5.out.1.below b7) (Nat.zero_le _)))
  have H7 : Hid (Below w5.heap.size w5 w7) := b7
  have hcu := cut_any (OwnB.at (OwnG.low (H5.out.2.2.2.1.below b7) (Nat.zero_le _))) H.out.2 (by omega)
  obtain ⟨fo, hfo⟩ : ∃ fo, fcut bs = fo := ⟨_, rfl⟩
  rw [hfo] at hcu
  obtain ⟨fs, fd, fx⟩ := fo
  simp only at hcu
  have HC : Hid (fcut bs = (fs, fd, fx)) := hfo
  clear b7 bx7 B6 hfo
  go_wp2_with fail
  refine hcu.mono ?_
  rintro e w8 ⟨lv, vs, rfl, J8⟩
  clear hcu x0 x1 y0 y1 hcs
  obtain ⟨la, lc, rfl, _, _, _, _⟩ := OwnG.form J8.out.row
  obtain ⟨L, hL⟩ : ∃ L, vs.length = L := ⟨_, rfl⟩
  rw [hL] at J8 ⊢
  have b8 : Below w5.heap.size w5 w8 := H7.out.trans (J8.out.bel.mono H7.out.size)
  have B8 : Below W.heap.size W w8 := H5.out.2.2.1.trans (b8.mono H5.out.2.2.1.size)
  have hcb : (convert 24 9 (.slice ba n c)).run Try.prog w8 = .ok (.string s) w8 := by
    have := conv_str (H.out.1.below B8)
    rw [H3.out.2.2.2]
    exact this
  have hrc := rcut_at bs w8 (by rw [H.out.2]; omega) s H3.out.2.2.2 fs fd fx HC.out
  clear b8 B8
  go_wp2_with fail
  refine hrc.mono ?_
  rintro e w9 ⟨rv, rfl, J9⟩
  clear hrc hcb
  obtain ⟨ra, rc, rfl, _, _, _, _⟩ := OwnG.form J9.out.1
  have hfl : fs.length = L := by rw [← J8.out.at_.len]; exact hL
  rw [hfl] at J9 ⊢
  have L9 : Hid (OL W (.slice a3 n c3) (.slice ba n c) bs w4.heap.size w9 fk (.slice fa bl fc) (.slice la L lc) (.slice ra L rc) vs fs w3.heap.size w4.heap.size ∧ OwnG encB 5 w9 w3.heap.size (.slice fa bl fc) fb ∧ fs.length = L ∧ 9 * L ≤ n) := by
    have b8 : Below w5.heap.size w5 w8 := H7.out.trans (J8.out.bel.mono H7.out.size)
    have b9 : Below w5.heap.size w5 w9 := b8.trans (J9.out.2.mono b8.size)
    have s57 := H7.out.size
    have s78 := J8.out.bel.size
    have s45 := H5.out.2.1.lt
    have hbx := H5.out.2.1
    refine ⟨⟨H5.out.2.2.1.trans (b9.mono H5.out.2.2.1.size), H3.out.2.1.size, ⟨_, H5.out.2.2.2.1.below b9⟩, fun g hg => (H3.out.1.lt g hg).2, H.out.1, hbx.below b9, Nat.le_refl _, ⟨_, by omega, J8.out.row.below J9.out.2⟩, J8.out.at_.below J9.out.2, J8.out.low.mono (fun i q => by omega), ⟨_, by omega, J9.out.1⟩⟩, H5.out.1.below b9, hfl, ?_⟩
    have := cut_most bs
    rw [HC.out, H.out.2] at this
    rw [← hfl]
    exact this
  have hsa : Calls Try.prog 15 #[.slice la L lc, .slice ra L rc] w9 fun e w' => e = .returned (.bool true) ∧ Below w9.heap.size w9 w' := by
    obtain ⟨base, _, o⟩ := L9.out.1.row
    obtain ⟨base2, _, o2⟩ := L9.out.1.ref
    exact same_walk o.rd L9.out.1.at_ o2.rd L9.out.2.2.1 (by have := L9.out.2.2.2; omega)
  clear J8 J9 hL hfl
  go_wp2_with fail
  refine hsa.mono ?_
  rintro e w10 ⟨rfl, B10⟩
  clear hsa
  have LA : Hid (OL W (.slice a3 n c3) (.slice ba n c) bs w4.heap.size w10 fk (.slice fa bl fc) (.slice la L lc) (.slice ra L rc) vs fs w3.heap.size w4.heap.size ∧ OwnG encB 5 w10 w3.heap.size (.slice fa bl fc) fb) := ⟨L9.out.1.turned (Turned.ofBelow B10), L9.out.2.1.below B10⟩
  clear B10
  go_wp2_with fail
  go_loopg [16] bl (fun m iv wr => ∃ (i : Nat) (xs : Bs), iv = .int .i64 i ∧ i + m = bl ∧ Hid (OwnG encB 5 wr w3.heap.size (.slice fa bl fc) xs ∧ OL W (.slice a3 n c3) (.slice ba n c) bs w4.heap.size wr fk (.slice fa bl fc) (.slice la L lc) (.slice ra L rc) vs fs w3.heap.size w4.heap.size))
  case atStart => exact ⟨0, fb, rfl, by omega, LA.out.2, LA.out.1⟩
  case round =>
    obtain ⟨i, xs, rfl, hi, HR⟩ := hrel
    obtain ⟨x0, x1⟩ := HR.out.2.box.cells
    by_cases hin : i < bl
    · have id : (i : Int) < (bl : Int) := by omega
      obtain ⟨g, rfl⟩ := H5.out.2.2.2.2.2.2.1 (by omega)
      have hxl : xs.length = bl := own_len HR.out.1
      obtain ⟨y, hy, ky, fy⟩ := byte_at HR.out.1 (i := i) (by omega)
      clear hy
      go_wp2
      go_roundg (gk - 1)
      case measure => omega
      case rel =>
        have hge := H5.out.2.2.2.2.2.2.2 g rfl
        refine ⟨i + 1, xs.set i (y + 1), by go_num, by omega, ?_, HR.out.2.turned ((turned_set i _).mono (fun k _ q => by omega))⟩
        rw [← byte_up]
        exact byte_put HR.out.1 (by omega) (y + 1)
    · obtain rfl : i = bl := by omega
      have hcb : (convert 24 9 (.slice ba n c)).run Try.prog wr = .ok (.string s) wr := by
        have := conv_str (HR.out.2.their.below HR.out.2.bel)
        rw [H3.out.2.2.2]
        exact this
      have hcm : (convert 24 9 (.slice a3 n c3)).run Try.prog wr = .ok (.string s) wr := by
        obtain ⟨base, o⟩ := HR.out.2.mine
        have := conv_str (OwnB.at (OwnG.low o (Nat.zero_le _)))
        rw [H3.out.2.2.2]
        exact this
      have hsa : Calls Try.prog 15 #[.slice la L lc, .slice ra L rc] wr fun e w' => e = .returned (.bool true) ∧ Below wr.heap.size wr w' := by
        obtain ⟨base, _, o⟩ := HR.out.2.row
        obtain ⟨base2, _, o2⟩ := HR.out.2.ref
        exact same_walk o.rd HR.out.2.at_ o2.rd L9.out.2.2.1 (by have := L9.out.2.2.2; omega)
      go_wp2_with fail
      refine hsa.mono ?_
      rintro e w11 ⟨rfl, B11⟩
      have BE : Hid (Below W.heap.size W w11) := HR.out.2.bel.trans (B11.mono HR.out.2.bel.size)
      clear hsa B11
      go_wp2
      go_ret
      exact ⟨by simp, BE.out⟩

end Go.Proofs.Ytlcaphickofccaa
