/-
  The reference's disk: At, Data, without, with, each by a contract. No condition but that texts are no longer than any memory holds.
-/
import Derived.Test.YtlhlipjbcapidaaOks
import Derived.Test.YtlhlipjbcapidaaFind
import Derived.Test.YtlhlipjbcapidaaPRSmall
namespace Go.Proofs.Ytlhlipjbcapidaa
open Go.RowKit

/-- Files: two texts each. -/
def encF : Enc (Bs × Bs) := ⟨fun f => [tx f.1, tx f.2], 2, fun _ => rfl, by decide, by intro x u h; simp at h; rcases h with rfl | rfl <;> rfl⟩

theorem RdG.files {w : World} {b off : Nat} {fs : Fs} (h : RdG encF w (some ⟨b, off, none⟩) fs) {i : Nat} {n v : Bs} (hx : fs[i]? = some (n, v)) : w.cell? ⟨b, off + i * 2, none⟩ = some (tx n) ∧ w.cell? ⟨b, off + i * 2 + 1, none⟩ = some (tx v) := by
  obtain ⟨b', off', e, hlt, hc⟩ := h (by rcases Nat.lt_or_ge i fs.length with q | q
                                         · omega
                                         · rw [List.getElem?_eq_none q] at hx; cases hx)
  obtain ⟨rfl, rfl⟩ : b = b' ∧ off = off' := by simpa using e
  have h0 := hc i (n, v) hx 0 _ rfl
  have h1 := hc i (n, v) hx 1 _ rfl
  exact ⟨by simpa [encF] using h0, by simpa [encF, Nat.add_assoc] using h1⟩

/-- The reference's disk, as a value. -/
abbrev rv (ao : Option Addr) (L c : Nat) (d : Dk) : Value := .agg #[.slice ao L c, .int .i64 (d.writes : Int), .bool d.armed, .bool d.dead, .int .i64 (d.after : Int), .int .i64 (d.keep : Int)]

theorem fget_skip {l : Fs} {n : Bs} : ∀ {i : Nat}, (∀ j, j < i → ∀ m v, l[j]? = some (m, v) → m ≠ n) → fget l n = fget (l.drop i) n := by
  induction l with
  | nil => intro i _; simp
  | cons f t ih =>
    intro i h
    cases i with
    | zero => rfl
    | succ i =>
      have h0 : f.1 ≠ n := h 0 (by omega) f.1 f.2 rfl
      simp only [fget, if_neg h0, List.drop_succ_cons]
      exact ih (i := i) (fun j hj m v hm => h (j + 1) (by omega) m v hm)

theorem fget_first {l : Fs} {n v : Bs} {i : Nat} (h : ∀ j, j < i → ∀ m v, l[j]? = some (m, v) → m ≠ n) (hi : l[i]? = some (n, v)) : fget l n = some v := by
  obtain ⟨hlt, e⟩ := List.getElem?_eq_some_iff.1 hi
  rw [fget_skip h, List.drop_eq_getElem_cons hlt, e]
  simp [fget]

theorem get_fs {l : Fs} {i n : Nat} (hl : l.length = n) (hi : i < n) : ∃ m v, l[i]? = some (m, v) := ⟨(l[i]'(by omega)).1, (l[i]'(by omega)).2, List.getElem?_eq_getElem (by omega)⟩

set_option maxHeartbeats 1600000 in
set_option maxRecDepth 100000 in
theorem at_walk {ao : Option Addr} {L c : Nat} (d : Dk) (n : Bs) (w : World) (h : RdG encF w ao d.files) (hL : d.files.length = L) (hl : L ≤ 1000) :
    Calls Try.prog 46 #[rv ao L c d, tx n] w fun e w' => ∃ r, e = .returned (.int .i64 r) ∧ Hid ((fget d.files n = none ∧ r = -1) ∨ ∃ (i : Nat) (v : Bs), r = (i : Int) ∧ d.files[i]? = some (n, v) ∧ fget d.files n = some v) ∧ Below w.heap.size w w' := by
  have H : Hid (RdG encF w ao d.files ∧ d.files.length = L) := ⟨h, hL⟩
  clear h hL
  obtain ⟨W, hW⟩ : ∃ W, w.alloc (.cells #[.slice ao L c, .int .i64 (d.writes : Int), .bool d.armed, .bool d.dead, .int .i64 (d.after : Int), .int .i64 (d.keep : Int)] 28) = W := ⟨_, rfl⟩
  have k0 : W.cell? ⟨w.heap.size, 0, none⟩ = some (.slice ao L c) := by rw [← hW]; simp
  have HW : Hid (Below w.heap.size w W) := by rw [← hW]; exact bz1 _ _
  go_enter Try.func46, Try.ntmps46
  go_wp2_with fail
  go_loopg [5] L (fun k iv wr => wr = W ∧ ∃ i : Nat, iv = .int .i64 i ∧ i + k = L ∧ Hid (∀ j, j < i → ∀ m v, d.files[j]? = some (m, v) → m ≠ n))
  case atStart => exact ⟨rfl, 0, rfl, by omega, fun j hj => by omega⟩
  case round =>
    obtain ⟨hwr, i, rfl, hi, HT⟩ := hrel
    subst hwr
    by_cases hin : i < L
    · have id : (i : Int) < (L : Int) := by omega
      obtain ⟨m, v, hm⟩ := get_fs H.out.2 hin
      have R := H.out.1.below HW.out
      obtain ⟨b1, o1, rfl, hlt⟩ := R.some_of hm
      have cc := (R.files hm).1
      have X : Hid (d.files[i]? = some (m, v)) := hm
      clear R hm
      cases hxy : m == n with
      | true =>
        go_wp2
        go_ret
        have e : m = n := by simpa using hxy
        subst e
        exact ⟨_, rfl, .inr ⟨i, v, rfl, X.out, fget_first HT.out X.out⟩, HW.out⟩
      | false =>
        go_wp2
        go_roundg (gk - 1)
        all_goals first
          | omega
          | exact ⟨rfl, i + 1, by go_num, by omega, fun j hj m' v' hm' => by
              rcases Nat.lt_or_ge j i with q | q
              · exact HT.out j q m' v' hm'
              · obtain rfl : j = i := by omega
                rw [X.out] at hm'
                cases hm'
                simpa using hxy⟩
    · obtain rfl : i = L := by omega
      go_wp2
      go_ret
      refine ⟨_, rfl, .inl ⟨?_, rfl⟩, HW.out⟩
      rw [fget_skip HT.out, List.drop_of_length_le (by rw [H.out.2]; exact Nat.le_refl _)]
      rfl

/-- The reference's At. -/
theorem at_none {ao : Option Addr} {L c : Nat} (d : Dk) (n : Bs) (w : World) (h : RdG encF w ao d.files) (hL : d.files.length = L) (hl : L ≤ 1000) (hf : fget d.files n = none) :
    Calls Try.prog 46 #[rv ao L c d, tx n] w fun e w' => e = .returned (.int .i64 (-1)) ∧ Below w.heap.size w w' := by
  refine (at_walk d n w h hL hl).mono ?_
  rintro e w' ⟨r, rfl, h1, h2⟩
  rcases h1.out with ⟨_, rfl⟩ | ⟨i, v, _, _, q⟩
  · exact ⟨rfl, h2⟩
  · rw [hf] at q; cases q

theorem at_some {ao : Option Addr} {L c : Nat} (d : Dk) (n : Bs) (w : World) (h : RdG encF w ao d.files) (hL : d.files.length = L) (hl : L ≤ 1000) {v : Bs} (hf : fget d.files n = some v) :
    Calls Try.prog 46 #[rv ao L c d, tx n] w fun e w' => ∃ i : Nat, e = .returned (.int .i64 (i : Int)) ∧ i < L ∧ Hid (d.files[i]? = some (n, v)) ∧ Below w.heap.size w w' := by
  refine (at_walk d n w h hL hl).mono ?_
  rintro e w' ⟨r, rfl, h1, h2⟩
  rcases h1.out with ⟨q, _⟩ | ⟨i, u, rfl, q1, q2⟩
  · rw [hf] at q; cases q
  · rw [hf] at q2
    cases q2
    exact ⟨i, rfl, by rw [← hL]; exact (List.getElem?_eq_some_iff.1 q1).1, q1, h2⟩

set_option maxHeartbeats 800000 in
set_option maxRecDepth 100000 in
/-- The reference's Data. -/
theorem data_none {ao : Option Addr} {L c : Nat} (d : Dk) (n : Bs) (w : World) (h : RdG encF w ao d.files) (hL : d.files.length = L) (hl : L ≤ 1000) (hf : fget d.files n = none) :
    Calls Try.prog 44 #[rv ao L c d, tx n] w fun e w' => e = .returned (tx []) ∧ Below w.heap.size w w' := by
  have B := bz1 w (.cells #[.slice ao L c, .int .i64 (d.writes : Int), .bool d.armed, .bool d.dead, .int .i64 (d.after : Int), .int .i64 (d.keep : Int)] 28)
  have hc := at_none (c := c) d n _ (h.below B) hL hl hf
  have HB : Hid _ := B
  clear h hL hf B
  go_enter Try.func44, Try.ntmps44
  go_wp2_with fail
  refine hc.mono ?_
  rintro e w1 ⟨rfl, B1⟩
  have B2 : Hid (Below w.heap.size w w1) := HB.out.trans (B1.mono HB.out.size)
  clear B1 hc
  go_wp2
  go_ret
  exact ⟨rfl, B2.out⟩

set_option maxHeartbeats 800000 in
set_option maxRecDepth 100000 in
theorem data_some {ao : Option Addr} {L c : Nat} (d : Dk) (n : Bs) (w : World) (h : RdG encF w ao d.files) (hL : d.files.length = L) (hl : L ≤ 1000) {v : Bs} (hf : fget d.files n = some v) :
    Calls Try.prog 44 #[rv ao L c d, tx n] w fun e w' => e = .returned (tx v) ∧ Below w.heap.size w w' := by
  have B := bz1 w (.cells #[.slice ao L c, .int .i64 (d.writes : Int), .bool d.armed, .bool d.dead, .int .i64 (d.after : Int), .int .i64 (d.keep : Int)] 28)
  have hc := at_some (c := c) d n _ (h.below B) hL hl hf
  have HB : Hid (_ ∧ RdG encF w ao d.files) := ⟨B, h⟩
  clear h hL hf B
  go_enter Try.func44, Try.ntmps44
  go_wp2_with fail
  refine hc.mono ?_
  rintro e w1 ⟨i, rfl, hi, hx, B1⟩
  have B2 : Hid (Below w.heap.size w w1) := HB.out.1.trans (B1.mono HB.out.1.size)
  have R := HB.out.2.below B2.out
  obtain ⟨b1, o1, rfl, hlt⟩ := R.some_of hx.out
  have cc := (R.files hx.out).2
  have k0 : w1.cell? ⟨w.heap.size, 0, none⟩ = some (.slice (some ⟨b1, o1, none⟩) L c) := by
    rw [B1.cell (p := ⟨w.heap.size, 0, none⟩) (by simp)]
    simp
  have ii : (i : Int) < (L : Int) := by omega
  have i0 : decide ((0 : Int) ≤ (i : Int)) = true := by rw [decide_eq_true_eq]; omega
  clear B1 hc R
  go_wp2
  go_ret
  exact ⟨rfl, B2.out⟩

theorem info70 : (Try.prog.info? 70).map (fun i => (i.zero, i.size, i.bytes)) = some (some (.agg #[.string ⟨#[]⟩, .string ⟨#[]⟩]), 2, 32) := by kernel_rfl

theorem out_take {l : Fs} {n m v : Bs} {i : Nat} (h : l[i]? = some (m, v)) : fout (l.take (i + 1)) n = fout (l.take i) n ++ (if m == n then [] else [(m, v)]) := by
  rw [List.take_add_one, h]
  unfold fout
  rw [List.filter_append]
  simp only [Option.toList_some, List.filter_cons, List.filter_nil]
  cases m == n <;> rfl

set_option maxHeartbeats 1600000 in
set_option maxRecDepth 100000 in
/-- The reference's without. -/
theorem without_any {ao : Option Addr} {L c : Nat} (l : Fs) (n : Bs) (w : World) (h : RdG encF w ao l) (hL : l.length = L) (hl : L ≤ 1000) :
    Calls Try.prog 49 #[.slice ao L c, tx n] w fun e w' => ∃ v, e = .returned v ∧ OwnG encF 70 w' w.heap.size v (fout l n) ∧ Below w.heap.size w w' := by
  have H : Hid (RdG encF w ao l ∧ l.length = L) := ⟨h, hL⟩
  clear h hL
  go_enter Try.func49, Try.ntmps49
  go_wp2_with fail
  go_loopg [5, 6] L (fun k lv iv wr => ∃ i : Nat, iv = .int .i64 i ∧ i + k = L ∧ Hid (OwnG encF 70 wr w.heap.size lv (fout (l.take i) n) ∧ Below w.heap.size w wr))
  case atStart => exact ⟨0, rfl, by omega, OwnG.nil _ _ _ _, Below.refl _ _⟩
  case round =>
    obtain ⟨i, rfl, hi, HR⟩ := hrel
    by_cases hin : i < L
    · have id : (i : Int) < (L : Int) := by omega
      obtain ⟨m, v, hm⟩ := get_fs H.out.2 hin
      have R := H.out.1.below HR.out.2
      obtain ⟨b1, o1, rfl, hlt⟩ := R.some_of hm
      obtain ⟨cc, cd⟩ := R.files hm
      have X : Hid (l[i]? = some (m, v)) := hm
      have T : Hid (fout (l.take (i + 1)) n = fout (l.take i) n ++ (if m == n then [] else [(m, v)]) ∧ (fout (l.take i) n).length ≤ 1000) := ⟨out_take hm, Nat.le_trans (List.length_filter_le _ _) (by rw [List.length_take]; omega)⟩
      clear R hm
      cases hxy : m == n with
      | true =>
        have hxy2 : (!m == n) = false := by rw [hxy]; rfl
        go_wp2
        go_roundg (gk - 1)
        all_goals first
          | omega
          | exact ⟨i + 1, by go_num, by omega, by have := T.out.1; rw [hxy] at this; rw [this]; simpa using HR.out.1, HR.out.2⟩
      | false =>
        have hxy2 : (!m == n) = true := by rw [hxy]; rfl
        go_wp2_with (at_builtin; (refine appG_one encF 70 26 32 _ rfl info70 Try.underlying26 rfl (.tmp 20) (.tmp 25) rfl w.heap.size _ (fout (l.take i) n) (m, v) 70 rfl HR.out.1 rfl (by have := T.out.2; omega) (by have := T.out.2; simp only [maxLen]; omega) HR.out.2.size _ rfl ?_; intro v2 w2 O2 B2 _ _))
        go_wp2
        go_roundg (gk - 1)
        all_goals first
          | omega
          | exact ⟨i + 1, by go_num, by omega, by have := T.out.1; rw [hxy] at this; rw [this]; exact O2, HR.out.2.trans B2⟩
    · obtain rfl : i = L := by omega
      have e0 : l.take i = l := List.take_of_length_le (by rw [H.out.2]; exact Nat.le_refl _)
      go_wp2
      go_ret
      exact ⟨_, rfl, by have := HR.out.1; rw [e0] at this; exact this, HR.out.2⟩

end Go.Proofs.Ytlhlipjbcapidaa
