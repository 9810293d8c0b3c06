/-
  The statements' data: the files of a disk, told as one text. No condition but that the disk is one that calls have made.
-/
import Derived.Test.YtlhlipjbcapidaaTells
namespace Go.Proofs.Ytlhlipjbcapidaa
open Go.RowKit

/-- Files, one behind the other. -/
def dataOf : Fs → Bs
  | [] => []
  | f :: t => f.1 ++ [61] ++ f.2 ++ [59] ++ dataOf t

theorem dataOf_add : ∀ (a : Fs) (f : Bs × Bs), dataOf (a ++ [f]) = dataOf a ++ f.1 ++ [61] ++ f.2 ++ [59]
  | [], f => by simp [dataOf]
  | g :: t, f => by
    have := dataOf_add t f
    simp only [List.cons_append, dataOf, this, List.append_assoc]

theorem dataOf_len : ∀ (l : Fs), (∀ f ∈ l, f.1.length ≤ 1000000 ∧ f.2.length ≤ 262144) → (dataOf l).length ≤ l.length * 2000000
  | [], _ => by simp [dataOf]
  | f :: t, h => by
    have h1 := dataOf_len t (fun g hg => h g (List.mem_cons_of_mem _ hg))
    have h2 := h f List.mem_cons_self
    simp only [dataOf, List.length_append, List.length_cons, List.length_nil]
    omega

theorem dataOf_take {fs : Fs} {i : Nat} {n v : Bs} (h : fs[i]? = some (n, v)) : dataOf (fs.take (i + 1)) = dataOf (fs.take i) ++ n ++ [61] ++ v ++ [59] := by
  rw [List.take_add_one, h]
  exact dataOf_add _ _

section
variable {S : Nat → Prop} {w : World} {b : Nat} {d : Dk}

set_option maxHeartbeats 3200000 in
set_option maxRecDepth 100000 in
theorem data_walk (h : DiskAt w b d S) (hk : d.ok) :
    Calls Try.prog 15 #[.pointer (some ⟨b, 0, none⟩)] w fun e w' => e = .returned (tx (dataOf d.files)) ∧ Below w.heap.size w w' := by
  obtain ⟨L, hL⟩ : ∃ L, d.files.length = L := ⟨_, rfl⟩
  have hl : L ≤ 1000 := by have := hk.few; omega
  have hnm := names_at h hk.rise hk.few
  have H : Hid (DiskAt w b d S ∧ d.ok ∧ d.files.length = L) := ⟨h, hk, hL⟩
  clear hL h hk
  go_enter Try.func15, Try.ntmps15
  go_wp2_with fail
  refine hnm.mono ?_
  rintro e w1 ⟨lv, rfl, O1, B1⟩
  obtain ⟨la, lc, rfl, hc1, hc2, R1⟩ := O1.form
  have hll : (d.files.map (·.1)).length = L := by rw [List.length_map]; exact H.out.2.2
  rw [hll] at O1 hc1 ⊢
  have N1 : Hid (Own w1 w.heap.size (.slice la L lc) (d.files.map (·.1)) ∧ Below w.heap.size w w1 ∧ Rd w1 la (d.files.map (·.1))) := ⟨O1, B1, R1⟩
  clear O1 B1 R1 hnm hll
  go_wp2_with fail
  go_loopg [3, 5] L (fun k sv iv wr => ∃ (i : Nat) (s : ByteArray), iv = .int .i64 i ∧ sv = .string s ∧ i + k = L ∧ Hid (s = ⟨(dataOf (d.files.take i)).toArray⟩ ∧ Below w1.heap.size w1 wr))
  case atStart => exact ⟨0, _, rfl, rfl, by omega, rfl, Below.refl _ _⟩
  case round =>
    obtain ⟨i, s, rfl, rfl, hi, HR⟩ := hrel
    by_cases hin : i < L
    · have id : (i : Int) < (L : Int) := by omega
      obtain ⟨n, v, hnv⟩ := get_fs H.out.2.2 hin
      have hg := rise_get H.out.2.1.rise hnv
      have hs := name_short H.out.2.1 hnv
      obtain ⟨lb, lo, rfl, hlt, hc⟩ := N1.out.2.2 (by rw [List.length_map, H.out.2.2]; omega)
      have hel : el (d.files.map (·.1)) i = n := by
        have e : (d.files.map (·.1))[i]? = some n := by rw [List.getElem?_map, hnv]; rfl
        obtain ⟨h1, h2⟩ := List.getElem?_eq_some_iff.1 e
        rw [el_get h1]; exact h2
      have kc := hc i (by rw [List.length_map, H.out.2.2]; exact hin)
      rw [hel] at kc
      have k1 := (HR.out.2.cell (p := ⟨lb, lo + i, none⟩) hlt).trans kc
      have bw : Below w.heap.size w wr := N1.out.2.1.trans (HR.out.2.mono N1.out.2.1.size)
      have hrd := read_at (H.out.1.below bw) n (by simp only [maxLen]; omega) (fun bs hb => H.out.2.1.get hb)
      rw [hg] at hrd
      have KC : Hid (w1.cell? ⟨lb, lo + i, none⟩ = some (tx n) ∧ lb < w1.heap.size ∧ d.files[i]? = some (n, v)) := ⟨kc, hlt, hnv⟩
      clear hg hnv hs hel kc hc bw hlt
      go_wp2_with fail
      refine hrd.mono ?_
      rintro e w3 ⟨v1, rfl, O3, B3⟩
      obtain ⟨a3, c3, rfl, _, _, _, _⟩ := OwnG.form O3
      rw [show (some v : Option Bs).getD [] = v from rfl] at O3 ⊢
      obtain ⟨vl, hvl⟩ : ∃ vl, v.length = vl := ⟨_, rfl⟩
      rw [hvl] at O3 ⊢
      obtain ⟨vb, hvb⟩ : ∃ vb : ByteArray, vb = ⟨v.toArray⟩ := ⟨_, rfl⟩
      obtain ⟨nb, hnb⟩ : ∃ nb : ByteArray, nb = ⟨n.toArray⟩ := ⟨_, rfl⟩
      have N3 : Hid (Below w1.heap.size w1 w3 ∧ vb = ⟨v.toArray⟩ ∧ nb = ⟨n.toArray⟩) := ⟨HR.out.2.trans (B3.mono HR.out.2.size), hvb, hnb⟩
      have NE : Nonempty (SW (Grew w3)) := ⟨⟨w3, Below.refl _ _⟩⟩
      have y0 : ∀ u : SW (Grew w3), u.w.cell? ⟨lb, lo + i, none⟩ = some (.string nb) := fun u => by
        rw [hnb]
        exact ((N3.out.1.trans (u.ok.mono N3.out.1.size)).cell (p := ⟨lb, lo + i, none⟩) KC.out.2.1).trans KC.out.1
      have hcs : ∀ u : SW (Grew w3), (convert 31 9 (.slice a3 vl c3)).run Try.prog u.w = .ok (.string vb) u.w := fun u => by
        rw [hvb]
        exact conv_str (OwnB.at (OwnG.low (O3.below u.ok) (Nat.zero_le _)))
      have zs : s.size ≤ 2000000000 := by
        rw [HR.out.1]
        have := dataOf_len (d.files.take i) (fun f hf => by
          obtain ⟨j, hj⟩ := List.getElem?_of_mem (List.mem_of_mem_take hf)
          exact name_short H.out.2.1 (i := j) (n := f.1) (v := f.2) hj)
        have h2 : (d.files.take i).length ≤ 1000 := by rw [List.length_take]; omega
        show (dataOf (d.files.take i)).toArray.size ≤ _
        simp only [List.size_toArray]
        omega
      have zn : nb.size ≤ 1000000 ∧ vb.size ≤ 262144 := by
        rw [hnb, hvb]
        have := name_short H.out.2.1 KC.out.2.2
        exact ⟨by show n.toArray.size ≤ _; simp only [List.size_toArray]; omega, by show v.toArray.size ≤ _; simp only [List.size_toArray]; omega⟩
      have ez : (⟨#[61]⟩ : ByteArray).size = 1 := rfl
      have ey : (⟨#[59]⟩ : ByteArray).size = 1 := rfl
      have p1 : ¬ (9223372036854775807 < s.size + nb.size) := by omega
      have p2 : ¬ (9223372036854775807 < (s ++ nb).size + (⟨#[61]⟩ : ByteArray).size) := by rw [ByteArray.size_append, ez]; omega
      have p3 : ¬ (9223372036854775807 < (s ++ nb ++ ⟨#[61]⟩).size + vb.size) := by simp only [ByteArray.size_append, ez]; omega
      have p4 : ¬ (9223372036854775807 < (s ++ nb ++ ⟨#[61]⟩ ++ vb).size + (⟨#[59]⟩ : ByteArray).size) := by simp only [ByteArray.size_append, ez, ey]; omega
      clear O3 B3 hvl hvb hnb hrd k1 zs zn ez ey
      go_upto_region 7 with fail
      refine wp_region_class (S := Grew w3) (by kernel_rfl) (by kernel_rfl) (Below.refl _ w3).drew ?_
      repeat (go_big_quiet_step (fail))
      refine wpQuiet_nil ?_
      intro _ hw'
      obtain ⟨u, hw''⟩ := hw'
      subst hw''
      have N4 : Hid (Below w1.heap.size w1 u.w) := N3.out.1.trans (u.ok.mono N3.out.1.size)
      obtain ⟨w4, hw4⟩ : ∃ w4, w4 = u.w := ⟨_, rfl⟩
      rw [← hw4] at N4 ⊢
      clear hw4 y0 hcs NE u p1 p2 p3 p4
      go_wp2
      go_roundg (gk - 1)
      case measure => omega
      case rel =>
        refine ⟨i + 1, _, by go_num, rfl, by omega, ?_, N4.out⟩
        rw [dataOf_take KC.out.2.2, HR.out.1, N3.out.2.1, N3.out.2.2]
        rfl
    · obtain rfl : i = L := by omega
      have htk : d.files.take i = d.files := List.take_of_length_le (by rw [H.out.2.2]; omega)
      have BB : Hid (Below w.heap.size w wr ∧ s = ⟨(dataOf d.files).toArray⟩) := ⟨N1.out.2.1.trans (HR.out.2.mono N1.out.2.1.size), by rw [← htk]; exact HR.out.1⟩
      clear htk
      go_wp2
      go_ret
      exact ⟨by rw [BB.out.2]; rfl, BB.out.1⟩
end
end Go.Proofs.Ytlhlipjbcapidaa
