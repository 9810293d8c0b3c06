/-
  What Open tells of sealed frames; the statements' awake, which returns true and turns nothing that was there. No condition.
-/
import Derived.Test.YtlcaphickofccaaSame
namespace Go.Proofs.Ytlcaphickofccaa
open Go.RowKit

theorem sealB_parts (k : Int) (body rest : Bs) : sealB k body ++ rest = b4 body.length ++ (UInt8.ofNat k.toNat :: (body ++ (b4 (crc (headB k body)) ++ rest))) := by
  simp [sealB, headB]

theorem take4 (n : Nat) (t : Bs) : (b4 n ++ t).take 4 = b4 n := by
  rw [List.take_append_of_le_length (by rw [b4_len]; exact Nat.le_refl _), List.take_of_length_le (by rw [b4_len]; exact Nat.le_refl _)]

/-- What is sealed is opened. -/
theorem fopen_seal {k : Int} {body : Bs} (rest : Bs) (h0 : 0 ≤ k) (h1 : k ≤ 255) (hl : body.length ≤ 8192) : fopen (sealB k body ++ rest) = ((k, body), 9 + body.length, 0) := by
  have hp := sealB_parts k body rest
  have ht : (sealB k body ++ rest).take 4 = b4 body.length := by rw [hp, take4]
  have hv : val ((sealB k body ++ rest).take 4) = body.length := by rw [ht, val_b4 (by omega)]
  have hlen : (sealB k body ++ rest).length = 9 + body.length + rest.length := by rw [List.length_append, sealB_len]
  have hh : (sealB k body ++ rest).take (5 + body.length) = headB k body := by
    rw [sealB, List.append_assoc, List.take_append_of_le_length (by rw [headB_len]; exact Nat.le_refl _), List.take_of_length_le (by rw [headB_len]; exact Nat.le_refl _)]
  have hd : (sealB k body ++ rest).drop (5 + body.length) = b4 (crc (headB k body)) ++ rest := by
    rw [sealB, List.append_assoc, List.drop_append_of_le_length (by rw [headB_len]; exact Nat.le_refl _), List.drop_of_length_le (by rw [headB_len]; exact Nat.le_refl _), List.nil_append]
  have h4 : (sealB k body ++ rest).getD 4 0 = UInt8.ofNat k.toNat := by rw [hp]; rfl
  have h5 : ((sealB k body ++ rest).drop 5).take body.length = body := by
    rw [hp]
    show (body ++ _).take body.length = body
    rw [List.take_append_of_le_length (Nat.le_refl _), List.take_of_length_le (Nat.le_refl _)]
  unfold fopen
  rw [hv, if_neg (by omega), if_neg (by omega), if_neg (by omega), hh, hd, take4, val_b4 (crc_lt _), if_neg (by simp), h4, h5]
  have e : ((UInt8.ofNat k.toNat).toNat : Int) = k := by rw [UInt8.toNat_ofNat']; omega
  rw [e]

/-- What is cut off is too short. -/
theorem fopen_torn {k : Int} {body : Bs} {m : Nat} (hl : body.length ≤ 8192) (hm : m < 9 + body.length) : fopen ((sealB k body).take m) = ((0, []), 0, 10) := by
  have hlen : ((sealB k body).take m).length = m := by rw [List.length_take, sealB_len]; omega
  unfold fopen
  by_cases h : m < 4
  · rw [if_pos (by omega)]
  · have ht : ((sealB k body).take m).take 4 = b4 body.length := by
      rw [List.take_take, Nat.min_eq_left (by omega)]
      have := sealB_parts k body []
      rw [List.append_nil] at this
      rw [this, take4]
    rw [if_neg (by omega), ht, val_b4 (by omega), if_neg (by omega), if_pos (by omega)]

theorem fseal_ok {k : Int} {body : Bs} (h0 : 0 ≤ k) (h1 : k ≤ 255) (hl : body.length ≤ 8192) : fseal (k, body) = (sealB k body, 0) := by
  unfold fseal
  rw [if_neg (by simp only; omega), if_neg (by simp only; omega)]
theorem fseal_iff {f : Fr} (h : (fseal f).2 = 0) : 0 ≤ f.1 ∧ f.1 ≤ 255 ∧ f.2.length ≤ 8192 ∧ (fseal f).1 = sealB f.1 f.2 := by
  unfold fseal at h ⊢
  split at h
  · simp at h
  · split at h
    · simp at h
    · rename_i h1 h2
      rw [if_neg h1, if_neg h2]
      exact ⟨by omega, by omega, by omega, rfl⟩

theorem awake_row : (sealB 1 [97])[3]? = some 1 ∧ (sealB 1 [97])[4]? = some 1 ∧ (sealB 1 [97])[5]? = some 97 ∧ (sealB 1 [97]).length = 10 := by
  have e := sealB_parts 1 [97] []
  rw [List.append_nil] at e
  refine ⟨?_, ?_, ?_, by rw [sealB_len]; rfl⟩ <;> rw [e] <;> rfl

set_option maxHeartbeats 3200000 in
set_option maxRecDepth 100000 in
theorem awake_walk (w : World) : Calls Try.prog 7 #[] w fun e w' => e = .returned (.bool true) ∧ Below w.heap.size w w' := by
  have kc := fun (w : World) (C : Array Value) (n c : Nat) => Lib.run_convert_bytes_const (P := Try.prog) w 24 5 C n c Try.underlying24 Try.underlying5
  obtain ⟨r3, r4, r5, r10⟩ := awake_row
  go_enter Try.func7, Try.ntmps7
  go_wp2_with fail
  have hse := seal_any (w := w.alloc (.cells #[.int .u8 97] 5 (1, 2))) (k := 1) (bat_lit w [97] 5 (1, 2) #[.int .u8 97] rfl 1 rfl (by decide)) rfl
  rw [fseal_ok (by decide) (by decide) (by decide)] at hse
  obtain ⟨sb, hsb⟩ : ∃ sb, sealB 1 [97] = sb := ⟨_, rfl⟩
  have hfo : fopen sb = ((1, [97]), 10, 0) := by
    have := fopen_seal (k := 1) (body := [97]) [] (by decide) (by decide) (by decide)
    rw [List.append_nil, hsb] at this
    exact this
  rw [hsb] at hse r3 r4 r5 r10
  refine hse.mono ?_
  rintro e w1 ⟨v, rfl, J1⟩
  obtain ⟨av, cv, rfl, _, _, _, qv⟩ := OwnG.form J1.out.1
  rw [r10] at J1 ⊢
  obtain ⟨g, rfl⟩ := qv (by rw [r10]; decide)
  have hb := OwnB.at (OwnG.low J1.out.1 (Nat.zero_le _))
  have hop := open_any hb r10 (by decide)
  rw [hfo] at hop
  have b1 : Below w.heap.size w w1 := (bz1 w _).trans (J1.out.2.mono (bz1 w _).size)
  have HJ : Hid (OwnG encB 5 w1 (w.alloc (.cells #[.int .u8 97] 5 (1, 2))).heap.size (.slice (some ⟨g, 0, none⟩) 10 cv) sb ∧ Below w.heap.size w w1 ∧ sb[3]? = some 1 ∧ sb[4]? = some 1 ∧ sb[5]? = some 97 ∧ sb.length = 10) := ⟨J1.out.1, b1, r3, r4, r5, r10⟩
  clear J1 hse hb b1 r3 r4 r5 r10 qv hsb hfo
  go_wp2_with fail
  refine hop.mono ?_
  rintro e w2 ⟨fv, rfl, J2⟩
  clear hop
  obtain ⟨fa, fc, rfl, _, _, _, _⟩ := OwnG.form J2.out.1
  obtain ⟨wA, hwA⟩ : ∃ wA, w2.alloc (.cells #[.int .i64 1, .slice fa 1 fc] 29) = wA := ⟨_, rfl⟩
  have bA : Below w2.heap.size w2 wA := by rw [← hwA]; exact bz1 _ _
  have bx : Box wA w2.heap.size 29 (.int .i64 1) (.slice fa 1 fc) := by rw [← hwA]; exact Box.new w2 _ _ _
  obtain ⟨x0, x1⟩ := bx.cells
  have O2 : OwnG encB 5 w2 w1.heap.size (.slice fa 1 fc) [97] := J2.out.1
  have hcs := conv_str (OwnB.at (OwnG.low (O2.below bA) (Nat.zero_le _)))
  have OA := (HJ.out.1.below J2.out.2).below bA
  have c3 : wA.cell? ⟨g, 3, none⟩ = some (.int .u8 1) := by
    obtain ⟨y, hy, hc, _⟩ := byte_at OA (i := 3) (by rw [HJ.out.2.2.2.2.2]; decide)
    rw [HJ.out.2.2.1] at hy
    cases hy
    exact hc
  have c4 : wA.cell? ⟨g, 4, none⟩ = some (.int .u8 1) := by
    obtain ⟨y, hy, hc, _⟩ := byte_at OA (i := 4) (by rw [HJ.out.2.2.2.2.2]; decide)
    rw [HJ.out.2.2.2.1] at hy
    cases hy
    exact hc
  have c5 : wA.cell? ⟨g, 5, none⟩ = some (.int .u8 97) := by
    obtain ⟨y, hy, hc, _⟩ := byte_at OA (i := 5) (by rw [HJ.out.2.2.2.2.2]; decide)
    rw [HJ.out.2.2.2.2.1] at hy
    cases hy
    exact hc
  have BE : Hid (Below w.heap.size w wA) := by
    have b2 := HJ.out.2.1.trans (J2.out.2.mono HJ.out.2.1.size)
    exact b2.trans (bA.mono b2.size)
  clear bA bx O2 OA J2 HJ
  go_wp2
  go_ret
  exact ⟨by simp, BE.out⟩

end Go.Proofs.Ytlcaphickofccaa
