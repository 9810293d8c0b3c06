/-
  The law LexBack by a walk: it returns true for every text. No condition but that a text is no longer than any text can be, and that the program's variables hold what its text lays there.
-/
import Derived.Test.YtjeklplgjobeeaaDoorLAwk
import Derived.Test.YtjeklplgjobeeaaDoorRWrt
namespace Go.Proofs.YtjeklplgjobeeaaDoor
open Go.RowKit

theorem Sc.short {p : Nat} {l : Bs} {ts : List Tk} {e : Option Nat} (h : Sc p l ts e) (hl : l.length ≤ 1024) : ts.length ≤ 1024 ∧ (wr ts).length ≤ 2048 := by
  have h1 := h.few
  have h2 := h.long
  have h3 := jn_long (ts.map st)
  rw [List.length_map] at h3
  refine ⟨by omega, ?_⟩
  show (jn (ts.map st)).length ≤ _
  omega

set_option maxHeartbeats 1600000 in
set_option maxRecDepth 100000 in
theorem back_long (s : ByteArray) (hm : s.size ≤ 9223372036854775807) (hs : 1024 < s.size) (w : World) (hg : Gl w) :
    Calls Tryd.prog 4 #[.string s] w fun e w' => e = .returned (.bool true) ∧ Below w.heap.size w w' := by
  go_enter Tryd.func4, Tryd.ntmps4
  go_wp2_with fail
  refine (awake_any w hg).mono ?_
  rintro e w1 ⟨rfl, hb1⟩
  go_wp2_with fail
  refine (scan_long s hm hs w1).mono ?_
  rintro e w2 ⟨rfl, rfl⟩
  go_wp2_with fail
  go_ret
  exact ⟨rfl, hb1⟩

set_option maxHeartbeats 1600000 in
set_option maxRecDepth 100000 in
theorem back_short (s : ByteArray) (hs : s.size ≤ 1024) (w : World) (hg : Gl w) :
    Calls Tryd.prog 4 #[.string s] w fun e w' => e = .returned (.bool true) ∧ Below w.heap.size w w' := by
  have HG : Hid (Gl w) := hg
  clear hg
  go_enter Tryd.func4, Tryd.ntmps4
  go_wp2_with fail
  refine (awake_any w HG.out).mono ?_
  rintro e w1 ⟨rfl, hb1⟩
  have HB1 : Hid (Below w.heap.size w w1) := hb1
  clear hb1
  go_wp2_with fail
  refine (scan_short s hs w1 (HG.out.below HB1.out)).mono ?_
  rintro e w2 ⟨v, a, c, ts, er, rfl, ht⟩
  obtain ⟨k1, k2, rfl, rfl, k5⟩ := ht.form
  have HB2 : Hid (Below w.heap.size w w2) := HB1.out.trans (k2.mono HB1.out.size)
  cases er with
  | some p =>
    obtain ⟨ao, cp, rfl, hl⟩ := Lt.of k5
    clear ht k1 k2 k5 hl
    simp only [plT, cdT, outT, List.length_nil]
    go_wp2_with fail
    go_ret
    exact ⟨rfl, HB2.out⟩
  | none =>
    rw [outT_none] at k5
    obtain ⟨ao, cp, rfl, hl⟩ := Lt.of k5
    obtain ⟨q1, q2⟩ := k1.short (by rw [← bsize]; exact hs)
    have HGD : Hid (∀ t ∈ ts, Gd t) := k1.good
    obtain ⟨n, hn⟩ : ∃ n, ts.length = n := ⟨_, rfl⟩
    rw [hn] at hl q1
    have HL : Hid (Lt 39 w1.heap.size w2 ao n cp ts ∧ ts.length = n ∧ (wr ts).length ≤ 2048) := ⟨hl, hn, q2⟩
    rw [hn]
    have hcp : (n : Int) ≤ (cp : Int) := by have := hl.cap; omega
    clear ht k1 k2 k5 hl hn q2
    simp only [plT, cdT]
    obtain ⟨X, hX⟩ : ∃ X : ByteArray, X = ⟨(wr ts).toArray⟩ := ⟨_, rfl⟩
    have HX : Hid (X.data.toList = wr ts) := by show _ = _; rw [hX]
    have hXs : X.size ≤ 2048 := by rw [bsize, HX.out]; exact HL.out.2.2
    go_wp2_with fail
    refine (lwrite_any w2 HL.out.1.rd HL.out.2.1 HL.out.1.cap (by omega) HGD.out (by have := HL.out.2.2; omega) (HG.out.below HB2.out)).mono ?_
    rw [← hX]
    rintro e w3 ⟨rfl, hb3⟩
    have HB3 : Hid (Below w.heap.size w w3) := HB2.out.trans (hb3.mono HB2.out.size)
    have HL3 : Hid (Lt 39 w1.heap.size w3 ao n cp ts) := HL.out.1.below hb3
    clear hb3
    go_wp2_with fail
    refine (tokens_any w3 HL3.out.rd HL3.out.len HL3.out.cap (by omega)).mono ?_
    rintro e w4 ⟨v4, rfl, ho4, hb4⟩
    obtain ⟨ao4, c4, rfl, hl4⟩ := Lt.of ho4
    rw [HL.out.2.1] at hl4 ⊢
    have HB4 : Hid (Below w.heap.size w w4) := HB3.out.trans (hb4.mono HB3.out.size)
    have HL4 : Hid (Lt 39 w1.heap.size w4 ao n cp ts) := HL3.out.below hb4
    have HM4 : Hid (Lt 45 w3.heap.size w4 ao4 n c4 ts) := hl4
    clear hb4 ho4 hl4
    go_wp2_with fail
    refine (rwrite_any w4 HM4.out.rd HM4.out.len HM4.out.cap (by omega) HGD.out (by have := HL.out.2.2; omega)).mono ?_
    rw [← hX]
    clear hX
    rintro e w5 ⟨rfl, hb5⟩
    have HB5 : Hid (Below w.heap.size w w5) := HB4.out.trans (hb5.mono HB4.out.size)
    have HL5 : Hid (Lt 39 w1.heap.size w5 ao n cp ts) := HL4.out.below hb5
    clear hb5
    go_wp2_with fail
    by_cases hx : 1024 < X.size
    · refine (scan_long X (by omega) hx w5).mono ?_
      rintro e w6 ⟨rfl, rfl⟩
      go_wp2_with fail
      go_ret
      exact ⟨rfl, HB5.out⟩
    · obtain ⟨us, hu1, hu2⟩ := wr_back ts HGD.out 0
      have hu3 : Sc 0 X.data.toList us none := by rw [HX.out]; exact hu1
      obtain ⟨q3, q4⟩ := hu3.short (by rw [← bsize]; omega)
      have hlen : us.length = n := by
        have := congrArg List.length hu2
        rw [List.length_map, List.length_map, HL.out.2.1] at this
        exact this
      have hwe : wr us = wr ts := wr_z ts us hu2
      have hgu : ∀ t ∈ us, Gd t := hu3.good
      refine (scan_known X (by omega) hu3 w5 (HG.out.below HB5.out)).mono ?_
      rintro e w6 ⟨ao6, c6, rfl, hl6, hb6⟩
      simp only [plT, cdT, outT_none] at hl6 ⊢
      rw [hlen] at hl6 ⊢
      have HB6 : Hid (Below w.heap.size w w6) := HB5.out.trans (hb6.mono HB5.out.size)
      have HL6 : Hid (Lt 39 w1.heap.size w6 ao n cp ts) := HL5.out.below hb6
      have HM6 : Hid (Lt 39 w5.heap.size w6 ao6 n c6 us) := hl6
      have HU : Hid (us.map Tk.z = ts.map Tk.z ∧ wr us = wr ts ∧ (∀ t ∈ us, Gd t) ∧ (wr us).length ≤ 2048) := ⟨hu2, hwe, hgu, q4⟩
      clear hb6 hl6 hu1 hu2 hu3 hwe hgu q3 q4 hlen
      go_wp2_with fail
      refine (tokens_any w6 HL6.out.rd HL6.out.len HL6.out.cap (by omega)).mono ?_
      rintro e w7 ⟨v7, rfl, ho7, hb7⟩
      obtain ⟨ao7, c7, rfl, hl7⟩ := Lt.of ho7
      rw [HL6.out.len] at hl7 ⊢
      have HB7 : Hid (Below w.heap.size w w7) := HB6.out.trans (hb7.mono HB6.out.size)
      have HM7 : Hid (Lt 39 w5.heap.size w7 ao6 n c6 us) := HM6.out.below hb7
      have HP7 : Hid (Lt 45 w6.heap.size w7 ao7 n c7 ts) := hl7
      clear hb7 ho7 hl7
      go_wp2_with fail
      refine (tokens_any w7 HM7.out.rd HM7.out.len HM7.out.cap (by omega)).mono ?_
      rintro e w8 ⟨v8, rfl, ho8, hb8⟩
      obtain ⟨ao8, c8, rfl, hl8⟩ := Lt.of ho8
      rw [HM7.out.len] at hl8 ⊢
      have HB8 : Hid (Below w.heap.size w w8) := HB7.out.trans (hb8.mono HB7.out.size)
      have HM8 : Hid (Lt 39 w5.heap.size w8 ao6 n c6 us) := HM7.out.below hb8
      have HP8 : Hid (Lt 45 w6.heap.size w8 ao7 n c7 ts) := HP7.out.below hb8
      have HQ8 : Hid (Lt 45 w7.heap.size w8 ao8 n c8 us) := hl8
      clear hb8 ho8 hl8
      go_wp2_with fail
      refine (same_yes false w8 HP8.out.rd HQ8.out.rd HP8.out.len HQ8.out.len HP8.out.cap HQ8.out.cap (by omega) HU.out.1.symm (fun q => by cases q)).mono ?_
      rintro e w9 ⟨rfl, hb9⟩
      have HB9 : Hid (Below w.heap.size w w9) := HB8.out.trans (hb9.mono HB8.out.size)
      have HM9 : Hid (Lt 39 w5.heap.size w9 ao6 n c6 us) := HM8.out.below hb9
      clear hb9
      go_wp2_with fail
      refine (lwrite_any w9 HM9.out.rd HM9.out.len HM9.out.cap (by omega) HU.out.2.2.1 (by have := HU.out.2.2.2; omega) (HG.out.below HB9.out)).mono ?_
      rw [HU.out.2.1, show (⟨(wr ts).toArray⟩ : ByteArray) = X by rw [← HX.out]]
      rintro e w10 ⟨rfl, hb10⟩
      go_wp2_with fail
      go_ret
      exact ⟨rfl, HB9.out.trans (hb10.mono HB9.out.size)⟩

theorem back_walk (s : ByteArray) (hm : s.size ≤ 9223372036854775807) (w : World) (hg : Gl w) :
    Calls Tryd.prog 4 #[.string s] w fun e w' => e = .returned (.bool true) ∧ Below w.heap.size w w' := by
  by_cases h : 1024 < s.size
  · exact back_long s hm h w hg
  · exact back_short s (by omega) w hg

end Go.Proofs.YtjeklplgjobeeaaDoor
