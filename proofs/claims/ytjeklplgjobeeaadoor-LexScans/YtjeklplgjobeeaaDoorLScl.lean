/-
  The law LexScans by a walk: it returns true for every text. No condition but that a text is no longer than any text can be, and that the program's variables hold what its text lays there.
-/
import Derived.Test.YtjeklplgjobeeaaDoorLAwk
import Derived.Test.YtjeklplgjobeeaaDoorRScn
namespace Go.Proofs.YtjeklplgjobeeaaDoor
open Go.RowKit

set_option maxHeartbeats 400000 in
set_option maxRecDepth 100000 in
theorem rscan_long (s : ByteArray) (hm : s.size ≤ 9223372036854775807) (h : 1024 < s.size) (w : World) :
    Calls Tryd.prog 8 #[.string s] w fun e w' => e = .returned (.tuple #[.slice none 0 0, .int .i64 0, .int .i64 4]) ∧ w' = w := by
  go_enter Tryd.func8, Tryd.ntmps8
  go_wp2
  refine bodyPost_ret (v := .tuple #[.slice none 0 0, .int .i64 0, .int .i64 4]) ?_ rfl ⟨rfl, rfl⟩
  simp [results, Tryd.f8]

set_option maxHeartbeats 1600000 in
set_option maxRecDepth 100000 in
theorem scans_long (s : ByteArray) (hm : s.size ≤ 9223372036854775807) (hs : 1024 < s.size) (w : World) (hg : Gl w) :
    Calls Tryd.prog 3 #[.string s] w fun e w' => e = .returned (.bool true) ∧ Below w.heap.size w w' := by
  go_enter Tryd.func3, Tryd.ntmps3
  go_wp2_with fail
  refine (awake_any w hg).mono ?_
  rintro e w1 ⟨rfl, hb1⟩
  go_wp2_with fail
  refine (scan_long s hm hs w1).mono ?_
  rintro e w2 ⟨rfl, rfl⟩
  go_wp2_with fail
  refine (rscan_long s hm hs w2).mono ?_
  rintro e w3 ⟨rfl, rfl⟩
  go_wp2_with fail
  refine (tokens_any (n := 0) (ts := []) w3 (RdG.nil _ _ _) rfl (Nat.le_refl _) (by decide)).mono ?_
  rintro e w4 ⟨v, rfl, ho, hb4⟩
  obtain ⟨ao, c, rfl, hl⟩ := Lt.of ho
  have hl0 : Lt 45 w3.heap.size w4 ao 0 c [] := hl
  rw [List.length_nil]
  go_wp2_with fail
  refine (same_yes (n := 0) (xs := []) (ys := []) true w4 hl0.rd (RdG.nil _ _ _) rfl rfl hl0.cap (Nat.le_refl _) (by decide) rfl (fun _ => rfl)).mono ?_
  rintro e w5 ⟨rfl, hb5⟩
  go_wp2_with fail
  go_ret
  exact ⟨rfl, (hb1.trans (hb4.mono hb1.size)).trans (hb5.mono (hb1.trans (hb4.mono hb1.size)).size)⟩

set_option maxHeartbeats 1600000 in
set_option maxRecDepth 100000 in
theorem scans_short (s : ByteArray) (hs : s.size ≤ 1024) (w : World) (hg : Gl w) :
    Calls Tryd.prog 3 #[.string s] w fun e w' => e = .returned (.bool true) ∧ Below w.heap.size w w' := by
  have HG : Hid (Gl w) := hg
  clear hg
  go_enter Tryd.func3, Tryd.ntmps3
  go_wp2_with fail
  refine (awake_any w HG.out).mono ?_
  rintro e w1 ⟨rfl, hb1⟩
  have HB1 : Hid (Below w.heap.size w w1) := hb1
  clear hb1
  go_wp2_with fail
  refine (scan_short s hs w1 (HG.out.below HB1.out)).mono ?_
  rintro e w2 ⟨v, a, c, ts, er, rfl, ht⟩
  obtain ⟨k1, k2, rfl, rfl, k5⟩ := ht.form
  have HB2 : Hid (Below w.heap.size w w2) := HB1.out.trans (k2.mono HB1.out.size)
  obtain ⟨ao, cp, rfl, hl⟩ := Lt.of k5
  have q := k1.few
  rw [← bsize] at q
  obtain ⟨us, hus⟩ : ∃ us, outT ts er = us := ⟨_, rfl⟩
  have hul : us.length ≤ 1024 := by
    rw [← hus]
    cases er with
    | none => rw [outT_none]; omega
    | some p => rw [outT_some]; simp
  rw [hus] at hl ⊢
  obtain ⟨n, hn⟩ : ∃ n, us.length = n := ⟨_, rfl⟩
  rw [hn] at hl hul ⊢
  have K1 : Hid (Sc 0 s.data.toList ts er) := k1
  have HUS : Hid (outT ts er = us) := hus
  have HN : Hid (us.length = n) := hn
  have HL : Hid (Lt 39 w1.heap.size w2 ao n cp us) := hl
  obtain ⟨pa, hpa⟩ : ∃ pa, plT er = pa := ⟨_, rfl⟩
  obtain ⟨ca, hca⟩ : ∃ ca, cdT er = ca := ⟨_, rfl⟩
  rw [hpa, hca]
  have HPC : Hid (plT er = pa ∧ cdT er = ca) := ⟨hpa, hca⟩
  clear ht k1 k2 k5 hl q hus hn hpa hca
  go_wp2_with fail
  refine (rscan_short s hs w2).mono ?_
  rintro e w3 ⟨v3, a3, c3, ts3, er3, rfl, ht3⟩
  obtain ⟨k1, k2, rfl, rfl, k5⟩ := ht3.form
  obtain ⟨rfl, rfl⟩ := k1.uniq K1.out
  rw [HPC.out.1, HPC.out.2]
  rw [HUS.out] at k5
  obtain ⟨ao3, cp3, rfl, hl3⟩ := Lt.of k5
  rw [HN.out] at hl3 ⊢
  have HB3 : Hid (Below w.heap.size w w3) := HB2.out.trans (k2.mono HB2.out.size)
  have HL3 : Hid (Lt 39 w1.heap.size w3 ao n cp us) := HL.out.below k2
  have HM3 : Hid (Lt 45 w2.heap.size w3 ao3 n cp3 us) := hl3
  clear ht3 k1 k2 k5 hl3
  go_wp2_with fail
  refine (tokens_any w3 HL3.out.rd HL3.out.len HL3.out.cap (by omega)).mono ?_
  rintro e w4 ⟨v4, rfl, ho4, hb4⟩
  obtain ⟨ao4, c4, rfl, hl4⟩ := Lt.of ho4
  rw [HN.out] at hl4 ⊢
  have HB4 : Hid (Below w.heap.size w w4) := HB3.out.trans (hb4.mono HB3.out.size)
  have HM4 : Hid (Lt 45 w2.heap.size w4 ao3 n cp3 us) := HM3.out.below hb4
  have HL4 : Hid (Lt 45 w3.heap.size w4 ao4 n c4 us) := hl4
  clear hb4 ho4 hl4
  go_wp2_with fail
  refine (same_yes true w4 HL4.out.rd HM4.out.rd HL4.out.len HM4.out.len HL4.out.cap HM4.out.cap (by omega) rfl (fun _ => rfl)).mono ?_
  rintro e w5 ⟨rfl, hb5⟩
  go_wp2_with fail
  go_ret
  exact ⟨rfl, HB4.out.trans (hb5.mono HB4.out.size)⟩

theorem scans_walk (s : ByteArray) (hm : s.size ≤ 9223372036854775807) (w : World) (hg : Gl w) :
    Calls Tryd.prog 3 #[.string s] w fun e w' => e = .returned (.bool true) ∧ Below w.heap.size w w' := by
  by_cases h : 1024 < s.size
  · exact scans_long s hm h w hg
  · exact scans_short s (by omega) w hg

end Go.Proofs.YtjeklplgjobeeaaDoor
