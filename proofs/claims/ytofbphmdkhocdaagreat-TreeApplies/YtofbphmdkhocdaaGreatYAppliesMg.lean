/-
  The law TreeApplies, walked: of every list of entries and of changes within the form's reach it is true.
-/
import Derived.Test.YtofbphmdkhocdaaGreatYRApplyMg
import Derived.Test.YtofbphmdkhocdaaGreatYRightMg
import Derived.Test.YtofbphmdkhocdaaGreatYAwakeMg
namespace Go.Proofs.YtofbphmdkhocdaaGreat
open Go.RowKit

theorem canon_len (A : List En) (cs : List Chg) : (canon A cs).length ≤ cs.length + A.length := by
  unfold canon
  refine Nat.le_trans (List.length_filterMap_le _ _) ?_
  have := srt_len (cs.map (·.1) ++ A.map (·.1))
  rw [List.length_append, List.length_map, List.length_map] at this
  exact this
theorem fapply_len {A : List En} {cs : List Chg} {es : List En} {ce : Int} (h : fapply A cs = (es, ce)) : es.length ≤ cs.length + A.length := by
  unfold fapply at h
  split at h
  · split at h
    · cases h; exact canon_len A cs
    · cases h; simp
  · cases h; simp

set_option maxHeartbeats 3200000 in
set_option maxRecDepth 100000 in
theorem applies_walk (ao bo : Option Addr) (n c m d : Nat) (A : List En) (cs : List Chg) (W : World) (hl : A.length = n) (hk : cs.length = m) (hn : n * 24 ≤ 140737488355328) (ha : RdG encE W ao A) (hb : RdG encC W bo cs) (hf : FineC cs) :
    Calls Tryz.prog 5 #[.slice ao n c, .slice bo m d] W fun e w' => e = .returned (.bool true) ∧ Below W.heap.size W w' := by
  have H : Hid (A.length = n ∧ cs.length = m ∧ RdG encE W ao A ∧ RdG encC W bo cs ∧ FineC cs) := ⟨hl, hk, ha, hb, hf⟩
  clear hl hk ha hb hf
  go_enter Tryz.func5, Tryz.ntmps5
  go_wp2_with fail
  refine (awake_walk _).mono ?_
  rintro e w1 ⟨rfl, B1⟩
  have G1 : Hid (Below W.heap.size W w1) := B1
  clear B1
  obtain ⟨f, hf⟩ : ∃ f, isTree A = f := ⟨_, rfl⟩
  have FG : Hid (isTree A = f) := hf
  have hri := right_any (c := c) (d := 0) (bo := none) (m := 0) (B := []) w1 (H.out.2.2.1.below G1.out) (RdG.nil _ _ _) H.out.1 rfl hn (by omega) f true hf (by decide)
  rw [Bool.and_true] at hri
  clear hf
  cases f with
  | false =>
    go_wp2_with fail
    refine hri.mono ?_
    rintro e w5 ⟨rfl, B5⟩
    have G5 : Hid (Below W.heap.size W w5) := G1.out.trans (B5.mono G1.out.size)
    clear B5
    go_wp2
    go_ret
    exact ⟨rfl, G5.out⟩
  | true =>
    go_wp2_with fail
    refine hri.mono ?_
    rintro e w5 ⟨rfl, B5⟩
    have G5 : Hid (Below W.heap.size W w5) := G1.out.trans (B5.mono G1.out.size)
    clear B5 hri
    by_cases hm : 300 < m
    · have hm1 : (300 : Int) < (m : Int) := by omega
      go_wp2
      go_ret
      exact ⟨rfl, G5.out⟩
    · have hm1 : ¬ (300 : Int) < (m : Int) := by omega
      have HM : Hid (m ≤ 300) := by show m ≤ 300; omega
      clear hm
      go_wp2_with fail
      go_loopg [5, 6] m (fun k ov v wr => ∃ i : Nat, v = .int .i64 i ∧ i + k = m ∧ Hid (OwnG encC 60 wr w5.heap.size ov (cs.take i) ∧ Below w5.heap.size w5 wr))
      case atStart => exact ⟨0, rfl, by omega, by simpa using OwnG.nil _ _ _ _, Below.refl _ _⟩
      case round =>
        obtain ⟨i, rfl, hi, HR⟩ := hrel
        by_cases hin : i < m
        · have id : (i : Int) < (m : Int) := by omega
          have id0 : (0 : Int) ≤ (i : Int) := by omega
          obtain ⟨e, he⟩ := get_some H.out.2.1 hin
          obtain ⟨b, off, rfl, hlt⟩ := H.out.2.2.2.1.some_of he
          have WW : Below W.heap.size W wr := G5.out.trans (HR.out.2.mono G5.out.size)
          obtain ⟨c0, c1, c2⟩ := (H.out.2.2.2.1.below WW).chgs he
          have hst := takeE_snoc he
          have hil : (cs.take i).length ≤ 300 := by
            have h1 := List.length_take_le i cs
            have h2 := HM.out
            omega
          obtain ⟨x, o, o2⟩ := e
          simp only at c0 c1 c2
          have hblt : b < wr.heap.size := Nat.lt_of_lt_of_le hlt WW.size
          have cc : ∀ v, (wr.alloc v).cell? ⟨b, off + i * 3, none⟩ = some (tx x) := fun v => ((bz1 wr v).cell (p := ⟨b, off + i * 3, none⟩) hblt).trans c0
          have ST : Hid (cs.take (i + 1) = cs.take i ++ [(x, o, o2)] ∧ (cs.take i).length ≤ 300) := ⟨hst, hil⟩
          clear he hst hlt hil WW hblt cc
          go_upto_region 9 with fail
          go_region_law (refine stepG_at encC 60 31 32 (.agg #[.string ⟨#[]⟩, .int .u64 0, .int .u64 0]) rfl Tryz.info60 Tryz.underlying31 rfl (.tmp 27) (.tmp 44) rfl w5.heap.size _ (cs.take i) (x, o, o2) rfl (HR.out.1.below ((Below.refl _ wr).drew.trans (bz1 wr.drew _))) wr.heap.size rfl (cells_new encC wr.drew (x, o, o2) 60) (by have := ST.out.2; omega) (by have := ST.out.2; simp only [maxLen]; omega) (by have := HR.out.2.size; simp; omega) ?_; intro v9 w9 ho9 hb9 hm9 ht9; have FIN : Hid (OwnG encC 60 w9 w5.heap.size v9 (cs.take (i + 1)) ∧ Below w5.heap.size w5 w9) := ⟨by rw [ST.out.1]; exact ho9, HR.out.2.trans ((((bz1 wr _).drew).mono HR.out.2.size).trans hb9)⟩; clear ho9 hb9 hm9 ht9)
          all_goals
            go_wp2
            go_roundg (gk - 1)
            case measure => omega
            case rel => exact ⟨i + 1, by go_num, by omega, FIN⟩
        · obtain rfl : i = m := by omega
          have e : cs.take i = cs := List.take_of_length_le (by rw [H.out.2.1]; omega)
          rw [e] at HR
          clear e
          obtain ⟨zA, _, rA, lA, fA, _⟩ := isTree_ok FG.out
          have hn64 : n ≤ 64 := by rw [← H.out.1]; exact lA
          obtain ⟨es, ce, hes⟩ : ∃ es ce, fapply A cs = (es, ce) := ⟨_, _, rfl⟩
          have WW : Below W.heap.size W wr := G5.out.trans (HR.out.2.mono G5.out.size)
          have hm3 := HM.out
          have hel := fapply_len hes
          have hap := apply_any (c := c) (d := d) wr (H.out.2.2.1.below WW) (H.out.2.2.2.1.below WW) H.out.1 H.out.2.1 (by omega) (by omega) rA zA fA H.out.2.2.2.2 es ce hes
          obtain ⟨a3, c3, rfl, _, _, R3, _⟩ := HR.out.1.form
          rw [H.out.2.1]
          have HE : Hid (fapply A cs = (es, ce) ∧ es.length ≤ 400) := ⟨hes, by have h1 := H.out.1; have h2 := H.out.2.1; omega⟩
          have G6 : Hid (RdG encC wr a3 cs ∧ Below W.heap.size W wr) := ⟨R3, WW⟩
          clear hes WW zA rA lA fA R3 HR hel
          go_wp2_with fail
          refine hap.mono ?_
          rintro e w6 ⟨v6, rfl, O6, B6⟩
          obtain ⟨a6, c6, rfl, _, _, R6, _⟩ := O6.form
          obtain ⟨en, hen⟩ : ∃ en, es.length = en := ⟨_, rfl⟩
          rw [hen]
          have EN : Hid (es.length = en ∧ en ≤ 400) := ⟨hen, by rw [← hen]; exact HE.out.2⟩
          have G7 : Hid (RdG encC w6 a3 cs ∧ RdG encE w6 a6 es ∧ Below W.heap.size W w6) := ⟨G6.out.1.below B6, R6, G6.out.2.trans (B6.mono G6.out.2.size)⟩
          clear O6 B6 R6 hap hen
          go_wp2_with fail
          refine (entries_any w6 (H.out.2.2.1.below G7.out.2.2) H.out.1 hn).mono ?_
          rintro e w7 ⟨v7, rfl, O7⟩
          obtain ⟨a7, c7, rfl, _, _, R7, _⟩ := O7.out.1.form
          rw [H.out.1]
          have G8 : Hid (RdG encC w7 a3 cs ∧ RdG encE w7 a6 es ∧ RdG encE w7 a7 A ∧ Below W.heap.size W w7) := ⟨G7.out.1.below O7.out.2, G7.out.2.1.below O7.out.2, R7, G7.out.2.2.trans (O7.out.2.mono G7.out.2.2.size)⟩
          clear O7 R7
          have hra := rapply_any (c := c7) (d := c3) w7 G8.out.2.2.1 G8.out.1 H.out.1 H.out.2.1 (by omega) (by have := HM.out; omega) es ce HE.out.1
          go_wp2_with fail
          refine hra.mono ?_
          rintro e w8 ⟨v8, rfl, O8, B8⟩
          obtain ⟨a8, c8, rfl, _, _, R8, _⟩ := O8.form
          rw [EN.out.1]
          have G9 : Hid (RdG encE w8 a8 es ∧ RdG encE w8 a6 es ∧ Below W.heap.size W w8) := ⟨R8, G8.out.2.1.below B8, G8.out.2.2.2.trans (B8.mono G8.out.2.2.2.size)⟩
          clear O8 B8 R8 hra
          go_wp2_with fail
          refine (entries_any w8 G9.out.2.1 EN.out.1 (by have := EN.out.2; omega)).mono ?_
          rintro e w9 ⟨v9, rfl, O9⟩
          obtain ⟨a9, c9, rfl, _, _, R9, _⟩ := O9.out.1.form
          rw [EN.out.1]
          have G10 : Hid (RdG encE w9 a9 es ∧ RdG encE w9 a8 es ∧ Below W.heap.size W w9) := ⟨R9, G9.out.1.below O9.out.2, G9.out.2.2.trans (O9.out.2.mono G9.out.2.2.size)⟩
          clear O9 R9
          go_wp2_with fail
          refine (sameTree_any w9 G10.out.1 G10.out.2.1 EN.out.1 (by have := EN.out.2; omega)).mono ?_
          rintro e w10 ⟨rfl, B10⟩
          have G11 : Hid (Below W.heap.size W w10) := G10.out.2.2.trans (B10.mono G10.out.2.2.size)
          clear B10
          go_wp2
          go_ret
          exact ⟨rfl, G11.out⟩

end Go.Proofs.YtofbphmdkhocdaaGreat
