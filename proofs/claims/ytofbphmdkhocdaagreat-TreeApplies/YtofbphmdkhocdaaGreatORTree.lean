/-
  The reference's Tree, Find and SameTree, and the statements' Entries, each by a contract over lists of entries. No condition but that the lists and texts are no longer than any can be.
-/
import Derived.Test.YtofbphmdkhocdaaGreatOTree
import Derived.Test.YtofbphmdkhocdaaGreatPRIs
namespace Go.Proofs.YtofbphmdkhocdaaGreat
open Go.RowKit

set_option maxHeartbeats 3200000 in
set_option maxRecDepth 100000 in
/-- The statements' Entries. -/
theorem entries_any {ao : Option Addr} {c n : Nat} {es : List En} (w : World) (hr : RdG encE w ao es) (hl : es.length = n) (hn : n * 24 ≤ 140737488355328) :
    Calls Tryz.prog 10 #[.slice ao n c] w fun e w' => ∃ v, e = .returned v ∧ Hid (OwnG encE 75 w' w.heap.size v es ∧ Below w.heap.size w w') := by
  have H : Hid (RdG encE w ao es ∧ es.length = n) := ⟨hr, hl⟩
  clear hr hl
  go_enter Tryz.func10, Tryz.ntmps10
  go_wp2_with fail
  go_loopg [3, 4] n (fun m rv iv wr => ∃ i : Nat, iv = .int .i64 i ∧ i + m = n ∧ Hid (OwnG encE 75 wr w.heap.size rv (es.take i) ∧ Below w.heap.size w wr))
  case atStart => exact ⟨0, rfl, by omega, OwnG.nil _ _ _ _, Below.refl _ _⟩
  case round =>
    obtain ⟨i, rfl, hi, HR⟩ := hrel
    by_cases hin : i < n
    · have id : (i : Int) < (n : Int) := by omega
      have id0 : (0 : Int) ≤ (i : Int) := by omega
      obtain ⟨e, he⟩ := get_some H.out.2 hin
      obtain ⟨b, off, rfl, hlt⟩ := H.out.1.some_of he
      obtain ⟨hbw, c0, c1⟩ := (H.out.1.below HR.out.2).ents he
      have hst := takeE_snoc he
      obtain ⟨d, z⟩ := e
      simp only at c0 c1
      have hll : (es.take i).length = i := by rw [List.length_take, H.out.2]; omega
      have HS : Hid (es.take (i + 1) = es.take i ++ [(d, z)] ∧ (es.take i).length = i) := ⟨hst, hll⟩
      clear he hst hll
      go_wp2_with fail
      go_region_law (refine stepG_at encE 75 33 24 _ rfl Tryz.info75 Tryz.underlying33 rfl (.tmp 11) (.tmp 23) rfl w.heap.size _ (es.take i) (d, z) rfl (HR.out.1.below ((Below.refl _ wr).drew.trans (bz1 wr.drew _))) wr.heap.size rfl (cells_new encE wr.drew (d, z) 75) (by rw [HS.out.2]; omega) (by rw [HS.out.2]; simp only [maxLen]; omega) (by have := HR.out.2.size; simp; omega) ?_; intro v4 w4 ho4 hb4 hm4 ht4)
      all_goals
        go_wp2
        go_roundg (gk - 1)
        case measure => omega
        case rel => exact ⟨i + 1, by go_num, by omega, by rw [HS.out.1]; exact ho4, HR.out.2.trans ((((bz1 wr _).drew).mono HR.out.2.size).trans hb4)⟩
    · obtain rfl : i = n := by omega
      have htk : es.take i = es := List.take_of_length_le (by rw [H.out.2]; omega)
      rw [htk] at HR
      go_wp2
      go_ret
      exact ⟨_, rfl, HR.out.1, HR.out.2⟩

set_option maxHeartbeats 3200000 in
set_option maxRecDepth 100000 in
/-- The reference's SameTree, of two alike lists. -/
theorem sameTree_any {ao ao2 : Option Addr} {c c2 n : Nat} {es : List En} (w : World) (hr : RdG encE w ao es) (hr2 : RdG encE w ao2 es) (hl : es.length = n) (hn : n ≤ 4000000000000000000) :
    Calls Tryz.prog 15 #[.slice ao n c, .slice ao2 n c2] w fun e w' => e = .returned (.bool true) ∧ Below w.heap.size w w' := by
  have H : Hid (RdG encE w ao es ∧ RdG encE w ao2 es ∧ es.length = n) := ⟨hr, hr2, hl⟩
  clear hr hr2 hl
  go_enter Tryz.func15, Tryz.ntmps15
  go_wp2_with fail
  go_loopg [5] n (fun m iv wr => ∃ i : Nat, iv = .int .i64 i ∧ i + m = n ∧ Hid (Below w.heap.size w wr))
  case atStart => exact ⟨0, rfl, by omega, Below.refl _ _⟩
  case round =>
    obtain ⟨i, rfl, hi, HR⟩ := hrel
    by_cases hin : i < n
    · have id : (i : Int) < (n : Int) := by omega
      have id0 : (0 : Int) ≤ (i : Int) := by omega
      obtain ⟨e, he⟩ := get_some H.out.2.2 hin
      obtain ⟨b, off, rfl, hlt⟩ := H.out.1.some_of he
      obtain ⟨b2, off2, rfl, hlt2⟩ := H.out.2.1.some_of he
      obtain ⟨hbw, c0, c1⟩ := (H.out.1.below HR.out).ents he
      obtain ⟨hbw2, c02, c12⟩ := (H.out.2.1.below HR.out).ents he
      obtain ⟨d, z⟩ := e
      simp only at c0 c1 c02 c12
      clear he
      go_wp2_with fail
      go_quiet (fail)
      go_wp2
      go_roundg (gk - 1)
      case measure => omega
      case rel => exact ⟨i + 1, by go_num, by omega, HR.out.trans ((bdrewN _ _).mono HR.out.size)⟩
    · obtain rfl : i = n := by omega
      go_wp2
      go_ret
      exact ⟨rfl, HR.out⟩

set_option maxHeartbeats 3200000 in
set_option maxRecDepth 100000 in
/-- The reference's Find. -/
theorem rfind_any {ao : Option Addr} {c n : Nat} {es : List En} (p : Bs) (w : World) (hr : RdG encE w ao es) (hl : es.length = n) (hn : n ≤ 4000000000000000000) (o : Option UInt64) (ho : ffind es p = o) :
    Calls Tryz.prog 56 #[.slice ao n c, tx p] w fun e w' => e = .returned (.tuple #[.int .u64 ((o.getD 0).toNat : Int), .bool o.isSome]) ∧ Below w.heap.size w w' := by
  have H : Hid (RdG encE w ao es ∧ es.length = n ∧ ffind es p = o) := ⟨hr, hl, ho⟩
  clear hr hl ho
  go_enter Tryz.func56, Tryz.ntmps56
  go_wp2_with fail
  go_loopg [6] n (fun m iv wr => ∃ i : Nat, iv = .int .i64 i ∧ i + m = n ∧ Hid ((es.take i).any (fun e => e.1 == p) = false ∧ Below w.heap.size w wr))
  case atStart => exact ⟨0, rfl, by omega, rfl, Below.refl _ _⟩
  case round =>
    obtain ⟨i, rfl, hi, HR⟩ := hrel
    by_cases hin : i < n
    · have id : (i : Int) < (n : Int) := by omega
      obtain ⟨e, he⟩ := get_some H.out.2.1 hin
      obtain ⟨b, off, rfl, hlt⟩ := H.out.1.some_of he
      obtain ⟨_, c0, c1⟩ := (H.out.1.below HR.out.2).ents he
      obtain ⟨d, z⟩ := e
      simp only at c0 c1
      have HE : Hid (es[i]? = some (d, z)) := he
      clear he
      by_cases hdp : d = p
      · subst hdp
        have hfo := find_at HR.out.1 HE.out rfl
        rw [H.out.2.2] at hfo
        subst hfo
        go_wp2
        refine bodyPost_ret (results_tmp2 rfl _ _ _) rfl ?_
        exact ⟨rfl, HR.out.2⟩
      · have m0 : (d == p) = false := by simpa using hdp
        go_wp2
        go_roundg (gk - 1)
        case measure => omega
        case rel => exact ⟨i + 1, by go_num, by omega, anyE_step (p := fun e : En => e.1 == p) HE.out HR.out.1 m0, HR.out.2⟩
    · obtain rfl : i = n := by omega
      have htk : es.take i = es := List.take_of_length_le (by rw [H.out.2.1]; omega)
      rw [htk] at HR
      have hfo := find_no HR.out.1
      rw [H.out.2.2] at hfo
      subst hfo
      go_wp2
      refine bodyPost_ret (results_tmp2 rfl _ _ _) rfl ?_
      exact ⟨rfl, HR.out.2⟩

end Go.Proofs.YtofbphmdkhocdaaGreat
