/-
  tree.Touched by a contract: of at most 200000 changes, whose paths are no longer than any text can be.
-/
import Derived.Test.YtofbphmdkhocdaaGreatYDiff
import Derived.Test.YtofbphmdkhocdaaGreatPSort
namespace Go.Proofs.YtofbphmdkhocdaaGreat
open Go.RowKit

/-- What leads to the path of a change, and it. -/
def cparts (c : Chg) : List Bs := parts c.1
/-- The paths of changes, and all that leads to them. -/
def touchL (cs : List Chg) : List Bs := srt (cs.flatMap cparts)

theorem tparts_len (p : Bs) : (parts p).length ≤ 103 := by
  unfold parts
  split
  · rename_i h
    have h1 := pre_len p p.length
    have h2 := path_len h
    rw [List.length_append, List.length_singleton]
    omega
  · simp
theorem tflat_len (l : List Chg) : (l.flatMap cparts).length ≤ 103 * l.length := by
  induction l with
  | nil => simp
  | cons x t ih =>
    have : (cparts x).length ≤ 103 := tparts_len x.1
    simp only [List.flatMap_cons, List.length_append, List.length_cons]
    omega
theorem tflat_snoc {l : List Chg} {i : Nat} {c : Chg} (h : l[i]? = some c) : ((l.take (i + 1)).flatMap cparts) = ((l.take i).flatMap cparts) ++ parts c.1 := by
  rw [takeE_snoc h, List.flatMap_append]
  simp [cparts]

theorem RdG.chg3 {w : World} {b off : Nat} {cs : List Chg} (h : RdG encC w (some ⟨b, off, none⟩) cs) {i : Nat} {c : Chg} (hx : cs[i]? = some c) : w.cell? ⟨b, off + i * 3, none⟩ = some (tx c.1) ∧ w.cell? ⟨b, off + i * 3 + 1, none⟩ = some (.int .u64 (c.2.1.toNat : Int)) ∧ w.cell? ⟨b, off + i * 3 + 2, none⟩ = some (.int .u64 (c.2.2.toNat : Int)) := by
  obtain ⟨b', off', e, hlt, hc⟩ := h (by rcases Nat.lt_or_ge i cs.length with q | q
                                         · omega
                                         · rw [List.getElem?_eq_none q] at hx; cases hx)
  obtain ⟨rfl, rfl⟩ : b = b' ∧ off = off' := by simpa using e
  have h0 := hc i c hx 0 _ rfl
  have h1 := hc i c hx 1 _ rfl
  have h2 := hc i c hx 2 _ rfl
  exact ⟨by simpa [encC] using h0, by simpa [encC, Nat.add_assoc] using h1, by simpa [encC, Nat.add_assoc] using h2⟩

/-- No path of the changes is longer than any text can be. -/
def FineC (cs : List Chg) : Prop := ∀ c ∈ cs, c.1.length ≤ 9223372036854775807

set_option maxHeartbeats 800000 in
set_option maxRecDepth 100000 in
theorem touched_any {ao : Option Addr} {c n : Nat} {cs : List Chg} (w : World) (ha : RdG encC w ao cs) (hl : cs.length = n) (hn : n ≤ 200000) (hx : FineC cs) :
    Calls Tryz.prog 22 #[.slice ao n c] w fun e w' => ∃ v', e = .returned v' ∧ Own w' w.heap.size v' (touchL cs) ∧ Below w.heap.size w w' := by
  have H : Hid (RdG encC w ao cs ∧ cs.length = n ∧ FineC cs) := ⟨ha, hl, hx⟩
  clear ha hl hx
  go_enter Tryz.func22, Tryz.ntmps22
  go_wp2_with fail
  go_loopg [3, 8] n (fun k ov v wr => ∃ i : Nat, v = .int .i64 i ∧ i + k = n ∧ Hid (Own wr w.heap.size ov ((cs.take i).flatMap cparts) ∧ Below w.heap.size w wr))
  case atStart => exact ⟨0, rfl, by omega, Own.nil _ _, Below.refl _ _⟩
  case round =>
    obtain ⟨i, rfl, hi, HR⟩ := hrel
    have hfl : ((cs.take i).flatMap cparts).length ≤ 20600000 := by
      have h1 := tflat_len (cs.take i)
      have h2 := List.length_take_le i cs
      omega
    by_cases hin : i < n
    · have id : (i : Int) < (n : Int) := by omega
      obtain ⟨e, he⟩ := get_some H.out.2.1 hin
      obtain ⟨b, off, rfl, hlt⟩ := H.out.1.some_of he
      obtain ⟨c0, c1, c2⟩ := (H.out.1.below HR.out.2).chg3 he
      have hxl : e.1.length ≤ 9223372036854775807 := H.out.2.2 e (List.mem_of_getElem? he)
      have hst := tflat_snoc he
      obtain ⟨x, o, o2⟩ := e
      simp only at c0 c1 c2 hxl hst
      have ST : Hid _ := hst
      have FL : Hid (((cs.take i).flatMap cparts).length ≤ 20600000 ∧ (parts x).length ≤ 103) := ⟨hfl, tparts_len x⟩
      obtain ⟨z1, hz1⟩ : ∃ z : Int, (o.toNat : Int) = z := ⟨_, rfl⟩
      obtain ⟨z2, hz2⟩ : ∃ z : Int, (o2.toNat : Int) = z := ⟨_, rfl⟩
      rw [hz1] at c1
      rw [hz2] at c2
      clear he hst hfl hz1 hz2
      go_upto_region 5 with fail
      obtain ⟨w2, hw2⟩ : ∃ w2, w2 = wr.alloc (.cells #[.string ⟨x.toArray⟩, .int .u64 z1, .int .u64 z2] 58) := ⟨_, rfl⟩
      obtain ⟨R, hR⟩ : ∃ R, wr.heap.size = R := ⟨_, rfl⟩
      have B2 : Hid (Box3 w2 R 58 (tx x) (.int .u64 z1) (.int .u64 z2) ∧ Below wr.heap.size wr w2) := by
        rw [hw2, ← hR]
        exact ⟨Box3.new wr 58 _ _ _, bz1 wr _⟩
      have X2 : Hid (Box3 w2 R 58 (tx x) (.int .u64 z1) (.int .u64 z2) ∧ Own w2 w.heap.size _ ((cs.take i).flatMap cparts) ∧ Below w.heap.size w w2) := ⟨B2.out.1, HR.out.1.below B2.out.2, HR.out.2.trans (B2.out.2.mono HR.out.2.size)⟩
      rw [← hw2, hR]
      clear hw2 hR c0 c1 c2
      obtain ⟨j0, j1, j2⟩ := X2.out.1.cells
      have hpa := parts_any ⟨x.toArray⟩ (by rw [bsize]; exact hxl) w2
      go_wp2_with fail
      refine hpa.mono ?_
      rintro e w3 ⟨v3, rfl, O3, B3⟩
      obtain ⟨a3, c3, rfl, _, _, R3⟩ := O3.form
      have G3 : Hid (Rd w3 a3 (parts x) ∧ Own w3 w.heap.size _ ((cs.take i).flatMap cparts) ∧ Below w.heap.size w w3) := ⟨R3, X2.out.2.1.below B3, X2.out.2.2.trans (B3.mono X2.out.2.2.size)⟩
      clear O3 B3 R3 hpa j0 j1 j2
      go_wp2_with (at_builtin; refine app_list rfl (.tmp 12) (.tmp 15) rfl w.heap.size _ ((cs.take i).flatMap cparts) (parts x) a3 _ c3 rfl G3.out.2.1 rfl G3.out.1 rfl (by have := FL.out; omega) G3.out.2.2.size ?_; intro v4 w4 hown4 hbel4)
      go_roundg (gk - 1)
      case measure => omega
      case rel => exact ⟨i + 1, by go_num, by omega, by rw [ST.out]; exact hown4, G3.out.2.2.trans hbel4⟩
    · obtain rfl : i = n := by omega
      have e : cs.take i = cs := List.take_of_length_le (by rw [H.out.2.1]; omega)
      rw [e] at HR hfl
      obtain ⟨L, hL⟩ : ∃ L, (cs.flatMap cparts) = L := ⟨_, rfl⟩
      rw [hL] at HR hfl
      have LE : Hid ((cs.flatMap cparts) = L) := hL
      clear hL
      obtain ⟨ao1, c1, rfl, _, _, R1⟩ := HR.out.1.form
      have hs := sort_any (c := c1) wr R1 rfl (by omega)
      clear R1 e
      go_wp2_with fail
      refine hs.mono ?_
      rintro e w2 ⟨v2, rfl, ho, hb⟩
      go_wp2
      go_ret
      exact ⟨_, rfl, by rw [touchL, LE.out]; exact own_low ho HR.out.2.size, HR.out.2.trans (hb.mono HR.out.2.size)⟩

end Go.Proofs.YtofbphmdkhocdaaGreat
