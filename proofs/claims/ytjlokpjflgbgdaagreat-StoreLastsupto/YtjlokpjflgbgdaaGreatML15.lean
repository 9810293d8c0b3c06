/-
  The statements' Entries of an act, by a contract.
-/
import Derived.Test.YtjlokpjflgbgdaaGreatML14
set_option maxHeartbeats 6400000
set_option maxRecDepth 100000
namespace Go.Proofs.YtjlokpjflgbgdaaGreat
open Go.RowKit
theorem aents_any {w : World} {dv : Value} {pa qa ba : Option Addr} {pn pc qn qc bn bc : Nat} {ps : List Bs} {qs : List Int} {ids : List UInt64} (k : Int) (nm : ByteArray) (dt kp : Int)
  (hp : RdG encT w pa ps) (hpl : ps.length = pn) (hpn : pn * 24 <= 140737488355328) (hq : RdG encI w qa qs) (hql : qs.length = qn) (hqn : qn <= 4000000000000000000) (hb : RdG encU w ba ids) (hbl : ids.length = bn) (hbn : bn <= 4000000000000000000) :
  Calls Tryz.prog 49 #[actV k dv (.slice pa pn pc) (.slice qa qn qc) nm dt kp, .slice ba bn bc] w λ e w' => ∃ v, e = .returned v /\ Hid (OwnG encE 69 w' (w.heap.size + 1) v (aents ps qs ids) /\ Below w.heap.size w w') := by
 have H : Hid (RdG encT w pa ps /\ ps.length = pn /\ RdG encI w qa qs /\ qs.length = qn /\ RdG encU w ba ids /\ ids.length = bn) := ⟨hp, hpl, hq, hql, hb, hbl⟩
 clear hp hpl hq hql hb hbl
 go_enter Tryz.func49, Tryz.ntmps49
 go_wp2_with fail
 go_loopg [5, 6] pn (λ m rv iv wr => ∃ i : Nat, iv = .int .i64 i /\ i + m = pn /\ Hid (OwnG encE 69 wr (w.heap.size + 1) rv ((List.range i).map (aent ps qs ids)) /\ BoxA wr w.heap.size 43 (actC k dv (.slice pa pn pc) (.slice qa qn qc) nm dt kp) /\ Below w.heap.size w wr))
 case atStart => exact ⟨0, rfl, by omega, OwnG.nil _ _ _ _, BoxA.new _ _ _, bz1 _ _⟩
 case round =>
  obtain ⟨i, rfl, hi, HR⟩ := hrel
  have x2 := HR.out.2.1.cell (j := 2) rfl
  have x3 := HR.out.2.1.cell (j := 3) rfl
  by_cases hin : i < pn
  ·have id : (i : Int) < (pn : Int) := by omega
   have id0 : (0 : Int) <= (i : Int) := by omega
   obtain ⟨s, hs⟩ := get_some H.out.2.1 hin
   obtain ⟨b, off, rfl, hlt⟩ := H.out.1.some_of hs
   obtain ⟨hbw, c0⟩ := (H.out.1.below HR.out.2.2).txts hs
   obtain ⟨y, hy⟩ : ∃ y, pickI qs i = y := ⟨_, rfl⟩
   obtain ⟨z, hz⟩ : ∃ z, pickU ids y = z := ⟨_, rfl⟩
   obtain ⟨zi, hzi⟩ : ∃ zi : Int, (z.toNat : Int) = zi := ⟨_, rfl⟩
   have ea : aent ps qs ids i = (s, z) := by
    unfold aent
    rw [List.getD_eq_getElem?_getD, hs, hy, hz]
    rfl
   have hst : (List.range (i + 1)).map (aent ps qs ids) = (List.range i).map (aent ps qs ids) ++ [(s, z)] := by rw [List.range_succ, List.map_append, <- ea]; rfl
   have HS : Hid ((List.range (i + 1)).map (aent ps qs ids) = (List.range i).map (aent ps qs ids) ++ [(s, z)] /\ ((List.range i).map (aent ps qs ids)).length = i) := ⟨hst, by simp⟩
   have sz1 : w.heap.size + 1 <= wr.heap.size := HR.out.2.1.lt
   have bd : Below w.heap.size w wr.drew := HR.out.2.2.drew
   have P1 : Hid (Calls Tryz.prog 56 #[.slice qa qn qc, .int .i64 (i : Int)] wr.drew λ e w' => e = .returned (.int .i64 y) /\ w' = wr.drew) := pickI_any (H.out.2.2.1.below bd) H.out.2.2.2.1 hqn i y hy
   have P2 : Hid (Calls Tryz.prog 32 #[.slice ba bn bc, .int .i64 y] wr.drew λ e w' => e = .returned (.int .u64 zi) /\ w' = wr.drew) := pickU_any (H.out.2.2.2.2.1.below bd) H.out.2.2.2.2.2 hbn y zi (by rw [hz, hzi])
   have HC : Hid (∀ j u, (encE.cells (s, z))[j]? = some u -> (wr.drew.alloc (.cells #[tx s, .int .u64 zi] 69)).cell? ((⟨wr.heap.size, 0, none⟩ : Addr).add j) = some u) := by
    have := cells_new encE wr.drew (s, z) 69
    rw [show (encE.cells (s, z)).toArray = #[tx s, Value.int .u64 zi] from (by show #[tx s, Value.int .u64 (z.toNat : Int)] = _; rw [hzi])] at this
    exact this
   clear hs hst hy hz hzi ea bd
   go_wp2_with fail
   go_region_law
    (first
     | (refine step_val2 rfl (.tmp 22) (.tmp 23) 56 #[41, 3] rfl enters_pick (.slice qa qn qc) (.int .i64 (i : Int)) (.int .i64 y) (by simp [Act.eval, Act.put]) (by simp [Act.eval, Act.put]) P1.out ?_)
     | (refine step_val2 rfl (.tmp 20) (.tmp 24) 32 #[33, 3] rfl enters_Pick (.slice ba bn bc) (.int .i64 y) (.int .u64 zi) (by simp [Act.eval, Act.put]) (by simp [Act.eval, Act.put]) P2.out ?_)
     | (refine stepG_at encE 69 57 24 _ rfl Tryz.info69 Tryz.underlying57 rfl (.tmp 14) (.tmp 27) rfl (w.heap.size + 1) u5 ((List.range i).map (aent ps qs ids)) (s, z) (by simp [Act.eval]) (HR.out.1.below ((Below.refl _ wr).drew.trans (bz1 wr.drew _))) wr.heap.size (by simp [Act.eval]) HC.out (by rw [HS.out.2]; omega) (by rw [HS.out.2]; simp only [maxLen]; omega) (by simp; omega) ?_; intro v4 w4 ho4 hb4 hm4 ht4)
     | fail)
   all_goals
    have J4 : Hid (OwnG encE 69 w4 (w.heap.size + 1) v4 ((List.range (i + 1)).map (aent ps qs ids)) /\ Below (w.heap.size + 1) wr w4) := ⟨by rw [HS.out.1]; exact ho4, ((bz1 wr _).drew.mono (by omega)).trans hb4⟩
    clear ho4 hb4 hm4 ht4
    go_wp2
    go_roundg (gk - 1)
    case measure => omega
    case rel => exact ⟨i + 1, by go_num, by omega, J4.out.1, HR.out.2.1.below J4.out.2 (by omega), HR.out.2.2.trans (J4.out.2.mono (by omega))⟩
  ·obtain rfl : i = pn := by omega
   have htk : (List.range i).map (aent ps qs ids) = aents ps qs ids := by unfold aents; rw [H.out.2.1]
   rw [htk] at HR
   go_wp2
   go_ret
   exact ⟨_, rfl, HR.out.1, HR.out.2.2⟩
end Go.Proofs.YtjlokpjflgbgdaaGreat
