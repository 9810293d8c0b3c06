/-
  tree.Same by a contract, of lists whose rows have room of any size behind them.
-/
import Derived.Test.YtbclmpjcfddlcaaGreatYCap
namespace Go.Proofs.YtbclmpjcfddlcaaGreat
open Go.RowKit

set_option maxHeartbeats 400000 in
set_option maxRecDepth 100000 in
/-- tree.Same. -/
theorem tsame_cap {K : Nat} {ao bo lo : Option Addr} {n c m d ln lc : Nat} {A B : List En} {ls : List Bs} (w : World) (ha : RdG encE w ao A) (hb : RdG encE w bo B) (hl : A.length = n) (hk : B.length = m) (hnc : n ≤ c) (hmd : m ≤ d) (hc : c ≤ K) (hd : d ≤ K) (hn : n ≤ 100000) (hm : m ≤ 100000)
    (rA : Rise A) (rB : Rise B) (fA : Fine A) (fB : Fine B) (hL : Rd w lo ls) (hll : ls.length = ln) (hln : ln ≤ 100000) (f : Bool) (hf : (fdiff (hasS ls) A B).isEmpty = f) :
    Calls Tryz.prog 14 #[.slice ao n c, .slice bo m d, .agg #[.slice lo ln lc]] w fun e w' => e = .returned (.bool f) ∧ Below w.heap.size w w' := by
  have hb0 : Below w.heap.size w (w.alloc (.cells #[.slice lo ln lc] 26)) := bz1 _ _
  have hdi := diff_cap (lc := lc) (w.alloc (.cells #[.slice lo ln lc] 26)) (ha.below hb0) (hb.below hb0) hl hk hnc hmd hc hd hn hm rA rB fA fB (hL.below hb0) hll hln
  obtain ⟨cs, hcs⟩ : ∃ cs, fdiff (hasS ls) A B = cs := ⟨_, rfl⟩
  rw [hcs] at hdi hf
  have G0 : Hid (Below w.heap.size w (w.alloc (.cells #[.slice lo ln lc] 26)) ∧ cs.isEmpty = f) := ⟨hb0, hf⟩
  clear hb0 hcs hf ha hb hl hk rA rB fA fB hL hll
  go_enter Tryz.func14, Tryz.ntmps14
  go_wp2_with fail
  refine hdi.mono ?_
  rintro e w1 ⟨v1, rfl, O1, B1⟩
  obtain ⟨a1, c1, rfl, _, _, _, _⟩ := O1.form
  have G1 : Hid (Below w.heap.size w w1) := G0.out.1.trans (B1.mono (by simp))
  obtain ⟨kn, hkn⟩ : ∃ kn, cs.length = kn := ⟨_, rfl⟩
  have E : Hid (f = decide (kn = 0)) := by
    show f = _
    rw [← G0.out.2, ← hkn]
    cases cs <;> simp
  rw [hkn]
  clear hkn O1 B1 hdi
  go_wp2
  go_ret
  refine ⟨?_, G1.out⟩
  rw [E.out]
  refine congrArg (fun b => Ending.returned (Value.bool b)) ?_
  rw [Bool.eq_iff_iff]
  simp
  try omega

end Go.Proofs.YtbclmpjcfddlcaaGreat
