/-
  awake of layer 10's statements by a contract: it returns true. No condition.
-/
import Derived.Test.YtofbphmdkhocdaaGreatYApplyMg
import Derived.Test.YtofbphmdkhocdaaGreatM18
namespace Go.Proofs.YtofbphmdkhocdaaGreat
open Go.RowKit

def lA : List En := [([120], 1), ([121], 2)]
def lB : List En := [([121], 3), ([122], 1)]
def lC : List Chg := [([120], 1, 0), ([121], 2, 3), ([122], 0, 1)]
def lD : List Chg := [([120], 1, 0)]
def lE : List Chg := [([112, 47, 113], 0, 0)]

theorem lit_diff : fdiff (hasS []) lA lB = lC := by decide +kernel
theorem lit_origin : forigin lA lB (pmoves lC) [122] = some [120] := by decide +kernel
theorem lit_apply : fapply lA lD = ([([121], 2)], 0) := by decide +kernel
theorem lit_touch : (touchL lE).length = 2 := by decide +kernel
theorem rise_A : Rise lA := by unfold Rise lA; decide +kernel
theorem rise_B : Rise lB := by unfold Rise lB; decide +kernel
theorem nz_A : NZ lA := by
  intro e h
  simp only [lA, List.mem_cons, List.not_mem_nil, or_false] at h
  rcases h with rfl | rfl <;> decide
theorem fine_A : Fine lA := by
  intro e h
  simp only [lA, List.mem_cons, List.not_mem_nil, or_false] at h
  rcases h with rfl | rfl <;> decide
theorem fine_B : Fine lB := by
  intro e h
  simp only [lB, List.mem_cons, List.not_mem_nil, or_false] at h
  rcases h with rfl | rfl <;> decide
theorem fine_D : FineC lD := by
  intro e h
  simp only [lD, List.mem_cons, List.not_mem_nil, or_false] at h
  rcases h with rfl
  decide
theorem fine_E : FineC lE := by
  intro e h
  simp only [lE, List.mem_cons, List.not_mem_nil, or_false] at h
  rcases h with rfl
  decide

/-- Things as they are written down. -/
theorem rd_many {α : Type} (E : Enc α) (w : World) (xs : List α) (t : TypeId) (c : Array Value) (hc : c = (E.all xs).toArray) : RdG E (w.alloc (.cells c t)) (some ⟨w.heap.size, 0, none⟩) xs := by
  subst hc
  intro _
  refine ⟨w.heap.size, 0, rfl, by simp, fun i x hx j u hu => ?_⟩
  have hj : j < E.size := by
    rw [← E.len x]
    exact (List.getElem?_eq_some_iff.1 hu).1
  rw [Nat.zero_add, World.cell?_alloc_new]
  have := E.all_get xs i j x hx hj
  simpa [this] using hu

set_option maxHeartbeats 3200000 in
set_option maxRecDepth 100000 in
theorem awake_walk (w : World) : Calls Tryz.prog 6 #[] w fun e w' => e = .returned (.bool true) ∧ Below w.heap.size w w' := by
  obtain ⟨w2, hw2⟩ : ∃ w2, w2 = (w.alloc (.cells #[.string ⟨#[120]⟩, .int .u64 1, .string ⟨#[121]⟩, .int .u64 2] 52)).alloc (.cells #[.string ⟨#[121]⟩, .int .u64 3, .string ⟨#[122]⟩, .int .u64 1] 52) := ⟨_, rfl⟩
  have G2 : Hid (RdG encE w2 (some ⟨w.heap.size, 0, none⟩) lA ∧ RdG encE w2 (some ⟨w.heap.size + 1, 0, none⟩) lB ∧ Below w.heap.size w w2) := by
    rw [hw2]
    have r1 := rd_many encE w lA 52 #[.string ⟨#[120]⟩, .int .u64 1, .string ⟨#[121]⟩, .int .u64 2] rfl
    have r2 := rd_many encE (w.alloc (.cells #[.string ⟨#[120]⟩, .int .u64 1, .string ⟨#[121]⟩, .int .u64 2] 52)) lB 52 #[.string ⟨#[121]⟩, .int .u64 3, .string ⟨#[122]⟩, .int .u64 1] rfl
    rw [show (w.alloc (.cells #[.string ⟨#[120]⟩, .int .u64 1, .string ⟨#[121]⟩, .int .u64 2] 52)).heap.size = w.heap.size + 1 by simp] at r2
    exact ⟨r1.below (bz1 _ _), r2, bz2 _ _ _⟩
  have hdi := fun (u : World) h1 h2 => diff_any (ao := some ⟨w.heap.size, 0, none⟩) (bo := some ⟨w.heap.size + 1, 0, none⟩) (n := 2) (c := 2) (m := 2) (d := 2) (lc := 0) (lo := none) (ln := 0) (ls := []) u h1 h2 rfl rfl (by omega) (by omega) (by omega) (by omega) (by omega) (by omega) rise_A rise_B fine_A fine_B (Rd.nil u none) rfl (by omega)
  rw [lit_diff] at hdi
  have hor := fun (u : World) h1 h2 => origin_any (ao := some ⟨w.heap.size, 0, none⟩) (bo := some ⟨w.heap.size + 1, 0, none⟩) (n := 2) (c := 2) (m := 2) (d := 2) [122] u h1 h2 rfl rfl (by omega) (by omega) (by omega) (by omega) (by omega) (by omega) rise_A rise_B fine_A fine_B lC lit_diff (by decide) _ lit_origin
  have hap := fun (u : World) h1 h2 => apply_any (ao := some ⟨w.heap.size, 0, none⟩) (bo := some ⟨u.heap.size, 0, none⟩) (n := 2) (c := 2) (m := 1) (d := 1) (u.alloc (.cells #[.string ⟨#[120]⟩, .int .u64 1, .int .u64 0] 58)) h1 h2 rfl rfl (by omega) (by omega) rise_A nz_A fine_A fine_D _ _ lit_apply
  have hto := fun (u : World) h => touched_any (ao := some ⟨u.heap.size, 0, none⟩) (n := 1) (c := 1) (u.alloc (.cells #[.string ⟨#[112, 47, 113]⟩, .int .u64 0, .int .u64 0] 58)) h rfl (by omega) fine_E
  have hsa := fun (u : World) h1 h2 => tsame_any (ao := some ⟨w.heap.size, 0, none⟩) (bo := some ⟨w.heap.size + 1, 0, none⟩) (n := 2) (c := 2) (m := 2) (d := 2) (lc := 0) (lo := none) (ln := 0) (ls := []) u h1 h2 rfl rfl (by omega) (by omega) (by omega) (by omega) (by omega) (by omega) rise_A rise_B fine_A fine_B (Rd.nil u none) rfl (by omega) false (by rw [lit_diff]; rfl)
  go_enter Tryz.func6, Tryz.ntmps6
  go_upto_region 3 with fail
  rw [← hw2]
  clear hw2
  have hdi2 := hdi w2 G2.out.1 G2.out.2.1
  clear hdi
  go_wp2_with fail
  refine hdi2.mono ?_
  rintro e w3 ⟨v3, rfl, O3, B3⟩
  obtain ⟨a3, c3, rfl, _, _, R3, q3⟩ := O3.form
  obtain ⟨g3, rfl⟩ := q3 (by decide)
  have e3 : lC.length = 3 := rfl
  rw [e3]
  have G3 : Hid (RdG encE w3 (some ⟨w.heap.size, 0, none⟩) lA ∧ RdG encE w3 (some ⟨w.heap.size + 1, 0, none⟩) lB ∧ Below w.heap.size w w3 ∧ RdG encC w3 (some ⟨g3, 0, none⟩) lC) := ⟨G2.out.1.below B3, G2.out.2.1.below B3, G2.out.2.2.trans (B3.mono G2.out.2.2.size), R3⟩
  clear O3 B3 R3 q3 e3 hdi2 G2
  have hor3 := hor w3 G3.out.1 G3.out.2.1
  clear hor
  go_wp2_with fail
  refine hor3.mono ?_
  rintro e w4 ⟨rfl, B4⟩
  have G4 : Hid (RdG encE w4 (some ⟨w.heap.size, 0, none⟩) lA ∧ RdG encE w4 (some ⟨w.heap.size + 1, 0, none⟩) lB ∧ Below w.heap.size w w4 ∧ RdG encC w4 (some ⟨g3, 0, none⟩) lC) := ⟨G3.out.1.below B4, G3.out.2.1.below B4, G3.out.2.2.1.trans (B4.mono G3.out.2.2.1.size), G3.out.2.2.2.below B4⟩
  clear B4 hor3 G3
  have hap4 := hap w4 (G4.out.1.below (bz1 w4 _)) (rd_many encC w4 lD 58 _ rfl)
  clear hap
  have eor : orV (some [120]) = .tuple #[tx [120], .bool true] := rfl
  rw [eor]
  clear eor
  go_wp2_with fail
  refine hap4.mono ?_
  rintro e w5 ⟨v5, rfl, O5, B5⟩
  obtain ⟨a5, c5, rfl, _, _, _, _⟩ := O5.form
  have e5 : ([([121], 2)] : List En).length = 1 := rfl
  rw [e5]
  have hb5 : Below w4.heap.size w4 w5 := (bz1 w4 _).trans (B5.mono (by simp))
  have G5 : Hid (RdG encE w5 (some ⟨w.heap.size, 0, none⟩) lA ∧ RdG encE w5 (some ⟨w.heap.size + 1, 0, none⟩) lB ∧ Below w.heap.size w w5 ∧ RdG encC w5 (some ⟨g3, 0, none⟩) lC) := ⟨G4.out.1.below hb5, G4.out.2.1.below hb5, G4.out.2.2.1.trans (hb5.mono G4.out.2.2.1.size), G4.out.2.2.2.below hb5⟩
  clear O5 B5 hb5 e5 hap4 G4
  obtain ⟨x0, x1, x2⟩ := G5.out.2.2.2.chgs (i := 0) (c := ([120], 1, 0)) rfl
  obtain ⟨y0, y1, y2⟩ := G5.out.2.2.2.chgs (i := 2) (c := ([122], 0, 1)) rfl
  simp only [Nat.zero_mul, Nat.zero_add] at x0 x1 x2 y0 y1 y2
  have x1' : w5.cell? ⟨g3, 1, none⟩ = some (.int .u64 1) := x1
  have x2' : w5.cell? ⟨g3, 2, none⟩ = some (.int .u64 0) := x2
  have y0' : w5.cell? ⟨g3, 6, none⟩ = some (tx [122]) := y0
  have y1' : w5.cell? ⟨g3, 7, none⟩ = some (.int .u64 0) := y1
  have y2' : w5.cell? ⟨g3, 8, none⟩ = some (.int .u64 1) := y2
  clear x1 x2 y0 y1 y2
  have hto5 := hto w5 (rd_many encC w5 lE 58 _ rfl)
  clear hto
  go_wp2_with fail
  refine hto5.mono ?_
  rintro e w6 ⟨v6, rfl, O6, B6⟩
  obtain ⟨a6, c6, rfl, _, _, _⟩ := O6.form
  rw [lit_touch]
  have hb6 : Below w5.heap.size w5 w6 := (bz1 w5 _).trans (B6.mono (by simp))
  have G6 : Hid (RdG encE w6 (some ⟨w.heap.size, 0, none⟩) lA ∧ RdG encE w6 (some ⟨w.heap.size + 1, 0, none⟩) lB ∧ Below w.heap.size w w6) := ⟨G5.out.1.below hb6, G5.out.2.1.below hb6, G5.out.2.2.1.trans (hb6.mono G5.out.2.2.1.size)⟩
  clear O6 B6 hb6 hto5 G5 x0 x1' x2' y0' y1' y2'
  have hsa6 := hsa w6 G6.out.1 G6.out.2.1
  clear hsa
  go_wp2_with fail
  refine hsa6.mono ?_
  rintro e w7 ⟨rfl, B7⟩
  have G7 : Hid (Below w.heap.size w w7) := G6.out.2.2.trans (B7.mono G6.out.2.2.size)
  clear B7 hsa6
  go_wp2
  go_ret
  exact ⟨rfl, G7.out⟩

end Go.Proofs.YtofbphmdkhocdaaGreat
