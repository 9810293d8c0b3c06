/-
  awake by a contract: the answers that the document fixes are given, whatever the world.
-/
import Derived.Test.YtmblkkmfbgngdaaHunks
import Derived.Test.YtmblkkmfbgngdaaRApply
namespace Go.Proofs.Ytmblkkmfbgngdaa
open Go.RowKit

theorem aw_match : matchL [[97], [98], [99]] [[98], [120], [99]] = [(1, 0), (2, 2)] := by
  simp [matchL, matchFrom, lcs]
theorem aw_hunks : (hunksL [[97]] [[98]]).length = 1 := by
  simp [hunksL, endsN, matchN, matchFrom, lcs, hunksFrom]
theorem aw_apply : ans [[97]] [⟨0, 0, [[97]], [[98], [99]]⟩] = ([[98], [99]], 0) := by decide

/-- A list of texts as it is written down. -/
theorem rd_lit (w : World) (ss : List Bs) (t : TypeId) (c : Array Value) (hc : c = (ss.map (fun s => Value.string ⟨s.toArray⟩)).toArray) : Rd (w.alloc (.cells c t)) (some ⟨w.heap.size, 0, none⟩) ss := by
  subst hc
  intro _
  refine ⟨w.heap.size, 0, rfl, by simp, ?_⟩
  intro i hi
  rw [Nat.zero_add, World.cell?_alloc_new]
  simp [hi, el_get hi]

/-- A list of one hunk as it is written down. -/
theorem rdg_lit (w : World) (v : HV) (t : TypeId) (c : Array Value) (hc : c = (encH.cells v).toArray) : RdG encH (w.alloc (.cells c t)) (some ⟨w.heap.size, 0, none⟩) [v] := by
  subst hc
  intro _
  refine ⟨w.heap.size, 0, rfl, by simp, ?_⟩
  intro i x hx j u hu
  have h0 : i = 0 := by
    rcases Nat.eq_zero_or_pos i with q | q
    · exact q
    · rw [List.getElem?_eq_none (by simp; omega)] at hx
      cases hx
  subst h0
  obtain rfl : v = x := by simpa using hx
  rw [Nat.zero_mul, Nat.zero_add, Nat.zero_add, World.cell?_alloc_new]
  simpa using hu

/-- What the third answer is made of. -/
theorem aw_world (w : World) : ∃ W S, W = (((w.alloc (.cells #[.string ⟨#[97]⟩] 9)).alloc (.cells #[.string ⟨#[97]⟩] 9)).alloc (.cells #[.string ⟨#[98]⟩, .string ⟨#[99]⟩] 9)).alloc (.cells #[.int .i64 0, .int .i64 0, .slice (some ⟨w.heap.size + 1, 0, none⟩) 1 1, .slice (some ⟨w.heap.size + 2, 0, none⟩) 2 2] 46) ∧ S = w.heap.size ∧
    Below w.heap.size w W ∧ Rd W (some ⟨S, 0, none⟩) [[97]] ∧ RdG encH W (some ⟨S + 3, 0, none⟩) [⟨0, 0, some ⟨S + 1, 0, none⟩, 1, 1, some ⟨S + 2, 0, none⟩, 2, 2⟩] ∧ Hks W [⟨0, 0, some ⟨S + 1, 0, none⟩, 1, 1, some ⟨S + 2, 0, none⟩, 2, 2⟩] [⟨0, 0, [[97]], [[98], [99]]⟩] := by
  refine ⟨_, _, rfl, rfl, ?_⟩
  have R1 := rd_lit w [[97]] 9 #[.string ⟨#[97]⟩] rfl
  have R2 := rd_lit (w.alloc (.cells #[.string ⟨#[97]⟩] 9)) [[97]] 9 #[.string ⟨#[97]⟩] rfl
  have R3 := rd_lit ((w.alloc (.cells #[.string ⟨#[97]⟩] 9)).alloc (.cells #[.string ⟨#[97]⟩] 9)) [[98], [99]] 9 #[.string ⟨#[98]⟩, .string ⟨#[99]⟩] rfl
  have R4 := rdg_lit (((w.alloc (.cells #[.string ⟨#[97]⟩] 9)).alloc (.cells #[.string ⟨#[97]⟩] 9)).alloc (.cells #[.string ⟨#[98]⟩, .string ⟨#[99]⟩] 9)) ⟨0, 0, some ⟨w.heap.size + 1, 0, none⟩, 1, 1, some ⟨w.heap.size + 2, 0, none⟩, 2, 2⟩ 46 #[.int .i64 0, .int .i64 0, .slice (some ⟨w.heap.size + 1, 0, none⟩) 1 1, .slice (some ⟨w.heap.size + 2, 0, none⟩) 2 2] rfl
  have s1 : (w.alloc (.cells #[.string ⟨#[97]⟩] 9)).heap.size = w.heap.size + 1 := by simp
  have s2 : ((w.alloc (.cells #[.string ⟨#[97]⟩] 9)).alloc (.cells #[.string ⟨#[97]⟩] 9)).heap.size = w.heap.size + 2 := by simp
  have s3 : (((w.alloc (.cells #[.string ⟨#[97]⟩] 9)).alloc (.cells #[.string ⟨#[97]⟩] 9)).alloc (.cells #[.string ⟨#[98]⟩, .string ⟨#[99]⟩] 9)).heap.size = w.heap.size + 3 := by simp
  rw [s1] at R2
  rw [s2] at R3
  rw [s3] at R4
  have up : ∀ (u : World) (o : Obj), Below u.heap.size u (u.alloc o) := fun u o => (Below.refl _ u).alloc (Nat.le_refl _) o
  have b1 : Below w.heap.size w (w.alloc (.cells #[.string ⟨#[97]⟩] 9)) := up _ _
  have b2 := b1.trans ((up (w.alloc (.cells #[.string ⟨#[97]⟩] 9)) (.cells #[.string ⟨#[97]⟩] 9)).mono b1.size)
  have b3 := b2.trans ((up _ (.cells #[.string ⟨#[98]⟩, .string ⟨#[99]⟩] 9)).mono b2.size)
  have b4 := b3.trans ((up _ (.cells #[.int .i64 0, .int .i64 0, .slice (some ⟨w.heap.size + 1, 0, none⟩) 1 1, .slice (some ⟨w.heap.size + 2, 0, none⟩) 2 2] 46)).mono b3.size)
  refine ⟨b4, ((R1.below (up _ _)).below (up _ _)).below (up _ _), R4, rfl, ?_⟩
  intro i v h e1 e2
  have h0 : i = 0 := by
    rcases Nat.eq_zero_or_pos i with q | q
    · exact q
    · rw [List.getElem?_eq_none (by simp; omega)] at e1
      cases e1
  subst h0
  obtain rfl := (by simpa using e1 : _ = v)
  obtain rfl := (by simpa using e2 : _ = h)
  exact ⟨rfl, rfl, rfl, rfl, (R2.below (up _ _)).below (up _ _), R3.below (up _ _)⟩

set_option maxHeartbeats 3200000 in
set_option maxRecDepth 100000 in
theorem awake_any (w : World) : Calls Try.prog 8 #[] w fun e w' => e = .returned (.bool true) ∧ Below w.heap.size w w' := by
  go_enter Try.func8, Try.ntmps8
  go_wp2_with fail
  have R1 := rd_lit w [[97], [98], [99]] 9 _ rfl
  have R2 := rd_lit (w.alloc (.cells #[.string ⟨#[97]⟩, .string ⟨#[98]⟩, .string ⟨#[99]⟩] 9)) [[98], [120], [99]] 9 _ rfl
  have e2 : (w.alloc (.cells #[.string ⟨#[97]⟩, .string ⟨#[98]⟩, .string ⟨#[99]⟩] 9)).heap.size = w.heap.size + 1 := by simp
  rw [e2] at R2
  have R1' := R1.below ((Below.refl _ (w.alloc (.cells #[.string ⟨#[97]⟩, .string ⟨#[98]⟩, .string ⟨#[99]⟩] 9))).alloc (Nat.le_refl _) (.cells #[.string ⟨#[98]⟩, .string ⟨#[120]⟩, .string ⟨#[99]⟩] 9))
  have hm := match_any (c := 3) (d := 3) _ R1' R2 rfl rfl (by decide) (by decide)
  rw [aw_match] at hm
  have hb0 : Below w.heap.size w ((w.alloc (.cells #[.string ⟨#[97]⟩, .string ⟨#[98]⟩, .string ⟨#[99]⟩] 9)).alloc (.cells #[.string ⟨#[98]⟩, .string ⟨#[120]⟩, .string ⟨#[99]⟩] 9)) := ((Below.refl _ w).alloc (Nat.le_refl _) _).alloc (by simp) _
  clear R1 R2 R1' e2
  refine Calls.mono hm ?_
  rintro e w1 ⟨v1, rfl, ho1, hb1⟩
  obtain ⟨a1, c1, rfl, _, _, P1, g1⟩ := ho1.form
  obtain ⟨g, rfl⟩ := g1 (by simp)
  have B1 : Hid (Below w.heap.size w w1 ∧ RdG encP w1 (some ⟨g, 0, none⟩) [(1, 0), (2, 2)]) := ⟨hb0.trans (hb1.mono hb0.size), P1⟩
  clear hm hb0 hb1 ho1 P1 g1
  simp only [List.length_cons, List.length_nil, Nat.zero_add, Nat.reduceAdd]
  go_wp2_with fail
  have R1 := rd_lit w1 [[97]] 9 _ rfl
  have R2 := rd_lit (w1.alloc (.cells #[.string ⟨#[97]⟩] 9)) [[98]] 9 _ rfl
  have e2 : (w1.alloc (.cells #[.string ⟨#[97]⟩] 9)).heap.size = w1.heap.size + 1 := by simp
  rw [e2] at R2
  have R1' := R1.below ((Below.refl _ (w1.alloc (.cells #[.string ⟨#[97]⟩] 9))).alloc (Nat.le_refl _) (.cells #[.string ⟨#[98]⟩] 9))
  have hm := hunks_any (c := 1) (d := 1) _ R1' R2 rfl rfl (by decide) (by decide) (by decide) (by decide)
  have hb0 : Below w1.heap.size w1 ((w1.alloc (.cells #[.string ⟨#[97]⟩] 9)).alloc (.cells #[.string ⟨#[98]⟩] 9)) := ((Below.refl _ w1).alloc (Nat.le_refl _) _).alloc (by simp) _
  clear R1 R2 R1' e2
  refine Calls.mono hm ?_
  rintro e w2 ⟨v2, vs2, rfl, ho2, hk2, hb2⟩
  obtain ⟨a2, c2, rfl, _, _, _, _⟩ := ho2.form
  rw [hk2.len, aw_hunks]
  have B2 : Hid (Below w.heap.size w w2 ∧ RdG encP w2 (some ⟨g, 0, none⟩) [(1, 0), (2, 2)]) := by
    have b := hb0.trans (hb2.mono hb0.size)
    exact ⟨B1.out.1.trans (b.mono B1.out.1.size), B1.out.2.below b⟩
  clear hm hb0 hb2 ho2 hk2 B1
  go_wp2_with fail
  obtain ⟨W, S, hW, hS, bW, r1, r2, r3⟩ := aw_world w2
  rw [← hW, ← hS]
  have hm := apply_any (c := 1) (d := 1) W r1 rfl (by decide) r2 r3 rfl (by decide) (by decide) _ _ aw_apply
  have B3 : Hid (Below w.heap.size w W ∧ RdG encP W (some ⟨g, 0, none⟩) [(1, 0), (2, 2)]) := ⟨B2.out.1.trans (bW.mono B2.out.1.size), B2.out.2.below bW⟩
  clear hW hS bW r1 r2 r3 B2
  refine Calls.mono hm ?_
  rintro e w3 ⟨v3, rfl, ho3, hb3⟩
  obtain ⟨a3, c3, rfl, _, _, _⟩ := ho3.form
  have B4 : Hid (Below w.heap.size w w3 ∧ RdG encP w3 (some ⟨g, 0, none⟩) [(1, 0), (2, 2)]) := ⟨B3.out.1.trans (hb3.mono B3.out.1.size), B3.out.2.below hb3⟩
  clear hm hb3 ho3 B3
  simp only [List.length_cons, List.length_nil, Nat.zero_add, Nat.reduceAdd]
  obtain ⟨k1, k2⟩ := B4.out.2.pairs (i := 0) (x := (1, 0)) rfl
  obtain ⟨k3, k4⟩ := B4.out.2.pairs (i := 1) (x := (2, 2)) rfl
  simp only [Nat.zero_add, Nat.zero_mul, Nat.one_mul, Nat.reduceAdd] at k1 k2 k3 k4
  go_wp2
  go_ret
  exact ⟨rfl, B4.out.1⟩

end Go.Proofs.Ytmblkkmfbgngdaa
