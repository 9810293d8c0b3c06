/-
  awake by a contract: the answers that the document fixes are given, whatever the world.
-/
import Derived.Test.YtcecgcgnpildpaaSets
namespace Go.Proofs.Ytcecgcgnpildpaa
open Go.RowKit

theorem lim0 : limS [[98], [97, 47, 120], [97]] = [[97], [98]] ∧ limE [[98], [97, 47, 120], [97]] = 0 := by decide
theorem has0 : hasS [[97], [98]] [97, 47, 121] = true ∧ hasS [[97], [98]] [97, 98] = false := by decide
theorem chk0 : isPath [97, 47, 47, 98] = false := by decide
theorem par0 : (parts [97, 47, 98, 46, 99, 47, 100]).length = 3 := by decide

theorem rd_lit2 (w : World) (a b : Bs) (t : TypeId) : Rd (w.alloc (.cells #[.string ⟨a.toArray⟩, .string ⟨b.toArray⟩] t)) (some ⟨w.heap.size, 0, none⟩) [a, b] := by
  intro _
  refine ⟨w.heap.size, 0, rfl, by simp, ?_⟩
  intro i hi
  match i, hi with
  | 0, _ => rw [World.cell?_alloc_new]; rfl
  | 1, _ => rw [World.cell?_alloc_new]; rfl
  | n + 2, h => simp at h; omega
theorem rd_lit3 (w : World) (a b c : Bs) (t : TypeId) : Rd (w.alloc (.cells #[.string ⟨a.toArray⟩, .string ⟨b.toArray⟩, .string ⟨c.toArray⟩] t)) (some ⟨w.heap.size, 0, none⟩) [a, b, c] := by
  intro _
  refine ⟨w.heap.size, 0, rfl, by simp, ?_⟩
  intro i hi
  match i, hi with
  | 0, _ => rw [World.cell?_alloc_new]; rfl
  | 1, _ => rw [World.cell?_alloc_new]; rfl
  | 2, _ => rw [World.cell?_alloc_new]; rfl
  | n + 3, h => simp at h; omega

/-- A set whose struct lies in a block of its own, and whose paths can be read. -/
structure SetAt (w : World) (B : Nat) (ao : Option Addr) (n cap : Nat) (ss : List Bs) (W : World) : Prop where
  rd : Rd W ao ss
  cell : W.cell? ⟨B, 0, none⟩ = some (.slice ao n cap)
  bel : Below w.heap.size w W
  lt : B < W.heap.size

theorem SetAt.below {w W W' : World} {B n cap : Nat} {ao : Option Addr} {ss : List Bs} (h : SetAt w B ao n cap ss W) (hb : Below W.heap.size W W') : SetAt w B ao n cap ss W' :=
  ⟨h.rd.below hb, (hb.cell (p := ⟨B, 0, none⟩) h.lt).trans h.cell, h.bel.trans (hb.mono h.bel.size), Nat.lt_of_lt_of_le h.lt hb.size⟩

theorem SetAt.make {w W : World} {n cap : Nat} {ao : Option Addr} {ss : List Bs} (t : TypeId) (h : Rd W ao ss) (hb : Below w.heap.size w W) : SetAt w W.heap.size ao n cap ss (W.alloc (.cells #[.slice ao n cap] t)) :=
  ⟨h.below ((Below.refl _ W).alloc (Nat.le_refl _) _), by rw [World.cell?_alloc_new]; rfl, hb.trans ((Below.refl _ W).alloc hb.size _), by simp⟩

set_option maxHeartbeats 1600000 in
set_option maxRecDepth 100000 in
theorem awake_any (w : World) : Calls Try.prog 8 #[] w fun e w' => e = .returned (.bool true) ∧ Below w.heap.size w w' := by
  have h1 := limit_any (c := 3) (n := 3) (w.alloc (.cells #[.string ⟨#[98]⟩, .string ⟨#[97, 47, 120]⟩, .string ⟨#[97]⟩] 9)) (rd_lit3 w [98] [97, 47, 120] [97] 9) rfl (by decide)
  rw [lim0.1, lim0.2] at h1
  have hbA : Below w.heap.size w (w.alloc (.cells #[.string ⟨#[98]⟩, .string ⟨#[97, 47, 120]⟩, .string ⟨#[97]⟩] 9)) := (Below.refl _ w).alloc (Nat.le_refl _) _
  have BA : Hid (Below w.heap.size w (w.alloc (.cells #[.string ⟨#[98]⟩, .string ⟨#[97, 47, 120]⟩, .string ⟨#[97]⟩] 9))) := hbA
  clear hbA
  go_enter Try.func8, Try.ntmps8
  go_wp2_with fail
  refine h1.mono ?_
  rintro e w1 ⟨v1, rfl, ho1, hb1⟩
  obtain ⟨ao, cap, rfl, _, _, R1⟩ := ho1.form
  have B1 : Hid (Below w.heap.size w w1) := BA.out.trans (hb1.mono (by simp))
  have RH1 : Hid (Rd w1 ao [[97], [98]]) := R1
  clear ho1 hb1 R1 h1
  simp only [List.length_cons, List.length_nil, Nat.zero_add, Nat.reduceAdd]
  have S2 : Hid (SetAt w w1.heap.size ao 2 cap [[97], [98]] (w1.alloc (.cells #[.slice ao 2 cap] 34))) := SetAt.make 34 RH1.out B1.out
  go_wp2_with fail
  refine (paths_any _ S2.out.rd rfl (by simp)).mono ?_
  rintro e w3 ⟨v3, rfl, ho3, hb3⟩
  obtain ⟨ao3, cap3, rfl, _, _, R3⟩ := ho3.form
  have S3 : Hid (SetAt w w1.heap.size ao 2 cap [[97], [98]] w3) := S2.out.below hb3
  have RH3 : Hid (Rd w3 ao3 [[97], [98]]) := R3
  clear ho3 hb3 R3
  simp only [List.length_cons, List.length_nil, Nat.zero_add, Nat.reduceAdd]
  have hbl : Below w3.heap.size w3 (w3.alloc (.cells #[.string ⟨#[97]⟩, .string ⟨#[98]⟩] 9)) := (Below.refl _ w3).alloc (Nat.le_refl _) _
  have S4 : Hid (SetAt w w1.heap.size ao 2 cap [[97], [98]] (w3.alloc (.cells #[.string ⟨#[97]⟩, .string ⟨#[98]⟩] 9))) := S3.out.below hbl
  have R4 : Hid (Rd (w3.alloc (.cells #[.string ⟨#[97]⟩, .string ⟨#[98]⟩] 9)) ao3 [[97], [98]]) := RH3.out.below hbl
  clear hbl
  go_wp2_with fail
  refine (same_any _ R4.out (rd_lit2 w3 [97] [98] 9) rfl rfl (by simp) true (by decide)).mono ?_
  rintro e w5 ⟨rfl, m5, rfl⟩
  have S5 : Hid (SetAt w w1.heap.size ao 2 cap [[97], [98]] ((w3.alloc (.cells #[.string ⟨#[97]⟩, .string ⟨#[98]⟩] 9)).drewN m5)) := S4.out.below (below_drewN (Below.refl _ _) m5)
  have c5 := S5.out.cell
  go_wp2_with fail
  refine (has_any [97, 47, 121] _ S5.out.rd rfl (by simp) (by decide) true has0.1).mono ?_
  rintro e w6 ⟨rfl, hb6⟩
  have S6 : Hid (SetAt w w1.heap.size ao 2 cap [[97], [98]] w6) := S5.out.below hb6
  have c6 := S6.out.cell
  clear hb6 c5
  go_wp2_with fail
  refine (has_any [97, 98] _ S6.out.rd rfl (by simp) (by decide) false has0.2).mono ?_
  rintro e w7 ⟨rfl, hb7⟩
  have S7 : Hid (SetAt w w1.heap.size ao 2 cap [[97], [98]] w7) := S6.out.below hb7
  clear hb7 c6
  go_wp2_with fail
  refine (check_at ⟨#[97, 47, 47, 98]⟩ (by decide) false chk0 _).mono ?_
  rintro e w8 ⟨rfl, m8, rfl⟩
  rw [show err false = 2 from rfl]
  go_wp2_with fail
  refine (parts_any ⟨#[97, 47, 98, 46, 99, 47, 100]⟩ (by decide) _).mono ?_
  rintro e w9 ⟨v9, rfl, ho9, hb9⟩
  obtain ⟨ao9, cap9, rfl, _, _, R9⟩ := ho9.form
  have e9 : (parts (⟨#[97, 47, 98, 46, 99, 47, 100]⟩ : ByteArray).data.toList).length = 3 := par0
  rw [e9]
  have S9 : Hid (Below w.heap.size w w9) := (below_drewN S7.out.bel m8).trans (hb9.mono S7.out.bel.size)
  clear ho9 hb9 R9 e9
  go_wp2
  go_ret
  exact ⟨rfl, S9.out⟩

end Go.Proofs.Ytcecgcgnpildpaa
