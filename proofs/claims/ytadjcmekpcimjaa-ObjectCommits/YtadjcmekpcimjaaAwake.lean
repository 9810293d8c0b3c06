/-
  The statements' awake, which returns true and turns nothing that was there. No condition.
-/
import Derived.Test.YtadjcmekpcimjaaRead
import Derived.Test.YtadjcmekpcimjaaRdCom
namespace Go.Proofs.Ytadjcmekpcimjaa
open Go.RowKit

theorem awake_tree : ftree [([97], 1)] = ([1, 97, 0, 0, 0, 0, 0, 0, 0, 1], 0) := by
  have h : ctree [([97], 1)] = 0 := ctree_mk (by decide) (by decide) (by unfold Tr; exact List.pairwise_singleton _ _)
  unfold ftree
  rw [if_pos h]
  rfl

def aCm : Cm := ⟨2, [3], 4, [110]⟩
theorem awake_com : fcom aCm = ([0, 0, 0, 0, 0, 0, 0, 2, 1, 0, 0, 0, 0, 0, 0, 0, 3, 0, 0, 0, 0, 0, 0, 0, 4, 1, 110], 0) := by
  have h : ccom aCm = 0 := by decide
  unfold fcom
  rw [if_pos h]
  rfl

theorem rd_one {α : Type} (E : Enc α) (w : World) (y : α) (t : TypeId) (c : Array Value) (hc : c = (E.cells y).toArray) : RdG E (w.alloc (.cells c t)) (some ⟨w.heap.size, 0, none⟩) [y] := by
  subst hc
  intro _
  refine ⟨w.heap.size, 0, rfl, by simp, ?_⟩
  intro i x hx j u hu
  have hi : i = 0 := by
    rcases Nat.eq_zero_or_pos i with q | q
    · exact q
    · rw [List.getElem?_eq_none (by simp; omega)] at hx; cases hx
  subst hi
  cases hx
  have := cells_new E w y t j u hu
  rw [addr_plus] at this
  rw [Nat.zero_mul, Nat.zero_add]
  exact this

set_option maxHeartbeats 3200000 in
set_option maxRecDepth 100000 in
theorem awake_walk (w : World) : Calls Try.prog 7 #[] w fun e w' => e = .returned (.bool true) ∧ Below w.heap.size w w' := by
  have h1 := tree_any (c := 1) (n := 1) (es := [([97], 1)]) (w.alloc (.cells #[tx [97], .int .u64 1] 39)) (rd_one encE w ([97], 1) 39 _ rfl) rfl (fun e he => by simp at he; subst he; simp) (Nat.le_refl _)
  rw [awake_tree] at h1
  go_enter Try.func7, Try.ntmps7
  go_wp2_with fail
  refine h1.mono ?_
  rintro e w1 ⟨v1, rfl, J1⟩
  clear h1
  obtain ⟨a1, c1, rfl, _, _, _, q1⟩ := OwnG.form J1.out.1
  obtain ⟨g1, rfl⟩ := q1 (by decide)
  have h2 := readTree_any (a := none) (n := 0) (c := 0) (bs := []) w1 ⟨none, 0, rfl, Nat.le_refl _, by omega, RdG.nil _ _ _⟩ rfl
  go_wp2_with fail
  refine h2.mono ?_
  rintro e w2 ⟨es, er, v2, rfl, J2⟩
  clear h2
  obtain ⟨rfl, rfl⟩ := J2.out.1.uniq (.inl ⟨rfl, ctree_mk (by decide) rfl List.Pairwise.nil, rfl⟩ : RT [] [] 0)
  obtain ⟨a2, c2, rfl, _, _, _, _⟩ := OwnG.form J2.out.2.1
  have h3 := com_any (w := w2.alloc (.cells #[.int .u64 3] 37)) (c := aCm) (pc := 1) (rd_one encU w2 3 37 _ rfl) rfl (Nat.le_refl _) ⟨#[110]⟩ rfl 4 rfl
  rw [awake_com] at h3
  go_wp2_with fail
  refine h3.mono ?_
  rintro e w3 ⟨v3, rfl, J3⟩
  clear h3
  obtain ⟨a3, c3, rfl, _, _, _, q3⟩ := OwnG.form J3.out.1
  obtain ⟨g3, rfl⟩ := q3 (by decide)
  have b2 : Below w1.heap.size w1 w2 := J2.out.2.2
  have b3 : Below w2.heap.size w2 w3 := (bz1 w2 _).trans (J3.out.2.mono (bz1 w2 _).size)
  have b1 : Below w.heap.size w w1 := (bz1 w _).trans (J1.out.2.mono (bz1 w _).size)
  have o1 := (J1.out.1.below b2).below b3
  have k0 : w3.cell? ⟨g1, 0, none⟩ = some (.int .u8 1) := by
    obtain ⟨y, hy, hc, _⟩ := byte_at o1 (i := 0) (by decide)
    cases hy
    exact hc
  have k1 : w3.cell? ⟨g1, 1, none⟩ = some (.int .u8 97) := by
    obtain ⟨y, hy, hc, _⟩ := byte_at o1 (i := 1) (by decide)
    cases hy
    exact hc
  have k9 : w3.cell? ⟨g1, 9, none⟩ = some (.int .u8 1) := by
    obtain ⟨y, hy, hc, _⟩ := byte_at o1 (i := 9) (by decide)
    cases hy
    exact hc
  have k8 : w3.cell? ⟨g3, 8, none⟩ = some (.int .u8 1) := by
    obtain ⟨y, hy, hc, _⟩ := byte_at J3.out.1 (i := 8) (by decide)
    cases hy
    exact hc
  have BE : Hid (Below w.heap.size w w3) := (b1.trans (b2.mono b1.size)).trans (b3.mono (b1.trans (b2.mono b1.size)).size)
  clear b1 b2 b3 o1 J1 J2 J3 q1 q3
  go_wp2
  go_ret
  exact ⟨by simp, BE.out⟩

end Go.Proofs.Ytadjcmekpcimjaa
