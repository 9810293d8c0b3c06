/-
  What is cut out of a row that was cut off. No condition.
-/
import Derived.Test.YtlcaphickofccaaSealsLaw
namespace Go.Proofs.Ytlcaphickofccaa
open Go.RowKit

theorem rowB_app (a b : List Fr) : rowB (a ++ b) = rowB a ++ rowB b := by simp [rowB]
theorem rowB_mono (fs : List Fr) {i j : Nat} (h : i ≤ j) : (rowB (fs.take i)).length ≤ (rowB (fs.take j)).length := by
  have e : fs.take j = fs.take i ++ (fs.take j).drop i := by
    have := (List.take_append_drop i (fs.take j)).symm
    rw [List.take_take, Nat.min_eq_left h] at this
    exact this
  rw [e, rowB_app, List.length_append]
  omega

theorem OwnG.rd' {α : Type} {E : Enc α} {e : TypeId} {w : World} {base n cap : Nat} {ao : Option Addr} {xs : List α} (h : OwnG E e w base (.slice ao n cap) xs) : RdG E w ao xs := by
  obtain ⟨a, c, q, _, _, r, _⟩ := OwnG.form h
  cases q
  exact r

/-- Of a row that is cut off just the frames that are whole are there. -/
theorem torn_cut : ∀ (fs : List Fr) (p : Nat), (∀ f ∈ fs, (fseal f).2 = 0) → p ≤ (rowB fs).length → ∃ (J : Nat) (code : Int), J ≤ fs.length ∧ fcut ((rowB fs).take p) = (fs.take J, (rowB (fs.take J)).length, code) ∧ (rowB (fs.take J)).length ≤ p ∧ (J < fs.length → p < (rowB (fs.take (J + 1))).length) ∧ (code = 0 ∨ code = 10) ∧ (code = 0 ↔ (rowB (fs.take J)).length = p)
  | [], p, _, h => by
    have h' : p ≤ 0 := h
    obtain rfl : p = 0 := by omega
    exact ⟨0, 0, Nat.le_refl _, by rw [List.take_zero, fcut_nil]; rfl, Nat.le_refl _, fun q => by simp at q, .inl rfl, by simp [rowB]⟩
  | f :: t, p, hf, h => by
    obtain ⟨h0, h1, h2, h3⟩ := fseal_iff (hf f List.mem_cons_self)
    have e : rowB (f :: t) = sealB f.1 f.2 ++ rowB t := by rw [← h3]; simp [rowB]
    have e1 : ∀ j, rowB ((f :: t).take (j + 1)) = sealB f.1 f.2 ++ rowB (t.take j) := by intro j; rw [← h3]; simp [rowB]
    have hs := sealB_len f.1 f.2
    rw [e, List.length_append, hs] at h
    by_cases hp : p < 9 + f.2.length
    · have et : (rowB (f :: t)).take p = (sealB f.1 f.2).take p := by rw [e, List.take_append_of_le_length (by omega)]
      have e0 : (rowB ((f :: t).take 0)).length = 0 := rfl
      have g : p < (rowB ((f :: t).take (0 + 1))).length := by rw [e1, List.length_append, hs]; omega
      by_cases p0 : p = 0
      · subst p0
        exact ⟨0, 0, Nat.zero_le _, by rw [List.take_zero, fcut_nil]; rfl, Nat.le_refl _, fun _ => g, .inl rfl, by simp [rowB]⟩
      · refine ⟨0, 10, Nat.zero_le _, ?_, by rw [e0]; exact Nat.zero_le _, fun _ => g, .inr rfl, ?_⟩
        · have hfo := fopen_torn (k := f.1) h2 hp
          rw [et, fcut_stop (by rw [List.length_take, hs]; omega) (by rw [hfo]; decide), hfo]
          rfl
        · rw [e0]
          constructor
          · intro q; exact absurd q (by decide)
          · intro q; omega
    · obtain ⟨J, code, j1, j2, j3, j4, j5, j6⟩ := torn_cut t (p - (9 + f.2.length)) (fun g hg => hf g (List.mem_cons_of_mem _ hg)) (by omega)
      have et : (rowB (f :: t)).take p = sealB f.1 f.2 ++ (rowB t).take (p - (9 + f.2.length)) := by
        rw [e, List.take_append, List.take_of_length_le (by omega), hs]
      have hfo := fopen_seal ((rowB t).take (p - (9 + f.2.length))) h0 h1 h2
      have ed : (sealB f.1 f.2 ++ (rowB t).take (p - (9 + f.2.length))).drop (9 + f.2.length) = (rowB t).take (p - (9 + f.2.length)) := by
        rw [List.drop_append_of_le_length (by omega), List.drop_of_length_le (by omega), List.nil_append]
      refine ⟨J + 1, code, by simpa using j1, ?_, ?_, ?_, j5, ?_⟩
      · rw [et, fcut_step (by rw [List.length_append, hs]; omega) (by rw [hfo]), hfo]
        show ((f.1, f.2) :: (fcut (_ : Bs)).1, 9 + f.2.length + (fcut (_ : Bs)).2.1, (fcut (_ : Bs)).2.2) = _
        rw [ed, j2, e1, List.length_append, hs]
        rfl
      · rw [e1, List.length_append, hs]; omega
      · intro q
        have := j4 (by simpa using q)
        rw [e1, List.length_append, hs]; omega
      · rw [e1, List.length_append, hs, j6]; omega

end Go.Proofs.Ytlcaphickofccaa
