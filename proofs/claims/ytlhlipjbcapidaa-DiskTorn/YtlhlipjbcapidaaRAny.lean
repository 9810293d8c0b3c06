/-
  The reference's Remove, Rename and Trim, each by one contract over the document's disk. No condition but that what is handed in is no longer than any memory holds.
-/
import Derived.Test.YtlhlipjbcapidaaRTrim
namespace Go.Proofs.Ytlhlipjbcapidaa
open Go.RowKit

section
variable {S : Nat → Prop} {d : Dk} {w : World}

/-- A disk whose next raw write was asked for, its files as they were. -/
theorem RVS.next {w' : World} {ao : Option Addr} {L c : Nat} (hL : d.files.length = L) (hc : L ≤ c) (hR : RdG encF w ao d.files) (hF : 0 < L → ∀ p, ao = some p → ¬ S p.block) (hb : Below w.heap.size w w') : RVS S w' (rv ao L c (dnext d).1) (dnext d).1 :=
  ⟨ao, L, c, rfl, by rw [dnext_files]; exact hL, hc, by rw [dnext_files]; exact hR.below hb, hF⟩

/-- The reference's Remove. -/
theorem rrem_any (hS : ∀ i, S i → i < w.heap.size) {v : Value} (h : RVS S w v d) (hk : d.ok) (hw : d.writes < 4611686018427387904) (n : Bs) (hnl : n.length ≤ 140737488355328) :
    Calls Try.prog 29 #[v, tx n] w fun e w' => ∃ v', e = .returned (.tuple #[v', .int .i64 (drem d n).2]) ∧ RVS S w' v' (drem d n).1 ∧ Below w.heap.size w w' := by
  obtain ⟨ao, L, c, rfl, hL, hc, hR, hF⟩ := h
  have same : ∀ {w' : World}, Below w.heap.size w w' → RVS S w' (rv ao L c d) d := fun hb => ⟨ao, L, c, rfl, hL, hc, hR.below hb, hF⟩
  have hl : L ≤ 1000 := by have := hk.few; omega
  unfold drem
  by_cases hn : isName n = false
  · rw [if_pos hn]
    refine (rrem_bad n hn hnl).mono ?_
    rintro e w' ⟨rfl, hb⟩
    exact ⟨_, rfl, same hb, hb⟩
  · rw [if_neg hn]
    have hn : isName n = true := by simpa using hn
    cases e : fget d.files n with
    | none =>
      refine (rrem_none hR hL hl n hn hnl e).mono ?_
      rintro e w' ⟨rfl, hb⟩
      exact ⟨_, rfl, same hb, hb⟩
    | some s =>
      by_cases hdo : (dnext d).2.1 = true
      · simp only [hdo, if_true]
        exact rrem_done hS hR hL hl hk.rise n hn hnl e hk.after hw hdo
      · have hdo' : (dnext d).2.1 = false := by simpa using hdo
        simp only [hdo', Bool.false_eq_true, if_false]
        refine (rrem_off hR hL hl n hn hnl e hk.after hw hdo').mono ?_
        rintro e w' ⟨rfl, hb⟩
        exact ⟨_, rfl, RVS.next hL hc hR hF hb, hb⟩

/-- The reference's Rename. -/
theorem rren_any (hS : ∀ i, S i → i < w.heap.size) {v : Value} (h : RVS S w v d) (hk : d.ok) (hw : d.writes < 4611686018427387904) (n t : Bs) (hnl : n.length ≤ 140737488355328) (htl : t.length ≤ 140737488355328) :
    Calls Try.prog 28 #[v, tx n, tx t] w fun e w' => ∃ v', e = .returned (.tuple #[v', .int .i64 (dren d n t).2]) ∧ RVS S w' v' (dren d n t).1 ∧ Below w.heap.size w w' := by
  obtain ⟨ao, L, c, rfl, hL, hc, hR, hF⟩ := h
  have same : ∀ {w' : World}, Below w.heap.size w w' → RVS S w' (rv ao L c d) d := fun hb => ⟨ao, L, c, rfl, hL, hc, hR.below hb, hF⟩
  have hl : L ≤ 1000 := by have := hk.few; omega
  unfold dren
  by_cases hn : isName n = false ∨ isName t = false
  · rw [if_pos hn]
    by_cases h1 : isName n = false
    · refine (rren_bad n t h1 hnl).mono ?_
      rintro e w' ⟨rfl, hb⟩
      exact ⟨_, rfl, same hb, hb⟩
    · refine (rren_bad2 n t (by simpa using h1) (hn.elim (fun q => absurd q h1) id) hnl htl).mono ?_
      rintro e w' ⟨rfl, hb⟩
      exact ⟨_, rfl, same hb, hb⟩
  · rw [if_neg hn]
    have h1 : isName n = true := by
      cases e : isName n
      · exact absurd (.inl e) hn
      · rfl
    have h2 : isName t = true := by
      cases e : isName t
      · exact absurd (.inr e) hn
      · rfl
    cases e : fget d.files n with
    | none =>
      refine (rren_none hR hL hl n t h1 h2 hnl htl e).mono ?_
      rintro e w' ⟨rfl, hb⟩
      exact ⟨_, rfl, same hb, hb⟩
    | some s =>
      by_cases hdo : (dnext d).2.1 = true
      · simp only [hdo, if_true]
        exact rren_done hS hR hL hl hk.rise n t h1 h2 hnl htl e hk.after hw hdo
      · have hdo' : (dnext d).2.1 = false := by simpa using hdo
        simp only [hdo', Bool.false_eq_true, if_false]
        refine (rren_off hR hL hl n t h1 h2 hnl htl e hk.after hw hdo').mono ?_
        rintro e w' ⟨rfl, hb⟩
        exact ⟨_, rfl, RVS.next hL hc hR hF hb, hb⟩

/-- The reference's Trim. -/
theorem rtrim_any (hS : ∀ i, S i → i < w.heap.size) {v : Value} (h : RVS S w v d) (hk : d.ok) (hw : d.writes < 4611686018427387904) (n : Bs) (z : Int) (hnl : n.length ≤ 140737488355328) :
    Calls Try.prog 27 #[v, tx n, .int .i64 z] w fun e w' => ∃ v', e = .returned (.tuple #[v', .int .i64 (dtrim d n z).2]) ∧ RVS S w' v' (dtrim d n z).1 ∧ Below w.heap.size w w' := by
  obtain ⟨ao, L, c, rfl, hL, hc, hR, hF⟩ := h
  have same : ∀ {w' : World}, Below w.heap.size w w' → RVS S w' (rv ao L c d) d := fun hb => ⟨ao, L, c, rfl, hL, hc, hR.below hb, hF⟩
  have hl : L ≤ 1000 := by have := hk.few; omega
  unfold dtrim
  by_cases hn : isName n = false
  · rw [if_pos hn]
    refine (rtrim_bad n z hn hnl).mono ?_
    rintro e w' ⟨rfl, hb⟩
    exact ⟨_, rfl, same hb, hb⟩
  · rw [if_neg hn]
    have hn : isName n = true := by simpa using hn
    cases e : fget d.files n with
    | none =>
      refine (rtrim_none hR hL hl n z hn hnl e).mono ?_
      rintro e w' ⟨rfl, hb⟩
      exact ⟨_, rfl, same hb, hb⟩
    | some s =>
      by_cases hz : z < 0 ∨ (s.length : Int) < z
      · simp only [hz, if_true]
        by_cases h0 : z < 0
        · refine (rtrim_low hR hL hl n z hn hnl e h0).mono ?_
          rintro e w' ⟨rfl, hb⟩
          exact ⟨_, rfl, same hb, hb⟩
        · refine (rtrim_high hR hL hl n z hn hnl e (by omega) (hz.elim (fun q => absurd q h0) id)).mono ?_
          rintro e w' ⟨rfl, hb⟩
          exact ⟨_, rfl, same hb, hb⟩
      · obtain ⟨q, rfl⟩ : ∃ q : Nat, z = (q : Int) := ⟨z.toNat, by omega⟩
        by_cases hdo : (dnext d).2.1 = true
        · simp only [hz, hdo, if_true, if_false, Int.toNat_natCast]
          exact rtrim_done hS hR hL hl hk.rise n q hn hnl e (by omega) hk.after hw hdo
        · have hdo' : (dnext d).2.1 = false := by simpa using hdo
          simp only [hz, hdo', Bool.false_eq_true, if_false]
          refine (rtrim_off hR hL hl n q hn hnl e (by omega) (by omega) hk.after hw hdo').mono ?_
          rintro e w' ⟨rfl, hb⟩
          exact ⟨_, rfl, RVS.next hL hc hR hF hb, hb⟩

end
end Go.Proofs.Ytlhlipjbcapidaa
