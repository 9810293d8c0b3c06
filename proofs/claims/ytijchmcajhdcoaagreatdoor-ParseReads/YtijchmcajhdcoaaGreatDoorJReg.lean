import Derived.Test.YtijchmcajhdcoaaGreatDoorRows
import Derived.Calls
import Derived.Test.YtijchmcajhdcoaaGreatDoorJCl
import Derived.Test.YtijchmcajhdcoaaGreatDoorBRPiv
/-!
  A frame that differs from another in some slots alone. No program; no condition.
-/
namespace Go.Proofs.YtijchmcajhdcoaaGreatDoor

/-- The second frame is the first but for some slots. -/
structure Upd (L : List Nat) (a b : Act) : Prop where
  defers : b.defers = a.defers
  size : b.tmps.size = a.tmps.size
  same : ∀ i, i ∉ L → b.tmps[i]? = a.tmps[i]?
theorem Upd.refl (L : List Nat) (a : Act) : Upd L a a := ⟨rfl, rfl, fun _ _ => rfl⟩
theorem Upd.put {L : List Nat} {a b : Act} (h : Upd L a b) {d : Nat} (hd : d ∈ L) (v : Value) : Upd L a (b.put (some d) v) := by
  refine ⟨h.defers, ?_, fun i hi => ?_⟩
  · simp only [Act.put, Array.size_setIfInBounds]
    exact h.size
  · have : d ≠ i := fun e => hi (e ▸ hd)
    simp only [Act.put]
    rw [Array.getElem?_setIfInBounds_ne this]
    exact h.same i hi
theorem put_at {a : Act} {d : Nat} (h : d < a.tmps.size) (v : Value) : (a.put (some d) v).tmps[d]? = some v := by
  simp only [Act.put]
  exact Array.getElem?_setIfInBounds_self_of_lt h
theorem put_ne {a : Act} {d i : Nat} {u : Value} (v : Value) (h : d ≠ i) (hu : a.tmps[i]? = some u) : (a.put (some d) v).tmps[i]? = some u := by
  simp only [Act.put]
  rw [Array.getElem?_setIfInBounds_ne h]
  exact hu
theorem put_size {a : Act} {d n : Nat} (v : Value) (h : a.tmps.size = n) : (a.put (some d) v).tmps.size = n := by
  simp only [Act.put, Array.size_setIfInBounds]
  exact h
theorem eval_of {a : Act} {d : Nat} {v : Value} (h : a.tmps[d]? = some v) : a.eval (.tmp d) = v := by
  simp only [Act.eval, Array.getD_eq_getD_getElem?, h, Option.getD_some]
theorem get_of {a : Act} {d : Nat} {v : Value} (h : a.tmps[d]? = some v) : ∀ hd : d < a.tmps.size, a.tmps[d]'hd = v := by
  intro hd
  rw [Array.getElem?_eq_getElem hd] at h
  exact Option.some.inj h
/-- The last slot, whose value is known. -/
theorem Upd.last {d : Nat} {a b : Act} {v : Value} (h : Upd [d] a b) (hv : b.tmps[d]? = some v) : b = a.put (some d) v := by
  have hb : d < b.tmps.size := (Array.getElem?_eq_some_iff.1 hv).1
  have ha : d < a.tmps.size := by rw [← h.size]; exact hb
  obtain ⟨h1, h2, h3⟩ := h
  cases a
  cases b
  simp only at h1 h2 h3 hv ha
  subst h1
  simp only [Act.put]
  congr 1
  refine Array.ext_getElem? fun i => ?_
  by_cases e : d = i
  · subst e
    rw [hv, Array.getElem?_setIfInBounds_self_of_lt ha]
  · rw [Array.getElem?_setIfInBounds_ne e]
    exact h3 i (by simp only [List.mem_singleton]; exact fun q => e q.symm)
/-- A slot less. -/
theorem Upd.one {d : Nat} {L : List Nat} {a b : Act} (h : Upd (d :: L) a b) : ∃ u, Upd L (a.put (some d) u) b := by
  by_cases hd : d < a.tmps.size
  · have hb : d < b.tmps.size := by rw [h.size]; exact hd
    refine ⟨b.tmps[d], h.defers, ?_, fun i hi => ?_⟩
    · simp only [Act.put, Array.size_setIfInBounds]
      exact h.size
    · by_cases e : d = i
      · subst e
        rw [put_at hd]
        exact Array.getElem?_eq_getElem hb
      · simp only [Act.put]
        rw [Array.getElem?_setIfInBounds_ne e]
        exact h.same i (by simp only [List.mem_cons, not_or]; exact ⟨fun q => e q.symm, hi⟩)
  · refine ⟨undef, h.defers, ?_, fun i hi => ?_⟩
    · simp only [Act.put, Array.size_setIfInBounds]
      exact h.size
    · by_cases e : d = i
      · subst e
        simp only [Act.put]
        rw [Array.getElem?_eq_none (by rw [h.size]; omega), Array.getElem?_eq_none (by rw [Array.size_setIfInBounds]; omega)]
      · simp only [Act.put]
        rw [Array.getElem?_setIfInBounds_ne e]
        exact h.same i (by simp only [List.mem_cons, not_or]; exact ⟨fun q => e q.symm, hi⟩)
theorem Upd.nil {a b : Act} (h : Upd [] a b) : b = a := by
  obtain ⟨h1, h2, h3⟩ := h
  cases a
  cases b
  simp only at h1 h2 h3
  subst h1
  congr 1
  exact Array.ext_getElem? fun i => h3 i (by simp)

/-- One slot has been put. -/
structure Stp (a b : Act) (d : Nat) (v : Value) : Prop where
  size : b.tmps.size = a.tmps.size
  at_ : b.tmps[d]? = some v
  ne : ∀ {i : Nat} {u : Value}, d ≠ i → a.tmps[i]? = some u → b.tmps[i]? = some u
  upd : ∀ {L : List Nat} {A : Act}, d ∈ L → Upd L A a → Upd L A b
theorem Stp.of {a : Act} {d : Nat} {v : Value} (h : d < a.tmps.size) : Stp a (a.put (some d) v) d v := ⟨put_size v rfl, put_at h v, fun hn hu => put_ne v hn hu, fun hd hu => hu.put hd v⟩

section
variable {P : Program} {ops : Array Oper} {Q : Exit → Act → World → Prop} {S : World → Prop}
/-- The frame behind a step by a letter. -/
theorem any_put {md : Region.Mode} {fuel : Nat} {listed : Array Bool} {a : Act} {d : Nat} {v : Value} {w : World} (hd : d < a.tmps.size) (h : ∀ b, Stp a b d v → wpAnyH P md ops Q S fuel listed b w) : wpAnyH P md ops Q S fuel listed (a.put (some d) v) w := h _ (Stp.of hd)
theorem wp_put {c : Code} {a : Act} {d : Nat} {v : Value} {w : World} (hd : d < a.tmps.size) (h : ∀ b, Stp a b d v → Code.wp P c Q b w) : Code.wp P c Q (a.put (some d) v) w := h _ (Stp.of hd)
/-- A frame by a letter. -/
theorem wp_name {c : Code} {a : Act} {w : World} (h : ∀ A, A = a → Code.wp P c Q A w) : Code.wp P c Q a w := h a rfl
/-- What a piece of code does to the frame is in some slots alone. -/
theorem wp_upd {c : Code} {A : Act} {w : World} (L : List Nat) (R : World → Prop) (h1 : Code.wp P c (fun e b u => e = .normal ∧ Upd L A b ∧ R u) A w) (h2 : ∀ b u, Upd L A b → R u → Q .normal b u) : Code.wp P c Q A w := by
  refine Code.wp_mono ?_ h1
  rintro e b u ⟨rfl, hb, hr⟩
  exact h2 b u hb hr
end

end Go.Proofs.YtijchmcajhdcoaaGreatDoor

/-!
  Pieces of the reference's Parse: its regions by their numbers. No condition.
-/
namespace Go.Proofs.YtijchmcajhdcoaaGreatDoor
open Go.RowKit

/-- The code of a region. -/
def regionOf (n : Nat) : Code → Option Code
  | .region i ops d => if i = n then some (.region i ops d) else none
  | .seq a b => match regionOf n a with
    | some c => some c
    | none => regionOf n b
  | .cond _ a b => match regionOf n a with
    | some c => some c
    | none => regionOf n b
  | .block _ c => regionOf n c
  | .loop c => regionOf n c
  | _ => none
/-- Another spelling of the code. -/
theorem wp_code {c c' : Code} {Q : Exit → Act → World → Prop} {a : Act} {w : World} (h : c = c') (k : Code.wp Tryz.prog c' Q a w) : Code.wp Tryz.prog c Q a w := h ▸ k
/-- A region of Parse. -/
noncomputable def prg (n : Nat) : Code := ((Tryz.f6.body.bind (regionOf n)).getD .skip)

end Go.Proofs.YtijchmcajhdcoaaGreatDoor
