/-
  What changes done to a tree make, as functions on lists: put together and sorted, and path by path, are the same. No program.
-/
import Derived.Test.YtofbphmdkhocdaaGreatYDeleteMg
import Derived.Test.YtofbphmdkhocdaaGreatM21
namespace Go.Proofs.YtofbphmdkhocdaaGreat
open Go.RowKit

/-- The entries that changes bring. -/
def brings (c : Chg) : Option En := if c.2.2 = 0 then none else some (c.1, c.2.2)
/-- What is kept, and what is brought. -/
def madeL (A : List En) (cs : List Chg) : List En := A.filter (fun e => !pdel cs e) ++ cs.filterMap brings
/-- What is at a path when all is done. -/
def newAt (A : List En) (cs : List Chg) (p : Bs) : UInt64 := match cs.find? (fun c => c.1 == p) with | some c => c.2.2 | none => blobOf A p
def keepAt (A : List En) (cs : List Chg) (p : Bs) : Option En := if newAt A cs p = 0 then none else some (p, newAt A cs p)
/-- The tree that is made, path by path. -/
def canon (A : List En) (cs : List Chg) : List En := (srt (cs.map (·.1) ++ A.map (·.1))).filterMap (keepAt A cs)
def NZ (A : List En) : Prop := ∀ e ∈ A, e.2 ≠ 0
def fapply (A : List En) (cs : List Chg) : List En × Int := if goodC A cs then (if ctree (canon A cs) = 0 then (canon A cs, 0) else ([], ctree (canon A cs))) else ([], 9)

theorem rise_ext : ∀ {a b : List En}, Rise a → Rise b → (∀ x, x ∈ a ↔ x ∈ b) → a = b
  | [], [], _, _, _ => rfl
  | [], y :: b, _, _, h => absurd ((h y).2 (List.mem_cons_self ..)) (by simp)
  | x :: a, [], _, _, h => absurd ((h x).1 (List.mem_cons_self ..)) (by simp)
  | x :: a, y :: b, ha, hb, h => by
    have hxy : x = y := by
      rcases List.mem_cons.1 ((h x).1 (List.mem_cons_self ..)) with e | e
      · exact e
      · rcases List.mem_cons.1 ((h y).2 (List.mem_cons_self ..)) with f | f
        · exact f.symm
        · exact absurd (hb.head x e) (bl_asymm (ha.head y f))
    subst hxy
    congr 1
    refine rise_ext ha.tail hb.tail (fun z => ?_)
    have hz := h z
    simp only [List.mem_cons] at hz
    constructor
    · intro q
      rcases hz.1 (.inr q) with e | e
      · subst e; exact absurd (ha.head z q) (bl_irrefl _)
      · exact e
    · intro q
      rcases hz.2 (.inr q) with e | e
      · subst e; exact absurd (hb.head z q) (bl_irrefl _)
      · exact e

theorem rise_of {ts : List En} (h : ts.Pairwise (fun a b => ¬ b.1 < a.1)) (hn : (ts.map (·.1)).Nodup) : Rise ts := by
  have h2 : ts.Pairwise (fun a b => a.1 ≠ b.1) := List.pairwise_map.1 hn
  refine (h.and h2).imp ?_
  rintro a b ⟨q1, q2⟩
  rcases bl_tri a.1 b.1 with k | k | k
  · exact k
  · exact absurd k q2
  · exact absurd k q1

theorem Rise.nodup {A : List En} (h : Rise A) : (A.map (·.1)).Nodup := List.pairwise_map.2 (h.imp (fun q e => by rw [e] at q; exact bl_irrefl _ q))

theorem good_nodup {A : List En} {cs : List Chg} (h : goodC A cs = true) : (cs.map (·.1)).Nodup := by
  unfold goodC at h
  rw [Bool.and_eq_true, decide_eq_true_iff] at h
  exact h.1

theorem brings_some {c : Chg} {e : En} (h : brings c = some e) : e = (c.1, c.2.2) ∧ c.2.2 ≠ 0 := by
  unfold brings at h
  split at h
  · cases h
  · rename_i q
    exact ⟨(Option.some.inj h).symm, q⟩

theorem made_nodup {A : List En} {cs : List Chg} (hg : goodC A cs = true) (hr : Rise A) : ((madeL A cs).map (·.1)).Nodup := by
  unfold madeL
  rw [List.map_append, List.nodup_append]
  refine ⟨?_, ?_, ?_⟩
  · exact Rise.nodup (List.Pairwise.sublist (List.filter_sublist) hr)
  · have h1 : (cs.filterMap brings).map (·.1) = (cs.filter (fun c => c.2.2 != 0)).map (·.1) := by
      induction cs with
      | nil => rfl
      | cons c t ih =>
        have iht : goodC A t = true → (t.filterMap brings).map (·.1) = (t.filter (fun c => c.2.2 != 0)).map (·.1) := fun h => ih h
        have hgt : goodC A t = true := by
          unfold goodC at hg ⊢
          simp only [List.map_cons, List.nodup_cons, List.all_cons, Bool.and_eq_true, decide_eq_true_eq] at hg ⊢
          exact ⟨hg.1.2, hg.2.2⟩
        by_cases q : c.2.2 = 0
        · simp [brings, q, iht hgt]
        · simp [brings, q, iht hgt]
    rw [h1]
    exact List.Nodup.sublist (List.Sublist.map _ (List.filter_sublist)) (good_nodup hg)
  · intro x hx y hy e
    obtain ⟨a, ha, rfl⟩ := List.mem_map.1 hx
    obtain ⟨b, hb, rfl⟩ := List.mem_map.1 hy
    obtain ⟨c, hc, hcb⟩ := List.mem_filterMap.1 hb
    have h1 := (brings_some hcb).1
    have h2 := (List.mem_filter.1 ha).2
    have h3 : pdel cs a = true := by
      unfold pdel
      rw [List.any_eq_true]
      refine ⟨c, hc, ?_⟩
      rw [h1] at e
      simpa using e.symm
    rw [h3] at h2
    cases h2

theorem find_nodup {cs : List Chg} (h : (cs.map (·.1)).Nodup) {c : Chg} (hc : c ∈ cs) : cs.find? (fun x => x.1 == c.1) = some c := by
  induction cs with
  | nil => cases hc
  | cons y t ih =>
    simp only [List.map_cons, List.nodup_cons] at h
    rcases List.mem_cons.1 hc with rfl | q
    · simp
    · have hne : (y.1 == c.1) = false := by
        rw [beq_eq_false_iff_ne]
        intro e
        exact h.1 (by rw [e]; exact List.mem_map.2 ⟨c, q, rfl⟩)
      rw [List.find?_cons, hne]
      exact ih h.2 q

theorem find_none {cs : List Chg} {p : Bs} (h : cs.any (fun c => c.1 == p) = false) : cs.find? (fun x => x.1 == p) = none := by
  rw [List.find?_eq_none]
  intro y hy q
  rw [List.any_eq_false] at h
  exact h y hy q

theorem made_mem {A : List En} {cs : List Chg} (hg : goodC A cs = true) (hr : Rise A) (hz : NZ A) (x : En) : x ∈ madeL A cs ↔ x ∈ canon A cs := by
  have hn := good_nodup hg
  unfold madeL canon
  rw [List.mem_append, List.mem_filter, List.mem_filterMap, List.mem_filterMap]
  constructor
  · rintro (⟨h1, h2⟩ | ⟨c, h1, h2⟩)
    · refine ⟨x.1, ?_, ?_⟩
      · rw [mem_srt, List.mem_append]
        exact .inr (List.mem_map.2 ⟨x, h1, rfl⟩)
      · have h3 : cs.any (fun c => c.1 == x.1) = false := by
          have : pdel cs x = false := by simpa using h2
          exact this
        have h4 : newAt A cs x.1 = x.2 := by
          unfold newAt
          rw [find_none h3]
          show blobOf A x.1 = x.2
          unfold blobOf
          rw [ffind_of_mem hr h1]
          rfl
        unfold keepAt
        rw [h4, if_neg (hz x h1)]
    · obtain ⟨e1, e2⟩ := brings_some h2
      refine ⟨c.1, ?_, ?_⟩
      · rw [mem_srt, List.mem_append]
        exact .inl (List.mem_map.2 ⟨c, h1, rfl⟩)
      · have h4 : newAt A cs c.1 = c.2.2 := by
          unfold newAt
          rw [find_nodup hn h1]
        unfold keepAt
        rw [h4, if_neg e2, e1]
  · rintro ⟨p, h1, h2⟩
    unfold keepAt at h2
    split at h2
    · cases h2
    · rename_i hnz
      have hx := (Option.some.inj h2).symm
      cases hf : cs.find? (fun c => c.1 == p) with
      | some c =>
        have hc := List.mem_of_find?_eq_some hf
        have hcp : c.1 = p := by simpa using List.find?_some hf
        have h4 : newAt A cs p = c.2.2 := by
          unfold newAt
          rw [hf]
        right
        refine ⟨c, hc, ?_⟩
        unfold brings
        rw [h4] at hnz hx
        rw [if_neg hnz, hx, hcp]
      | none =>
        have h4 : newAt A cs p = blobOf A p := by
          unfold newAt
          rw [hf]
        rw [h4] at hnz hx
        left
        unfold blobOf at hnz hx
        cases hff : ffind A p with
        | none => rw [hff] at hnz; exact absurd rfl hnz
        | some b =>
          rw [hff] at hx
          have hm := ffind_mem hff
          have hxe : x = (p, b) := hx
          rw [hxe]
          refine ⟨hm, ?_⟩
          have : pdel cs (p, b) = false := by
            unfold pdel
            rw [List.any_eq_false]
            intro c hc
            rw [List.find?_eq_none] at hf
            exact hf c hc
          rw [this]
          rfl

theorem canon_rise (A : List En) (cs : List Chg) : Rise (canon A cs) := by
  unfold canon Rise
  rw [List.pairwise_filterMap]
  refine (srt_rising _).imp ?_
  intro p q hpq a ha b hb
  unfold keepAt at ha hb
  split at ha
  · cases ha
  · split at hb
    · cases hb
    · rw [← Option.some.inj ha, ← Option.some.inj hb]
      exact hpq

/-- What is put together, sorted, is the tree that is made path by path. -/
theorem canon_eq {A : List En} {cs : List Chg} {ts : List En} (hg : goodC A cs = true) (hr : Rise A) (hz : NZ A) (hp : ts.Perm (madeL A cs)) (hs : ts.Pairwise (fun a b => ¬ b.1 < a.1)) : ts = canon A cs := by
  refine rise_ext (rise_of hs ?_) (canon_rise A cs) (fun x => ?_)
  · exact (hp.map (·.1)).nodup_iff.2 (made_nodup hg hr)
  · rw [hp.mem_iff]
    exact made_mem hg hr hz x

end Go.Proofs.YtofbphmdkhocdaaGreat
