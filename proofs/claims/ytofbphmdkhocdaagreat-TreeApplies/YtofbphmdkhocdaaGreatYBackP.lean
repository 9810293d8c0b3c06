/-
  What differs, done to the first tree, makes the second, and done the other way round the first, as functions on lists. No program.
-/
import Derived.Test.YtofbphmdkhocdaaGreatYApply
namespace Go.Proofs.YtofbphmdkhocdaaGreat
open Go.RowKit

/-- A tree without the blob 0. -/
def isTree (es : List En) : Bool := es.all (fun e => e.2 != 0) && decide (ctree es = 0)
/-- A change the other way round; all, from the last one on. -/
def flipC (c : Chg) : Chg := (c.1, c.2.2, c.2.1)
def backL (cs : List Chg) : List Chg := (cs.map flipC).reverse

theorem isTree_ok {es : List En} (h : isTree es = true) : NZ es ∧ ctree es = 0 ∧ Rise es ∧ es.length ≤ 64 ∧ Fine es ∧ (es.all fun e => isPath e.1) = true := by
  unfold isTree at h
  rw [Bool.and_eq_true, decide_eq_true_iff, List.all_eq_true] at h
  obtain ⟨h1, h2, h3⟩ := ctree_ok h.2
  refine ⟨fun e he => by simpa using h.1 e he, h.2, h3.rise, h1, ?_, h2⟩
  intro e he
  rw [List.all_eq_true] at h2
  have := path_short (h2 e he)
  omega

theorem blob_mem {B : List En} (hr : Rise B) (hz : NZ B) (x : En) : x ∈ B ↔ blobOf B x.1 = x.2 ∧ x.2 ≠ 0 := by
  constructor
  · intro h
    refine ⟨?_, hz x h⟩
    unfold blobOf
    rw [ffind_of_mem hr h]
    rfl
  · rintro ⟨h, h0⟩
    unfold blobOf at h
    cases hf : ffind B x.1 with
    | none => rw [hf] at h; exact absurd h.symm h0
    | some y =>
      rw [hf] at h
      have e : y = x.2 := h
      have := ffind_mem hf
      rw [e] at this
      exact this

theorem blob_zero {B : List En} {p : Bs} (h : p ∉ B.map (·.1)) : blobOf B p = 0 := by
  unfold blobOf
  rw [ffind_none (fun e he q => h (List.mem_map.2 ⟨e, he, q⟩))]
  rfl

theorem newAt_of {A B : List En} {cs : List Chg} (h1 : ∀ c ∈ cs, c.2.2 = blobOf B c.1) (h2 : ∀ p, blobOf A p ≠ blobOf B p → ∃ c ∈ cs, c.1 = p) (p : Bs) : newAt A cs p = blobOf B p := by
  unfold newAt
  cases hf : cs.find? (fun c => c.1 == p) with
  | some c =>
    have hm := List.mem_of_find?_eq_some hf
    have hp : c.1 = p := by simpa using List.find?_some hf
    show c.2.2 = _
    rw [h1 c hm, hp]
  | none =>
    show blobOf A p = blobOf B p
    by_cases q : blobOf A p = blobOf B p
    · exact q
    · obtain ⟨c, hc, hcp⟩ := h2 p q
      have := List.find?_eq_none.1 hf c hc
      simp [hcp] at this

theorem newAt_mem {A : List En} {cs : List Chg} {p : Bs} (h : newAt A cs p ≠ 0) : p ∈ cs.map (·.1) ++ A.map (·.1) := by
  unfold newAt at h
  rw [List.mem_append]
  cases hf : cs.find? (fun c => c.1 == p) with
  | some c =>
    have hm := List.mem_of_find?_eq_some hf
    have hp : c.1 = p := by simpa using List.find?_some hf
    exact .inl (List.mem_map.2 ⟨c, hm, hp⟩)
  | none =>
    rw [hf] at h
    by_cases q : p ∈ A.map (·.1)
    · exact .inr q
    · exact absurd (blob_zero q) h

theorem canon_of {A B : List En} {cs : List Chg} (hr : Rise B) (hz : NZ B) (h : ∀ p, newAt A cs p = blobOf B p) : canon A cs = B := by
  refine rise_ext (canon_rise A cs) hr (fun x => ?_)
  rw [blob_mem hr hz]
  unfold canon
  rw [List.mem_filterMap]
  constructor
  · rintro ⟨p, _, hk⟩
    unfold keepAt at hk
    split at hk
    · cases hk
    · rename_i q
      obtain rfl := Option.some.inj hk
      rw [h] at q ⊢
      exact ⟨rfl, q⟩
  · rintro ⟨h1, h2⟩
    have hn : newAt A cs x.1 = x.2 := by rw [h]; exact h1
    refine ⟨x.1, ?_, ?_⟩
    · rw [mem_srt]
      exact newAt_mem (by rw [hn]; exact h2)
    · unfold keepAt
      rw [hn, if_neg h2]

theorem apply_of {A B : List En} {cs : List Chg} (hr : Rise B) (hz : NZ B) (ht : ctree B = 0) (hn : (cs.map (·.1)).Nodup) (h0 : ∀ c ∈ cs, c.2.1 = blobOf A c.1) (h1 : ∀ c ∈ cs, c.2.2 = blobOf B c.1) (h2 : ∀ p, blobOf A p ≠ blobOf B p → ∃ c ∈ cs, c.1 = p) : fapply A cs = (B, 0) := by
  have hg : goodC A cs = true := by
    unfold goodC
    rw [Bool.and_eq_true, decide_eq_true_iff, List.all_eq_true]
    exact ⟨hn, fun c hc => by rw [h0 c hc]; simp⟩
  unfold fapply
  rw [canon_of hr hz (newAt_of h1 h2), hg, ht]
  rfl

theorem path_of {es : List En} (h : (es.all fun e => isPath e.1) = true) {p : Bs} (hp : p ∈ es.map (·.1)) : isPath p = true := by
  obtain ⟨e, he, rfl⟩ := List.mem_map.1 hp
  exact List.all_eq_true.1 h e he

theorem fdiff_mem {g : Bs → Bool} {A B : List En} {c : Chg} (h : c ∈ fdiff g A B) : c.2.1 = blobOf A c.1 ∧ c.2.2 = blobOf B c.1 ∧ (c.1 ∈ A.map (·.1) ∨ c.1 ∈ B.map (·.1)) := by
  unfold fdiff at h
  obtain ⟨p, hp, rfl⟩ := List.mem_map.1 (List.mem_filter.1 h).1
  rw [bothP, mem_srt, List.mem_append] at hp
  exact ⟨rfl, rfl, hp⟩

theorem fdiff_has {A B : List En} (pA : (A.all fun e => isPath e.1) = true) (pB : (B.all fun e => isPath e.1) = true) {p : Bs} (h : blobOf A p ≠ blobOf B p) : ∃ c ∈ fdiff (hasS []) A B, c.1 = p := by
  have hm : p ∈ A.map (·.1) ++ B.map (·.1) := by
    by_cases q : p ∈ A.map (·.1) ++ B.map (·.1)
    · exact q
    · rw [List.mem_append] at q
      exact absurd (by rw [blob_zero (fun k => q (.inl k)), blob_zero (fun k => q (.inr k))]) h
  have hp : isPath p = true := by
    rcases List.mem_append.1 hm with q | q
    · exact path_of pA q
    · exact path_of pB q
  refine ⟨(p, blobOf A p, blobOf B p), ?_, rfl⟩
  unfold fdiff
  refine List.mem_filter.2 ⟨List.mem_map.2 ⟨p, by rw [bothP, mem_srt]; exact hm, rfl⟩, ?_⟩
  simp only [hasS, hp, Bool.and_eq_true, bne_iff_ne, ne_eq]
  exact ⟨h, by simp⟩

theorem fdiff_nodup (g : Bs → Bool) (A B : List En) : ((fdiff g A B).map (·.1)).Nodup := by
  unfold fdiff
  have h : (bothP A B).Nodup := (srt_rising _).imp (fun q e => by rw [e] at q; exact bl_irrefl _ q)
  have h2 : (((bothP A B).map (fun p => (p, blobOf A p, blobOf B p))).map (·.1)).Nodup := by
    rw [List.map_map]
    simpa [Function.comp_def] using h
  exact List.Nodup.sublist (List.Sublist.map _ List.filter_sublist) h2

theorem fdiff_len (g : Bs → Bool) (A B : List En) : (fdiff g A B).length ≤ A.length + B.length := by
  unfold fdiff
  refine Nat.le_trans (List.length_filter_le _ _) ?_
  rw [List.length_map]
  have := srt_len (A.map (·.1) ++ B.map (·.1))
  rw [List.length_append, List.length_map, List.length_map] at this
  exact this

theorem back_mem {cs : List Chg} {c : Chg} : c ∈ backL cs ↔ flipC c ∈ cs := by
  unfold backL
  rw [List.mem_reverse, List.mem_map]
  constructor
  · rintro ⟨x, hx, rfl⟩
    exact hx
  · intro h
    exact ⟨flipC c, h, rfl⟩

theorem back_nodup {cs : List Chg} (h : (cs.map (·.1)).Nodup) : ((backL cs).map (·.1)).Nodup := by
  unfold backL
  rw [List.map_reverse, List.map_map]
  refine (List.reverse_perm _).nodup_iff.2 ?_
  exact h

/-- Done to the first tree. -/
theorem there {A B : List En} (hA : isTree A = true) (hB : isTree B = true) : fapply A (fdiff (hasS []) A B) = (B, 0) := by
  obtain ⟨_, _, _, _, _, pA⟩ := isTree_ok hA
  obtain ⟨zB, tB, rB, _, _, pB⟩ := isTree_ok hB
  exact apply_of rB zB tB (fdiff_nodup _ _ _) (fun c hc => (fdiff_mem hc).1) (fun c hc => (fdiff_mem hc).2.1) (fun p hp => fdiff_has pA pB hp)

/-- And the other way round to the second. -/
theorem andBack {A B : List En} (hA : isTree A = true) (hB : isTree B = true) : fapply B (backL (fdiff (hasS []) A B)) = (A, 0) := by
  obtain ⟨zA, tA, rA, _, _, pA⟩ := isTree_ok hA
  obtain ⟨_, _, _, _, _, pB⟩ := isTree_ok hB
  refine apply_of rA zA tA (back_nodup (fdiff_nodup _ _ _)) (fun c hc => ?_) (fun c hc => ?_) (fun p hp => ?_)
  · exact (fdiff_mem (back_mem.1 hc)).2.1
  · exact (fdiff_mem (back_mem.1 hc)).1
  · obtain ⟨c, hc, hcp⟩ := fdiff_has pA pB (fun e => hp e.symm)
    exact ⟨flipC c, back_mem.2 hc, hcp⟩

theorem fdiff_fine {A B : List En} (g : Bs → Bool) (fA : Fine A) (fB : Fine B) : FineC (fdiff g A B) := by
  intro c hc
  rcases (fdiff_mem hc).2.2 with q | q
  · obtain ⟨e, he, hec⟩ := List.mem_map.1 q
    rw [← hec]; exact fA e he
  · obtain ⟨e, he, hec⟩ := List.mem_map.1 q
    rw [← hec]; exact fB e he
theorem back_fine {cs : List Chg} (h : FineC cs) : FineC (backL cs) := fun c hc => h (flipC c) (back_mem.1 hc)
theorem back_len (cs : List Chg) : (backL cs).length = cs.length := by unfold backL; simp

/-- One more from the end. -/
theorem back_step {cs : List Chg} {r : Nat} {c : Chg} (h : cs[r]? = some c) : backL (cs.drop r) = backL (cs.drop (r + 1)) ++ [flipC c] := by
  obtain ⟨hr, e⟩ := List.getElem?_eq_some_iff.1 h
  rw [List.drop_eq_getElem_cons hr, e]
  unfold backL
  rw [List.map_cons, List.reverse_cons]

end Go.Proofs.YtofbphmdkhocdaaGreat
