/-
  Several texts, laid together.
-/
import Derived.Test.YtofbphmdkhocdaaGreatYApplyMg
import Derived.Test.YtofbphmdkhocdaaGreatM18

/-
  What differs, done to the first tree, makes the second, and done the other way round the first, as functions on lists. No program.
-/
namespace Go.Proofs.YtofbphmdkhocdaaGreat
open Go.RowKit

/-- A tree without the blob 0. -/
def isTree (es : List En) : Bool := es.all (fun e => e.2 != 0) && decide (ctree es = 0)
/-- A change the other way round; all, from the last one on. -/
def flipC (c : Chg) : Chg := (c.1, c.2.2, c.2.1)
def backL (cs : List Chg) : List Chg := (cs.map flipC).reverse

theorem isTree_ok {es : List En} (h : isTree es = true) : NZ es ∧ ctree es = 0 ∧ Rise es ∧ es.length ≤ 64 ∧ Fine es ∧ (es.all fun e => isPath e.1) = true := by
  unfold isTree at h
  rw [Bool.and_eq_true, decide_eq_true_iff, List.all_eq_true] at h
  obtain ⟨h1, h2, h3⟩ := ctree_ok h.2
  refine ⟨fun e he => by simpa using h.1 e he, h.2, h3.rise, h1, ?_, h2⟩
  intro e he
  rw [List.all_eq_true] at h2
  have := path_short (h2 e he)
  omega

theorem blob_mem {B : List En} (hr : Rise B) (hz : NZ B) (x : En) : x ∈ B ↔ blobOf B x.1 = x.2 ∧ x.2 ≠ 0 := by
  constructor
  · intro h
    refine ⟨?_, hz x h⟩
    unfold blobOf
    rw [ffind_of_mem hr h]
    rfl
  · rintro ⟨h, h0⟩
    unfold blobOf at h
    cases hf : ffind B x.1 with
    | none => rw [hf] at h; exact absurd h.symm h0
    | some y =>
      rw [hf] at h
      have e : y = x.2 := h
      have := ffind_mem hf
      rw [e] at this
      exact this

theorem blob_zero {B : List En} {p : Bs} (h : p ∉ B.map (·.1)) : blobOf B p = 0 := by
  unfold blobOf
  rw [ffind_none (fun e he q => h (List.mem_map.2 ⟨e, he, q⟩))]
  rfl

theorem newAt_of {A B : List En} {cs : List Chg} (h1 : ∀ c ∈ cs, c.2.2 = blobOf B c.1) (h2 : ∀ p, blobOf A p ≠ blobOf B p → ∃ c ∈ cs, c.1 = p) (p : Bs) : newAt A cs p = blobOf B p := by
  unfold newAt
  cases hf : cs.find? (fun c => c.1 == p) with
  | some c =>
    have hm := List.mem_of_find?_eq_some hf
    have hp : c.1 = p := by simpa using List.find?_some hf
    show c.2.2 = _
    rw [h1 c hm, hp]
  | none =>
    show blobOf A p = blobOf B p
    by_cases q : blobOf A p = blobOf B p
    · exact q
    · obtain ⟨c, hc, hcp⟩ := h2 p q
      have := List.find?_eq_none.1 hf c hc
      simp [hcp] at this

theorem newAt_mem {A : List En} {cs : List Chg} {p : Bs} (h : newAt A cs p ≠ 0) : p ∈ cs.map (·.1) ++ A.map (·.1) := by
  unfold newAt at h
  rw [List.mem_append]
  cases hf : cs.find? (fun c => c.1 == p) with
  | some c =>
    have hm := List.mem_of_find?_eq_some hf
    have hp : c.1 = p := by simpa using List.find?_some hf
    exact .inl (List.mem_map.2 ⟨c, hm, hp⟩)
  | none =>
    rw [hf] at h
    by_cases q : p ∈ A.map (·.1)
    · exact .inr q
    · exact absurd (blob_zero q) h

theorem canon_of {A B : List En} {cs : List Chg} (hr : Rise B) (hz : NZ B) (h : ∀ p, newAt A cs p = blobOf B p) : canon A cs = B := by
  refine rise_ext (canon_rise A cs) hr (fun x => ?_)
  rw [blob_mem hr hz]
  unfold canon
  rw [List.mem_filterMap]
  constructor
  · rintro ⟨p, _, hk⟩
    unfold keepAt at hk
    split at hk
    · cases hk
    · rename_i q
      obtain rfl := Option.some.inj hk
      rw [h] at q ⊢
      exact ⟨rfl, q⟩
  · rintro ⟨h1, h2⟩
    have hn : newAt A cs x.1 = x.2 := by rw [h]; exact h1
    refine ⟨x.1, ?_, ?_⟩
    · rw [mem_srt]
      exact newAt_mem (by rw [hn]; exact h2)
    · unfold keepAt
      rw [hn, if_neg h2]

theorem apply_of {A B : List En} {cs : List Chg} (hr : Rise B) (hz : NZ B) (ht : ctree B = 0) (hn : (cs.map (·.1)).Nodup) (h0 : ∀ c ∈ cs, c.2.1 = blobOf A c.1) (h1 : ∀ c ∈ cs, c.2.2 = blobOf B c.1) (h2 : ∀ p, blobOf A p ≠ blobOf B p → ∃ c ∈ cs, c.1 = p) : fapply A cs = (B, 0) := by
  have hg : goodC A cs = true := by
    unfold goodC
    rw [Bool.and_eq_true, decide_eq_true_iff, List.all_eq_true]
    exact ⟨hn, fun c hc => by rw [h0 c hc]; simp⟩
  unfold fapply
  rw [canon_of hr hz (newAt_of h1 h2), hg, ht]
  rfl

theorem path_of {es : List En} (h : (es.all fun e => isPath e.1) = true) {p : Bs} (hp : p ∈ es.map (·.1)) : isPath p = true := by
  obtain ⟨e, he, rfl⟩ := List.mem_map.1 hp
  exact List.all_eq_true.1 h e he

theorem fdiff_mem {g : Bs → Bool} {A B : List En} {c : Chg} (h : c ∈ fdiff g A B) : c.2.1 = blobOf A c.1 ∧ c.2.2 = blobOf B c.1 ∧ (c.1 ∈ A.map (·.1) ∨ c.1 ∈ B.map (·.1)) := by
  unfold fdiff at h
  obtain ⟨p, hp, rfl⟩ := List.mem_map.1 (List.mem_filter.1 h).1
  rw [bothP, mem_srt, List.mem_append] at hp
  exact ⟨rfl, rfl, hp⟩

theorem fdiff_has {A B : List En} (pA : (A.all fun e => isPath e.1) = true) (pB : (B.all fun e => isPath e.1) = true) {p : Bs} (h : blobOf A p ≠ blobOf B p) : ∃ c ∈ fdiff (hasS []) A B, c.1 = p := by
  have hm : p ∈ A.map (·.1) ++ B.map (·.1) := by
    by_cases q : p ∈ A.map (·.1) ++ B.map (·.1)
    · exact q
    · rw [List.mem_append] at q
      exact absurd (by rw [blob_zero (fun k => q (.inl k)), blob_zero (fun k => q (.inr k))]) h
  have hp : isPath p = true := by
    rcases List.mem_append.1 hm with q | q
    · exact path_of pA q
    · exact path_of pB q
  refine ⟨(p, blobOf A p, blobOf B p), ?_, rfl⟩
  unfold fdiff
  refine List.mem_filter.2 ⟨List.mem_map.2 ⟨p, by rw [bothP, mem_srt]; exact hm, rfl⟩, ?_⟩
  simp only [hasS, hp, Bool.and_eq_true, bne_iff_ne, ne_eq]
  exact ⟨h, by simp⟩

theorem fdiff_nodup (g : Bs → Bool) (A B : List En) : ((fdiff g A B).map (·.1)).Nodup := by
  unfold fdiff
  have h : (bothP A B).Nodup := (srt_rising _).imp (fun q e => by rw [e] at q; exact bl_irrefl _ q)
  have h2 : (((bothP A B).map (fun p => (p, blobOf A p, blobOf B p))).map (·.1)).Nodup := by
    rw [List.map_map]
    simpa [Function.comp_def] using h
  exact List.Nodup.sublist (List.Sublist.map _ List.filter_sublist) h2

theorem fdiff_len (g : Bs → Bool) (A B : List En) : (fdiff g A B).length ≤ A.length + B.length := by
  unfold fdiff
  refine Nat.le_trans (List.length_filter_le _ _) ?_
  rw [List.length_map]
  have := srt_len (A.map (·.1) ++ B.map (·.1))
  rw [List.length_append, List.length_map, List.length_map] at this
  exact this

theorem back_mem {cs : List Chg} {c : Chg} : c ∈ backL cs ↔ flipC c ∈ cs := by
  unfold backL
  rw [List.mem_reverse, List.mem_map]
  constructor
  · rintro ⟨x, hx, rfl⟩
    exact hx
  · intro h
    exact ⟨flipC c, h, rfl⟩

theorem back_nodup {cs : List Chg} (h : (cs.map (·.1)).Nodup) : ((backL cs).map (·.1)).Nodup := by
  unfold backL
  rw [List.map_reverse, List.map_map]
  refine (List.reverse_perm _).nodup_iff.2 ?_
  exact h

/-- Done to the first tree. -/
theorem there {A B : List En} (hA : isTree A = true) (hB : isTree B = true) : fapply A (fdiff (hasS []) A B) = (B, 0) := by
  obtain ⟨_, _, _, _, _, pA⟩ := isTree_ok hA
  obtain ⟨zB, tB, rB, _, _, pB⟩ := isTree_ok hB
  exact apply_of rB zB tB (fdiff_nodup _ _ _) (fun c hc => (fdiff_mem hc).1) (fun c hc => (fdiff_mem hc).2.1) (fun p hp => fdiff_has pA pB hp)

/-- And the other way round to the second. -/
theorem andBack {A B : List En} (hA : isTree A = true) (hB : isTree B = true) : fapply B (backL (fdiff (hasS []) A B)) = (A, 0) := by
  obtain ⟨zA, tA, rA, _, _, pA⟩ := isTree_ok hA
  obtain ⟨_, _, _, _, _, pB⟩ := isTree_ok hB
  refine apply_of rA zA tA (back_nodup (fdiff_nodup _ _ _)) (fun c hc => ?_) (fun c hc => ?_) (fun p hp => ?_)
  · exact (fdiff_mem (back_mem.1 hc)).2.1
  · exact (fdiff_mem (back_mem.1 hc)).1
  · obtain ⟨c, hc, hcp⟩ := fdiff_has pA pB (fun e => hp e.symm)
    exact ⟨flipC c, back_mem.2 hc, hcp⟩

theorem fdiff_fine {A B : List En} (g : Bs → Bool) (fA : Fine A) (fB : Fine B) : FineC (fdiff g A B) := by
  intro c hc
  rcases (fdiff_mem hc).2.2 with q | q
  · obtain ⟨e, he, hec⟩ := List.mem_map.1 q
    rw [← hec]; exact fA e he
  · obtain ⟨e, he, hec⟩ := List.mem_map.1 q
    rw [← hec]; exact fB e he
theorem back_fine {cs : List Chg} (h : FineC cs) : FineC (backL cs) := fun c hc => h (flipC c) (back_mem.1 hc)
theorem back_len (cs : List Chg) : (backL cs).length = cs.length := by unfold backL; simp

/-- One more from the end. -/
theorem back_step {cs : List Chg} {r : Nat} {c : Chg} (h : cs[r]? = some c) : backL (cs.drop r) = backL (cs.drop (r + 1)) ++ [flipC c] := by
  obtain ⟨hr, e⟩ := List.getElem?_eq_some_iff.1 h
  rw [List.drop_eq_getElem_cons hr, e]
  unfold backL
  rw [List.map_cons, List.reverse_cons]

end Go.Proofs.YtofbphmdkhocdaaGreat

/-
  The files that are elsewhere, out of the changes, and out of the two trees themselves, are the same. No program.
-/
namespace Go.Proofs.YtofbphmdkhocdaaGreat
open Go.RowKit

/-- The paths of the first tree that are gone, of a blob. -/
def freeOf (A B : List En) (x : UInt64) : List Bs := (A.filter (fun e => (e.2 == x) && (blobOf B e.1 == 0))).map (·.1)
def isFree (out : List Mv) (p : Bs) : Bool := !(out.any (fun m => m.1 == p))
/-- One new file gone through. -/
def rs (A B : List En) (out : List Mv) (e : En) : List Mv := match (freeOf A B e.2).find? (isFree out) with | none => out | some p => out ++ [(p, e.1)]
def rstep (A B : List En) (out : List Mv) (e : En) : List Mv := if blobOf A e.1 = 0 then rs A B out e else out
def rmoves (A B : List En) : List Mv := B.foldl (rstep A B) []

theorem fdiff_paths (g : Bs → Bool) (A B : List En) : Rising ((fdiff g A B).map (·.1)) := by
  unfold fdiff
  have h : Rising (bothP A B) := srt_rising _
  have h2 : Rising (((bothP A B).map (fun p => (p, blobOf A p, blobOf B p))).map (·.1)) := by
    rw [List.map_map]
    simpa [Function.comp_def] using h
  exact List.Pairwise.sublist (List.Sublist.map _ List.filter_sublist) h2

theorem fdiff_iff {A B : List En} (pA : (A.all fun e => isPath e.1) = true) (pB : (B.all fun e => isPath e.1) = true) (c : Chg) : c ∈ fdiff (hasS []) A B ↔ c.2.1 = blobOf A c.1 ∧ c.2.2 = blobOf B c.1 ∧ c.2.1 ≠ c.2.2 := by
  constructor
  · intro h
    have h1 := fdiff_mem h
    refine ⟨h1.1, h1.2.1, ?_⟩
    unfold fdiff at h
    have := (List.mem_filter.1 h).2
    rw [Bool.and_eq_true] at this
    simpa using this.1
  · rintro ⟨h1, h2, h3⟩
    obtain ⟨d, hd, hp⟩ := fdiff_has pA pB (p := c.1) (by rw [← h1, ← h2]; exact h3)
    have h4 := fdiff_mem hd
    have : d = c := by
      refine Prod.ext hp (Prod.ext ?_ ?_)
      · rw [h4.1, hp, h1]
      · rw [h4.2.1, hp, h2]
    rw [← this]
    exact hd

theorem gone_free {A B : List En} (hA : isTree A = true) (hB : isTree B = true) {x : UInt64} (hx : x ≠ 0) : (goneL (fdiff (hasS []) A B) x).map (·.1) = freeOf A B x := by
  obtain ⟨zA, _, rA, _, _, pA⟩ := isTree_ok hA
  obtain ⟨zB, _, rB, _, _, pB⟩ := isTree_ok hB
  have rA' : Rising (A.map (·.1)) := List.pairwise_map.2 rA
  refine rising_ext ?_ ?_ ?_
  · exact List.Pairwise.sublist (List.Sublist.map _ List.filter_sublist) (fdiff_paths (hasS []) A B)
  · exact List.Pairwise.sublist (List.Sublist.map _ List.filter_sublist) rA'
  · intro p
    unfold goneL freeOf
    rw [List.mem_map, List.mem_map]
    constructor
    · rintro ⟨c, hc, rfl⟩
      obtain ⟨h1, h2⟩ := List.mem_filter.1 hc
      rw [fdiff_iff pA pB] at h1
      rw [Bool.and_eq_true, beq_iff_eq, beq_iff_eq] at h2
      refine ⟨(c.1, x), List.mem_filter.2 ⟨(blob_mem rA zA _).2 ⟨by rw [← h2.2, ← h1.1], hx⟩, ?_⟩, rfl⟩
      rw [← h1.2.1, h2.1]
      simp
    · rintro ⟨e, he, rfl⟩
      obtain ⟨h1, h2⟩ := List.mem_filter.1 he
      rw [Bool.and_eq_true, beq_iff_eq, beq_iff_eq] at h2
      rw [blob_mem rA zA] at h1
      refine ⟨(e.1, e.2, 0), List.mem_filter.2 ⟨(fdiff_iff pA pB _).2 ⟨h1.1.symm, h2.2.symm, h1.2⟩, ?_⟩, rfl⟩
      simp [h2.1]

theorem news_list {A B : List En} (hA : isTree A = true) (hB : isTree B = true) : ((fdiff (hasS []) A B).filter (fun c => c.2.1 == 0)).map (fun c => (c.1, c.2.2)) = B.filter (fun e => blobOf A e.1 == 0) := by
  obtain ⟨zA, _, rA, _, _, pA⟩ := isTree_ok hA
  obtain ⟨zB, _, rB, _, _, pB⟩ := isTree_ok hB
  refine rise_ext ?_ ?_ ?_
  · have h := fdiff_paths (hasS []) A B
    have h2 : (fdiff (hasS []) A B).Pairwise (fun a b => a.1 < b.1) := List.pairwise_map.1 h
    exact List.pairwise_map.2 (List.Pairwise.sublist List.filter_sublist h2)
  · exact List.Pairwise.sublist List.filter_sublist rB
  · intro e
    rw [List.mem_map]
    constructor
    · rintro ⟨c, hc, rfl⟩
      obtain ⟨h1, h2⟩ := List.mem_filter.1 hc
      rw [fdiff_iff pA pB] at h1
      rw [beq_iff_eq] at h2
      refine List.mem_filter.2 ⟨(blob_mem rB zB _).2 ⟨h1.2.1.symm, fun q => h1.2.2 ?_⟩, ?_⟩
      · have q' : c.2.2 = 0 := q
        rw [h2, q']
      · show (blobOf A c.1 == 0) = true
        rw [← h1.1, h2]
        rfl
    · intro h
      obtain ⟨h1, h2⟩ := List.mem_filter.1 h
      rw [beq_iff_eq] at h2
      rw [blob_mem rB zB] at h1
      refine ⟨(e.1, 0, e.2), List.mem_filter.2 ⟨(fdiff_iff pA pB _).2 ⟨h2.symm, h1.1.symm, fun q => h1.2 q.symm⟩, ?_⟩, rfl⟩
      simp

theorem find_filter_head {l : List Bs} {f : Bs → Bool} : l.find? f = (l.filter f).head? := (List.head?_filter ..).symm

/-- What the program holds free is what is gone and not taken. -/
def Free (A B : List En) (g : UInt64 → List Chg) (out : List Mv) : Prop := ∀ x, x ≠ 0 → (g x).map (·.1) = (freeOf A B x).filter (isFree out)

theorem isFree_snoc (out : List Mv) (m : Mv) (p : Bs) : isFree (out ++ [m]) p = (isFree out p && !(m.1 == p)) := by
  unfold isFree
  rw [List.any_append]
  simp

theorem free_nodup {A B : List En} (rA : Rise A) (x : UInt64) : (freeOf A B x).Nodup :=
  List.Nodup.sublist (List.Sublist.map _ List.filter_sublist) rA.nodup

theorem free_of {A B : List En} {x : UInt64} {p : Bs} (h : p ∈ freeOf A B x) : (p, x) ∈ A := by
  unfold freeOf at h
  obtain ⟨e, he, rfl⟩ := List.mem_map.1 h
  obtain ⟨h1, h2⟩ := List.mem_filter.1 he
  rw [Bool.and_eq_true, beq_iff_eq] at h2
  rw [← h2.1]
  exact h1

theorem Free.step {A B : List En} (rA : Rise A) {g : UInt64 → List Chg} {out : List Mv} (h : Free A B g out) {c : Chg} (h0 : c.2.1 = 0) (h2 : c.2.2 ≠ 0) :
    Free A B (mstep (g, out) c).1 (mstep (g, out) c).2 ∧ (mstep (g, out) c).2 = rs A B out (c.1, c.2.2) := by
  have hx := h c.2.2 h2
  unfold mstep rs
  rw [if_pos h0, find_filter_head]
  simp only
  rw [← hx]
  cases hg : g c.2.2 with
  | nil => exact ⟨h, rfl⟩
  | cons y t =>
    refine ⟨?_, rfl⟩
    rw [hg] at hx
    rw [List.map_cons] at hx
    intro x hx0
    have e1 : (freeOf A B x).filter (isFree (out ++ [(y.1, c.1)])) = ((freeOf A B x).filter (isFree out)).filter (fun p => !(y.1 == p)) := by
      rw [List.filter_filter]
      congr 1
      funext p
      rw [isFree_snoc, Bool.and_comm]
    show ((if x = c.2.2 then t else g x).map (·.1)) = _
    rw [e1]
    have hy : y.1 ∈ freeOf A B c.2.2 := by
      have : y.1 ∈ (freeOf A B c.2.2).filter (isFree out) := by rw [← hx]; exact List.mem_cons_self ..
      exact (List.mem_filter.1 this).1
    by_cases q : x = c.2.2
    · subst q
      rw [if_pos rfl, ← hx]
      have hn : (y.1 :: t.map (·.1)).Nodup := by rw [hx]; exact List.Nodup.sublist List.filter_sublist (free_nodup rA _)
      rw [List.filter_cons]
      simp only [beq_self_eq_true, Bool.not_true, Bool.false_eq_true, ↓reduceIte]
      rw [List.filter_eq_self.2]
      intro p hp
      have := (List.nodup_cons.1 hn).1
      simp only [Bool.not_eq_true', beq_eq_false_iff_ne, ne_eq]
      intro e
      rw [e] at this
      exact this hp
    · rw [if_neg q, h x hx0]
      refine (List.filter_eq_self.2 ?_).symm
      intro p hp
      simp only [Bool.not_eq_true', beq_eq_false_iff_ne, ne_eq]
      intro e
      have k1 := free_of (List.mem_filter.1 hp).1
      have k2 := free_of hy
      rw [e] at k2
      have k3 := ffind_of_mem rA k1
      have k4 := ffind_of_mem rA k2
      rw [k3] at k4
      exact q (Option.some.inj k4)

theorem Free.fold {A B : List En} (rA : Rise A) : ∀ (ds : List Chg) (g : UInt64 → List Chg) (out : List Mv), (∀ c ∈ ds, c.2.1 = 0 → c.2.2 ≠ 0) → Free A B g out → (ds.foldl mstep (g, out)).2 = ((ds.filter (fun c => c.2.1 == 0)).map (fun c => (c.1, c.2.2))).foldl (rs A B) out
  | [], _, _, _, _ => rfl
  | c :: ds, g, out, hd, h => by
    have hd' : ∀ c ∈ ds, c.2.1 = 0 → c.2.2 ≠ 0 := fun x hx => hd x (List.mem_cons_of_mem _ hx)
    rw [List.foldl_cons, List.filter_cons]
    by_cases h0 : c.2.1 = 0
    · obtain ⟨k1, k2⟩ := h.step rA h0 (hd c (List.mem_cons_self ..) h0)
      have := Free.fold rA ds _ _ hd' k1
      rw [show mstep (g, out) c = ((mstep (g, out) c).1, (mstep (g, out) c).2) from rfl, this, k2]
      simp [h0]
    · have : mstep (g, out) c = (g, out) := by unfold mstep; rw [if_neg h0]
      rw [this, Free.fold rA ds g out hd' h]
      simp [h0]

theorem rstep_fold (A B : List En) : ∀ (es : List En) (out : List Mv), es.foldl (rstep A B) out = (es.filter (fun e => blobOf A e.1 == 0)).foldl (rs A B) out
  | [], _ => rfl
  | e :: es, out => by
    rw [List.foldl_cons, List.filter_cons, rstep_fold A B es]
    unfold rstep
    by_cases h : blobOf A e.1 = 0
    · simp [h]
    · simp [h]

/-- The program's moves are the document's. -/
theorem moves_eq {A B : List En} (hA : isTree A = true) (hB : isTree B = true) : pmoves (fdiff (hasS []) A B) = rmoves A B := by
  obtain ⟨_, _, rA, _, _, pA⟩ := isTree_ok hA
  obtain ⟨_, _, _, _, _, pB⟩ := isTree_ok hB
  have hf : Free A B (goneL (fdiff (hasS []) A B)) [] := by
    intro x hx
    rw [gone_free hA hB hx, List.filter_eq_self.2]
    intro p _
    rfl
  unfold pmoves mgo
  rw [List.take_length, Free.fold rA _ _ _ (fun c hc h0 => ?_) hf, news_list hA hB]
  · unfold rmoves
    rw [rstep_fold]
  · intro q
    have := ((fdiff_iff pA pB c).1 hc).2.2
    rw [h0, q] at this
    exact this rfl

/-- The first that is free, out of the tree itself. -/
theorem find_free (A B : List En) (x : UInt64) (f : Bs → Bool) : (freeOf A B x).find? f = (A.find? (fun e => (e.2 == x) && ((blobOf B e.1 == 0) && f e.1))).map (·.1) := by
  unfold freeOf
  induction A with
  | nil => rfl
  | cons e t ih =>
    rw [List.filter_cons, List.find?_cons]
    by_cases h1 : (e.2 == x) = true
    · by_cases h2 : (blobOf B e.1 == 0) = true
      · simp only [h1, h2, Bool.and_self, ↓reduceIte, Bool.true_and, List.map_cons, List.find?_cons]
        by_cases h3 : f e.1 = true
        · simp [h3]
        · have h3' : f e.1 = false := by simpa using h3
          simp only [h3', ih]
      · have h2' : (blobOf B e.1 == 0) = false := by simpa using h2
        simp only [h1, h2', Bool.and_false, Bool.false_and, Bool.false_eq_true, ↓reduceIte, ih]
    · have h1' : (e.2 == x) = false := by simpa using h1
      simp only [h1', Bool.false_and, Bool.false_eq_true, ↓reduceIte, ih]

/-- The test of the inner loop. -/
def mtest (B : List En) (out : List Mv) (x : UInt64) (e : En) : Bool := (e.2 == x) && ((blobOf B e.1 == 0) && isFree out e.1)
theorem rs_find (A B : List En) (out : List Mv) (e : En) : rs A B out e = match A.find? (mtest B out e.2) with | none => out | some a => out ++ [(a.1, e.1)] := by
  unfold rs
  rw [find_free]
  have : (fun e_1 : En => (e_1.2 == e.2) && ((blobOf B e_1.1 == 0) && isFree out e_1.1)) = mtest B out e.2 := rfl
  rw [this]
  cases A.find? (mtest B out e.2) <;> rfl

theorem rmoves_len (A B : List En) : ∀ (es : List En) (out : List Mv), (es.foldl (rstep A B) out).length ≤ out.length + es.length
  | [], _ => Nat.le_refl _
  | e :: es, out => by
    rw [List.foldl_cons]
    have h := rmoves_len A B es (rstep A B out e)
    have h2 : (rstep A B out e).length ≤ out.length + 1 := by
      unfold rstep rs
      split
      · split
        · omega
        · simp
      · omega
    rw [List.length_cons]
    omega

end Go.Proofs.YtofbphmdkhocdaaGreat
