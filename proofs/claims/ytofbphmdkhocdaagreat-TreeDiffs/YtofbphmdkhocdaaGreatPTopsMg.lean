/-
  Path sets as lists: those of some texts that are under no other one of them, whichever way they are found; what more paths below change: nothing. No program.
-/
import Derived.Test.YtofbphmdkhocdaaGreatM11
namespace Go.Proofs.YtofbphmdkhocdaaGreat
open Go.RowKit

theorem under_iff (x q : Bs) : under x q = true ↔ x = q ∨ ∃ u, x = q ++ 47 :: u := by
  simp only [under, Bool.or_eq_true, List.isPrefixOf_iff_prefix, beq_iff_eq]
  constructor
  · rintro (h | ⟨u, h⟩)
    · exact .inl h
    · exact .inr ⟨u, by rw [← h]; simp⟩
  · rintro (h | ⟨u, h⟩)
    · exact .inl h
    · exact .inr ⟨u, by rw [h]; simp⟩
theorem under_refl (x : Bs) : under x x = true := (under_iff x x).2 (.inl rfl)
theorem under_trans {x q k : Bs} (h : under x q = true) (h' : under q k = true) : under x k = true := by
  rw [under_iff] at h h' ⊢
  rcases h with rfl | ⟨u, rfl⟩
  · exact h'
  · rcases h' with rfl | ⟨v, rfl⟩
    · exact .inr ⟨u, rfl⟩
    · exact .inr ⟨v ++ 47 :: u, by simp⟩
theorem under_len {x q : Bs} (h : under x q = true) : q.length ≤ x.length := by
  rw [under_iff] at h
  rcases h with rfl | ⟨u, rfl⟩
  · exact Nat.le_refl _
  · simp
theorem under_anti {x q : Bs} (h : under x q = true) (h' : under q x = true) : x = q := by
  have l1 := under_len h'
  rw [under_iff] at h
  rcases h with rfl | ⟨u, rfl⟩
  · rfl
  · simp at l1
    omega
theorem lt_app : ∀ (q : Bs) (b : UInt8) (u : Bs), q < q ++ b :: u
  | [], b, u => by simp
  | a :: t, b, u => by
    rw [List.cons_append, List.cons_lt_cons_iff]
    exact .inr ⟨rfl, lt_app t b u⟩
theorem under_lt {x q : Bs} (h : under x q = true) (hne : q ≠ x) : q < x := by
  rw [under_iff] at h
  rcases h with rfl | ⟨u, rfl⟩
  · exact absurd rfl hne
  · exact lt_app q 47 u

/-- Is a text under no other one of a list? -/
def topB (ps : List Bs) (x : Bs) : Bool := !(ps.any fun q => q != x && under x q)
theorem topB_iff (ps : List Bs) (x : Bs) : topB ps x = true ↔ ∀ q ∈ ps, q ≠ x → under x q = false := by
  rw [topB, Bool.not_eq_true', List.any_eq_false]
  constructor
  · intro h q hq hne
    have := h q hq
    simp only [Bool.and_eq_true, bne_iff_ne, ne_eq, not_and, Bool.not_eq_true] at this
    exact this hne
  · intro h q hq
    simp only [Bool.and_eq_true, bne_iff_ne, ne_eq, not_and, Bool.not_eq_true]
    exact h q hq

theorem red_snoc (l : List Bs) (y : Bs) : red (l ++ [y]) = keep (red l) y := by
  rw [red, List.foldl_append]
  rfl
theorem snoc_ind {P : List Bs → Prop} (h0 : P []) (hs : ∀ l y, P l → P (l ++ [y])) : ∀ l, P l := by
  intro l
  rw [← List.reverse_reverse l]
  induction l.reverse with
  | nil => exact h0
  | cons y t ih =>
    rw [List.reverse_cons]
    exact hs _ y ih

theorem red_sub : ∀ (l : List Bs), ∀ x ∈ red l, x ∈ l := by
  refine snoc_ind (by simp [red]) ?_
  intro l y ih x hx
  rw [red_snoc, keep] at hx
  split at hx
  · exact List.mem_append_left _ (ih x hx)
  · rcases List.mem_append.1 hx with q | q
    · exact List.mem_append_left _ (ih x q)
    · exact List.mem_append_right _ q

/-- Each text is under one that is kept. -/
theorem red_cover : ∀ (l : List Bs), ∀ q ∈ l, ∃ k ∈ red l, under q k = true := by
  refine snoc_ind (by simp) ?_
  intro l y ih q hq
  rw [red_snoc, keep]
  split
  · rename_i h
    rcases List.mem_append.1 hq with m | m
    · exact ih q m
    · rw [List.mem_singleton] at m
      subst m
      obtain ⟨k, h1, h2⟩ := List.any_eq_true.1 h
      exact ⟨k, h1, h2⟩
  · rcases List.mem_append.1 hq with m | m
    · obtain ⟨k, h1, h2⟩ := ih q m
      exact ⟨k, List.mem_append_left _ h1, h2⟩
    · rw [List.mem_singleton] at m
      subst m
      exact ⟨q, List.mem_append_right _ (List.mem_singleton.2 rfl), under_refl q⟩

theorem red_rising : ∀ (l : List Bs), Rising l → Rising (red l) := by
  refine snoc_ind (by intro _; exact List.Pairwise.nil) ?_
  intro l y ih hr
  obtain ⟨h1, _, h3⟩ := List.pairwise_append.1 hr
  rw [red_snoc, keep]
  split
  · exact ih h1
  · refine List.pairwise_append.2 ⟨ih h1, by simp, ?_⟩
    intro a ha b hb
    exact h3 a (red_sub l a ha) b hb

/-- Of a rising list just those are kept that are under no other one. -/
theorem mem_red : ∀ (l : List Bs), Rising l → ∀ x, x ∈ red l ↔ x ∈ l ∧ ∀ q ∈ l, q ≠ x → under x q = false := by
  refine snoc_ind (by intro _; simp [red]) ?_
  intro l y ih hr x
  obtain ⟨h1, _, h3⟩ := List.pairwise_append.1 hr
  have ih := ih h1
  have hlt : ∀ a ∈ l, a < y := fun a ha => h3 a ha y (List.mem_singleton.2 rfl)
  have below : ∀ a ∈ l, under a y = false := by
    intro a ha
    rw [Bool.eq_false_iff]
    intro q
    have hne : y ≠ a := by
      intro e
      subst e
      exact bl_irrefl y (hlt y ha)
    exact bl_asymm (hlt a ha) (under_lt q hne)
  rw [red_snoc, keep]
  by_cases h : (red l).any (under y) = true
  · rw [if_pos h, ih x]
    obtain ⟨k, k1, k2⟩ := List.any_eq_true.1 h
    constructor
    · rintro ⟨m, hall⟩
      refine ⟨List.mem_append_left _ m, ?_⟩
      intro q hq hne
      rcases List.mem_append.1 hq with hq | hq
      · exact hall q hq hne
      · rw [List.mem_singleton] at hq
        subst hq
        exact below x m
    · rintro ⟨m, hall⟩
      rcases List.mem_append.1 m with m | m
      · exact ⟨m, fun q hq hne => hall q (List.mem_append_left _ hq) hne⟩
      · rw [List.mem_singleton] at m
        subst m
        have hk := red_sub l k k1
        have hne : k ≠ x := by
          intro e
          subst e
          exact bl_irrefl k (hlt k hk)
        have := hall k (List.mem_append_left _ hk) hne
        rw [k2] at this
        cases this
  · rw [if_neg h]
    have hno : ∀ k ∈ red l, under y k = false := by
      intro k hk
      rw [Bool.eq_false_iff]
      intro q
      exact h (List.any_eq_true.2 ⟨k, hk, q⟩)
    constructor
    · intro m
      rcases List.mem_append.1 m with m | m
      · obtain ⟨m1, m2⟩ := (ih x).1 m
        refine ⟨List.mem_append_left _ m1, ?_⟩
        intro q hq hne
        rcases List.mem_append.1 hq with hq | hq
        · exact m2 q hq hne
        · rw [List.mem_singleton] at hq
          subst hq
          exact below x m1
      · rw [List.mem_singleton] at m
        subst m
        refine ⟨List.mem_append_right _ (List.mem_singleton.2 rfl), ?_⟩
        intro q hq hne
        rcases List.mem_append.1 hq with hq | hq
        · rw [Bool.eq_false_iff]
          intro hu
          obtain ⟨k, k1, k2⟩ := red_cover l q hq
          have := hno k k1
          rw [under_trans hu k2] at this
          cases this
        · rw [List.mem_singleton] at hq
          exact absurd hq hne
    · rintro ⟨m, hall⟩
      rcases List.mem_append.1 m with m | m
      · exact List.mem_append_left _ ((ih x).2 ⟨m, fun q hq hne => hall q (List.mem_append_left _ hq) hne⟩)
      · exact List.mem_append_right _ m

theorem mem_tops (ps : List Bs) (x : Bs) : x ∈ red (srt ps) ↔ x ∈ ps ∧ ∀ q ∈ ps, q ≠ x → under x q = false := by
  rw [mem_red _ (srt_rising ps), mem_srt]
  constructor
  · rintro ⟨h, k⟩
    exact ⟨h, fun q hq => k q ((mem_srt ps q).2 hq)⟩
  · rintro ⟨h, k⟩
    exact ⟨h, fun q hq => k q ((mem_srt ps q).1 hq)⟩

/-- The document's way: each text that is under no other one, into a rising list. -/
theorem tops_filter (ps : List Bs) : srt (ps.filter (topB ps)) = red (srt ps) := by
  refine rising_ext (srt_rising _) (red_rising _ (srt_rising ps)) ?_
  intro x
  rw [mem_srt, List.mem_filter, mem_tops, topB_iff]

theorem tops_same {ps qs : List Bs} (h : ∀ x, x ∈ ps ↔ x ∈ qs) : red (srt ps) = red (srt qs) := by
  refine rising_ext (red_rising _ (srt_rising ps)) (red_rising _ (srt_rising qs)) ?_
  intro x
  rw [mem_tops, mem_tops, h x]
  constructor
  · rintro ⟨a, b⟩
    exact ⟨a, fun q hq => b q ((h q).2 hq)⟩
  · rintro ⟨a, b⟩
    exact ⟨a, fun q hq => b q ((h q).1 hq)⟩

theorem tops_again (ps : List Bs) : red (srt (red (srt ps))) = red (srt ps) := by
  refine rising_ext (red_rising _ (srt_rising _)) (red_rising _ (srt_rising ps)) ?_
  intro x
  rw [mem_tops]
  constructor
  · exact fun h => h.1
  · intro h
    refine ⟨h, fun q hq hne => ?_⟩
    exact ((mem_tops ps x).1 h).2 q ((mem_tops ps q).1 hq).1 hne

/-- One text more that is under one of the set's changes nothing. -/
theorem tops_more (ps : List Bs) (m k : Bs) (hk : k ∈ red (srt ps)) (hm : under m k = true) : red (srt (ps ++ [m])) = red (srt ps) := by
  refine rising_ext (red_rising _ (srt_rising _)) (red_rising _ (srt_rising ps)) ?_
  intro x
  obtain ⟨k1, k2⟩ := (mem_tops ps k).1 hk
  rw [mem_tops, mem_tops]
  constructor
  · rintro ⟨a, b⟩
    have b' : ∀ q ∈ ps, q ≠ x → under x q = false := fun q hq => b q (List.mem_append_left _ hq)
    rcases List.mem_append.1 a with a | a
    · exact ⟨a, b'⟩
    · rw [List.mem_singleton] at a
      subst a
      refine ⟨?_, b'⟩
      by_cases e : k = x
      · exact e ▸ k1
      · have := b' k k1 e
        rw [hm] at this
        cases this
  · rintro ⟨a, b⟩
    refine ⟨List.mem_append_left _ a, ?_⟩
    intro q hq hne
    rcases List.mem_append.1 hq with hq | hq
    · exact b q hq hne
    · rw [List.mem_singleton] at hq
      subst hq
      rw [Bool.eq_false_iff]
      intro hu
      by_cases e : k = x
      · subst e
        exact hne (under_anti hm hu)
      · have := b k k1 e
        rw [under_trans hu hm] at this
        cases this

end Go.Proofs.YtofbphmdkhocdaaGreat
