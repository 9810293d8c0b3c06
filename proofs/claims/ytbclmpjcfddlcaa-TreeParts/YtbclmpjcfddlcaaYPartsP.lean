/-
  Changes within a path set, and within two that it is cut into, as functions on lists. No program.
-/
import Derived.Test.YtbclmpjcfddlcaaYBackP
import Derived.Test.YtbclmpjcfddlcaaPAlike
namespace Go.Proofs.Ytbclmpjcfddlcaa
open Go.RowKit

/-- The paths of a path set. -/
def LimL (L : List Bs) : Prop := Rising L ∧ L.length ≤ 16 ∧ L.all isPath = true ∧ ∀ x ∈ L, ∀ q ∈ L, q ≠ x → under x q = false

theorem lim_is (ps : List Bs) : LimL (limS ps) := by
  refine ⟨?_, lim_le ps, lim_paths ps, ?_⟩
  · unfold limS
    split
    · exact List.Pairwise.nil
    · split
      · exact red_rising _ (srt_rising ps)
      · exact List.Pairwise.nil
  · unfold limS
    split
    · intro x hx; cases hx
    · split
      · intro x hx q hq hne
        exact ((mem_tops ps x).1 hx).2 q ((mem_tops ps q).1 hq).1 hne
      · intro x hx; cases hx

theorem LimL.sub {L L' : List Bs} (h : LimL L) (hs : L'.Sublist L) : LimL L' := by
  obtain ⟨h1, h2, h3, h4⟩ := h
  refine ⟨List.Pairwise.sublist hs h1, Nat.le_trans hs.length_le h2, ?_, fun x hx q hq => h4 x (hs.subset hx) q (hs.subset hq)⟩
  rw [List.all_eq_true] at h3 ⊢
  exact fun x hx => h3 x (hs.subset hx)

theorem LimL.own {L : List Bs} (h : LimL L) : limE L = 0 ∧ limS L = L := by
  obtain ⟨h1, h2, h3, h4⟩ := h
  have h16 : ¬ L.length > 16 := by omega
  refine ⟨by rw [limE, if_neg h16, h3]; rfl, ?_⟩
  have e : limS L = red (srt L) := by rw [limS, if_neg h16, h3]; rfl
  rw [e]
  refine rising_ext (red_rising _ (srt_rising L)) h1 (fun x => ?_)
  rw [mem_tops]
  exact ⟨fun k => k.1, fun k => ⟨k, h4 x k⟩⟩

theorem two_under {p d e : Bs} (h : under p d = true) (h' : under p e = true) : under d e = true ∨ under e d = true := by
  have hd := h
  have he := h'
  rw [under_iff] at h h'
  rcases h with rfl | ⟨u, rfl⟩
  · exact .inl he
  · rcases h' with h' | ⟨v, h'⟩
    · rw [h'] at hd
      exact .inr hd
    · rcases List.append_eq_append_iff.1 h' with ⟨a, h1, h2⟩ | ⟨a, h1, h2⟩
      · cases a with
        | nil => rw [List.append_nil] at h1; exact .inl (by rw [h1]; exact under_refl _)
        | cons x t =>
          have : x = 47 := by simpa using (List.cons.inj h2).1.symm
          subst this
          exact .inr ((under_iff _ _).2 (.inr ⟨t, h1⟩))
      · cases a with
        | nil => rw [List.append_nil] at h1; exact .inl (by rw [h1]; exact under_refl _)
        | cons x t =>
          have : x = 47 := by simpa using (List.cons.inj h2).1.symm
          subst this
          exact .inl ((under_iff _ _).2 (.inr ⟨t, h1⟩))

/-- A path set in two. -/
theorem LimL.two {L : List Bs} (h : LimL L) {k : Nat} (h0 : 0 < k) (h1 : k < L.length) (p : Bs) : hasS L p = (hasS (L.take k) p || hasS (L.drop k) p) ∧ (hasS (L.take k) p && hasS (L.drop k) p) = false := by
  have e0 : L.isEmpty = false := by cases L with | nil => simp at h1 | cons _ _ => rfl
  have e1 : (L.take k).isEmpty = false := by
    cases hh : (L.take k).isEmpty with
    | false => rfl
    | true => rw [List.isEmpty_iff] at hh; have := congrArg List.length hh; rw [List.length_take, List.length_nil] at this; omega
  have e2 : (L.drop k).isEmpty = false := by
    cases hh : (L.drop k).isEmpty with
    | false => rfl
    | true => rw [List.isEmpty_iff] at hh; have := congrArg List.length hh; rw [List.length_drop, List.length_nil] at this; omega
  have ea : L.any (under p) = ((L.take k).any (under p) || (L.drop k).any (under p)) := by
    rw [← List.any_append, List.take_append_drop]
  have dj : ((L.take k).any (under p) && (L.drop k).any (under p)) = false := by
    rw [Bool.eq_false_iff]
    intro q
    rw [Bool.and_eq_true, List.any_eq_true, List.any_eq_true] at q
    obtain ⟨⟨d, hd, ud⟩, e, he, ue⟩ := q
    have hr := h.1
    rw [← List.take_append_drop k L] at hr
    have hlt := (List.pairwise_append.1 hr).2.2 d hd e he
    have hne : d ≠ e := fun q => by rw [q] at hlt; exact bl_irrefl _ hlt
    have md := List.mem_of_mem_take hd
    have me := List.mem_of_mem_drop he
    rcases two_under ud ue with q | q
    · rw [h.2.2.2 d md e me (fun z => hne z.symm)] at q; cases q
    · rw [h.2.2.2 e me d md hne] at q; cases q
  unfold hasS
  rw [e0, e1, e2, ea]
  revert dj
  cases isPath p <;> cases (L.take k).any (under p) <;> cases (L.drop k).any (under p) <;> simp

theorem filter_two {α : Type} {f g h : α → Bool} : ∀ (X : List α), (∀ x, f x = (g x || h x)) → (∀ x, (g x && h x) = false) → (X.filter f).length = (X.filter g).length + (X.filter h).length
  | [], _, _ => rfl
  | x :: X, h1, h2 => by
    have ih := filter_two X h1 h2
    have a := h1 x
    have b := h2 x
    rw [List.filter_cons, List.filter_cons, List.filter_cons, a]
    revert b
    cases g x <;> cases h x <;> simp <;> omega

/-- What is told within the three sets. -/
theorem parts_fact {L : List Bs} (h : LimL L) {k : Nat} (h0 : 0 < k) (h1 : k < L.length) (A B : List En) :
    (fdiff (hasS (L.take k)) A B ++ fdiff (hasS (L.drop k)) A B).length = (fdiff (hasS L) A B).length ∧ ∀ c ∈ fdiff (hasS L) A B, c ∈ fdiff (hasS (L.take k)) A B ++ fdiff (hasS (L.drop k)) A B ∧ hasS L c.1 = true ∧ hasS (L.take k) c.1 = !(hasS (L.drop k) c.1) := by
  have two := h.two h0 h1
  constructor
  · rw [List.length_append]
    refine (filter_two _ (fun c => ?_) (fun c => ?_)).symm
    · rw [(two c.1).1]
      cases (c.2.1 != c.2.2) <;> simp
    · have := (two c.1).2
      revert this
      cases (c.2.1 != c.2.2) <;> cases hasS (L.take k) c.1 <;> cases hasS (L.drop k) c.1 <;> simp
  · intro c hc
    unfold fdiff at hc ⊢
    obtain ⟨m, q⟩ := List.mem_filter.1 hc
    rw [Bool.and_eq_true] at q
    have t1 := (two c.1).1
    have t2 := (two c.1).2
    rw [q.2] at t1
    rw [List.mem_append, List.mem_filter, List.mem_filter]
    refine ⟨?_, q.2, ?_⟩
    · have t3 : hasS (L.take k) c.1 = true ∨ hasS (L.drop k) c.1 = true := by
        revert t1
        cases hasS (L.take k) c.1 <;> cases hasS (L.drop k) c.1 <;> simp
      rcases t3 with z | z
      · exact .inl ⟨m, by rw [Bool.and_eq_true]; exact ⟨q.1, z⟩⟩
      · exact .inr ⟨m, by rw [Bool.and_eq_true]; exact ⟨q.1, z⟩⟩
    · revert t1 t2
      cases hasS (L.take k) c.1 <;> cases hasS (L.drop k) c.1 <;> simp

end Go.Proofs.Ytbclmpjcfddlcaa
