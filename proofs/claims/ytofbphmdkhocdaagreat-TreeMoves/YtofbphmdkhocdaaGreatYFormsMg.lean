/-
  How two trees differ, as functions on lists: the changes, one step of them; changes done to a tree. No program.
-/
import Derived.Test.YtofbphmdkhocdaaGreatM09
import Derived.Test.YtofbphmdkhocdaaGreatM11
namespace Go.Proofs.YtofbphmdkhocdaaGreat
open Go.RowKit

/-- A change: its path, what was there, what is. -/
abbrev Chg := Bs × UInt64 × UInt64

/-- Entries whose paths rise. -/
def Rise (es : List En) : Prop := es.Pairwise (fun a b => a.1 < b.1)

theorem Tr.rise {es : List En} (h : Tr es) : Rise es := h.imp (fun q => q.1)

theorem Rise.tail {e : En} {es : List En} (h : Rise (e :: es)) : Rise es := (List.pairwise_cons.1 h).2
theorem Rise.head {e : En} {es : List En} (h : Rise (e :: es)) : ∀ x ∈ es, e.1 < x.1 := (List.pairwise_cons.1 h).1
theorem Rise.drop {es : List En} (h : Rise es) (i : Nat) : Rise (es.drop i) := List.Pairwise.sublist (List.drop_sublist i es) h

/-- The blob of a path; 0 where it is not. -/
def blobOf (es : List En) (p : Bs) : UInt64 := (ffind es p).getD 0

theorem ffind_cons (e : En) (es : List En) (p : Bs) : ffind (e :: es) p = if e.1 = p then some e.2 else ffind es p := by
  unfold ffind
  by_cases h : e.1 = p
  · simp [h]
  · have h' : (e.1 == p) = false := by simpa using h
    simp [h, h']

theorem ffind_mem {es : List En} {p : Bs} {x : UInt64} (h : ffind es p = some x) : (p, x) ∈ es := by
  induction es with
  | nil => cases h
  | cons e t ih =>
    rw [ffind_cons] at h
    by_cases q : e.1 = p
    · rw [if_pos q] at h
      cases h
      rw [← q]
      exact List.mem_cons_self ..
    · rw [if_neg q] at h
      exact List.mem_cons_of_mem _ (ih h)

theorem ffind_none {es : List En} {p : Bs} (h : ∀ e ∈ es, e.1 ≠ p) : ffind es p = none := by
  induction es with
  | nil => rfl
  | cons e t ih =>
    rw [ffind_cons, if_neg (h e (List.mem_cons_self ..))]
    exact ih (fun x hx => h x (List.mem_cons_of_mem _ hx))

theorem ffind_of_mem {es : List En} (hr : Rise es) {e : En} (h : e ∈ es) : ffind es e.1 = some e.2 := by
  induction es with
  | nil => cases h
  | cons x t ih =>
    rw [ffind_cons]
    rcases List.mem_cons.1 h with rfl | q
    · rw [if_pos rfl]
    · have := hr.head e q
      rw [if_neg (fun ee => by rw [ee] at this; exact bl_irrefl _ this)]
      exact ih hr.tail q

/-- The least first path of two lists. -/
def leastP : List En → List En → Bs
  | x :: _, y :: _ => if x.1 < y.1 then x.1 else y.1
  | x :: _, [] => x.1
  | [], y :: _ => y.1
  | [], [] => []
/-- The blob of a path, if it is the first, and what lies behind it. -/
def takeP : List En → Bs → UInt64 × List En
  | [], _ => (0, [])
  | e :: t, p => if e.1 = p then (e.2, t) else (0, e :: t)

theorem takeP_cons (e : En) (t : List En) (p : Bs) : takeP (e :: t) p = if e.1 = p then (e.2, t) else (0, e :: t) := rfl
theorem leastP_cons (x y : En) (s t : List En) : leastP (x :: s) (y :: t) = if x.1 < y.1 then x.1 else y.1 := rfl

/-- All paths of two lists, rising. -/
def bothP (a b : List En) : List Bs := srt (a.map (·.1) ++ b.map (·.1))
/-- How two trees differ, at paths that a test takes. -/
def fdiff (g : Bs → Bool) (a b : List En) : List Chg := ((bothP a b).map (fun p => (p, blobOf a p, blobOf b p))).filter (fun c => (c.2.1 != c.2.2) && g c.1)

theorem takeP_blob {es : List En} (hr : Rise es) {p : Bs} (hp : ∀ e ∈ es, ¬ e.1 < p) : (takeP es p).1 = blobOf es p := by
  cases es with
  | nil => rfl
  | cons e t =>
    unfold blobOf
    rw [takeP_cons, ffind_cons]
    by_cases h : e.1 = p
    · rw [if_pos h, if_pos h]
      rfl
    · rw [if_neg h, if_neg h]
      rw [ffind_none]
      · rfl
      · intro x hx e2
        have h1 := hr.head x hx
        rw [e2] at h1
        exact hp e (List.mem_cons_self ..) h1

theorem takeP_other {es : List En} {p q : Bs} (h : q ≠ p) : blobOf (takeP es p).2 q = blobOf es q := by
  cases es with
  | nil => rfl
  | cons e t =>
    rw [takeP_cons]
    by_cases k : e.1 = p
    · rw [if_pos k]
      unfold blobOf
      rw [ffind_cons, if_neg (fun ee => h (by rw [← ee, k]))]
    · rw [if_neg k]

theorem takeP_mem {es : List En} (hr : Rise es) {p : Bs} (hp : ∀ e ∈ es, ¬ e.1 < p) (x : Bs) : x ∈ (takeP es p).2.map (·.1) ↔ x ∈ es.map (·.1) ∧ x ≠ p := by
  cases es with
  | nil => simp [takeP]
  | cons e t =>
    rw [takeP_cons]
    by_cases k : e.1 = p
    · rw [if_pos k]
      simp only [List.mem_map, List.mem_cons]
      constructor
      · rintro ⟨y, hy, rfl⟩
        refine ⟨⟨y, .inr hy, rfl⟩, fun ee => ?_⟩
        have := hr.head y hy
        rw [k, ee] at this
        exact bl_irrefl _ this
      · rintro ⟨⟨y, hy, rfl⟩, hn⟩
        rcases hy with rfl | hy
        · exact absurd k hn
        · exact ⟨y, hy, rfl⟩
    · rw [if_neg k]
      refine ⟨fun h => ⟨h, fun ee => ?_⟩, fun h => h.1⟩
      obtain ⟨y, hy, rfl⟩ := List.mem_map.1 h
      subst ee
      rcases List.mem_cons.1 hy with rfl | hy
      · exact k rfl
      · exact hp e (List.mem_cons_self ..) (hr.head y hy)

theorem takeP_rise {es : List En} (hr : Rise es) (p : Bs) : Rise (takeP es p).2 := by
  cases es with
  | nil => exact List.Pairwise.nil
  | cons e t =>
    rw [takeP_cons]
    by_cases k : e.1 = p
    · rw [if_pos k]; exact hr.tail
    · rw [if_neg k]; exact hr

theorem least_le {a b : List En} (ha : Rise a) (hb : Rise b) : (∀ e ∈ a, ¬ e.1 < leastP a b) ∧ (∀ e ∈ b, ¬ e.1 < leastP a b) := by
  have key : ∀ (es : List En), Rise es → ∀ x ∈ es, ∀ e, es.head? = some e → ¬ x.1 < e.1 := by
    intro es hr x hx e he
    cases es with
    | nil => cases he
    | cons y t =>
      cases he
      rcases List.mem_cons.1 hx with rfl | q
      · exact bl_irrefl _
      · exact bl_asymm (hr.head x q)
  cases a with
  | nil =>
    refine ⟨by simp, ?_⟩
    cases b with
    | nil => simp
    | cons y t => exact fun x hx => key _ hb x hx y rfl
  | cons x s =>
    cases b with
    | nil => exact ⟨fun e he => key _ ha e he x rfl, by simp⟩
    | cons y t =>
      rw [leastP_cons]
      by_cases h : x.1 < y.1
      · rw [if_pos h]
        refine ⟨fun e he => key _ ha e he x rfl, fun e he q => ?_⟩
        exact key _ hb e he y rfl (bl_trans q h)
      · rw [if_neg h]
        refine ⟨fun e he q => ?_, fun e he => key _ hb e he y rfl⟩
        have h1 := key _ ha e he x rfl
        rcases bl_tri x.1 y.1 with k | k | k
        · exact h k
        · rw [k] at h1; exact h1 q
        · exact h1 (bl_trans q k)

theorem least_mem {a b : List En} (h : a ≠ [] ∨ b ≠ []) : leastP a b ∈ a.map (·.1) ∨ leastP a b ∈ b.map (·.1) := by
  cases a with
  | nil =>
    cases b with
    | nil => simp at h
    | cons y t => right; simp [leastP]
  | cons x s =>
    cases b with
    | nil => left; simp [leastP]
    | cons y t =>
      rw [leastP_cons]
      by_cases k : x.1 < y.1
      · left; simp [k]
      · right; simp [k]

/-- One step: the least path, and what lies behind it. -/
theorem bothP_step {a b : List En} (ha : Rise a) (hb : Rise b) (h : a ≠ [] ∨ b ≠ []) :
    bothP a b = leastP a b :: bothP (takeP a (leastP a b)).2 (takeP b (leastP a b)).2 := by
  obtain ⟨la, lb⟩ := least_le ha hb
  have hm := least_mem h
  obtain ⟨p, hp⟩ : ∃ p, leastP a b = p := ⟨_, rfl⟩
  rw [hp] at la lb hm ⊢
  have ma := takeP_mem ha la
  have mb := takeP_mem hb lb
  refine rising_ext (srt_rising _) ?_ ?_
  · refine List.pairwise_cons.2 ⟨?_, srt_rising _⟩
    intro x hx
    rw [bothP, mem_srt, List.mem_append, ma, mb] at hx
    have hn : ¬ x < p := by
      rcases hx with ⟨q, _⟩ | ⟨q, _⟩
      · obtain ⟨e, he, rfl⟩ := List.mem_map.1 q; exact la e he
      · obtain ⟨e, he, rfl⟩ := List.mem_map.1 q; exact lb e he
    have hne : x ≠ p := by rcases hx with ⟨_, q⟩ | ⟨_, q⟩ <;> exact q
    rcases bl_tri p x with k | k | k
    · exact k
    · exact absurd k.symm hne
    · exact absurd k hn
  · intro x
    rw [bothP, mem_srt, List.mem_append, List.mem_cons, bothP, mem_srt, List.mem_append, ma, mb]
    by_cases hx : x = p
    · subst hx
      exact ⟨fun _ => .inl rfl, fun _ => hm⟩
    · constructor
      · rintro (q | q)
        · exact .inr (.inl ⟨q, hx⟩)
        · exact .inr (.inr ⟨q, hx⟩)
      · rintro (q | ⟨q, _⟩ | ⟨q, _⟩)
        · exact absurd q hx
        · exact .inl q
        · exact .inr q

theorem fdiff_step (g : Bs → Bool) {a b : List En} (ha : Rise a) (hb : Rise b) (h : a ≠ [] ∨ b ≠ []) :
    fdiff g a b = (if ((takeP a (leastP a b)).1 != (takeP b (leastP a b)).1) && g (leastP a b) then [(leastP a b, (takeP a (leastP a b)).1, (takeP b (leastP a b)).1)] else []) ++ fdiff g (takeP a (leastP a b)).2 (takeP b (leastP a b)).2 := by
  obtain ⟨la, lb⟩ := least_le ha hb
  have hs := bothP_step ha hb h
  have hr : Rising (bothP a b) := srt_rising _
  rw [hs] at hr
  obtain ⟨p, hp⟩ : ∃ p, leastP a b = p := ⟨_, rfl⟩
  rw [hp] at la lb hs hr ⊢
  have hlt := (List.pairwise_cons.1 hr).1
  rw [takeP_blob ha la, takeP_blob hb lb]
  unfold fdiff
  rw [hs, List.map_cons, List.filter_cons]
  have e : (bothP (takeP a p).2 (takeP b p).2).map (fun q => (q, blobOf a q, blobOf b q)) = (bothP (takeP a p).2 (takeP b p).2).map (fun q => (q, blobOf (takeP a p).2 q, blobOf (takeP b p).2 q)) := by
    refine List.map_congr_left (fun q hq => ?_)
    have hne : q ≠ p := fun ee => by have := hlt q hq; rw [ee] at this; exact bl_irrefl _ this
    rw [takeP_other hne, takeP_other hne]
  rw [e]
  split <;> simp

theorem takeP_sub (es : List En) (p : Bs) (x : En) (h : x ∈ (takeP es p).2) : x ∈ es := by
  cases es with
  | nil => exact h
  | cons e t =>
    rw [takeP_cons] at h
    split at h
    · exact List.mem_cons_of_mem _ h
    · exact h

theorem takeP_len (es : List En) (p : Bs) : (takeP es p).2.length ≤ es.length := by
  cases es with
  | nil => simp [takeP]
  | cons e t => rw [takeP_cons]; split <;> simp
theorem least_len {a b : List En} (h : a ≠ [] ∨ b ≠ []) : (takeP a (leastP a b)).2.length + (takeP b (leastP a b)).2.length < a.length + b.length := by
  have h1 := takeP_len a (leastP a b)
  have h2 := takeP_len b (leastP a b)
  cases a with
  | nil =>
    cases b with
    | nil => simp at h
    | cons y t => simp [leastP, takeP]
  | cons x s =>
    cases b with
    | nil => simp [leastP, takeP]
    | cons y t =>
      by_cases k : x.1 < y.1
      · have e : (takeP (x :: s) (leastP (x :: s) (y :: t))).2 = s := by simp [leastP, k, takeP]
        rw [e] at h1 ⊢
        simp only [List.length_cons] at h2 ⊢
        omega
      · have e : (takeP (y :: t) (leastP (x :: s) (y :: t))).2 = t := by simp [leastP, k, takeP]
        rw [e] at h2 ⊢
        simp only [List.length_cons] at h1 ⊢
        omega

end Go.Proofs.YtofbphmdkhocdaaGreat
