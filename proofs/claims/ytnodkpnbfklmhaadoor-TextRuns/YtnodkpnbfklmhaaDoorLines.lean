/-
  Lines of a text, without a program: a text cut behind each byte 10, as the library's split cuts it; what the lines of a text are, and that lines put together are a text with these lines. No condition.
-/
import Derived.Test.YtnodkpnbfklmhaaDoorPWords
import Derived.Lib.SplitLaws
namespace Go.Proofs.YtnodkpnbfklmhaaDoor
open Go.RowKit

/-- The pieces of a text, cut behind each byte 10: the last one has none. -/
def pieces : Bs → List Bs
  | [] => [[]]
  | b :: t => if b = 10 then [10] :: pieces t else (b :: (pieces t).headD []) :: (pieces t).tail

theorem pieces_ne (l : Bs) : pieces l ≠ [] := by
  cases l with
  | nil => simp [pieces]
  | cons b t => by_cases h : b = 10 <;> simp [pieces, h]

theorem index_miss_ten {b : UInt8} {t : Bs} (hb : b ≠ 10) (h : Lib.index t [10] = -1) : Lib.index (b :: t) [10] = -1 := by
  unfold Lib.index
  have : ([10] : Bs).isPrefixOf (b :: t) = false := by simp [List.isPrefixOf]; exact fun e => hb e.symm
  simp [this, h]

theorem index_past_ten {b : UInt8} {t : Bs} (hb : b ≠ 10) {i : Nat} (h : Lib.index t [10] = i) : Lib.index (b :: t) [10] = ((i + 1 : Nat) : Int) := by
  unfold Lib.index
  have : ([10] : Bs).isPrefixOf (b :: t) = false := by simp [List.isPrefixOf]; exact fun e => hb e.symm
  have h2 : ¬ ((i : Int) = -1) := by omega
  simp [this, h, h2]

theorem index_at_ten (t : Bs) : Lib.index (10 :: t) [10] = 0 := by
  unfold Lib.index
  simp [List.isPrefixOf]

/-- The library's split behind each byte 10. -/
theorem split_pieces : ∀ (l : Bs), Lib.splitK [10] 1 (Lib.count l [10]) l = pieces l
  | [] => by
    have : Lib.count [] [10] = 0 := by rw [Lib.count_one]; rfl
    rw [this]
    rfl
  | b :: t => by
    have ih := split_pieces t
    by_cases hb : b = 10
    · subst hb
      rw [Lib.count_cons_eq, Nat.add_comm, Lib.splitK, index_at_ten, if_neg (by decide)]
      simp [pieces, ih]
    · rw [Lib.count_cons_ne _ _ _ hb]
      cases hk : Lib.count t [10] with
      | zero =>
        rw [hk] at ih
        simp only [Lib.splitK] at ih ⊢
        simp [pieces, hb, ← ih]
      | succ k =>
        rw [hk] at ih
        have hi : Lib.index t [10] ≠ -1 := fun e => by rw [Lib.count_miss e] at hk; omega
        obtain ⟨i, hi'⟩ : ∃ i : Nat, Lib.index t [10] = i := ⟨(Lib.index t [10]).toNat, by have := Lib.index_ge t [10]; omega⟩
        rw [Lib.splitK, hi', if_neg (by simp)] at ih
        rw [Lib.splitK, index_past_ten hb hi', if_neg (by simp; omega)]
        simp only [Int.toNat_natCast, List.length_cons, List.length_nil] at ih ⊢
        simp only [pieces, hb, if_false, ← ih, List.headD_cons, List.tail_cons]
        rfl

def noTen (c : Bs) : Prop := ∀ x ∈ c, x ≠ 10

theorem pieces_past : ∀ (c r : Bs), noTen c → pieces (c ++ r) = (c ++ (pieces r).headD []) :: (pieces r).tail
  | [], r, _ => by
    cases h : pieces r with
    | nil => exact absurd h (pieces_ne r)
    | cons x y => simp [h]
  | b :: c, r, h => by
    have hb : b ≠ 10 := h b (by simp)
    have := pieces_past c r (fun x hx => h x (by simp [hx]))
    simp [pieces, hb, this]

/-- The lines of a text: its pieces, but for an empty last one. -/
def lines (l : Bs) : List Bs := if (pieces l).getLast? = some [] then (pieces l).dropLast else pieces l

theorem lines_nil : lines [] = [] := rfl

theorem lines_last {c : Bs} (h : noTen c) (h0 : c ≠ []) : lines c = [c] := by
  have : pieces c = [c] := by
    have := pieces_past c [] h
    simpa [pieces] using this
  simp [lines, this, h0]

theorem lines_cut {c : Bs} (r : Bs) (h : noTen c) : lines (c ++ 10 :: r) = (c ++ [10]) :: lines r := by
  have e : pieces (c ++ 10 :: r) = (c ++ [10]) :: pieces r := by
    rw [pieces_past c _ h]
    simp [pieces]
  have hne := pieces_ne r
  obtain ⟨x, hx⟩ : ∃ x, (pieces r).getLast? = some x := ⟨_, List.getLast?_eq_some_getLast hne⟩
  have hx2 : ((c ++ [10]) :: pieces r).getLast? = some x := by rw [List.getLast?_cons, hx]; rfl
  unfold lines
  rw [e, hx2, hx]
  by_cases hxe : some x = some []
  · rw [if_pos hxe, if_pos hxe, List.dropLast_cons_of_ne_nil hne]
  · rw [if_neg hxe, if_neg hxe]

/-- Whatever holds of no line, of one line without an end, and of one line more in front, holds of every text. -/
theorem lines_ind (P : Bs → Prop) (h0 : P []) (h1 : ∀ c, c ≠ [] → noTen c → P c) (h2 : ∀ c r, noTen c → P r → P (c ++ 10 :: r)) : ∀ (n : Nat) (l : Bs), l.length ≤ n → P l
  | 0, l, h => by
    obtain rfl : l = [] := List.eq_nil_of_length_eq_zero (by omega)
    exact h0
  | n + 1, l, h => by
    have e := List.takeWhile_append_dropWhile (p := fun x : UInt8 => x != 10) (l := l)
    have hn : noTen (l.takeWhile (fun x : UInt8 => x != 10)) := by
      intro x hx
      have := List.all_takeWhile (p := fun x : UInt8 => x != 10) (l := l)
      have := List.all_eq_true.1 this x hx
      simpa using this
    cases hd : l.dropWhile (fun x : UInt8 => x != 10) with
    | nil =>
      rw [hd, List.append_nil] at e
      rw [e] at hn
      by_cases hl : l = []
      · rw [hl]; exact h0
      · exact h1 l hl hn
    | cons b r =>
      have hb : b = 10 := by
        have := List.head?_dropWhile_not (fun x : UInt8 => x != 10) l
        rw [hd] at this
        simpa using this
      subst hb
      rw [hd] at e
      rw [← e]
      refine h2 _ r hn (lines_ind P h0 h1 h2 n r ?_)
      have := congrArg List.length e
      simp at this
      omega

theorem lines_flat (l : Bs) : (lines l).flatten = l := by
  refine lines_ind (fun l => (lines l).flatten = l) rfl ?_ ?_ l.length l (Nat.le_refl _)
  · intro c h0 h; rw [lines_last h h0]; simp
  · intro c r h ih; rw [lines_cut r h]; simp [ih]

theorem lines_none (l : Bs) : lines l = [] ↔ l = [] := by
  constructor
  · intro h
    have := lines_flat l
    rw [h] at this
    exact this.symm
  · rintro rfl; rfl

theorem lines_len (l : Bs) : (lines l).length ≤ l.length := by
  refine lines_ind (fun l => (lines l).length ≤ l.length) (by simp [lines_nil]) ?_ ?_ l.length l (Nat.le_refl _)
  · intro c h0 h
    rw [lines_last h h0]
    have := List.length_pos_iff.2 h0
    simp only [List.length_singleton]
    omega
  · intro c r h ih
    rw [lines_cut r h]
    simp
    omega

/-- What a line is: not empty; a byte 10 stands at its end alone, and there it stands, unless it is the last one. -/
def LineOk (last : Bool) (x : Bs) : Prop := x ≠ [] ∧ ∀ k b, x[k]? = some b → (b = 10 → k + 1 = x.length) ∧ (k + 1 = x.length → last = false → b = 10)

theorem line_open {c : Bs} (h : noTen c) (h0 : c ≠ []) : LineOk true c :=
  ⟨h0, fun k b hb => ⟨fun e => absurd e (h b (List.mem_of_getElem? hb)), fun _ e => by cases e⟩⟩

theorem line_shut {c : Bs} (h : noTen c) (last : Bool) : LineOk last (c ++ [10]) := by
  refine ⟨by simp, fun k b hb => ?_⟩
  rcases Nat.lt_or_ge k c.length with q | q
  · rw [List.getElem?_append_left q] at hb
    refine ⟨fun e => absurd e (h b (List.mem_of_getElem? hb)), fun e => by simp at e; omega⟩
  · rw [List.getElem?_append_right q] at hb
    have hk : k - c.length = 0 := by
      rcases Nat.eq_zero_or_pos (k - c.length) with z | z
      · exact z
      · rw [List.getElem?_eq_none (by simp only [List.length_singleton]; omega)] at hb; cases hb
    rw [hk] at hb
    simp at hb
    exact ⟨fun _ => by simp; omega, fun _ _ => hb.symm⟩

theorem lines_ok (l : Bs) : ∀ i x, (lines l)[i]? = some x → LineOk (decide (i + 1 = (lines l).length)) x := by
  refine lines_ind (fun l => ∀ i x, (lines l)[i]? = some x → LineOk (decide (i + 1 = (lines l).length)) x) (by simp [lines_nil]) ?_ ?_ l.length l (Nat.le_refl _)
  · intro c h0 h i x hx
    rw [lines_last h h0] at hx ⊢
    cases i with
    | zero =>
      simp at hx
      subst hx
      exact line_open h h0
    | succ i => simp at hx
  · intro c r h ih i x hx
    rw [lines_cut r h] at hx ⊢
    cases i with
    | zero =>
      simp at hx
      subst hx
      exact line_shut h _
    | succ i =>
      have := ih i x (by simpa using hx)
      simpa using this

/-- A line with its end. -/
def plainB (x : Bs) : Prop := ∃ c, noTen c ∧ x = c ++ [10]

theorem lines_join : ∀ (L : List Bs), (∀ x ∈ L, plainB x) → lines L.flatten = L
  | [], _ => rfl
  | x :: t, h => by
    obtain ⟨c, hc, rfl⟩ := h x (by simp)
    have := lines_join t (fun y hy => h y (by simp [hy]))
    rw [List.flatten_cons, List.append_assoc]
    show lines (c ++ 10 :: t.flatten) = _
    rw [lines_cut _ hc, this]

end Go.Proofs.YtnodkpnbfklmhaaDoor
