/-
  path.Limit by a contract: the paths of the set and the error, of at most 16 texts or of more. No condition but that no text is longer than any text can be.
-/
import Derived.Test.YtkoelofjgceohaaPSort
import Derived.Test.YtkoelofjgceohaaPApp
namespace Go.Proofs.Ytkoelofjgceohaa
open Go.RowKit

/-- One text more, if it is under none of those that are there. -/
def keep (kept : List Bs) (p : Bs) : List Bs := if kept.any (under p) then kept else kept ++ [p]
def red (l : List Bs) : List Bs := l.foldl keep []
def limS (ps : List Bs) : List Bs := if ps.length > 16 then [] else if ps.all isPath then red (srt ps) else []
def limE (ps : List Bs) : Int := if ps.length > 16 then 4 else if ps.all isPath then 0 else 2

theorem fold_step {ss : List Bs} {i : Nat} (h : i < ss.length) : red (ss.take (i + 1)) = keep (red (ss.take i)) (el ss i) := by
  rw [List.take_succ_eq_append_getElem h, red, List.foldl_append, ← el_get h]
  rfl

theorem keep_len : ∀ (l a : List Bs), (l.foldl keep a).length ≤ a.length + l.length
  | [], a => by simp
  | p :: t, a => by
    have := keep_len t (keep a p)
    have h : (keep a p).length ≤ a.length + 1 := by unfold keep; split <;> simp
    simp only [List.foldl_cons, List.length_cons]
    omega
theorem red_len (l : List Bs) : (red l).length ≤ l.length := by have := keep_len l []; simpa [red] using this

theorem with_len (l : List Bs) (s : Bs) : (withB l s).length ≤ l.length + 1 := by
  unfold withB
  split
  · omega
  · have : ∀ l : List Bs, (insB s l).length = l.length + 1 := by
      intro l
      induction l with
      | nil => rfl
      | cons x t ih => by_cases h : s < x <;> simp [insB, h, ih]
    rw [this]
    omega
theorem srt_len (l : List Bs) : (srt l).length ≤ l.length := by
  have : ∀ (l a : List Bs), (l.foldl withB a).length ≤ a.length + l.length := by
    intro l
    induction l with
    | nil => simp
    | cons x t ih =>
      intro a
      have h1 := ih (withB a x)
      have h2 := with_len a x
      simp only [List.foldl_cons, List.length_cons]
      omega
  have := this l []
  simpa [srt] using this

theorem below_set {W w : World} {B b : Nat} (h : Below B W w) (hB : B ≤ b) (hW : B ≤ W.heap.size) (u : Value) : Below B W (w.setCell ⟨b, 0, none⟩ u) :=
  h.trans ((Turned.refl (fun k => k = b) w).setCell (.inl rfl) u |>.below (Nat.le_trans hW h.size) (fun k hk q => by omega))

theorem own_set {w : World} {B b : Nat} {v : Value} {ss : List Bs} (h : Own w B v ss) (hb : b < B) (u : Value) : Own (w.setCell ⟨b, 0, none⟩ u) B v ss :=
  ownsRow_turned (S := fun k => k = b) h ((Turned.refl (fun k => k = b) w).setCell (.inl rfl) u) (fun g hg q => by have := (h.lt g hg).1; omega)

theorem own_low {w : World} {B B' : Nat} {v : Value} {ss : List Bs} (h : Own w B v ss) (hb : B' ≤ B) : Own w B' v ss := own_base h hb

theorem all_step {ss : List Bs} {p : Bs → Bool} {i : Nat} (h : i < ss.length) (ht : (ss.take i).all p = true) (hx : p (el ss i) = true) : (ss.take (i + 1)).all p = true := by
  rw [List.take_succ_eq_append_getElem h, List.all_append, ht, ← el_get h]
  simp [hx]
theorem all_miss {ss : List Bs} {p : Bs → Bool} {i : Nat} (h : i < ss.length) (hx : p (el ss i) = false) : ss.all p = false :=
  List.all_eq_false.2 ⟨_, el_mem h, by simp [hx]⟩

end Go.Proofs.Ytkoelofjgceohaa
