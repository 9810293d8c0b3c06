/-
  lex.Scan where it is known what it tells. No condition but that the program's variables hold what its text lays there.
-/
import Derived.Test.YtijchmcajhdcoaaGreatDoorELScn
namespace Go.Proofs.YtijchmcajhdcoaaGreatDoor
open Go.RowKit

/-- The tokens that are told: none beside an error. -/
def outT (ts : List Tk) (e : Option Nat) : List Tk := match e with
  | none => ts
  | some _ => []
theorem outT_none (ts : List Tk) : outT ts none = ts := rfl
theorem outT_some (ts : List Tk) (p : Nat) : outT ts (some p) = [] := rfl
def plT (e : Option Nat) : Int := match e with
  | none => 0
  | some p => (p : Int)
def cdT (e : Option Nat) : Int := match e with
  | none => 0
  | some _ => 30

/-- What Scan tells, its list by letters. -/
theorem Told.form {l : Bs} {w w' : World} {t : TypeId} {v : Value} {a c : Int} {ts : List Tk} {e : Option Nat} (h : Told l w t w' v a c ts e) :
    Sc 0 l ts e ∧ Below w.heap.size w w' ∧ a = plT e ∧ c = cdT e ∧ OwnG encT t w' w.heap.size v (outT ts e) := by
  obtain ⟨h1, h2, h3⟩ := h
  cases e with
  | none => exact ⟨h1, h2, h3.1, h3.2.1, h3.2.2⟩
  | some p =>
    refine ⟨h1, h2, h3.1, h3.2.1, ?_⟩
    rw [h3.2.2]
    exact OwnG.nil _ _ _ _

/-- A list of tokens that a call has made, in new memory. -/
structure Lt (t : TypeId) (B : Nat) (w : World) (ao : Option Addr) (n c : Nat) (ts : List Tk) : Prop where
  own : OwnG encT t w B (.slice ao n c) ts
  len : ts.length = n
  cap : n ≤ c
  rd : RdG encT w ao ts
theorem Lt.of {t : TypeId} {B : Nat} {w : World} {v : Value} {ts : List Tk} (h : OwnG encT t w B v ts) : ∃ ao c, v = .slice ao ts.length c ∧ Lt t B w ao ts.length c ts := by
  obtain ⟨ao, c, rfl, h1, _, h3, _⟩ := h.form
  exact ⟨ao, c, rfl, h, rfl, h1, h3⟩
theorem Lt.below {t : TypeId} {B n c : Nat} {w w' : World} {ao : Option Addr} {ts : List Tk} (h : Lt t B w ao n c ts) (hb : Below w.heap.size w w') : Lt t B w' ao n c ts := ⟨h.own.below hb, h.len, h.cap, h.rd.below hb⟩

/-- lex.Scan of a text whose tokens are known. -/
theorem scan_known (s : ByteArray) (hs : s.size ≤ 1024) {ts : List Tk} {er : Option Nat} (h : Sc 0 s.data.toList ts er) (w : World) (hg : Gl w) :
    Calls Tryz.prog 11 #[.string s] w fun e w' => ∃ ao c, e = .returned (.tuple #[.slice ao (outT ts er).length c, .int .i64 (plT er), .int .i64 (cdT er)]) ∧ Lt 51 w.heap.size w' ao (outT ts er).length c (outT ts er) ∧ Below w.heap.size w w' := by
  refine (scan_short s hs w hg).mono ?_
  rintro e w' ⟨v, a, c, us, f, rfl, ht⟩
  obtain ⟨k1, k2, rfl, rfl, k5⟩ := ht.form
  obtain ⟨rfl, rfl⟩ := k1.uniq h
  obtain ⟨ao, cp, rfl, hl⟩ := Lt.of k5
  exact ⟨ao, cp, rfl, hl, k2⟩

end Go.Proofs.YtijchmcajhdcoaaGreatDoor
