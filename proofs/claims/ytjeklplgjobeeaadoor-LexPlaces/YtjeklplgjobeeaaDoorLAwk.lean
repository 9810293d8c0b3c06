/-
  lex.Scan where it is known what it tells; the statements' awake by a contract. No condition but that the program's variables hold what its text lays there.
-/
import Derived.Test.YtjeklplgjobeeaaDoorRSam
namespace Go.Proofs.YtjeklplgjobeeaaDoor
open Go.RowKit

/-- The tokens that are told: none beside an error. -/
def outT (ts : List Tk) (e : Option Nat) : List Tk := match e with
  | none => ts
  | some _ => []
theorem outT_none (ts : List Tk) : outT ts none = ts := rfl
theorem outT_some (ts : List Tk) (p : Nat) : outT ts (some p) = [] := rfl
def plT (e : Option Nat) : Int := match e with
  | none => 0
  | some p => (p : Int)
def cdT (e : Option Nat) : Int := match e with
  | none => 0
  | some _ => 30

/-- What Scan tells, its list by letters. -/
theorem Told.form {l : Bs} {w w' : World} {t : TypeId} {v : Value} {a c : Int} {ts : List Tk} {e : Option Nat} (h : Told l w t w' v a c ts e) :
    Sc 0 l ts e ∧ Below w.heap.size w w' ∧ a = plT e ∧ c = cdT e ∧ OwnG encT t w' w.heap.size v (outT ts e) := by
  obtain ⟨h1, h2, h3⟩ := h
  cases e with
  | none => exact ⟨h1, h2, h3.1, h3.2.1, h3.2.2⟩
  | some p =>
    refine ⟨h1, h2, h3.1, h3.2.1, ?_⟩
    rw [h3.2.2]
    exact OwnG.nil _ _ _ _

/-- A list of tokens that a call has made, in new memory. -/
structure Lt (t : TypeId) (B : Nat) (w : World) (ao : Option Addr) (n c : Nat) (ts : List Tk) : Prop where
  own : OwnG encT t w B (.slice ao n c) ts
  len : ts.length = n
  cap : n ≤ c
  rd : RdG encT w ao ts
theorem Lt.of {t : TypeId} {B : Nat} {w : World} {v : Value} {ts : List Tk} (h : OwnG encT t w B v ts) : ∃ ao c, v = .slice ao ts.length c ∧ Lt t B w ao ts.length c ts := by
  obtain ⟨ao, c, rfl, h1, _, h3, _⟩ := h.form
  exact ⟨ao, c, rfl, h, rfl, h1, h3⟩
theorem Lt.below {t : TypeId} {B n c : Nat} {w w' : World} {ao : Option Addr} {ts : List Tk} (h : Lt t B w ao n c ts) (hb : Below w.heap.size w w') : Lt t B w' ao n c ts := ⟨h.own.below hb, h.len, h.cap, h.rd.below hb⟩

/-- lex.Scan of a text whose tokens are known. -/
theorem scan_known (s : ByteArray) (hs : s.size ≤ 1024) {ts : List Tk} {er : Option Nat} (h : Sc 0 s.data.toList ts er) (w : World) (hg : Gl w) :
    Calls Tryd.prog 7 #[.string s] w fun e w' => ∃ ao c, e = .returned (.tuple #[.slice ao (outT ts er).length c, .int .i64 (plT er), .int .i64 (cdT er)]) ∧ Lt 39 w.heap.size w' ao (outT ts er).length c (outT ts er) ∧ Below w.heap.size w w' := by
  refine (scan_short s hs w hg).mono ?_
  rintro e w' ⟨v, a, c, us, f, rfl, ht⟩
  obtain ⟨k1, k2, rfl, rfl, k5⟩ := ht.form
  obtain ⟨rfl, rfl⟩ := k1.uniq h
  obtain ⟨ao, cp, rfl, hl⟩ := Lt.of k5
  exact ⟨ao, cp, rfl, hl, k2⟩

theorem sc_one : Sc 0 [97, 46, 46, 98, 94, 50] [⟨1, [97], 0, 0, 0⟩, ⟨5, [46, 46], 0, 0, 1⟩, ⟨1, [98], 0, 0, 3⟩, ⟨5, [94], 0, 0, 4⟩, ⟨2, [], 2, 0, 5⟩] none :=
  .tok (n := 1) rfl rfl (by decide) (.tok (n := 2) rfl rfl (by decide) (.tok (n := 1) rfl rfl (by decide) (.tok (n := 1) rfl rfl (by decide) (.tok (n := 1) rfl rfl (by decide) (.done 6)))))
theorem sc_two : Sc 0 [97, 46, 98] [⟨1, [97], 0, 0, 0⟩] (some 1) :=
  .tok (n := 1) rfl rfl (by decide) (.bad rfl rfl)

def tsA : List Tk := [⟨1, [97], 0, 0, 0⟩, ⟨5, [46, 46], 0, 0, 1⟩, ⟨1, [98], 0, 0, 3⟩, ⟨5, [94], 0, 0, 4⟩, ⟨2, [], 2, 0, 5⟩]
theorem wrA : wr tsA = [97, 32, 46, 46, 32, 98, 32, 94, 32, 50] := by
  have h : Lib.itoa 2 = [50] := by
    have := itoa_nat 2
    rw [Lib.decDigits, dif_pos (by decide)] at this
    exact this
  simp [wr, jn, tsA, st, h]

set_option maxHeartbeats 1600000 in
set_option maxRecDepth 100000 in
theorem awake_any (w : World) (hg : Gl w) :
    Calls Tryd.prog 6 #[] w fun e w' => e = .returned (.bool true) ∧ Below w.heap.size w w' := by
  have h1 : Calls Tryd.prog 7 #[.string ⟨#[97, 46, 46, 98, 94, 50]⟩] w fun e w' => ∃ ao c, e = .returned (.tuple #[.slice ao 5 c, .int .i64 0, .int .i64 0]) ∧ Lt 39 w.heap.size w' ao 5 c tsA ∧ Below w.heap.size w w' := scan_known ⟨#[97, 46, 46, 98, 94, 50]⟩ (by decide) sc_one w hg
  have h2 : ∀ w, Gl w → Calls Tryd.prog 7 #[.string ⟨#[97, 46, 98]⟩] w fun e w' => ∃ ao c, e = .returned (.tuple #[.slice ao 0 c, .int .i64 1, .int .i64 30]) ∧ Lt 39 w.heap.size w' ao 0 c [] ∧ Below w.heap.size w w' := fun w hg => scan_known ⟨#[97, 46, 98]⟩ (by decide) sc_two w hg
  have HG : Hid (Gl w) := hg
  clear hg
  go_enter Tryd.func6, Tryd.ntmps6
  go_wp2_with fail
  refine h1.mono ?_
  rintro e w1 ⟨ao, c, rfl, hl, hb1⟩
  go_wp2_with fail
  refine (h2 _ (HG.out.below hb1)).mono ?_
  rintro e w2 ⟨ao2, c2, rfl, hl2, hb2⟩
  have hl3 := hl.below hb2
  obtain ⟨tb, off, rfl, _⟩ := hl3.rd.some_of (i := 1) (x := ⟨5, [46, 46], 0, 0, 1⟩) rfl
  obtain ⟨_, _, k1, _, _, _⟩ := hl3.rd.tok (i := 1) (t := ⟨5, [46, 46], 0, 0, 1⟩) rfl
  obtain ⟨_, _, _, k2, _, k4⟩ := hl3.rd.tok (i := 4) (t := ⟨2, [], 2, 0, 5⟩) rfl
  have hgd : ∀ t ∈ tsA, Gd t := sc_one.good
  have hw := fun u hu hr => lwrite_any (ao := some ⟨tb, off, none⟩) (n := 5) (c := c) (ts := tsA) u hr rfl hl3.cap (by decide) hgd (by rw [wrA]; decide) hu
  rw [wrA] at hw
  have b2 := hb1.trans (hb2.mono hb1.size)
  have hw2 := hw w2 (HG.out.below b2) hl3.rd
  have HB : Hid (Below w.heap.size w w2) := b2
  have hc5 : (5 : Int) ≤ (c : Int) := by have := hl3.cap; omega
  simp only at k1 k2 k4
  clear h1 h2 hl hl2 hl3 hw hgd b2 hb1 hb2
  go_wp2_with (go_at_call 11; refine hw2.mono ?_; rintro e w3 ⟨rfl, hb3⟩)
  go_ret
  exact ⟨rfl, HB.out.trans (hb3.mono HB.out.size)⟩

end Go.Proofs.YtjeklplgjobeeaaDoor
