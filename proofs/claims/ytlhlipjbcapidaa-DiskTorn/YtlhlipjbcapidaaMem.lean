/-
  The program's disk in memory: bytes; a map from names to slices; a disk of files, each in a row of its own. No program but the numbers of types; no condition.
-/
import Derived.Test.YtlhlipjbcapidaaGMore
import Derived.Test.YtlhlipjbcapidaaKFiles
import Derived.Maps.Ext
import Derived.Maps.OwnSet
import Derived.Maps.RangeWalk
import Derived.Sort.KeysCollected
namespace Go.Proofs.Ytlhlipjbcapidaa
open Go.RowKit

/-- Bytes. -/
def encB : Enc UInt8 := ⟨fun b => [.int .u8 (b.toNat : Int)], 1, fun _ => rfl, by decide, by intro x u h; simp at h; subst h; rfl⟩

/-- A slice of bytes that can be read. -/
def BAt (w : World) (v : Value) (bs : Bs) : Prop := ∃ ao c, v = .slice ao bs.length c ∧ bs.length ≤ c ∧ c ≤ 9223372036854775807 ∧ RdG encB w ao bs

/-- A slice of bytes in a row of its own. -/
abbrev OwnB (w : World) (v : Value) (bs : Bs) : Prop := OwnG encB 5 w 0 v bs

theorem OwnB.at {w : World} {v : Value} {bs : Bs} (h : OwnB w v bs) : BAt w v bs := by
  obtain ⟨ao, c, e, h1, h2, h3, _⟩ := OwnG.form h
  exact ⟨ao, c, e, h1, h2, h3⟩

theorem BAt.below {w w' : World} {v : Value} {bs : Bs} (h : BAt w v bs) (hb : Below w.heap.size w w') : BAt w' v bs := by
  obtain ⟨ao, c, e, h1, h2, h3⟩ := h
  exact ⟨ao, c, e, h1, h2, h3.below hb⟩

/-- A map's value, as it lies there. -/
def heldR (v : Value) : Option (DataW Value × List MemPlace) := some (.held v, [])

theorem keyedS : Maps.Keyed Try.prog 9 := Maps.string_keyed Try.underlying9

theorem key_of (s : ByteArray) (h : s.size ≤ maxLen) : keyOf Try.prog 9 (.string s) = some (.string s.data.toList) := WideMaps.keyOf_string_mk Try.underlying9 h

/-- Block m is a map of n entries: f tells the value at each name. -/
def MapIs (w : World) (m : Nat) (f : Bs → Option Value) (n : Nat) : Prop :=
  ∃ D : DataW Value, w.ownsMap Try.prog 9 heldR m n D ∧ Maps.size D = n ∧ (∀ x, Maps.has D (.string x) = (f x).isSome) ∧ ∀ x v, f x = some v → ∀ zd, D.atKey (.string x) zd = .held v

theorem own_tight {w : World} {m n : Nat} {D : DataW Value} (h : w.ownsMap Try.prog 9 heldR m n D) : w.ownsMap Try.prog 9 heldR m (Maps.size D) D := by
  obtain ⟨es, clock, hb, F, _, rfl⟩ := h
  refine ⟨es, clock, hb, F, ?_, rfl⟩
  simp [Maps.size, length_sorted]

theorem MapIs.block {w : World} {m n : Nat} {f : Bs → Option Value} (h : MapIs w m f n) : ∃ es clock, w.heap[m]? = some (.map es clock) := by
  obtain ⟨D, ⟨es, clock, hb, _⟩, _⟩ := h
  exact ⟨es, clock, hb⟩

theorem MapIs.lt {w : World} {m n : Nat} {f : Bs → Option Value} (h : MapIs w m f n) : m < w.heap.size := by
  obtain ⟨D, h1, _⟩ := h
  exact h1.lt

theorem MapIs.turned {S : Nat → Prop} {w w' : World} {m n : Nat} {f : Bs → Option Value} (h : MapIs w m f n) (ht : Turned S w w') (hS : ¬ S m) : MapIs w' m f n := by
  obtain ⟨D, ⟨es, clock, hb, r⟩, q⟩ := h
  exact ⟨D, ⟨es, clock, (ht.block m (Array.getElem?_eq_some_iff.1 hb).1 hS).trans hb, r⟩, q⟩

theorem Try.info31 : (Try.prog.info? 31).map (fun i => (i.zero, i.size, i.bytes)) = some (some (.slice none 0 0), 1, 24) := by kernel_rfl
theorem Try.info5 : (Try.prog.info? 5).map (fun i => (i.zero, i.size, i.bytes)) = some (some (.int .u8 0), 1, 1) := by kernel_rfl

theorem zeroS (w : World) : (zeroValue 31).run Try.prog w = .ok (.slice none 0 0) w := by
  obtain ⟨i0, hi0, hz0, _, _⟩ := info_parts Try.info31
  simp [zeroValue, typeInfo, hi0, hz0]

/-- v, ok := m[k]. -/
theorem MapIs.look {w : World} {m n : Nat} {f : Bs → Option Value} (h : MapIs w m f n) (s : ByteArray) (hs : s.size ≤ maxLen) :
    (Instr.lookup 54 (.map (some m)) (.string s) true).run Try.prog w = .ok (.tuple #[(f s.data.toList).getD (.slice none 0 0), .bool (f s.data.toList).isSome]) w := by
  obtain ⟨D, ho, _, hh, ha⟩ := h
  obtain ⟨v, ps, hrun, hv⟩ := ho.look_ok keyedS Try.underlying54 (zeroS w) (zd := .held (.slice none 0 0)) (zp := []) rfl (key_of s hs)
  rw [hrun, hh]
  have e : DataW.held v = D.atKey (.string s.data.toList) (.held (.slice none 0 0)) := by
    have := Option.some.inj hv
    exact congrArg Prod.fst this
  cases hf : f s.data.toList with
  | none =>
    rw [Maps.atKey_of_not_has (by rw [hh, hf]; rfl)] at e
    cases e
    rfl
  | some u =>
    rw [ha _ u hf] at e
    cases e
    rfl

/-- m[k]. -/
theorem MapIs.look1 {w : World} {m n : Nat} {f : Bs → Option Value} (h : MapIs w m f n) (s : ByteArray) (hs : s.size ≤ maxLen) :
    (Instr.lookup 54 (.map (some m)) (.string s) false).run Try.prog w = .ok ((f s.data.toList).getD (.slice none 0 0)) w := by
  obtain ⟨D, ho, _, hh, ha⟩ := h
  obtain ⟨v, ps, hrun, hv⟩ := ho.lookup keyedS Try.underlying54 (zeroS w) (zd := .held (.slice none 0 0)) (zp := []) rfl (key_of s hs)
  rw [hrun]
  have e : DataW.held v = D.atKey (.string s.data.toList) (.held (.slice none 0 0)) := by
    have := Option.some.inj hv
    exact congrArg Prod.fst this
  cases hf : f s.data.toList with
  | none =>
    rw [Maps.atKey_of_not_has (by rw [hh, hf]; rfl)] at e
    cases e
    rfl
  | some u =>
    rw [ha _ u hf] at e
    cases e
    rfl

theorem MapIs.len {w : World} {m n : Nat} {f : Bs → Option Value} (h : MapIs w m f n) (ty : TypeId) : (Builtin.len_ #[54] ty #[.map (some m)]).run Try.prog w = .ok (.int .i64 n) w := by
  obtain ⟨D, ho, hn, _⟩ := h
  rw [ho.len Try.underlying54 ty, hn]

/-- f with a value at a name; without it. -/
def fput (f : Bs → Option Value) (x : Bs) (v : Value) : Bs → Option Value := fun y => if y = x then some v else f y
def fdel (f : Bs → Option Value) (x : Bs) : Bs → Option Value := fun y => if y = x then none else f y

theorem key_ne {x y : Bs} (h : y ≠ x) : (Lit.string y) ≠ (Lit.string x) := fun e => h (by cases e; rfl)

theorem keyLit (x : Bs) (h : x.length ≤ maxLen) : WideAt.IsKeyLit (.string x) := keyedS.key (key_of ⟨x.toArray⟩ (by simpa [ByteArray.size] using h))

/-- m[k] = v. -/
theorem MapIs.put {w : World} {m n : Nat} {f : Bs → Option Value} (h : MapIs w m f n) (s : ByteArray) (hs : s.size ≤ maxLen) (hn : n < maxLen) (v : Value) :
    ∃ w', (Instr.mapUpdate 54 (.map (some m)) (.string s) v).run Try.prog w = .ok () w' ∧ MapIs w' m (fput f s.data.toList v) (if (f s.data.toList).isSome then n else n + 1) ∧ w.grownBy w' (some m) := by
  obtain ⟨D, ho, hsz, hh, ha⟩ := h
  obtain ⟨w', hrun, h1, h2⟩ := ho.update keyedS Try.underlying54 hn (key_of s hs) (d := .held v) (ps := []) (val := v) rfl
  have hkl : WideAt.IsKeyLit (.string s.data.toList) := keyedS.key (key_of s hs)
  have hsz' : Maps.size (D.put (.string s.data.toList) (.held v)) = if (f s.data.toList).isSome then n else n + 1 := by
    rw [Maps.size_put (ho.tidy keyedS), hh, hsz]
  refine ⟨w', hrun, ⟨_, ?_, hsz', ?_, ?_⟩, h2⟩
  · rw [← hsz']
    exact own_tight h1
  · intro x
    unfold fput
    by_cases e : x = s.data.toList
    · rw [if_pos e, e, Maps.has_put_same ho.isMap hkl]
      rfl
    · rw [if_neg e, Maps.has_put_other (key_ne e), hh]
  · intro x u hx zd
    unfold fput at hx
    by_cases e : x = s.data.toList
    · rw [if_pos e] at hx
      cases hx
      rw [e, Maps.atKey_put_same ho.isMap hkl]
    · rw [if_neg e] at hx
      rw [Maps.atKey_put_other (key_ne e), ha x u hx]

/-- delete(m, k). -/
theorem MapIs.del {w : World} {m n : Nat} {f : Bs → Option Value} (h : MapIs w m f n) (s : ByteArray) (hs : s.size ≤ maxLen) (hi : (f s.data.toList).isSome = true) (ty : TypeId) :
    ∃ w', (Builtin.delete_ #[54, 9] ty #[.map (some m), .string s]).run Try.prog w = .ok (.tuple #[]) w' ∧ MapIs w' m (fdel f s.data.toList) (n - 1) ∧ w.grownBy w' (some m) := by
  obtain ⟨D, ho, hsz, hh, ha⟩ := h
  obtain ⟨w', hrun, h1, h2⟩ := ho.drop keyedS Try.underlying54 (key_of s hs) ty
  have hsz' : Maps.size (D.del (.string s.data.toList)) = n - 1 := by
    have := Maps.size_del (k := .string s.data.toList) (ho.tidy keyedS)
    rw [hh, hi, hsz] at this
    simp at this
    omega
  refine ⟨w', hrun, ⟨_, ?_, hsz', ?_, ?_⟩, h2.grown⟩
  · rw [← hsz']
    exact own_tight h1
  · intro x
    unfold fdel
    by_cases e : x = s.data.toList
    · rw [if_pos e, e, Maps.has_del_same]
      rfl
    · rw [if_neg e, Maps.has_del_other (key_ne e), hh]
  · intro x u hx zd
    unfold fdel at hx
    by_cases e : x = s.data.toList
    · rw [if_pos e] at hx
      cases hx
    · rw [if_neg e] at hx
      rw [Maps.atKey_del_other (key_ne e), ha x u hx]

end Go.Proofs.Ytlhlipjbcapidaa
