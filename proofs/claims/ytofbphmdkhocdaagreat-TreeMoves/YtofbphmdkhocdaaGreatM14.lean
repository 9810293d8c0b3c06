/-
  Several texts, laid together.
-/
import Derived.Test.YtofbphmdkhocdaaGreatM05
import Derived.Maps.Ext
import Derived.Maps.OwnSet
import Derived.Maps.RangeWalk
import Derived.Sort.KeysCollected

/-
  A map's values as they lie there, and keys that are texts. No program but the numbers of types; no condition.
-/
namespace Go.Proofs.YtofbphmdkhocdaaGreat
open Go.RowKit

/-- A map's value, as it lies there. -/
def heldR (v : Value) : Option (DataW Value × List MemPlace) := some (.held v, [])

theorem keyedS : Maps.Keyed Tryz.prog 9 := Maps.string_keyed Tryz.underlying9

theorem key_of (s : ByteArray) (h : s.size ≤ maxLen) : keyOf Tryz.prog 9 (.string s) = some (.string s.data.toList) := WideMaps.keyOf_string_mk Tryz.underlying9 h

end Go.Proofs.YtofbphmdkhocdaaGreat

/-
  Maps with keys of any kind, by what they tell: looked up, put into, taken out of. No program but the numbers of types that are handed in; no condition.
-/
namespace Go.Proofs.YtofbphmdkhocdaaGreat
open Go.RowKit

/-- How keys of a kind lie: their value, and what they are told apart by. -/
structure KeyK (α : Type) where
  ty : TypeId
  val : α → Value
  lit : α → Lit
  fit : α → Prop
  keyed : Maps.Keyed Tryz.prog ty
  key : ∀ x, fit x → keyOf Tryz.prog ty (val x) = some (lit x)
  inj : ∀ {x y}, lit x = lit y → x = y

def kU : KeyK UInt64 where
  ty := 50
  val := fun x => .int .u64 (x.toNat : Int)
  lit := fun x => .int .u64 (x.toNat : Int)
  fit := fun _ => True
  keyed := Maps.int_keyed Tryz.underlying50
  key := fun x _ => Maps.keyOf_int_mk Tryz.underlying50 (by
    have := x.toNat_lt
    simp [Lit.wf, IntKind.min, IntKind.max, IntKind.signed, IntKind.bits]
    omega)
  inj := fun {x y} h => by
    injection h with _ h
    exact UInt64.toNat_inj.1 (by omega)

def kS : KeyK Bs where
  ty := 9
  val := fun x => .string ⟨x.toArray⟩
  lit := fun x => .string x
  fit := fun x => x.length ≤ maxLen
  keyed := keyedS
  key := fun x h => key_of ⟨x.toArray⟩ (by simpa [ByteArray.size] using h)
  inj := fun h => by cases h; rfl

section
variable {α : Type} (K : KeyK α)

/-- Block m is a map of n entries: f tells the value at each key. -/
def MapG (w : World) (m : Nat) (f : α → Option Value) (n : Nat) : Prop :=
  ∃ D : DataW Value, w.ownsMap Tryz.prog K.ty heldR m n D ∧ Maps.size D = n ∧ (∀ x, Maps.has D (K.lit x) = (f x).isSome) ∧ ∀ x v, f x = some v → ∀ zd, D.atKey (K.lit x) zd = .held v

variable {K} {w w' : World} {m n : Nat} {f : α → Option Value}

theorem ownG_tight {D : DataW Value} (h : w.ownsMap Tryz.prog K.ty heldR m n D) : w.ownsMap Tryz.prog K.ty heldR m (Maps.size D) D := by
  obtain ⟨es, clock, hb, F, _, rfl⟩ := h
  refine ⟨es, clock, hb, F, ?_, rfl⟩
  simp [Maps.size, length_sorted]

theorem MapG.block (h : MapG K w m f n) : ∃ es clock, w.heap[m]? = some (.map es clock) := by
  obtain ⟨D, ⟨es, clock, hb, _⟩, _⟩ := h
  exact ⟨es, clock, hb⟩

theorem MapG.lt (h : MapG K w m f n) : m < w.heap.size := by
  obtain ⟨D, h1, _⟩ := h
  exact h1.lt

theorem MapG.turned {S : Nat → Prop} (h : MapG K w m f n) (ht : Turned S w w') (hS : ¬ S m) : MapG K w' m f n := by
  obtain ⟨D, ⟨es, clock, hb, r⟩, q⟩ := h
  exact ⟨D, ⟨es, clock, (ht.block m (Array.getElem?_eq_some_iff.1 hb).1 hS).trans hb, r⟩, q⟩

theorem MapG.new (hm : w.heap[m]? = some (.map #[] 0)) : MapG K w m (fun _ => none) 0 :=
  ⟨.map [], ⟨#[], 0, hm, ⟨by simp, MapKept.stamped_empty 0, by simp⟩, Nat.le_refl _, rfl⟩, rfl, fun _ => rfl, fun _ _ h => by cases h⟩

/-- v, ok := m[k]. -/
theorem MapG.look (h : MapG K w m f n) {t e : TypeId} (ht : Tryz.prog.underlying t = some (.map K.ty e)) {z : Value} (hz : (zeroValue e).run Tryz.prog w = .ok z w) (x : α) (hx : K.fit x) :
    (Instr.lookup t (.map (some m)) (K.val x) true).run Tryz.prog w = .ok (.tuple #[(f x).getD z, .bool (f x).isSome]) w := by
  obtain ⟨D, ho, _, hh, ha⟩ := h
  obtain ⟨v, ps, hrun, hv⟩ := ho.look_ok K.keyed ht hz (zd := .held z) (zp := []) rfl (K.key x hx)
  rw [hrun, hh]
  have e : DataW.held v = D.atKey (K.lit x) (.held z) := by
    have := Option.some.inj hv
    exact congrArg Prod.fst this
  cases hf : f x with
  | none =>
    rw [Maps.atKey_of_not_has (by rw [hh, hf]; rfl)] at e
    cases e
    rfl
  | some u =>
    rw [ha _ u hf] at e
    cases e
    rfl

/-- f with a value at a key; without it. -/
def gput [DecidableEq α] (f : α → Option Value) (x : α) (v : Value) : α → Option Value := fun y => if y = x then some v else f y
def gdel [DecidableEq α] (f : α → Option Value) (x : α) : α → Option Value := fun y => if y = x then none else f y

theorem KeyK.ne (K : KeyK α) {x y : α} (h : y ≠ x) : K.lit y ≠ K.lit x := fun e => h (K.inj e)

/-- m[k] = v. -/
theorem MapG.put [DecidableEq α] (h : MapG K w m f n) {t e : TypeId} (ht : Tryz.prog.underlying t = some (.map K.ty e)) (x : α) (hx : K.fit x) (hn : n < maxLen) (v : Value) :
    ∃ w', (Instr.mapUpdate t (.map (some m)) (K.val x) v).run Tryz.prog w = .ok () w' ∧ MapG K w' m (gput f x v) (if (f x).isSome then n else n + 1) ∧ w.grownBy w' (some m) := by
  obtain ⟨D, ho, hsz, hh, ha⟩ := h
  obtain ⟨w', hrun, h1, h2⟩ := ho.update K.keyed ht hn (K.key x hx) (d := .held v) (ps := []) (val := v) rfl
  have hkl : WideAt.IsKeyLit (K.lit x) := K.keyed.key (K.key x hx)
  have hsz' : Maps.size (D.put (K.lit x) (.held v)) = if (f x).isSome then n else n + 1 := by
    rw [Maps.size_put (ho.tidy K.keyed), hh, hsz]
  refine ⟨w', hrun, ⟨_, ?_, hsz', ?_, ?_⟩, h2⟩
  · rw [← hsz']
    exact ownG_tight h1
  · intro y
    unfold gput
    by_cases e : y = x
    · rw [if_pos e, e, Maps.has_put_same ho.isMap hkl]
      rfl
    · rw [if_neg e, Maps.has_put_other (K.ne e), hh]
  · intro y u hy zd
    unfold gput at hy
    by_cases e : y = x
    · rw [if_pos e] at hy
      cases hy
      rw [e, Maps.atKey_put_same ho.isMap hkl]
    · rw [if_neg e] at hy
      rw [Maps.atKey_put_other (K.ne e), ha y u hy]

/-- delete(m, k). -/
theorem MapG.del [DecidableEq α] (h : MapG K w m f n) {t e : TypeId} (ht : Tryz.prog.underlying t = some (.map K.ty e)) (x : α) (hx : K.fit x) (hi : (f x).isSome = true) (k2 ty : TypeId) :
    ∃ w', (Builtin.delete_ #[t, k2] ty #[.map (some m), K.val x]).run Tryz.prog w = .ok (.tuple #[]) w' ∧ MapG K w' m (gdel f x) (n - 1) ∧ w.grownBy w' (some m) := by
  obtain ⟨D, ho, hsz, hh, ha⟩ := h
  obtain ⟨w', hrun, h1, h2⟩ := ho.drop K.keyed ht (K.key x hx) ty
  have hsz' : Maps.size (D.del (K.lit x)) = n - 1 := by
    have := Maps.size_del (k := K.lit x) (ho.tidy K.keyed)
    rw [hh, hi, hsz] at this
    simp at this
    omega
  refine ⟨w', hrun, ⟨_, ?_, hsz', ?_, ?_⟩, h2.grown⟩
  · rw [← hsz']
    exact ownG_tight h1
  · intro y
    unfold gdel
    by_cases e : y = x
    · rw [if_pos e, e, Maps.has_del_same]
      rfl
    · rw [if_neg e, Maps.has_del_other (K.ne e), hh]
  · intro y u hy zd
    unfold gdel at hy
    by_cases e : y = x
    · rw [if_pos e] at hy
      cases hy
    · rw [if_neg e] at hy
      rw [Maps.atKey_del_other (K.ne e), ha y u hy]
end

end Go.Proofs.YtofbphmdkhocdaaGreat
