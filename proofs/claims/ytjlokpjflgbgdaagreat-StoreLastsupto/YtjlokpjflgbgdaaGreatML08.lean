/-
  Several texts, laid together.
-/
import Derived.Test.YtjlokpjflgbgdaaGreatML07
set_option maxHeartbeats 6400000
set_option maxRecDepth 100000
namespace Go.Proofs.YtjlokpjflgbgdaaGreat
variable {d : Dk}
theorem next_after (d : Dk) : (dnext d).1.after <= d.after := by
 unfold dnext
 split
 ·exact Nat.le_refl _
 ·split
  ·exact Nat.le_refl _
  ·show (if d.armed then d.after - 1 else d.after) <= d.after
   split <;> omega
theorem next_writes (d : Dk) : (dnext d).1.writes <= d.writes + 1 := by
 unfold dnext
 split
 ·exact Nat.le_succ _
 ·split
  ·exact Nat.le_succ _
  ·exact Nat.le_refl _
theorem Dk.ok.next (h : d.ok) : (dnext d).1.ok := by
 have e := dnext_files d
 exact ⟨by rw [e]; exact h.rise, by rw [e]; exact h.few, by rw [e]; exact h.each, Nat.lt_of_le_of_lt (next_after d) h.after⟩
theorem Dk.ok.with {d' : Dk} (h : d.ok) (h' : d'.ok) {n bs : Bs} (hn : isName n = true) (hb : bs.length <= 262144) (hf : fget d.files n ≠ none ∨ d.files.length < 32) : ({ d' with files := fwith d.files n bs } : Dk).ok := by
 refine ⟨rise_with n bs h.rise, ?_, ?_, h'.after⟩
 ·show (fwith d.files n bs).length <= 32
  rw [kwith_len n bs h.rise]
  have := h.few
  cases e : fget d.files n with
  | none =>
   have : d.files.length < 32 := hf.elim (λ q => absurd e q) id
   simp
   omega
  | some _ => simpa using this
 ·intro f hf
  rcases mem_fwith _ _ _ _ hf with rfl | q
  ·exact ⟨hn, hb⟩
  ·exact h.each f q
theorem ok_lay (h : d.ok) {n own more : Bs} : (dlay d n own more).1.ok := by
 unfold dlay
 split
 ·exact h
 ·rename_i hn
  have hn' : isName n = true := by simpa using hn
  split
  ·exact h
  ·rename_i hf
   have hlen : own.length + more.length <= 262144 := by omega
   have hroom : fget d.files n ≠ none ∨ d.files.length < 32 := by
    by_cases q : fget d.files n = none
    ·exact .inr (by have : ¬ 32 <= d.files.length := λ r => hf (.inr ⟨q, r⟩); omega)
    ·exact .inl q
   split
   ·exact h.with h.next hn' (by simp; omega) hroom
   ·split
    ·exact h.with h.next hn' (by simp; omega) hroom
    ·exact h.next
theorem ok_app (h : d.ok) (n v : Bs) : (dapp d n v).1.ok := ok_lay h
theorem wr_lay (d : Dk) (n own more : Bs) : (dlay d n own more).1.writes <= d.writes + 1 := by
 unfold dlay
 repeat' split
 all_goals first | exact next_writes d | exact Nat.le_succ _
end Go.Proofs.YtjlokpjflgbgdaaGreat

namespace Go.Proofs.YtjlokpjflgbgdaaGreat
open Go.RowKit
theorem sput_cases (st : St) (d : Dk) (k : Int) (b : Bs) (h4 : k ≠ 4) (h5 : k ≠ 5) :
  (oget st.objs k (oid k b) = some b /\ sput st d k b = ((st, d), oid k b, 0)) ∨
  (∃ e, e ≠ 0 /\ (sput st d k b).2.2 = e /\ (sput st d k b).1.1 = st /\ ((sput st d k b).1.2 = d ∨ (sput st d k b).1.2 = (dapp d fileN (fseal (k, b)).1).1)) ∨
  (oget st.objs k (oid k b) = none /\ sput st d k b = (({ st with objs := st.objs ++ [⟨k, oid k b, b⟩] }, (dapp d fileN (fseal (k, b)).1).1), oid k b, 0)) := by
 cases e : oget st.objs k (oid k b) with
 | some old =>
  by_cases ho : old = b
  ·subst ho
   left
   refine ⟨rfl, ?_⟩
   unfold sput
   rw [e]
   simp
  ·right; left
   refine ⟨13, by decide, ?_⟩
   unfold sput
   rw [e]
   simp [ho]
 | none =>
  by_cases h0 : oid k b = 0
  ·right; left
   refine ⟨13, by decide, ?_⟩
   unfold sput
   rw [e]
   simp [h0]
  ·by_cases hc : (dapp d fileN (fseal (k, b)).1).2 = 0
   ·right; right
    refine ⟨rfl, ?_⟩
    unfold sput
    rw [e]
    simp only [h0, if_false]
    unfold sapp
    simp only [hc, if_true]
    unfold St.take
    simp [h4, h5]
   ·right; left
    refine ⟨(dapp d fileN (fseal (k, b)).1).2, hc, ?_⟩
    unfold sput
    rw [e]
    simp only [h0, if_false]
    unfold sapp
    simp [hc]
theorem sput_got {st : St} {d : Dk} {k : Int} {b : Bs} (h4 : k ≠ 4) (h5 : k ≠ 5) (h : (sput st d k b).2.2 = 0) : oget (sput st d k b).1.1.objs k (oid k b) = some b /\ (sput st d k b).2.1 = oid k b := by
 rcases sput_cases st d k b h4 h5 with ⟨g, e⟩ | ⟨e, h0, h1, _⟩ | ⟨g, e⟩
 ·rw [e]; exact ⟨g, rfl⟩
 ·rw [h] at h1; exact absurd h1.symm h0
 ·rw [e]
  refine ⟨?_, rfl⟩
  show oget (st.objs ++ [⟨k, oid k b, b⟩]) k (oid k b) = some b
  rw [oget_snoc, g]
  simp
theorem has_get {st : St} {k : Int} {i : UInt64} : st.has k i = true ↔ ∃ b, oget st.objs k i = some b := by
 unfold St.has
 rw [Option.isSome_iff_exists]
structure More (st st' : St) (d d' : Dk) : Prop where
 size : st'.size <= st.size + 1
 writes : d'.writes <= d.writes + 1
 ok : d.ok -> d'.ok
theorem More.same (st : St) (d : Dk) : More st st d d := ⟨by omega, by omega, λ h => h⟩
theorem sput_more (st : St) (d : Dk) (k : Int) (b : Bs) (h4 : k ≠ 4) (h5 : k ≠ 5) : More st (sput st d k b).1.1 d (sput st d k b).1.2 := by
 have wr : (dapp d fileN (fseal (k, b)).1).1.writes <= d.writes + 1 := wr_lay _ _ _ _
 rcases sput_cases st d k b h4 h5 with ⟨_, e⟩ | ⟨_, _, _, e, e2 | e2⟩ | ⟨_, e⟩
 ·rw [e]; exact More.same _ _
 ·rw [e, e2]; exact More.same _ _
 ·rw [e, e2]; exact ⟨by omega, wr, λ h => ok_app h _ _⟩
 ·rw [e]
  refine ⟨?_, wr, λ h => ok_app h _ _⟩
  unfold St.size
  simp
  omega
theorem sblob_more (st : St) (d : Dk) (b : Bs) : More st (sblob st d b).1.1 d (sblob st d b).1.2 := by
 unfold sblob
 split
 ·exact More.same _ _
 ·exact sput_more st d 1 b (by decide) (by decide)
theorem stree_more (st : St) (d : Dk) (es : List En) : More st (stree st d es).1.1 d (stree st d es).1.2 := by
 unfold stree
 split
 ·exact More.same _ _
 ·split
  ·exact More.same _ _
  ·exact sput_more st d 2 _ (by decide) (by decide)
theorem scom_more (st : St) (d : Dk) (c : Cm) : More st (scom st d c).1.1 d (scom st d c).1.2 := by
 unfold scom
 split
 ·exact More.same _ _
 ·split
  ·exact More.same _ _
  ·exact sput_more st d 3 _ (by decide) (by decide)
end Go.Proofs.YtjlokpjflgbgdaaGreat

namespace Go.Proofs.YtjlokpjflgbgdaaGreat
open Go.RowKit
structure KeyK (α : Type) where
 ty : TypeId
 val : α -> Value
 lit : α -> Lit
 fit : α -> Prop
 keyed : Maps.Keyed Tryz.prog ty
 key : ∀ x, fit x -> keyOf Tryz.prog ty (val x) = some (lit x)
 inj : ∀ {x y}, lit x = lit y -> x = y
def kU : KeyK UInt64 where
 ty := 56
 val := λ x => .int .u64 (x.toNat : Int)
 lit := λ x => .int .u64 (x.toNat : Int)
 fit := λ _ => True
 keyed := Maps.int_keyed Tryz.underlying56
 key := λ x _ => Maps.keyOf_int_mk Tryz.underlying56 (by
  have := x.toNat_lt
  simp [Lit.wf, IntKind.min, IntKind.max, IntKind.signed, IntKind.bits]
  omega)
 inj := λ {x y} h => by
  injection h with _ h
  exact UInt64.toNat_inj.1 (by omega)
def kS : KeyK Bs where
 ty := 9
 val := λ x => .string ⟨x.toArray⟩
 lit := λ x => .string x
 fit := λ x => x.length <= maxLen
 keyed := keyedS
 key := λ x h => key_of ⟨x.toArray⟩ (by simpa [ByteArray.size] using h)
 inj := λ h => by cases h; rfl
section
variable {α : Type} (K : KeyK α)
def MapG (w : World) (m : Nat) (f : α -> Option Value) (n : Nat) : Prop :=
 ∃ D : DataW Value, w.ownsMap Tryz.prog K.ty heldR m n D /\ Maps.size D = n /\ (∀ x, Maps.has D (K.lit x) = (f x).isSome) /\ ∀ x v, f x = some v -> ∀ zd, D.atKey (K.lit x) zd = .held v
variable {K} {w w' : World} {m n : Nat} {f : α -> Option Value}
theorem ownG_tight {D : DataW Value} (h : w.ownsMap Tryz.prog K.ty heldR m n D) : w.ownsMap Tryz.prog K.ty heldR m (Maps.size D) D := by
 obtain ⟨es, clock, hb, F, _, rfl⟩ := h
 refine ⟨es, clock, hb, F, ?_, rfl⟩
 simp [Maps.size, length_sorted]
theorem MapG.block (h : MapG K w m f n) : ∃ es clock, w.heap[m]? = some (.map es clock) := by
 obtain ⟨D, ⟨es, clock, hb, _⟩, _⟩ := h
 exact ⟨es, clock, hb⟩
theorem MapG.turned {S : Nat -> Prop} (h : MapG K w m f n) (ht : Turned S w w') (hS : ¬ S m) : MapG K w' m f n := by
 obtain ⟨D, ⟨es, clock, hb, r⟩, q⟩ := h
 exact ⟨D, ⟨es, clock, (ht.block m (Array.getElem?_eq_some_iff.1 hb).1 hS).trans hb, r⟩, q⟩
theorem MapG.new (hm : w.heap[m]? = some (.map #[] 0)) : MapG K w m (λ _ => none) 0 :=
 ⟨.map [], ⟨#[], 0, hm, ⟨by simp, MapKept.stamped_empty 0, by simp⟩, Nat.le_refl _, rfl⟩, rfl, λ _ => rfl, λ _ _ h => by cases h⟩
theorem MapG.look (h : MapG K w m f n) {t e : TypeId} (ht : Tryz.prog.underlying t = some (.map K.ty e)) {z : Value} (hz : (zeroValue e).run Tryz.prog w = .ok z w) (x : α) (hx : K.fit x) :
  (Instr.lookup t (.map (some m)) (K.val x) true).run Tryz.prog w = .ok (.tuple #[(f x).getD z, .bool (f x).isSome]) w := by
 obtain ⟨D, ho, _, hh, ha⟩ := h
 obtain ⟨v, ps, hrun, hv⟩ := ho.look_ok K.keyed ht hz (zd := .held z) (zp := []) rfl (K.key x hx)
 rw [hrun, hh]
 have e : DataW.held v = D.atKey (K.lit x) (.held z) := by
  have := Option.some.inj hv
  exact congrArg Prod.fst this
 cases hf : f x with
 | none =>
  rw [Maps.atKey_of_not_has (by rw [hh, hf]; rfl)] at e
  cases e
  rfl
 | some u =>
  rw [ha _ u hf] at e
  cases e
  rfl
def gput [DecidableEq α] (f : α -> Option Value) (x : α) (v : Value) : α -> Option Value := λ y => if y = x then some v else f y
def gdel [DecidableEq α] (f : α -> Option Value) (x : α) : α -> Option Value := λ y => if y = x then none else f y
theorem KeyK.ne (K : KeyK α) {x y : α} (h : y ≠ x) : K.lit y ≠ K.lit x := λ e => h (K.inj e)
theorem MapG.put [DecidableEq α] (h : MapG K w m f n) {t e : TypeId} (ht : Tryz.prog.underlying t = some (.map K.ty e)) (x : α) (hx : K.fit x) (hn : n < maxLen) (v : Value) :
  ∃ w', (Instr.mapUpdate t (.map (some m)) (K.val x) v).run Tryz.prog w = .ok () w' /\ MapG K w' m (gput f x v) (if (f x).isSome then n else n + 1) /\ w.grownBy w' (some m) := by
 obtain ⟨D, ho, hsz, hh, ha⟩ := h
 obtain ⟨w', hrun, h1, h2⟩ := ho.update K.keyed ht hn (K.key x hx) (d := .held v) (ps := []) (val := v) rfl
 have hkl : WideAt.IsKeyLit (K.lit x) := K.keyed.key (K.key x hx)
 have hsz' : Maps.size (D.put (K.lit x) (.held v)) = if (f x).isSome then n else n + 1 := by
  rw [Maps.size_put (ho.tidy K.keyed), hh, hsz]
 refine ⟨w', hrun, ⟨_, ?_, hsz', ?_, ?_⟩, h2⟩
 ·rw [<- hsz']
  exact ownG_tight h1
 ·intro y
  unfold gput
  by_cases e : y = x
  ·rw [if_pos e, e, Maps.has_put_same ho.isMap hkl]
   rfl
  ·rw [if_neg e, Maps.has_put_other (K.ne e), hh]
 ·intro y u hy zd
  unfold gput at hy
  by_cases e : y = x
  ·rw [if_pos e] at hy
   cases hy
   rw [e, Maps.atKey_put_same ho.isMap hkl]
  ·rw [if_neg e] at hy
   rw [Maps.atKey_put_other (K.ne e), ha y u hy]
theorem MapG.del [DecidableEq α] (h : MapG K w m f n) {t e : TypeId} (ht : Tryz.prog.underlying t = some (.map K.ty e)) (x : α) (hx : K.fit x) (hi : (f x).isSome = true) (k2 ty : TypeId) :
  ∃ w', (Builtin.delete_ #[t, k2] ty #[.map (some m), K.val x]).run Tryz.prog w = .ok (.tuple #[]) w' /\ MapG K w' m (gdel f x) (n - 1) /\ w.grownBy w' (some m) := by
 obtain ⟨D, ho, hsz, hh, ha⟩ := h
 obtain ⟨w', hrun, h1, h2⟩ := ho.drop K.keyed ht (K.key x hx) ty
 have hsz' : Maps.size (D.del (K.lit x)) = n - 1 := by
  have := Maps.size_del (k := K.lit x) (ho.tidy K.keyed)
  rw [hh, hi, hsz] at this
  simp at this
  omega
 refine ⟨w', hrun, ⟨_, ?_, hsz', ?_, ?_⟩, h2.grown⟩
 ·rw [<- hsz']
  exact ownG_tight h1
 ·intro y
  unfold gdel
  by_cases e : y = x
  ·rw [if_pos e, e, Maps.has_del_same]
   rfl
  ·rw [if_neg e, Maps.has_del_other (K.ne e), hh]
 ·intro y u hy zd
  unfold gdel at hy
  by_cases e : y = x
  ·rw [if_pos e] at hy
   cases hy
  ·rw [if_neg e] at hy
   rw [Maps.atKey_del_other (K.ne e), ha y u hy]
end
end Go.Proofs.YtjlokpjflgbgdaaGreat

namespace Go.Proofs.YtjlokpjflgbgdaaGreat
open Go.RowKit
end Go.Proofs.YtjlokpjflgbgdaaGreat
