/-
  Filters as functions on lists of bytes: positions, bits, what a filter says. No program.
-/
import Derived.Test.YtkoelofjgceohaaIds
import Derived.Test.YtkoelofjgceohaaPSmall
import Derived.Test.YtkoelofjgceohaaGBytes
namespace Go.Proofs.Ytkoelofjgceohaa
open Go.RowKit

/-- The ID that a text's positions are spread from. -/
def pid (p : Bs) : Int := idFold (idStep 14695981039346656037 9) (p.map fun b => (b.toNat : Int))
def pos1 (p : Bs) (m : Int) (i : Nat) : Int := spread (pid p) i % m
/-- The positions of a text in m bits. -/
def poss (p : Bs) (m : Int) : List Int := if m < 1 then [] else [pos1 p m 0, pos1 p m 1, pos1 p m 2]

theorem spread_range (a b : Int) : 0 ≤ spread a b ∧ spread a b < 18446744073709551616 := by
  show 0 ≤ IntKind.u64.wrap _ ∧ IntKind.u64.wrap _ < _
  rw [IntKind.wrap_u64]
  omega

theorem pos1_range (p : Bs) {m : Int} (hm : 1 ≤ m) (i : Nat) : 0 ≤ pos1 p m i ∧ pos1 p m i < m :=
  ⟨Int.emod_nonneg _ (by omega), Int.emod_lt_of_pos _ (by omega)⟩

theorem poss_len {p : Bs} {m : Int} (hm : 1 ≤ m) : (poss p m).length = 3 := by
  have h : ¬ m < 1 := by omega
  simp [poss, h]
theorem poss_none {p : Bs} {m : Int} (hm : m < 1) : poss p m = [] := by simp [poss, hm]
theorem poss_le (p : Bs) (m : Int) : (poss p m).length ≤ 3 := by unfold poss; split <;> simp
theorem poss_get (p : Bs) {m : Int} (hm : 1 ≤ m) {i : Nat} (hi : i < 3) : (poss p m)[i]? = some (pos1 p m i) := by
  have : ¬ m < 1 := by omega
  match i, hi with
  | 0, _ => simp [poss, this]
  | 1, _ => simp [poss, this]
  | 2, _ => simp [poss, this]
theorem poss_mem {p : Bs} {m z : Int} (h : z ∈ poss p m) : 0 ≤ z ∧ z < m := by
  unfold poss at h
  split at h
  · cases h
  · rename_i q
    simp only [List.mem_cons, List.not_mem_nil, or_false] at h
    rcases h with rfl | rfl | rfl <;> exact pos1_range p (by omega) _

/-- A byte of eight bits, the lowest first. -/
def bitsOf (f : Nat → Bool) : Nat := (f 0).toNat + 2 * (f 1).toNat + 4 * (f 2).toNat + 8 * (f 3).toNat + 16 * (f 4).toNat + 32 * (f 5).toNat + 64 * (f 6).toNat + 128 * (f 7).toNat

theorem bitsOf_lt (f : Nat → Bool) : bitsOf f < 256 := by
  unfold bitsOf
  have h : ∀ b : Bool, b.toNat ≤ 1 := by decide
  have := h (f 0); have := h (f 1); have := h (f 2); have := h (f 3); have := h (f 4); have := h (f 5); have := h (f 6); have := h (f 7)
  omega

theorem bit_bits8 (b0 b1 b2 b3 b4 b5 b6 b7 : Bool) (f : Nat → Bool) (h0 : f 0 = b0) (h1 : f 1 = b1) (h2 : f 2 = b2) (h3 : f 3 = b3) (h4 : f 4 = b4) (h5 : f 5 = b5) (h6 : f 6 = b6) (h7 : f 7 = b7) (k : Nat) (hk : k < 8) : (bitsOf f / 2 ^ k % 2 == 1) = f k := by
  have key : ∀ b0 b1 b2 b3 b4 b5 b6 b7 : Bool, ∀ k : Fin 8, ((b0.toNat + 2 * b1.toNat + 4 * b2.toNat + 8 * b3.toNat + 16 * b4.toNat + 32 * b5.toNat + 64 * b6.toNat + 128 * b7.toNat) / 2 ^ k.val % 2 == 1) =
    (match k.val with | 0 => b0 | 1 => b1 | 2 => b2 | 3 => b3 | 4 => b4 | 5 => b5 | 6 => b6 | _ => b7) := by decide +kernel
  have := key b0 b1 b2 b3 b4 b5 b6 b7 ⟨k, hk⟩
  unfold bitsOf
  rw [h0, h1, h2, h3, h4, h5, h6, h7, this]
  match k, hk with
  | 0, _ => exact h0.symm
  | 1, _ => exact h1.symm
  | 2, _ => exact h2.symm
  | 3, _ => exact h3.symm
  | 4, _ => exact h4.symm
  | 5, _ => exact h5.symm
  | 6, _ => exact h6.symm
  | 7, _ => exact h7.symm

theorem bitsOf_bit (f : Nat → Bool) {k : Nat} (hk : k < 8) : (bitsOf f / 2 ^ k % 2 == 1) = f k := by
  exact bit_bits8 (f 0) (f 1) (f 2) (f 3) (f 4) (f 5) (f 6) (f 7) f rfl rfl rfl rfl rfl rfl rfl rfl k hk

theorem or_bits8 : ∀ (b0 b1 b2 b3 b4 b5 b6 b7 : Bool) (k : Fin 8), bits BinOp.or IntKind.u8 ((b0.toNat + 2 * b1.toNat + 4 * b2.toNat + 8 * b3.toNat + 16 * b4.toNat + 32 * b5.toNat + 64 * b6.toNat + 128 * b7.toNat : Nat) : Int) ((2 ^ k.val : Nat) : Int) =
    (((b0 || k.val == 0).toNat + 2 * (b1 || k.val == 1).toNat + 4 * (b2 || k.val == 2).toNat + 8 * (b3 || k.val == 3).toNat + 16 * (b4 || k.val == 4).toNat + 32 * (b5 || k.val == 5).toNat + 64 * (b6 || k.val == 6).toNat + 128 * (b7 || k.val == 7).toNat : Nat) : Int) := by decide +kernel

/-- One bit more. -/
theorem or_bitsOf (f : Nat → Bool) {k : Nat} (hk : k < 8) : bits BinOp.or IntKind.u8 (bitsOf f : Int) ((2 ^ k : Nat) : Int) = (bitsOf (fun i => f i || k == i) : Int) :=
  or_bits8 (f 0) (f 1) (f 2) (f 3) (f 4) (f 5) (f 6) (f 7) ⟨k, hk⟩

theorem and_bits8 : ∀ (b : Fin 256) (k : Fin 8), (bits BinOp.and IntKind.u8 ((b.val : Nat) : Int) ((2 ^ k.val : Nat) : Int) == 0) = !(b.val / 2 ^ k.val % 2 == 1) := by decide +kernel

/-- One bit looked at. -/
theorem and_bit (b : UInt8) {k : Nat} (hk : k < 8) : (bits BinOp.and IntKind.u8 ((b.toNat : Nat) : Int) ((2 ^ k : Nat) : Int) == 0) = !(b.toNat / 2 ^ k % 2 == 1) :=
  and_bits8 ⟨b.toNat, b.toNat_lt⟩ ⟨k, hk⟩

/-- The byte j of a filter whose bits at these positions are 1. -/
def fbyte (ones : List Int) (j : Nat) : UInt8 := UInt8.ofNat (bitsOf fun k => ones.contains ((8 * j + k : Nat) : Int))
def fbytes (ones : List Int) (n : Nat) : Bs := (List.range n).map (fbyte ones)

theorem fbyte_nat (ones : List Int) (j : Nat) : (fbyte ones j).toNat = bitsOf fun k => ones.contains ((8 * j + k : Nat) : Int) := by
  rw [fbyte, UInt8.toNat_ofNat']
  exact Nat.mod_eq_of_lt (bitsOf_lt _)

theorem fbytes_len (ones : List Int) (n : Nat) : (fbytes ones n).length = n := by simp [fbytes]
theorem fbytes_get (ones : List Int) {n j : Nat} (h : j < n) : (fbytes ones n)[j]? = some (fbyte ones j) := by simp [fbytes, h]

theorem fbyte_none (j : Nat) : fbyte [] j = 0 := by
  apply UInt8.toNat_inj.1
  rw [fbyte_nat]
  rfl
theorem fbytes_none (n : Nat) : fbytes [] n = List.replicate n 0 := by
  apply List.ext_getElem?
  intro j
  by_cases h : j < n
  · rw [fbytes_get _ h, fbyte_none, List.getElem?_replicate, if_pos h]
  · rw [List.getElem?_eq_none (by rw [fbytes_len]; omega), List.getElem?_eq_none (by simp; omega)]

/-- One position more. -/
theorem fbyte_or (ones : List Int) (z : Nat) : bits BinOp.or IntKind.u8 ((fbyte ones (z / 8)).toNat : Int) ((2 ^ (z % 8) : Nat) : Int) = ((fbyte (ones ++ [(z : Int)]) (z / 8)).toNat : Int) := by
  rw [fbyte_nat, fbyte_nat, or_bitsOf _ (Nat.mod_lt _ (by decide))]
  congr 2
  funext k
  by_cases h : z % 8 = k
  · have e : (8 * (z / 8) + k : Nat) = z := by omega
    rw [e]
    simp [h]
  · have e : ((8 * (z / 8) + k : Nat) : Int) ≠ (z : Int) := by omega
    have h' : (z % 8 == k) = false := by simpa using h
    rw [h', Bool.or_false, Bool.eq_iff_iff, List.contains_iff_mem, List.contains_iff_mem, List.mem_append, List.mem_singleton]
    exact ⟨.inl, fun q => q.resolve_right e⟩

theorem fbyte_other (ones : List Int) (z j : Nat) (h : j ≠ z / 8) : fbyte (ones ++ [(z : Int)]) j = fbyte ones j := by
  apply UInt8.toNat_inj.1
  rw [fbyte_nat, fbyte_nat]
  have key : ∀ k, k < 8 → (ones ++ [(z : Int)]).contains ((8 * j + k : Nat) : Int) = ones.contains ((8 * j + k : Nat) : Int) := by
    intro k hk
    have e : ((8 * j + k : Nat) : Int) ≠ (z : Int) := by omega
    rw [Bool.eq_iff_iff, List.contains_iff_mem, List.contains_iff_mem, List.mem_append, List.mem_singleton]
    exact ⟨fun q => q.resolve_right e, .inl⟩
  simp only [bitsOf]
  rw [key 0 (by decide), key 1 (by decide), key 2 (by decide), key 3 (by decide), key 4 (by decide), key 5 (by decide), key 6 (by decide), key 7 (by decide)]

theorem fbytes_set (ones : List Int) (n z : Nat) (h : z / 8 < n) : (fbytes ones n).set (z / 8) (fbyte (ones ++ [(z : Int)]) (z / 8)) = fbytes (ones ++ [(z : Int)]) n := by
  apply List.ext_getElem?
  intro j
  by_cases hj : j < n
  · rw [fbytes_get _ hj, List.getElem?_set, fbytes_len]
    by_cases e : z / 8 = j
    · rw [if_pos e, if_pos h, e]
    · rw [if_neg e, fbytes_get _ hj, fbyte_other _ _ _ (fun q => e q.symm)]
  · rw [List.getElem?_eq_none (by simp [fbytes_len]; omega), List.getElem?_eq_none (by rw [fbytes_len]; omega)]

/-- How many bits a filter has. -/
def fbits (f : Bs) : Int := if f.length = 0 ∨ f[0]? ≠ some 1 then 0 else 8 * ((f.length : Int) - 1)
/-- The bit at a position of a filter. -/
def fbit (f : Bs) (z : Int) : Bool := (f.getD (1 + z.toNat / 8) 0).toNat / 2 ^ (z.toNat % 8) % 2 == 1
/-- What a filter says of a text. -/
def fmaybe (f p : Bs) : Bool := (poss p (fbits f)).all (fbit f)

theorem fbits_made (ones : List Int) (n : Nat) : fbits (1 :: fbytes ones n) = 8 * (n : Int) := by
  simp [fbits, fbytes_len]
theorem fbits_wide : fbits [2] = 0 := by decide

theorem fbit_made (ones : List Int) {n : Nat} {z : Int} (h0 : 0 ≤ z) (h1 : z < 8 * (n : Int)) : fbit (1 :: fbytes ones n) z = ones.contains z := by
  obtain ⟨k, rfl⟩ : ∃ k : Nat, z = k := ⟨z.toNat, by omega⟩
  have hk : k / 8 < n := by omega
  unfold fbit
  have e : (1 :: fbytes ones n).getD (1 + (k : Int).toNat / 8) 0 = fbyte ones (k / 8) := by
    rw [List.getD_eq_getElem?_getD, Nat.add_comm 1, List.getElem?_cons_succ, Int.toNat_natCast, fbytes_get _ hk]
    rfl
  rw [e, fbyte_nat, Int.toNat_natCast, bitsOf_bit _ (Nat.mod_lt _ (by decide))]
  congr 2
  omega

theorem fmaybe_wide (p : Bs) : fmaybe [2] p = true := by
  rw [fmaybe, fbits_wide, poss_none (by decide)]
  rfl

theorem xtake_snoc {α : Type} {l : List α} {i : Nat} {x : α} (h : l[i]? = some x) : l.take (i + 1) = l.take i ++ [x] := by
  rw [List.take_add_one, h]
  rfl

end Go.Proofs.Ytkoelofjgceohaa
