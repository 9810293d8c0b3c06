/-
  Several texts, laid together.
-/
import Derived.Test.YtofbphmdkhocdaaGreatM02
import Derived.Lib.AppendZeros
import Derived.Lib.SlBytesConst
import Derived.Laws.IdiomStrings
import Derived.Deep.RegionHeld3

/-
  A region whose order is drawn, walked once in the order of its text over all worlds that meet a condition. No program.
-/
namespace Go.Proofs.YtofbphmdkhocdaaGreat
open Go.RowKit

/-- A world that meets a condition. -/
structure SW (S : World → Prop) where
  w : World
  ok : S w

/-- One walk in the order of the text, in every world that meets the condition. -/
theorem wp_region_class {P : Program} {S : World → Prop} {id : Nat} {Q : Exit → Act → World → Prop} {a : Act} {w : World} {l : List Oper} (hm : P.follows .mixedOrders = true) (hB : Region.lexB .any l.toArray = true) (h0 : S w.drew)
    (h : wpQuiet P l.toArray (fun w' => ∃ u : SW S, w' = u.w) (fun a' => ∀ w', (∃ u : SW S, w' = u.w) → Q .normal a' w') l a) : (Code.region id l.toArray true).wp P Q a w :=
  wp_region_quiet (C := fun w' => ∃ u : SW S, w' = u.w) hm hB ⟨⟨w.drew, h0⟩, rfl⟩ (by simpa using h)

end Go.Proofs.YtofbphmdkhocdaaGreat

/-
  Bytes in memory: those that can be read, those in a row of the call's own; texts of bytes and bytes of texts; pieces, copies, parts put together (slices.Clone, Grow and Concat where the cut has them). No program but the numbers of types; no condition but that what is made fits any memory.
-/
namespace Go.Proofs.YtofbphmdkhocdaaGreat
open Go.RowKit

/-- Bytes. -/
def encB : Enc UInt8 := ⟨fun b => [.int .u8 (b.toNat : Int)], 1, fun _ => rfl, by decide, by intro x u h; simp at h; subst h; rfl⟩

/-- A slice of bytes that can be read. -/
def BAt (w : World) (v : Value) (bs : Bs) : Prop := ∃ ao c, v = .slice ao bs.length c ∧ bs.length ≤ c ∧ c ≤ 9223372036854775807 ∧ RdG encB w ao bs

/-- A slice of bytes in a row of its own. -/
abbrev OwnB (w : World) (v : Value) (bs : Bs) : Prop := OwnG encB 5 w 0 v bs

theorem OwnB.at {w : World} {v : Value} {bs : Bs} (h : OwnB w v bs) : BAt w v bs := by
  obtain ⟨ao, c, e, h1, h2, h3, _⟩ := OwnG.form h
  exact ⟨ao, c, e, h1, h2, h3⟩

theorem BAt.below {w w' : World} {v : Value} {bs : Bs} (h : BAt w v bs) (hb : Below w.heap.size w w') : BAt w' v bs := by
  obtain ⟨ao, c, e, h1, h2, h3⟩ := h
  exact ⟨ao, c, e, h1, h2, h3.below hb⟩

theorem below_drew {w w' : World} (h : Below w.drew.heap.size w.drew w') : Below w.heap.size w w' := ⟨h.os, h.tape, h.output, h.size, h.block⟩

theorem Tryz.info5 : (Tryz.prog.info? 5).map (fun i => (i.zero, i.size, i.bytes)) = some (some (.int .u8 0), 1, 1) := by kernel_rfl

theorem ownB_zero (w : World) : OwnG encB 5 (w.alloc (.cells #[] 5)) w.heap.size (.slice (some ⟨w.heap.size, 0, none⟩) 0 0) [] :=
  World.ownsRow_made w #[] 0 (Nat.le_refl _) (Nat.zero_le _) rfl

/-- Bytes more behind a row of the call's own. -/
theorem appB {ops : Array Oper} {rest : List Oper} {o : Oper} {a : Act} {w : World} {Q : Exit → Act → World → Prop} (hgd : o.guard = none) (s x : Operand)
    (hop : o.op = .call { callee := .builtin .append, args := #[s, x], argTypes := #[94, 94] }) (base : Nat) (v u : Value) (ss xs : Bs) (hs : a.eval s = v) (hown : OwnG encB 5 w base v ss)
    (hx : a.eval x = u) (hr : BAt w u xs) (hlen : ss.length + xs.length ≤ 140737488355328) (hb : base ≤ w.heap.size)
    (h : ∀ v' w', OwnG encB 5 w' base v' (ss ++ xs) → Below base w w' → Moved w v v' → Turned (fun k => v.ownBlock = some k) w w' → wpList Tryz.prog ops Q rest (a.put o.dst v') w') :
    wpList Tryz.prog ops Q (o :: rest) a w := by
  obtain ⟨ao, c, rfl, h1, h2, h3⟩ := hr
  exact appG_list encB 5 94 1 (.int .u8 0) rfl Tryz.info5 Tryz.underlying94 hgd s x hop base v ss xs ao _ c hs hown hx h3 rfl (by omega) (by simp only [maxLen]; omega) hb h

/-- Parts: a list of slices of bytes. -/
def PartsB (w : World) (v : Value) (xss : List Bs) : Prop := ∃ ao c, v = .slice ao xss.length c ∧ (0 < xss.length → ∃ b off, ao = some ⟨b, off, none⟩ ∧ b < w.heap.size) ∧
  ∀ j x b off, xss[j]? = some x → ao = some ⟨b, off, none⟩ → ∃ u, w.cell? ⟨b, off + j, none⟩ = some u ∧ BAt w u x

theorem PartsB.below {w w' : World} {v : Value} {xss : List Bs} (h : PartsB w v xss) (hb : Below w.heap.size w w') : PartsB w' v xss := by
  obtain ⟨ao, c, e, h1, h2⟩ := h
  refine ⟨ao, c, e, fun h0 => ?_, fun j x b off hj ha => ?_⟩
  · obtain ⟨b, off, e, hlt⟩ := h1 h0
    exact ⟨b, off, e, Nat.lt_of_lt_of_le hlt hb.size⟩
  · obtain ⟨u, hu, hx⟩ := h2 j x b off hj ha
    have hlt : b < w.heap.size := by
      obtain ⟨b', off', e', hlt⟩ := h1 (by rcases Nat.lt_or_ge j xss.length with q | q
                                           · omega
                                           · rw [List.getElem?_eq_none q] at hj; cases hj)
      rw [ha] at e'
      cases e'
      exact hlt
    exact ⟨u, (hb.cell hlt).trans hu, hx.below hb⟩

theorem flat_take {xss : List Bs} {i : Nat} {x : Bs} (h : xss[i]? = some x) : (xss.take (i + 1)).flatten = (xss.take i).flatten ++ x := by
  rw [List.take_add_one, h]
  simp

theorem parts_le (xss : List Bs) (i : Nat) : (xss.take i).flatten.length ≤ xss.flatten.length := by
  have : xss.flatten = (xss.take i).flatten ++ (xss.drop i).flatten := by rw [← List.flatten_append, List.take_append_drop]
  rw [this]
  simp

theorem get_some {α : Type} {xs : List α} {i n : Nat} (hl : xs.length = n) (hi : i < n) : ∃ x, xs[i]? = some x := ⟨xs[i]'(by omega), List.getElem?_eq_getElem (by omega)⟩

abbrev tx (n : Bs) : Value := .string ⟨n.toArray⟩

set_option maxRecDepth 100000 in
/-- string(b). -/
theorem conv_str {w : World} {v : Value} {bs : Bs} (h : BAt w v bs) : (convert 94 9 v).run Tryz.prog w = .ok (tx bs) w := by
  obtain ⟨ao, c, rfl, h1, h2, h3⟩ := h
  by_cases h0 : 0 < bs.length
  · obtain ⟨b, off, rfl, hlt, hc⟩ := h3 h0
    refine run_convert_bytes_back (P := Tryz.prog) w 94 9 5 ⟨b, off, none⟩ c bs Tryz.underlying94 Tryz.underlying5 Tryz.underlying9 (fun j hj => ?_)
    have := hc j bs[j] (List.getElem?_eq_getElem hj) 0 _ rfl
    rw [addr_plus]
    have e : off + (j * encB.size + 0) = off + j := by show off + (j * 1 + 0) = off + j; omega
    rw [e] at this
    exact this
  · obtain rfl : bs = [] := List.eq_nil_of_length_eq_zero (by omega)
    have e0 : ([] : Bs).length = 0 := rfl
    rw [e0, run_convert_bytes_string (P := Tryz.prog) w 94 9 5 ao 0 c Tryz.underlying94 Tryz.underlying5 Tryz.underlying9]
    cases ao <;> simp [Conv.bytesToString, loadCells]
    all_goals rfl

theorem bat_lit (w : World) (bs : Bs) (t : TypeId) (fr : Nat × Nat) (c : Array Value) (hc : c = (bs.map (fun x => Value.int .u8 (x.toNat : Int))).toArray) (n : Nat) (hn : n = bs.length) (hb : bs.length ≤ 1000000) : BAt (w.alloc (.cells c t fr)) (.slice (some ⟨w.heap.size, 0, none⟩) n n) bs := by
  subst hc
  subst hn
  refine ⟨_, _, rfl, Nat.le_refl _, by omega, fun _ => ⟨w.heap.size, 0, rfl, by simp, fun i x hx j u hu => ?_⟩⟩
  have hj : j = 0 := by
    rcases Nat.eq_zero_or_pos j with q | q
    · exact q
    · rw [List.getElem?_eq_none (by show ([_] : List Value).length ≤ j; simp; omega)] at hu; cases hu
  subst hj
  have hi : i < bs.length := by
    rcases Nat.lt_or_ge i bs.length with q | q
    · exact q
    · rw [List.getElem?_eq_none q] at hx; cases hx
  have e : 0 + (i * encB.size + 0) = i := by show 0 + (i * 1 + 0) = i; omega
  rw [e, World.cell?_alloc_mark]
  rw [List.getElem?_eq_getElem hi] at hx
  cases hx
  simp [hi]
  simpa [encB] using hu

/-- One part. -/
theorem parts_one {w : World} {u : Value} {x : Bs} (h : BAt w u x) (t : TypeId) : PartsB (w.alloc (.cells #[u] t)) (.slice (some ⟨w.heap.size, 0, none⟩) 1 1) [x] := by
  refine ⟨_, 1, rfl, fun _ => ⟨w.heap.size, 0, rfl, by simp⟩, fun j y b off hy hb => ?_⟩
  cases hb
  have hj : j = 0 := by
    rcases Nat.eq_zero_or_pos j with q | q
    · exact q
    · rw [List.getElem?_eq_none (by simp; omega)] at hy; cases hy
  subst hj
  cases hy
  exact ⟨u, by simp, h.below (bz1 w _)⟩

/-- Two parts. -/
theorem parts_two {w : World} {u v : Value} {x y : Bs} (h : BAt w u x) (k : BAt w v y) (t : TypeId) : PartsB (w.alloc (.cells #[u, v] t)) (.slice (some ⟨w.heap.size, 0, none⟩) 2 2) [x, y] := by
  refine ⟨_, 2, rfl, fun _ => ⟨w.heap.size, 0, rfl, by simp⟩, fun j z b off hz hb => ?_⟩
  cases hb
  match j, hz with
  | 0, hz =>
    cases hz
    exact ⟨u, by simp, h.below (bz1 w _)⟩
  | 1, hz =>
    cases hz
    exact ⟨v, by simp, k.below (bz1 w _)⟩
  | j + 2, hz => simp at hz

/-- A part that is nil. -/
theorem parts_nil (w : World) (t : TypeId) : PartsB (w.alloc (.cells #[.slice none 0 0] t)) (.slice (some ⟨w.heap.size, 0, none⟩) 1 1) [[]] := parts_one ⟨none, 0, rfl, Nat.le_refl _, by omega, RdG.nil _ _ _⟩ t

theorem part_lit (w : World) (bs : Bs) (t t' : TypeId) (fr : Nat × Nat) (c : Array Value) (hc : c = (bs.map (fun x => Value.int .u8 (x.toNat : Int))).toArray) (n : Nat) (hn : n = bs.length) (hb : bs.length ≤ 1000000) :
    PartsB ((w.alloc (.cells c t fr)).alloc (.cells #[.slice (some ⟨w.heap.size, 0, none⟩) n n] t')) (.slice (some ⟨w.heap.size + 1, 0, none⟩) 1 1) [bs] := by
  have := parts_one (bat_lit w bs t fr c hc n hn hb) t'
  rw [show (w.alloc (.cells c t fr)).heap.size = w.heap.size + 1 by simp] at this
  exact this

theorem tx_cat (a b : Bs) : Value.string ((⟨a.toArray⟩ : ByteArray) ++ (⟨b.toArray⟩ : ByteArray)) = tx (a ++ b) := by
  show Value.string _ = Value.string _
  congr 1

theorem set_block {w : World} {b : Nat} {c : Array Value} {t : TypeId} (h : w.heap[b]? = some (.cells c t (0, 0))) (i : Nat) (u : Value) : (w.setCell ⟨b, i, none⟩ u).heap[b]? = some (.cells (c.setIfInBounds i u) t (0, 0)) := by
  simp [World.setCell, Array.getElem?_modify, h]

theorem turned_set {w : World} {b : Nat} (i : Nat) (u : Value) : Turned (fun k => k = b) w (w.setCell ⟨b, i, none⟩ u) := (Turned.refl (fun k => k = b) w).setCell (p := ⟨b, i, none⟩) (.inl (show b = b from rfl)) u

/-- Block g begins with bytes, and may be written there. -/
structure Raw (w : World) (g : Nat) (bs : Bs) : Prop where
  lt : g < w.heap.size
  cell : ∀ j x, bs[j]? = some x → w.cell? ⟨g, j, none⟩ = some (.int .u8 (x.toNat : Int))
  thaw : ∀ j, j < bs.length → w.frozen? ⟨g, j, none⟩ = false

theorem Raw.at {w : World} {g c : Nat} {bs : Bs} (h : Raw w g bs) (h1 : bs.length ≤ c) (h2 : c ≤ 9223372036854775807) : BAt w (.slice (some ⟨g, 0, none⟩) bs.length c) bs := by
  refine ⟨_, c, rfl, h1, h2, fun _ => ⟨g, 0, rfl, h.lt, fun i x hx j u hu => ?_⟩⟩
  have hj : j = 0 := by
    rcases Nat.eq_zero_or_pos j with q | q
    · exact q
    · rw [List.getElem?_eq_none (by show ([_] : List Value).length ≤ j; simp; omega)] at hu; cases hu
  subst hj
  have e : 0 + (i * encB.size + 0) = i := by show 0 + (i * 1 + 0) = i; omega
  rw [e, h.cell i x hx]
  exact hu

theorem Raw.put {w : World} {g z : Nat} {bs : Bs} (h : Raw w g bs) (hz : z < bs.length) (y : UInt8) : Raw (w.setCell ⟨g, z, none⟩ (.int .u8 (y.toNat : Int))) g (bs.set z y) := by
  have hb : ∃ cs t fr, w.heap[g]? = some (.cells cs t fr) := by
    have := h.cell z bs[z] (List.getElem?_eq_getElem hz)
    unfold World.cell? at this
    split at this
    · rename_i c t fr e
      exact ⟨c, t, fr, e⟩
    · cases this
  obtain ⟨cs, t, fr, hb⟩ := hb
  have hc : ∀ (j : Nat) (x : UInt8), bs[j]? = some x → cs[j]? = some (Value.int .u8 (x.toNat : Int)) := fun j x hx => by have := h.cell j x hx; simpa [World.cell?, hb] using this
  refine ⟨by simp [World.setCell]; exact h.lt, fun j x hx => ?_, fun j hj => ?_⟩
  · have hzs : z < cs.size := by
      have := hc z bs[z] (List.getElem?_eq_getElem hz)
      exact (Array.getElem?_eq_some_iff.1 this).1
    rw [List.getElem?_set] at hx
    simp only [World.cell?, World.setCell, Array.getElem?_modify, hb, if_true, Option.map_some, Option.isSome_none, Bool.false_eq_true, if_false, Array.getElem?_setIfInBounds]
    by_cases e : z = j
    · rw [if_pos e, if_pos hz] at hx
      cases hx
      rw [if_pos e, if_pos hzs]
    · rw [if_neg e] at hx
      rw [if_neg e]
      exact hc j x hx
  · have := h.thaw j (by simpa using hj)
    simpa [World.frozen?, World.setCell, Array.getElem?_modify, hb] using this

/-- []byte(s). -/
theorem bytes_of (w : World) (bs : Bs) : ∃ W' c, (convert 9 94 (tx bs)).run Tryz.prog w = .ok (.slice (some ⟨w.heap.size, 0, none⟩) bs.length c) W' ∧ Below w.heap.size w W' ∧ W'.heap.size = w.heap.size + 1 ∧ Raw W' w.heap.size bs ∧ bs.length ≤ c ∧ (bs.length ≤ maxLen → c ≤ 9223372036854775807) := by
  refine ⟨_, _, run_bytes_of_string (P := Tryz.prog) w 9 94 5 ⟨bs.toArray⟩ Tryz.underlying9 Tryz.underlying94 Tryz.underlying5, ?_, ?_, ⟨?_, ?_, ?_⟩, ?_, ?_⟩
  · exact below_drew (bz1 w.drew _)
  · show (w.heap.push _).size = _; simp
  · show w.heap.size < (w.heap.push _).size; simp
  · intro j x hx
    have hj : j < bs.length := by
      rcases Nat.lt_or_ge j bs.length with q | q
      · exact q
      · rw [List.getElem?_eq_none q] at hx; cases hx
    have hb := bytesRow_at ⟨bs.toArray⟩ (grownCap w (⟨bs.toArray⟩ : ByteArray).size 0 5) j (by simpa using hj)
    refine ((World.cell?_alloc_mark w.drew _ 5 _ j).trans hb).trans ?_
    rw [List.getElem?_eq_getElem hj] at hx
    cases hx
    simp
  · intro j hj
    have hs : j < (bytesRow ⟨bs.toArray⟩ (grownCap w (⟨bs.toArray⟩ : ByteArray).size 0 5)).size := by
      have hb := bytesRow_at ⟨bs.toArray⟩ (grownCap w (⟨bs.toArray⟩ : ByteArray).size 0 5) j (by simpa using hj)
      exact (Array.getElem?_eq_some_iff.1 hb).1
    obtain ⟨C, hC⟩ : ∃ C, bytesRow ⟨bs.toArray⟩ (grownCap w (⟨bs.toArray⟩ : ByteArray).size 0 5) = C := ⟨_, rfl⟩
    rw [hC] at hs ⊢
    have hh : (w.drew.alloc (.cells C 5 (C.size, C.size + 1))).heap[w.heap.size]? = some (.cells C 5 (C.size, C.size + 1)) := by
      show (w.heap.push _)[w.heap.size]? = _
      simp
    simp only [World.frozen?, hh]
    simp
    omega
  · exact grownCap_ge _ _ _ _
  · intro h
    have := grownCap_le_maxLen w (⟨bs.toArray⟩ : ByteArray).size 0 5 h
    simp only [maxLen] at this
    omega

set_option maxRecDepth 100000 in
/-- s[:k]. -/
theorem sliceB_h {ao : Option Addr} {n c k : Nat} (hc : n ≤ c) (hk : k ≤ n) :
    ∃ a' c', (∀ w, (Instr.slice 94 (.slice ao n c) none (some (.int .i64 (k : Int))) none).run Tryz.prog w = .ok (.slice a' k c') w) ∧ k ≤ c' ∧ c' ≤ c ∧ ∀ w (xs : Bs), RdG encB w ao xs → RdG encB w a' (xs.take k) := by
  obtain ⟨i0, hi0, hz0, hz1, hz2⟩ := info_parts Tryz.info5
  refine ⟨if c = 0 then ao else ao.map (·.add 0), c, fun w => ?_, by omega, Nat.le_refl _, ?_⟩
  · rw [run_slice_h w 94 ao n c Tryz.underlying94 .i64 (k : Int) (by omega) (by omega)]
    have : (sizeOf (Tryz.prog.elem 94)).run Tryz.prog w = .ok 1 w := by
      have he : Tryz.prog.elem 94 = 5 := by kernel_rfl
      rw [he]
      simp [sizeOf, typeInfo, hi0, hz1]
    rw [this]
    simp only [Result.andThen, sliced, Int.toNat_natCast, Nat.mul_one, Nat.sub_zero]
  · intro w xs h
    split
    · exact h.take k
    · intro h0
      obtain ⟨b, off, rfl, hlt, hcc⟩ := h (by simp at h0; omega)
      simp only [Option.map_some, addr_plus, Nat.add_zero]
      exact RdG.take (fun _ => ⟨b, off, rfl, hlt, hcc⟩) k h0

set_option maxRecDepth 100000 in
/-- s[k:]. -/
theorem sliceB_l {ao : Option Addr} {n c k : Nat} (hc : n ≤ c) (hk : k ≤ n) :
    ∃ a' c', (∀ w, (Instr.slice 94 (.slice ao n c) (some (.int .i64 (k : Int))) none none).run Tryz.prog w = .ok (.slice a' (n - k) c') w) ∧ n - k ≤ c' ∧ c' ≤ c ∧ ∀ w (xs : Bs), xs.length = n → RdG encB w ao xs → RdG encB w a' (xs.drop k) := by
  obtain ⟨i0, hi0, hz0, hz1, hz2⟩ := info_parts Tryz.info5
  refine ⟨if c = k then ao else ao.map (·.add k), c - k, fun w => ?_, by omega, by omega, ?_⟩
  · rw [run_slice_l w 94 ao n c Tryz.underlying94 .i64 (k : Int) (by omega) (by omega)]
    have : (sizeOf (Tryz.prog.elem 94)).run Tryz.prog w = .ok 1 w := by
      have he : Tryz.prog.elem 94 = 5 := by kernel_rfl
      rw [he]
      simp [sizeOf, typeInfo, hi0, hz1]
    rw [this]
    simp only [Result.andThen, sliced, Int.toNat_natCast, Nat.mul_one]
  · intro w xs hl h
    split
    · intro h0
      simp at h0
      omega
    · intro h0
      obtain ⟨b, off, rfl, hlt, hcc⟩ := h (by simp at h0; omega)
      simp only [Option.map_some, addr_plus]
      have := RdG.drop (E := encB) (b := b) (off := off) (xs := xs) (fun _ => ⟨b, off, rfl, hlt, hcc⟩) k h0
      rw [show k * encB.size = k from Nat.mul_one k] at this
      exact this

/-- A whole list more behind a row of the call's own, within a region whose order is drawn. -/
theorem stepGL_at {α : Type} {ops : Array Oper} {o : Oper} {a : Act} {w : World} {K : Act → World → Prop} {Q : Exit → Act → World → Prop} {X : Prop} (E : Enc α) (e t : TypeId) (bytes : Nat) (z : Value) (hz : z.cells.size = E.size)
    (hinfo : (Tryz.prog.info? e).map (fun i => (i.zero, i.size, i.bytes)) = some (some z, E.size, bytes)) (hu : Tryz.prog.underlying t = some (.slice e)) (hgd : o.guard = none) (s x : Operand)
    (hop : o.op = .call { callee := .builtin .append, args := #[s, x], argTypes := #[t, t] }) (base : Nat) (v : Value) (ss xs : List α) (ao : Option Addr) (n c : Nat) (hs : a.eval s = v) (hown : OwnG E e w base v ss)
    (hx : a.eval x = .slice ao n c) (hr : RdG E w ao xs) (hl : xs.length = n) (hlen : (ss.length + n) * bytes ≤ 140737488355328) (hmax : ss.length + n ≤ maxLen) (hb : base ≤ w.heap.size)
    (h : ∀ v' w', OwnG E e w' base v' (ss ++ xs) → Below base w w' → Moved w v v' → Turned (fun k => v.ownBlock = some k) w w' → K (a.put o.dst v') w') :
    if Region.wanted o (yielded ops a.tmps) = true then Oper.wp Tryz.prog o a w K Q else X := by
  obtain ⟨i0, hi0, hz0, hz1, hz2⟩ := info_parts hinfo
  by_cases h0 : 0 < xs.length
  · obtain ⟨b, off, rfl, hlt, hc⟩ := hr h0
    refine step_append_moved hgd s x t hop base e i0 _ E.size bytes hu hi0 hz0 hz1 hz2 hz E.pos v ss.length (E.all ss) hs hown ⟨b, off, none⟩ n c (E.all xs) hx (by rw [E.all_length, hl]) (by
      intro k u hk
      obtain ⟨i, j, y, rfl, hj, hy, hu⟩ := E.all_split xs k u hk
      rw [addr_plus]
      exact hc i y hy j u hu) (E.all_one xs) hmax hlen hb ?_
    intro v' w' h1 h2 h3
    have ht : Turned (fun k => v.ownBlock = some k) w w' := (Turned.refl _ _).grown h2 (fun k _ e => e)
    refine h v' w' ?_ (OwnG.turn hown hb ht) h3 ht
    unfold OwnG
    rw [List.length_append, E.all_append, hl]
    exact h1
  · obtain rfl : xs = [] := List.eq_nil_of_length_eq_zero (by omega)
    obtain rfl : n = 0 := hl.symm
    obtain ⟨ao2, cap, rfl, hle, _, _⟩ := hown.form
    have hw : Region.wanted o (yielded ops a.tmps) = true := by simp [Region.wanted, hgd]
    rw [if_pos hw]
    have hrun := run_append_none t o.type e i0 hu hi0 ao2 ss.length cap hle ao c w
    unfold Oper.wp
    simp [execOp, hop, resolve, invoke, builtin, hs, hx, hrun, Result.andThen]
    exact h _ w (by rw [List.append_nil]; exact hown) (Below.refl _ _) (.inl rfl) (Turned.refl _ _)

theorem drew_size (w : World) : w.drew.heap.size = w.heap.size := rfl
theorem oz (w : World) (base : Nat) (hb : base ≤ w.heap.size) : OwnG encB 5 (w.alloc (.cells #[] 5)) base (.slice (some ⟨w.heap.size, 0, none⟩) 0 0) [] :=
  own_base (World.ownsRow_made w #[] 0 (Nat.le_refl _) (Nat.zero_le _) rfl) hb
theorem ob1 (u : World) : OwnG encB 5 (u.alloc (.cells #[] 5)) u.heap.size (.slice (some ⟨u.heap.size, 0, none⟩) 0 0) [] := oz u _ (Nat.le_refl _)
theorem ob2 (u : World) (o : Obj) : OwnG encB 5 ((u.alloc (.cells #[] 5)).alloc o) u.heap.size (.slice (some ⟨u.heap.size, 0, none⟩) 0 0) [] := (ob1 u).below (bz1 _ _)
theorem ob3 (u : World) (o : Obj) : OwnG encB 5 ((u.alloc o).alloc (.cells #[] 5)) u.heap.size (.slice (some ⟨u.heap.size + 1, 0, none⟩) 0 0) [] := by
  have := oz (u.alloc o) u.heap.size (by simp)
  have e : (u.alloc o).heap.size = u.heap.size + 1 := by simp
  rw [e] at this
  exact this
theorem OwnG.stays {α : Type} {E : Enc α} {S : Nat → Prop} {e : TypeId} {w w' : World} {base : Nat} {v : Value} {ss : List α} (h : OwnG E e w base v ss) (ht : Turned S w w') (hS : ∀ g, v.ownBlock = some g → ¬ S g) : OwnG E e w' base v ss := ownsRow_turned h ht hS

theorem byte_at {w : World} {base g n cap : Nat} {bs : Bs} (h : OwnG encB 5 w base (.slice (some ⟨g, 0, none⟩) n cap) bs) {i : Nat} (hi : i < bs.length) :
    ∃ y : UInt8, bs[i]? = some y ∧ w.cell? ⟨g, i, none⟩ = some (.int .u8 (y.toNat : Int)) ∧ w.frozen? ⟨g, i, none⟩ = false := by
  have hn : bs.length = n := own_len h
  subst hn
  have h' : w.ownsRow base 5 1 (.slice (some ⟨g, 0, none⟩) bs.length cap) bs.length (encB.all bs) := h
  refine ⟨bs[i], List.getElem?_eq_getElem hi, ?_, h'.frozenAt _⟩
  rw [h'.cellAt _ (by rw [Nat.mul_one]; exact hi)]
  have := encB.all_get bs i 0 bs[i] (List.getElem?_eq_getElem hi) (by decide)
  rw [show i * encB.size + 0 = i from (by show i * 1 + 0 = i; omega)] at this
  rw [this]
  rfl

theorem byte_put {w : World} {base g n cap : Nat} {bs : Bs} (h : OwnG encB 5 w base (.slice (some ⟨g, 0, none⟩) n cap) bs) {i : Nat} (hi : i < bs.length) (y : UInt8) :
    OwnG encB 5 (w.setCell ⟨g, i, none⟩ (.int .u8 (y.toNat : Int))) base (.slice (some ⟨g, 0, none⟩) n cap) (bs.set i y) := by
  have := OwnG.put h (i := i) (j := 0) (List.getElem?_eq_getElem hi) (by decide) y (.int .u8 (y.toNat : Int)) (by simp [encB])
  rw [show i * encB.size + 0 = i from (by show i * 1 + 0 = i; omega)] at this
  exact this

/-- Raised by one. -/
theorem byte_up (y : UInt8) : ((y + 1).toNat : Int) = ((y.toNat : Int) + 1) % 256 := by
  rw [UInt8.toNat_add]
  simp

/-- A world that has grown. -/
def Grew (w u : World) : Prop := Below w.heap.size w u

theorem RdG.turned {α : Type} {E : Enc α} {T : Nat → Prop} {w w' : World} {ao : Option Addr} {xs : List α} (h : RdG E w ao xs) (ht : Turned T w w') (hT : 0 < xs.length → ∀ p, ao = some p → ¬ T p.block) : RdG E w' ao xs := by
  intro h0
  obtain ⟨b, off, rfl, hlt, hc⟩ := h h0
  exact ⟨b, off, rfl, Nat.lt_of_lt_of_le hlt ht.size, fun i x hx j u hu => (ht.cell (p := ⟨b, off + (i * E.size + j), none⟩) hlt (show ¬ T b from hT h0 ⟨b, off, none⟩ rfl)).trans (hc i x hx j u hu)⟩

theorem xor_byte (y x : UInt8) : bits BinOp.xor IntKind.u8 (y.toNat : Int) (x.toNat : Int) = ((y ^^^ x).toNat : Int) := by
  have y1 := y.toNat_lt
  have x1 := x.toNat_lt
  have hx : y.toNat ^^^ x.toNat < 2 ^ 8 := Nat.xor_lt_two_pow y1 x1
  have h1 : (BitVec.ofInt 8 (y.toNat : Int)).toNat = y.toNat := by
    rw [BitVec.ofInt_natCast, BitVec.toNat_ofNat]; exact Nat.mod_eq_of_lt (by omega)
  have h2 : (BitVec.ofInt 8 (x.toNat : Int)).toNat = x.toNat := by
    rw [BitVec.ofInt_natCast, BitVec.toNat_ofNat]; exact Nat.mod_eq_of_lt (by omega)
  have e : (y ^^^ x).toNat = y.toNat ^^^ x.toNat := UInt8.toNat_xor y x
  have wr : ∀ n : Int, IntKind.u8.wrap n = n % 256 := fun n => by simp [IntKind.wrap, IntKind.bits, IntKind.signed]
  show IntKind.u8.wrap ((BitVec.ofInt 8 (y.toNat : Int) ^^^ BitVec.ofInt 8 (x.toNat : Int)).toNat : Int) = _
  rw [BitVec.toNat_xor, h1, h2, wr, e]
  omega

end Go.Proofs.YtofbphmdkhocdaaGreat
