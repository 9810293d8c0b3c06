import Derived.Test.YtijchmcajhdcoaaGreatDoorJSta
import Derived.Test.YtijchmcajhdcoaaGreatDoorRows
import Derived.Deep.RegionHeld3
import Derived.Test.YtijchmcajhdcoaaGreatDoorJRed
/-!
  Pieces of rows: s[:k] and s[k:] at every world, of things of any kind. No condition.
-/
namespace Go.Proofs.YtijchmcajhdcoaaGreatDoor
open Go.RowKit

set_option maxRecDepth 100000 in
/-- s[:k], of things of any kind. -/
theorem sliceG_h {α : Type} (E : Enc α) (e t bytes : Nat) (z : Value) (hinfo : (Tryz.prog.info? e).map (fun i => (i.zero, i.size, i.bytes)) = some (some z, E.size, bytes)) (hu : Tryz.prog.underlying t = some (.slice e)) (he : Tryz.prog.elem t = e)
    {ao : Option Addr} {n c k : Nat} (hc : n ≤ c) (hk : k ≤ n) :
    ∃ a' c', (∀ w, (Instr.slice t (.slice ao n c) none (some (.int .i64 (k : Int))) none).run Tryz.prog w = .ok (.slice a' k c') w) ∧ k ≤ c' ∧ c' ≤ c ∧ ∀ w (xs : List α), RdG E w ao xs → RdG E w a' (xs.take k) := by
  obtain ⟨i0, hi0, hz0, hz1, hz2⟩ := info_parts hinfo
  refine ⟨if c = 0 then ao else ao.map (·.add 0), c, fun w => ?_, by omega, Nat.le_refl _, ?_⟩
  · rw [run_slice_h w t ao n c (by rw [he]; exact hu) .i64 (k : Int) (by omega) (by omega)]
    have : (sizeOf (Tryz.prog.elem t)).run Tryz.prog w = .ok E.size w := by
      rw [he]
      simp [sizeOf, typeInfo, hi0, hz1]
    rw [this]
    simp only [Result.andThen, sliced, Int.toNat_natCast, Nat.zero_mul, Nat.sub_zero]
  · intro w xs h
    split
    · exact h.take k
    · intro h0
      obtain ⟨b, off, rfl, hlt, hcc⟩ := h (by simp at h0; omega)
      simp only [Option.map_some, addr_plus, Nat.add_zero]
      exact RdG.take (fun _ => ⟨b, off, rfl, hlt, hcc⟩) k h0

set_option maxRecDepth 100000 in
/-- s[k:]. -/
theorem sliceG_l {α : Type} (E : Enc α) (e t bytes : Nat) (z : Value) (hinfo : (Tryz.prog.info? e).map (fun i => (i.zero, i.size, i.bytes)) = some (some z, E.size, bytes)) (hu : Tryz.prog.underlying t = some (.slice e)) (he : Tryz.prog.elem t = e)
    {ao : Option Addr} {n c k : Nat} (hc : n ≤ c) (hk : k ≤ n) :
    ∃ a' c', (∀ w, (Instr.slice t (.slice ao n c) (some (.int .i64 (k : Int))) none none).run Tryz.prog w = .ok (.slice a' (n - k) c') w) ∧ n - k ≤ c' ∧ c' ≤ c ∧ ∀ w (xs : List α), xs.length = n → RdG E w ao xs → RdG E w a' (xs.drop k) := by
  obtain ⟨i0, hi0, hz0, hz1, hz2⟩ := info_parts hinfo
  refine ⟨if c = k then ao else ao.map (·.add (k * E.size)), c - k, fun w => ?_, by omega, by omega, ?_⟩
  · rw [run_slice_l w t ao n c (by rw [he]; exact hu) .i64 (k : Int) (by omega) (by omega)]
    have : (sizeOf (Tryz.prog.elem t)).run Tryz.prog w = .ok E.size w := by
      rw [he]
      simp [sizeOf, typeInfo, hi0, hz1]
    rw [this]
    simp only [Result.andThen, sliced, Int.toNat_natCast]
  · intro w xs hl h
    split
    · intro h0
      simp at h0
      omega
    · intro h0
      obtain ⟨b, off, rfl, hlt, hcc⟩ := h (by simp at h0; omega)
      simp only [Option.map_some, addr_plus]
      exact RdG.drop (E := E) (b := b) (off := off) (xs := xs) (fun _ => ⟨b, off, rfl, hlt, hcc⟩) k h0

theorem elem_nodes : Tryz.prog.elem 32 = 34 := by kernel_rfl

/-- A row without things, and beside it one that holds a node, made in either order. -/
theorem gonz2 (w : World) (n : NV) (cs : Array Value) (hc : cs = (encN.cells n).toArray) : Gony w ((w.alloc (.cells #[] 34)).alloc (.cells cs 34)) (.slice (some ⟨w.heap.size, 0, none⟩) 0 0) (w.heap.size + 1) n := by
  subst hc
  refine ⟨own0 encN _ (Nat.le_refl _) (bz1 _ _), bz2 w _ _, fun j c h => ?_, by simp, fun k e => ?_⟩
  · have := cells_new encN (w.alloc (.cells #[] 34)) n 34 j c h
    simpa using this
  · have e' : w.heap.size = k := by simpa [Value.ownBlock] using e
    omega
theorem gonz3 (w : World) (n : NV) (cs : Array Value) (hc : cs = (encN.cells n).toArray) : Gony w ((w.alloc (.cells cs 34)).alloc (.cells #[] 34)) (.slice (some ⟨w.heap.size + 1, 0, none⟩) 0 0) w.heap.size n := by
  subst hc
  refine ⟨?_, bz2 w _ _, fun j c h => ?_, by simp; omega, fun k e => ?_⟩
  · have := own0 encN 34 (w := w.alloc (.cells (encN.cells n).toArray 34)) (B := w.heap.size) (by simp) (Below.refl _ _)
    simpa using this
  · have := cells_new encN w n 34 j c h
    rw [addr_at] at this ⊢
    exact ((bz1 (w.alloc (.cells (encN.cells n).toArray 34)) (.cells #[] 34)).cell (p := ⟨w.heap.size, j, none⟩) (by simp)).trans this
  · have e' : w.heap.size + 1 = k := by simpa [Value.ownBlock] using e
    omega

end Go.Proofs.YtijchmcajhdcoaaGreatDoor

/-!
  A region whose last operation waits for all others: the others may be walked as a region of their own, under a condition that need not hold behind the last. No program; no condition.
-/
namespace Go.Proofs.YtijchmcajhdcoaaGreatDoor

/-- What is to hold behind the others: what the last one does. -/
def Tl (P : Program) (ops : Array Oper) (n : Nat) (Q : Exit → Act → World → Prop) : Exit → Act → World → Prop
  | .normal, a, w => wpOp P ops Q n (Q .normal) a w
  | e, a, w => Q e a w

/-- Each waits for earlier ones alone, and the last for all. -/
def Region.tailed (ops : Array Oper) (n : Nat) : Bool :=
  (List.range (n + 1)).all (fun i => match ops[i]? with
    | some o => o.after.all (fun e => decide (e.on < i)) && (match o.guard with | some g => decide (g.1 < i) | none => true)
    | none => false) &&
  (List.range n).all (fun j => match ops[n]? with
    | some o => o.after.any (fun e => Region.binds .any e && e.on == j)
    | none => false)

section
variable {P : Program} {pre ops : Array Oper} {n : Nat} {Q : Exit → Act → World → Prop} {S : World → Prop}

theorem wp_letsOut (h : LetsOut (Tl P ops n Q)) : LetsOut Q := h

theorem wp_exits {o : Oper} {a : Act} {w : World} {K : Act → World → Prop} (h : o.wp P a w K (Tl P ops n Q)) : o.wp P a w K Q := by
  unfold Oper.wp at *
  generalize (execOp a.eval o).run P w = r at *
  cases r with
  | ok x w' =>
    cases x <;> exact h
  | halt x w' =>
    cases x <;> simp only [Oper.upon] at h ⊢ <;> exact h

theorem getD_push (l : Array Bool) (d : Bool) (k : Nat) : (l.push false).getD k d = if k < l.size then l.getD k d else if k = l.size then false else d := by
  by_cases h1 : k < l.size
  · rw [if_pos h1]
    simp [Array.getD, h1, Array.getElem_push, Nat.lt_succ_of_lt h1]
  · rw [if_neg h1]
    by_cases h2 : k = l.size
    · rw [if_pos h2]
      subst h2
      simp [Array.getD]
    · rw [if_neg h2]
      have : ¬ k < l.size + 1 := by omega
      simp [Array.getD, this]

theorem tailed_spec (ht : Region.tailed ops n = true) :
    (∀ i o, i ≤ n → ops[i]? = some o → (∀ e ∈ o.after, e.on < i) ∧ ∀ g, o.guard = some g → g.1 < i) ∧ (∀ j o, j < n → ops[n]? = some o → ∃ e ∈ o.after, Region.binds .any e = true ∧ e.on = j) := by
  unfold Region.tailed at ht
  rw [Bool.and_eq_true] at ht
  refine ⟨fun i o hi ho => ?_, fun j o hj ho => ?_⟩
  · have h1 := List.all_eq_true.1 ht.1 i (List.mem_range.2 (by omega))
    simp only [ho, Bool.and_eq_true] at h1
    refine ⟨fun e he => ?_, fun g hg => ?_⟩
    · have := (Array.all_eq_true_iff_forall_mem.1 h1.1) e he
      simpa using this
    · have h2 := h1.2
      rw [hg] at h2
      simpa using h2
  · have h1 := List.all_eq_true.1 ht.2 j (List.mem_range.2 hj)
    simp only [ho] at h1
    obtain ⟨e, he, h2⟩ := Array.any_eq_true'.1 h1
    simp only [Bool.and_eq_true, beq_iff_eq] at h2
    exact ⟨e, he, h2⟩

theorem tail_any (hp : ∀ i, i < n → pre[i]? = ops[i]?) (hs : pre.size = n) (hn : ops.size = n + 1) (ht : Region.tailed ops n = true) :
    ∀ (fuel : Nat) (listed : Array Bool) (a : Act) (w : World), listed.size = n → wpAnyH P .any pre (Tl P ops n Q) S fuel listed a w → wpAny P .any ops Q (fuel + 1) (listed.push false) a w := by
  obtain ⟨t1, t2⟩ := tailed_spec ht
  have hready : ∀ (listed : Array Bool), listed.size = n → ∀ i, i < n → (i ∈ Region.ready .any ops (listed.push false) ↔ i ∈ Region.ready .any pre listed) := by
    intro listed hl i hi
    rw [mem_ready, mem_ready, getD_push, if_pos (by omega), hp i hi]
    refine and_congr_right fun _ => ⟨fun ⟨o, ho, h⟩ => ⟨o, ho, fun e he hb => ?_⟩, fun ⟨o, ho, h⟩ => ⟨o, ho, fun e he hb => ?_⟩⟩
    · have h1 := h e he hb
      have h2 := (t1 i o (by omega) ho).1 e he
      rwa [getD_push, if_pos (by omega)] at h1
    · have h2 := (t1 i o (by omega) ho).1 e he
      rw [getD_push, if_pos (by omega)]
      exact h e he hb
  obtain ⟨st, hst⟩ : ∃ st, ops[n]? = some st := ⟨_, Array.getElem?_eq_getElem (by omega)⟩
  -- where one of the others has not come up, one of them may
  have hmin : ∀ (listed : Array Bool), listed.size = n → ∀ j, j < n → listed.getD j true = false → Region.ready .any pre listed ≠ [] := by
    intro listed hl j
    induction j using Nat.strongRecOn with
    | ind j ih =>
      intro hj hu h0
      obtain ⟨o, ho⟩ : ∃ o, ops[j]? = some o := ⟨_, Array.getElem?_eq_getElem (by omega)⟩
      by_cases hall : ∀ e ∈ o.after, Region.binds .any e = true → listed.getD e.on false = true
      · have : j ∈ Region.ready .any pre listed := mem_ready.2 ⟨hu, o, by rw [hp j hj]; exact ho, hall⟩
        rw [h0] at this
        cases this
      · simp only [Classical.not_forall] at hall
        obtain ⟨e, he, hb, hl2⟩ := hall
        have hlt := (t1 j o (by omega) ho).1 e he
        refine ih e.on hlt (by omega) ?_ h0
        have h3 : e.on < listed.size := by omega
        simp only [Array.getD, h3, dif_pos] at hl2 ⊢
        simpa using hl2
  have hlast : ∀ (listed : Array Bool), listed.size = n → ∀ j, j < n → listed.getD j true = false → n ∉ Region.ready .any ops (listed.push false) := by
    intro listed hl j hj hu hr
    obtain ⟨_, o, ho, h⟩ := mem_ready.1 hr
    obtain ⟨e, he, hb, rfl⟩ := t2 j o hj ho
    have h1 := h e he hb
    rw [getD_push, if_pos (by omega)] at h1
    have h3 : e.on < listed.size := by omega
    simp only [Array.getD, h3, dif_pos] at h1 hu
    rw [h1] at hu
    cases hu
  have hbound : ∀ (listed : Array Bool), listed.size = n → ∀ i, i ∈ Region.ready .any ops (listed.push false) → i ≤ n := by
    intro listed hl i hi
    obtain ⟨_, o, ho, _⟩ := mem_ready.1 hi
    have := (Array.getElem?_eq_some_iff.1 ho).1
    omega
  -- all others have come up
  have hend : ∀ (listed : Array Bool), listed.size = n → (∀ j, j < n → listed.getD j true = true) → ∀ fuel a w, wpOp P ops Q n (Q .normal) a w → wpAny P .any ops Q (fuel + 1) (listed.push false) a w := by
    intro listed hl hall fuel a w h
    have hn' : n ∈ Region.ready .any ops (listed.push false) := by
      refine mem_ready.2 ⟨by rw [getD_push, if_neg (by omega), if_pos hl.symm], st, hst, fun e he hb => ?_⟩
      have h1 := (t1 n st (Nat.le_refl _) hst).1 e he
      have h2 := hall e.on h1
      have h3 : e.on < listed.size := by omega
      rw [getD_push, if_pos h3]
      simp only [Array.getD, h3, dif_pos] at h2 ⊢
      exact h2
    refine ⟨fun h0 => (by rw [h0] at hn'; cases hn'), fun i hi => ?_⟩
    have hin : i = n := by
      have h1 := hbound listed hl i hi
      rcases Nat.lt_or_ge i n with h2 | h2
      · have h3 := (mem_ready.1 ((hready listed hl i h2).1 hi)).1
        rw [hall i h2] at h3
        cases h3
      · omega
    subst hin
    refine wpOp_mono (fun a' w' h' => wpAny_done ?_ h' _) h
    refine List.eq_nil_iff_forall_not_mem.2 fun k hk => ?_
    obtain ⟨hu, o, ho, _⟩ := mem_ready.1 hk
    have hkn := (Array.getElem?_eq_some_iff.1 ho).1
    rcases Nat.lt_or_ge k i with h2 | h2
    · rw [getD_set_ne _ (by omega), getD_push, if_pos (by omega), hall k h2] at hu
      cases hu
    · have hk' : k = i := by omega
      subst hk'
      have : ((listed.push false).setIfInBounds k true).getD k true = true := by
        simp [Array.getD, hl]
      rw [this] at hu
      cases hu
  have hstep : ∀ (i : Nat) (K K' : Act → World → Prop) (a : Act) (w : World), i < n → (∀ a w, K a w → K' a w) → wpOp P pre (Tl P ops n Q) i K a w → wpOp P ops Q i K' a w := by
    intro i K K' a w hi hk h
    obtain ⟨o, ho⟩ : ∃ o, ops[i]? = some o := ⟨_, Array.getElem?_eq_getElem (by omega)⟩
    have hg : Region.wanted o (yielded pre a.tmps) = Region.wanted o (yielded ops a.tmps) := by
      unfold Region.wanted
      cases hgd : o.guard with
      | none => rfl
      | some g =>
        have := (t1 i o (by omega) ho).2 g hgd
        simp only [yielded, hp g.1 (by omega)]
    unfold wpOp at h ⊢
    simp only [hp i hi, ho, hg] at h ⊢
    split at h
    · rename_i hw
      rw [if_pos hw]
      exact h.imp (fun q => wp_exits (Oper.wp_mono hk q)) id
    · rename_i hw
      rw [if_neg hw]
      exact hk _ _ h
  have hmiss : ∀ (listed : Array Bool), ¬ (∀ j, j < n → listed.getD j true = true) → ∃ j, j < n ∧ listed.getD j true = false := by
    intro listed h
    simp only [Classical.not_forall] at h
    obtain ⟨j, hj, h⟩ := h
    exact ⟨j, hj, by simpa using h⟩
  intro fuel
  induction fuel with
  | zero =>
    intro listed a w hl h
    by_cases hall : ∀ j, j < n → listed.getD j true = true
    · exact hend listed hl hall 0 a w h.2
    · obtain ⟨j, hj, hu⟩ := hmiss listed hall
      exact absurd h.1 (hmin listed hl j hj hu)
  | succ f ih =>
    intro listed a w hl h
    by_cases hall : ∀ j, j < n → listed.getD j true = true
    · refine hend listed hl hall _ a w (h.1 (List.eq_nil_iff_forall_not_mem.2 fun k hk => ?_))
      obtain ⟨hu, o, ho, _⟩ := mem_ready.1 hk
      have hkn := (Array.getElem?_eq_some_iff.1 ho).1
      rw [hall k (by omega)] at hu
      cases hu
    · obtain ⟨j, hj, hu⟩ := hmiss listed hall
      have hno := hlast listed hl j hj hu
      refine ⟨fun h0 => ?_, fun i hi => ?_⟩
      · refine absurd (List.eq_nil_iff_forall_not_mem.2 fun k hk => ?_) (hmin listed hl j hj hu)
        obtain ⟨_, o, ho, _⟩ := mem_ready.1 hk
        have hkn := (Array.getElem?_eq_some_iff.1 ho).1
        have := (hready listed hl k (by omega)).2 hk
        rw [h0] at this
        cases this
      · have hin : i < n := by
          have h1 := hbound listed hl i hi
          rcases Nat.lt_or_ge i n with h2 | h2
          · exact h2
          · have : i = n := by omega
            exact absurd (this ▸ hi) hno
        refine hstep i _ _ a w hin (fun a' w' h' => ?_) (h.2 i ((hready listed hl i hin).1 hi))
        have h1 := ih (listed.setIfInBounds i true) a' w' (by simpa using hl) h'.2
        have h2 : (listed.setIfInBounds i true).push false = (listed.push false).setIfInBounds i true := by
          apply Array.ext_getElem?
          intro k
          have hil : i < listed.size := by omega
          by_cases hk : k = i
          · subst hk
            have : ¬ k = listed.size := by omega
            rw [Array.getElem?_push, if_neg (by simpa using this), Array.getElem?_setIfInBounds_self_of_lt hil, Array.getElem?_setIfInBounds_self_of_lt (by simp; omega)]
          · have hk' : ¬ i = k := fun e => hk e.symm
            simp [Array.getElem?_push, Array.getElem?_setIfInBounds_ne hk']
        rw [h2] at h1
        exact h1

/-- The beginning. -/
theorem wp_region_tail {l : List Oper} {id : Nat} {a : Act} {w : World} (S : World → Prop) (f : Nat) (hf : l.length = f + 1) (hm : P.follows .mixedOrders = true) (ht : Region.tailed l.toArray f = true) (hS : S w.drew)
    (h : S w.drew → wpAnyH P .any (l.take f).toArray (Tl P l.toArray f Q) S f (Array.replicate f false) a w.drew) : (Code.region id l.toArray true).wp P Q a w := by
  refine wp_region_any hm ?_
  have hl : (l.take f).length = f := by rw [List.length_take]; omega
  have h1 := tail_any (pre := (l.take f).toArray) (ops := l.toArray) (n := f) (P := P) (Q := Q) (S := S) (fun i hi => by simp [hi]) (by simp [hl]) (by simp [hf]) ht f (Array.replicate f false) a w.drew (by simp) (h hS)
  have e1 : l.toArray.size = f + 1 := by simp [hf]
  rw [e1, Array.replicate_succ]
  exact h1

/-- One that looks at no more than S tells is taken first. -/
theorem take_at (i : Nat) (d : Option Tmp) (v : Value) {oi : Oper} {md : Region.Mode} {fuel : Nat} {listed : Array Bool} {a : Act} {w : World} (hi : ops[i]? = some oi) (hd : oi.dst = d)
    (hs : Region.noSelect ops = true) (hf : Region.free md ops listed i = true) (hr : (Region.ready md ops listed).contains i = true)
    (hQ : ∀ c a w, Q (.panic c) (a.put d v) w → Q (.panic c) a w) (hy : YieldsIf P ops S oi v a) (hS : S w)
    (h : wpAnyH P md ops Q S fuel (listed.setIfInBounds i true) (a.put d v) w) : wpAnyH P md ops Q S (fuel + 1) listed a w := by
  subst hd
  exact wpAnyH_take hi hs hf hr hQ hy hS h

/-- The end. -/
theorem tail_end {st : Oper} {ops : Array Oper} {n : Nat} {a : Act} {w : World} (ho : ops[n]? = some st) (h : ∀ K' : Act → World → Prop, (∀ a w, Q .normal a w → K' a w) → if Region.wanted st (yielded ops a.tmps) = true then Oper.wp P st a w K' Q else K' (a.put st.dst undef) w) : Tl P ops n Q .normal a w :=
  wpOp_step ho h

end

end Go.Proofs.YtijchmcajhdcoaaGreatDoor

/-!
  The reference's close by a contract: the innermost bracket, or call, is done. No condition but that not too much waits.
-/
namespace Go.Proofs.YtijchmcajhdcoaaGreatDoor
open Go.RowKit

/-- The two boxes of the call are no part of the state. -/
theorem St.fin {Q : Nat → Prop} {B m1 m4 n : Nat} {w u U : World} {na wa : Option Addr} {nl nc wl wk : Nat} {ns : List Nd} {ws : List Wt} (hQ : ∀ g, Q g → g < w.heap.size) (hm : m4 = m1 + 1 ∧ m1 = w.heap.size)
    (s : St (fun g => Q g ∨ (m4 < g ∧ g < n)) B u na nl nc wa wl wk ns ws) (far : ∀ a, wa = some a → a.block < w.heap.size) (T : Turned (fun g => g = m1 ∨ g = m4) u U) (hn : n ≤ U.heap.size) :
    St (fun g => Q g ∨ Bt w.heap.size U.heap.size g) B U na nl nc wa wl wk ns ws := by
  obtain ⟨h1, h2⟩ := hm
  refine (s.turned T (fun g e e2 => ?_) (fun g hg e2 => ?_)).mono (fun g hg => hg.imp id (fun q => ⟨by omega, by omega⟩))
  · cases wa with
    | none => simp [Value.ownBlock] at e
    | some a =>
      have e' : a.block = g := by simpa [Value.ownBlock] using e
      have := far a rfl
      omega
  · rcases hg with hg | hg
    · have := hQ g hg
      omega
    · omega

/-- A call is done. -/
theorem clo_end {Q : Nat → Prop} {B m1 m4 n : Nat} {w W6 w7 w9 U : World} {na wa a7 a9 : Option Addr} {nl nc r wk kl c7 c9 vn : Nat} {ns1 : List Nd} {ws2 : List Wt} {us ks zs : List NV} {vo vp : Int} {vt : Bs} {vb : Bool} (hQ : ∀ g, Q g → g < w.heap.size) (hm : m4 = m1 + 1 ∧ m1 = w.heap.size)
    (s6 : St (fun g => Q g ∨ (m4 < g ∧ g < n)) B W6 na nl nc wa r wk ns1 ws2) (far : ∀ a, wa = some a → a.block < w.heap.size) (hm4 : m4 < W6.heap.size) (hn : n ≤ W6.heap.size) (nds : NdsIn (fun g => Q g ∨ (m4 < g ∧ g < n)) W6 us ns1.reverse)
    (j7 : Gone W6 w7 (.slice a7 kl c7) ks) (hks : us.drop vn = ks) (j9 : Gone w7 w9 (.slice a9 (vn + 1) c9) (zs ++ [⟨5, vt, 0, 0, a7, kl, c7, vp⟩])) (hzs : us.take vn = zs) (hvn : vn ≤ ns1.length) (hvt : vt ≠ []) (T : Turned (fun g => g = m1 ∨ g = m4) w9 U) :
    ∃ ns' ws', shutB ns1 (⟨vo, vp, vt, vb, vn⟩ :: ws2) = some (ns', ws') ∧ St (fun g => Q g ∨ Bt w.heap.size U.heap.size g) B U a9 (vn + 1) c9 wa r wk ns' ws' := by
  have h7 := j7.bel.size
  have h9 := j9.bel.size
  have e1 : (ns1.take (ns1.length - vn)).reverse = ns1.reverse.drop vn := by rw [List.reverse_take, Nat.sub_sub_self hvn]
  have e2 : (ns1.drop (ns1.length - vn)).reverse = ns1.reverse.take vn := by rw [List.reverse_drop, Nat.sub_sub_self hvn]
  refine ⟨⟨5, vt, 0, 0, foOf (ns1.reverse.drop vn), vp⟩ :: ns1.drop (ns1.length - vn), ws2, by simp only [shutB]; rw [if_pos hvt, e1], ?_⟩
  refine St.fin (n := w9.heap.size) hQ hm ⟨(s6.wts.below j7.bel).below (j9.bel), s6.wl, zs ++ [⟨5, vt, 0, 0, a7, kl, c7, vp⟩], ?_, ?_, ?_, ?_, ?_⟩ far T T.size
  · obtain ⟨a8, c8, e8, _, _, r8, _⟩ := OwnG.form j9.own
    injection e8 with e81 e82 e83
    subst e81 e83
    exact r8
  · exact own_len j9.own
  · obtain ⟨a8, c8, e8, hle, _⟩ := OwnG.form j9.own
    have hl := own_len j9.own
    rw [hl] at hle
    injection e8 with e81 e82 e83
    subst e81 e83
    exact hle
  · intro h0 a e
    have h8 := j9.own.lt a.block (by rw [e]; rfl)
    exact .inr ⟨by omega, h8.2⟩
  · rw [List.reverse_cons, e2]
    have k1 := nds.take vn
    rw [hzs] at k1
    have k2 := nds.drop vn
    rw [hks] at k2
    obtain ⟨a8, c8, e8, hle, _, r8, _⟩ := OwnG.form j7.own
    have hl := own_len j7.own
    rw [hl] at hle
    injection e8 with e81 e82 e83
    subst e81 e83
    have k3 := NdIn.made (Q := fun g => Q g ∨ (m4 < g ∧ g < w7.heap.size)) (w := w7) 5 vt 0 0 vp ((k2.stays j7.bel).mono (fun g q1 => q1.imp id (fun q2 => ⟨q2.1, by omega⟩))) r8 (fun h0 a e => by
      have h8 := j7.own.lt a.block (by rw [e]; rfl)
      exact .inr ⟨by omega, h8.2⟩) (by rw [hl]; exact hle)
    rw [hl] at k3
    exact (((k1.stays j7.bel).stays j9.bel).mono (fun g q1 => q1.imp id (fun q2 => ⟨q2.1, by omega⟩))).snoc ((k3.below j9.bel).mono (fun g q1 => q1.imp id (fun q2 => ⟨q2.1, by omega⟩)))

set_option maxHeartbeats 3200000 in
set_option maxRecDepth 100000 in
theorem close_any {Q : Nat → Prop} {B : Nat} (w : World) {na wa : Option Addr} {nl nc wl wk : Nat} {ns : List Nd} {ws : List Wt} (h : St Q B w na nl nc wa wl wk ns ws) (hQ : ∀ g, Q g → g < w.heap.size) (hk : Rk ns.length ws) (hw : wl ≤ 5000) (hn : nl ≤ 5000)
    (hv : ∀ v r, (red 1 ns ws).2 = v :: r → v.nodes ≤ (red 1 ns ws).1.length) :
    Calls Tryz.prog 15 #[.agg #[.slice na nl nc, .slice wa wl wk]] w fun e w' => ∃ na' nl' nc' wl' f, e = .returned (.tuple #[.agg #[.slice na' nl' nc', .slice wa wl' wk], .bool f]) ∧ Below w.heap.size w w' ∧
      ((f = false ∧ shutB (red 1 ns ws).1 (red 1 ns ws).2 = none) ∨ (f = true ∧ ∃ ns' ws', shutB (red 1 ns ws).1 (red 1 ns ws).2 = some (ns', ws') ∧ St (fun g => Q g ∨ Bt w.heap.size w'.heap.size g) B w' na' nl' nc' wa wl' wk ns' ws')) := by
  obtain ⟨W1, m1, hW1, hm1, bW1, hs1⟩ := layR w 58 #[.slice na nl nc, .slice wa wl wk]
  have hbx : Box2 W1 m1 58 (.slice na nl nc) (.slice wa wl wk) := by rw [← hW1, ← hm1]; exact Box2.new _ _ _ _
  obtain ⟨W2, m4, hW2, hm4, bW2, hs2⟩ := layR W1 58 #[.slice none 0 0, .slice none 0 0]
  have hrs : Box2 W2 m4 58 (.slice none 0 0) (.slice none 0 0) := by rw [← hW2, ← hm4]; exact Box2.new _ _ _ _
  have HM : Hid (m4 = m1 + 1 ∧ m1 = w.heap.size ∧ W2.heap.size = m4 + 1) := ⟨by omega, by omega, by omega⟩
  have hred := reduce_any W2 1 ((h.below bW1).below bW2) (fun g q => by have := hQ g q; omega) hk hw hn
  have HC : Hid (Calls Tryz.prog 20 _ _ _) := hred
  have HB : Hid (Box2 W2 m1 58 (.slice na nl nc) (.slice wa wl wk) ∧ Box2 W2 m4 58 (.slice none 0 0) (.slice none 0 0) ∧ Below w.heap.size w W2) := ⟨hbx.below bW2, hrs, bW1.trans (bW2.mono (by omega))⟩
  have HQ : Hid (∀ g, Q g → g < w.heap.size) := hQ
  have HV : Hid (∀ v r, (red 1 ns ws).2 = v :: r → v.nodes ≤ (red 1 ns ws).1.length) := hv
  have HF : Hid (∀ a, wa = some a → a.block < w.heap.size) := fun a e => (h.owner a e).2
  have HL : Hid ((red 1 ns ws).1.length ≤ 5000 ∧ (red 1 ns ws).2.length ≤ 5000) := by
    have h1 := red_len 1 ws ns hk
    have h2 := h.len
    have h3 := h.wl
    exact ⟨by omega, by omega⟩
  obtain ⟨ns1, ws1, hR⟩ : ∃ ns1 ws1, red 1 ns ws = (ns1, ws1) := ⟨_, _, rfl⟩
  rw [hR] at HC HV HL ⊢
  simp only at HV HL
  have HR1 : Hid (red 1 ns ws = (ns1, ws1)) := hR
  clear h hQ hk hv hbx hrs bW1 bW2 hs1 hs2 hred hR hn hw
  obtain ⟨c0, c1⟩ := HB.out.1.cells
  obtain ⟨f0, f1⟩ := HB.out.1.thaw
  go_enter Tryz.func15, Tryz.ntmps15
  go_upto_region 1 with fail
  clear hW1 hm1 hW2 hm4
  go_upto_region 2 with (go_at_call 20; refine HC.out.mono ?_; rintro e w3 ⟨na3, nl3, nc3, wl3, rfl, s3, b3⟩; have HS3 : Hid (St (fun g => Q g ∨ Bt W2.heap.size w3.heap.size g) B w3 na3 nl3 nc3 wa wl3 wk ns1 ws1 ∧ Below W2.heap.size W2 w3) := ⟨s3, b3⟩; clear s3 b3; obtain ⟨y0, y1⟩ := (HB.out.1.below HS3.out.2).cells; obtain ⟨g0, g1⟩ := (HB.out.1.below HS3.out.2).thaw)
  obtain ⟨W4, hW4⟩ : ∃ W4, (w3.setCell ⟨m1, 0, none⟩ (.slice na3 nl3 nc3)).setCell ⟨m1, 1, none⟩ (.slice wa wl3 wk) = W4 := ⟨_, rfl⟩
  have T4 : Turned (fun g => g = m1) w3 W4 := by rw [← hW4]; exact ((Turned.refl (fun g => g = m1) _).setCell (p := ⟨m1, 0, none⟩) (.inl rfl) _).setCell (p := ⟨m1, 1, none⟩) (.inl rfl) _
  have H4 : Hid (St (fun g => Q g ∨ (m4 < g ∧ g < w3.heap.size)) B W4 na3 nl3 nc3 wa wl3 wk ns1 ws1 ∧ Box2 W4 m1 58 (.slice na3 nl3 nc3) (.slice wa wl3 wk) ∧ Box2 W4 m4 58 (.slice none 0 0) (.slice none 0 0) ∧ Below w.heap.size w W4 ∧ w3.heap.size ≤ W4.heap.size) := by
    obtain ⟨h1, h2, h3⟩ := HM.out
    have hb3 : Below w.heap.size w w3 := HB.out.2.2.trans (HS3.out.2.mono (by omega))
    have hs3 := HS3.out.2.size
    refine ⟨(HS3.out.1.turned T4 (fun g e e2 => ?_) (fun g hg e2 => ?_)).mono (fun g hg => hg.imp id (fun q => ⟨by have := q.1; omega, q.2⟩)), ?_, (HB.out.2.1.below HS3.out.2).turned T4 (by omega), hb3.trans (T4.below hb3.size (fun g hg e => by omega)), T4.size⟩
    · cases wa with
      | none => simp [Value.ownBlock] at e
      | some a =>
        have e' : a.block = g := by simpa [Value.ownBlock] using e
        have := HF.out a rfl
        omega
    · rcases hg with hg | hg
      · have := HQ.out g hg
        omega
      · have := hg.1
        omega
    · rw [← hW4]
      exact ((HB.out.1.below HS3.out.2).put0 _).put1 _
  rw [hW4]
  clear hW4 T4 y0 y1 g0 g1 c0 c1 f0 f1
  obtain ⟨c0, c1⟩ := H4.out.2.1.cells
  obtain ⟨f0, f1⟩ := H4.out.2.1.thaw
  obtain ⟨r0, r1⟩ := H4.out.2.2.1.cells
  obtain ⟨q0, q1⟩ := H4.out.2.2.1.thaw
  have hwl := H4.out.1.wl
  have hnl := H4.out.1.len
  by_cases hz : wl3 = 0
  · subst hz
    obtain rfl : ws1 = [] := List.eq_nil_of_length_eq_zero hwl
    clear hwl
    go_wp2_with fail
    refine bodyPost_ret (v := .tuple #[.agg #[.slice na3 nl3 nc3, .slice wa 0 wk], .bool false]) ?_ rfl ⟨na3, nl3, nc3, 0, false, rfl, ?_, .inl ⟨rfl, rfl⟩⟩
    · simp [results, Tryz.f15]
      go_simp
    · have h1 := HM.out
      exact H4.out.2.2.2.1.trans ((((Turned.refl (fun g => g = m4) _).setCell (p := ⟨m4, 0, none⟩) (.inl rfl) _).setCell (p := ⟨m4, 1, none⟩) (.inl rfl) _).below H4.out.2.2.2.1.size (fun g hg e => by omega))
  · obtain ⟨r, hr⟩ : ∃ r, wl3 = r + 1 := ⟨wl3 - 1, by omega⟩
    obtain ⟨v, ws2, rfl⟩ : ∃ v t, ws1 = v :: t := by
      cases ws1 with
      | nil => simp at hwl; omega
      | cons v t => exact ⟨v, t, rfl⟩
    have hvv := last_rev (hwl.trans hr)
    obtain ⟨hrd, hwc⟩ := H4.out.1.rd
    obtain ⟨kb, ko, rfl, _⟩ := hrd.some_of hvv
    obtain ⟨k0, k1, k2, k3, k4⟩ := hrd.wait hvv
    obtain ⟨vo, vp, vt, vb, vn⟩ := v
    simp only at k0 k1 k2 k3 k4
    have HN : Hid (vn ≤ ns1.length) := HV.out _ _ rfl
    have e0 : (wl3 : Int) - 1 = (r : Int) := by omega
    have i0 : ¬ wl3 = 0 := hz
    have i1 : (0 : Int) < (wl3 : Int) := by omega
    have i2 : (r : Int) < (wl3 : Int) := by omega
    have i3 : (wl3 : Int) ≤ (wk : Int) := by omega
    have i4 : (r : Int) ≤ (wk : Int) := by omega
    have i5 : wl3 ≤ 5000 := by have := HL.out.2; omega
    have i6 : (wl3 == 0) = false := by rw [beq_eq_false_iff_ne]; exact hz
    obtain ⟨W5, m5, hW5, hm5, hx5, bW5, c5, hB5, hlt5⟩ := lay5 H4.out.2.2.2.1 H4.out.2.2.2.1.size 62 (.int .i64 vo) (.int .i64 vp) (.string ⟨vt.toArray⟩) (.bool vb) (.int .i64 (vn : Nat))
    obtain ⟨W6, hW6⟩ : ∃ W6, W5.setCell ⟨m1, 1, none⟩ (.slice (some ⟨kb, ko, none⟩) r wk) = W6 := ⟨_, rfl⟩
    have T6 : Turned (fun g => g = m1) W5 W6 := by rw [← hW6]; exact (Turned.refl (fun g => g = m1) _).setCell (p := ⟨m1, 1, none⟩) (.inl rfl) _
    have H6 : Hid (St (fun g => Q g ∨ (m4 < g ∧ g < w3.heap.size)) B W6 na3 nl3 nc3 (some ⟨kb, ko, none⟩) r wk ns1 ws2 ∧ Box2 W6 m1 58 (.slice na3 nl3 nc3) (.slice (some ⟨kb, ko, none⟩) r wk) ∧ Box2 W6 m4 58 (.slice none 0 0) (.slice none 0 0) ∧
        Box5 W6 m5 62 (.int .i64 vo) (.int .i64 vp) (.string ⟨vt.toArray⟩) (.bool vb) (.int .i64 (vn : Nat)) ∧ Below w.heap.size w W6 ∧ w3.heap.size ≤ W6.heap.size ∧ m4 < W6.heap.size) := by
      obtain ⟨h1, h2, h3⟩ := HM.out
      have hl4 := H4.out.2.2.1.lt
      have hs5 := c5.size
      refine ⟨((St.pop (v := ⟨vo, vp, vt, vb, vn⟩) (hr ▸ H4.out.1)).below c5).turned T6 (fun g e e2 => ?_) (fun g hg e2 => ?_), by rw [← hW6]; exact (H4.out.2.1.below c5).put1 _, (H4.out.2.2.1.below c5).turned T6 (by omega), hx5.turned T6 (by omega), bW5.trans (T6.below bW5.size (fun g hg e => by omega)), ?_, ?_⟩
      · have e' : kb = g := by simpa [Value.ownBlock] using e
        have h' : kb < w.heap.size := HF.out _ rfl
        omega
      · rcases hg with hg | hg
        · have := HQ.out g hg
          omega
        · omega
      · have := T6.size
        have := H4.out.2.2.2.2
        omega
      · have := T6.size
        omega
    obtain ⟨d0, d1, d2, d3, d4⟩ := hx5.cells
    obtain ⟨c50, c51⟩ := (H4.out.2.1.below c5).cells
    obtain ⟨f50, f51⟩ := (H4.out.2.1.below c5).thaw
    have HE : Hid (wl3 = r + 1 ∧ ws2.length = r) := ⟨hr, by simp at hwl; omega⟩
    clear hvv hrd hwc hwl hx5 bW5 c5 hz hr T6
    go_upto_region 5 with fail
    clear hW5 hm5
    go_upto_region 6 with fail
    try rw [hW6]
    clear hW6 c0 c1 f0 f1 r0 r1 q0 q1 k0 k1 k2 k3 k4 c50 c51 f50 f51 d0 d1 d2 d3 d4
    obtain ⟨c0, c1⟩ := H6.out.2.1.cells
    obtain ⟨f0, f1⟩ := H6.out.2.1.thaw
    obtain ⟨r0, r1⟩ := H6.out.2.2.1.cells
    obtain ⟨q0, q1⟩ := H6.out.2.2.1.thaw
    obtain ⟨d0, d1, d2, d3, d4⟩ := H6.out.2.2.2.1.cells
    by_cases ht : vt = []
    · subst ht
      go_wp2_with fail
      refine bodyPost_ret (v := .tuple #[.agg #[.slice na3 nl3 nc3, .slice (some ⟨kb, ko, none⟩) r wk], .bool true]) ?_ rfl ⟨na3, nl3, nc3, r, true, rfl, ?_, .inr ⟨rfl, ns1, ws2, rfl, ?_⟩⟩
      · simp [results, Tryz.f15]
        go_simp
      · have h1 := HM.out
        exact H6.out.2.2.2.2.1.trans ((((Turned.refl (fun g => g = m4) _).setCell (p := ⟨m4, 0, none⟩) (.inl rfl) _).setCell (p := ⟨m4, 1, none⟩) (.inl rfl) _).below H6.out.2.2.2.2.1.size (fun g hg e => by omega))
      · have h1 := HM.out
        exact St.fin HQ.out ⟨h1.1, h1.2.1⟩ H6.out.1 HF.out (((Turned.refl (fun g => g = m1 ∨ g = m4) _).setCell (p := ⟨m4, 0, none⟩) (.inl (.inr rfl)) _).setCell (p := ⟨m4, 1, none⟩) (.inl (.inr rfl)) _) (by simp only [World.size_setCell]; exact H6.out.2.2.2.2.2.1)
    · have ht' : (vt == []) = false := by rw [beq_eq_false_iff_ne]; exact ht
      have HT0 : Hid (vt ≠ []) := ht
      obtain ⟨us, hu1, hu2, hu3, hu4, hu5⟩ := H6.out.1.nds
      have hvn : vn ≤ nl3 := by have := HN.out; omega
      have hn5 : nl3 ≤ 5000 := by have := HL.out.1; omega
      obtain ⟨al, cl, runL, hl1, hl2, rdL⟩ := sliceG_l encN 34 32 72 (.agg #[.int .i64 0, .string ⟨#[]⟩, .int .i64 0, .int .u64 0, .slice none 0 0, .int .i64 0]) infoR Tryz.underlying32 elem_nodes (ao := na3) hu3 hvn
      obtain ⟨ah, ch, runH, hh1, hh2, rdH⟩ := sliceG_h encN 34 32 72 (.agg #[.int .i64 0, .string ⟨#[]⟩, .int .i64 0, .int .u64 0, .slice none 0 0, .int .i64 0]) infoR Tryz.underlying32 elem_nodes (ao := na3) hu3 hvn
      obtain ⟨kl, hkl⟩ : ∃ kl, nl3 - vn = kl := ⟨_, rfl⟩
      rw [hkl] at runL hl1
      obtain ⟨ks, hks⟩ : ∃ ks, us.drop vn = ks := ⟨_, rfl⟩
      obtain ⟨zs, hzs⟩ : ∃ zs, us.take vn = zs := ⟨_, rfl⟩
      have hkl5 : kl ≤ 5000 := by omega
      have HU : Hid (us.length = nl3 ∧ ks.length = kl ∧ zs.length = vn) := ⟨hu2, by rw [← hks, List.length_drop]; omega, by rw [← hzs, List.length_take]; omega⟩
      have HK : Hid (us.drop vn = ks ∧ us.take vn = zs ∧ RdG encN W6 al ks ∧ RdG encN W6 ah zs ∧ NdsIn (fun g => Q g ∨ (m4 < g ∧ g < w3.heap.size)) W6 us ns1.reverse) := ⟨hks, hzs, hks ▸ rdL W6 us hu2 hu1, hzs ▸ rdH W6 us hu1, hu5⟩
      clear hu1 hu2 hu4 hu5 rdL rdH hks hzs hkl ht hl1 hl2 hh1 hh2 hnl
      go_upto_region 8 with fail
      go_upto_region 9 with (at_builtin; refine appG_list encN 34 32 72 (.agg #[.int .i64 0, .string ⟨#[]⟩, .int .i64 0, .int .u64 0, .slice none 0 0, .int .i64 0]) rfl infoR Tryz.underlying32 rfl (.tmp 32) (.tmp 37) rfl W6.heap.size _ [] ks al kl cl rfl (OwnG.nil _ _ _ _) rfl HK.out.2.2.1 HU.out.2.1 (by simp; omega) (by simp only [maxLen, List.length_nil]; omega) (Nat.le_refl _) ?_; intro v7 w7 ho7 hb7 hm7 ht7; rw [List.nil_append] at ho7; obtain ⟨a7, c7, e7, q7, _, r7, _⟩ := OwnG.form ho7; rw [HU.out.2.1] at e7; subst e7; have J7 : Hid (Gone W6 w7 (.slice a7 kl c7) ks) := ⟨ho7, hb7⟩; clear ho7 hb7 hm7 ht7 q7 r7)
      have H7 : Hid (Box2 w7 m1 58 (.slice na3 nl3 nc3) (.slice (some ⟨kb, ko, none⟩) r wk) ∧ Box2 w7 m4 58 (.slice none 0 0) (.slice none 0 0) ∧ Box5 w7 m5 62 (.int .i64 vo) (.int .i64 vp) (.string ⟨vt.toArray⟩) (.bool vb) (.int .i64 (vn : Nat))) := ⟨H6.out.2.1.below J7.out.bel, H6.out.2.2.1.below J7.out.bel, H6.out.2.2.2.1.below J7.out.bel⟩
      have HT : Hid (RdG encN w7 ah zs) := HK.out.2.2.2.1.below J7.out.bel
      clear c0 c1 f0 f1 r0 r1 q0 q1 d0 d1 d2 d3 d4
      obtain ⟨c0, c1⟩ := H7.out.1.cells
      obtain ⟨f0, f1⟩ := H7.out.1.thaw
      obtain ⟨d0, d1, d2, d3, d4⟩ := H7.out.2.2.cells
      have l1 : m1 < w7.heap.size := H7.out.1.lt
      have l5 : m5 < w7.heap.size := H7.out.2.2.lt
      have KS : Hid (∀ u, Below w7.heap.size w7 u → u.cell? ⟨m1, 0, none⟩ = some (.slice na3 nl3 nc3) ∧ u.cell? ⟨m5, 1, none⟩ = some (.int .i64 vp) ∧ u.cell? ⟨m5, 2, none⟩ = some (.string ⟨vt.toArray⟩) ∧ u.cell? ⟨m5, 4, none⟩ = some (.int .i64 (vn : Nat))) := by
        intro u hu
        obtain ⟨_, e1, e2, _, e4⟩ := (H7.out.2.2.below hu).cells
        exact ⟨(H7.out.1.below hu).cells.1, e1, e2, e4⟩
      have hT3 : ∀ (w9 : World) (x y z : Value), Turned (fun g => g = m1 ∨ g = m4) w9 (((w9.setCell ⟨m1, 0, none⟩ x).setCell ⟨m4, 0, none⟩ y).setCell ⟨m4, 1, none⟩ z) := fun w9 x y z => (((Turned.refl (fun g => g = m1 ∨ g = m4) w9).setCell (p := ⟨m1, 0, none⟩) (.inl (.inl rfl)) _).setCell (p := ⟨m4, 0, none⟩) (.inl (.inr rfl)) _).setCell (p := ⟨m4, 1, none⟩) (.inl (.inr rfl)) _
      have HX : Hid (∀ (w9 : World) (a9 : Option Addr) (c9 : Nat), Gone w7 w9 (.slice a9 (vn + 1) c9) (zs ++ [⟨5, vt, 0, 0, a7, kl, c7, vp⟩]) → ∀ x y z, ∃ ns' ws', shutB ns1 (⟨vo, vp, vt, vb, vn⟩ :: ws2) = some (ns', ws') ∧ St (fun g => Q g ∨ Bt w.heap.size (((w9.setCell ⟨m1, 0, none⟩ x).setCell ⟨m4, 0, none⟩ y).setCell ⟨m4, 1, none⟩ z).heap.size g) B (((w9.setCell ⟨m1, 0, none⟩ x).setCell ⟨m4, 0, none⟩ y).setCell ⟨m4, 1, none⟩ z) a9 (vn + 1) c9 (some ⟨kb, ko, none⟩) r wk ns' ws') := by
        intro w9 a9 c9 j9 x y z
        have h1 := HM.out
        exact clo_end HQ.out ⟨h1.1, h1.2.1⟩ H6.out.1 HF.out H6.out.2.2.2.2.2.2 H6.out.2.2.2.2.2.1 HK.out.2.2.2.2 J7.out HK.out.1 j9 HK.out.2.1 HN.out HT0.out (hT3 w9 x y z)
      have HW : Hid (∀ (w9 : World) (v : Value), Gone w7 w9 v (zs ++ [⟨5, vt, 0, 0, a7, kl, c7, vp⟩]) → ∀ x y z, Below w.heap.size w (((w9.setCell ⟨m1, 0, none⟩ x).setCell ⟨m4, 0, none⟩ y).setCell ⟨m4, 1, none⟩ z)) := by
        intro w9 v j9 x y z
        have h1 := HM.out
        have b6 := H6.out.2.2.2.2.1
        have b9 := b6.trans (J7.out.bel.mono b6.size)
        have b10 := b9.trans (j9.bel.mono b9.size)
        exact b10.trans ((hT3 w9 x y z).below b10.size (fun g hg e => by omega))
      clear hT3
      refine wp_region_tail (fun u => u.cell? ⟨m1, 0, none⟩ = some (.slice na3 nl3 nc3) ∧ u.cell? ⟨m5, 1, none⟩ = some (.int .i64 vp) ∧ u.cell? ⟨m5, 2, none⟩ = some (.string ⟨vt.toArray⟩) ∧ u.cell? ⟨m5, 4, none⟩ = some (.int .i64 (vn : Nat))) 16 rfl (by kernel_rfl) (by kernel_rfl) ⟨c0, d1, d2, d4⟩ (fun HS => ?_)
      simp only [List.take_succ_cons, List.take_zero]
      refine take_at 1 (some 40) (.pointer (some ⟨m1, 0, none⟩)) rfl rfl (by kernel_rfl) (by kernel_rfl) (by kernel_rfl) (fun _ _ _ h => h) (.inl ⟨by rfl, fun u hu => ?_⟩) HS ?_
      · obtain ⟨u0, u1, u2, u4⟩ := hu
        go_simp
      simp only [Act.put, List.setIfInBounds_toArray, List.set_cons_zero, List.set_cons_succ]
      refine take_at 2 (some 41) (.slice na3 nl3 nc3) rfl rfl (by kernel_rfl) (by kernel_rfl) (by kernel_rfl) (fun _ _ _ h => h) (.inl ⟨by rfl, fun u hu => ?_⟩) HS ?_
      · obtain ⟨u0, u1, u2, u4⟩ := hu
        go_simp
      simp only [Act.put, List.setIfInBounds_toArray, List.set_cons_zero, List.set_cons_succ]
      refine take_at 3 (some 42) (.pointer (some ⟨m5, 4, none⟩)) rfl rfl (by kernel_rfl) (by kernel_rfl) (by kernel_rfl) (fun _ _ _ h => h) (.inl ⟨by rfl, fun u hu => ?_⟩) HS ?_
      · obtain ⟨u0, u1, u2, u4⟩ := hu
        go_simp
      simp only [Act.put, List.setIfInBounds_toArray, List.set_cons_zero, List.set_cons_succ]
      refine take_at 4 (some 43) (.int .i64 (vn : Nat)) rfl rfl (by kernel_rfl) (by kernel_rfl) (by kernel_rfl) (fun _ _ _ h => h) (.inl ⟨by rfl, fun u hu => ?_⟩) HS ?_
      · obtain ⟨u0, u1, u2, u4⟩ := hu
        go_simp
      simp only [Act.put, List.setIfInBounds_toArray, List.set_cons_zero, List.set_cons_succ]
      refine take_at 5 (some 44) (.slice ah vn ch) rfl rfl (by kernel_rfl) (by kernel_rfl) (by kernel_rfl) (fun _ _ _ h => h) (.inl ⟨by rfl, fun u hu => ?_⟩) HS ?_
      · obtain ⟨u0, u1, u2, u4⟩ := hu
        go_simp
      simp only [Act.put, List.setIfInBounds_toArray, List.set_cons_zero, List.set_cons_succ]
      refine take_at 7 (some 46) (.pointer (some ⟨m5, 2, none⟩)) rfl rfl (by kernel_rfl) (by kernel_rfl) (by kernel_rfl) (fun _ _ _ h => h) (.inl ⟨by rfl, fun u hu => ?_⟩) HS ?_
      · obtain ⟨u0, u1, u2, u4⟩ := hu
        go_simp
      simp only [Act.put, List.setIfInBounds_toArray, List.set_cons_zero, List.set_cons_succ]
      refine take_at 8 (some 47) (.string ⟨vt.toArray⟩) rfl rfl (by kernel_rfl) (by kernel_rfl) (by kernel_rfl) (fun _ _ _ h => h) (.inl ⟨by rfl, fun u hu => ?_⟩) HS ?_
      · obtain ⟨u0, u1, u2, u4⟩ := hu
        go_simp
      simp only [Act.put, List.setIfInBounds_toArray, List.set_cons_zero, List.set_cons_succ]
      refine take_at 9 (some 48) (.slice a7 kl c7) rfl rfl (by kernel_rfl) (by kernel_rfl) (by kernel_rfl) (fun _ _ _ h => h) (.inl ⟨by rfl, fun u hu => ?_⟩) HS ?_
      · obtain ⟨u0, u1, u2, u4⟩ := hu
        go_simp
      simp only [Act.put, List.setIfInBounds_toArray, List.set_cons_zero, List.set_cons_succ]
      refine take_at 10 (some 49) (.pointer (some ⟨m5, 1, none⟩)) rfl rfl (by kernel_rfl) (by kernel_rfl) (by kernel_rfl) (fun _ _ _ h => h) (.inl ⟨by rfl, fun u hu => ?_⟩) HS ?_
      · obtain ⟨u0, u1, u2, u4⟩ := hu
        go_simp
      simp only [Act.put, List.setIfInBounds_toArray, List.set_cons_zero, List.set_cons_succ]
      refine take_at 11 (some 50) (.int .i64 vp) rfl rfl (by kernel_rfl) (by kernel_rfl) (by kernel_rfl) (fun _ _ _ h => h) (.inl ⟨by rfl, fun u hu => ?_⟩) HS ?_
      · obtain ⟨u0, u1, u2, u4⟩ := hu
        go_simp
      simp only [Act.put, List.setIfInBounds_toArray, List.set_cons_zero, List.set_cons_succ]
      refine take_at 12 (some 51) (.agg #[.int .i64 5, .string ⟨vt.toArray⟩, .int .i64 0, .int .u64 0, .slice a7 kl c7, .int .i64 vp]) rfl rfl (by kernel_rfl) (by kernel_rfl) (by kernel_rfl) (fun _ _ _ h => h) (.inl ⟨by rfl, fun u hu => ?_⟩) HS ?_
      · obtain ⟨u0, u1, u2, u4⟩ := hu
        go_simp
      simp only [Act.put, List.setIfInBounds_toArray, List.set_cons_zero, List.set_cons_succ]
      refine wpAnyH_ready (rs := [0, 13]) (by kernel_rfl) (by simp) ?_
      refine AllReadyH.cons rfl (fun K hK => ?_) ?_
      · dsimp only [List.getElem_toArray, List.getElem_cons_zero]
        go_simp
        refine hK.out _ _ (KS.out _ (bz1 w7 _).drew) (fun HS => ?_)
        clear hK K
        refine wpAnyH_ready (rs := [6, 13]) (by kernel_rfl) (by simp) ?_
        refine AllReadyH.cons rfl (fun K hK => ?_) ?_
        · refine stepG_list encN 34 32 72 (.agg #[.int .i64 0, .string ⟨#[]⟩, .int .i64 0, .int .u64 0, .slice none 0 0, .int .i64 0]) rfl infoR Tryz.underlying32 rfl (.tmp 39) (.tmp 44) rfl w7.heap.size (.slice (some ⟨w7.heap.size, 0, none⟩) 0 0) [] zs ah vn ch (by rfl) (own0 encN 34 (Nat.le_refl _) (Below.refl _ _).drew) (by rfl) (HT.out.below ((bz1 w7 _).drew)) HU.out.2.2 (by simp; omega) (by simp only [maxLen, List.length_nil]; omega) ((bz1 w7 _).drew).size ?_
          intro v8 w8 ho8 hb8 ht8
          rw [List.nil_append] at ho8
          obtain ⟨a8, c8, e8, q8, _, r8, _⟩ := OwnG.form ho8
          rw [HU.out.2.2] at e8
          subst e8
          have J8 : Hid (Gone w7 w8 (.slice a8 vn c8) zs) := ⟨ho8, ((bz1 w7 _).drew).trans hb8⟩
          clear ho8 hb8 ht8 q8 r8
          refine hK.out _ _ (KS.out _ J8.out.bel) (fun HS => ?_)
          clear hK K
          simp only [List.getElem_toArray, List.getElem_cons_succ, List.getElem_cons_zero, Act.put, List.setIfInBounds_toArray, List.set_cons_zero, List.set_cons_succ]
          refine wpAnyH_ready (rs := [13]) (by kernel_rfl) (by simp) ?_
          refine AllReadyH.cons rfl (fun K hK => ?_) ?_
          · dsimp only [List.getElem_toArray, List.getElem_cons_succ, List.getElem_cons_zero]
            go_simp
            refine hK.out _ _ (KS.out _ (J8.out.bel.trans ((bz1 w8 _).mono J8.out.bel.size))) (fun HS => ?_)
            clear hK K
            refine wpAnyH_ready (rs := [14]) (by kernel_rfl) (by simp) ?_
            refine AllReadyH.cons rfl (fun K hK => ?_) ?_
            · refine stepG_at encN 34 32 72 (.agg #[.int .i64 0, .string ⟨#[]⟩, .int .i64 0, .int .u64 0, .slice none 0 0, .int .i64 0]) rfl infoR Tryz.underlying32 rfl (.tmp 45) (.tmp 52) rfl w7.heap.size (.slice a8 vn c8) zs ⟨5, vt, 0, 0, a7, kl, c7, vp⟩ (by rfl) (J8.out.own.below (bz1 w8 _)) w8.heap.size (by rfl) (cells_new encN w8 ⟨5, vt, 0, 0, a7, kl, c7, vp⟩ 34) (by have := HU.out.2.2; omega) (by have := HU.out.2.2; simp only [maxLen]; omega) (by simp; exact Nat.le_succ_of_le J8.out.bel.size) ?_
              intro v9 w9 ho9 hb9 hm9 ht9
              obtain ⟨a9, c9, e9, q9, _, r9, _⟩ := OwnG.form ho9
              rw [List.length_append, HU.out.2.2] at e9
              simp only [List.length_cons, List.length_nil, Nat.zero_add] at e9
              subst e9
              have J9 : Hid (Gone w7 w9 (.slice a9 (vn + 1) c9) (zs ++ [⟨5, vt, 0, 0, a7, kl, c7, vp⟩])) := J8.out.more ho9 (((bz1 w8 _).mono J8.out.bel.size).trans hb9)
              clear ho9 hb9 hm9 ht9 q9 r9
              refine hK.out _ _ (KS.out _ J9.out.bel) (fun HS => ?_)
              clear hK K
              simp only [List.getElem_toArray, List.getElem_cons_succ, List.getElem_cons_zero, Act.put, List.setIfInBounds_toArray, List.set_cons_zero, List.set_cons_succ]
              refine take_at 15 (some 54) (.pointer (some ⟨m1, 0, none⟩)) rfl rfl (by kernel_rfl) (by kernel_rfl) (by kernel_rfl) (fun _ _ _ h => h) (.inl ⟨by rfl, fun u hu => ?_⟩) HS ?_
              · obtain ⟨u0, u1, u2, u4⟩ := hu
                go_simp
              simp only [Act.put, List.setIfInBounds_toArray, List.set_cons_zero, List.set_cons_succ]
              have hn14 : ¬ m1 = m4 := by have := HM.out; omega
              have hn41 : ¬ m4 = m1 := by have := HM.out; omega
              obtain ⟨z0, z1⟩ := (H7.out.1.below J9.out.bel).cells
              obtain ⟨g0, g1⟩ := (H7.out.1.below J9.out.bel).thaw
              obtain ⟨z2, z3⟩ := (H7.out.2.1.below J9.out.bel).cells
              obtain ⟨g2, g3⟩ := (H7.out.2.1.below J9.out.bel).thaw
              refine wpAnyH_done (by kernel_rfl) ?_ _
              refine tail_end rfl (fun K hK => ?_)
              dsimp only [List.getElem_toArray, List.getElem_cons_succ, List.getElem_cons_zero]
              go_simp
              refine hK _ _ ?_
              clear hK K
              go_wp2_with fail
              refine bodyPost_ret (v := .tuple #[.agg #[.slice a9 (vn + 1) c9, .slice (some ⟨kb, ko, none⟩) r wk], .bool true]) ?_ rfl ⟨a9, vn + 1, c9, r, true, rfl, ?_, .inr ⟨rfl, ?_⟩⟩
              · simp [results, Tryz.f15]
                go_simp
              · exact HW.out _ _ J9.out _ _ _
              · exact HX.out _ _ _ J9.out _ _ _
            exact AllReadyH.nil
          exact AllReadyH.nil
        refine AllReadyH.cons rfl (fun K hK => ?_) ?_
        · dsimp only [List.getElem_toArray, List.getElem_cons_succ, List.getElem_cons_zero]
          go_simp
          refine hK.out _ _ (KS.out _ (bz2 w7 _ _).drew) (fun HS => ?_)
          clear hK K
          refine wpAnyH_ready (rs := [6]) (by kernel_rfl) (by simp) ?_
          refine AllReadyH.cons rfl (fun K hK => ?_) ?_
          · refine stepG_list encN 34 32 72 (.agg #[.int .i64 0, .string ⟨#[]⟩, .int .i64 0, .int .u64 0, .slice none 0 0, .int .i64 0]) rfl infoR Tryz.underlying32 rfl (.tmp 39) (.tmp 44) rfl w7.heap.size (.slice (some ⟨w7.heap.size, 0, none⟩) 0 0) [] zs ah vn ch (by rfl) (gony2 w7 ⟨5, vt, 0, 0, a7, kl, c7, vp⟩ _ rfl).own (by rfl) (HT.out.below ((bz2 w7 _ _).drew)) HU.out.2.2 (by simp; omega) (by simp only [maxLen, List.length_nil]; omega) ((bz2 w7 _ _).drew).size ?_
            intro v8 w8 ho8 hb8 ht8
            rw [List.nil_append] at ho8
            obtain ⟨a8, c8, e8, q8, _, r8, _⟩ := OwnG.form ho8
            rw [HU.out.2.2] at e8
            subst e8
            have J8 : Hid (Gone w7 w8 (.slice a8 vn c8) zs) := ⟨ho8, ((bz2 w7 _ _).drew).trans hb8⟩
            have Y8 : Hid (∀ j c, (encN.cells ⟨5, vt, 0, 0, a7, kl, c7, vp⟩)[j]? = some c → w8.cell? ((⟨w7.heap.size + 1, 0, none⟩ : Addr).add j) = some c) := (gony2 w7 ⟨5, vt, 0, 0, a7, kl, c7, vp⟩ _ rfl).after ht8
            clear ho8 hb8 ht8 q8 r8
            refine hK.out _ _ (KS.out _ J8.out.bel) (fun HS => ?_)
            clear hK K
            simp only [List.getElem_toArray, List.getElem_cons_succ, List.getElem_cons_zero, Act.put, List.setIfInBounds_toArray, List.set_cons_zero, List.set_cons_succ]
            refine wpAnyH_ready (rs := [14]) (by kernel_rfl) (by simp) ?_
            refine AllReadyH.cons rfl (fun K hK => ?_) ?_
            · refine stepG_at encN 34 32 72 (.agg #[.int .i64 0, .string ⟨#[]⟩, .int .i64 0, .int .u64 0, .slice none 0 0, .int .i64 0]) rfl infoR Tryz.underlying32 rfl (.tmp 45) (.tmp 52) rfl w7.heap.size (.slice a8 vn c8) zs ⟨5, vt, 0, 0, a7, kl, c7, vp⟩ (by rfl) J8.out.own (w7.heap.size + 1) (by rfl) Y8.out (by have := HU.out.2.2; omega) (by have := HU.out.2.2; simp only [maxLen]; omega) J8.out.bel.size ?_
              intro v9 w9 ho9 hb9 hm9 ht9
              obtain ⟨a9, c9, e9, q9, _, r9, _⟩ := OwnG.form ho9
              rw [List.length_append, HU.out.2.2] at e9
              simp only [List.length_cons, List.length_nil, Nat.zero_add] at e9
              subst e9
              have J9 : Hid (Gone w7 w9 (.slice a9 (vn + 1) c9) (zs ++ [⟨5, vt, 0, 0, a7, kl, c7, vp⟩])) := J8.out.more ho9 hb9
              clear ho9 hb9 hm9 ht9 q9 r9
              refine hK.out _ _ (KS.out _ J9.out.bel) (fun HS => ?_)
              clear hK K
              simp only [List.getElem_toArray, List.getElem_cons_succ, List.getElem_cons_zero, Act.put, List.setIfInBounds_toArray, List.set_cons_zero, List.set_cons_succ]
              refine take_at 15 (some 54) (.pointer (some ⟨m1, 0, none⟩)) rfl rfl (by kernel_rfl) (by kernel_rfl) (by kernel_rfl) (fun _ _ _ h => h) (.inl ⟨by rfl, fun u hu => ?_⟩) HS ?_
              · obtain ⟨u0, u1, u2, u4⟩ := hu
                go_simp
              simp only [Act.put, List.setIfInBounds_toArray, List.set_cons_zero, List.set_cons_succ]
              have hn14 : ¬ m1 = m4 := by have := HM.out; omega
              have hn41 : ¬ m4 = m1 := by have := HM.out; omega
              obtain ⟨z0, z1⟩ := (H7.out.1.below J9.out.bel).cells
              obtain ⟨g0, g1⟩ := (H7.out.1.below J9.out.bel).thaw
              obtain ⟨z2, z3⟩ := (H7.out.2.1.below J9.out.bel).cells
              obtain ⟨g2, g3⟩ := (H7.out.2.1.below J9.out.bel).thaw
              refine wpAnyH_done (by kernel_rfl) ?_ _
              refine tail_end rfl (fun K hK => ?_)
              dsimp only [List.getElem_toArray, List.getElem_cons_succ, List.getElem_cons_zero]
              go_simp
              refine hK _ _ ?_
              clear hK K
              go_wp2_with fail
              refine bodyPost_ret (v := .tuple #[.agg #[.slice a9 (vn + 1) c9, .slice (some ⟨kb, ko, none⟩) r wk], .bool true]) ?_ rfl ⟨a9, vn + 1, c9, r, true, rfl, ?_, .inr ⟨rfl, ?_⟩⟩
              · simp [results, Tryz.f15]
                go_simp
              · exact HW.out _ _ J9.out _ _ _
              · exact HX.out _ _ _ J9.out _ _ _
            exact AllReadyH.nil
          exact AllReadyH.nil
        exact AllReadyH.nil
      refine AllReadyH.cons rfl (fun K hK => ?_) ?_
      · dsimp only [List.getElem_toArray, List.getElem_cons_succ, List.getElem_cons_zero]
        go_simp
        refine hK.out _ _ (KS.out _ (bz1 w7 _).drew) (fun HS => ?_)
        clear hK K
        refine wpAnyH_ready (rs := [0]) (by kernel_rfl) (by simp) ?_
        refine AllReadyH.cons rfl (fun K hK => ?_) ?_
        · dsimp only [List.getElem_toArray, List.getElem_cons_zero]
          go_simp
          refine hK.out _ _ (KS.out _ (bz2 w7 _ _).drew) (fun HS => ?_)
          clear hK K
          refine wpAnyH_ready (rs := [6]) (by kernel_rfl) (by simp) ?_
          refine AllReadyH.cons rfl (fun K hK => ?_) ?_
          · refine stepG_list encN 34 32 72 (.agg #[.int .i64 0, .string ⟨#[]⟩, .int .i64 0, .int .u64 0, .slice none 0 0, .int .i64 0]) rfl infoR Tryz.underlying32 rfl (.tmp 39) (.tmp 44) rfl w7.heap.size (.slice (some ⟨w7.heap.size + 1, 0, none⟩) 0 0) [] zs ah vn ch (by rfl) (gony3 w7 ⟨5, vt, 0, 0, a7, kl, c7, vp⟩ _ rfl).own (by rfl) (HT.out.below ((bz2 w7 _ _).drew)) HU.out.2.2 (by simp; omega) (by simp only [maxLen, List.length_nil]; omega) ((bz2 w7 _ _).drew).size ?_
            intro v8 w8 ho8 hb8 ht8
            rw [List.nil_append] at ho8
            obtain ⟨a8, c8, e8, q8, _, r8, _⟩ := OwnG.form ho8
            rw [HU.out.2.2] at e8
            subst e8
            have J8 : Hid (Gone w7 w8 (.slice a8 vn c8) zs) := ⟨ho8, ((bz2 w7 _ _).drew).trans hb8⟩
            have Y8 : Hid (∀ j c, (encN.cells ⟨5, vt, 0, 0, a7, kl, c7, vp⟩)[j]? = some c → w8.cell? ((⟨w7.heap.size, 0, none⟩ : Addr).add j) = some c) := (gony3 w7 ⟨5, vt, 0, 0, a7, kl, c7, vp⟩ _ rfl).after ht8
            clear ho8 hb8 ht8 q8 r8
            refine hK.out _ _ (KS.out _ J8.out.bel) (fun HS => ?_)
            clear hK K
            simp only [List.getElem_toArray, List.getElem_cons_succ, List.getElem_cons_zero, Act.put, List.setIfInBounds_toArray, List.set_cons_zero, List.set_cons_succ]
            refine wpAnyH_ready (rs := [14]) (by kernel_rfl) (by simp) ?_
            refine AllReadyH.cons rfl (fun K hK => ?_) ?_
            · refine stepG_at encN 34 32 72 (.agg #[.int .i64 0, .string ⟨#[]⟩, .int .i64 0, .int .u64 0, .slice none 0 0, .int .i64 0]) rfl infoR Tryz.underlying32 rfl (.tmp 45) (.tmp 52) rfl w7.heap.size (.slice a8 vn c8) zs ⟨5, vt, 0, 0, a7, kl, c7, vp⟩ (by rfl) J8.out.own (w7.heap.size) (by rfl) Y8.out (by have := HU.out.2.2; omega) (by have := HU.out.2.2; simp only [maxLen]; omega) J8.out.bel.size ?_
              intro v9 w9 ho9 hb9 hm9 ht9
              obtain ⟨a9, c9, e9, q9, _, r9, _⟩ := OwnG.form ho9
              rw [List.length_append, HU.out.2.2] at e9
              simp only [List.length_cons, List.length_nil, Nat.zero_add] at e9
              subst e9
              have J9 : Hid (Gone w7 w9 (.slice a9 (vn + 1) c9) (zs ++ [⟨5, vt, 0, 0, a7, kl, c7, vp⟩])) := J8.out.more ho9 hb9
              clear ho9 hb9 hm9 ht9 q9 r9
              refine hK.out _ _ (KS.out _ J9.out.bel) (fun HS => ?_)
              clear hK K
              simp only [List.getElem_toArray, List.getElem_cons_succ, List.getElem_cons_zero, Act.put, List.setIfInBounds_toArray, List.set_cons_zero, List.set_cons_succ]
              refine take_at 15 (some 54) (.pointer (some ⟨m1, 0, none⟩)) rfl rfl (by kernel_rfl) (by kernel_rfl) (by kernel_rfl) (fun _ _ _ h => h) (.inl ⟨by rfl, fun u hu => ?_⟩) HS ?_
              · obtain ⟨u0, u1, u2, u4⟩ := hu
                go_simp
              simp only [Act.put, List.setIfInBounds_toArray, List.set_cons_zero, List.set_cons_succ]
              have hn14 : ¬ m1 = m4 := by have := HM.out; omega
              have hn41 : ¬ m4 = m1 := by have := HM.out; omega
              obtain ⟨z0, z1⟩ := (H7.out.1.below J9.out.bel).cells
              obtain ⟨g0, g1⟩ := (H7.out.1.below J9.out.bel).thaw
              obtain ⟨z2, z3⟩ := (H7.out.2.1.below J9.out.bel).cells
              obtain ⟨g2, g3⟩ := (H7.out.2.1.below J9.out.bel).thaw
              refine wpAnyH_done (by kernel_rfl) ?_ _
              refine tail_end rfl (fun K hK => ?_)
              dsimp only [List.getElem_toArray, List.getElem_cons_succ, List.getElem_cons_zero]
              go_simp
              refine hK _ _ ?_
              clear hK K
              go_wp2_with fail
              refine bodyPost_ret (v := .tuple #[.agg #[.slice a9 (vn + 1) c9, .slice (some ⟨kb, ko, none⟩) r wk], .bool true]) ?_ rfl ⟨a9, vn + 1, c9, r, true, rfl, ?_, .inr ⟨rfl, ?_⟩⟩
              · simp [results, Tryz.f15]
                go_simp
              · exact HW.out _ _ J9.out _ _ _
              · exact HX.out _ _ _ J9.out _ _ _
            exact AllReadyH.nil
          exact AllReadyH.nil
        exact AllReadyH.nil
      exact AllReadyH.nil

end Go.Proofs.YtijchmcajhdcoaaGreatDoor
