/-
  Hunks in memory, pieces of lists of texts, and slices.Clone of a list of texts by a contract. No condition but that the lists are short enough for any memory.
-/
import Derived.Test.YtmblkkmfbgngdaaHunk
import Derived.Test.YtmblkkmfbgngdaaPSame
namespace Go.Proofs.Ytmblkkmfbgngdaa
open Go.RowKit

theorem own_zero (w : World) (base : Nat) (hb : base ≤ w.heap.size) : Own (w.alloc (.cells #[] 9)) base (.slice (some ⟨w.heap.size, 0, none⟩) 0 0) [] :=
  own_base (World.ownsRow_made w #[] 0 (Nat.le_refl _) (Nat.zero_le _) rfl) hb

/-- A list that is empty by its length. -/
theorem rd_len0 {w : World} {ao : Option Addr} {xs : List Bs} (h : xs.length = 0) : Rd w ao xs := fun h0 => absurd h0 (by omega)

/-- The lines of a piece of a list that can be read. -/
theorem Rd.cut {w : World} {b off : Nat} {xs : List Bs} (h : Rd w (some ⟨b, off, none⟩) xs) (i j : Nat) : Rd w (some ⟨b, off + i, none⟩) (cutL xs i j) := by
  intro h0
  have hi : 0 < (xs.drop i).length ∧ 0 < j - i := by simp [cutL] at h0 ⊢; omega
  obtain ⟨b', off', e, hlt, hc⟩ := h (by simp at hi; omega)
  obtain ⟨rfl, rfl⟩ : b = b' ∧ off = off' := by simpa using e
  refine ⟨b, off + i, rfl, hlt, fun k hk => ?_⟩
  have hk' : k < j - i ∧ k < xs.length - i := by simp [cutL] at hk; omega
  have := hc (i + k) (by omega)
  rw [← Nat.add_assoc] at this
  rw [this]
  congr 4
  unfold el cutL
  simp only [List.getD_eq_getElem?_getD, List.getElem?_take, hk'.1, if_true, List.getElem?_drop]

/-- s[i:j], as one step: a value of this shape, which reads as the lines from i on, ahead of j. -/
theorem slice_ij {ao : Option Addr} {n c i j : Nat} {xs : List Bs} (hl : xs.length = n) (hc : n ≤ c) (hij : i ≤ j) (hj : j ≤ n) :
    ∃ a' k c', (∀ w, (Instr.slice 22 (.slice ao n c) (some (.int .i64 (i : Int))) (some (.int .i64 (j : Int))) none).run Try.prog w = .ok (.slice a' k c') w) ∧ (cutL xs i j).length = k ∧ k ≤ j ∧ k ≤ c' ∧ ∀ w, Rd w ao xs → Rd w a' (cutL xs i j) := by
  obtain ⟨i0, hi0, hz0, hz1, hz2⟩ := info_parts Try.info9
  refine ⟨if c = i then ao else ao.map (·.add i), j - i, c - i, fun w => ?_, ?_, ?_, ?_, ?_⟩
  · rw [run_slice_lh w 22 ao n c Try.underlying22 .i64 .i64 (i : Int) (j : Int) (by omega) (by omega) (by omega)]
    have : (sizeOf (Try.prog.elem 22)).run Try.prog w = .ok 1 w := by
      have he : Try.prog.elem 22 = 9 := by kernel_rfl
      rw [he]
      simp [sizeOf, typeInfo, hi0, hz1]
    rw [this]
    simp only [Result.andThen, sliced, Int.toNat_natCast, Nat.mul_one]
  · exact cutL_len (by omega)
  · omega
  · omega
  · intro w h
    split
    · refine rd_len0 ?_
      rw [cutL_len (by omega)]
      omega
    · by_cases h0 : 0 < xs.length
      · obtain ⟨b, off, rfl, hlt, hcc⟩ := h h0
        simp only [Option.map_some, addr_plus]
        exact Rd.cut (fun _ => ⟨b, off, rfl, hlt, hcc⟩) i j
      · refine rd_len0 ?_
        rw [cutL_len (by omega)]
        omega

/-- s[i:]. -/
theorem slice_i {ao : Option Addr} {n c i : Nat} {xs : List Bs} (hl : xs.length = n) (hc : n ≤ c) (hi : i ≤ n) :
    ∃ a' k c', (∀ w, (Instr.slice 22 (.slice ao n c) (some (.int .i64 (i : Int))) none none).run Try.prog w = .ok (.slice a' k c') w) ∧ (xs.drop i).length = k ∧ k ≤ n ∧ k ≤ c' ∧ ∀ w, Rd w ao xs → Rd w a' (xs.drop i) := by
  obtain ⟨a', k, c', h1, h2, h3, h4, h5⟩ := slice_ij (ao := ao) hl hc hi (Nat.le_refl n)
  have e : cutL xs i n = xs.drop i := by rw [← hl]; exact cutL_end xs i
  rw [e] at h2 h5
  refine ⟨a', k, c', fun w => ?_, h2, h3, h4, h5⟩
  rw [← h1 w, run_slice_l w 22 ao n c Try.underlying22 .i64 (i : Int) (by omega) (by omega), run_slice_lh w 22 ao n c Try.underlying22 .i64 .i64 (i : Int) (n : Int) (by omega) (by omega) (by omega)]
  simp only [Int.toNat_natCast]

/-- s[:j]. -/
theorem slice_j {ao : Option Addr} {n c j : Nat} {xs : List Bs} (hl : xs.length = n) (hc : n ≤ c) (hj : j ≤ n) :
    ∃ a' k c', (∀ w, (Instr.slice 22 (.slice ao n c) none (some (.int .i64 (j : Int))) none).run Try.prog w = .ok (.slice a' k c') w) ∧ (xs.take j).length = k ∧ k = j ∧ k ≤ c' ∧ ∀ w, Rd w ao xs → Rd w a' (xs.take j) := by
  obtain ⟨a', k, c', h1, h2, h3, h4, h5⟩ := slice_ij (ao := ao) hl hc (Nat.zero_le j) hj
  rw [cutL_front] at h2 h5
  refine ⟨a', k, c', fun w => ?_, h2, by rw [← h2, List.length_take]; omega, h4, h5⟩
  rw [← h1 w, run_slice_h w 22 ao n c Try.underlying22 .i64 (j : Int) (by omega) (by omega), run_slice_lh w 22 ao n c Try.underlying22 .i64 .i64 ((0 : Nat) : Int) (j : Int) (by omega) (by omega) (by omega)]
  simp only [Int.toNat_natCast]

set_option maxHeartbeats 400000 in
theorem clone_none {n c : Nat} (w : World) :
    Calls Try.prog 19 #[.slice none n c] w fun e w' => e = .returned (.slice none 0 0) ∧ w' = w := by
  have q : ∀ (w : World) (a : Option Addr) (n c n' c' : Nat), (binOp .eql 22 (.slice a n c) (.slice none n' c')).run Try.prog w = .ok (.bool a.isNone) w := fun w a n c n' c' => Lib.run_eql_slice_nil w _ _ a n c n' c' Try.underlying22
  go_enter Try.func19, Try.ntmps19
  go_wp2
  go_ret
  exact ⟨rfl, rfl⟩

set_option maxHeartbeats 400000 in
theorem clone_some {a : Addr} {n c : Nat} {xs : List Bs} (w : World) (ha : Rd w (some a) xs) (hl : xs.length = n) (hn : n ≤ 8796093022208) :
    Calls Try.prog 19 #[.slice (some a) n c] w fun e w' => ∃ v', e = .returned v' ∧ Own w' w.heap.size v' xs ∧ Below w.heap.size w w' := by
  have H : Hid (Rd w (some a) xs ∧ xs.length = n) := ⟨ha, hl⟩
  clear ha hl
  have q : ∀ (w : World) (a : Option Addr) (n c n' c' : Nat), (binOp .eql 22 (.slice a n c) (.slice none n' c')).run Try.prog w = .ok (.bool a.isNone) w := fun w a n c n' c' => Lib.run_eql_slice_nil w _ _ a n c n' c' Try.underlying22
  go_enter Try.func19, Try.ntmps19
  go_wp2_with (at_builtin; refine app_list rfl (.tmp 5) (.tmp 6) rfl w.heap.size _ [] xs (some a) n c rfl (own_zero w _ (Nat.le_refl _)) rfl (H.out.1.below ((Below.refl _ w).alloc (Nat.le_refl _) _)) H.out.2 (by simp; omega) (by simp) ?_; intro v2 w2 hown2 hbel2)
  go_wp2
  go_ret
  rw [List.nil_append] at hown2
  exact ⟨v2, rfl, hown2, ((Below.refl _ w).alloc (Nat.le_refl _) _).trans hbel2⟩

/-- An owned slice's address is its block's head. -/
theorem own_at_head {w : World} {base : Nat} {e : TypeId} {size n cap m : Nat} {xs : List Value} {ao : Option Addr} (h : w.ownsRow base e size (.slice ao n cap) m xs) {a : Addr} (ha : ao = some a) : (Value.slice (some a) n cap).ownBlock = some a.block := by
  rcases h.2 with ⟨e, _⟩ | ⟨g, c, cur, e, _⟩
  · cases e; cases ha
  · cases e; cases ha; rfl

/-- slices.Clone of a list of texts: a list of the same texts in a new row. -/
theorem clone_any {ao : Option Addr} {n c : Nat} {xs : List Bs} (w : World) (ha : Rd w ao xs) (hl : xs.length = n) (hn : n ≤ 8796093022208) :
    Calls Try.prog 19 #[.slice ao n c] w fun e w' => ∃ a' c', e = .returned (.slice a' n c') ∧ n ≤ c' ∧ Rd w' a' xs ∧ (∀ a, a' = some a → w.heap.size ≤ a.block) ∧ Below w.heap.size w w' := by
  cases ao with
  | none =>
    have h0 : n = 0 := by
      rcases Nat.eq_zero_or_pos n with h | h
      · exact h
      · obtain ⟨b, off, e, _⟩ := ha (by omega)
        cases e
    subst h0
    refine (clone_none w).mono ?_
    rintro e w' ⟨rfl, rfl⟩
    exact ⟨none, 0, rfl, Nat.le_refl _, ha, fun _ h => (by cases h), Below.refl _ _⟩
  | some a =>
    refine (clone_some w ha hl hn).mono ?_
    rintro e w' ⟨v', rfl, ho, hb⟩
    obtain ⟨a', c', rfl, h1, _, R⟩ := ho.form
    rw [hl] at h1
    rw [hl]
    exact ⟨a', c', rfl, h1, R, fun a h => (ho.lt a.block (by rw [h]; exact own_at_head ho (by rw [h]))).1, hb⟩

/-- A hunk as it lies: two numbers, and two lists by their addresses. -/
structure HV where
  a : Int
  b : Int
  ga : Option Addr
  gl : Nat
  gc : Nat
  na : Option Addr
  nl : Nat
  nc : Nat

def encH : Enc HV := ⟨fun v => [.int .i64 v.a, .int .i64 v.b, .slice v.ga v.gl v.gc, .slice v.na v.nl v.nc], 4, fun _ => rfl, by decide, by intro x u h; simp at h; rcases h with rfl | rfl | rfl | rfl <;> rfl⟩

/-- What lies there is this hunk. -/
structure HkAt (w : World) (v : HV) (h : Hk) : Prop where
  a : v.a = h.a
  b : v.b = h.b
  gl : h.gone.length = v.gl
  nl : h.new.length = v.nl
  rg : Rd w v.ga h.gone
  rn : Rd w v.na h.new

theorem HkAt.below {w w' : World} {v : HV} {h : Hk} (k : HkAt w v h) (hb : Below w.heap.size w w') : HkAt w' v h := ⟨k.a, k.b, k.gl, k.nl, k.rg.below hb, k.rn.below hb⟩

/-- What lies there are these hunks. -/
structure Hks (w : World) (vs : List HV) (hs : List Hk) : Prop where
  len : vs.length = hs.length
  at_ : ∀ (i : Nat) (v : HV) (h : Hk), vs[i]? = some v → hs[i]? = some h → HkAt w v h

theorem Hks.nil (w : World) : Hks w [] [] := ⟨rfl, fun i v h e => by simp at e⟩
theorem Hks.below {w w' : World} {vs : List HV} {hs : List Hk} (k : Hks w vs hs) (hb : Below w.heap.size w w') : Hks w' vs hs := ⟨k.len, fun i v h e1 e2 => (k.at_ i v h e1 e2).below hb⟩
theorem Hks.add {w : World} {vs : List HV} {hs : List Hk} (k : Hks w vs hs) {v : HV} {h : Hk} (hv : HkAt w v h) : Hks w (vs ++ [v]) (hs ++ [h]) := by
  refine ⟨by simp [k.len], fun i u g e1 e2 => ?_⟩
  by_cases hi : i < vs.length
  · rw [List.getElem?_append_left hi] at e1
    rw [List.getElem?_append_left (by rw [← k.len]; exact hi)] at e2
    exact k.at_ i u g e1 e2
  · rw [List.getElem?_append_right (by omega)] at e1
    rw [List.getElem?_append_right (by rw [← k.len]; omega), ← k.len] at e2
    have h0 : i - vs.length = 0 := by
      rcases Nat.eq_zero_or_pos (i - vs.length) with q | q
      · exact q
      · rw [List.getElem?_eq_none (by simp; omega)] at e1
        cases e1
    rw [h0] at e1 e2
    simp at e1 e2
    subst e1 e2
    exact hv

theorem Hks.get {w : World} {vs : List HV} {hs : List Hk} (k : Hks w vs hs) {i : Nat} (hi : i < hs.length) : ∃ v h, vs[i]? = some v ∧ hs[i]? = some h ∧ HkAt w v h := by
  have hv : i < vs.length := by rw [k.len]; exact hi
  have h1 : vs[i]? = some vs[i] := List.getElem?_eq_getElem hv
  have h2 : hs[i]? = some hs[i] := List.getElem?_eq_getElem hi
  exact ⟨_, _, h1, h2, k.at_ i _ _ h1 h2⟩

/-- The cells of a hunk in a list that can be read. -/
theorem RdG.hunk {w : World} {b off : Nat} {vs : List HV} (h : RdG encH w (some ⟨b, off, none⟩) vs) {i : Nat} {v : HV} (hx : vs[i]? = some v) :
    w.cell? ⟨b, off + i * 4, none⟩ = some (.int .i64 v.a) ∧ w.cell? ⟨b, off + i * 4 + 1, none⟩ = some (.int .i64 v.b) ∧ w.cell? ⟨b, off + i * 4 + 2, none⟩ = some (.slice v.ga v.gl v.gc) ∧ w.cell? ⟨b, off + i * 4 + 3, none⟩ = some (.slice v.na v.nl v.nc) := by
  obtain ⟨b', off', e, hlt, hc⟩ := h (by rcases Nat.lt_or_ge i vs.length with q | q
                                         · omega
                                         · rw [List.getElem?_eq_none q] at hx; cases hx)
  obtain ⟨rfl, rfl⟩ : b = b' ∧ off = off' := by simpa using e
  have h0 := hc i v hx 0 _ rfl
  have h1 := hc i v hx 1 _ rfl
  have h2 := hc i v hx 2 _ rfl
  have h3 := hc i v hx 3 _ rfl
  exact ⟨by simpa [encH] using h0, by simpa [encH, Nat.add_assoc] using h1, by simpa [encH, Nat.add_assoc] using h2, by simpa [encH, Nat.add_assoc] using h3⟩

/-- A cell in a block that is not turned. -/
theorem Turned.cell {S : Nat → Prop} {w w' : World} (h : Turned S w w') {p : Addr} (hp : p.block < w.heap.size) (hS : ¬ S p.block) : w'.cell? p = w.cell? p :=
  World.cell?_of_block (w := w) (h.block _ hp hS)

theorem Rd.turned {S : Nat → Prop} {w w' : World} {ao : Option Addr} {ss : List Bs} (h : Rd w ao ss) (ht : Turned S w w') (hS : 0 < ss.length → ∀ a, ao = some a → ¬ S a.block) : Rd w' ao ss := by
  intro h0
  obtain ⟨b, off, rfl, hlt, hc⟩ := h h0
  exact ⟨b, off, rfl, Nat.lt_of_lt_of_le hlt ht.size, fun i hi => (ht.cell (p := ⟨b, off + i, none⟩) hlt (show ¬ S b from hS h0 ⟨b, off, none⟩ rfl)).trans (hc i hi)⟩

/-- No text of these hunks lies in a block of S. -/
def Far (S : Nat → Prop) (vs : List HV) (hs : List Hk) : Prop := ∀ (i : Nat) (v : HV) (h : Hk), vs[i]? = some v → hs[i]? = some h → (0 < h.gone.length → ∀ a, v.ga = some a → ¬ S a.block) ∧ (0 < h.new.length → ∀ a, v.na = some a → ¬ S a.block)

theorem Far.nil (S : Nat → Prop) : Far S [] [] := fun i v h e => by simp at e
theorem Far.mono {S T : Nat → Prop} {vs : List HV} {hs : List Hk} (h : Far S vs hs) (k : ∀ i, T i → S i) : Far T vs hs := fun i v g e1 e2 => ⟨fun h0 a ha q => (h i v g e1 e2).1 h0 a ha (k _ q), fun h0 a ha q => (h i v g e1 e2).2 h0 a ha (k _ q)⟩
theorem Far.add {S : Nat → Prop} {vs : List HV} {hs : List Hk} (hl : vs.length = hs.length) (k : Far S vs hs) {v : HV} {h : Hk} (h1 : 0 < h.gone.length → ∀ a, v.ga = some a → ¬ S a.block) (h2 : 0 < h.new.length → ∀ a, v.na = some a → ¬ S a.block) : Far S (vs ++ [v]) (hs ++ [h]) := by
  intro i u g e1 e2
  by_cases hi : i < vs.length
  · rw [List.getElem?_append_left hi] at e1
    rw [List.getElem?_append_left (by rw [← hl]; exact hi)] at e2
    exact k i u g e1 e2
  · rw [List.getElem?_append_right (by omega)] at e1
    rw [List.getElem?_append_right (by rw [← hl]; omega), ← hl] at e2
    have h0 : i - vs.length = 0 := by
      rcases Nat.eq_zero_or_pos (i - vs.length) with q | q
      · exact q
      · rw [List.getElem?_eq_none (by simp; omega)] at e1
        cases e1
    rw [h0] at e1 e2
    simp at e1 e2
    subst e1 e2
    exact ⟨h1, h2⟩

theorem Hks.turned {S : Nat → Prop} {w w' : World} {vs : List HV} {hs : List Hk} (k : Hks w vs hs) (hf : Far S vs hs) (ht : Turned S w w') : Hks w' vs hs :=
  ⟨k.len, fun i v h e1 e2 => by
    have := k.at_ i v h e1 e2
    exact ⟨this.a, this.b, this.gl, this.nl, this.rg.turned ht (hf i v h e1 e2).1, this.rn.turned ht (hf i v h e1 e2).2⟩⟩

/-- Texts of hunks that can be read in a world lie below its end. -/
theorem Hks.far {w : World} {vs : List HV} {hs : List Hk} (k : Hks w vs hs) : Far (fun i => w.heap.size ≤ i) vs hs := by
  intro i v h e1 e2
  have := k.at_ i v h e1 e2
  refine ⟨fun h0 a ha q => ?_, fun h0 a ha q => ?_⟩
  · obtain ⟨b, off, e, hlt, _⟩ := this.rg h0
    rw [ha] at e
    cases e
    exact absurd hlt (Nat.not_lt.2 q)
  · obtain ⟨b, off, e, hlt, _⟩ := this.rn h0
    rw [ha] at e
    cases e
    exact absurd hlt (Nat.not_lt.2 q)

/-- Two numbers in a block of their own. -/
def PairAt (w : World) (B : Nat) (t : TypeId) (i j : Int) : Prop := w.heap[B]? = some (.cells #[.int .i64 i, .int .i64 j] t (0, 0))

theorem PairAt.lt {w : World} {B : Nat} {t : TypeId} {i j : Int} (h : PairAt w B t i j) : B < w.heap.size := (Array.getElem?_eq_some_iff.1 h).1
theorem PairAt.cells {w : World} {B : Nat} {t : TypeId} {i j : Int} (h : PairAt w B t i j) : w.cell? ⟨B, 0, none⟩ = some (.int .i64 i) ∧ w.cell? ⟨B, 1, none⟩ = some (.int .i64 j) ∧ w.frozen? ⟨B, 0, none⟩ = false ∧ w.frozen? ⟨B, 1, none⟩ = false := by
  unfold PairAt at h
  simp [World.cell?, World.frozen?, h]
theorem PairAt.turned {S : Nat → Prop} {w w' : World} {B : Nat} {t : TypeId} {i j : Int} (h : PairAt w B t i j) (ht : Turned S w w') (hS : ¬ S B) : PairAt w' B t i j := (ht.block B h.lt hS).trans h
theorem PairAt.below {w w' : World} {B : Nat} {t : TypeId} {i j : Int} (h : PairAt w B t i j) (hb : Below w.heap.size w w') : PairAt w' B t i j := (hb.block B h.lt).trans h
theorem PairAt.new (w : World) (t : TypeId) (i j : Int) : PairAt (w.alloc (.cells #[.int .i64 i, .int .i64 j] t)) w.heap.size t i j := by
  unfold PairAt World.alloc
  simp
theorem PairAt.put {w : World} {B : Nat} {t : TypeId} {i j : Int} (h : PairAt w B t i j) (x y : Int) : PairAt ((w.setCell ⟨B, 0, none⟩ (.int .i64 x)).setCell ⟨B, 1, none⟩ (.int .i64 y)) B t x y := by
  unfold PairAt at h ⊢
  simp [World.setCell, Array.getElem?_modify, h]

/-- One thing more behind a row of the call's own, within a region whose order is drawn: and what it turns. -/
theorem stepG_at {α : Type} {ops : Array Oper} {o : Oper} {a : Act} {w : World} {K : Act → World → Prop} {Q : Exit → Act → World → Prop} {X : Prop} (E : Enc α) (e t : TypeId) (bytes : Nat) (z : Value) (hz : z.cells.size = E.size)
    (hinfo : (Try.prog.info? e).map (fun i => (i.zero, i.size, i.bytes)) = some (some z, E.size, bytes)) (hu : Try.prog.underlying t = some (.slice e)) (hgd : o.guard = none) (s x : Operand)
    (hop : o.op = .call { callee := .builtin .append, args := #[s, x], argTypes := #[t, t] }) (base : Nat) (v : Value) (ss : List α) (y : α) (hs : a.eval s = v) (hown : OwnG E e w base v ss)
    (b : Nat) (hx : a.eval x = .slice (some ⟨b, 0, none⟩) 1 1) (hc : ∀ j u, (E.cells y)[j]? = some u → w.cell? ((⟨b, 0, none⟩ : Addr).add j) = some u) (hlen : (ss.length + 1) * bytes ≤ 140737488355328) (hmax : ss.length + 1 ≤ maxLen) (hb : base ≤ w.heap.size)
    (h : ∀ v' w', OwnG E e w' base v' (ss ++ [y]) → Below base w w' → Moved w v v' → Turned (fun k => v.ownBlock = some k) w w' → K (a.put o.dst v') w') :
    if Region.wanted o (yielded ops a.tmps) = true then Oper.wp Try.prog o a w K Q else X := by
  obtain ⟨i0, hi0, hz0, hz1, hz2⟩ := info_parts hinfo
  refine step_append_moved hgd s x t hop base e i0 _ E.size bytes hu hi0 hz0 hz1 hz2 hz E.pos v ss.length (E.all ss) hs hown ⟨b, 0, none⟩ 1 1 (E.cells y) hx (by rw [E.len, Nat.one_mul]) hc (E.one y) hmax hlen hb ?_
  intro v' w' h1 h2 h3
  have ht : Turned (fun k => v.ownBlock = some k) w w' := (Turned.refl _ _).grown h2 (fun k _ e => e)
  refine h v' w' ?_ (OwnG.turn hown hb ht) h3 ht
  unfold OwnG
  rw [List.length_append, E.all_append]
  simpa [Enc.all] using h1

/-- Hunks that are told one by one into a row of the call's own; of what was there at w5 the blocks of X alone are turned. -/
structure HJ (te : TypeId) (X : Nat → Prop) (W w5 wr : World) (vs : List HV) (Hs : List Hk) (hv : Value) : Prop where
  own : OwnG encH te wr w5.heap.size hv vs
  hks : Hks wr vs Hs
  far : Far (fun k => hv.ownBlock = some k ∨ X k) vs Hs
  tur : Turned X w5 wr
  bel : Below W.heap.size W wr
  low : W.heap.size ≤ w5.heap.size
  old : ∀ k, X k → k < w5.heap.size

theorem HJ.start {te : TypeId} {X : Nat → Prop} {W w5 : World} (h1 : Below W.heap.size W w5) (h2 : ∀ k, X k → k < w5.heap.size) : HJ te X W w5 w5 [] [] (.slice none 0 0) :=
  ⟨OwnG.nil _ _ _ _, Hks.nil _, Far.nil _, Turned.refl _ _, h1, h1.size, h2⟩

theorem HJ.below {te : TypeId} {X : Nat → Prop} {W w5 wr w' : World} {vs : List HV} {Hs : List Hk} {hv : Value} (h : HJ te X W w5 wr vs Hs hv) (hb : Below wr.heap.size wr w') : HJ te X W w5 w' vs Hs hv :=
  ⟨h.own.below hb, h.hks.below hb, h.far, h.tur.trans (Turned.ofBelow (S := X) hb) (fun _ _ q => q), h.bel.trans (hb.mono h.bel.size), h.low, h.old⟩

/-- Something of X is turned. -/
theorem HJ.turn {te : TypeId} {X : Nat → Prop} {W w5 wr w' : World} {vs : List HV} {Hs : List Hk} {hv : Value} (h : HJ te X W w5 wr vs Hs hv) (ht : Turned X wr w') (hX : ∀ k, X k → W.heap.size ≤ k) : HJ te X W w5 w' vs Hs hv :=
  ⟨ownsRow_turned h.own ht (fun g hg q => by have := h.old g q; have := (h.own.lt g hg).1; omega), h.hks.turned (h.far.mono (fun _ q => .inr q)) ht, h.far, h.tur.trans ht (fun _ _ q => q), h.bel.trans (ht.below h.bel.size (fun k hk q => by have := hX k q; omega)), h.low, h.old⟩

/-- One hunk more. -/
theorem HJ.add {te : TypeId} {X : Nat → Prop} {W w5 wr w7 w8 : World} {vs : List HV} {Hs : List Hk} {hv hv' : Value} {v : HV} {g : Hk} {o : Obj} (h : HJ te X W w5 wr vs Hs hv) (hb : Below wr.heap.size wr w7) (hk : HkAt w7 v g)
    (n1 : 0 < g.gone.length → ∀ a, v.ga = some a → ¬ (hv.ownBlock = some a.block ∨ X a.block)) (n2 : 0 < g.new.length → ∀ a, v.na = some a → ¬ (hv.ownBlock = some a.block ∨ X a.block))
    (ho : OwnG encH te w8 w5.heap.size hv' (vs ++ [v])) (hm : Moved (w7.alloc o) hv hv') (ht : Turned (fun k => hv.ownBlock = some k) (w7.alloc o) w8) : HJ te X W w5 w8 (vs ++ [v]) (Hs ++ [g]) hv' := by
  have h7 := h.below hb
  have ks : Hks w7 (vs ++ [v]) (Hs ++ [g]) := h7.hks.add hk
  have fs : Far (fun k => hv.ownBlock = some k ∨ X k) (vs ++ [v]) (Hs ++ [g]) := Far.add h.hks.len h.far n1 n2
  have ba : Below w7.heap.size w7 (w7.alloc o) := (Below.refl _ w7).alloc (Nat.le_refl _) _
  have h8 := h7.below ba
  refine ⟨ho, (ks.below ba).turned (fs.mono (fun _ q => .inl q)) ht, ?_, ?_, ?_, h.low, h.old⟩
  · rcases hm with e | e
    · rw [e]; exact fs
    · intro i u q e1 e2
      have f1 := fs i u q e1 e2
      have f2 := ks.far i u q e1 e2
      refine ⟨fun h0 a ha r => ?_, fun h0 a ha r => ?_⟩
      · rcases r with r | r
        · have := e _ r
          simp at this
          exact f2.1 h0 a ha (by omega)
        · exact f1.1 h0 a ha (.inr r)
      · rcases r with r | r
        · have := e _ r
          simp at this
          exact f2.2 h0 a ha (by omega)
        · exact f1.2 h0 a ha (.inr r)
  · exact h8.tur.trans ht (fun i hi q => by have := (h8.own.lt i q).1; omega)
  · exact h8.bel.trans ((ht.below (B := w5.heap.size) h8.tur.size (fun k hk q => by have := (h8.own.lt k q).1; omega)).mono h.low)

theorem info46 : (Try.prog.info? 46).map (fun i => (i.zero, i.size, i.bytes)) = some (some (.agg #[.int .i64 0, .int .i64 0, .slice none 0 0, .slice none 0 0]), 4, 64) := by kernel_rfl
theorem info47 : (Try.prog.info? 47).map (fun i => (i.zero, i.size, i.bytes)) = some (some (.agg #[.int .i64 0, .int .i64 0, .slice none 0 0, .slice none 0 0]), 4, 64) := by kernel_rfl

end Go.Proofs.Ytmblkkmfbgngdaa
