/-
  Several texts, laid together.
-/
import Derived.Test.YtofbphmdkhocdaaGreatM03
import Derived.SliceStrings
import Derived.ProofKit
import Derived.OpenShut
import Derived.ShutString
import Derived.ChangeOld
import Derived.Below
import Derived.SizedLaws
import Derived.Deep.SlicePairs
import Derived.Test.YtofbphmdkhocdaaGreatM18

/-
  How bytes, texts and lists of texts that came in read, out of their reading as data, each within the form's reach. No condition.
-/
namespace Go.Proofs.YtofbphmdkhocdaaGreat
open Go.ChangeShapes Go.WideShapes Go.ChangeAt Go.RowKit

theorem wf_i64 {n : Int} (h : (Lit.int .i64 n).wf = true) : -9223372036854775808 ≤ n ∧ n ≤ 9223372036854775807 := by
  have e1 : IntKind.i64.min = -9223372036854775808 := by decide
  have e2 : IntKind.i64.max = 9223372036854775807 := by decide
  simpa [Lit.wf, e1, e2] using h
theorem wf_u8 {n : Int} (h : (Lit.int .u8 n).wf = true) : ∃ y : UInt8, n = (y.toNat : Int) := by
  have e1 : IntKind.u8.min = 0 := by decide
  have e2 : IntKind.u8.max = 255 := by decide
  have h' : 0 ≤ n ∧ n ≤ 255 := by simpa [Lit.wf, e1, e2] using h
  refine ⟨UInt8.ofNat n.toNat, ?_⟩
  rw [UInt8.toNat_ofNat']
  omega

theorem wf_u64 {n : Int} (h : (Lit.int .u64 n).wf = true) : ∃ y : UInt64, n = (y.toNat : Int) := by
  have e1 : IntKind.u64.min = 0 := by decide
  have e2 : IntKind.u64.max = 18446744073709551615 := by decide
  have h' : 0 ≤ n ∧ n ≤ 18446744073709551615 := by simpa [Lit.wf, e1, e2] using h
  refine ⟨UInt64.ofNat n.toNat, ?_⟩
  rw [UInt64.toNat_ofNat']
  omega

/-- All that is told of a datum lies within the form's reach. -/
def Near {H : Type} (t : TypeId) (d : DataW H) : Prop := ∀ m ∈ d.weights Tryz.prog t, m ≤ reachBytes

theorem reach47 : reachBytes ≤ 140737488355328 := by decide

theorem near_each {H : Type} {ts : List TypeId} {ds : List (DataW H)} (h : ∀ m ∈ DataW.weightsEach Tryz.prog ts ds, m ≤ reachBytes) {j : Nat} {t : TypeId} {d : DataW H} (ht : ts[j]? = some t) (hd : ds[j]? = some d) : Near t d :=
  fun m hm => h m (DataW.weights_mem_each ht hd m hm)

theorem weights_all_mem {H : Type} {e : TypeId} : ∀ {l : List (DataW H)} {d : DataW H}, d ∈ l → ∀ m ∈ d.weights Tryz.prog e, m ∈ DataW.weightsAll Tryz.prog e l
  | [], _, h, _, _ => by cases h
  | x :: t, d, h, m, hm => by
    simp only [DataW.weightsAll, List.mem_append]
    rcases List.mem_cons.1 h with rfl | q
    · exact .inl hm
    · exact .inr (weights_all_mem q m hm)

theorem near_elem {H : Type} {t e : TypeId} {es sp : List (DataW H)} (hu : Tryz.prog.underlying t = some (.slice e)) (h : Near t (.slice es sp)) {d : DataW H} (hd : d ∈ es) : Near e d := by
  intro m hm
  refine h m ?_
  simp only [DataW.weights, hu, List.mem_cons, List.mem_append]
  exact .inr (.inl (weights_all_mem hd m hm))

theorem near_len {H : Type} {t e : TypeId} {es sp : List (DataW H)} (hu : Tryz.prog.underlying t = some (.slice e)) (h : Near t (.slice es sp)) : es.length * Tryz.prog.bytesOf e ≤ reachBytes := by
  have := h ((es.length + sp.length) * Tryz.prog.bytesOf e) (by simp [DataW.weights, hu])
  refine Nat.le_trans (Nat.mul_le_mul_right _ ?_) this
  omega

section
variable {H : Type} {enc : TypeId × Value → H} {W : World} {spare : Nat → Bool} {held : Bool} {fuel : Nat} {v : Value} {x : DataW H × List MemPlace}

/-- Bytes that came in. -/
theorem bytes_view (h : DataW.trod enc Tryz.prog W 0 spare held fuel 94 [v] = some x) (hn : Near 94 x.1) : ∃ (a : Option Addr) (n c : Nat) (bs : Bs), v = .slice a n c ∧ bs.length = n ∧ n ≤ c ∧ c ≤ 9223372036854775807 ∧ n ≤ 140737488355328 ∧ RdG encB W a bs := by
  rcases Go.Deep.open_slice Tryz.underlying94 h with ⟨hcs, _⟩ | ⟨y, l, c, m, k, D, Pl, hcs, _, hl, hm, hmm, hx, hc⟩
  · obtain rfl : v = .slice none 0 0 := by simpa using hcs
    exact ⟨none, 0, 0, [], rfl, rfl, by omega, by omega, by omega, RdG.nil _ _ _⟩
  · obtain rfl : v = .slice (some y) l c := by simpa using hcs
    have hlm : l ≤ m := by rw [hmm]; split <;> omega
    have ce : Tryz.prog.cellsOf 5 = 1 := by kernel_rfl
    have be : Tryz.prog.bytesOf 5 = 1 := by kernel_rfl
    have each : ∀ i, i < l → ∃ q : UInt8, W.cell? (y.add i) = some (.int .u8 (q.toNat : Int)) := by
      intro i hi
      obtain ⟨cs', h1, h2⟩ := hc i (by omega)
      rw [ce, Nat.mul_one] at h1
      obtain ⟨_, hlen, hcell⟩ := World.cells?_some h1
      obtain ⟨z, e0, _, hwf⟩ := DataW.trod_int Tryz.underlying5 h2
      obtain ⟨q, rfl⟩ := wf_u8 hwf
      subst e0
      have := hcell 0 (by simp)
      rw [Go.Deep.add_add] at this
      exact ⟨q, this⟩
    haveI : Inhabited UInt8 := ⟨0⟩
    obtain ⟨q, hq⟩ := Go.Deep.choose_lt each
    have hnl : l ≤ reachBytes := by
      rw [hx] at hn
      have := near_len Tryz.underlying94 hn
      rw [be, List.length_map, List.length_range] at this
      omega
    refine ⟨some y, l, c, (List.range l).map q, rfl, by simp, hl, by unfold maxLen at hm; omega, Nat.le_trans hnl reach47, ?_⟩
    intro h0
    have h0' : 0 < l := by simpa using h0
    obtain ⟨b, off, spot⟩ := y
    have first := hq 0 h0'
    have hs : spot = none := by
      have := World.cell?_spot first
      simpa [Addr.add] using this
    subst hs
    refine ⟨b, off, rfl, ?_, ?_⟩
    · have := World.block_lt_of_cell? W _ first
      rw [addr_plus] at this
      exact this
    · intro i z hz j u hu
      have hi : i < l := by
        have := (List.getElem?_eq_some_iff.1 hz).1
        simpa using this
      obtain rfl : z = q i := by simpa [hi] using hz.symm
      have hj : j = 0 := by
        rcases Nat.eq_zero_or_pos j with q' | q'
        · exact q'
        · rw [List.getElem?_eq_none (by show ([_] : List Value).length ≤ j; simp; omega)] at hu; cases hu
      subst hj
      have := hq i hi
      rw [addr_plus] at this
      rw [show off + (i * encB.size + 0) = off + i from (by show off + (i * 1 + 0) = off + i; omega), this]
      exact hu

/-- A text that came in. -/
theorem text_view (h : DataW.trod enc Tryz.prog W 0 spare held fuel 9 [v] = some x) (hn : Near 9 x.1) : ∃ bs : Bs, v = tx bs ∧ bs.length ≤ 140737488355328 := by
  obtain ⟨s, e, hx, hs⟩ := DataW.trod_string Tryz.underlying9 h
  obtain rfl : v = .string s := by simpa using e
  refine ⟨s.data.toList, by simp, ?_⟩
  rw [hx] at hn
  have := hn s.data.toList.length (by simp [DataW.weights])
  exact Nat.le_trans this reach47

end

theorem texts_view {H : Type} {enc : TypeId × Value → H} {W : World} {spare : Nat → Bool} {held : Bool} {fuel len cap : Nat} {a : Option Addr} {x : DataW H × List MemPlace}
    (h : DataW.trod enc Tryz.prog W 0 spare held fuel 23 [.slice a len cap] = some x) : ∃ xs : List Bs, xs.length = len ∧ len ≤ 9223372036854775807 ∧ Rd W a xs ∧ ∀ y ∈ xs, y.length ≤ 9223372036854775807 := by
  rcases open_strings Tryz.underlying23 Tryz.underlying9 (by kernel_rfl) h with ⟨hcs, _⟩ | ⟨y, l, c, ss, hcs, _, hl, hm, hmm, _, hc, hs⟩
  · simp only [List.cons.injEq, Value.slice.injEq, and_true] at hcs
    obtain ⟨rfl, rfl, rfl⟩ := hcs
    exact ⟨[], rfl, by omega, fun h => absurd h (by simp), by simp⟩
  · simp only [List.cons.injEq, Value.slice.injEq, and_true] at hcs
    obtain ⟨rfl, rfl, rfl⟩ := hcs
    have hlm : len ≤ ss.length := by rw [hmm]; split <;> omega
    refine ⟨(ss.take len).map (·.data.toList), by simp; omega, by unfold maxLen at hm; omega, ?_, ?_⟩
    · intro h0
      have h0' : 0 < len := by simp at h0; omega
      obtain ⟨b, off, spot⟩ := y
      have hsp : spot = none := by
        have := World.cell?_spot (hc 0 (by omega))
        simpa [Addr.add] using this
      subst hsp
      refine ⟨b, off, rfl, ?_, ?_⟩
      · have := World.block_lt_of_cell? W _ (hc 0 (by omega))
        rw [addr_plus] at this
        exact this
      · intro i hi
        have hi' : i < len := by simp at hi; omega
        have k0 := hc i (by omega)
        rw [addr_plus] at k0
        rw [k0]
        congr 2
        have hi2 : i < ss.length := by omega
        simp [el, hi2, hi']
    · intro u hu
      obtain ⟨s, h1, rfl⟩ := List.mem_map.1 hu
      have := hs s (List.mem_of_mem_take h1)
      rw [Lib.size_eq] at this
      simpa [maxLen] using this

theorem own_knob : ownKnob Tryz.prog.godebug = none := by kernel_rfl
theorem laidOut : laidOutB Tryz.prog = true := by kernel_rfl

end Go.Proofs.YtofbphmdkhocdaaGreat

/-
  How entries and changes that came in read, out of their reading as data, each within the form's reach. No condition.
-/
namespace Go.Proofs.YtofbphmdkhocdaaGreat
open Go.ChangeShapes Go.WideShapes Go.ChangeAt Go.RowKit

section
variable {H : Type} {enc : TypeId × Value → H} {W : World} {spare : Nat → Bool} {held : Bool} {fuel : Nat} {v : Value} {x : DataW H × List MemPlace}

/-- An entry that came in. -/
theorem ent_view {c0 c1 : Value} (h : DataW.trod enc Tryz.prog W 0 spare held fuel 52 [c0, c1] = some x) (hn : Near 52 x.1) : ∃ e : En, c0 = tx e.1 ∧ c1 = .int .u64 (e.2.toNat : Int) ∧ e.1.length ≤ 140737488355328 := by
  have c9 : Tryz.prog.cellsOf 9 = 1 := by kernel_rfl
  have c34 : Tryz.prog.cellsOf 50 = 1 := by kernel_rfl
  obtain ⟨xs, k', hk, hxy, _, hxl, hf⟩ := DataW.trod_struct Tryz.underlying52 h
  match xs, hxl with
  | [y0, y1], _ =>
    have g0 : DataW.trod enc Tryz.prog W 0 spare held k' 9 [c0] = some y0 := by simpa [c9, c34] using hf 0 _ rfl
    have g1 : DataW.trod enc Tryz.prog W 0 spare held k' 50 [c1] = some y1 := by simpa [c9, c34] using hf 1 _ rfl
    have nE : ∀ m ∈ DataW.weightsEach Tryz.prog [9, 50] [y0.1, y1.1], m ≤ reachBytes := by
      intro m hm
      refine hn m ?_
      rw [hxy]
      simp only [DataW.weights, Tryz.underlying52]
      exact hm
    obtain ⟨bs, rfl, h1⟩ := text_view g0 (near_each nE (j := 0) rfl rfl)
    obtain ⟨z0, e0, _, w0⟩ := DataW.trod_int Tryz.underlying50 g1
    obtain rfl : c1 = .int .u64 z0 := by simpa using e0
    obtain ⟨q, rfl⟩ := wf_u64 w0
    exact ⟨(bs, q), rfl, rfl, h1⟩

set_option maxRecDepth 100000 in
/-- Entries that came in. -/
theorem ents_view {a : Option Addr} {len cap : Nat} (h : DataW.trod enc Tryz.prog W 0 spare held fuel 22 [.slice a len cap] = some x) (hn : Near 22 x.1) : ∃ es : List En, es.length = len ∧ len * 24 ≤ 140737488355328 ∧ len ≤ cap ∧ RdG encE W a es ∧ Fine es := by
  rcases Go.Deep.open_slice Tryz.underlying22 h with ⟨hcs, _⟩ | ⟨y, l, c, m, k, D, Pl, hcs, _, hl, hm, hmm, hx, hc⟩
  · simp only [List.cons.injEq, Value.slice.injEq, and_true] at hcs
    obtain ⟨rfl, rfl, rfl⟩ := hcs
    exact ⟨[], rfl, by omega, Nat.le_refl _, RdG.nil _ _ _, fun e he => by simp at he⟩
  · simp only [List.cons.injEq, Value.slice.injEq, and_true] at hcs
    obtain ⟨rfl, rfl, rfl⟩ := hcs
    have hlm : len ≤ m := by rw [hmm]; split <;> omega
    have ce : Tryz.prog.cellsOf 52 = 2 := by kernel_rfl
    have be : Tryz.prog.bytesOf 52 = 24 := by kernel_rfl
    rw [hx] at hn
    have hnl : len * 24 ≤ reachBytes := by
      have := near_len Tryz.underlying22 hn
      rw [List.length_map, List.length_range, be] at this
      exact this
    have each : ∀ i, i < len → ∃ q : En, (∀ j u, (encE.cells q)[j]? = some u → W.cell? (y.add (i * 2 + j)) = some u) ∧ q.1.length ≤ 140737488355328 := by
      intro i hi
      obtain ⟨cs', h1, h2⟩ := hc i (by omega)
      rw [ce] at h1
      obtain ⟨_, hlen, hcell⟩ := World.cells?_some h1
      have nD : Near 52 (D i) := near_elem Tryz.underlying22 hn (List.mem_map.2 ⟨i, List.mem_range.2 hi, rfl⟩)
      match cs', hlen with
      | [v0, v1], _ =>
        obtain ⟨q, rfl, rfl, hql⟩ := ent_view h2 nD
        refine ⟨q, ?_, hql⟩
        intro j u hu
        have hj : j < 2 := by
          have := (List.getElem?_eq_some_iff.1 hu).1
          simpa [encE] using this
        have := hcell j (by omega)
        rw [Go.Deep.add_add] at this
        rw [this]
        match j, hj, hu with
        | 0, _, hu => simpa [encE] using hu
        | 1, _, hu => simpa [encE] using hu
    haveI : Inhabited En := ⟨([], 0)⟩
    obtain ⟨q, hq⟩ := Go.Deep.choose_lt each
    refine ⟨(List.range len).map q, by simp, Nat.le_trans hnl reach47, hl, ?_, ?_⟩
    · intro h0
      have h0' : 0 < len := by simpa using h0
      obtain ⟨b, off, spot⟩ := y
      have first := (hq 0 h0').1 0 (tx (q 0).1) rfl
      have hs : spot = none := by
        have := World.cell?_spot first
        simpa [Addr.add] using this
      subst hs
      refine ⟨b, off, rfl, ?_, ?_⟩
      · have := World.block_lt_of_cell? W _ first
        rw [addr_plus] at this
        exact this
      · intro i z hz j u hu
        have hi : i < len := by
          have := (List.getElem?_eq_some_iff.1 hz).1
          simpa using this
        obtain rfl : z = q i := by simpa [hi] using hz.symm
        have := (hq i hi).1 j u hu
        rw [addr_plus] at this
        exact this
    · intro e he
      obtain ⟨i, hi, rfl⟩ := List.mem_map.1 he
      have := (hq i (List.mem_range.1 hi)).2
      omega

/-- A change that came in. -/
theorem chg_view {c0 c1 c2 : Value} (h : DataW.trod enc Tryz.prog W 0 spare held fuel 58 [c0, c1, c2] = some x) (hn : Near 58 x.1) : ∃ e : Chg, c0 = tx e.1 ∧ c1 = .int .u64 (e.2.1.toNat : Int) ∧ c2 = .int .u64 (e.2.2.toNat : Int) ∧ e.1.length ≤ 140737488355328 := by
  have c9 : Tryz.prog.cellsOf 9 = 1 := by kernel_rfl
  have c34 : Tryz.prog.cellsOf 50 = 1 := by kernel_rfl
  obtain ⟨xs, k', hk, hxy, _, hxl, hf⟩ := DataW.trod_struct Tryz.underlying58 h
  match xs, hxl with
  | [y0, y1, y2], _ =>
    have g0 : DataW.trod enc Tryz.prog W 0 spare held k' 9 [c0] = some y0 := by simpa [c9, c34] using hf 0 _ rfl
    have g1 : DataW.trod enc Tryz.prog W 0 spare held k' 50 [c1] = some y1 := by simpa [c9, c34] using hf 1 _ rfl
    have g2 : DataW.trod enc Tryz.prog W 0 spare held k' 50 [c2] = some y2 := by simpa [c9, c34] using hf 2 _ rfl
    have nE : ∀ m ∈ DataW.weightsEach Tryz.prog [9, 50, 50] [y0.1, y1.1, y2.1], m ≤ reachBytes := by
      intro m hm
      refine hn m ?_
      rw [hxy]
      simp only [DataW.weights, Tryz.underlying58]
      exact hm
    obtain ⟨bs, rfl, h1⟩ := text_view g0 (near_each nE (j := 0) rfl rfl)
    obtain ⟨z0, e0, _, w0⟩ := DataW.trod_int Tryz.underlying50 g1
    obtain rfl : c1 = .int .u64 z0 := by simpa using e0
    obtain ⟨q, rfl⟩ := wf_u64 w0
    obtain ⟨z2, e2, _, w2⟩ := DataW.trod_int Tryz.underlying50 g2
    obtain rfl : c2 = .int .u64 z2 := by simpa using e2
    obtain ⟨q2, rfl⟩ := wf_u64 w2
    exact ⟨(bs, q, q2), rfl, rfl, rfl, h1⟩

set_option maxRecDepth 100000 in
/-- Changes that came in. -/
theorem chgs_view {a : Option Addr} {len cap : Nat} (h : DataW.trod enc Tryz.prog W 0 spare held fuel 37 [.slice a len cap] = some x) (hn : Near 37 x.1) : ∃ es : List Chg, es.length = len ∧ len * 32 ≤ 140737488355328 ∧ len ≤ cap ∧ RdG encC W a es ∧ FineC es := by
  rcases Go.Deep.open_slice Tryz.underlying37 h with ⟨hcs, _⟩ | ⟨y, l, c, m, k, D, Pl, hcs, _, hl, hm, hmm, hx, hc⟩
  · simp only [List.cons.injEq, Value.slice.injEq, and_true] at hcs
    obtain ⟨rfl, rfl, rfl⟩ := hcs
    exact ⟨[], rfl, by omega, Nat.le_refl _, RdG.nil _ _ _, fun e he => by simp at he⟩
  · simp only [List.cons.injEq, Value.slice.injEq, and_true] at hcs
    obtain ⟨rfl, rfl, rfl⟩ := hcs
    have hlm : len ≤ m := by rw [hmm]; split <;> omega
    have ce : Tryz.prog.cellsOf 58 = 3 := by kernel_rfl
    have be : Tryz.prog.bytesOf 58 = 32 := by kernel_rfl
    rw [hx] at hn
    have hnl : len * 32 ≤ reachBytes := by
      have := near_len Tryz.underlying37 hn
      rw [List.length_map, List.length_range, be] at this
      exact this
    have each : ∀ i, i < len → ∃ q : Chg, (∀ j u, (encC.cells q)[j]? = some u → W.cell? (y.add (i * 3 + j)) = some u) ∧ q.1.length ≤ 140737488355328 := by
      intro i hi
      obtain ⟨cs', h1, h2⟩ := hc i (by omega)
      rw [ce] at h1
      obtain ⟨_, hlen, hcell⟩ := World.cells?_some h1
      have nD : Near 58 (D i) := near_elem Tryz.underlying37 hn (List.mem_map.2 ⟨i, List.mem_range.2 hi, rfl⟩)
      match cs', hlen with
      | [v0, v1, v2], _ =>
        obtain ⟨q, rfl, rfl, rfl, hql⟩ := chg_view h2 nD
        refine ⟨q, ?_, hql⟩
        intro j u hu
        have hj : j < 3 := by
          have := (List.getElem?_eq_some_iff.1 hu).1
          simpa [encC] using this
        have := hcell j (by omega)
        rw [Go.Deep.add_add] at this
        rw [this]
        match j, hj, hu with
        | 0, _, hu => simpa [encC] using hu
        | 1, _, hu => simpa [encC] using hu
        | 2, _, hu => simpa [encC] using hu
    haveI : Inhabited Chg := ⟨([], 0, 0)⟩
    obtain ⟨q, hq⟩ := Go.Deep.choose_lt each
    refine ⟨(List.range len).map q, by simp, Nat.le_trans hnl reach47, hl, ?_, ?_⟩
    · intro h0
      have h0' : 0 < len := by simpa using h0
      obtain ⟨b, off, spot⟩ := y
      have first := (hq 0 h0').1 0 (tx (q 0).1) rfl
      have hs : spot = none := by
        have := World.cell?_spot first
        simpa [Addr.add] using this
      subst hs
      refine ⟨b, off, rfl, ?_, ?_⟩
      · have := World.block_lt_of_cell? W _ first
        rw [addr_plus] at this
        exact this
      · intro i z hz j u hu
        have hi : i < len := by
          have := (List.getElem?_eq_some_iff.1 hz).1
          simpa using this
        obtain rfl : z = q i := by simpa [hi] using hz.symm
        have := (hq i hi).1 j u hu
        rw [addr_plus] at this
        exact this
    · intro e he
      obtain ⟨i, hi, rfl⟩ := List.mem_map.1 he
      have := (hq i (List.mem_range.1 hi)).2
      omega

end

end Go.Proofs.YtofbphmdkhocdaaGreat
