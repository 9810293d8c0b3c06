/-
  How entries and changes that came in read, out of their reading as data, each within the form's reach. No condition.
-/
import Derived.Test.YtofbphmdkhocdaaGreatGArgs
import Derived.Test.YtofbphmdkhocdaaGreatYTouch
namespace Go.Proofs.YtofbphmdkhocdaaGreat
open Go.ChangeShapes Go.WideShapes Go.ChangeAt Go.RowKit

section
variable {H : Type} {enc : TypeId × Value → H} {W : World} {spare : Nat → Bool} {held : Bool} {fuel : Nat} {v : Value} {x : DataW H × List MemPlace}

/-- An entry that came in. -/
theorem ent_view {c0 c1 : Value} (h : DataW.trod enc Tryz.prog W 0 spare held fuel 52 [c0, c1] = some x) (hn : Near 52 x.1) : ∃ e : En, c0 = tx e.1 ∧ c1 = .int .u64 (e.2.toNat : Int) ∧ e.1.length ≤ 140737488355328 := by
  have c9 : Tryz.prog.cellsOf 9 = 1 := by kernel_rfl
  have c34 : Tryz.prog.cellsOf 50 = 1 := by kernel_rfl
  obtain ⟨xs, k', hk, hxy, _, hxl, hf⟩ := DataW.trod_struct Tryz.underlying52 h
  match xs, hxl with
  | [y0, y1], _ =>
    have g0 : DataW.trod enc Tryz.prog W 0 spare held k' 9 [c0] = some y0 := by simpa [c9, c34] using hf 0 _ rfl
    have g1 : DataW.trod enc Tryz.prog W 0 spare held k' 50 [c1] = some y1 := by simpa [c9, c34] using hf 1 _ rfl
    have nE : ∀ m ∈ DataW.weightsEach Tryz.prog [9, 50] [y0.1, y1.1], m ≤ reachBytes := by
      intro m hm
      refine hn m ?_
      rw [hxy]
      simp only [DataW.weights, Tryz.underlying52]
      exact hm
    obtain ⟨bs, rfl, h1⟩ := text_view g0 (near_each nE (j := 0) rfl rfl)
    obtain ⟨z0, e0, _, w0⟩ := DataW.trod_int Tryz.underlying50 g1
    obtain rfl : c1 = .int .u64 z0 := by simpa using e0
    obtain ⟨q, rfl⟩ := wf_u64 w0
    exact ⟨(bs, q), rfl, rfl, h1⟩

set_option maxRecDepth 100000 in
/-- Entries that came in. -/
theorem ents_view {a : Option Addr} {len cap : Nat} (h : DataW.trod enc Tryz.prog W 0 spare held fuel 22 [.slice a len cap] = some x) (hn : Near 22 x.1) : ∃ es : List En, es.length = len ∧ len * 24 ≤ 140737488355328 ∧ len ≤ cap ∧ RdG encE W a es ∧ Fine es := by
  rcases Go.Deep.open_slice Tryz.underlying22 h with ⟨hcs, _⟩ | ⟨y, l, c, m, k, D, Pl, hcs, _, hl, hm, hmm, hx, hc⟩
  · simp only [List.cons.injEq, Value.slice.injEq, and_true] at hcs
    obtain ⟨rfl, rfl, rfl⟩ := hcs
    exact ⟨[], rfl, by omega, Nat.le_refl _, RdG.nil _ _ _, fun e he => by simp at he⟩
  · simp only [List.cons.injEq, Value.slice.injEq, and_true] at hcs
    obtain ⟨rfl, rfl, rfl⟩ := hcs
    have hlm : len ≤ m := by rw [hmm]; split <;> omega
    have ce : Tryz.prog.cellsOf 52 = 2 := by kernel_rfl
    have be : Tryz.prog.bytesOf 52 = 24 := by kernel_rfl
    rw [hx] at hn
    have hnl : len * 24 ≤ reachBytes := by
      have := near_len Tryz.underlying22 hn
      rw [List.length_map, List.length_range, be] at this
      exact this
    have each : ∀ i, i < len → ∃ q : En, (∀ j u, (encE.cells q)[j]? = some u → W.cell? (y.add (i * 2 + j)) = some u) ∧ q.1.length ≤ 140737488355328 := by
      intro i hi
      obtain ⟨cs', h1, h2⟩ := hc i (by omega)
      rw [ce] at h1
      obtain ⟨_, hlen, hcell⟩ := World.cells?_some h1
      have nD : Near 52 (D i) := near_elem Tryz.underlying22 hn (List.mem_map.2 ⟨i, List.mem_range.2 hi, rfl⟩)
      match cs', hlen with
      | [v0, v1], _ =>
        obtain ⟨q, rfl, rfl, hql⟩ := ent_view h2 nD
        refine ⟨q, ?_, hql⟩
        intro j u hu
        have hj : j < 2 := by
          have := (List.getElem?_eq_some_iff.1 hu).1
          simpa [encE] using this
        have := hcell j (by omega)
        rw [Go.Deep.add_add] at this
        rw [this]
        match j, hj, hu with
        | 0, _, hu => simpa [encE] using hu
        | 1, _, hu => simpa [encE] using hu
    haveI : Inhabited En := ⟨([], 0)⟩
    obtain ⟨q, hq⟩ := Go.Deep.choose_lt each
    refine ⟨(List.range len).map q, by simp, Nat.le_trans hnl reach47, hl, ?_, ?_⟩
    · intro h0
      have h0' : 0 < len := by simpa using h0
      obtain ⟨b, off, spot⟩ := y
      have first := (hq 0 h0').1 0 (tx (q 0).1) rfl
      have hs : spot = none := by
        have := World.cell?_spot first
        simpa [Addr.add] using this
      subst hs
      refine ⟨b, off, rfl, ?_, ?_⟩
      · have := World.block_lt_of_cell? W _ first
        rw [addr_plus] at this
        exact this
      · intro i z hz j u hu
        have hi : i < len := by
          have := (List.getElem?_eq_some_iff.1 hz).1
          simpa using this
        obtain rfl : z = q i := by simpa [hi] using hz.symm
        have := (hq i hi).1 j u hu
        rw [addr_plus] at this
        exact this
    · intro e he
      obtain ⟨i, hi, rfl⟩ := List.mem_map.1 he
      have := (hq i (List.mem_range.1 hi)).2
      omega

/-- A change that came in. -/
theorem chg_view {c0 c1 c2 : Value} (h : DataW.trod enc Tryz.prog W 0 spare held fuel 58 [c0, c1, c2] = some x) (hn : Near 58 x.1) : ∃ e : Chg, c0 = tx e.1 ∧ c1 = .int .u64 (e.2.1.toNat : Int) ∧ c2 = .int .u64 (e.2.2.toNat : Int) ∧ e.1.length ≤ 140737488355328 := by
  have c9 : Tryz.prog.cellsOf 9 = 1 := by kernel_rfl
  have c34 : Tryz.prog.cellsOf 50 = 1 := by kernel_rfl
  obtain ⟨xs, k', hk, hxy, _, hxl, hf⟩ := DataW.trod_struct Tryz.underlying58 h
  match xs, hxl with
  | [y0, y1, y2], _ =>
    have g0 : DataW.trod enc Tryz.prog W 0 spare held k' 9 [c0] = some y0 := by simpa [c9, c34] using hf 0 _ rfl
    have g1 : DataW.trod enc Tryz.prog W 0 spare held k' 50 [c1] = some y1 := by simpa [c9, c34] using hf 1 _ rfl
    have g2 : DataW.trod enc Tryz.prog W 0 spare held k' 50 [c2] = some y2 := by simpa [c9, c34] using hf 2 _ rfl
    have nE : ∀ m ∈ DataW.weightsEach Tryz.prog [9, 50, 50] [y0.1, y1.1, y2.1], m ≤ reachBytes := by
      intro m hm
      refine hn m ?_
      rw [hxy]
      simp only [DataW.weights, Tryz.underlying58]
      exact hm
    obtain ⟨bs, rfl, h1⟩ := text_view g0 (near_each nE (j := 0) rfl rfl)
    obtain ⟨z0, e0, _, w0⟩ := DataW.trod_int Tryz.underlying50 g1
    obtain rfl : c1 = .int .u64 z0 := by simpa using e0
    obtain ⟨q, rfl⟩ := wf_u64 w0
    obtain ⟨z2, e2, _, w2⟩ := DataW.trod_int Tryz.underlying50 g2
    obtain rfl : c2 = .int .u64 z2 := by simpa using e2
    obtain ⟨q2, rfl⟩ := wf_u64 w2
    exact ⟨(bs, q, q2), rfl, rfl, rfl, h1⟩

set_option maxRecDepth 100000 in
/-- Changes that came in. -/
theorem chgs_view {a : Option Addr} {len cap : Nat} (h : DataW.trod enc Tryz.prog W 0 spare held fuel 37 [.slice a len cap] = some x) (hn : Near 37 x.1) : ∃ es : List Chg, es.length = len ∧ len * 32 ≤ 140737488355328 ∧ len ≤ cap ∧ RdG encC W a es ∧ FineC es := by
  rcases Go.Deep.open_slice Tryz.underlying37 h with ⟨hcs, _⟩ | ⟨y, l, c, m, k, D, Pl, hcs, _, hl, hm, hmm, hx, hc⟩
  · simp only [List.cons.injEq, Value.slice.injEq, and_true] at hcs
    obtain ⟨rfl, rfl, rfl⟩ := hcs
    exact ⟨[], rfl, by omega, Nat.le_refl _, RdG.nil _ _ _, fun e he => by simp at he⟩
  · simp only [List.cons.injEq, Value.slice.injEq, and_true] at hcs
    obtain ⟨rfl, rfl, rfl⟩ := hcs
    have hlm : len ≤ m := by rw [hmm]; split <;> omega
    have ce : Tryz.prog.cellsOf 58 = 3 := by kernel_rfl
    have be : Tryz.prog.bytesOf 58 = 32 := by kernel_rfl
    rw [hx] at hn
    have hnl : len * 32 ≤ reachBytes := by
      have := near_len Tryz.underlying37 hn
      rw [List.length_map, List.length_range, be] at this
      exact this
    have each : ∀ i, i < len → ∃ q : Chg, (∀ j u, (encC.cells q)[j]? = some u → W.cell? (y.add (i * 3 + j)) = some u) ∧ q.1.length ≤ 140737488355328 := by
      intro i hi
      obtain ⟨cs', h1, h2⟩ := hc i (by omega)
      rw [ce] at h1
      obtain ⟨_, hlen, hcell⟩ := World.cells?_some h1
      have nD : Near 58 (D i) := near_elem Tryz.underlying37 hn (List.mem_map.2 ⟨i, List.mem_range.2 hi, rfl⟩)
      match cs', hlen with
      | [v0, v1, v2], _ =>
        obtain ⟨q, rfl, rfl, rfl, hql⟩ := chg_view h2 nD
        refine ⟨q, ?_, hql⟩
        intro j u hu
        have hj : j < 3 := by
          have := (List.getElem?_eq_some_iff.1 hu).1
          simpa [encC] using this
        have := hcell j (by omega)
        rw [Go.Deep.add_add] at this
        rw [this]
        match j, hj, hu with
        | 0, _, hu => simpa [encC] using hu
        | 1, _, hu => simpa [encC] using hu
        | 2, _, hu => simpa [encC] using hu
    haveI : Inhabited Chg := ⟨([], 0, 0)⟩
    obtain ⟨q, hq⟩ := Go.Deep.choose_lt each
    refine ⟨(List.range len).map q, by simp, Nat.le_trans hnl reach47, hl, ?_, ?_⟩
    · intro h0
      have h0' : 0 < len := by simpa using h0
      obtain ⟨b, off, spot⟩ := y
      have first := (hq 0 h0').1 0 (tx (q 0).1) rfl
      have hs : spot = none := by
        have := World.cell?_spot first
        simpa [Addr.add] using this
      subst hs
      refine ⟨b, off, rfl, ?_, ?_⟩
      · have := World.block_lt_of_cell? W _ first
        rw [addr_plus] at this
        exact this
      · intro i z hz j u hu
        have hi : i < len := by
          have := (List.getElem?_eq_some_iff.1 hz).1
          simpa using this
        obtain rfl : z = q i := by simpa [hi] using hz.symm
        have := (hq i hi).1 j u hu
        rw [addr_plus] at this
        exact this
    · intro e he
      obtain ⟨i, hi, rfl⟩ := List.mem_map.1 he
      have := (hq i (List.mem_range.1 hi)).2
      omega

end

end Go.Proofs.YtofbphmdkhocdaaGreat
