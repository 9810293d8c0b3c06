/-
  How frames that came in read, out of their reading as data, with no bound on their bytes; their number is no more than the datum's bulk. No condition.
-/
import Derived.Test.YtlcaphickofccaaArgs
namespace Go.Proofs.Ytlcaphickofccaa
open Go.ChangeShapes Go.WideShapes Go.ChangeAt Go.RowKit

theorem bulk_pos {H : Type} (d : DataW H) : 0 < Rows.uptoBulk d := by
  cases d with
  | lit l => cases l <;> simp [Rows.uptoBulk]
  | nil => simp [Rows.uptoBulk]
  | ptr d => simp [Rows.uptoBulk]
  | slice es sp => simp [Rows.uptoBulk]
  | agg ps => simp [Rows.uptoBulk]
  | iface t d => simp [Rows.uptoBulk]
  | map es => simp [Rows.uptoBulk]
  | held h => simp [Rows.uptoBulk]

theorem bulk_many {H : Type} : ∀ l : List (DataW H), l.length ≤ Rows.uptoBulkAll l
  | [] => by simp [Rows.uptoBulkAll]
  | d :: t => by
    have h1 := bulk_many t
    have h2 := bulk_pos d
    simp only [Rows.uptoBulkAll, List.length_cons]
    omega

section
variable {H : Type} {enc : TypeId × Value → H} {W : World} {spare : Nat → Bool} {held : Bool} {fuel : Nat} {v : Value} {x : DataW H × List MemPlace}

/-- Bytes that came in. -/
theorem bytes_view0 (h : DataW.trod enc Try.prog W 0 spare held fuel 24 [v] = some x) : ∃ (a : Option Addr) (n c : Nat) (bs : Bs), v = .slice a n c ∧ bs.length = n ∧ n ≤ c ∧ c ≤ 9223372036854775807 ∧ RdG encB W a bs := by
  rcases Go.Deep.open_slice Try.underlying24 h with ⟨hcs, _⟩ | ⟨y, l, c, m, k, D, Pl, hcs, _, hl, hm, hmm, hx, hc⟩
  · obtain rfl : v = .slice none 0 0 := by simpa using hcs
    exact ⟨none, 0, 0, [], rfl, rfl, by omega, by omega, RdG.nil _ _ _⟩
  · obtain rfl : v = .slice (some y) l c := by simpa using hcs
    have hlm : l ≤ m := by rw [hmm]; split <;> omega
    have ce : Try.prog.cellsOf 5 = 1 := by kernel_rfl
    have each : ∀ i, i < l → ∃ q : UInt8, W.cell? (y.add i) = some (.int .u8 (q.toNat : Int)) := by
      intro i hi
      obtain ⟨cs', h1, h2⟩ := hc i (by omega)
      rw [ce, Nat.mul_one] at h1
      obtain ⟨_, hlen, hcell⟩ := World.cells?_some h1
      obtain ⟨z, e0, _, hwf⟩ := DataW.trod_int Try.underlying5 h2
      obtain ⟨q, rfl⟩ := wf_u8 hwf
      subst e0
      have := hcell 0 (by simp)
      rw [Go.Deep.add_add] at this
      exact ⟨q, this⟩
    haveI : Inhabited UInt8 := ⟨0⟩
    obtain ⟨q, hq⟩ := Go.Deep.choose_lt each
    refine ⟨some y, l, c, (List.range l).map q, rfl, by simp, hl, by unfold maxLen at hm; omega, ?_⟩
    intro h0
    have h0' : 0 < l := by simpa using h0
    obtain ⟨b, off, spot⟩ := y
    have first := hq 0 h0'
    have hs : spot = none := by
      have := World.cell?_spot first
      simpa [Addr.add] using this
    subst hs
    refine ⟨b, off, rfl, ?_, ?_⟩
    · have := World.block_lt_of_cell? W _ first
      rw [addr_plus] at this
      exact this
    · intro i z hz j u hu
      have hi : i < l := by
        have := (List.getElem?_eq_some_iff.1 hz).1
        simpa using this
      obtain rfl : z = q i := by simpa [hi] using hz.symm
      have hj : j = 0 := by
        rcases Nat.eq_zero_or_pos j with q' | q'
        · exact q'
        · rw [List.getElem?_eq_none (by show ([_] : List Value).length ≤ j; simp; omega)] at hu; cases hu
      subst hj
      have := hq i hi
      rw [addr_plus] at this
      rw [show off + (i * encB.size + 0) = off + i from (by show off + (i * 1 + 0) = off + i; omega), this]
      exact hu

/-- A frame that came in. -/
theorem frame_view0 {c0 c1 : Value} (h : DataW.trod enc Try.prog W 0 spare held fuel 29 [c0, c1] = some x) : ∃ (k : Int) (a : Option Addr) (n c : Nat) (bs : Bs), c0 = .int .i64 k ∧ c1 = .slice a n c ∧ bs.length = n ∧ n ≤ c ∧ c ≤ 9223372036854775807 ∧ RdG encB W a bs ∧ (-9223372036854775808 ≤ k ∧ k ≤ 9223372036854775807) := by
  have c3 : Try.prog.cellsOf 3 = 1 := by kernel_rfl
  have c24 : Try.prog.cellsOf 24 = 1 := by kernel_rfl
  obtain ⟨xs, k', hk, hxy, _, hxl, hf⟩ := DataW.trod_struct Try.underlying29 h
  match xs, hxl with
  | [y0, y1], _ =>
    have g0 : DataW.trod enc Try.prog W 0 spare held k' 3 [c0] = some y0 := by simpa [c3, c24] using hf 0 _ rfl
    have g1 : DataW.trod enc Try.prog W 0 spare held k' 24 [c1] = some y1 := by simpa [c3, c24] using hf 1 _ rfl
    obtain ⟨z0, e0, _, w0⟩ := DataW.trod_int Try.underlying3 g0
    obtain rfl : c0 = .int .i64 z0 := by simpa using e0
    obtain ⟨a, n, c, bs, rfl, h1, h2, h3, h5⟩ := bytes_view0 g1
    exact ⟨z0, a, n, c, bs, rfl, rfl, h1, h2, h3, h5, wf_i64 w0⟩

set_option maxRecDepth 100000 in
/-- Frames that came in. -/
theorem frames_view0 {a : Option Addr} {len cap : Nat} (h : DataW.trod enc Try.prog W 0 spare held fuel 22 [.slice a len cap] = some x) : ∃ (vs : List FV) (fs : List Fr), fs.length = len ∧ len ≤ Rows.uptoBulk x.1 ∧ RdG encV W a vs ∧ Fvs W vs fs := by
  rcases Go.Deep.open_slice Try.underlying22 h with ⟨hcs, _⟩ | ⟨y, l, c, m, k, D, Pl, hcs, _, hl, hm, hmm, hx, hc⟩
  · simp only [List.cons.injEq, Value.slice.injEq, and_true] at hcs
    obtain ⟨rfl, rfl, rfl⟩ := hcs
    exact ⟨[], [], rfl, Nat.zero_le _, RdG.nil _ _ _, Fvs.nil _⟩
  · simp only [List.cons.injEq, Value.slice.injEq, and_true] at hcs
    obtain ⟨rfl, rfl, rfl⟩ := hcs
    have hlm : len ≤ m := by rw [hmm]; split <;> omega
    have ce : Try.prog.cellsOf 29 = 2 := by kernel_rfl
    have hnl : len ≤ Rows.uptoBulk x.1 := by
      rw [hx]
      have := bulk_many ((List.range len).map D)
      rw [List.length_map, List.length_range] at this
      simp only [Rows.uptoBulk]
      omega
    have each : ∀ i, i < len → ∃ q : FV × Fr, (∀ j u, (encV.cells q.1)[j]? = some u → W.cell? (y.add (i * 2 + j)) = some u) ∧ FvAt W q.1 q.2 := by
      intro i hi
      obtain ⟨cs', h1, h2⟩ := hc i (by omega)
      rw [ce] at h1
      obtain ⟨_, hlen, hcell⟩ := World.cells?_some h1
      match cs', hlen with
      | [v0, v1], _ =>
        obtain ⟨k0, a0, n0, c0, bs, rfl, rfl, h1, h2, h3, h5, _⟩ := frame_view0 h2
        refine ⟨(⟨k0, a0, n0, c0⟩, (k0, bs)), ?_, rfl, h1, ?_⟩
        · intro j u hu
          have hj : j < 2 := by
            have := (List.getElem?_eq_some_iff.1 hu).1
            simpa [encV] using this
          have := hcell j (by omega)
          rw [Go.Deep.add_add] at this
          rw [this]
          match j, hj, hu with
          | 0, _, hu => simpa [encV] using hu
          | 1, _, hu => simpa [encV] using hu
        · exact ⟨a0, c0, by rw [h1], by rw [h1]; exact h2, h3, h5⟩
    haveI : Inhabited (FV × Fr) := ⟨(⟨0, none, 0, 0⟩, (0, []))⟩
    obtain ⟨q, hq⟩ := Go.Deep.choose_lt each
    refine ⟨(List.range len).map (fun i => (q i).1), (List.range len).map (fun i => (q i).2), by simp, hnl, ?_, by simp, ?_⟩
    · intro h0
      have h0' : 0 < len := by simpa using h0
      obtain ⟨b, off, spot⟩ := y
      have first := (hq 0 h0').1 0 (.int .i64 (q 0).1.k) rfl
      have hs : spot = none := by
        have := World.cell?_spot first
        simpa [Addr.add] using this
      subst hs
      refine ⟨b, off, rfl, ?_, ?_⟩
      · have := World.block_lt_of_cell? W _ first
        rw [addr_plus] at this
        exact this
      · intro i z hz j u hu
        have hi : i < len := by
          have := (List.getElem?_eq_some_iff.1 hz).1
          simpa using this
        obtain rfl : z = (q i).1 := by simpa [hi] using hz.symm
        have := (hq i hi).1 j u hu
        rw [addr_plus] at this
        exact this
    · intro i v f hv hf
      have hi : i < len := by
        have := (List.getElem?_eq_some_iff.1 hv).1
        simpa using this
      obtain rfl : v = (q i).1 := by simpa [hi] using hv.symm
      obtain rfl : f = (q i).2 := by simpa [hi] using hf.symm
      exact (hq i hi).2
end

end Go.Proofs.Ytlcaphickofccaa
