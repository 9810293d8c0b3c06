/-
  How bytes and frames that came in read, out of their reading as data, each within the form's reach. No condition.
-/
import Derived.Test.YtlcaphickofccaaRows
import Derived.Test.YtlcaphickofccaaRow
import Derived.ProofKit
import Derived.OpenShut
import Derived.ShutString
import Derived.Below
import Derived.SizedLaws
import Derived.Deep.SlicePairs
namespace Go.Proofs.Ytlcaphickofccaa
open Go.ChangeShapes Go.WideShapes Go.ChangeAt Go.RowKit

theorem wf_i64 {n : Int} (h : (Lit.int .i64 n).wf = true) : -9223372036854775808 ≤ n ∧ n ≤ 9223372036854775807 := by
  have e1 : IntKind.i64.min = -9223372036854775808 := by decide
  have e2 : IntKind.i64.max = 9223372036854775807 := by decide
  simpa [Lit.wf, e1, e2] using h
theorem wf_u8 {n : Int} (h : (Lit.int .u8 n).wf = true) : ∃ y : UInt8, n = (y.toNat : Int) := by
  have e1 : IntKind.u8.min = 0 := by decide
  have e2 : IntKind.u8.max = 255 := by decide
  have h' : 0 ≤ n ∧ n ≤ 255 := by simpa [Lit.wf, e1, e2] using h
  refine ⟨UInt8.ofNat n.toNat, ?_⟩
  rw [UInt8.toNat_ofNat']
  omega

/-- All that is told of a datum lies within the form's reach. -/
def Near {H : Type} (t : TypeId) (d : DataW H) : Prop := ∀ m ∈ d.weights Try.prog t, m ≤ reachBytes

theorem reach47 : reachBytes ≤ 140737488355328 := by decide

theorem near_each {H : Type} {ts : List TypeId} {ds : List (DataW H)} (h : ∀ m ∈ DataW.weightsEach Try.prog ts ds, m ≤ reachBytes) {j : Nat} {t : TypeId} {d : DataW H} (ht : ts[j]? = some t) (hd : ds[j]? = some d) : Near t d :=
  fun m hm => h m (DataW.weights_mem_each ht hd m hm)

theorem weights_all_mem {H : Type} {e : TypeId} : ∀ {l : List (DataW H)} {d : DataW H}, d ∈ l → ∀ m ∈ d.weights Try.prog e, m ∈ DataW.weightsAll Try.prog e l
  | [], _, h, _, _ => by cases h
  | x :: t, d, h, m, hm => by
    simp only [DataW.weightsAll, List.mem_append]
    rcases List.mem_cons.1 h with rfl | q
    · exact .inl hm
    · exact .inr (weights_all_mem q m hm)

theorem near_elem {H : Type} {t e : TypeId} {es sp : List (DataW H)} (hu : Try.prog.underlying t = some (.slice e)) (h : Near t (.slice es sp)) {d : DataW H} (hd : d ∈ es) : Near e d := by
  intro m hm
  refine h m ?_
  simp only [DataW.weights, hu, List.mem_cons, List.mem_append]
  exact .inr (.inl (weights_all_mem hd m hm))

theorem near_len {H : Type} {t e : TypeId} {es sp : List (DataW H)} (hu : Try.prog.underlying t = some (.slice e)) (h : Near t (.slice es sp)) : es.length * Try.prog.bytesOf e ≤ reachBytes := by
  have := h ((es.length + sp.length) * Try.prog.bytesOf e) (by simp [DataW.weights, hu])
  refine Nat.le_trans (Nat.mul_le_mul_right _ ?_) this
  omega

section
variable {H : Type} {enc : TypeId × Value → H} {W : World} {spare : Nat → Bool} {held : Bool} {fuel : Nat} {v : Value} {x : DataW H × List MemPlace}

/-- Bytes that came in. -/
theorem bytes_view (h : DataW.trod enc Try.prog W 0 spare held fuel 24 [v] = some x) (hn : Near 24 x.1) : ∃ (a : Option Addr) (n c : Nat) (bs : Bs), v = .slice a n c ∧ bs.length = n ∧ n ≤ c ∧ c ≤ 9223372036854775807 ∧ n ≤ 140737488355328 ∧ RdG encB W a bs := by
  rcases Go.Deep.open_slice Try.underlying24 h with ⟨hcs, _⟩ | ⟨y, l, c, m, k, D, Pl, hcs, _, hl, hm, hmm, hx, hc⟩
  · obtain rfl : v = .slice none 0 0 := by simpa using hcs
    exact ⟨none, 0, 0, [], rfl, rfl, by omega, by omega, by omega, RdG.nil _ _ _⟩
  · obtain rfl : v = .slice (some y) l c := by simpa using hcs
    have hlm : l ≤ m := by rw [hmm]; split <;> omega
    have ce : Try.prog.cellsOf 5 = 1 := by kernel_rfl
    have be : Try.prog.bytesOf 5 = 1 := by kernel_rfl
    have each : ∀ i, i < l → ∃ q : UInt8, W.cell? (y.add i) = some (.int .u8 (q.toNat : Int)) := by
      intro i hi
      obtain ⟨cs', h1, h2⟩ := hc i (by omega)
      rw [ce, Nat.mul_one] at h1
      obtain ⟨_, hlen, hcell⟩ := World.cells?_some h1
      obtain ⟨z, e0, _, hwf⟩ := DataW.trod_int Try.underlying5 h2
      obtain ⟨q, rfl⟩ := wf_u8 hwf
      subst e0
      have := hcell 0 (by simp)
      rw [Go.Deep.add_add] at this
      exact ⟨q, this⟩
    haveI : Inhabited UInt8 := ⟨0⟩
    obtain ⟨q, hq⟩ := Go.Deep.choose_lt each
    have hnl : l ≤ reachBytes := by
      rw [hx] at hn
      have := near_len Try.underlying24 hn
      rw [be, List.length_map, List.length_range] at this
      omega
    refine ⟨some y, l, c, (List.range l).map q, rfl, by simp, hl, by unfold maxLen at hm; omega, Nat.le_trans hnl reach47, ?_⟩
    intro h0
    have h0' : 0 < l := by simpa using h0
    obtain ⟨b, off, spot⟩ := y
    have first := hq 0 h0'
    have hs : spot = none := by
      have := World.cell?_spot first
      simpa [Addr.add] using this
    subst hs
    refine ⟨b, off, rfl, ?_, ?_⟩
    · have := World.block_lt_of_cell? W _ first
      rw [addr_plus] at this
      exact this
    · intro i z hz j u hu
      have hi : i < l := by
        have := (List.getElem?_eq_some_iff.1 hz).1
        simpa using this
      obtain rfl : z = q i := by simpa [hi] using hz.symm
      have hj : j = 0 := by
        rcases Nat.eq_zero_or_pos j with q' | q'
        · exact q'
        · rw [List.getElem?_eq_none (by show ([_] : List Value).length ≤ j; simp; omega)] at hu; cases hu
      subst hj
      have := hq i hi
      rw [addr_plus] at this
      rw [show off + (i * encB.size + 0) = off + i from (by show off + (i * 1 + 0) = off + i; omega), this]
      exact hu

/-- A frame that came in. -/
theorem frame_view {c0 c1 : Value} (h : DataW.trod enc Try.prog W 0 spare held fuel 29 [c0, c1] = some x) (hn : Near 29 x.1) : ∃ (k : Int) (a : Option Addr) (n c : Nat) (bs : Bs), c0 = .int .i64 k ∧ c1 = .slice a n c ∧ bs.length = n ∧ n ≤ c ∧ c ≤ 9223372036854775807 ∧ n ≤ 140737488355328 ∧ RdG encB W a bs ∧ (-9223372036854775808 ≤ k ∧ k ≤ 9223372036854775807) := by
  have c3 : Try.prog.cellsOf 3 = 1 := by kernel_rfl
  have c24 : Try.prog.cellsOf 24 = 1 := by kernel_rfl
  obtain ⟨xs, k', hk, hxy, _, hxl, hf⟩ := DataW.trod_struct Try.underlying29 h
  match xs, hxl with
  | [y0, y1], _ =>
    have g0 : DataW.trod enc Try.prog W 0 spare held k' 3 [c0] = some y0 := by simpa [c3, c24] using hf 0 _ rfl
    have g1 : DataW.trod enc Try.prog W 0 spare held k' 24 [c1] = some y1 := by simpa [c3, c24] using hf 1 _ rfl
    have nE : ∀ m ∈ DataW.weightsEach Try.prog [3, 24] [y0.1, y1.1], m ≤ reachBytes := by
      intro m hm
      refine hn m ?_
      rw [hxy]
      simp only [DataW.weights, Try.underlying29]
      exact hm
    obtain ⟨z0, e0, _, w0⟩ := DataW.trod_int Try.underlying3 g0
    obtain rfl : c0 = .int .i64 z0 := by simpa using e0
    obtain ⟨a, n, c, bs, rfl, h1, h2, h3, h4, h5⟩ := bytes_view g1 (near_each nE (j := 1) rfl rfl)
    exact ⟨z0, a, n, c, bs, rfl, rfl, h1, h2, h3, h4, h5, wf_i64 w0⟩

set_option maxRecDepth 100000 in
/-- Frames that came in. -/
theorem frames_view {a : Option Addr} {len cap : Nat} (h : DataW.trod enc Try.prog W 0 spare held fuel 22 [.slice a len cap] = some x) (hn : Near 22 x.1) : ∃ (vs : List FV) (fs : List Fr), fs.length = len ∧ len ≤ 140737488355328 ∧ RdG encV W a vs ∧ Fvs W vs fs := by
  rcases Go.Deep.open_slice Try.underlying22 h with ⟨hcs, _⟩ | ⟨y, l, c, m, k, D, Pl, hcs, _, hl, hm, hmm, hx, hc⟩
  · simp only [List.cons.injEq, Value.slice.injEq, and_true] at hcs
    obtain ⟨rfl, rfl, rfl⟩ := hcs
    exact ⟨[], [], rfl, by omega, RdG.nil _ _ _, Fvs.nil _⟩
  · simp only [List.cons.injEq, Value.slice.injEq, and_true] at hcs
    obtain ⟨rfl, rfl, rfl⟩ := hcs
    have hlm : len ≤ m := by rw [hmm]; split <;> omega
    have ce : Try.prog.cellsOf 29 = 2 := by kernel_rfl
    have be : Try.prog.bytesOf 29 = 32 := by kernel_rfl
    rw [hx] at hn
    have hnl : len ≤ reachBytes := by
      have := near_len Try.underlying22 hn
      rw [List.length_map, List.length_range, be] at this
      exact Nat.le_trans (Nat.le_mul_of_pos_right len (by decide)) this
    have each : ∀ i, i < len → ∃ q : FV × Fr, (∀ j u, (encV.cells q.1)[j]? = some u → W.cell? (y.add (i * 2 + j)) = some u) ∧ FvAt W q.1 q.2 := by
      intro i hi
      obtain ⟨cs', h1, h2⟩ := hc i (by omega)
      rw [ce] at h1
      obtain ⟨_, hlen, hcell⟩ := World.cells?_some h1
      have nD : Near 29 (D i) := near_elem Try.underlying22 hn (List.mem_map.2 ⟨i, List.mem_range.2 hi, rfl⟩)
      match cs', hlen with
      | [v0, v1], _ =>
        obtain ⟨k0, a0, n0, c0, bs, rfl, rfl, h1, h2, h3, h4, h5, _⟩ := frame_view h2 nD
        refine ⟨(⟨k0, a0, n0, c0⟩, (k0, bs)), ?_, rfl, h1, ?_⟩
        · intro j u hu
          have hj : j < 2 := by
            have := (List.getElem?_eq_some_iff.1 hu).1
            simpa [encV] using this
          have := hcell j (by omega)
          rw [Go.Deep.add_add] at this
          rw [this]
          match j, hj, hu with
          | 0, _, hu => simpa [encV] using hu
          | 1, _, hu => simpa [encV] using hu
        · exact ⟨a0, c0, by rw [h1], by rw [h1]; exact h2, h3, h5⟩
    haveI : Inhabited (FV × Fr) := ⟨(⟨0, none, 0, 0⟩, (0, []))⟩
    obtain ⟨q, hq⟩ := Go.Deep.choose_lt each
    refine ⟨(List.range len).map (fun i => (q i).1), (List.range len).map (fun i => (q i).2), by simp, Nat.le_trans hnl reach47, ?_, by simp, ?_⟩
    · intro h0
      have h0' : 0 < len := by simpa using h0
      obtain ⟨b, off, spot⟩ := y
      have first := (hq 0 h0').1 0 (.int .i64 (q 0).1.k) rfl
      have hs : spot = none := by
        have := World.cell?_spot first
        simpa [Addr.add] using this
      subst hs
      refine ⟨b, off, rfl, ?_, ?_⟩
      · have := World.block_lt_of_cell? W _ first
        rw [addr_plus] at this
        exact this
      · intro i z hz j u hu
        have hi : i < len := by
          have := (List.getElem?_eq_some_iff.1 hz).1
          simpa using this
        obtain rfl : z = (q i).1 := by simpa [hi] using hz.symm
        have := (hq i hi).1 j u hu
        rw [addr_plus] at this
        exact this
    · intro i v f hv hf
      have hi : i < len := by
        have := (List.getElem?_eq_some_iff.1 hv).1
        simpa using this
      obtain rfl : v = (q i).1 := by simpa [hi] using hv.symm
      obtain rfl : f = (q i).2 := by simpa [hi] using hf.symm
      exact (hq i hi).2
end

theorem bool_view {H : Type} {enc : TypeId × Value → H} {W : World} {spare : Nat → Bool} {held : Bool} {fuel : Nat} {v : Value} {x : DataW H × List MemPlace} (h : DataW.trod enc Try.prog W 0 spare held fuel 4 [v] = some x) : ∃ p : Bool, v = .bool p := by
  obtain ⟨p, e, _⟩ := DataW.trod_bool Try.underlying4 h
  exact ⟨p, by simpa using e⟩

theorem own_knob : ownKnob Try.prog.godebug = none := by kernel_rfl
theorem laidOut : laidOutB Try.prog = true := by kernel_rfl

end Go.Proofs.Ytlcaphickofccaa
