/-
  How bytes, texts and lists of texts that came in read, out of their reading as data, each within the form's reach. No condition.
-/
import Derived.Test.YtofbphmdkhocdaaGreatGBytes
import Derived.SliceStrings
import Derived.ProofKit
import Derived.OpenShut
import Derived.ShutString
import Derived.ChangeOld
import Derived.Below
import Derived.SizedLaws
import Derived.Deep.SlicePairs
namespace Go.Proofs.YtofbphmdkhocdaaGreat
open Go.ChangeShapes Go.WideShapes Go.ChangeAt Go.RowKit

theorem wf_i64 {n : Int} (h : (Lit.int .i64 n).wf = true) : -9223372036854775808 ≤ n ∧ n ≤ 9223372036854775807 := by
  have e1 : IntKind.i64.min = -9223372036854775808 := by decide
  have e2 : IntKind.i64.max = 9223372036854775807 := by decide
  simpa [Lit.wf, e1, e2] using h
theorem wf_u8 {n : Int} (h : (Lit.int .u8 n).wf = true) : ∃ y : UInt8, n = (y.toNat : Int) := by
  have e1 : IntKind.u8.min = 0 := by decide
  have e2 : IntKind.u8.max = 255 := by decide
  have h' : 0 ≤ n ∧ n ≤ 255 := by simpa [Lit.wf, e1, e2] using h
  refine ⟨UInt8.ofNat n.toNat, ?_⟩
  rw [UInt8.toNat_ofNat']
  omega

theorem wf_u64 {n : Int} (h : (Lit.int .u64 n).wf = true) : ∃ y : UInt64, n = (y.toNat : Int) := by
  have e1 : IntKind.u64.min = 0 := by decide
  have e2 : IntKind.u64.max = 18446744073709551615 := by decide
  have h' : 0 ≤ n ∧ n ≤ 18446744073709551615 := by simpa [Lit.wf, e1, e2] using h
  refine ⟨UInt64.ofNat n.toNat, ?_⟩
  rw [UInt64.toNat_ofNat']
  omega

/-- All that is told of a datum lies within the form's reach. -/
def Near {H : Type} (t : TypeId) (d : DataW H) : Prop := ∀ m ∈ d.weights Tryz.prog t, m ≤ reachBytes

theorem reach47 : reachBytes ≤ 140737488355328 := by decide

theorem near_each {H : Type} {ts : List TypeId} {ds : List (DataW H)} (h : ∀ m ∈ DataW.weightsEach Tryz.prog ts ds, m ≤ reachBytes) {j : Nat} {t : TypeId} {d : DataW H} (ht : ts[j]? = some t) (hd : ds[j]? = some d) : Near t d :=
  fun m hm => h m (DataW.weights_mem_each ht hd m hm)

theorem weights_all_mem {H : Type} {e : TypeId} : ∀ {l : List (DataW H)} {d : DataW H}, d ∈ l → ∀ m ∈ d.weights Tryz.prog e, m ∈ DataW.weightsAll Tryz.prog e l
  | [], _, h, _, _ => by cases h
  | x :: t, d, h, m, hm => by
    simp only [DataW.weightsAll, List.mem_append]
    rcases List.mem_cons.1 h with rfl | q
    · exact .inl hm
    · exact .inr (weights_all_mem q m hm)

theorem near_elem {H : Type} {t e : TypeId} {es sp : List (DataW H)} (hu : Tryz.prog.underlying t = some (.slice e)) (h : Near t (.slice es sp)) {d : DataW H} (hd : d ∈ es) : Near e d := by
  intro m hm
  refine h m ?_
  simp only [DataW.weights, hu, List.mem_cons, List.mem_append]
  exact .inr (.inl (weights_all_mem hd m hm))

theorem near_len {H : Type} {t e : TypeId} {es sp : List (DataW H)} (hu : Tryz.prog.underlying t = some (.slice e)) (h : Near t (.slice es sp)) : es.length * Tryz.prog.bytesOf e ≤ reachBytes := by
  have := h ((es.length + sp.length) * Tryz.prog.bytesOf e) (by simp [DataW.weights, hu])
  refine Nat.le_trans (Nat.mul_le_mul_right _ ?_) this
  omega

section
variable {H : Type} {enc : TypeId × Value → H} {W : World} {spare : Nat → Bool} {held : Bool} {fuel : Nat} {v : Value} {x : DataW H × List MemPlace}

/-- Bytes that came in. -/
theorem bytes_view (h : DataW.trod enc Tryz.prog W 0 spare held fuel 94 [v] = some x) (hn : Near 94 x.1) : ∃ (a : Option Addr) (n c : Nat) (bs : Bs), v = .slice a n c ∧ bs.length = n ∧ n ≤ c ∧ c ≤ 9223372036854775807 ∧ n ≤ 140737488355328 ∧ RdG encB W a bs := by
  rcases Go.Deep.open_slice Tryz.underlying94 h with ⟨hcs, _⟩ | ⟨y, l, c, m, k, D, Pl, hcs, _, hl, hm, hmm, hx, hc⟩
  · obtain rfl : v = .slice none 0 0 := by simpa using hcs
    exact ⟨none, 0, 0, [], rfl, rfl, by omega, by omega, by omega, RdG.nil _ _ _⟩
  · obtain rfl : v = .slice (some y) l c := by simpa using hcs
    have hlm : l ≤ m := by rw [hmm]; split <;> omega
    have ce : Tryz.prog.cellsOf 5 = 1 := by kernel_rfl
    have be : Tryz.prog.bytesOf 5 = 1 := by kernel_rfl
    have each : ∀ i, i < l → ∃ q : UInt8, W.cell? (y.add i) = some (.int .u8 (q.toNat : Int)) := by
      intro i hi
      obtain ⟨cs', h1, h2⟩ := hc i (by omega)
      rw [ce, Nat.mul_one] at h1
      obtain ⟨_, hlen, hcell⟩ := World.cells?_some h1
      obtain ⟨z, e0, _, hwf⟩ := DataW.trod_int Tryz.underlying5 h2
      obtain ⟨q, rfl⟩ := wf_u8 hwf
      subst e0
      have := hcell 0 (by simp)
      rw [Go.Deep.add_add] at this
      exact ⟨q, this⟩
    haveI : Inhabited UInt8 := ⟨0⟩
    obtain ⟨q, hq⟩ := Go.Deep.choose_lt each
    have hnl : l ≤ reachBytes := by
      rw [hx] at hn
      have := near_len Tryz.underlying94 hn
      rw [be, List.length_map, List.length_range] at this
      omega
    refine ⟨some y, l, c, (List.range l).map q, rfl, by simp, hl, by unfold maxLen at hm; omega, Nat.le_trans hnl reach47, ?_⟩
    intro h0
    have h0' : 0 < l := by simpa using h0
    obtain ⟨b, off, spot⟩ := y
    have first := hq 0 h0'
    have hs : spot = none := by
      have := World.cell?_spot first
      simpa [Addr.add] using this
    subst hs
    refine ⟨b, off, rfl, ?_, ?_⟩
    · have := World.block_lt_of_cell? W _ first
      rw [addr_plus] at this
      exact this
    · intro i z hz j u hu
      have hi : i < l := by
        have := (List.getElem?_eq_some_iff.1 hz).1
        simpa using this
      obtain rfl : z = q i := by simpa [hi] using hz.symm
      have hj : j = 0 := by
        rcases Nat.eq_zero_or_pos j with q' | q'
        · exact q'
        · rw [List.getElem?_eq_none (by show ([_] : List Value).length ≤ j; simp; omega)] at hu; cases hu
      subst hj
      have := hq i hi
      rw [addr_plus] at this
      rw [show off + (i * encB.size + 0) = off + i from (by show off + (i * 1 + 0) = off + i; omega), this]
      exact hu

/-- A text that came in. -/
theorem text_view (h : DataW.trod enc Tryz.prog W 0 spare held fuel 9 [v] = some x) (hn : Near 9 x.1) : ∃ bs : Bs, v = tx bs ∧ bs.length ≤ 140737488355328 := by
  obtain ⟨s, e, hx, hs⟩ := DataW.trod_string Tryz.underlying9 h
  obtain rfl : v = .string s := by simpa using e
  refine ⟨s.data.toList, by simp, ?_⟩
  rw [hx] at hn
  have := hn s.data.toList.length (by simp [DataW.weights])
  exact Nat.le_trans this reach47

end

theorem texts_view {H : Type} {enc : TypeId × Value → H} {W : World} {spare : Nat → Bool} {held : Bool} {fuel len cap : Nat} {a : Option Addr} {x : DataW H × List MemPlace}
    (h : DataW.trod enc Tryz.prog W 0 spare held fuel 23 [.slice a len cap] = some x) : ∃ xs : List Bs, xs.length = len ∧ len ≤ 9223372036854775807 ∧ Rd W a xs ∧ ∀ y ∈ xs, y.length ≤ 9223372036854775807 := by
  rcases open_strings Tryz.underlying23 Tryz.underlying9 (by kernel_rfl) h with ⟨hcs, _⟩ | ⟨y, l, c, ss, hcs, _, hl, hm, hmm, _, hc, hs⟩
  · simp only [List.cons.injEq, Value.slice.injEq, and_true] at hcs
    obtain ⟨rfl, rfl, rfl⟩ := hcs
    exact ⟨[], rfl, by omega, fun h => absurd h (by simp), by simp⟩
  · simp only [List.cons.injEq, Value.slice.injEq, and_true] at hcs
    obtain ⟨rfl, rfl, rfl⟩ := hcs
    have hlm : len ≤ ss.length := by rw [hmm]; split <;> omega
    refine ⟨(ss.take len).map (·.data.toList), by simp; omega, by unfold maxLen at hm; omega, ?_, ?_⟩
    · intro h0
      have h0' : 0 < len := by simp at h0; omega
      obtain ⟨b, off, spot⟩ := y
      have hsp : spot = none := by
        have := World.cell?_spot (hc 0 (by omega))
        simpa [Addr.add] using this
      subst hsp
      refine ⟨b, off, rfl, ?_, ?_⟩
      · have := World.block_lt_of_cell? W _ (hc 0 (by omega))
        rw [addr_plus] at this
        exact this
      · intro i hi
        have hi' : i < len := by simp at hi; omega
        have k0 := hc i (by omega)
        rw [addr_plus] at k0
        rw [k0]
        congr 2
        have hi2 : i < ss.length := by omega
        simp [el, hi2, hi']
    · intro u hu
      obtain ⟨s, h1, rfl⟩ := List.mem_map.1 hu
      have := hs s (List.mem_of_mem_take h1)
      rw [Lib.size_eq] at this
      simpa [maxLen] using this

theorem own_knob : ownKnob Tryz.prog.godebug = none := by kernel_rfl
theorem laidOut : laidOutB Tryz.prog = true := by kernel_rfl

end Go.Proofs.YtofbphmdkhocdaaGreat
