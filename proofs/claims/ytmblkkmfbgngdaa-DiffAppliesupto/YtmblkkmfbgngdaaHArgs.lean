/-
  How a list of hunks that came in reads, out of its reading as data, and how many lines it has within the second form's bound. No condition.
-/
import Derived.Test.YtmblkkmfbgngdaaArgs
import Derived.Test.YtmblkkmfbgngdaaSize
import Derived.Deep.SlicePairs
import Derived.JoinedCond
namespace Go.Proofs.Ytmblkkmfbgngdaa
open Go.ChangeShapes Go.WideShapes Go.ChangeAt Go.RowKit

theorem bulk_pos {H : Type} (d : DataW H) : 0 < Rows.uptoBulk d := by
  cases d with
  | lit l => cases l <;> simp [Rows.uptoBulk]
  | nil => simp [Rows.uptoBulk]
  | ptr d => simp [Rows.uptoBulk]
  | slice es sp => simp [Rows.uptoBulk]
  | agg ps => simp [Rows.uptoBulk]
  | iface t d => simp [Rows.uptoBulk]
  | map es => simp [Rows.uptoBulk]
  | held h => simp [Rows.uptoBulk]

theorem bulk_many {H : Type} : ∀ l : List (DataW H), l.length ≤ Rows.uptoBulkAll l
  | [] => by simp [Rows.uptoBulkAll]
  | d :: t => by
    have h1 := bulk_many t
    have h2 := bulk_pos d
    simp only [Rows.uptoBulkAll, List.length_cons]
    omega

theorem bulk_sums {H : Type} (f : Nat → Nat) (D : Nat → DataW H) : ∀ l : List Nat, (∀ i ∈ l, f i ≤ Rows.uptoBulk (D i)) → (l.map f).sum ≤ Rows.uptoBulkAll (l.map D)
  | [], _ => by simp [Rows.uptoBulkAll]
  | i :: t, h => by
    have h1 := bulk_sums f D t (fun j hj => h j (List.mem_cons_of_mem _ hj))
    have h2 := h i List.mem_cons_self
    simp only [List.map_cons, List.sum_cons, Rows.uptoBulkAll]
    omega

/-- A field that is a list of texts. -/
theorem text_field {H : Type} {enc : TypeId × Value → H} {W : World} {spare : Nat → Bool} {held : Bool} {fuel : Nat} {v : Value} {x : DataW H × List MemPlace}
    (h : DataW.trod enc Try.prog W 0 spare held fuel 22 [v] = some x) : ∃ (a : Option Addr) (n c : Nat) (xs : List Bs), v = .slice a n c ∧ xs.length = n ∧ Rd W a xs ∧ n ≤ Rows.uptoBulk x.1 := by
  have h' := h
  rcases open_strings Try.underlying22 Try.underlying9 (by kernel_rfl) h with ⟨hcs, _⟩ | ⟨y, l, c, ss, hcs, _⟩
  · obtain rfl : v = .slice none 0 0 := by simpa using hcs
    obtain ⟨xs, h1, _, _, h4⟩ := texts_view h'
    exact ⟨none, 0, 0, xs, rfl, h1, h4, Nat.zero_le _⟩
  · obtain rfl : v = .slice (some y) l c := by simpa using hcs
    obtain ⟨xs, h1, _, _, h4⟩ := texts_view h'
    refine ⟨some y, l, c, xs, rfl, h1, h4, ?_⟩
    rcases texts_datum h' with e | ⟨es, sp, e, hl⟩
    · omega
    · rw [e]
      have := bulk_many es
      simp only [Rows.uptoBulk]
      omega

/-- How many lines hunks have. -/
def lines (hs : List Hk) : Nat := (hs.map (fun h => h.gone.length + h.new.length)).sum

theorem tot_lines : ∀ hs : List Hk, tot hs ≤ lines hs
  | [] => by simp [tot, lines]
  | h :: t => by
    have := tot_lines t
    simp only [tot, lines, List.map_cons, List.sum_cons] at this ⊢
    omega

theorem mem_lines : ∀ (hs : List Hk) (h : Hk), h ∈ hs → h.gone.length + h.new.length ≤ lines hs
  | [], _, hm => by simp at hm
  | g :: t, h, hm => by
    simp only [lines, List.map_cons, List.sum_cons]
    rcases List.mem_cons.1 hm with rfl | q
    · omega
    · have := mem_lines t h q
      simp only [lines] at this
      omega

theorem hunks_view {H : Type} {enc : TypeId × Value → H} {W : World} {spare : Nat → Bool} {held : Bool} {fuel len cap : Nat} {a : Option Addr} {x : DataW H × List MemPlace}
    (h : DataW.trod enc Try.prog W 0 spare held fuel 31 [.slice a len cap] = some x) : ∃ (vs : List HV) (hs : List Hk), hs.length = len ∧ len ≤ 9223372036854775807 ∧ RdG encH W a vs ∧ Hks W vs hs ∧ len ≤ Rows.uptoBulk x.1 ∧ lines hs ≤ Rows.uptoBulk x.1 := by
  rcases Go.Deep.open_slice Try.underlying31 h with ⟨hcs, _⟩ | ⟨y, l, c, m, k, D, Pl, hcs, _, hl, hm, hmm, hx, hc⟩
  · simp only [List.cons.injEq, Value.slice.injEq, and_true] at hcs
    obtain ⟨rfl, rfl, rfl⟩ := hcs
    exact ⟨[], [], rfl, by omega, RdG.nil _ _ _, Hks.nil _, Nat.zero_le _, by simp [lines]⟩
  · simp only [List.cons.injEq, Value.slice.injEq, and_true] at hcs
    obtain ⟨rfl, rfl, rfl⟩ := hcs
    have hlm : len ≤ m := by rw [hmm]; split <;> omega
    have ce : Try.prog.cellsOf 46 = 4 := by kernel_rfl
    have c3 : Try.prog.cellsOf 3 = 1 := by kernel_rfl
    have c22 : Try.prog.cellsOf 22 = 1 := by kernel_rfl
    have each : ∀ i, i < len → ∃ q : HV × Hk, (∀ j u, (encH.cells q.1)[j]? = some u → W.cell? (y.add (i * 4 + j)) = some u) ∧ HkAt W q.1 q.2 ∧ q.2.gone.length + q.2.new.length ≤ Rows.uptoBulk (D i) := by
      intro i hi
      obtain ⟨cs', h1, h2⟩ := hc i (by omega)
      rw [ce] at h1
      obtain ⟨_, hlen, hcell⟩ := World.cells?_some h1
      obtain ⟨xs, k', hk, hxy, _, hxl, hf⟩ := DataW.trod_struct Try.underlying46 h2
      match xs, hxl, cs', hlen with
      | [y0, y1, y2, y3], _, [v0, v1, v2, v3], _ =>
        have g0 : DataW.trod enc Try.prog W 0 spare held k' 3 [v0] = some y0 := by simpa [c3, c22] using hf 0 _ rfl
        have g1 : DataW.trod enc Try.prog W 0 spare held k' 3 [v1] = some y1 := by simpa [c3, c22] using hf 1 _ rfl
        have g2 : DataW.trod enc Try.prog W 0 spare held k' 22 [v2] = some y2 := by simpa [c3, c22] using hf 2 _ rfl
        have g3 : DataW.trod enc Try.prog W 0 spare held k' 22 [v3] = some y3 := by simpa [c3, c22] using hf 3 _ rfl
        obtain ⟨z0, e0, _, _⟩ := DataW.trod_int Try.underlying3 g0
        obtain ⟨z1, e1, _, _⟩ := DataW.trod_int Try.underlying3 g1
        obtain rfl : v0 = .int .i64 z0 := by simpa using e0
        obtain rfl : v1 = .int .i64 z1 := by simpa using e1
        obtain ⟨ga, gl, gc, gone, rfl, hg1, hg2, hg3⟩ := text_field g2
        obtain ⟨na, nl, nc, new, rfl, hn1, hn2, hn3⟩ := text_field g3
        refine ⟨(⟨z0, z1, ga, gl, gc, na, nl, nc⟩, ⟨z0, z1, gone, new⟩), ?_, ⟨rfl, rfl, hg1, hn1, hg2, hn2⟩, ?_⟩
        · intro j u hu
          have hj : j < 4 := by
            have := (List.getElem?_eq_some_iff.1 hu).1
            simpa [encH] using this
          have := hcell j (by omega)
          rw [Go.Deep.add_add] at this
          rw [this]
          match j, hj, hu with
          | 0, _, hu => simpa [encH] using hu
          | 1, _, hu => simpa [encH] using hu
          | 2, _, hu => simpa [encH] using hu
          | 3, _, hu => simpa [encH] using hu
        · simp only [Prod.mk.injEq] at hxy
          rw [hxy.1]
          simp only [List.map_cons, List.map_nil, Rows.uptoBulk, Rows.uptoBulkAll]
          show gone.length + new.length ≤ _
          omega
    haveI : Inhabited (HV × Hk) := ⟨(⟨0, 0, none, 0, 0, none, 0, 0⟩, ⟨0, 0, [], []⟩)⟩
    obtain ⟨q, hq⟩ := Go.Deep.choose_lt each
    refine ⟨(List.range len).map (fun i => (q i).1), (List.range len).map (fun i => (q i).2), by simp, by unfold maxLen at hm; omega, ?_, ⟨by simp, ?_⟩, ?_, ?_⟩
    · intro h0
      have h0' : 0 < len := by simpa using h0
      obtain ⟨b, off, spot⟩ := y
      have first := (hq 0 h0').1 0 (.int .i64 (q 0).1.a) rfl
      have hs : spot = none := by
        have := World.cell?_spot first
        simpa [Addr.add] using this
      subst hs
      refine ⟨b, off, rfl, ?_, ?_⟩
      · have := World.block_lt_of_cell? W _ first
        rw [addr_plus] at this
        exact this
      · intro i z hz j u hu
        have hi : i < len := by
          have := (List.getElem?_eq_some_iff.1 hz).1
          simpa using this
        obtain rfl : z = (q i).1 := by simpa [hi] using hz.symm
        have := (hq i hi).1 j u hu
        rw [addr_plus] at this
        exact this
    · intro i v g e1 e2
      have hi : i < len := by
        have := (List.getElem?_eq_some_iff.1 e1).1
        simpa using this
      obtain rfl : v = (q i).1 := by simpa [hi] using e1.symm
      obtain rfl : g = (q i).2 := by simpa [hi] using e2.symm
      exact (hq i hi).2.1
    · rw [hx]
      have := bulk_many ((List.range len).map D)
      simp only [Rows.uptoBulk, List.length_map, List.length_range] at this ⊢
      omega
    · rw [hx]
      have := bulk_sums (fun i => (q i).2.gone.length + (q i).2.new.length) D (List.range len) (fun i hi => (hq i (List.mem_range.1 hi)).2.2)
      simp only [lines, List.map_map, Rows.uptoBulk]
      have e : ((fun h : Hk => h.gone.length + h.new.length) ∘ fun i => (q i).2) = (fun i => (q i).2.gone.length + (q i).2.new.length) := rfl
      rw [e]
      omega

end Go.Proofs.Ytmblkkmfbgngdaa
