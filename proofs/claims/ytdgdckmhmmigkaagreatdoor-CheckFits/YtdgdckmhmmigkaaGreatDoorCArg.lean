/-
  What the rows' lists give: the signs, the infixes, the powers of ten and the table of functions lie as the program's text lays them; a world in which all listed variables do. No condition.
-/
import Derived.Test.YtdgdckmhmmigkaaGreatDoorJTab
import Derived.Test.YtdgdckmhmmigkaaGreatDoorCards
import Derived.Test.YtdgdckmhmmigkaaGreatDoorTie
import Derived.ProofKit
import Derived.OpenShut
import Derived.ShutString
import Derived.ChangeOld
import Derived.Below
import Derived.ChangeMaps5
import Derived.Deep.DeepHandedRow
import Derived.Lib.LaidTab
namespace Go.Proofs.YtdgdckmhmmigkaaGreatDoor
open Go.ChangeShapes Go.WideShapes Go.ChangeAt Go.RowKit

theorem own : ownKnob Tryz.prog.godebug = none := by kernel_rfl
theorem laidOut : laidOutB Tryz.prog = true := by kernel_rfl

/-- An array of texts that reads as these texts holds them, cell for cell. -/
theorem cells_of_texts {H : Type} {enc : TypeId × Value → H} {w : World} {base : Nat} {sp : Nat → Bool} {held : Bool} {fuel : Nat} {t e : TypeId} {n : Nat} {cs : List Value} {ss : List Bs} {p : List MemPlace}
    (ht : Tryz.prog.underlying t = some (.array n e)) (he : Tryz.prog.underlying e = some .string) (hce : Tryz.prog.cellsOf e = 1) (hct : Tryz.prog.cellsOf t = n)
    (h : DataW.trod enc Tryz.prog w base sp held fuel t cs = some (.agg (ss.map fun s => .lit (.string s)), p)) : cs = ss.map fun s => Value.string ⟨s.toArray⟩ := by
  cases fuel with
  | zero => simp [DataW.trod] at h
  | succ fuel =>
    simp only [DataW.trod, ht, hce, hct, Nat.mul_one] at h
    split at h
    · obtain ⟨xs, hm, hx⟩ := Option.map_eq_some_iff.1 h
      have hxs : xs.map (·.1) = ss.map fun s => (DataW.lit (.string s) : DataW H) := by
        have := congrArg Prod.fst hx
        simpa using this
      have hxl : xs.length = n := by simpa using Lib.mapM_length hm
      have hzl : ss.length = n := by
        have := congrArg List.length hxs
        simp at this
        omega
      apply List.ext_getElem?
      intro i
      by_cases hi : i < n
      · obtain ⟨b, hb, hf⟩ := Lib.mapM_at hm i i (by simp [hi])
        obtain ⟨z, hc, rfl, _⟩ := DataW.trod_string he hf
        have h1 : cs[i]? = some (.string z) := by
          have := congrArg (·[0]?) hc
          simpa [List.getElem?_take, List.getElem?_drop] using this
        have h2 : (xs.map (·.1))[i]? = some (DataW.lit (.string z.data.toList) : DataW H) := by simp [hb]
        rw [hxs] at h2
        simp only [List.getElem?_map, Option.map_eq_some_iff, DataW.lit.injEq, Lit.string.injEq] at h2
        obtain ⟨z', hz', hzz⟩ := h2
        rw [h1, List.getElem?_map, hz', hzz]
        rfl
      · rw [List.getElem?_eq_none (by omega), List.getElem?_eq_none (by simp; omega)]
    · cases h

theorem ty_sg : (Tryz.prog.globals[1]?).map (·.type) = some 109 := by kernel_rfl
theorem ty_inf : (Tryz.prog.globals[2]?).map (·.type) = some 112 := by kernel_rfl
theorem g_inf : Tryz.prog.globalNamed "forebear/parse.infixes" = some 2 := by kernel_rfl
theorem cells_inf : Tryz.prog.cellsOf 112 = 30 := by kernel_rfl
theorem cells_ix : Tryz.prog.cellsOf 111 = 6 := by kernel_rfl
theorem cells_op : Tryz.prog.cellsOf 45 = 1 := by kernel_rfl
theorem cells_i : Tryz.prog.cellsOf 3 = 1 := by kernel_rfl
theorem ty_pw : (Tryz.prog.globals[layItoa_ren.g 17]?).map (·.type) = some 148 := by kernel_rfl
theorem cells_sg : Tryz.prog.cellsOf 109 = 10 := by kernel_rfl
theorem cells_pw : Tryz.prog.cellsOf 148 = 20 := by kernel_rfl
theorem cells_s : Tryz.prog.cellsOf 9 = 1 := by kernel_rfl
theorem cells_u : Tryz.prog.cellsOf 46 = 1 := by kernel_rfl

theorem lit_int {H : Type} {enc : TypeId × Value → H} {w : World} {base : Nat} {sp : Nat → Bool} {held : Bool} {fuel : Nat} {t : TypeId} {c : Value} {x : DataW H × List MemPlace} {n : Int} (ht : Tryz.prog.underlying t = some (.int .i64))
    (h : DataW.trod enc Tryz.prog w base sp held fuel t [c] = some x) (hx : x.1 = .lit (.int .i64 n)) : c = .int .i64 n := by
  obtain ⟨m, hc, rfl, _⟩ := DataW.trod_int ht h
  simp at hx
  simp at hc
  rw [hc, hx]
theorem lit_str {H : Type} {enc : TypeId × Value → H} {w : World} {base : Nat} {sp : Nat → Bool} {held : Bool} {fuel : Nat} {t : TypeId} {c : Value} {x : DataW H × List MemPlace} {l : Bs} (ht : Tryz.prog.underlying t = some .string)
    (h : DataW.trod enc Tryz.prog w base sp held fuel t [c] = some x) (hx : x.1 = .lit (.string l)) : c = .string ⟨l.toArray⟩ := by
  obtain ⟨m, hc, rfl, _⟩ := DataW.trod_string ht h
  simp at hx
  simp at hc
  rw [hc, ← hx]
/-- A row of the infixes' table. -/
theorem six_of {α : Type} {l : List α} (h : l.length = 6) : ∃ a b c d e f, l = [a, b, c, d, e, f] := by
  match l, h with
  | [a, b, c, d, e, f], _ => exact ⟨a, b, c, d, e, f, rfl⟩
theorem ix_cells {H : Type} {enc : TypeId × Value → H} {w : World} {base : Nat} {sp : Nat → Bool} {held : Bool} {fuel : Nat} {cs : List Value} {x : DataW H × List MemPlace} {o lv f s : Int} {g wt : Bs}
    (h : DataW.trod enc Tryz.prog w base sp held fuel 111 cs = some x) (hx : x.1 = .agg [.lit (.int .i64 o), .lit (.string g), .lit (.string wt), .lit (.int .i64 lv), .lit (.int .i64 f), .lit (.int .i64 s)]) :
    cs = [.int .i64 o, .string ⟨g.toArray⟩, .string ⟨wt.toArray⟩, .int .i64 lv, .int .i64 f, .int .i64 s] := by
  obtain ⟨xs, n, _, rfl, hl, hlen, hf⟩ := DataW.trod_struct Tryz.underlying111 h
  rw [cells_ix] at hl
  have h0 : DataW.trod enc Tryz.prog w base sp held n 45 ((cs.drop 0).take (Tryz.prog.cellsOf 45)) = xs[0]? := hf 0 _ rfl
  have h1 : DataW.trod enc Tryz.prog w base sp held n 9 ((cs.drop 1).take (Tryz.prog.cellsOf 9)) = xs[1]? := hf 1 _ rfl
  have h2 : DataW.trod enc Tryz.prog w base sp held n 9 ((cs.drop 2).take (Tryz.prog.cellsOf 9)) = xs[2]? := hf 2 _ rfl
  have h3 : DataW.trod enc Tryz.prog w base sp held n 3 ((cs.drop 3).take (Tryz.prog.cellsOf 3)) = xs[3]? := hf 3 _ rfl
  have h4 : DataW.trod enc Tryz.prog w base sp held n 3 ((cs.drop 4).take (Tryz.prog.cellsOf 3)) = xs[4]? := hf 4 _ rfl
  have h5 : DataW.trod enc Tryz.prog w base sp held n 3 ((cs.drop 5).take (Tryz.prog.cellsOf 3)) = xs[5]? := hf 5 _ rfl
  rw [cells_op] at h0
  rw [cells_s] at h1 h2
  rw [cells_i] at h3 h4 h5
  obtain ⟨c0, c1, c2, c3, c4, c5, rfl⟩ := six_of hl
  obtain ⟨x0, x1, x2, x3, x4, x5, rfl⟩ := six_of (hlen.trans rfl)
  clear hf hl hlen h
  simp only [List.map_cons, List.map_nil, DataW.agg.injEq, List.cons.injEq, and_true] at hx
  obtain ⟨e0, e1, e2, e3, e4, e5⟩ := hx
  rw [lit_int Tryz.underlying45 h0 e0, lit_str Tryz.underlying9 h1 e1, lit_str Tryz.underlying9 h2 e2, lit_int Tryz.underlying3 h3 e3, lit_int Tryz.underlying3 h4 e4, lit_int Tryz.underlying3 h5 e5]
theorem cut5 (cs : List Value) (h : cs.length = 30) : cs = (cs.drop 0).take 6 ++ ((cs.drop 6).take 6 ++ ((cs.drop 12).take 6 ++ ((cs.drop 18).take 6 ++ (cs.drop 24).take 6))) := by
  apply List.ext_getElem?
  intro i
  simp only [List.getElem?_append, List.getElem?_take, List.getElem?_drop, List.length_take, List.length_drop, h]
  by_cases a : i < 6
  · simp [a]
  by_cases b : i < 12
  · simp [a, show i - 6 < 6 by omega, show 6 + (i - 6) = i by omega]
  by_cases c : i < 18
  · simp [a, show ¬ i - 6 < 6 by omega, show i - 6 - 6 < 6 by omega, show 12 + (i - 6 - 6) = i by omega]
  by_cases d : i < 24
  · simp [a, show ¬ i - 6 < 6 by omega, show ¬ i - 6 - 6 < 6 by omega, show i - 6 - 6 - 6 < 6 by omega, show 18 + (i - 6 - 6 - 6) = i by omega]
  by_cases e : i < 30
  · simp [a, show ¬ i - 6 < 6 by omega, show ¬ i - 6 - 6 < 6 by omega, show ¬ i - 6 - 6 - 6 < 6 by omega, show i - 6 - 6 - 6 - 6 < 6 by omega, show 24 + (i - 6 - 6 - 6 - 6) = i by omega]
  · rw [List.getElem?_eq_none (by omega)]
    simp [a, show ¬ i - 6 < 6 by omega, show ¬ i - 6 - 6 < 6 by omega, show ¬ i - 6 - 6 - 6 < 6 by omega, show ¬ i - 6 - 6 - 6 - 6 < 6 by omega]
theorem inf_cells {H : Type} {enc : TypeId × Value → H} {w : World} {base : Nat} {sp : Nat → Bool} {held : Bool} {fuel : Nat} {cs : List Value} {p : List MemPlace}
    (h : DataW.trod enc Tryz.prog w base sp held fuel 112 cs = some (Rows.laid_forebear_parse_infixes, p)) : cs = infV.toList := by
  obtain ⟨xs, m, _, hx, hl, hlen, hf⟩ := DataW.trod_array Tryz.underlying112 h
  rw [cells_inf] at hl
  have hx1 := congrArg Prod.fst hx
  clear hx h
  simp only [cells_ix] at hf
  have h0 := hf 0 (by omega)
  have h1 := hf 1 (by omega)
  have h2 := hf 2 (by omega)
  have h3 := hf 3 (by omega)
  have h4 := hf 4 (by omega)
  rw [cut5 cs hl]
  match xs, hlen with
  | [x0, x1, x2, x3, x4], _ =>
    simp [Rows.laid_forebear_parse_infixes] at hx1
    obtain ⟨e0, e1, e2, e3, e4⟩ := hx1
    rw [ix_cells h0 e0.symm, ix_cells h1 e1.symm, ix_cells h2 e2.symm, ix_cells h3 e3.symm, ix_cells h4 e4.symm]
    rfl

section
variable {H : Type} {enc : TypeId × Value → H} {w : World} {base : Nat} {held : Bool}

/-- A row in the program's memory whose things lie in a cell each. -/
theorem row_lies {α : Type} (f : α → Value) (g : α → DataW H) {t e : TypeId} (ht : Tryz.prog.underlying t = some (.slice e)) (hce : Tryz.prog.cellsOf e = 1)
    (hdec : ∀ (n : Nat) (cs' : List Value) (y : DataW H × List MemPlace) (x : α), DataW.trod enc Tryz.prog w base (fun _ => true) held n e cs' = some y → y.1 = g x → cs' = [f x])
    {fuel : Nat} {cs : List Value} {p : List MemPlace} {xs : List α} (h0 : xs ≠ []) (h : DataW.trod enc Tryz.prog w base (fun _ => true) held fuel t cs = some (.slice (xs.map g) [], p)) :
    ∃ b off, cs = [.slice (some ⟨b, off, none⟩) xs.length xs.length] ∧ b < w.heap.size ∧ ∀ i x, xs[i]? = some x → w.cell? ⟨b, off + i, none⟩ = some (f x) := by
  rcases DataW.trod_slice ht h with ⟨_, hx⟩ | ⟨a, len, cap, elems, rest, n, _, rfl, hx, hb, hl, hm, hlen, hel, hsp, _⟩
  · cases hx
  have hx1 := congrArg Prod.fst hx
  simp only [DataW.slice.injEq] at hx1
  obtain ⟨he, hr⟩ := hx1
  have hrest : rest = [] := by
    have := congrArg List.length hr
    simp at this
    exact List.length_eq_zero_iff.1 this.symm
  have hlx : xs.length = len := by
    have := congrArg List.length he
    simp at this
    omega
  have hcap : cap = len := by
    have := (hsp rfl).1
    rw [hrest] at this
    simp at this
    omega
  have each : ∀ i x, xs[i]? = some x → w.cell? (a.add i) = some (f x) := by
    intro i x hi
    have hil : i < len := by
      rw [← hlx]
      exact (List.getElem?_eq_some_iff.1 hi).1
    have h1 := hel i hil
    rw [hce, Nat.mul_one] at h1
    have h2 : (elems.map (·.1))[i]? = some (g x) := by rw [← he, List.getElem?_map, hi]; rfl
    rw [List.getElem?_map, Option.map_eq_some_iff] at h2
    obtain ⟨y, hy, hyx⟩ := h2
    rw [hy] at h1
    obtain ⟨cs', hc, ht'⟩ := Option.bind_eq_some_iff.1 h1
    rw [hdec n cs' y x ht' hyx] at hc
    exact cell_of_cells?_one hc
  obtain ⟨x0, hx0⟩ : ∃ x0, xs[0]? = some x0 := by
    cases xs with
    | nil => exact absurd rfl h0
    | cons x l => exact ⟨x, rfl⟩
  have hc0 := each 0 x0 hx0
  have ha0 : a.add 0 = a := rfl
  rw [ha0] at hc0
  obtain ⟨b, off, spot⟩ := a
  have hsn : spot = none := by
    unfold World.cell? at hc0
    simp only at hc0
    split at hc0
    · split at hc0
      · cases hc0
      · rename_i q
        simpa using q
    · cases hc0
  subst hsn
  refine ⟨b, off, by rw [hcap, hlx], ?_, fun i x hi => ?_⟩
  · unfold World.cell? at hc0
    simp only at hc0
    rcases Nat.lt_or_ge b w.heap.size with q | q
    · exact q
    · rw [Array.getElem?_eq_none q] at hc0
      cases hc0
  · have := each i x hi
    rwa [addr_plus] at this
theorem strs_lie {fuel : Nat} {cs : List Value} {p : List MemPlace} {ss : List Bs} (h0 : ss ≠ []) (h : DataW.trod enc Tryz.prog w base (fun _ => true) held fuel 26 cs = some (.slice (ss.map fun s => .lit (.string s)) [], p)) :
    ∃ ao, cs = [.slice ao ss.length ss.length] ∧ Rd w ao ss := by
  obtain ⟨b, off, rfl, hlt, hc⟩ := row_lies (fun s : Bs => Value.string ⟨s.toArray⟩) (fun s => .lit (.string s)) Tryz.underlying26 cells_s (fun n cs' y x hy hx => by
    obtain ⟨z, rfl, rfl, _⟩ := DataW.trod_string Tryz.underlying9 hy
    simp only [DataW.lit.injEq, Lit.string.injEq] at hx
    rw [← hx]) h0 h
  exact ⟨_, rfl, fun _ => ⟨b, off, rfl, hlt, fun i hi => by rw [el_get hi]; exact hc i _ (List.getElem?_eq_getElem hi)⟩⟩
theorem cells_ty : Tryz.prog.cellsOf 25 = 1 := by kernel_rfl
theorem tys_lie {fuel : Nat} {cs : List Value} {p : List MemPlace} {zs : List Int} (h0 : zs ≠ []) (h : DataW.trod enc Tryz.prog w base (fun _ => true) held fuel 24 cs = some (.slice (zs.map fun z => .lit (.int .i64 z)) [], p)) :
    ∃ ao, cs = [.slice ao zs.length zs.length] ∧ RdG encI w ao zs := by
  obtain ⟨b, off, rfl, hlt, hc⟩ := row_lies (fun z : Int => Value.int .i64 z) (fun z => .lit (.int .i64 z)) Tryz.underlying24 cells_ty (fun n cs' y x hy hx => by
    obtain ⟨z, rfl, rfl, _⟩ := DataW.trod_int Tryz.underlying25 hy
    simp only [DataW.lit.injEq, Lit.int.injEq, true_and] at hx
    rw [← hx]) h0 h
  refine ⟨_, rfl, fun _ => ⟨b, off, rfl, hlt, fun i x hx j u hu => ?_⟩⟩
  obtain ⟨rfl, rfl⟩ : j = 0 ∧ u = .int .i64 x := by
    match j, hu with
    | 0, hu => exact ⟨rfl, (Option.some.inj hu).symm⟩
    | j + 1, hu => cases hu
  have := hc i x hx
  simpa [encI] using this
/-- How the types that a row takes are laid. -/
def tkD (zs : List Int) : DataW H := if zs = [] then .nil else .slice (zs.map fun z => .lit (.int .i64 z)) []
theorem five_of {α : Type} {l : List α} (h : l.length = 5) : ∃ a b c d e, l = [a, b, c, d, e] := by
  match l, h with
  | [a, b, c, d, e], _ => exact ⟨a, b, c, d, e, rfl⟩
theorem cells_fn : Tryz.prog.cellsOf 36 = 5 := by kernel_rfl
theorem cells_ss : Tryz.prog.cellsOf 26 = 1 := by kernel_rfl
theorem cells_tys : Tryz.prog.cellsOf 24 = 1 := by kernel_rfl
/-- A row of the table of functions. -/
theorem fn_lies {fuel : Nat} {cs : List Value} {x : DataW H × List MemPlace} (f : FR) (h0 : f.names ≠ [])
    (h : DataW.trod enc Tryz.prog w base (fun _ => true) held fuel 36 cs = some x)
    (hx : x.1 = .agg [.slice (f.names.map fun s => .lit (.string s)) [], tkD f.takes, .lit (.int .i64 f.least), .lit (.int .i64 f.most), .lit (.int .i64 f.comes)]) : ∃ v : FvV, cs = v.cells ∧ FvAt w v f := by
  obtain ⟨xs, n, _, rfl, hl, hlen, hf⟩ := DataW.trod_struct Tryz.underlying36 h
  rw [cells_fn] at hl
  have h1 : DataW.trod enc Tryz.prog w base (fun _ => true) held n 26 ((cs.drop 0).take (Tryz.prog.cellsOf 26)) = xs[0]? := hf 0 _ rfl
  have h2 : DataW.trod enc Tryz.prog w base (fun _ => true) held n 24 ((cs.drop 1).take (Tryz.prog.cellsOf 24)) = xs[1]? := hf 1 _ rfl
  have h3 : DataW.trod enc Tryz.prog w base (fun _ => true) held n 3 ((cs.drop 2).take (Tryz.prog.cellsOf 3)) = xs[2]? := hf 2 _ rfl
  have h4 : DataW.trod enc Tryz.prog w base (fun _ => true) held n 3 ((cs.drop 3).take (Tryz.prog.cellsOf 3)) = xs[3]? := hf 3 _ rfl
  have h5 : DataW.trod enc Tryz.prog w base (fun _ => true) held n 25 ((cs.drop 4).take (Tryz.prog.cellsOf 25)) = xs[4]? := hf 4 _ rfl
  rw [cells_ss] at h1
  rw [cells_tys] at h2
  rw [cells_i] at h3 h4
  rw [cells_ty] at h5
  obtain ⟨c0, c1, c2, c3, c4, rfl⟩ := five_of hl
  obtain ⟨x0, x1, x2, x3, x4, rfl⟩ := five_of (hlen.trans rfl)
  clear hf hl hlen h
  simp only [List.map_cons, List.map_nil, DataW.agg.injEq, List.cons.injEq, and_true] at hx
  obtain ⟨e0, e1, e2, e3, e4⟩ := hx
  have q2 := lit_int Tryz.underlying3 h3 e2
  have q3 := lit_int Tryz.underlying3 h4 e3
  have q4 := lit_int Tryz.underlying25 h5 e4
  obtain ⟨d0, p0⟩ := x0
  obtain ⟨d1, p1⟩ := x1
  simp only at e0 e1
  subst e0
  subst e1
  obtain ⟨na, hna, hrd⟩ := strs_lie h0 h1
  have hna1 : c0 = .slice na f.names.length f.names.length := by simpa using hna
  by_cases ht : f.takes = []
  · have h2' : DataW.trod enc Tryz.prog w base (fun _ => true) held n 24 [c1] = some (.nil, p1) := by
      have : (tkD f.takes : DataW H) = .nil := by rw [tkD, if_pos ht]
      rw [this] at h2
      exact h2
    rcases DataW.trod_slice Tryz.underlying24 h2' with ⟨hc, _⟩ | ⟨_, _, _, _, _, _, _, _, hx, _⟩
    · have hc1 : c1 = .slice none 0 0 := by simpa using hc
      refine ⟨⟨na, f.names.length, f.names.length, none, 0, 0, f.least, f.most, f.comes⟩, ?_, hrd, rfl, Nat.le_refl _, ?_, ?_, Nat.le_refl _, rfl, rfl, rfl⟩
      · simp only [FvV.cells, hna1, hc1, q2, q3, q4]
      · rw [ht]
        exact RdG.nil _ _ _
      · rw [ht]
        rfl
    · cases hx
  · have h2' : DataW.trod enc Tryz.prog w base (fun _ => true) held n 24 [c1] = some (.slice (f.takes.map fun z => .lit (.int .i64 z)) [], p1) := by
      have : (tkD f.takes : DataW H) = .slice (f.takes.map fun z => .lit (.int .i64 z)) [] := by rw [tkD, if_neg ht]
      rw [this] at h2
      exact h2
    obtain ⟨ta, hta, hrt⟩ := tys_lie ht h2'
    have hc1 : c1 = .slice ta f.takes.length f.takes.length := by simpa using hta
    exact ⟨⟨na, f.names.length, f.names.length, ta, f.takes.length, f.takes.length, f.least, f.most, f.comes⟩, by simp only [FvV.cells, hna1, hc1, q2, q3, q4], hrd, rfl, Nat.le_refl _, hrt, rfl, Nat.le_refl _, rfl, rfl, rfl⟩
theorem chunk {cs : List Value} (k : Nat) : cs.drop k = (cs.drop k).take 5 ++ cs.drop (k + 5) := by
  rw [show cs.drop (k + 5) = (cs.drop k).drop 5 by rw [List.drop_drop], List.take_append_drop]
theorem cells_fns : Tryz.prog.cellsOf 37 = 40 := by kernel_rfl
theorem fns_lie {fuel : Nat} {cs : List Value} {p : List MemPlace} (h : DataW.trod enc Tryz.prog w base (fun _ => true) held fuel 37 cs = some (Rows.laid_forebear_check_functions, p)) :
    ∃ v0 v1 v2 v3 v4 v5 v6 v7, cs = encFv.all [v0, v1, v2, v3, v4, v5, v6, v7] ∧ FvAt w v0 fT0 ∧ FvAt w v1 fT1 ∧ FvAt w v2 fT2 ∧ FvAt w v3 fT3 ∧ FvAt w v4 fT4 ∧ FvAt w v5 fT5 ∧ FvAt w v6 fT6 ∧ FvAt w v7 fT7 := by
  obtain ⟨xs, m, _, hx, hl, hlen, hf⟩ := DataW.trod_array Tryz.underlying37 h
  rw [cells_fns] at hl
  have hx1 := congrArg Prod.fst hx
  clear hx h
  simp only [cells_fn] at hf
  have hcs : cs = (cs.drop 0).take 5 ++ ((cs.drop 5).take 5 ++ ((cs.drop 10).take 5 ++ ((cs.drop 15).take 5 ++ ((cs.drop 20).take 5 ++ ((cs.drop 25).take 5 ++ ((cs.drop 30).take 5 ++ ((cs.drop 35).take 5 ++ cs.drop 40))))))) := by
    rw [← chunk 35, ← chunk 30, ← chunk 25, ← chunk 20, ← chunk 15, ← chunk 10, ← chunk 5, ← chunk 0]
    rfl
  have hz : cs.drop 40 = [] := List.drop_eq_nil_of_le (by omega)
  have g0 := hf 0 (by omega)
  have g1 := hf 1 (by omega)
  have g2 := hf 2 (by omega)
  have g3 := hf 3 (by omega)
  have g4 := hf 4 (by omega)
  have g5 := hf 5 (by omega)
  have g6 := hf 6 (by omega)
  have g7 := hf 7 (by omega)
  match xs, hlen with
  | [x0, x1, x2, x3, x4, x5, x6, x7], _ =>
    simp only [Rows.laid_forebear_check_functions, List.map_cons, List.map_nil, DataW.agg.injEq, List.cons.injEq, and_true] at hx1
    obtain ⟨e0, e1, e2, e3, e4, e5, e6, e7⟩ := hx1
    obtain ⟨v0, c0, a0⟩ := fn_lies fT0 (by decide) g0 e0.symm
    obtain ⟨v1, c1, a1⟩ := fn_lies fT1 (by decide) g1 e1.symm
    obtain ⟨v2, c2, a2⟩ := fn_lies fT2 (by decide) g2 e2.symm
    obtain ⟨v3, c3, a3⟩ := fn_lies fT3 (by decide) g3 e3.symm
    obtain ⟨v4, c4, a4⟩ := fn_lies fT4 (by decide) g4 e4.symm
    obtain ⟨v5, c5, a5⟩ := fn_lies fT5 (by decide) g5 e5.symm
    obtain ⟨v6, c6, a6⟩ := fn_lies fT6 (by decide) g6 e6.symm
    obtain ⟨v7, c7, a7⟩ := fn_lies fT7 (by decide) g7 e7.symm
    refine ⟨v0, v1, v2, v3, v4, v5, v6, v7, ?_, a0, a1, a2, a3, a4, a5, a6, a7⟩
    rw [hcs, hz]
    have d0 : (cs.drop 0).take 5 = v0.cells := c0
    have d1 : (cs.drop 5).take 5 = v1.cells := c1
    have d2 : (cs.drop 10).take 5 = v2.cells := c2
    have d3 : (cs.drop 15).take 5 = v3.cells := c3
    have d4 : (cs.drop 20).take 5 = v4.cells := c4
    have d5 : (cs.drop 25).take 5 = v5.cells := c5
    have d6 : (cs.drop 30).take 5 = v6.cells := c6
    have d7 : (cs.drop 35).take 5 = v7.cells := c7
    rw [d0, d1, d2, d3, d4, d5, d6, d7]
    rfl
end
theorem ty_fns : (Tryz.prog.globals[0]?).map (·.type) = some 37 := by kernel_rfl
theorem g_fns : Tryz.prog.globalNamed "forebear/check.functions" = some 0 := by kernel_rfl

/-- What the rows' lists give. -/
theorem gl_of_laid {W : World} (h : laidMetH Tryz.prog Rows.checkFitsRow.laid W) : Gl W ∧ Inf W ∧ Fns W := by
  have h' : laidMet Tryz.prog Rows.checkFitsRow.laid W := h
  obtain ⟨ps, hv, _, _⟩ := h'
  obtain ⟨_, _, _, _, _, _, _, _, _, _, hv, _⟩ := hv
  obtain ⟨_, _, _, _, _, _, _, _, _, _, hv, _⟩ := hv
  obtain ⟨g3, t3, cs3, f3, p3, q3, hg3, ht3, hvar3, hd3, hv, _⟩ := hv
  obtain ⟨_, _, _, _, _, _, _, _, _, _, hv, _⟩ := hv
  obtain ⟨_, _, _, _, _, _, _, _, _, _, hv, _⟩ := hv
  obtain ⟨g6, t6, cs6, f6, p6, q6, hg6, ht6, hvar6, hd6, hv, _⟩ := hv
  obtain ⟨g7, t7, cs7, f7, p7, q7, hg7, ht7, hvar7, hd7, hv, _⟩ := hv
  obtain ⟨g8, t8, cs8, f8, p8, q8, hg8, ht8, hvar8, hd8, hv, _⟩ := hv
  obtain rfl := Option.some.inj (g_pw.symm.trans hg3)
  obtain rfl := Option.some.inj (ty_pw.symm.trans ht3)
  obtain rfl := Option.some.inj (g_sg.symm.trans hg6)
  obtain rfl := Option.some.inj (ty_sg.symm.trans ht6)
  obtain rfl := Option.some.inj (g_inf.symm.trans hg7)
  obtain rfl := Option.some.inj (ty_inf.symm.trans ht7)
  obtain rfl := Option.some.inj (g_fns.symm.trans hg8)
  obtain rfl := Option.some.inj (ty_fns.symm.trans ht8)
  refine ⟨⟨?_, ?_⟩, ?_, ?_⟩
  · have := cells_of_texts (ss := sgs) Tryz.underlying109 Tryz.underlying9 cells_s cells_sg hd6
    rw [hvar6, ← this]
  · have := Lib.cells_of_tab (k := .u64) (zs := Lib.pow10Tab) Tryz.underlying148 Tryz.underlying46 cells_u cells_pw hd3
    unfold Lib.TabIs
    rw [hvar3, ← this]
  · have hcs := inf_cells hd7
    obtain rfl : cs7 = infV := Array.toList_inj.1 hcs
    unfold World.var? at hvar7
    rw [g_inf] at hvar7
    simp only [Option.bind_some] at hvar7
    split at hvar7
    · rename_i a b c he
      cases hvar7
      exact ⟨_, _, he⟩
    · cases hvar7
  · obtain ⟨v0, v1, v2, v3, v4, v5, v6, v7, hcs, a0, a1, a2, a3, a4, a5, a6, a7⟩ := fns_lie hd8
    refine ⟨v0, v1, v2, v3, v4, v5, v6, v7, ?_, a0, a1, a2, a3, a4, a5, a6, a7⟩
    rw [← hcs]
    unfold World.var? at hvar8
    rw [g_fns] at hvar8
    simp only [Option.bind_some] at hvar8
    split at hvar8
    · rename_i a b c he
      cases hvar8
      exact ⟨_, _, he⟩
    · cases hvar8

/-- So many blocks has the settled world. -/
noncomputable def low : Nat := (World.holding Tryz.prog default ⟨#[], #[], []⟩).heap.size
/-- A world for the witness: the settled one, the listed variables holding what their initialisers lay. -/
noncomputable def laidWorld (os : Os) : World :=
  let w0 := World.holding Tryz.prog os ⟨#[.cells #[.string ⟨#[118, 97, 108, 117, 101, 32, 111, 117, 116, 32, 111, 102, 32, 114, 97, 110, 103, 101]⟩] 137, .cells #[.string ⟨#[105, 110, 118, 97, 108, 105, 100, 32, 115, 121, 110, 116, 97, 120]⟩] 137, .cells #[.string ⟨#[97, 108, 108]⟩, .string ⟨#[110, 111, 110, 101]⟩, .string ⟨#[114, 101, 102, 115]⟩, .string ⟨#[116, 97, 103, 115]⟩] 9, .cells #[.string ⟨#[114, 101, 102]⟩, .string ⟨#[116, 97, 103]⟩] 9, .cells #[.int .i64 3] 25, .cells #[.string ⟨#[97, 110, 99, 101, 115, 116, 111, 114, 115]⟩] 9, .cells #[.int .i64 1, .int .i64 2] 25, .cells #[.string ⟨#[100, 101, 115, 99, 101, 110, 100, 97, 110, 116, 115]⟩, .string ⟨#[112, 97, 114, 101, 110, 116, 115]⟩, .string ⟨#[99, 104, 105, 108, 100, 114, 101, 110]⟩, .string ⟨#[104, 101, 97, 100, 115]⟩, .string ⟨#[114, 111, 111, 116, 115]⟩, .string ⟨#[109, 101, 114, 103, 101, 115]⟩, .string ⟨#[98, 97, 115, 101, 115]⟩] 9, .cells #[.int .i64 1] 25, .cells #[.string ⟨#[116, 111, 117, 99, 104, 105, 110, 103]⟩] 9, .cells #[.int .i64 1, .int .i64 3] 25, .cells #[.string ⟨#[108, 97, 116, 101, 115, 116]⟩, .string ⟨#[98, 101, 102, 111, 114, 101]⟩, .string ⟨#[115, 105, 110, 99, 101]⟩] 9, .cells #[.int .i64 1, .int .i64 2] 25, .cells #[.string ⟨#[117, 110, 105, 111, 110]⟩, .string ⟨#[99, 111, 109, 109, 111, 110]⟩] 9, .cells #[.int .i64 1] 25, .cells #[.string ⟨#[99, 111, 117, 110, 116]⟩] 9, .cells #[.int .i64 1] 25], #[], []⟩
  { w0 with heap := ((((((((w0.heap.modify 2 (fun
      | .cells _ t frozen => .cells infV t frozen
      | o => o)).modify 1 (fun
      | .cells _ t frozen => .cells sgV t frozen
      | o => o)).modify 3 (fun
      | .cells _ t frozen => .cells #[(.iface 135 (.pointer (some ⟨low + 1, 0, none⟩)))] t frozen
      | o => o)).modify 4 (fun
      | .cells _ t frozen => .cells #[(.iface 135 (.pointer (some ⟨low, 0, none⟩)))] t frozen
      | o => o)).modify 6 (fun
      | .cells _ t frozen => .cells (Lib.pow10Tab.map fun n : Int => Value.int .u64 n).toArray t frozen
      | o => o)).modify 7 (fun
      | .cells _ t frozen => .cells (([0, 1, 28, 2, 29, 14, 24, 3, 30, 22, 20, 15, 25, 17, 4, 8, 31, 27, 13, 23, 21, 19, 16, 7, 26, 12, 18, 6, 11, 5, 10, 9] : List Nat).map fun n : Nat => Value.int .u8 (n : Int)).toArray t frozen
      | o => o)).modify 8 (fun
      | .cells _ t frozen => .cells (([0, 1, 56, 2, 57, 49, 28, 3, 61, 58, 42, 50, 38, 29, 17, 4, 62, 47, 59, 36, 45, 43, 51, 22, 53, 39, 33, 30, 24, 18, 12, 5, 63, 55, 48, 27, 60, 41, 37, 16, 46, 35, 44, 21, 52, 32, 23, 11, 54, 26, 40, 15, 34, 20, 31, 10, 25, 14, 19, 9, 13, 8, 7, 6] : List Nat).map fun n : Nat => Value.int .u8 (n : Int)).toArray t frozen
      | o => o)).modify 0 (fun
      | .cells _ t frozen => .cells #[(.slice (some ⟨low + 2, 0, none⟩) 4 4), (.slice none 0 0), (.int .i64 0), (.int .i64 0), (.int .i64 1), (.slice (some ⟨low + 3, 0, none⟩) 2 2), (.slice (some ⟨low + 4, 0, none⟩) 1 1), (.int .i64 1), (.int .i64 1), (.int .i64 1), (.slice (some ⟨low + 5, 0, none⟩) 1 1), (.slice (some ⟨low + 6, 0, none⟩) 2 2), (.int .i64 1), (.int .i64 2), (.int .i64 1), (.slice (some ⟨low + 7, 0, none⟩) 7 7), (.slice (some ⟨low + 8, 0, none⟩) 1 1), (.int .i64 1), (.int .i64 1), (.int .i64 1), (.slice (some ⟨low + 9, 0, none⟩) 1 1), (.slice (some ⟨low + 10, 0, none⟩) 2 2), (.int .i64 2), (.int .i64 2), (.int .i64 1), (.slice (some ⟨low + 11, 0, none⟩) 3 3), (.slice (some ⟨low + 12, 0, none⟩) 2 2), (.int .i64 2), (.int .i64 2), (.int .i64 1), (.slice (some ⟨low + 13, 0, none⟩) 2 2), (.slice (some ⟨low + 14, 0, none⟩) 1 1), (.int .i64 1), (.int .i64 9223372036854775807), (.int .i64 1), (.slice (some ⟨low + 15, 0, none⟩) 1 1), (.slice (some ⟨low + 16, 0, none⟩) 1 1), (.int .i64 1), (.int .i64 1), (.int .i64 2)] t frozen
      | o => o)) }

theorem laid_fits (os : Os) : laidMet Tryz.prog Rows.checkFitsRow.laid ((laidWorld os).forCall (fun _ _ => 0) ⟨#[], #[.string ⟨#[]⟩, .slice none 0 0], []⟩).memory :=
  laidMet_of_run' 8 (by kernel_rfl) (by kernel_rfl)

end Go.Proofs.YtdgdckmhmmigkaaGreatDoor
