/-
  What the rows' lists give: the signs, the infixes and the powers of ten lie as the program's text lays them; a world in which all listed variables do. No condition.
-/
import Derived.Test.YtijchmcajhdcoaaGreatDoorJPas
import Derived.Test.YtijchmcajhdcoaaGreatDoorCards
import Derived.Test.YtijchmcajhdcoaaGreatDoorTie
import Derived.ProofKit
import Derived.OpenShut
import Derived.ShutString
import Derived.ChangeOld
import Derived.Below
import Derived.ChangeMaps5
import Derived.Deep.DeepHandedRow
import Derived.Lib.LaidTab
namespace Go.Proofs.YtijchmcajhdcoaaGreatDoor
open Go.ChangeShapes Go.WideShapes Go.ChangeAt Go.RowKit

theorem own : ownKnob Tryz.prog.godebug = none := by kernel_rfl
theorem laidOut : laidOutB Tryz.prog = true := by kernel_rfl

/-- An array of texts that reads as these texts holds them, cell for cell. -/
theorem cells_of_texts {H : Type} {enc : TypeId × Value → H} {w : World} {base : Nat} {sp : Nat → Bool} {held : Bool} {fuel : Nat} {t e : TypeId} {n : Nat} {cs : List Value} {ss : List Bs} {p : List MemPlace}
    (ht : Tryz.prog.underlying t = some (.array n e)) (he : Tryz.prog.underlying e = some .string) (hce : Tryz.prog.cellsOf e = 1) (hct : Tryz.prog.cellsOf t = n)
    (h : DataW.trod enc Tryz.prog w base sp held fuel t cs = some (.agg (ss.map fun s => .lit (.string s)), p)) : cs = ss.map fun s => Value.string ⟨s.toArray⟩ := by
  cases fuel with
  | zero => simp [DataW.trod] at h
  | succ fuel =>
    simp only [DataW.trod, ht, hce, hct, Nat.mul_one] at h
    split at h
    · obtain ⟨xs, hm, hx⟩ := Option.map_eq_some_iff.1 h
      have hxs : xs.map (·.1) = ss.map fun s => (DataW.lit (.string s) : DataW H) := by
        have := congrArg Prod.fst hx
        simpa using this
      have hxl : xs.length = n := by simpa using Lib.mapM_length hm
      have hzl : ss.length = n := by
        have := congrArg List.length hxs
        simp at this
        omega
      apply List.ext_getElem?
      intro i
      by_cases hi : i < n
      · obtain ⟨b, hb, hf⟩ := Lib.mapM_at hm i i (by simp [hi])
        obtain ⟨z, hc, rfl, _⟩ := DataW.trod_string he hf
        have h1 : cs[i]? = some (.string z) := by
          have := congrArg (·[0]?) hc
          simpa [List.getElem?_take, List.getElem?_drop] using this
        have h2 : (xs.map (·.1))[i]? = some (DataW.lit (.string z.data.toList) : DataW H) := by simp [hb]
        rw [hxs] at h2
        simp only [List.getElem?_map, Option.map_eq_some_iff, DataW.lit.injEq, Lit.string.injEq] at h2
        obtain ⟨z', hz', hzz⟩ := h2
        rw [h1, List.getElem?_map, hz', hzz]
        rfl
      · rw [List.getElem?_eq_none (by omega), List.getElem?_eq_none (by simp; omega)]
    · cases h

theorem ty_sg : (Tryz.prog.globals[1]?).map (·.type) = some 110 := by kernel_rfl
theorem ty_inf : (Tryz.prog.globals[0]?).map (·.type) = some 97 := by kernel_rfl
theorem g_inf : Tryz.prog.globalNamed "forebear/parse.infixes" = some 0 := by kernel_rfl
theorem cells_inf : Tryz.prog.cellsOf 97 = 30 := by kernel_rfl
theorem cells_ix : Tryz.prog.cellsOf 96 = 6 := by kernel_rfl
theorem cells_op : Tryz.prog.cellsOf 23 = 1 := by kernel_rfl
theorem cells_i : Tryz.prog.cellsOf 3 = 1 := by kernel_rfl
theorem ty_pw : (Tryz.prog.globals[layItoa_ren.g 17]?).map (·.type) = some 149 := by kernel_rfl
theorem cells_sg : Tryz.prog.cellsOf 110 = 10 := by kernel_rfl
theorem cells_pw : Tryz.prog.cellsOf 149 = 20 := by kernel_rfl
theorem cells_s : Tryz.prog.cellsOf 9 = 1 := by kernel_rfl
theorem cells_u : Tryz.prog.cellsOf 24 = 1 := by kernel_rfl

theorem lit_int {H : Type} {enc : TypeId × Value → H} {w : World} {base : Nat} {sp : Nat → Bool} {held : Bool} {fuel : Nat} {t : TypeId} {c : Value} {x : DataW H × List MemPlace} {n : Int} (ht : Tryz.prog.underlying t = some (.int .i64))
    (h : DataW.trod enc Tryz.prog w base sp held fuel t [c] = some x) (hx : x.1 = .lit (.int .i64 n)) : c = .int .i64 n := by
  obtain ⟨m, hc, rfl, _⟩ := DataW.trod_int ht h
  simp at hx
  simp at hc
  rw [hc, hx]
theorem lit_str {H : Type} {enc : TypeId × Value → H} {w : World} {base : Nat} {sp : Nat → Bool} {held : Bool} {fuel : Nat} {t : TypeId} {c : Value} {x : DataW H × List MemPlace} {l : Bs} (ht : Tryz.prog.underlying t = some .string)
    (h : DataW.trod enc Tryz.prog w base sp held fuel t [c] = some x) (hx : x.1 = .lit (.string l)) : c = .string ⟨l.toArray⟩ := by
  obtain ⟨m, hc, rfl, _⟩ := DataW.trod_string ht h
  simp at hx
  simp at hc
  rw [hc, ← hx]
/-- A row of the infixes' table. -/
theorem six_of {α : Type} {l : List α} (h : l.length = 6) : ∃ a b c d e f, l = [a, b, c, d, e, f] := by
  match l, h with
  | [a, b, c, d, e, f], _ => exact ⟨a, b, c, d, e, f, rfl⟩
theorem ix_cells {H : Type} {enc : TypeId × Value → H} {w : World} {base : Nat} {sp : Nat → Bool} {held : Bool} {fuel : Nat} {cs : List Value} {x : DataW H × List MemPlace} {o lv f s : Int} {g wt : Bs}
    (h : DataW.trod enc Tryz.prog w base sp held fuel 96 cs = some x) (hx : x.1 = .agg [.lit (.int .i64 o), .lit (.string g), .lit (.string wt), .lit (.int .i64 lv), .lit (.int .i64 f), .lit (.int .i64 s)]) :
    cs = [.int .i64 o, .string ⟨g.toArray⟩, .string ⟨wt.toArray⟩, .int .i64 lv, .int .i64 f, .int .i64 s] := by
  obtain ⟨xs, n, _, rfl, hl, hlen, hf⟩ := DataW.trod_struct Tryz.underlying96 h
  rw [cells_ix] at hl
  have h0 : DataW.trod enc Tryz.prog w base sp held n 23 ((cs.drop 0).take (Tryz.prog.cellsOf 23)) = xs[0]? := hf 0 _ rfl
  have h1 : DataW.trod enc Tryz.prog w base sp held n 9 ((cs.drop 1).take (Tryz.prog.cellsOf 9)) = xs[1]? := hf 1 _ rfl
  have h2 : DataW.trod enc Tryz.prog w base sp held n 9 ((cs.drop 2).take (Tryz.prog.cellsOf 9)) = xs[2]? := hf 2 _ rfl
  have h3 : DataW.trod enc Tryz.prog w base sp held n 3 ((cs.drop 3).take (Tryz.prog.cellsOf 3)) = xs[3]? := hf 3 _ rfl
  have h4 : DataW.trod enc Tryz.prog w base sp held n 3 ((cs.drop 4).take (Tryz.prog.cellsOf 3)) = xs[4]? := hf 4 _ rfl
  have h5 : DataW.trod enc Tryz.prog w base sp held n 3 ((cs.drop 5).take (Tryz.prog.cellsOf 3)) = xs[5]? := hf 5 _ rfl
  rw [cells_op] at h0
  rw [cells_s] at h1 h2
  rw [cells_i] at h3 h4 h5
  obtain ⟨c0, c1, c2, c3, c4, c5, rfl⟩ := six_of hl
  obtain ⟨x0, x1, x2, x3, x4, x5, rfl⟩ := six_of (hlen.trans rfl)
  clear hf hl hlen h
  simp only [List.map_cons, List.map_nil, DataW.agg.injEq, List.cons.injEq, and_true] at hx
  obtain ⟨e0, e1, e2, e3, e4, e5⟩ := hx
  rw [lit_int Tryz.underlying23 h0 e0, lit_str Tryz.underlying9 h1 e1, lit_str Tryz.underlying9 h2 e2, lit_int Tryz.underlying3 h3 e3, lit_int Tryz.underlying3 h4 e4, lit_int Tryz.underlying3 h5 e5]
theorem cut5 (cs : List Value) (h : cs.length = 30) : cs = (cs.drop 0).take 6 ++ ((cs.drop 6).take 6 ++ ((cs.drop 12).take 6 ++ ((cs.drop 18).take 6 ++ (cs.drop 24).take 6))) := by
  apply List.ext_getElem?
  intro i
  simp only [List.getElem?_append, List.getElem?_take, List.getElem?_drop, List.length_take, List.length_drop, h]
  by_cases a : i < 6
  · simp [a]
  by_cases b : i < 12
  · simp [a, show i - 6 < 6 by omega, show 6 + (i - 6) = i by omega]
  by_cases c : i < 18
  · simp [a, show ¬ i - 6 < 6 by omega, show i - 6 - 6 < 6 by omega, show 12 + (i - 6 - 6) = i by omega]
  by_cases d : i < 24
  · simp [a, show ¬ i - 6 < 6 by omega, show ¬ i - 6 - 6 < 6 by omega, show i - 6 - 6 - 6 < 6 by omega, show 18 + (i - 6 - 6 - 6) = i by omega]
  by_cases e : i < 30
  · simp [a, show ¬ i - 6 < 6 by omega, show ¬ i - 6 - 6 < 6 by omega, show ¬ i - 6 - 6 - 6 < 6 by omega, show i - 6 - 6 - 6 - 6 < 6 by omega, show 24 + (i - 6 - 6 - 6 - 6) = i by omega]
  · rw [List.getElem?_eq_none (by omega)]
    simp [a, show ¬ i - 6 < 6 by omega, show ¬ i - 6 - 6 < 6 by omega, show ¬ i - 6 - 6 - 6 < 6 by omega, show ¬ i - 6 - 6 - 6 - 6 < 6 by omega]
theorem inf_cells {H : Type} {enc : TypeId × Value → H} {w : World} {base : Nat} {sp : Nat → Bool} {held : Bool} {fuel : Nat} {cs : List Value} {p : List MemPlace}
    (h : DataW.trod enc Tryz.prog w base sp held fuel 97 cs = some (Rows.laid_forebear_parse_infixes, p)) : cs = infV.toList := by
  obtain ⟨xs, m, _, hx, hl, hlen, hf⟩ := DataW.trod_array Tryz.underlying97 h
  rw [cells_inf] at hl
  have hx1 := congrArg Prod.fst hx
  clear hx h
  simp only [cells_ix] at hf
  have h0 := hf 0 (by omega)
  have h1 := hf 1 (by omega)
  have h2 := hf 2 (by omega)
  have h3 := hf 3 (by omega)
  have h4 := hf 4 (by omega)
  rw [cut5 cs hl]
  match xs, hlen with
  | [x0, x1, x2, x3, x4], _ =>
    simp [Rows.laid_forebear_parse_infixes] at hx1
    obtain ⟨e0, e1, e2, e3, e4⟩ := hx1
    rw [ix_cells h0 e0.symm, ix_cells h1 e1.symm, ix_cells h2 e2.symm, ix_cells h3 e3.symm, ix_cells h4 e4.symm]
    rfl

/-- What the rows' lists give. -/
theorem gl_of_laid {W : World} (h : laidMetH Tryz.prog Rows.parseReadsRow.laid W) : Gl W ∧ Inf W := by
  have h' : laidMet Tryz.prog Rows.parseReadsRow.laid W := h
  obtain ⟨ps, hv, _, _⟩ := h'
  obtain ⟨_, _, _, _, _, _, _, _, _, _, hv, _⟩ := hv
  obtain ⟨_, _, _, _, _, _, _, _, _, _, hv, _⟩ := hv
  obtain ⟨g3, t3, cs3, f3, p3, q3, hg3, ht3, hvar3, hd3, hv, _⟩ := hv
  obtain ⟨_, _, _, _, _, _, _, _, _, _, hv, _⟩ := hv
  obtain ⟨_, _, _, _, _, _, _, _, _, _, hv, _⟩ := hv
  obtain ⟨g6, t6, cs6, f6, p6, q6, hg6, ht6, hvar6, hd6, hv, _⟩ := hv
  obtain ⟨g7, t7, cs7, f7, p7, q7, hg7, ht7, hvar7, hd7, hv, _⟩ := hv
  obtain rfl := Option.some.inj (g_pw.symm.trans hg3)
  obtain rfl := Option.some.inj (ty_pw.symm.trans ht3)
  obtain rfl := Option.some.inj (g_sg.symm.trans hg6)
  obtain rfl := Option.some.inj (ty_sg.symm.trans ht6)
  obtain rfl := Option.some.inj (g_inf.symm.trans hg7)
  obtain rfl := Option.some.inj (ty_inf.symm.trans ht7)
  refine ⟨⟨?_, ?_⟩, ?_⟩
  · have := cells_of_texts (ss := sgs) Tryz.underlying110 Tryz.underlying9 cells_s cells_sg hd6
    rw [hvar6, ← this]
  · have := Lib.cells_of_tab (k := .u64) (zs := Lib.pow10Tab) Tryz.underlying149 Tryz.underlying24 cells_u cells_pw hd3
    unfold Lib.TabIs
    rw [hvar3, ← this]
  · have hcs := inf_cells hd7
    obtain rfl : cs7 = infV := Array.toList_inj.1 hcs
    unfold World.var? at hvar7
    rw [g_inf] at hvar7
    simp only [Option.bind_some] at hvar7
    split at hvar7
    · rename_i a b c he
      cases hvar7
      exact ⟨_, _, he⟩
    · cases hvar7

/-- So many blocks has the settled world. -/
noncomputable def low : Nat := (World.holding Tryz.prog default ⟨#[], #[], []⟩).heap.size
/-- A world for the witness: the settled one, the listed variables holding what their initialisers lay. -/
noncomputable def laidWorld (os : Os) : World :=
  let w0 := World.holding Tryz.prog os ⟨#[.cells #[.string ⟨#[118, 97, 108, 117, 101, 32, 111, 117, 116, 32, 111, 102, 32, 114, 97, 110, 103, 101]⟩] 142, .cells #[.string ⟨#[105, 110, 118, 97, 108, 105, 100, 32, 115, 121, 110, 116, 97, 120]⟩] 142], #[], []⟩
  { w0 with heap := (((((((w0.heap.modify 0 (fun
      | .cells _ t frozen => .cells infV t frozen
      | o => o)).modify 1 (fun
      | .cells _ t frozen => .cells sgV t frozen
      | o => o)).modify 2 (fun
      | .cells _ t frozen => .cells #[(.iface 140 (.pointer (some ⟨low + 1, 0, none⟩)))] t frozen
      | o => o)).modify 3 (fun
      | .cells _ t frozen => .cells #[(.iface 140 (.pointer (some ⟨low, 0, none⟩)))] t frozen
      | o => o)).modify 5 (fun
      | .cells _ t frozen => .cells (Lib.pow10Tab.map fun n : Int => Value.int .u64 n).toArray t frozen
      | o => o)).modify 6 (fun
      | .cells _ t frozen => .cells (([0, 1, 28, 2, 29, 14, 24, 3, 30, 22, 20, 15, 25, 17, 4, 8, 31, 27, 13, 23, 21, 19, 16, 7, 26, 12, 18, 6, 11, 5, 10, 9] : List Nat).map fun n : Nat => Value.int .u8 (n : Int)).toArray t frozen
      | o => o)).modify 7 (fun
      | .cells _ t frozen => .cells (([0, 1, 56, 2, 57, 49, 28, 3, 61, 58, 42, 50, 38, 29, 17, 4, 62, 47, 59, 36, 45, 43, 51, 22, 53, 39, 33, 30, 24, 18, 12, 5, 63, 55, 48, 27, 60, 41, 37, 16, 46, 35, 44, 21, 52, 32, 23, 11, 54, 26, 40, 15, 34, 20, 31, 10, 25, 14, 19, 9, 13, 8, 7, 6] : List Nat).map fun n : Nat => Value.int .u8 (n : Int)).toArray t frozen
      | o => o)) }

theorem laid_one (os : Os) : laidMet Tryz.prog Rows.parseReadsRow.laid ((laidWorld os).forCall (fun _ _ => 0) ⟨#[], #[.string ⟨#[]⟩], []⟩).memory :=
  laidMet_of_run' 8 (by kernel_rfl) (by kernel_rfl)
theorem laid_two (os : Os) : laidMet Tryz.prog Rows.parseReadsRow.laid ((laidWorld os).forCall (fun _ _ => 0) ⟨#[], #[.string ⟨#[]⟩, .string ⟨#[]⟩], []⟩).memory :=
  laidMet_of_run' 8 (by kernel_rfl) (by kernel_rfl)
theorem laid_ints (os : Os) : laidMet Tryz.prog Rows.parseReadsRow.laid ((laidWorld os).forCall (fun _ _ => 0) ⟨#[], #[.int .i64 0, .int .i64 0], []⟩).memory :=
  laidMet_of_run' 8 (by kernel_rfl) (by kernel_rfl)

end Go.Proofs.YtijchmcajhdcoaaGreatDoor
