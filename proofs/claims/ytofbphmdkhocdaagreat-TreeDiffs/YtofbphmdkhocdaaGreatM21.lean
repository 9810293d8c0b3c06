/-
  Several texts, laid together.
-/
import Derived.Shelf.SlSortCmp.NoneTotal
import Derived.Test.YtofbphmdkhocdaaGreatM06
import Derived.Test.YtofbphmdkhocdaaGreatYFormsMg

/-
  slices.SortFunc at entries, laid at this program. No condition.
-/
namespace Go.Proofs.YtofbphmdkhocdaaGreat
open Go.RowKit Go.Shelf

def laySortE_ren : Go.Shelf.Ren := ⟨fun | 6 => 41 | 15 => 61 | 14 => 60 | 28 => 83 | 29 => 84 | 20 => 75 | 21 => 76 | 22 => 77 | 23 => 78 | 24 => 79 | 25 => 80 | 26 => 81 | 27 => 82 | 46 => 98 | 47 => 99 | 48 => 100 | 49 => 101 | 50 => 102 | 57 => 112 | n => n, fun | 22 => 22 | 24 => 52 | 25 => 93 | 3 => 3 | 39 => 111 | 0 => 0 | 53 => 129 | 55 => 49 | 4 => 4 | 46 => 122 | 45 => 121 | 50 => 126 | 5 => 5 | 9 => 9 | 66 => 137 | 70 => 141 | 76 => 148 | 77 => 149 | n => n, fun | n => n⟩
theorem laySortE : Go.Proofs.SlLaysF0.n6 Tryz.prog laySortE_ren := {
  mixed := by kernel_rfl
  f6 := ⟨Tryz.f41.name, by decide, Tryz.func41.trans (congrArg some (by kernel_rfl))⟩
  f14 := ⟨Tryz.f60.name, by decide, Tryz.func60.trans (congrArg some (by kernel_rfl))⟩
  f15 := Tryz.func61.trans (congrArg some (by kernel_rfl))
  f20 := ⟨Tryz.f75.name, by decide, Tryz.func75.trans (congrArg some (by kernel_rfl))⟩
  f21 := ⟨Tryz.f76.name, by decide, Tryz.func76.trans (congrArg some (by kernel_rfl))⟩
  f22 := ⟨Tryz.f77.name, by decide, Tryz.func77.trans (congrArg some (by kernel_rfl))⟩
  f23 := ⟨Tryz.f78.name, by decide, Tryz.func78.trans (congrArg some (by kernel_rfl))⟩
  f24 := ⟨Tryz.f79.name, by decide, Tryz.func79.trans (congrArg some (by kernel_rfl))⟩
  f25 := ⟨Tryz.f80.name, by decide, Tryz.func80.trans (congrArg some (by kernel_rfl))⟩
  f26 := ⟨Tryz.f81.name, by decide, Tryz.func81.trans (congrArg some (by kernel_rfl))⟩
  f27 := ⟨Tryz.f82.name, by decide, Tryz.func82.trans (congrArg some (by kernel_rfl))⟩
  f28 := Tryz.func83.trans (congrArg some (by kernel_rfl))
  f29 := Tryz.func84.trans (congrArg some (by kernel_rfl))
  f46 := ⟨Tryz.f98.name, by decide, Tryz.func98.trans (congrArg some (by kernel_rfl))⟩
  f47 := Tryz.func99.trans (congrArg some (by kernel_rfl))
  f48 := Tryz.func100.trans (congrArg some (by kernel_rfl))
  f49 := ⟨Tryz.f101.name, by decide, Tryz.func101.trans (congrArg some (by kernel_rfl))⟩
  f50 := ⟨Tryz.f102.name, by decide, Tryz.func102.trans (congrArg some (by kernel_rfl))⟩
  f57 := ⟨Tryz.f112.name, by decide, Tryz.func112.trans (congrArg some (by kernel_rfl))⟩
  t0 := Tryz.underlying0
  a0 := Tryz.isAgg0
  z0 := Tryz.sizeOf0
  v0 := Tryz.zeroValue0
  t3 := Tryz.underlying3
  a3 := Tryz.isAgg3
  z3 := Tryz.sizeOf3
  v3 := Tryz.zeroValue3
  t4 := Tryz.underlying4
  a4 := Tryz.isAgg4
  z4 := Tryz.sizeOf4
  v4 := Tryz.zeroValue4
  t5 := Tryz.underlying5
  a5 := Tryz.isAgg5
  z5 := Tryz.sizeOf5
  v5 := Tryz.zeroValue5
  t9 := Tryz.underlying9
  a9 := Tryz.isAgg9
  z9 := Tryz.sizeOf9
  v9 := Tryz.zeroValue9
  t22 := Tryz.underlying22
  a22 := Tryz.isAgg22
  z22 := Tryz.sizeOf22
  v22 := Tryz.zeroValue22
  t25 := Tryz.underlying93
  a25 := Tryz.isAgg93
  z25 := Tryz.sizeOf93
  v25 := Tryz.zeroValue93
  t39 := Tryz.underlying111
  a39 := Tryz.isAgg111
  z39 := Tryz.sizeOf111
  v39 := Tryz.zeroValue111
  t45 := Tryz.underlying121
  a45 := Tryz.isAgg121
  z45 := Tryz.sizeOf121
  v45 := Tryz.zeroValue121
  t46 := Tryz.underlying122
  a46 := Tryz.isAgg122
  z46 := Tryz.sizeOf122
  v46 := Tryz.zeroValue122
  t50 := Tryz.underlying126
  a50 := Tryz.isAgg126
  z50 := Tryz.sizeOf126
  v50 := Tryz.zeroValue126
  t53 := Tryz.underlying129
  a53 := Tryz.isAgg129
  z53 := Tryz.sizeOf129
  v53 := Tryz.zeroValue129
  t55 := Tryz.underlying49
  a55 := Tryz.isAgg49
  z55 := Tryz.sizeOf49
  v55 := Tryz.zeroValue49
  t66 := Tryz.underlying137
  a66 := Tryz.isAgg137
  z66 := Tryz.sizeOf137
  v66 := Tryz.zeroValue137
  t70 := Tryz.underlying141
  a70 := Tryz.isAgg141
  z70 := Tryz.sizeOf141
  v70 := Tryz.zeroValue141
  t76 := Tryz.underlying148
  a76 := Tryz.isAgg148
  z76 := Tryz.sizeOf148
  v76 := Tryz.zeroValue148
  t77 := Tryz.underlying149
  a77 := Tryz.isAgg149
  z77 := Tryz.sizeOf149
  v77 := Tryz.zeroValue149 }
end Go.Proofs.YtofbphmdkhocdaaGreat

/-
  cmp.Compare at texts, and slices.SortFunc of entries by their paths, each by a contract: a row of the call's own, of at most 1000000 entries.
-/
namespace Go.Proofs.YtofbphmdkhocdaaGreat
open Go.RowKit Go.Shelf Go.Sort

set_option maxHeartbeats 400000 in
set_option maxRecDepth 100000 in
theorem nan_any (s : ByteArray) (w : World) : Calls Tryz.prog 62 #[.string s] w fun e w' => e = .returned (.bool false) ∧ w' = w := by
  go_enter Tryz.func62, Tryz.ntmps62
  go_wp2
  go_ret
  exact ⟨by simp, rfl⟩

/-- How two paths stand to each other. -/
def cmpB (x y : Bs) : Int := if x < y then -1 else if y < x then 1 else 0

set_option maxHeartbeats 800000 in
set_option maxRecDepth 100000 in
theorem compare_any (x y : Bs) (w : World) : Calls Tryz.prog 43 #[tx x, tx y] w fun e w' => e = .returned (.int .i64 (cmpB x y)) ∧ w' = w := by
  have h1 := nan_any ⟨x.toArray⟩
  have h2 := nan_any ⟨y.toArray⟩
  obtain ⟨r, hr⟩ : ∃ r, cmpB x y = r := ⟨_, rfl⟩
  have R : Hid (cmpB x y = r) := hr
  rw [hr]
  clear hr
  cases l1 : Op.bytesLess x y with
  | true =>
    have q : x < y := by have := less_eq x y; rw [l1] at this; simpa using this.symm
    have R2 : Hid (r = -1) := by show _ = _; rw [← R.out, cmpB, if_pos q]
    clear R q
    go_enter Tryz.func43, Tryz.ntmps43
    go_wp2_with fail
    refine (h1 _).mono ?_
    rintro e w1 ⟨rfl, rfl⟩
    go_wp2_with fail
    refine (h2 _).mono ?_
    rintro e w1 ⟨rfl, rfl⟩
    go_wp2
    go_ret
    exact ⟨by rw [R2.out]; rfl, rfl⟩
  | false =>
    have q : ¬ x < y := by have := less_eq x y; rw [l1] at this; simpa using this.symm
    cases l2 : Op.bytesLess y x with
    | true =>
      have q2 : y < x := by have := less_eq y x; rw [l2] at this; simpa using this.symm
      have R2 : Hid (r = 1) := by show _ = _; rw [← R.out, cmpB, if_neg q, if_pos q2]
      have hxy : (x == y) = false := by
        rw [beq_eq_false_iff_ne]
        intro e
        rw [e] at q2
        exact bl_irrefl _ q2
      clear R q q2
      go_enter Tryz.func43, Tryz.ntmps43
      go_wp2_with fail
      refine (h1 _).mono ?_
      rintro e w1 ⟨rfl, rfl⟩
      go_wp2_with fail
      refine (h2 _).mono ?_
      rintro e w1 ⟨rfl, rfl⟩
      go_wp2
      go_ret
      exact ⟨by rw [R2.out]; rfl, rfl⟩
    | false =>
      have q2 : ¬ y < x := by have := less_eq y x; rw [l2] at this; simpa using this.symm
      have R2 : Hid (r = 0) := by show _ = _; rw [← R.out, cmpB, if_neg q, if_neg q2]
      have hxy : (x == y) = true := by
        rw [beq_iff_eq]
        rcases bl_tri x y with k | k | k
        · exact absurd k q
        · exact k
        · exact absurd k q2
      clear R q q2
      go_enter Tryz.func43, Tryz.ntmps43
      go_wp2_with fail
      refine (h1 _).mono ?_
      rintro e w1 ⟨rfl, rfl⟩
      go_wp2_with fail
      refine (h2 _).mono ?_
      rintro e w1 ⟨rfl, rfl⟩
      go_wp2
      go_ret
      exact ⟨by rw [R2.out]; rfl, rfl⟩

def cmpE (x y : En) : Int := cmpB x.1 y.1

set_option maxHeartbeats 800000 in
set_option maxRecDepth 100000 in
theorem closure29 (x y : En) (W : World) : Calls Tryz.prog 42 #[.agg (encE.cells x).toArray, .agg (encE.cells y).toArray] W fun e w' => e = .returned (.int .i64 (cmpE x y)) ∧ ∃ q os', w' = grow (W.drewN q) os' := by
  obtain ⟨p, u⟩ := x
  obtain ⟨p', u'⟩ := y
  have hcon := fun W' => compare_any p p' W'
  show Calls Tryz.prog 42 #[.agg #[tx p, .int .u64 (u.toNat : Int)], .agg #[tx p', .int .u64 (u'.toNat : Int)]] W fun e w' => e = .returned (.int .i64 (cmpB p p')) ∧ ∃ q os', w' = grow (W.drewN q) os'
  generalize cmpB p p' = r at hcon ⊢
  generalize (u.toNat : Int) = z
  generalize (u'.toNat : Int) = z'
  go_enter Tryz.func42, Tryz.ntmps42
  go_wp2_with (go_at_call 43; refine (hcon _).mono ?_; rintro e w' ⟨rfl, rfl⟩)
  go_ret
  exact ⟨rfl, 0, _, by rw [alloc_eq_grow, alloc_eq_grow, grow_grow]; rfl⟩

theorem ltE (x y : En) : ltOf cmpE x y = decide (x.1 < y.1) := by
  unfold ltOf cmpE cmpB
  by_cases h1 : x.1 < y.1
  · simp [h1]
  · by_cases h2 : y.1 < x.1 <;> simp [h1, h2]

theorem swoE : SWO (ltOf cmpE) where
  irrefl x := by rw [ltE]; simp [bl_irrefl]
  trans x y z h1 h2 := by
    rw [ltE] at *
    simp only [decide_eq_true_eq] at *
    exact bl_trans h1 h2
  ntrans x y z h1 h2 := by
    rw [ltE] at *
    simp only [decide_eq_false_iff_not] at *
    intro h
    rcases bl_tri y.1 z.1 with k | k | k
    · exact h2 k
    · rw [← k] at h; exact h1 h
    · exact h1 (bl_trans h k)

instance : Inhabited En := ⟨([], 0)⟩

theorem enters29 : ∀ args w, (callFunc 42 args).run Tryz.prog w = .ok (.enter 42 args) w := enters_of Tryz.func42 (by kernel_rfl) rfl

theorem flat_all (es : List En) : flatK encE.cells 2 es.toArray = (encE.all es).toArray := by
  refine ext_get! (by rw [size_flatK]; simp [encE.all_length]; rfl) (fun t ht => ?_)
  have ht' : t < es.toArray.size * 2 := by simpa using ht
  rw [get_flatK _ _ _ t ht']
  have hi : t / 2 < es.length := by simp at ht'; omega
  have hj : t % 2 < 2 := Nat.mod_lt _ (by decide)
  have h1 := encE.all_get es (t / 2) (t % 2) es[t / 2] (List.getElem?_eq_getElem hi) hj
  have e : t / 2 * encE.size + t % 2 = t := by show t / 2 * 2 + t % 2 = t; omega
  rw [e] at h1
  have h2 : es.toArray[t / 2]! = es[t / 2] := by rw [getElem!_pos es.toArray _ (by simpa using hi)]; simp
  have hl : (encE.cells es[t / 2]).length = 2 := rfl
  rw [h2, getElem!_pos (encE.cells es[t / 2]) _ (by rw [hl]; exact hj)]
  rw [List.getElem?_eq_getElem (l := encE.cells es[t / 2]) (by rw [hl]; exact hj)] at h1
  obtain ⟨hlt, h3⟩ := List.getElem?_eq_some_iff.1 h1
  rw [getElem!_pos _ _ (by simpa using hlt)]
  simpa using h3.symm

theorem holdsE {w : World} {base g n cap : Nat} {es : List En} (h : OwnG encE 52 w base (.slice (some ⟨g, 0, none⟩) n cap) es) : HoldsK encE.cells 2 w g 0 es.toArray := by
  unfold HoldsK
  rw [flat_all]
  have hn : es.length = n := own_len h
  subst hn
  have h' : w.ownsRow base 52 2 (.slice (some ⟨g, 0, none⟩) es.length cap) es.length (encE.all es) := h
  intro j hj
  have hj' : j < (encE.all es).length := by simpa using hj
  rw [Nat.zero_add]
  refine ⟨?_, h'.frozenAt _⟩
  rw [h'.cellAt _ (by rw [← h'.1]; exact hj'), List.getElem?_eq_getElem hj']
  congr 1
  rw [getElem!_pos _ _ (by simpa using hj')]
  simp

/-- Behind the sort the same slice owns the sorted list. -/
theorem ownsE_sorted {w : World} {base g n cap q : Nat} {es ts : List En} {os : Array Obj} (h : OwnG encE 52 w base (.slice (some ⟨g, 0, none⟩) n cap) es) (hl : ts.length = es.length) :
    OwnG encE 52 (sortWorldK encE.cells 2 w g 0 q ts.toArray os) base (.slice (some ⟨g, 0, none⟩) n cap) ts ∧ w.grownBy (sortWorldK encE.cells 2 w g 0 q ts.toArray os) (some g) := by
  have hn : es.length = n := own_len h
  subst hn
  have h' : w.ownsRow base 52 2 (.slice (some ⟨g, 0, none⟩) es.length cap) es.length (encE.all es) := h
  rcases h'.2 with ⟨h0, _⟩ | ⟨g', cap', cur, e1, h1, h2, h3, h4, h5, h6⟩
  · cases h0
  cases e1
  have hg : g < w.heap.size := (Array.getElem?_eq_some_iff.1 h2).1
  unfold sortWorldK putRowK
  rw [flat_all]
  have hh : (grow (putRow id (Sort.ahead w q) g 0 (encE.all ts).toArray) os).heap[g]? = some (.cells (putCells id 0 (encE.all ts).toArray cur) 52 (0, 0)) := by
    rw [heap_grow_old _ _ (by simpa using hg)]
    simp [putRow, mapBlock, Sort.ahead, Array.getElem?_modify, h2, onCells]
  have hal : (encE.all ts).length = es.length * 2 := by rw [encE.all_length, hl]; rfl
  refine ⟨?_, ⟨rfl, rfl, rfl, by simp, fun k hk hne => ?_⟩⟩
  · unfold OwnG
    rw [hl]
    refine ⟨hal, .inr ⟨g, cap, _, rfl, h1, hh, h3, h4, by simp [putCells]; exact h5, ?_⟩⟩
    apply List.ext_getElem?
    intro j
    have hc2 : es.length * 2 ≤ cur.size := by rw [h5]; exact Nat.mul_le_mul_right 2 h3
    by_cases hj : j < es.length * 2
    · show (List.take (es.length * 2) (putCells id 0 (encE.all ts).toArray cur).toList)[j]? = _
      rw [List.getElem?_take_of_lt hj, Array.getElem?_toList]
      have hj2 : j < (encE.all ts).length := by omega
      simp [putCells, hj2, show j < cur.size by omega]
    · rw [List.getElem?_take_eq_none (by show es.length * 2 ≤ j; omega), List.getElem?_eq_none (by omega)]
  · rw [heap_grow_old _ _ (by simpa using hk)]
    have : g ≠ k := fun e => hne (by rw [e])
    simp [putRow, mapBlock, Sort.ahead, Array.getElem?_modify, this]

/-- slices.SortFunc of a row of entries: the same entries, by their paths. -/
theorem sortE_row {w : World} {base g n cap : Nat} {es : List En} (h : OwnG encE 52 w base (.slice (some ⟨g, 0, none⟩) n cap) es) (hn : n ≤ 1000000) :
    Calls Tryz.prog 41 #[.slice (some ⟨g, 0, none⟩) n cap, .func (.func 42) #[] #[]] w fun e w' => e = .returned (.tuple #[]) ∧ ∃ ts : List En, ts.Perm es ∧ ts.Pairwise (fun a b => ¬ b.1 < a.1) ∧ OwnG encE 52 w' base (.slice (some ⟨g, 0, none⟩) n cap) ts ∧ w.grownBy w' (some g) := by
  have hl : es.length = n := own_len h
  have hcon := AnyQ.slices_SortFunc laySortE 2 Tryz.isAgg52 Tryz.sizeOf52 encE.cells (fun _ => rfl) encE.one cmpE swoE 42 #[] g 0 cap es.toArray w enters29 (fun _ _ _ _ x y => closure29 x y _) (holdsE h) (h.lt g rfl).2 (by simp; omega)
  have hsz : es.toArray.size = n := by simpa using hl
  rw [hsz] at hcon
  refine (show Calls Tryz.prog 41 _ _ _ from hcon).mono ?_
  rintro e w' ⟨rfl, d', q, os, hp, hs, rfl⟩
  obtain ⟨ts, rfl⟩ : ∃ ts : List En, d' = ts.toArray := ⟨d'.toList, by simp⟩
  have hts : ts.length = es.length := by simpa using hp.1
  have hown := ownsE_sorted (q := q) (os := os) h hts
  refine ⟨rfl, ts, ?_, ?_, hown.1, hown.2⟩
  · have := hp.2.2
    rw [Array.toList_extract, Array.toList_extract] at this
    have e1 : ts.take n = ts := List.take_of_length_le (by omega)
    have e2 : es.take n = es := List.take_of_length_le (by omega)
    simpa [hts, hl, List.extract_eq_take_drop, e1, e2] using this
  · rw [List.pairwise_iff_getElem]
    intro i j hi hj hij
    have := hs i j (Nat.zero_le _) hij (by omega)
    rw [ltE, getElem!_pos ts.toArray j (by simpa using hj), getElem!_pos ts.toArray i (by simpa using hi)] at this
    simpa using this

end Go.Proofs.YtofbphmdkhocdaaGreat
