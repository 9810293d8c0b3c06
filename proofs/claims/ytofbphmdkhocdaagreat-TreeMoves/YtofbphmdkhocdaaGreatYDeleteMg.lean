/-
  slices.Clone, IndexFunc and DeleteFunc as tree.Apply calls them, each by a contract: of at most 200000 entries, whose paths are no longer than any text can be.
-/
import Derived.Test.YtofbphmdkhocdaaGreatYNewsMg
namespace Go.Proofs.YtofbphmdkhocdaaGreat
open Go.RowKit

/-- Is the path of an entry among the changed ones? -/
def pdel (cs : List Chg) (e : En) : Bool := cs.any (fun c => c.1 == e.1)

theorem ownE_zero (w : World) : OwnG encE 52 (w.alloc (.cells #[] 52)) w.heap.size (.slice (some ⟨w.heap.size, 0, none⟩) 0 0) [] :=
  World.ownsRow_made w #[] 0 (Nat.le_refl _) (Nat.zero_le _) rfl

set_option maxHeartbeats 400000 in
set_option maxRecDepth 100000 in
theorem eclone_none {n c : Nat} (w : World) :
    Calls Tryz.prog 39 #[.slice none n c] w fun e w' => e = .returned (.slice none 0 0) ∧ w' = w := by
  have q : ∀ (w : World) (a : Option Addr) (n c n' c' : Nat), (binOp .eql 22 (.slice a n c) (.slice none n' c')).run Tryz.prog w = .ok (.bool a.isNone) w := fun w a n c n' c' => Lib.run_eql_slice_nil w _ _ a n c n' c' Tryz.underlying22
  go_enter Tryz.func39, Tryz.ntmps39
  go_wp2
  go_ret
  exact ⟨rfl, rfl⟩

set_option maxHeartbeats 400000 in
set_option maxRecDepth 100000 in
theorem eclone_some {p : Addr} {n c : Nat} {xs : List En} (w : World) (ha : RdG encE w (some p) xs) (hl : xs.length = n) (hn : n ≤ 1000000) :
    Calls Tryz.prog 39 #[.slice (some p) n c] w fun e w' => ∃ v', e = .returned v' ∧ OwnG encE 52 w' w.heap.size v' xs ∧ Below w.heap.size w w' := by
  have H : Hid (RdG encE w (some p) xs ∧ xs.length = n) := ⟨ha, hl⟩
  clear ha hl
  have q : ∀ (w : World) (a : Option Addr) (n c n' c' : Nat), (binOp .eql 22 (.slice a n c) (.slice none n' c')).run Tryz.prog w = .ok (.bool a.isNone) w := fun w a n c n' c' => Lib.run_eql_slice_nil w _ _ a n c n' c' Tryz.underlying22
  go_enter Tryz.func39, Tryz.ntmps39
  go_wp2_with (at_builtin; (refine appG_list encE 52 22 24 _ rfl Tryz.info52 Tryz.underlying22 rfl (.tmp 5) (.tmp 6) rfl w.heap.size _ [] xs (some p) n c rfl (ownE_zero w) rfl (H.out.1.below (bz1 w _)) H.out.2 (by simp; omega) (by simp [maxLen]; omega) (by simp) ?_; intro v2 w2 hown2 hbel2 _ _))
  go_wp2
  go_ret
  rw [List.nil_append] at hown2
  exact ⟨v2, rfl, hown2, (bz1 w _).trans hbel2⟩

/-- slices.Clone of entries: the same entries in a new row. -/
theorem eclone_any {ao : Option Addr} {n c : Nat} {xs : List En} (w : World) (ha : RdG encE w ao xs) (hl : xs.length = n) (hn : n ≤ 1000000) :
    Calls Tryz.prog 39 #[.slice ao n c] w fun e w' => ∃ v', e = .returned v' ∧ OwnG encE 52 w' w.heap.size v' xs ∧ Below w.heap.size w w' := by
  cases ao with
  | none =>
    have h0 : xs = [] := by
      rcases Nat.eq_zero_or_pos xs.length with q | q
      · exact List.eq_nil_of_length_eq_zero q
      · obtain ⟨b, off, e, _⟩ := ha q
        cases e
    subst h0
    refine (eclone_none w).mono ?_
    rintro e w' ⟨rfl, rfl⟩
    exact ⟨_, rfl, OwnG.nil _ _ _ _, Below.refl _ _⟩
  | some p => exact eclone_some w ha hl hn

/-- The variable that a closure holds, and the map that lies in it. -/
structure Held (w : World) (B M : Nat) (cs : List Chg) : Prop where
  cell : w.cell? ⟨B, 0, none⟩ = some (.map (some M))
  map : ∃ q, MapG kS w M (newsF cs) q

theorem Held.lt {w : World} {B M : Nat} {cs : List Chg} (h : Held w B M cs) : B < w.heap.size ∧ M < w.heap.size := by
  obtain ⟨q, hm⟩ := h.map
  exact ⟨World.block_lt_of_cell? w _ h.cell, hm.lt⟩
theorem Held.turned {S : Nat → Prop} {w w' : World} {B M : Nat} {cs : List Chg} (h : Held w B M cs) (ht : Turned S w w') (hB : ¬ S B) (hM : ¬ S M) : Held w' B M cs := by
  obtain ⟨q, hm⟩ := h.map
  exact ⟨(ht.cell (p := ⟨B, 0, none⟩) h.lt.1 hB).trans h.cell, q, hm.turned ht hM⟩
theorem Held.below {w w' : World} {B M : Nat} {cs : List Chg} (h : Held w B M cs) (hb : Below w.heap.size w w') : Held w' B M cs := h.turned (S := fun _ => False) (Turned.ofBelow hb) (fun q => q) (fun q => q)

set_option maxHeartbeats 800000 in
set_option maxRecDepth 100000 in
theorem pdel_lit {cs : List Chg} (B M : Nat) (p : Bs) (z : UInt64) (w : World) (h : Held w B M cs) (hp : p.length ≤ 9223372036854775807) (f : Bool) (hf : pdel cs (p, z) = f) :
    Calls Tryz.prog 40 #[.agg #[tx p, .int .u64 (z.toNat : Int)], .pointer (some ⟨B, 0, none⟩)] w fun e w' => e = .returned (.bool f) ∧ Below w.heap.size w w' := by
  have hb := h.lt.1
  have h1 := h.below (bz1 w (.cells #[tx p, .int .u64 (z.toNat : Int)] 52))
  obtain ⟨q, hm⟩ := h1.map
  have hlk := hm.look Tryz.underlying85 (zeroI _) p (show p.length ≤ maxLen by simp only [maxLen]; exact hp)
  rw [newsF_some] at hlk
  have hf' : cs.any (fun c => c.1 == p) = f := hf
  rw [hf'] at hlk
  obtain ⟨nv, hnv⟩ : ∃ nv, (newsF cs p).getD (.int .u64 0) = nv := ⟨_, rfl⟩
  rw [hnv] at hlk
  have hlk' : (Instr.lookup 85 (.map (some M)) (tx p) true).run Tryz.prog (w.alloc (.cells #[tx p, .int .u64 (z.toNat : Int)] 52)) = .ok (.tuple #[nv, .bool f]) (w.alloc (.cells #[tx p, .int .u64 (z.toNat : Int)] 52)) := hlk
  have cB := h1.cell
  have ne : B ≠ w.heap.size := by omega
  have cB0 := h.cell
  clear hf hf' hnv hlk hm h1 h
  go_enter Tryz.func40, Tryz.ntmps40
  go_wp2
  go_ret
  exact ⟨rfl, bz1 _ _⟩

theorem enters27 : ∀ args w, (callFunc 40 args).run Tryz.prog w = .ok (.enter 40 args) w := enters_of Tryz.func40 (by kernel_rfl) rfl

set_option maxHeartbeats 1600000 in
set_option maxRecDepth 100000 in
/-- slices.IndexFunc as DeleteFunc calls it. -/
theorem idx_del {ao : Option Addr} {c n B M : Nat} {es : List En} {cs : List Chg} (w : World) (hB : Held w B M cs) (ha : RdG encE w ao es) (hl : es.length = n) (hn : n ≤ 1000000) (hf : Fine es) :
    Calls Tryz.prog 59 #[.slice ao n c, .func (.func 40) #[] #[.pointer (some ⟨B, 0, none⟩)]] w fun e w' => ∃ r : Int, e = .returned (.int .i64 r) ∧ Hid ((r = -1 ∧ es.any (pdel cs) = false) ∨ ∃ i : Nat, r = i ∧ i < n ∧ (es.take i).any (pdel cs) = false ∧ ∃ e, es[i]? = some e ∧ pdel cs e = true) ∧ Below w.heap.size w w' := by
  have H : Hid (RdG encE w ao es ∧ es.length = n ∧ Held w B M cs ∧ Fine es) := ⟨ha, hl, hB, hf⟩
  clear ha hl hB hf
  have eg := enters27
  go_enter Tryz.func59, Tryz.ntmps59
  go_wp2_with fail
  go_loopg [5, 8] n (fun k _ v wr => ∃ (i : Nat), v = .int .i64 i ∧ i + k = n ∧ Hid ((es.take i).any (pdel cs) = false) ∧ Hid (Below w.heap.size w wr))
  case atStart => exact ⟨0, rfl, by omega, rfl, Below.refl _ _⟩
  case round =>
    obtain ⟨i, rfl, hi, HT, hb⟩ := hrel
    by_cases hin : i < n
    · have id : (i : Int) < (n : Int) := by omega
      obtain ⟨e, he⟩ := get_some H.out.2.1 hin
      obtain ⟨b, off, rfl, hlt⟩ := H.out.1.some_of he
      obtain ⟨_, c0, c1⟩ := (H.out.1.below hb.out).ents he
      have hpl := H.out.2.2.2 e (List.mem_of_getElem? he)
      obtain ⟨d, z⟩ := e
      simp only at c0 c1 hpl
      have HE : Hid (es[i]? = some (d, z)) := he
      have hcl := fun f hf => pdel_lit (cs := cs) B M d z wr (H.out.2.2.1.below hb.out) hpl f hf
      clear he
      cases hxy : pdel cs (d, z) with
      | true =>
        have hcall := hcl true hxy
        clear hcl
        go_wp2_with (go_at_fn 40; refine hcall.mono ?_; rintro e w' ⟨rfl, hb'⟩)
        go_ret
        exact ⟨i, rfl, .inr ⟨i, rfl, hin, HT.out, _, HE.out, hxy⟩, hb.out.trans (hb'.mono hb.out.size)⟩
      | false =>
        have hcall := hcl false hxy
        clear hcl
        go_wp2_with (go_at_fn 40; refine hcall.mono ?_; rintro e w' ⟨rfl, hb'⟩)
        go_roundg (gk - 1)
        case measure => omega
        case rel => exact ⟨i + 1, by go_num, by omega, anyE_step (es := es) (p := pdel cs) HE.out HT.out hxy, hb.out.trans (hb'.mono hb.out.size)⟩
    · obtain rfl : i = n := by omega
      have e := HT.out
      rw [List.take_of_length_le (by rw [H.out.2.1]; omega)] at e
      have E : Hid (es.any (pdel cs) = false) := e
      clear e
      go_wp2
      go_ret
      exact ⟨-1, rfl, .inl ⟨rfl, E.out⟩, hb.out⟩

/-- The first i of a row of the call's own. -/
theorem own_take {w : World} {base g n cap i : Nat} {e : TypeId} {size : Nat} {xs : List Value} (h : w.ownsRow base e size (.slice (some ⟨g, 0, none⟩) n cap) n xs) (hi : i ≤ n) : w.ownsRow base e size (.slice (some ⟨g, 0, none⟩) i cap) i (xs.take (i * size)) := by
  have hle : i * size ≤ n * size := Nat.mul_le_mul_right size hi
  refine ⟨by rw [List.length_take, h.1]; omega, ?_⟩
  rcases h.2 with ⟨h0, _⟩ | ⟨g', cap', cur, e1, h1, h2, h3, h4, h5, h6⟩
  · cases h0
  · cases e1
    refine .inr ⟨g, cap, cur, rfl, h1, h2, by omega, h4, h5, ?_⟩
    rw [← h6, List.take_take, Nat.min_eq_left hle]

/-- Cells stored anew behind the first o of a row. -/
theorem own_cells_set {base g n cap : Nat} {e : TypeId} {size : Nat} : ∀ (vs : List Value) (o : Nat) (w : World) (xs : List Value), w.ownsRow base e size (.slice (some ⟨g, 0, none⟩) n cap) n xs →
    ∃ ys, ys.take o = xs.take o ∧ (w.setCells g o vs).ownsRow base e size (.slice (some ⟨g, 0, none⟩) n cap) n ys
  | [], _, _, xs, h => ⟨xs, rfl, h⟩
  | v :: r, o, w, xs, h => by
    obtain ⟨ys, h1, h2⟩ := own_cells_set r (o + 1) _ _ (h.stored o v).1
    refine ⟨ys, ?_, h2⟩
    have : (ys.take (o + 1)).take o = ((xs.set o v).take (o + 1)).take o := by rw [h1]
    rw [List.take_take, List.take_take, Nat.min_eq_left (by omega)] at this
    rw [this, List.take_set_of_le (Nat.le_refl _)]

theorem turned_cells (g : Nat) : ∀ (vs : List Value) (o : Nat) (w : World), Turned (fun k => k = g) w (w.setCells g o vs)
  | [], _, w => Turned.refl _ w
  | v :: r, o, w => by
    have h1 : Turned (fun k => k = g) w (w.setCell ⟨g, o, none⟩ v) := (Turned.refl (fun k => k = g) w).setCell (p := ⟨g, o, none⟩) (.inl rfl) v
    exact h1.trans (turned_cells g r (o + 1) _) (fun _ _ q => q)

theorem ent_put {w : World} {base g n cap : Nat} {es : List En} (h : OwnG encE 52 w base (.slice (some ⟨g, 0, none⟩) n cap) es) {i : Nat} (hi : i < es.length) (e : En) :
    OwnG encE 52 ((w.setCell ⟨g, i * 2, none⟩ (tx e.1)).setCell ⟨g, i * 2 + 1, none⟩ (.int .u64 (e.2.toNat : Int))) base (.slice (some ⟨g, 0, none⟩) n cap) (es.set i e) := by
  have h1 := OwnG.put h (i := i) (j := 0) (List.getElem?_eq_getElem hi) (by decide) (e.1, es[i].2) (tx e.1) rfl
  have h2 := OwnG.put h1 (i := i) (j := 1) (x := (e.1, es[i].2)) (by rw [List.getElem?_set_self hi]) (by decide) e (.int .u64 (e.2.toNat : Int)) rfl
  rw [List.set_set] at h2
  exact h2

/-- Where the striking out stands: i are kept of the first j. -/
structure KI (cs : List Chg) (es L : List En) (i j : Nat) : Prop where
  len : L.length = es.length
  low : L.take i = (es.take j).filter (fun e => !pdel cs e)
  high : L.drop j = es.drop j
  lt : i < j
  le : j ≤ es.length

theorem KI.start {cs : List Chg} {es : List En} {k : Nat} {e : En} (h : (es.take k).any (pdel cs) = false) (he : es[k]? = some e) (hp : pdel cs e = true) : KI cs es es k (k + 1) := by
  have hk : k < es.length := (List.getElem?_eq_some_iff.1 he).1
  refine ⟨rfl, ?_, rfl, by omega, by omega⟩
  rw [takeE_snoc he, List.filter_append]
  have h1 : (es.take k).filter (fun e => !pdel cs e) = es.take k := by
    rw [List.filter_eq_self]
    intro x hx
    rw [List.any_eq_false] at h
    have := h x hx
    simpa using this
  rw [h1]
  simp [hp]
theorem KI.get {cs : List Chg} {es L : List En} {i j : Nat} (h : KI cs es L i j) : L[j]? = es[j]? := by
  have h1 : (L.drop j)[0]? = (es.drop j)[0]? := by rw [h.high]
  simpa using h1
theorem KI.strike {cs : List Chg} {es L : List En} {i j : Nat} {e : En} (h : KI cs es L i j) (he : es[j]? = some e) (hp : pdel cs e = true) : KI cs es L i (j + 1) := by
  have hk : j < es.length := (List.getElem?_eq_some_iff.1 he).1
  refine ⟨h.len, ?_, ?_, by have := h.lt; omega, by omega⟩
  · rw [takeE_snoc he, List.filter_append, h.low]
    simp [hp]
  · have := congrArg (List.drop 1) h.high
    rwa [List.drop_drop, List.drop_drop] at this
theorem KI.keep {cs : List Chg} {es L : List En} {i j : Nat} {e : En} (h : KI cs es L i j) (he : es[j]? = some e) (hp : pdel cs e = false) : KI cs es (L.set i e) (i + 1) (j + 1) := by
  have hk : j < es.length := (List.getElem?_eq_some_iff.1 he).1
  have hlt := h.lt
  have hl := h.len
  refine ⟨by rw [List.length_set]; exact hl, ?_, ?_, by omega, by omega⟩
  · rw [takeE_snoc he, List.filter_append, ← h.low]
    have h1 : (L.set i e)[i]? = some e := by rw [List.getElem?_set_self (by omega)]
    rw [takeE_snoc h1, List.take_set_of_le (Nat.le_refl _)]
    simp [hp]
  · have := congrArg (List.drop 1) h.high
    rw [List.drop_drop, List.drop_drop] at this
    rw [List.drop_set_of_lt (by omega)]
    exact this
theorem KI.stop {cs : List Chg} {es L : List En} {i j : Nat} (h : KI cs es L i j) (hj : es.length ≤ j) : L.take i = es.filter (fun e => !pdel cs e) := by
  rw [h.low, List.take_of_length_le hj]

theorem zeroE (w : World) : (zeroValue 52).run Tryz.prog w = .ok (.agg #[.string ⟨#[]⟩, .int .u64 0]) w := by
  obtain ⟨i0, hi0, hz0, _, _⟩ := info_parts Tryz.info52
  simp [zeroValue, typeInfo, hi0, hz0]

/-- clear(s), s a slice of entries in a row that may be written. -/
theorem clear_ents {w : World} {base g n cap : Nat} {L : List En} (h : OwnG encE 52 w base (.slice (some ⟨g, 0, none⟩) n cap) L) (hl : L.length = n) {i : Nat} (hi : i < n) (ty : TypeId) (c : Nat) :
    ∃ vs, (Builtin.clear_ #[22] ty #[.slice (some ⟨g, i * 2, none⟩) (n - i) c]).run Tryz.prog w = .ok (.tuple #[]) (w.setCells g (i * 2) vs) := by
  refine ⟨(Builtin.zeroCells (Value.agg #[.string ⟨#[]⟩, .int .u64 0]).cells (n - i)).toList, ?_⟩
  have h' : w.ownsRow base 52 2 (.slice (some ⟨g, 0, none⟩) n cap) n (encE.all L) := by have := h; unfold OwnG at this; rw [hl] at this; exact this
  have hsz : (Builtin.zeroCells (Value.agg #[.string ⟨#[]⟩, .int .u64 0]).cells (n - i)).toList.length = (n - i) * 2 := by
    rw [Array.length_toList, size_zeroCells]
    rfl
  have hst := run_storeCells_cells (P := Tryz.prog) g (i * 2) (Builtin.zeroCells (Value.agg #[.string ⟨#[]⟩, .int .u64 0]).cells (n - i)).toList 0 w (by
    intro j hj
    rw [hsz] at hj
    rw [h'.cellAt _ (by omega)]
    rw [List.getElem?_eq_getElem (by rw [h'.1]; omega)]
    rfl) (by
    intro j hj
    exact h'.frozenAt _) (by
    intro v hv
    have hc : (Value.agg #[.string ⟨#[]⟩, .int .u64 0]).cells = #[.string ⟨#[]⟩, .int .u64 0] := rfl
    rw [hc] at hv
    obtain ⟨k, _, rfl⟩ : ∃ k, k < (n - i) * 2 ∧ (#[Value.string ⟨#[]⟩, .int .u64 0] : Array Value)[k % 2]! = v := by simpa [Builtin.zeroCells] using hv
    have hk : k % 2 = 0 ∨ k % 2 = 1 := by omega
    rcases hk with q | q <;> rw [q] <;> rfl)
  simp only [Nat.add_zero] at hst
  obtain ⟨m, hm⟩ : ∃ m, n - i = m + 1 := ⟨n - i - 1, by omega⟩
  rw [hm] at hst ⊢
  simp [Builtin.clear_, run_underlying Tryz.underlying22, hst]

theorem all_take {α : Type} (E : Enc α) (xs : List α) {i : Nat} (hi : i ≤ xs.length) : E.all (xs.take i) = (E.all xs).take (i * E.size) := by
  have h1 : E.all xs = E.all (xs.take i) ++ E.all (xs.drop i) := by rw [← E.all_append, List.take_append_drop]
  have h2 : (E.all (xs.take i)).length = i * E.size := by rw [E.all_length, List.length_take, Nat.min_eq_left hi]
  rw [h1, List.take_left' h2]

/-- s[:i] and s[i:] of a row's slice, with their addresses. -/
theorem slice_low {g n cap i : Nat} (hi : i < n) (hc : n ≤ cap) (w : World) : (Instr.slice 22 (.slice (some ⟨g, 0, none⟩) n cap) none (some (.int .i64 (i : Int))) none).run Tryz.prog w = .ok (.slice (some ⟨g, 0, none⟩) i cap) w := by
  obtain ⟨i0, hi0, hz0, hz1, hz2⟩ := info_parts Tryz.info52
  rw [run_slice_h w 22 (some ⟨g, 0, none⟩) n cap (by rw [els22]; exact Tryz.underlying22) .i64 (i : Int) (by omega) (by omega)]
  have : (sizeOf (Tryz.prog.elem 22)).run Tryz.prog w = .ok 2 w := by
    rw [els22]
    have e2 : encE.size = 2 := rfl
    simp [sizeOf, typeInfo, hi0, hz1]
  rw [this]
  have hne : ¬ cap = 0 := by omega
  simp only [Result.andThen, sliced, Int.toNat_natCast, Nat.zero_mul, Nat.sub_zero, hne, if_false, Option.map_some, addr_plus, Nat.add_zero]
theorem slice_high {g n cap i : Nat} (hi : i < n) (hc : n ≤ cap) (w : World) : (Instr.slice 22 (.slice (some ⟨g, 0, none⟩) n cap) (some (.int .i64 (i : Int))) none none).run Tryz.prog w = .ok (.slice (some ⟨g, i * 2, none⟩) (n - i) (cap - i)) w := by
  obtain ⟨i0, hi0, hz0, hz1, hz2⟩ := info_parts Tryz.info52
  rw [run_slice_l w 22 (some ⟨g, 0, none⟩) n cap (by rw [els22]; exact Tryz.underlying22) .i64 (i : Int) (by omega) (by omega)]
  have : (sizeOf (Tryz.prog.elem 22)).run Tryz.prog w = .ok 2 w := by
    rw [els22]
    have e2 : encE.size = 2 := rfl
    simp [sizeOf, typeInfo, hi0, hz1]
  rw [this]
  have hne : ¬ cap = i := by omega
  simp only [Result.andThen, sliced, Int.toNat_natCast, hne, if_false, Option.map_some, addr_plus, Nat.zero_add]

set_option maxHeartbeats 3200000 in
set_option maxRecDepth 100000 in
/-- slices.DeleteFunc of a row. -/
theorem del_row {g n cap B M base : Nat} {es : List En} {cs : List Chg} (w : World) (hB : Held w B M cs) (ho : OwnG encE 52 w base (.slice (some ⟨g, 0, none⟩) n cap) es) (hn : n ≤ 1000000) (hf : Fine es) (nB : B ≠ g) (nM : M ≠ g) :
    Calls Tryz.prog 38 #[.slice (some ⟨g, 0, none⟩) n cap, .func (.func 40) #[] #[.pointer (some ⟨B, 0, none⟩)]] w fun e w' => ∃ v', e = .returned v' ∧ OwnG encE 52 w' base v' (es.filter (fun e => !pdel cs e)) ∧ Turned (fun k => k = g) w w' ∧ v'.ownBlock = some g := by
  have hl : es.length = n := own_len ho
  obtain ⟨ao, cap', ev, h1, h2, R0, _⟩ := ho.form
  rw [hl] at ev h1
  cases ev
  have hix := idx_del (c := cap) w hB R0 hl hn hf
  have H : Hid (Held w B M cs ∧ OwnG encE 52 w base (.slice (some ⟨g, 0, none⟩) n cap) es ∧ es.length = n ∧ Fine es) := ⟨hB, ho, hl, hf⟩
  clear hB ho hl hf R0
  have eg := enters27
  go_enter Tryz.func38, Tryz.ntmps38
  go_wp2_with fail
  refine hix.mono ?_
  rintro e w1 ⟨r, rfl, HR, B1⟩
  have G1 : Hid (Turned (fun k => k = g) w w1) := Turned.ofBelow B1
  have O1 : Hid (OwnG encE 52 w1 base (.slice (some ⟨g, 0, none⟩) n cap) es ∧ Held w1 B M cs) := ⟨H.out.2.1.below B1, H.out.1.below B1⟩
  clear B1 hix
  rcases HR.out with ⟨rfl, hany⟩ | ⟨k0, rfl, hk0, hpre, e0, he0, hp0⟩
  · have hfi : es.filter (fun e => !pdel cs e) = es := by
      rw [List.filter_eq_self]
      intro x hx
      rw [List.any_eq_false] at hany
      have := hany x hx
      simpa using this
    have FI : Hid (es.filter (fun e => !pdel cs e) = es) := hfi
    clear hfi hany HR
    go_wp2
    go_ret
    exact ⟨_, rfl, by rw [FI.out]; exact O1.out.1, G1.out, rfl⟩
  · have K0 : Hid (KI cs es es k0 (k0 + 1)) := KI.start hpre he0 hp0
    have hne1 : ((k0 : Int) == -1) = false := beq_eq_false_iff_ne.2 (by omega)
    clear hpre he0 hp0 HR
    go_wp2_with fail
    go_loopg [5, 6] (n - (k0 + 1)) (fun t iv jv wr => ∃ (i j : Nat), iv = .int .i64 i ∧ jv = .int .i64 j ∧ j + t = n ∧ i < j ∧ Hid (∃ L, KI cs es L i j ∧ OwnG encE 52 wr base (.slice (some ⟨g, 0, none⟩) n cap) L ∧ Turned (fun k => k = g) w wr ∧ Held wr B M cs))
    case atStart => exact ⟨k0, k0 + 1, rfl, by go_num, by omega, by omega, es, K0.out, O1.out.1, G1.out, O1.out.2⟩
    case round =>
      obtain ⟨i, j, rfl, rfl, hj, hij, HJ⟩ := hrel
      obtain ⟨L, KJ, OW, TW, HW⟩ := HJ.out
      by_cases hjn : j < n
      · have jd : (j : Int) < (n : Int) := by omega
        obtain ⟨e, he⟩ := get_some H.out.2.2.1 hjn
        have R2 := (OwnG.rdc OW).1
        obtain ⟨_, c0, c1⟩ := R2.ents (i := j) (e := e) (by rw [KJ.get]; exact he)
        rw [Nat.zero_add] at c0 c1
        have hpl := H.out.2.2.2 e (List.mem_of_getElem? he)
        have hs1 := fun hp => KJ.strike he hp
        have hs2 := fun hp => KJ.keep he hp
        have hLl : L.length = n := by rw [KJ.len]; exact H.out.2.2.1
        obtain ⟨d, z⟩ := e
        simp only at c0 c1 hpl
        have WW : Hid (OwnG encE 52 wr base (.slice (some ⟨g, 0, none⟩) n cap) L ∧ Turned (fun k => k = g) w wr ∧ Held wr B M cs ∧ L.length = n) := ⟨OW, TW, HW, hLl⟩
        have SS : Hid ((pdel cs (d, z) = true → KI cs es L i (j + 1)) ∧ (pdel cs (d, z) = false → KI cs es (L.set i (d, z)) (i + 1) (j + 1))) := ⟨hs1, hs2⟩
        clear he hs1 hs2 OW TW HW R2 KJ HJ hLl
        go_upto_region 8 with fail
        obtain ⟨w3, hw3⟩ : ∃ w3, w3 = wr.alloc (.cells #[.string ⟨d.toArray⟩, .int .u64 (z.toNat : Int)] 52) := ⟨_, rfl⟩
        obtain ⟨R, hR⟩ : ∃ R, wr.heap.size = R := ⟨_, rfl⟩
        have X3 : Hid (Box w3 R 52 (tx d) (.int .u64 (z.toNat : Int)) ∧ Below wr.heap.size wr w3) := by
          rw [hw3, ← hR]
          exact ⟨Box.new wr 52 _ _, bz1 wr _⟩
        rw [← hw3, hR]
        clear hw3 hR c0 c1
        obtain ⟨j0, j1⟩ := X3.out.1.cells
        have hcl := fun f hf => pdel_lit (cs := cs) B M d z w3 (WW.out.2.2.1.below X3.out.2) hpl f hf
        cases hxy : pdel cs (d, z) with
        | true =>
          have hcall := hcl true hxy
          clear hcl
          go_wp2_with (go_at_fn 40; refine hcall.mono ?_; rintro e w4 ⟨rfl, hb4⟩; have B4 : Hid (Below wr.heap.size wr w4) := X3.out.2.trans (hb4.mono X3.out.2.size); clear hb4)
          go_roundg (gk - 1)
          case measure => omega
          case rel => exact ⟨i, j + 1, rfl, by go_num, by omega, by omega, L, SS.out.1 hxy, WW.out.1.below B4.out, WW.out.2.1.trans (Turned.ofBelow (S := fun _ => False) B4.out) (fun _ _ q => q.elim), WW.out.2.2.1.below B4.out⟩
        | false =>
          have hcall := hcl false hxy
          clear hcl
          have hin : (i : Int) < (n : Int) := by omega
          go_wp2_with fail
          refine hcall.mono ?_
          rintro e w4 ⟨rfl, hb4⟩
          have B4 : Hid (Below wr.heap.size wr w4 ∧ Box w4 R 52 (tx d) (.int .u64 (z.toNat : Int))) := ⟨X3.out.2.trans (hb4.mono X3.out.2.size), X3.out.1.below hb4⟩
          clear hb4 hcall j0 j1
          obtain ⟨m0, m1⟩ := B4.out.2.cells
          have O4 := WW.out.1.below B4.out.1
          have O4' : w4.ownsRow base 52 2 (.slice (some ⟨g, 0, none⟩) n cap) n (encE.all L) := by have := O4; unfold OwnG at this; rw [WW.out.2.2.2] at this; exact this
          have f0 : w4.frozen? ⟨g, i * 2, none⟩ = false := O4'.frozenAt _
          have f1 : w4.frozen? ⟨g, i * 2 + 1, none⟩ = false := O4'.frozenAt _
          obtain ⟨x0, hx0⟩ := get_some WW.out.2.2.2 (show i < n by omega)
          obtain ⟨_, y0, y1⟩ := (OwnG.rdc O4).1.ents hx0
          rw [Nat.zero_add] at y0 y1
          clear O4 O4' hx0
          go_wp2
          go_roundg (gk - 1)
          case measure => omega
          case rel =>
            have hp1 := ent_put (WW.out.1.below B4.out.1) (i := i) (by rw [WW.out.2.2.2]; omega) (d, z)
            have ht1 : Turned (fun k => k = g) w4 ((w4.setCell ⟨g, i * 2, none⟩ (tx d)).setCell ⟨g, i * 2 + 1, none⟩ (.int .u64 (z.toNat : Int))) := ((Turned.refl (fun k => k = g) w4).setCell (p := ⟨g, i * 2, none⟩) (.inl rfl) _).setCell (p := ⟨g, i * 2 + 1, none⟩) (.inl rfl) _
            exact ⟨i + 1, j + 1, by go_num, by go_num, by omega, by omega, L.set i (d, z), SS.out.2 hxy, hp1, (WW.out.2.1.trans (Turned.ofBelow (S := fun _ => False) B4.out.1) (fun _ _ q => q.elim)).trans ht1 (fun _ _ q => q), (WW.out.2.2.1.below B4.out.1).turned ht1 nB nM⟩
      · obtain rfl : j = n := by omega
        have hLl : L.length = j := by rw [KJ.len]; exact H.out.2.2.1
        have hst := KJ.stop (by rw [H.out.2.2.1]; omega)
        have hsl := fun w => slice_low (g := g) hij h1 w
        have hsh := fun w => slice_high (g := g) hij h1 w
        obtain ⟨vs, hcv⟩ := clear_ents OW hLl hij 0 (cap - i)
        have OW' : wr.ownsRow base 52 2 (.slice (some ⟨g, 0, none⟩) j cap) j (encE.all L) := by have := OW; unfold OwnG at this; rw [hLl] at this; exact this
        obtain ⟨ys, hy1, hy2⟩ := own_cells_set vs (i * 2) wr _ OW'
        have hy3 := own_take hy2 (i := i) (by omega)
        have FIN : Hid (OwnG encE 52 (wr.setCells g (i * 2) vs) base (.slice (some ⟨g, 0, none⟩) i cap) (es.filter (fun e => !pdel cs e)) ∧ Turned (fun k => k = g) w (wr.setCells g (i * 2) vs)) := by
          refine ⟨?_, TW.trans (turned_cells g vs (i * 2) wr) (fun _ _ q => q)⟩
          have hli : (L.take i).length = i := by rw [List.length_take, hLl]; omega
          have ea : encE.all (L.take i) = (encE.all L).take (i * 2) := all_take encE L (by omega)
          rw [hy1, ← ea] at hy3
          unfold OwnG
          rw [← hst, hli]
          exact hy3
        clear OW TW HW KJ HJ hLl hst OW' hy1 hy2 hy3
        go_wp2
        go_ret
        exact ⟨_, rfl, FIN.out.1, FIN.out.2, rfl⟩

set_option maxHeartbeats 800000 in
set_option maxRecDepth 100000 in
theorem del_nil {B M : Nat} {cs : List Chg} (w : World) (hB : Held w B M cs) :
    Calls Tryz.prog 38 #[.slice none 0 0, .func (.func 40) #[] #[.pointer (some ⟨B, 0, none⟩)]] w fun e w' => e = .returned (.slice none 0 0) ∧ Below w.heap.size w w' := by
  have hix := idx_del (c := 0) w hB (RdG.nil encE w none) (n := 0) rfl (by omega) (by intro e h; cases h)
  have eg := enters27
  clear hB
  go_enter Tryz.func38, Tryz.ntmps38
  go_wp2_with fail
  refine hix.mono ?_
  rintro e w1 ⟨r, rfl, HR, B1⟩
  have hr : r = -1 := by
    rcases HR.out with ⟨q, _⟩ | ⟨i, _, hi, _⟩
    · exact q
    · omega
  subst hr
  have G1 : Hid (Below w.heap.size w w1) := B1
  clear B1 HR hix
  go_wp2
  go_ret
  exact ⟨rfl, G1.out⟩

/-- slices.DeleteFunc of a row, or of none. -/
theorem del_any {v : Value} {B M base : Nat} {es : List En} {cs : List Chg} (w : World) (hB : Held w B M cs) (ho : OwnG encE 52 w base v es) (hn : es.length ≤ 1000000) (hf : Fine es) (nB : v.ownBlock ≠ some B) (nM : v.ownBlock ≠ some M) :
    Calls Tryz.prog 38 #[v, .func (.func 40) #[] #[.pointer (some ⟨B, 0, none⟩)]] w fun e w' => ∃ v', e = .returned v' ∧ OwnG encE 52 w' base v' (es.filter (fun e => !pdel cs e)) ∧ Turned (fun k => v.ownBlock = some k) w w' ∧ v'.ownBlock = v.ownBlock := by
  rcases ho.2 with ⟨rfl, h0⟩ | ⟨g, cap, cur, rfl, _⟩
  · obtain rfl : es = [] := List.eq_nil_of_length_eq_zero h0
    refine (del_nil w hB).mono ?_
    rintro e w' ⟨rfl, hb⟩
    exact ⟨_, rfl, OwnG.nil _ _ _ _, Turned.ofBelow hb, rfl⟩
  · refine (del_row w hB ho hn hf (fun e => nB (by rw [e]; rfl)) (fun e => nM (by rw [e]; rfl))).mono ?_
    rintro e w' ⟨v', rfl, h1, h2, h3⟩
    exact ⟨v', rfl, h1, h2.mono (fun k _ e => by rw [e]; rfl), h3⟩

end Go.Proofs.YtofbphmdkhocdaaGreat
