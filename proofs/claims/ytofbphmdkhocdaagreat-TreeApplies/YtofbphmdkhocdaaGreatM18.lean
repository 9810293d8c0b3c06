/-
  Several texts, laid together.
-/
import Derived.Test.YtofbphmdkhocdaaGreatYMovesMg
import Derived.Test.YtofbphmdkhocdaaGreatYDiffMg
import Derived.Test.YtofbphmdkhocdaaGreatM10

/-
  tree.Origin by a contract: of two lists whose paths rise, none longer than any text can be, and of at most 100000 entries each.
-/
namespace Go.Proofs.YtofbphmdkhocdaaGreat
open Go.RowKit

/-- Where a file of the second tree is in the first one. -/
def movedFrom (ms : List Mv) (p : Bs) : Option Bs := (ms.find? (fun x => x.2 == p)).map (·.1)
def forigin (A B : List En) (ms : List Mv) (p : Bs) : Option Bs := if (ffind B p).isSome then (if (ffind A p).isSome then some p else movedFrom ms p) else none
def orV (o : Option Bs) : Value := .tuple #[tx (o.getD []), .bool o.isSome]

theorem moved_at {ms : List Mv} {p : Bs} {i : Nat} {x : Mv} (h : (ms.take i).any (fun x => x.2 == p) = false) (hx : ms[i]? = some x) (hp : x.2 = p) : movedFrom ms p = some x.1 := by
  have hi : i < ms.length := (List.getElem?_eq_some_iff.1 hx).1
  have e : ms = ms.take i ++ x :: ms.drop (i + 1) := by
    conv => lhs; rw [← List.take_append_drop i ms]
    congr 1
    rw [List.drop_eq_getElem_cons hi]
    congr 1
    rw [List.getElem?_eq_getElem hi] at hx
    exact Option.some.inj hx
  unfold movedFrom
  rw [e, List.find?_append]
  have h1 : (ms.take i).find? (fun x => x.2 == p) = none := by
    rw [List.find?_eq_none]
    intro y hy q
    rw [List.any_eq_false] at h
    exact h y hy q
  rw [h1]
  simp [hp]
theorem moved_no {ms : List Mv} {p : Bs} (h : ms.any (fun x => x.2 == p) = false) : movedFrom ms p = none := by
  unfold movedFrom
  have h1 : ms.find? (fun x => x.2 == p) = none := by
    rw [List.find?_eq_none]
    intro y hy q
    rw [List.any_eq_false] at h
    exact h y hy q
  rw [h1]
  rfl

theorem RdG.mvs {w : World} {b off : Nat} {ms : List Mv} (h : RdG encM w (some ⟨b, off, none⟩) ms) {i : Nat} {x : Mv} (hx : ms[i]? = some x) : w.cell? ⟨b, off + i * 2, none⟩ = some (tx x.1) ∧ w.cell? ⟨b, off + i * 2 + 1, none⟩ = some (tx x.2) := by
  obtain ⟨b', off', e, hlt, hc⟩ := h (by rcases Nat.lt_or_ge i ms.length with q | q
                                         · omega
                                         · rw [List.getElem?_eq_none q] at hx; cases hx)
  obtain ⟨rfl, rfl⟩ : b = b' ∧ off = off' := by simpa using e
  have h0 := hc i x hx 0 _ rfl
  have h1 := hc i x hx 1 _ rfl
  exact ⟨by simpa [encM] using h0, by simpa [encM, Nat.add_assoc] using h1⟩

set_option maxHeartbeats 1600000 in
set_option maxRecDepth 100000 in
/-- tree.Origin. -/
theorem origin_cap {ao bo : Option Addr} {n c m d : Nat} {A B : List En} (p : Bs) (w : World) (ha : RdG encE w ao A) (hb : RdG encE w bo B) (hl : A.length = n) (hk : B.length = m) (hnc : n ≤ c) (hmd : m ≤ d) (hn : n ≤ 100000) (hm : m ≤ 100000)
    (rA : Rise A) (rB : Rise B) (fA : Fine A) (fB : Fine B) (cs : List Chg) (hcs : fdiff (hasS []) A B = cs) (hcl : cs.length ≤ 200000) (r : Option Bs) (hr : forigin A B (pmoves cs) p = r) :
    Calls Tryz.prog 18 #[.slice ao n c, .slice bo m d, tx p] w fun e w' => e = .returned (orV r) ∧ Below w.heap.size w w' := by
  obtain ⟨ob, hob⟩ : ∃ ob, ffind B p = ob := ⟨_, rfl⟩
  obtain ⟨oa, hoa⟩ : ∃ oa, ffind A p = oa := ⟨_, rfl⟩
  have hfb := find_any (c := d) p w hb hk (by omega) ob hob
  have hfa := fun u h => find_any (c := c) (ao := ao) p u h hl (by omega) oa hoa
  have hmv := fun u h1 h2 => moves_cap (ao := ao) (bo := bo) (c := c) (d := d) u h1 h2 hl hk hnc hmd hn hm rA rB fA fB cs hcs hcl
  have hpl : (pmoves cs).length ≤ 200000 := by
    have := mgo_len cs cs.length
    unfold pmoves
    omega
  obtain ⟨ms, hms⟩ : ∃ ms, pmoves cs = ms := ⟨_, rfl⟩
  rw [forigin, hob, hoa, hms] at hr
  rw [hms] at hmv hpl
  have H : Hid (RdG encE w ao A ∧ RdG encE w bo B) := ⟨ha, hb⟩
  clear ha hb hl hk rA rB fA fB hcs hcl hob hoa hms hnc hmd
  cases ob with
  | none =>
    obtain rfl : none = r := by simpa using hr
    go_enter Tryz.func18, Tryz.ntmps18
    go_wp2_with fail
    refine hfb.mono ?_
    rintro e w1 ⟨rfl, B1⟩
    have G1 : Hid (Below w.heap.size w w1) := B1
    clear B1
    go_wp2
    refine bodyPost_ret (results_tmp2 rfl _ _ _) rfl ?_
    exact ⟨rfl, G1.out⟩
  | some xb =>
    cases oa with
    | some xa =>
      obtain rfl : some p = r := by simpa using hr
      go_enter Tryz.func18, Tryz.ntmps18
      go_wp2_with fail
      refine hfb.mono ?_
      rintro e w1 ⟨rfl, B1⟩
      have G1 : Hid (Below w.heap.size w w1) := B1
      clear B1
      have hfa1 := hfa w1 (H.out.1.below G1.out)
      go_wp2_with fail
      refine hfa1.mono ?_
      rintro e w2 ⟨rfl, B2⟩
      have G2 : Hid (Below w.heap.size w w2) := G1.out.trans (B2.mono G1.out.size)
      clear B2
      go_wp2
      refine bodyPost_ret (results_tmp2 rfl _ _ _) rfl ?_
      exact ⟨rfl, G2.out⟩
    | none =>
      have HR : Hid (movedFrom ms p = r) := by
        show _ = _
        simpa using hr
      clear hr
      go_enter Tryz.func18, Tryz.ntmps18
      go_wp2_with fail
      refine hfb.mono ?_
      rintro e w1 ⟨rfl, B1⟩
      have G1 : Hid (Below w.heap.size w w1) := B1
      clear B1
      have hfa1 := hfa w1 (H.out.1.below G1.out)
      go_wp2_with fail
      refine hfa1.mono ?_
      rintro e w2 ⟨rfl, B2⟩
      have G2 : Hid (Below w.heap.size w w2) := G1.out.trans (B2.mono G1.out.size)
      clear B2 hfa1 hfa hfb
      have hmv2 := hmv w2 (H.out.1.below G2.out) (H.out.2.below G2.out)
      clear hmv
      go_wp2_with fail
      refine hmv2.mono ?_
      rintro e w3 ⟨v3, rfl, O3, B3⟩
      obtain ⟨a3, c3, rfl, _, _, R3, _⟩ := O3.form
      obtain ⟨k, hk⟩ : ∃ k, ms.length = k := ⟨_, rfl⟩
      rw [hk] at hpl ⊢
      have G3 : Hid (RdG encM w3 a3 ms ∧ ms.length = k ∧ Below w.heap.size w w3) := ⟨R3, hk, G2.out.trans (B3.mono G2.out.size)⟩
      clear O3 B3 R3 hk hmv2
      go_wp2_with fail
      go_loopg [34] k (fun t v wr => ∃ i : Nat, v = .int .i64 i ∧ i + t = k ∧ Hid ((ms.take i).any (fun x => x.2 == p) = false ∧ Below w3.heap.size w3 wr))
      case atStart => exact ⟨0, rfl, by omega, rfl, Below.refl _ _⟩
      case round =>
        obtain ⟨i, rfl, hi, HT⟩ := hrel
        by_cases hin : i < k
        · have id : (i : Int) < (k : Int) := by omega
          obtain ⟨x, hx⟩ := get_some G3.out.2.1 hin
          obtain ⟨b, off, rfl, _⟩ := G3.out.1.some_of hx
          obtain ⟨c0, c1⟩ := (G3.out.1.below HT.out.2).mvs hx
          obtain ⟨x1, x2⟩ := x
          simp only at c0 c1
          have X : Hid (ms[i]? = some (x1, x2)) := hx
          clear hx
          go_upto_region 10 with fail
          obtain ⟨w4, hw4⟩ : ∃ w4, w4 = wr.alloc (.cells #[.string ⟨x1.toArray⟩, .string ⟨x2.toArray⟩] 47) := ⟨_, rfl⟩
          obtain ⟨R, hR⟩ : ∃ R, wr.heap.size = R := ⟨_, rfl⟩
          have X4 : Hid (Box w4 R 47 (tx x1) (tx x2) ∧ Below w3.heap.size w3 w4) := by
            rw [hw4, ← hR]
            exact ⟨Box.new wr 47 _ _, HT.out.2.trans ((bz1 wr _).mono HT.out.2.size)⟩
          rw [← hw4, hR]
          clear hw4 hR c0 c1
          obtain ⟨j0, j1⟩ := X4.out.1.cells
          by_cases hp : x2 = p
          · subst hp
            go_wp2
            refine bodyPost_ret (results_tmp2 rfl _ _ _) rfl ?_
            refine ⟨?_, G3.out.2.2.trans (X4.out.2.mono G3.out.2.2.size)⟩
            rw [← HR.out, moved_at HT.out.1 X.out rfl]
            rfl
          · have hne : (x2 == p) = false := by simpa using hp
            go_wp2
            go_roundg (gk - 1)
            case measure => omega
            case rel => exact ⟨i + 1, by go_num, by omega, anyE_step (p := fun x : Mv => x.2 == p) X.out HT.out.1 hne, X4.out.2⟩
        · obtain rfl : i = k := by omega
          have e := HT.out.1
          rw [List.take_of_length_le (by rw [G3.out.2.1]; omega)] at e
          have E : Hid (r = none) := by show _ = _; rw [← HR.out]; exact moved_no e
          clear e
          go_wp2
          refine bodyPost_ret (results_tmp2 rfl _ _ _) rfl ?_
          refine ⟨?_, G3.out.2.2.trans (HT.out.2.mono G3.out.2.2.size)⟩
          rw [E.out]
          rfl

/-- tree.Origin. -/
theorem origin_any {ao bo : Option Addr} {n c m d : Nat} {A B : List En} (p : Bs) (w : World) (ha : RdG encE w ao A) (hb : RdG encE w bo B) (hl : A.length = n) (hk : B.length = m) (hnc : n ≤ c) (hmd : m ≤ d) (_hc : c ≤ 4000000000000000000) (_hd : d ≤ 4000000000000000000) (hn : n ≤ 100000) (hm : m ≤ 100000)
    (rA : Rise A) (rB : Rise B) (fA : Fine A) (fB : Fine B) (cs : List Chg) (hcs : fdiff (hasS []) A B = cs) (hcl : cs.length ≤ 200000) (r : Option Bs) (hr : forigin A B (pmoves cs) p = r) :
    Calls Tryz.prog 18 #[.slice ao n c, .slice bo m d, tx p] w fun e w' => e = .returned (orV r) ∧ Below w.heap.size w w' :=
  origin_cap p w ha hb hl hk hnc hmd hn hm rA rB fA fB cs hcs hcl r hr

end Go.Proofs.YtofbphmdkhocdaaGreat

/-
  tree.Touched by a contract: of at most 200000 changes, whose paths are no longer than any text can be.
-/
namespace Go.Proofs.YtofbphmdkhocdaaGreat
open Go.RowKit

/-- What leads to the path of a change, and it. -/
def cparts (c : Chg) : List Bs := parts c.1
/-- The paths of changes, and all that leads to them. -/
def touchL (cs : List Chg) : List Bs := srt (cs.flatMap cparts)

theorem tparts_len (p : Bs) : (parts p).length ≤ 103 := by
  unfold parts
  split
  · rename_i h
    have h1 := pre_len p p.length
    have h2 := path_len h
    rw [List.length_append, List.length_singleton]
    omega
  · simp
theorem tflat_len (l : List Chg) : (l.flatMap cparts).length ≤ 103 * l.length := by
  induction l with
  | nil => simp
  | cons x t ih =>
    have : (cparts x).length ≤ 103 := tparts_len x.1
    simp only [List.flatMap_cons, List.length_append, List.length_cons]
    omega
theorem tflat_snoc {l : List Chg} {i : Nat} {c : Chg} (h : l[i]? = some c) : ((l.take (i + 1)).flatMap cparts) = ((l.take i).flatMap cparts) ++ parts c.1 := by
  rw [takeE_snoc h, List.flatMap_append]
  simp [cparts]

theorem RdG.chg3 {w : World} {b off : Nat} {cs : List Chg} (h : RdG encC w (some ⟨b, off, none⟩) cs) {i : Nat} {c : Chg} (hx : cs[i]? = some c) : w.cell? ⟨b, off + i * 3, none⟩ = some (tx c.1) ∧ w.cell? ⟨b, off + i * 3 + 1, none⟩ = some (.int .u64 (c.2.1.toNat : Int)) ∧ w.cell? ⟨b, off + i * 3 + 2, none⟩ = some (.int .u64 (c.2.2.toNat : Int)) := by
  obtain ⟨b', off', e, hlt, hc⟩ := h (by rcases Nat.lt_or_ge i cs.length with q | q
                                         · omega
                                         · rw [List.getElem?_eq_none q] at hx; cases hx)
  obtain ⟨rfl, rfl⟩ : b = b' ∧ off = off' := by simpa using e
  have h0 := hc i c hx 0 _ rfl
  have h1 := hc i c hx 1 _ rfl
  have h2 := hc i c hx 2 _ rfl
  exact ⟨by simpa [encC] using h0, by simpa [encC, Nat.add_assoc] using h1, by simpa [encC, Nat.add_assoc] using h2⟩

/-- No path of the changes is longer than any text can be. -/
def FineC (cs : List Chg) : Prop := ∀ c ∈ cs, c.1.length ≤ 9223372036854775807

set_option maxHeartbeats 800000 in
set_option maxRecDepth 100000 in
theorem touched_any {ao : Option Addr} {c n : Nat} {cs : List Chg} (w : World) (ha : RdG encC w ao cs) (hl : cs.length = n) (hn : n ≤ 200000) (hx : FineC cs) :
    Calls Tryz.prog 22 #[.slice ao n c] w fun e w' => ∃ v', e = .returned v' ∧ Own w' w.heap.size v' (touchL cs) ∧ Below w.heap.size w w' := by
  have H : Hid (RdG encC w ao cs ∧ cs.length = n ∧ FineC cs) := ⟨ha, hl, hx⟩
  clear ha hl hx
  go_enter Tryz.func22, Tryz.ntmps22
  go_wp2_with fail
  go_loopg [3, 8] n (fun k ov v wr => ∃ i : Nat, v = .int .i64 i ∧ i + k = n ∧ Hid (Own wr w.heap.size ov ((cs.take i).flatMap cparts) ∧ Below w.heap.size w wr))
  case atStart => exact ⟨0, rfl, by omega, Own.nil _ _, Below.refl _ _⟩
  case round =>
    obtain ⟨i, rfl, hi, HR⟩ := hrel
    have hfl : ((cs.take i).flatMap cparts).length ≤ 20600000 := by
      have h1 := tflat_len (cs.take i)
      have h2 := List.length_take_le i cs
      omega
    by_cases hin : i < n
    · have id : (i : Int) < (n : Int) := by omega
      obtain ⟨e, he⟩ := get_some H.out.2.1 hin
      obtain ⟨b, off, rfl, hlt⟩ := H.out.1.some_of he
      obtain ⟨c0, c1, c2⟩ := (H.out.1.below HR.out.2).chg3 he
      have hxl : e.1.length ≤ 9223372036854775807 := H.out.2.2 e (List.mem_of_getElem? he)
      have hst := tflat_snoc he
      obtain ⟨x, o, o2⟩ := e
      simp only at c0 c1 c2 hxl hst
      have ST : Hid _ := hst
      have FL : Hid (((cs.take i).flatMap cparts).length ≤ 20600000 ∧ (parts x).length ≤ 103) := ⟨hfl, tparts_len x⟩
      obtain ⟨z1, hz1⟩ : ∃ z : Int, (o.toNat : Int) = z := ⟨_, rfl⟩
      obtain ⟨z2, hz2⟩ : ∃ z : Int, (o2.toNat : Int) = z := ⟨_, rfl⟩
      rw [hz1] at c1
      rw [hz2] at c2
      clear he hst hfl hz1 hz2
      go_upto_region 5 with fail
      obtain ⟨w2, hw2⟩ : ∃ w2, w2 = wr.alloc (.cells #[.string ⟨x.toArray⟩, .int .u64 z1, .int .u64 z2] 58) := ⟨_, rfl⟩
      obtain ⟨R, hR⟩ : ∃ R, wr.heap.size = R := ⟨_, rfl⟩
      have B2 : Hid (Box3 w2 R 58 (tx x) (.int .u64 z1) (.int .u64 z2) ∧ Below wr.heap.size wr w2) := by
        rw [hw2, ← hR]
        exact ⟨Box3.new wr 58 _ _ _, bz1 wr _⟩
      have X2 : Hid (Box3 w2 R 58 (tx x) (.int .u64 z1) (.int .u64 z2) ∧ Own w2 w.heap.size _ ((cs.take i).flatMap cparts) ∧ Below w.heap.size w w2) := ⟨B2.out.1, HR.out.1.below B2.out.2, HR.out.2.trans (B2.out.2.mono HR.out.2.size)⟩
      rw [← hw2, hR]
      clear hw2 hR c0 c1 c2
      obtain ⟨j0, j1, j2⟩ := X2.out.1.cells
      have hpa := parts_any ⟨x.toArray⟩ (by rw [bsize]; exact hxl) w2
      go_wp2_with fail
      refine hpa.mono ?_
      rintro e w3 ⟨v3, rfl, O3, B3⟩
      obtain ⟨a3, c3, rfl, _, _, R3⟩ := O3.form
      have G3 : Hid (Rd w3 a3 (parts x) ∧ Own w3 w.heap.size _ ((cs.take i).flatMap cparts) ∧ Below w.heap.size w w3) := ⟨R3, X2.out.2.1.below B3, X2.out.2.2.trans (B3.mono X2.out.2.2.size)⟩
      clear O3 B3 R3 hpa j0 j1 j2
      go_wp2_with (at_builtin; refine app_list rfl (.tmp 12) (.tmp 15) rfl w.heap.size _ ((cs.take i).flatMap cparts) (parts x) a3 _ c3 rfl G3.out.2.1 rfl G3.out.1 rfl (by have := FL.out; omega) G3.out.2.2.size ?_; intro v4 w4 hown4 hbel4)
      go_roundg (gk - 1)
      case measure => omega
      case rel => exact ⟨i + 1, by go_num, by omega, by rw [ST.out]; exact hown4, G3.out.2.2.trans hbel4⟩
    · obtain rfl : i = n := by omega
      have e : cs.take i = cs := List.take_of_length_le (by rw [H.out.2.1]; omega)
      rw [e] at HR hfl
      obtain ⟨L, hL⟩ : ∃ L, (cs.flatMap cparts) = L := ⟨_, rfl⟩
      rw [hL] at HR hfl
      have LE : Hid ((cs.flatMap cparts) = L) := hL
      clear hL
      obtain ⟨ao1, c1, rfl, _, _, R1⟩ := HR.out.1.form
      have hs := sort_any (c := c1) wr R1 rfl (by omega)
      clear R1 e
      go_wp2_with fail
      refine hs.mono ?_
      rintro e w2 ⟨v2, rfl, ho, hb⟩
      go_wp2
      go_ret
      exact ⟨_, rfl, by rw [touchL, LE.out]; exact own_low ho HR.out.2.size, HR.out.2.trans (hb.mono HR.out.2.size)⟩

end Go.Proofs.YtofbphmdkhocdaaGreat
