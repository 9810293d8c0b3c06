import Derived.Test.YtijchmcajhdcoaaGreatDoorELScn
/-!
  strings.Builder's writing, and a token as it stands in a text, each by a contract. No condition but that a token's numbers are no greater than they can be, and that the table of powers of ten holds what the library's text lays there.
-/
namespace Go.Proofs.YtijchmcajhdcoaaGreatDoor
open Go.RowKit

theorem info53 : (Tryz.prog.info? 74).map (·.size) = some 2 := by kernel_rfl
theorem infoByte : (Tryz.prog.info? 5).map (fun i => (i.zero, i.size, i.bytes)) = some (some (.int .u8 0), 1, 1) := by kernel_rfl

set_option maxHeartbeats 400000 in
set_option maxRecDepth 100000 in
theorem check_used (b : Nat) (w : World) (h0 : w.cell? ⟨b, 0, none⟩ = some (.pointer (some ⟨b, 0, none⟩))) :
    Calls Tryz.prog 50 #[.pointer (some ⟨b, 0, none⟩)] w fun e w' => e = .returned (.tuple #[]) ∧ w' = w := by
  obtain ⟨j, hj, _⟩ := Option.map_eq_some_iff.1 info53
  go_enter Tryz.func50, Tryz.ntmps50
  go_wp2
  rw [Lib.run_neq_ptr_same w _ Tryz.underlying71 hj]
  go_wp2
  go_end0
  exact ⟨rfl, rfl⟩

set_option maxHeartbeats 400000 in
set_option maxRecDepth 100000 in
theorem check_fresh (b : Nat) (w : World) (h0 : w.cell? ⟨b, 0, none⟩ = some (.pointer none)) (hsh : w.shape? b = some (74, 2)) (hfz : w.frozen? ⟨b, 0, none⟩ = false) :
    Calls Tryz.prog 50 #[.pointer (some ⟨b, 0, none⟩)] w fun e w' => e = .returned (.tuple #[]) ∧ w' = w.setCell ⟨b, 0, none⟩ (.pointer (some ⟨b, 0, none⟩)) := by
  obtain ⟨j, hj, hjs⟩ := Option.map_eq_some_iff.1 info53
  go_enter Tryz.func50, Tryz.ntmps50
  go_wp2
  rw [Lib.run_to_unsafe w ⟨b, 0, none⟩ Tryz.underlying71 Tryz.underlying112 hj (by rw [hjs]; decide) hsh (Nat.zero_lt_succ 1)]
  simp only [Result.andThen]
  rw [Oper.upon_value]
  go_wp2
  rw [run_callFunc_extern Tryz.func63 (by kernel_rfl) (by kernel_rfl) (by kernel_rfl) (e := Extern.AbiNoEscape.same) (by kernel_rfl)]
  rw [Lib.run_noEscape]
  simp only [Result.andThen]
  rw [Oper.upon_value]
  go_wp2
  rw [Lib.run_from_unsafe w ⟨b, 0, none⟩ Tryz.underlying112 Tryz.underlying71 hj hsh layBSExtra.liesBuilder]
  simp only [Result.andThen]
  rw [Oper.upon_value]
  go_wp2
  go_end0
  exact ⟨rfl, rfl⟩

/-- A builder of the call's own, and the bytes that it holds. -/
def Bd (B b : Nat) (l : Bs) (w : World) : Prop := Lib.IsBuilderF 74 5 B b (Lib.byteCells l) w

theorem atF_below {B b : Nat} {p : Value} {bs : List Value} {w w' : World} (h : Lib.BuilderAtF 74 5 B b p bs w) (hb : Below w.heap.size w w') : Lib.BuilderAtF 74 5 B b p bs w' := by
  have hlt := h.lt
  obtain ⟨hB, v, hbk, hown, hne⟩ := h
  refine ⟨hB, v, (hb.block b hlt).trans hbk, hown.kept (row := none) ⟨hb.os, hb.tape, hb.output, hb.size, fun k hk _ => hb.block k hk⟩ ?_, hne⟩
  cases v.ownBlock with
  | none => exact .inl rfl
  | some g => exact .inr (by simp)
theorem Bd.below {B b : Nat} {l : Bs} {w w' : World} (h : Bd B b l w) (hb : Below w.heap.size w w') : Bd B b l w' := by
  rcases h with h | h
  · exact .inl (atF_below h hb)
  · exact .inr (atF_below h hb)
theorem Bd.lt {B b : Nat} {l : Bs} {w : World} (h : Bd B b l w) : b < w.heap.size := by
  rcases h with h | h
  · exact h.lt
  · exact h.lt
theorem Bd.new (w : World) : Bd w.heap.size w.heap.size [] (w.alloc (.cells #[.pointer none, .slice none 0 0] 74)) := by
  refine .inl ⟨Nat.le_refl _, .slice none 0 0, ?_, World.ownsRowF_nil _ _ _ _, by simp [Value.ownBlock]⟩
  exact heap_alloc_new w _

theorem check_any (B b : Nat) (l : Bs) (w : World) (h : Bd B b l w) :
    Calls Tryz.prog 50 #[.pointer (some ⟨b, 0, none⟩)] w fun e w' => e = .returned (.tuple #[]) ∧ Lib.BuilderAtF 74 5 B b (.pointer (some ⟨b, 0, none⟩)) (Lib.byteCells l) w' ∧ Below B w w' ∧ Lib.OthersKept 5 (some b) w w' := by
  rcases h with h | h
  · refine (check_fresh b w h.cell0 h.shape h.frozen0).mono ?_
    rintro e w' ⟨rfl, rfl⟩
    exact ⟨rfl, h.used _, (Below.refl B w).setCell (p := ⟨b, 0, none⟩) h.1 _, (Lib.OthersKept.refl _ _ w).setCell ⟨b, 0, none⟩ rfl _⟩
  · refine (check_used b w h.cell0).mono ?_
    rintro e w' ⟨rfl, rfl⟩
    exact ⟨rfl, h, Below.refl B _, Lib.OthersKept.refl _ _ _⟩

set_option maxHeartbeats 800000 in
set_option maxRecDepth 100000 in
theorem write_any (B b : Nat) (l : Bs) (s : ByteArray) (w : World) (h : Bd B b l w) (hlen : l.length + s.size ≤ 4000000) (hBw : B ≤ w.heap.size) :
    Calls Tryz.prog 37 #[.pointer (some ⟨b, 0, none⟩), .string s] w fun e w' => e = .returned (.tuple #[.int .i64 s.size, .nilIface]) ∧ Bd B b (l ++ s.data.toList) w' ∧ Below B w w' ∧ Lib.OthersKept 5 (some b) w w' := by
  obtain ⟨i0, hi, hz0, hz1, hz2⟩ := info_parts infoByte
  have hcl : (Lib.byteCells l).length = l.length := Lib.byteCells_length l
  go_enter Tryz.func37, Tryz.ntmps37
  go_wp2_with (go_at_call 50; refine (check_any B b l _ h).mono ?_)
  rintro e w1 ⟨rfl, h1, hb1, hk1⟩
  obtain ⟨hB, v, hbk, hown, hne⟩ := h1
  have c0 : w1.cell? ⟨b, 0, none⟩ = some (.pointer (some ⟨b, 0, none⟩)) := by rw [Lib.cell_of_heap hbk]; rfl
  have c1 : w1.cell? ⟨b, 1, none⟩ = some v := by rw [Lib.cell_of_heap hbk]; rfl
  go_wp2_with (at_builtin; refine Lib.wpList_append_own_stringF _ rfl _ _ 72 9 rfl B 5 i0 Tryz.underlying72 Tryz.underlying9 hi hz0 hz1 hz2 _ _ _ rfl hown s rfl ?c3 ?c4 ?c5 ?_)
  case c3 => unfold maxLen; omega
  case c4 => omega
  case c5 => have := hb1.size; omega
  intro v' w2 hown' hgrow _
  have hlt : b < w1.heap.size := by
    rcases Nat.lt_or_ge b w1.heap.size with h' | h'
    · exact h'
    · simp [Array.getElem?_eq_none h'] at hbk
  have hb2 : w2.heap[b]? = some (.cells #[.pointer (some ⟨b, 0, none⟩), v] 74 (0, 0)) := by
    rw [hgrow.block b hlt (fun e => hne e.symm)]
    exact hbk
  have d0 : w2.cell? ⟨b, 0, none⟩ = some (.pointer (some ⟨b, 0, none⟩)) := by rw [Lib.cell_of_heap hb2]; rfl
  have d1 : w2.cell? ⟨b, 1, none⟩ = some v := by rw [Lib.cell_of_heap hb2]; rfl
  have f1 : w2.frozen? ⟨b, 1, none⟩ = false := Lib.frozen_of_heap hb2 1
  obtain ⟨ao, n', cap, rfl⟩ : ∃ ao n' cap, v' = .slice ao n' cap := by
    rcases hown'.2 with ⟨hv, _⟩ | ⟨g, cap, cur, fz, hv, _⟩
    · exact ⟨_, _, _, hv⟩
    · exact ⟨_, _, _, hv⟩
  go_wp2
  go_ret2
  refine ⟨rfl, .inr ?_, ?_, (hk1.grown hgrow (Lib.ownsRowF_kind hown)).setCell ⟨b, 1, none⟩ rfl _⟩
  · have e1 : Lib.byteCells (l ++ s.data.toList) = Lib.byteCells l ++ Lib.strCells s := by rw [Lib.strCells_eq, Lib.byteCells_append]
    rw [e1]
    exact Lib.BuilderAtF.put (T := 74) (e := 5) hB hb2 (bs' := Lib.byteCells l ++ Lib.strCells s) (by rw [List.length_append, Lib.strCells_length, hcl]; exact hown') (by decide)
  · exact (hb1.grown hgrow (by have := hb1.size; omega) (fun k hk => (hown.lt k hk).1)).setCell (p := ⟨b, 1, none⟩) hB _

theorem string_any (B b : Nat) (l : Bs) (w : World) (h : Bd B b l w) (hBw : B ≤ w.heap.size) :
    Calls Tryz.prog 25 #[.pointer (some ⟨b, 0, none⟩)] w fun e w' => e = .returned (.string ⟨l.toArray⟩) ∧ Below B w w' := by
  refine (Any.Builder_String_any_k layBString layBSExtra B b l w h hBw).mono ?_
  rintro e w' ⟨rfl, _, hb, _⟩
  exact ⟨rfl, hb⟩

theorem belowG (w : World) (k : Nat) (os : Array Obj) : Below w.heap.size w (Go.Sort.grow (w.drewN k) os) :=
  ⟨rfl, rfl, rfl, by simp [Go.Sort.grow], fun j hj => by simp [Go.Sort.grow, Array.getElem?_append_left, hj]⟩

theorem itoa_any (n : Int) (h0 : 0 ≤ n) (h1 : n ≤ 999999999) (w : World) (hg : Gl w) :
    Calls Tryz.prog 64 #[.int .i64 n] w fun e w' => e = .returned (.string ⟨(Lib.itoa n).toArray⟩) ∧ Below w.heap.size w w' := by
  refine (Any.strconv_Itoa layItoa n (by omega) (by omega) w hg.pw).mono ?_
  rintro e w' ⟨rfl, k, os, hw⟩
  refine ⟨rfl, ?_⟩
  rw [hw]
  exact belowG w k os

end Go.Proofs.YtijchmcajhdcoaaGreatDoor

/-!
  A token as it stands in a text, and lex.Write, each by a contract. No condition but that the tokens are such as Scan tells, and that the table of powers of ten holds what the library's text lays there.
-/
namespace Go.Proofs.YtijchmcajhdcoaaGreatDoor
open Go.RowKit

theorem txt_app (a b : Bs) : (⟨a.toArray⟩ : ByteArray) ++ ⟨b.toArray⟩ = ⟨(a ++ b).toArray⟩ := by
  apply ByteArray.ext
  rw [ByteArray.data_append]
  simp

set_option maxHeartbeats 800000 in
set_option maxRecDepth 100000 in
theorem standing_any (t : Tk) (ht : Gd t) (hs : t.text.length ≤ 4000000) (w : World) (hg : Gl w) :
    Calls Tryz.prog 51 #[.agg #[.int .i64 t.kind, .string ⟨t.text.toArray⟩, .int .i64 t.num, .int .u64 t.id, .int .i64 t.pos]] w fun e w' => e = .returned (.string ⟨(st t).toArray⟩) ∧ Below w.heap.size w w' := by
  obtain ⟨n0, n1⟩ := ht.num
  obtain ⟨i0, i1⟩ := ht.id
  have HST : Hid (st t = _) := rfl
  obtain ⟨k, x, m, i, p⟩ := t
  obtain ⟨y, hy⟩ : ∃ y : ByteArray, y = ⟨x.toArray⟩ := ⟨_, rfl⟩
  have hys : y.size ≤ 4000000 := by rw [hy]; exact hs
  simp only at n0 n1 i0 i1 ⊢
  rw [← hy]
  have HY : Hid (y = _) := hy
  clear hy
  have hgb : ∀ o, Gl (w.alloc o) := fun o => hg.below ((Below.refl _ w).alloc (Nat.le_refl _) o)
  have hit := fun w hg => itoa_any m n0 n1 w hg
  have hhx := fun w => hex_any i i0 i1 w
  by_cases h2 : k = 2
  · subst h2
    have HS : Hid (st ⟨2, x, m, i, p⟩ = Lib.itoa m) := by show _ = _; simp [st]
    go_enter Tryz.func51, Tryz.ntmps51
    go_wp2_with (go_at_call 64; refine (hit _ (hgb _)).mono ?_; rintro e w2 ⟨rfl, hb⟩)
    go_ret
    exact ⟨by rw [HS.out]; rfl, ((Below.refl _ w).alloc (Nat.le_refl _) _).trans (hb.mono (by simp))⟩
  have e2 : (k == 2) = false := by simpa using h2
  by_cases h3 : k = 3
  · subst h3
    have HS : Hid (st ⟨3, x, m, i, p⟩ = 39 :: (x ++ [39])) := by show _ = _; simp [st]
    go_enter Tryz.func51, Tryz.ntmps51
    go_wp2
    go_ret
    refine ⟨?_, (Below.refl _ w).alloc (Nat.le_refl _) _⟩
    rw [HS.out, HY.out]
    show Ending.returned (Value.string (((⟨[(39 : UInt8)].toArray⟩ : ByteArray) ++ ⟨x.toArray⟩) ++ ⟨[(39 : UInt8)].toArray⟩)) = _
    rw [txt_app, txt_app]
    rfl
  have e3 : (k == 3) = false := by simpa using h3
  by_cases h4 : k = 4
  · subst h4
    have HS : Hid (st ⟨4, x, m, i, p⟩ = 35 :: hexTail i 16) := by show _ = _; simp [st]
    have hhs : (hexS i).size = 16 := by show (hexTail i 16).toArray.size = 16; rw [List.size_toArray, hexTail_length]
    go_enter Tryz.func51, Tryz.ntmps51
    go_wp2_with (go_at_call 65; refine (hhx _).mono ?_; rintro e w2 ⟨rfl, hb⟩)
    go_ret
    refine ⟨?_, ((Below.refl _ w).alloc (Nat.le_refl _) _).trans (hb.mono (by simp))⟩
    rw [HS.out]
    show Ending.returned (Value.string ((⟨[(35 : UInt8)].toArray⟩ : ByteArray) ++ ⟨(hexTail i 16).toArray⟩)) = _
    rw [txt_app]
    rfl
  · have e4 : (k == 4) = false := by simpa using h4
    have HS : Hid (st ⟨k, x, m, i, p⟩ = x) := by show _ = _; simp [st, h2, h3, h4]
    go_enter Tryz.func51, Tryz.ntmps51
    go_wp2
    go_ret
    exact ⟨by rw [HS.out, HY.out]; rfl, (Below.refl _ w).alloc (Nat.le_refl _) _⟩

theorem Box5.kept {w w' : World} {B b : Nat} {t : TypeId} {a1 a2 a3 a4 a5 : Value} (h : Box5 w B t a1 a2 a3 a4 a5) (k : Lib.OthersKept 5 (some b) w w') (hb : B ≠ b) (ht : t ≠ 5) : Box5 w' B t a1 a2 a3 a4 a5 := by
  refine k B _ h ?_ ?_
  · simpa using hb
  · intro c fz q
    injection q with _ h2 _
    exact ht h2

theorem RdG.tok {w : World} {b off : Nat} {ts : List Tk} (h : RdG encT w (some ⟨b, off, none⟩) ts) {i : Nat} {t : Tk} (hx : ts[i]? = some t) : b < w.heap.size ∧
    w.cell? ⟨b, off + i * 5, none⟩ = some (.int .i64 t.kind) ∧ w.cell? ⟨b, off + i * 5 + 1, none⟩ = some (.string ⟨t.text.toArray⟩) ∧ w.cell? ⟨b, off + i * 5 + 2, none⟩ = some (.int .i64 t.num) ∧ w.cell? ⟨b, off + i * 5 + 3, none⟩ = some (.int .u64 t.id) ∧ w.cell? ⟨b, off + i * 5 + 4, none⟩ = some (.int .i64 t.pos) := by
  obtain ⟨b', off', e', hlt, hc⟩ := h (by rcases Nat.lt_or_ge i ts.length with q | q
                                          · omega
                                          · rw [List.getElem?_eq_none q] at hx; cases hx)
  obtain ⟨rfl, rfl⟩ : b = b' ∧ off = off' := by simpa using e'
  have h0 := hc i t hx 0 _ rfl
  have h1 := hc i t hx 1 _ rfl
  have h2 := hc i t hx 2 _ rfl
  have h3 := hc i t hx 3 _ rfl
  have h4 := hc i t hx 4 _ rfl
  exact ⟨hlt, by simpa [encT] using h0, by simpa [encT, Nat.add_assoc] using h1, by simpa [encT, Nat.add_assoc] using h2, by simpa [encT, Nat.add_assoc] using h3, by simpa [encT, Nat.add_assoc] using h4⟩

set_option maxHeartbeats 1600000 in
set_option maxRecDepth 100000 in
theorem lwrite_any {ao : Option Addr} {n c : Nat} {ts : List Tk} (w : World) (hr : RdG encT w ao ts) (hl : ts.length = n) (hc : n ≤ c) (hn : n ≤ 100000) (hgd : ∀ t ∈ ts, Gd t) (hlen : (wr ts).length ≤ 100000) (hg : Gl w) :
    Calls Tryz.prog 38 #[.slice ao n c] w fun e w' => e = .returned (.string ⟨(wr ts).toArray⟩) ∧ Below w.heap.size w w' := by
  have H : Hid (RdG encT w ao ts ∧ ts.length = n ∧ (∀ t ∈ ts, Gd t) ∧ (wr ts).length ≤ 100000 ∧ Gl w) := ⟨hr, hl, hgd, hlen, hg⟩
  clear hr hl hgd hlen hg
  go_enter Tryz.func38, Tryz.ntmps38
  go_wp2_with fail
  go_loopg [8] n (fun g v u => ∃ (i : Nat), v = .int .i64 i ∧ i + g = n ∧ Hid (Bd w.heap.size w.heap.size (wr (ts.take i)) u) ∧ Hid (Below w.heap.size w u))
  case atStart => exact ⟨0, rfl, by omega, by rw [List.take_zero]; exact Bd.new w, (Below.refl _ w).alloc (Nat.le_refl _) _⟩
  case round =>
    obtain ⟨i, rfl, hi, HB, HW⟩ := hrel
    by_cases hin : i < n
    · obtain ⟨h1, h2, h3, h4, h5⟩ := H.out
      have hii : (i : Int) < (n : Int) := by omega
      obtain ⟨t, ht⟩ : ∃ t, ts[i]? = some t := ⟨_, List.getElem?_eq_getElem (by omega)⟩
      have hgt := h3 t (List.mem_of_getElem? ht)
      obtain ⟨tb, off, rfl, _⟩ := h1.some_of ht
      obtain ⟨hlt, k0, k1, k2, k3, k4⟩ := h1.tok ht
      have hm : ∀ j, wr.cell? ⟨tb, j, none⟩ = w.cell? ⟨tb, j, none⟩ := fun j => HW.out.cell (p := ⟨tb, j, none⟩) hlt
      rw [← hm] at k0 k1 k2 k3 k4
      have hstl := wr_take ts (i + 1)
      have hwl := wr_take ts i
      have HT : Hid (ts[i]? = some t) := ht
      have HGT : Hid (Gd t) := hgt
      have HGL : Hid (Gl w) := h5
      clear h1 h2 h3 h5 hm ht hgt
      have hst : Hid (∀ u, Gl u → Calls Tryz.prog 51 #[.agg #[.int .i64 t.kind, .string ⟨t.text.toArray⟩, .int .i64 t.num, .int .u64 t.id, .int .i64 t.pos]] u fun e w' => e = .returned (.string ⟨(st t).toArray⟩) ∧ Below u.heap.size u w') :=
        fun u hu => standing_any t HGT.out (by
          have h6 := HGT.out.txt
          by_cases q : 0 < i
          · have := wr_next ts i t HT.out q
            rw [this, List.length_append, List.length_cons] at hstl
            omega
          · obtain rfl : i = 0 := by omega
            have := wr_first ts t HT.out
            rw [this] at hstl
            omega) u hu
      obtain ⟨tk, tx, tm, ti, tp⟩ := t
      obtain ⟨y, hy⟩ : ∃ y : ByteArray, y = ⟨tx.toArray⟩ := ⟨_, rfl⟩
      obtain ⟨z, hz⟩ : ∃ z : ByteArray, z = ⟨(st ⟨tk, tx, tm, ti, tp⟩).toArray⟩ := ⟨_, rfl⟩
      have hzd : z.data.toList = st ⟨tk, tx, tm, ti, tp⟩ := by rw [hz]
      have hzs : z.size = (st ⟨tk, tx, tm, ti, tp⟩).length := by rw [hz]; rfl
      simp only at hst k0 k1 k2 k3 k4
      rw [← hy] at k1 hst
      rw [← hz] at hst
      have HZ : Hid (_ = _) := hzd
      clear hy hz hzd
      by_cases h0 : 0 < i
      · have h0i : (0 : Int) < (i : Int) := by omega
        have HN := wr_next ts i _ HT.out h0
        have HNN : Hid (_ = _) := HN
        have hlen2 : (YtijchmcajhdcoaaGreatDoor.wr (ts.take i)).length + 1 + z.size ≤ 100000 := by
          rw [HN, List.length_append, List.length_cons] at hstl
          omega
        clear hstl hwl h4 HN hzs
        obtain ⟨L, hL⟩ : ∃ L, YtijchmcajhdcoaaGreatDoor.wr (ts.take i) = L := ⟨_, rfl⟩
        rw [hL] at HB HNN hlen2
        clear hL
        go_wp2_with fail
        refine (write_any w.heap.size w.heap.size L ⟨#[32]⟩ _ (HB.out.below (bz1 _ _)) (by show L.length + 1 ≤ _; omega) (by have := HW.out.size; simp; omega)).mono ?_
        rintro e w2 ⟨rfl, hB2, hb2, hk2⟩
        have hx2 := (Box5.new wr 51 (.int .i64 tk) (.string y) (.int .i64 tm) (.int .u64 ti) (.int .i64 tp)).kept hk2 (by have := HB.out.lt; omega) (by decide)
        obtain ⟨d0, d1, d2, d3, d4⟩ := hx2.cells
        have b2 := (HW.out.trans ((bz1 wr _).mono HW.out.size)).trans hb2
        have HB2 : Hid (Bd _ _ _ w2 ∧ Below _ w w2) := ⟨hB2, b2⟩
        clear hB2 hb2 hk2 hx2 b2
        go_wp2_with fail
        refine (hst.out _ (HGL.out.below HB2.out.2)).mono ?_
        rintro e w3 ⟨rfl, hb3⟩
        have b3 := HB2.out.2.trans (hb3.mono HB2.out.2.size)
        have HB3 : Hid (Bd _ _ _ w3 ∧ Below _ w w3) := ⟨HB2.out.1.below hb3, b3⟩
        clear hb3 b3
        go_wp2_with fail
        refine (write_any w.heap.size w.heap.size _ z _ HB3.out.1 (by show (L ++ [32]).length + z.size ≤ _; rw [List.length_append, List.length_singleton]; omega) HB3.out.2.size).mono ?_
        rintro e w4 ⟨rfl, hB4, hb4, _⟩
        go_wp2_with fail
        go_roundg (gk - 1)
        case measure => omega
        case rel =>
          refine ⟨i + 1, by go_num, by omega, ?_, HB3.out.2.trans hb4⟩
          show Bd _ _ _ _
          rw [HNN.out, ← HZ.out]
          have e1 : L ++ 32 :: z.data.toList = L ++ [32] ++ z.data.toList := by simp
          rw [e1]
          exact hB4
      · have h0i : ¬ (0 : Int) < (i : Int) := by omega
        have HN : YtijchmcajhdcoaaGreatDoor.wr (ts.take (i + 1)) = YtijchmcajhdcoaaGreatDoor.wr (ts.take i) ++ st ⟨tk, tx, tm, ti, tp⟩ := by
          obtain rfl : i = 0 := by omega
          exact wr_first ts _ HT.out
        have HNN : Hid (_ = _) := HN
        have hlen2 : (YtijchmcajhdcoaaGreatDoor.wr (ts.take i)).length + z.size ≤ 100000 := by
          rw [HN, List.length_append] at hstl
          omega
        clear hstl hwl h4 HN hzs
        obtain ⟨L, hL⟩ : ∃ L, YtijchmcajhdcoaaGreatDoor.wr (ts.take i) = L := ⟨_, rfl⟩
        rw [hL] at HB HNN hlen2
        clear hL
        have HB2 : Hid (Bd _ _ _ (wr.alloc (.cells #[.int .i64 tk, .string y, .int .i64 tm, .int .u64 ti, .int .i64 tp] 51)) ∧ Below w.heap.size w (wr.alloc (.cells #[.int .i64 tk, .string y, .int .i64 tm, .int .u64 ti, .int .i64 tp] 51))) := ⟨HB.out.below (bz1 _ _), HW.out.trans ((bz1 wr _).mono HW.out.size)⟩
        go_wp2_with fail
        refine (hst.out _ (HGL.out.below HB2.out.2)).mono ?_
        rintro e w3 ⟨rfl, hb3⟩
        have b3 := HB2.out.2.trans (hb3.mono HB2.out.2.size)
        have HB3 : Hid (Bd _ _ _ w3 ∧ Below _ w w3) := ⟨HB2.out.1.below hb3, b3⟩
        clear hb3 b3
        go_wp2_with fail
        refine (write_any w.heap.size w.heap.size _ z _ HB3.out.1 (by omega) HB3.out.2.size).mono ?_
        rintro e w4 ⟨rfl, hB4, hb4, _⟩
        go_wp2_with fail
        go_roundg (gk - 1)
        case measure => omega
        case rel =>
          refine ⟨i + 1, by go_num, by omega, ?_, HB3.out.2.trans hb4⟩
          show Bd _ _ _ _
          rw [HNN.out, ← HZ.out]
          exact hB4
    · obtain rfl : i = n := by omega
      have e1 : ts.take i = ts := List.take_of_length_le (by rw [H.out.2.1]; exact Nat.le_refl _)
      rw [e1] at HB
      clear e1
      go_wp2_with fail
      refine (string_any w.heap.size w.heap.size _ _ HB.out HW.out.size).mono ?_
      rintro e w2 ⟨rfl, hb2⟩
      go_wp2_with fail
      go_ret
      exact ⟨rfl, HW.out.trans hb2⟩

end Go.Proofs.YtijchmcajhdcoaaGreatDoor
