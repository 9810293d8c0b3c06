/-
  A token as it stands in a text, and lex.Write, each by a contract. No condition but that the tokens are such as Scan tells, and that the table of powers of ten holds what the library's text lays there.
-/
import Derived.Test.YtdgdckmhmmigkaaDoorELBld
namespace Go.Proofs.YtdgdckmhmmigkaaDoor
open Go.RowKit

theorem txt_app (a b : Bs) : (⟨a.toArray⟩ : ByteArray) ++ ⟨b.toArray⟩ = ⟨(a ++ b).toArray⟩ := by
  apply ByteArray.ext
  rw [ByteArray.data_append]
  simp

set_option maxHeartbeats 800000 in
set_option maxRecDepth 100000 in
theorem standing_any (t : Tk) (ht : Gd t) (hs : t.text.length ≤ 4000000) (w : World) (hg : Gl w) :
    Calls Tryd.prog 45 #[.agg #[.int .i64 t.kind, .string ⟨t.text.toArray⟩, .int .i64 t.num, .int .u64 t.id, .int .i64 t.pos]] w fun e w' => e = .returned (.string ⟨(st t).toArray⟩) ∧ Below w.heap.size w w' := by
  obtain ⟨n0, n1⟩ := ht.num
  obtain ⟨i0, i1⟩ := ht.id
  have HST : Hid (st t = _) := rfl
  obtain ⟨k, x, m, i, p⟩ := t
  obtain ⟨y, hy⟩ : ∃ y : ByteArray, y = ⟨x.toArray⟩ := ⟨_, rfl⟩
  have hys : y.size ≤ 4000000 := by rw [hy]; exact hs
  simp only at n0 n1 i0 i1 ⊢
  rw [← hy]
  have HY : Hid (y = _) := hy
  clear hy
  have hgb : ∀ o, Gl (w.alloc o) := fun o => hg.below ((Below.refl _ w).alloc (Nat.le_refl _) o)
  have hit := fun w hg => itoa_any m n0 n1 w hg
  have hhx := fun w => hex_any i i0 i1 w
  by_cases h2 : k = 2
  · subst h2
    have HS : Hid (st ⟨2, x, m, i, p⟩ = Lib.itoa m) := by show _ = _; simp [st]
    go_enter Tryd.func45, Tryd.ntmps45
    go_wp2_with (go_at_call 58; refine (hit _ (hgb _)).mono ?_; rintro e w2 ⟨rfl, hb⟩)
    go_ret
    exact ⟨by rw [HS.out]; rfl, ((Below.refl _ w).alloc (Nat.le_refl _) _).trans (hb.mono (by simp))⟩
  have e2 : (k == 2) = false := by simpa using h2
  by_cases h3 : k = 3
  · subst h3
    have HS : Hid (st ⟨3, x, m, i, p⟩ = 39 :: (x ++ [39])) := by show _ = _; simp [st]
    go_enter Tryd.func45, Tryd.ntmps45
    go_wp2
    go_ret
    refine ⟨?_, (Below.refl _ w).alloc (Nat.le_refl _) _⟩
    rw [HS.out, HY.out]
    show Ending.returned (Value.string (((⟨[(39 : UInt8)].toArray⟩ : ByteArray) ++ ⟨x.toArray⟩) ++ ⟨[(39 : UInt8)].toArray⟩)) = _
    rw [txt_app, txt_app]
    rfl
  have e3 : (k == 3) = false := by simpa using h3
  by_cases h4 : k = 4
  · subst h4
    have HS : Hid (st ⟨4, x, m, i, p⟩ = 35 :: hexTail i 16) := by show _ = _; simp [st]
    have hhs : (hexS i).size = 16 := by show (hexTail i 16).toArray.size = 16; rw [List.size_toArray, hexTail_length]
    go_enter Tryd.func45, Tryd.ntmps45
    go_wp2_with (go_at_call 59; refine (hhx _).mono ?_; rintro e w2 ⟨rfl, hb⟩)
    go_ret
    refine ⟨?_, ((Below.refl _ w).alloc (Nat.le_refl _) _).trans (hb.mono (by simp))⟩
    rw [HS.out]
    show Ending.returned (Value.string ((⟨[(35 : UInt8)].toArray⟩ : ByteArray) ++ ⟨(hexTail i 16).toArray⟩)) = _
    rw [txt_app]
    rfl
  · have e4 : (k == 4) = false := by simpa using h4
    have HS : Hid (st ⟨k, x, m, i, p⟩ = x) := by show _ = _; simp [st, h2, h3, h4]
    go_enter Tryd.func45, Tryd.ntmps45
    go_wp2
    go_ret
    exact ⟨by rw [HS.out, HY.out]; rfl, (Below.refl _ w).alloc (Nat.le_refl _) _⟩

theorem Box5.kept {w w' : World} {B b : Nat} {t : TypeId} {a1 a2 a3 a4 a5 : Value} (h : Box5 w B t a1 a2 a3 a4 a5) (k : Lib.OthersKept 5 (some b) w w') (hb : B ≠ b) (ht : t ≠ 5) : Box5 w' B t a1 a2 a3 a4 a5 := by
  refine k B _ h ?_ ?_
  · simpa using hb
  · intro c fz q
    injection q with _ h2 _
    exact ht h2

theorem RdG.tok {w : World} {b off : Nat} {ts : List Tk} (h : RdG encT w (some ⟨b, off, none⟩) ts) {i : Nat} {t : Tk} (hx : ts[i]? = some t) : b < w.heap.size ∧
    w.cell? ⟨b, off + i * 5, none⟩ = some (.int .i64 t.kind) ∧ w.cell? ⟨b, off + i * 5 + 1, none⟩ = some (.string ⟨t.text.toArray⟩) ∧ w.cell? ⟨b, off + i * 5 + 2, none⟩ = some (.int .i64 t.num) ∧ w.cell? ⟨b, off + i * 5 + 3, none⟩ = some (.int .u64 t.id) ∧ w.cell? ⟨b, off + i * 5 + 4, none⟩ = some (.int .i64 t.pos) := by
  obtain ⟨b', off', e', hlt, hc⟩ := h (by rcases Nat.lt_or_ge i ts.length with q | q
                                          · omega
                                          · rw [List.getElem?_eq_none q] at hx; cases hx)
  obtain ⟨rfl, rfl⟩ : b = b' ∧ off = off' := by simpa using e'
  have h0 := hc i t hx 0 _ rfl
  have h1 := hc i t hx 1 _ rfl
  have h2 := hc i t hx 2 _ rfl
  have h3 := hc i t hx 3 _ rfl
  have h4 := hc i t hx 4 _ rfl
  exact ⟨hlt, by simpa [encT] using h0, by simpa [encT, Nat.add_assoc] using h1, by simpa [encT, Nat.add_assoc] using h2, by simpa [encT, Nat.add_assoc] using h3, by simpa [encT, Nat.add_assoc] using h4⟩

set_option maxHeartbeats 1600000 in
set_option maxRecDepth 100000 in
theorem lwrite_any {ao : Option Addr} {n c : Nat} {ts : List Tk} (w : World) (hr : RdG encT w ao ts) (hl : ts.length = n) (hc : n ≤ c) (hn : n ≤ 100000) (hgd : ∀ t ∈ ts, Gd t) (hlen : (wr ts).length ≤ 100000) (hg : Gl w) :
    Calls Tryd.prog 32 #[.slice ao n c] w fun e w' => e = .returned (.string ⟨(wr ts).toArray⟩) ∧ Below w.heap.size w w' := by
  have H : Hid (RdG encT w ao ts ∧ ts.length = n ∧ (∀ t ∈ ts, Gd t) ∧ (wr ts).length ≤ 100000 ∧ Gl w) := ⟨hr, hl, hgd, hlen, hg⟩
  clear hr hl hgd hlen hg
  go_enter Tryd.func32, Tryd.ntmps32
  go_wp2_with fail
  go_loopg [8] n (fun g v u => ∃ (i : Nat), v = .int .i64 i ∧ i + g = n ∧ Hid (Bd w.heap.size w.heap.size (wr (ts.take i)) u) ∧ Hid (Below w.heap.size w u))
  case atStart => exact ⟨0, rfl, by omega, by rw [List.take_zero]; exact Bd.new w, (Below.refl _ w).alloc (Nat.le_refl _) _⟩
  case round =>
    obtain ⟨i, rfl, hi, HB, HW⟩ := hrel
    by_cases hin : i < n
    · obtain ⟨h1, h2, h3, h4, h5⟩ := H.out
      have hii : (i : Int) < (n : Int) := by omega
      obtain ⟨t, ht⟩ : ∃ t, ts[i]? = some t := ⟨_, List.getElem?_eq_getElem (by omega)⟩
      have hgt := h3 t (List.mem_of_getElem? ht)
      obtain ⟨tb, off, rfl, _⟩ := h1.some_of ht
      obtain ⟨hlt, k0, k1, k2, k3, k4⟩ := h1.tok ht
      have hm : ∀ j, wr.cell? ⟨tb, j, none⟩ = w.cell? ⟨tb, j, none⟩ := fun j => HW.out.cell (p := ⟨tb, j, none⟩) hlt
      rw [← hm] at k0 k1 k2 k3 k4
      have hstl := wr_take ts (i + 1)
      have hwl := wr_take ts i
      have HT : Hid (ts[i]? = some t) := ht
      have HGT : Hid (Gd t) := hgt
      have HGL : Hid (Gl w) := h5
      clear h1 h2 h3 h5 hm ht hgt
      have hst : Hid (∀ u, Gl u → Calls Tryd.prog 45 #[.agg #[.int .i64 t.kind, .string ⟨t.text.toArray⟩, .int .i64 t.num, .int .u64 t.id, .int .i64 t.pos]] u fun e w' => e = .returned (.string ⟨(st t).toArray⟩) ∧ Below u.heap.size u w') :=
        fun u hu => standing_any t HGT.out (by
          have h6 := HGT.out.txt
          by_cases q : 0 < i
          · have := wr_next ts i t HT.out q
            rw [this, List.length_append, List.length_cons] at hstl
            omega
          · obtain rfl : i = 0 := by omega
            have := wr_first ts t HT.out
            rw [this] at hstl
            omega) u hu
      obtain ⟨tk, tx, tm, ti, tp⟩ := t
      obtain ⟨y, hy⟩ : ∃ y : ByteArray, y = ⟨tx.toArray⟩ := ⟨_, rfl⟩
      obtain ⟨z, hz⟩ : ∃ z : ByteArray, z = ⟨(st ⟨tk, tx, tm, ti, tp⟩).toArray⟩ := ⟨_, rfl⟩
      have hzd : z.data.toList = st ⟨tk, tx, tm, ti, tp⟩ := by rw [hz]
      have hzs : z.size = (st ⟨tk, tx, tm, ti, tp⟩).length := by rw [hz]; rfl
      simp only at hst k0 k1 k2 k3 k4
      rw [← hy] at k1 hst
      rw [← hz] at hst
      have HZ : Hid (_ = _) := hzd
      clear hy hz hzd
      by_cases h0 : 0 < i
      · have h0i : (0 : Int) < (i : Int) := by omega
        have HN := wr_next ts i _ HT.out h0
        have HNN : Hid (_ = _) := HN
        have hlen2 : (YtdgdckmhmmigkaaDoor.wr (ts.take i)).length + 1 + z.size ≤ 100000 := by
          rw [HN, List.length_append, List.length_cons] at hstl
          omega
        clear hstl hwl h4 HN hzs
        obtain ⟨L, hL⟩ : ∃ L, YtdgdckmhmmigkaaDoor.wr (ts.take i) = L := ⟨_, rfl⟩
        rw [hL] at HB HNN hlen2
        clear hL
        go_wp2_with fail
        refine (write_any w.heap.size w.heap.size L ⟨#[32]⟩ _ (HB.out.below (bz1 _ _)) (by show L.length + 1 ≤ _; omega) (by have := HW.out.size; simp; omega)).mono ?_
        rintro e w2 ⟨rfl, hB2, hb2, hk2⟩
        have hx2 := (Box5.new wr 57 (.int .i64 tk) (.string y) (.int .i64 tm) (.int .u64 ti) (.int .i64 tp)).kept hk2 (by have := HB.out.lt; omega) (by decide)
        obtain ⟨d0, d1, d2, d3, d4⟩ := hx2.cells
        have b2 := (HW.out.trans ((bz1 wr _).mono HW.out.size)).trans hb2
        have HB2 : Hid (Bd _ _ _ w2 ∧ Below _ w w2) := ⟨hB2, b2⟩
        clear hB2 hb2 hk2 hx2 b2
        go_wp2_with fail
        refine (hst.out _ (HGL.out.below HB2.out.2)).mono ?_
        rintro e w3 ⟨rfl, hb3⟩
        have b3 := HB2.out.2.trans (hb3.mono HB2.out.2.size)
        have HB3 : Hid (Bd _ _ _ w3 ∧ Below _ w w3) := ⟨HB2.out.1.below hb3, b3⟩
        clear hb3 b3
        go_wp2_with fail
        refine (write_any w.heap.size w.heap.size _ z _ HB3.out.1 (by show (L ++ [32]).length + z.size ≤ _; rw [List.length_append, List.length_singleton]; omega) HB3.out.2.size).mono ?_
        rintro e w4 ⟨rfl, hB4, hb4, _⟩
        go_wp2_with fail
        go_roundg (gk - 1)
        case measure => omega
        case rel =>
          refine ⟨i + 1, by go_num, by omega, ?_, HB3.out.2.trans hb4⟩
          show Bd _ _ _ _
          rw [HNN.out, ← HZ.out]
          have e1 : L ++ 32 :: z.data.toList = L ++ [32] ++ z.data.toList := by simp
          rw [e1]
          exact hB4
      · have h0i : ¬ (0 : Int) < (i : Int) := by omega
        have HN : YtdgdckmhmmigkaaDoor.wr (ts.take (i + 1)) = YtdgdckmhmmigkaaDoor.wr (ts.take i) ++ st ⟨tk, tx, tm, ti, tp⟩ := by
          obtain rfl : i = 0 := by omega
          exact wr_first ts _ HT.out
        have HNN : Hid (_ = _) := HN
        have hlen2 : (YtdgdckmhmmigkaaDoor.wr (ts.take i)).length + z.size ≤ 100000 := by
          rw [HN, List.length_append] at hstl
          omega
        clear hstl hwl h4 HN hzs
        obtain ⟨L, hL⟩ : ∃ L, YtdgdckmhmmigkaaDoor.wr (ts.take i) = L := ⟨_, rfl⟩
        rw [hL] at HB HNN hlen2
        clear hL
        have HB2 : Hid (Bd _ _ _ (wr.alloc (.cells #[.int .i64 tk, .string y, .int .i64 tm, .int .u64 ti, .int .i64 tp] 57)) ∧ Below w.heap.size w (wr.alloc (.cells #[.int .i64 tk, .string y, .int .i64 tm, .int .u64 ti, .int .i64 tp] 57))) := ⟨HB.out.below (bz1 _ _), HW.out.trans ((bz1 wr _).mono HW.out.size)⟩
        go_wp2_with fail
        refine (hst.out _ (HGL.out.below HB2.out.2)).mono ?_
        rintro e w3 ⟨rfl, hb3⟩
        have b3 := HB2.out.2.trans (hb3.mono HB2.out.2.size)
        have HB3 : Hid (Bd _ _ _ w3 ∧ Below _ w w3) := ⟨HB2.out.1.below hb3, b3⟩
        clear hb3 b3
        go_wp2_with fail
        refine (write_any w.heap.size w.heap.size _ z _ HB3.out.1 (by omega) HB3.out.2.size).mono ?_
        rintro e w4 ⟨rfl, hB4, hb4, _⟩
        go_wp2_with fail
        go_roundg (gk - 1)
        case measure => omega
        case rel =>
          refine ⟨i + 1, by go_num, by omega, ?_, HB3.out.2.trans hb4⟩
          show Bd _ _ _ _
          rw [HNN.out, ← HZ.out]
          exact hB4
    · obtain rfl : i = n := by omega
      have e1 : ts.take i = ts := List.take_of_length_le (by rw [H.out.2.1]; exact Nat.le_refl _)
      rw [e1] at HB
      clear e1
      go_wp2_with fail
      refine (string_any w.heap.size w.heap.size _ _ HB.out HW.out.size).mono ?_
      rintro e w2 ⟨rfl, hb2⟩
      go_wp2_with fail
      go_ret
      exact ⟨rfl, HW.out.trans hb2⟩

end Go.Proofs.YtdgdckmhmmigkaaDoor
