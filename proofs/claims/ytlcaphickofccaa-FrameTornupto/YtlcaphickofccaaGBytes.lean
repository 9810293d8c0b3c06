/-
  Bytes in memory: those that can be read, those in a row of the call's own; texts of bytes and bytes of texts; pieces, copies, parts put together (slices.Clone, Grow and Concat where the cut has them). No program but the numbers of types; no condition but that what is made fits any memory.
-/
import Derived.Test.YtlcaphickofccaaGMore
import Derived.Test.YtlcaphickofccaaGClass
import Derived.Lib.AppendZeros
import Derived.Lib.SlBytesConst
import Derived.Laws.IdiomStrings
import Derived.Deep.RegionHeld3
namespace Go.Proofs.Ytlcaphickofccaa
open Go.RowKit

/-- Bytes. -/
def encB : Enc UInt8 := ⟨fun b => [.int .u8 (b.toNat : Int)], 1, fun _ => rfl, by decide, by intro x u h; simp at h; subst h; rfl⟩

/-- A slice of bytes that can be read. -/
def BAt (w : World) (v : Value) (bs : Bs) : Prop := ∃ ao c, v = .slice ao bs.length c ∧ bs.length ≤ c ∧ c ≤ 9223372036854775807 ∧ RdG encB w ao bs

/-- A slice of bytes in a row of its own. -/
abbrev OwnB (w : World) (v : Value) (bs : Bs) : Prop := OwnG encB 5 w 0 v bs

theorem OwnB.at {w : World} {v : Value} {bs : Bs} (h : OwnB w v bs) : BAt w v bs := by
  obtain ⟨ao, c, e, h1, h2, h3, _⟩ := OwnG.form h
  exact ⟨ao, c, e, h1, h2, h3⟩

theorem BAt.below {w w' : World} {v : Value} {bs : Bs} (h : BAt w v bs) (hb : Below w.heap.size w w') : BAt w' v bs := by
  obtain ⟨ao, c, e, h1, h2, h3⟩ := h
  exact ⟨ao, c, e, h1, h2, h3.below hb⟩

theorem below_drew {w w' : World} (h : Below w.drew.heap.size w.drew w') : Below w.heap.size w w' := ⟨h.os, h.tape, h.output, h.size, h.block⟩

theorem Try.info5 : (Try.prog.info? 5).map (fun i => (i.zero, i.size, i.bytes)) = some (some (.int .u8 0), 1, 1) := by kernel_rfl

theorem ownB_zero (w : World) : OwnG encB 5 (w.alloc (.cells #[] 5)) w.heap.size (.slice (some ⟨w.heap.size, 0, none⟩) 0 0) [] :=
  World.ownsRow_made w #[] 0 (Nat.le_refl _) (Nat.zero_le _) rfl

/-- Bytes more behind a row of the call's own. -/
theorem appB {ops : Array Oper} {rest : List Oper} {o : Oper} {a : Act} {w : World} {Q : Exit → Act → World → Prop} (hgd : o.guard = none) (s x : Operand)
    (hop : o.op = .call { callee := .builtin .append, args := #[s, x], argTypes := #[24, 24] }) (base : Nat) (v u : Value) (ss xs : Bs) (hs : a.eval s = v) (hown : OwnG encB 5 w base v ss)
    (hx : a.eval x = u) (hr : BAt w u xs) (hlen : ss.length + xs.length ≤ 140737488355328) (hb : base ≤ w.heap.size)
    (h : ∀ v' w', OwnG encB 5 w' base v' (ss ++ xs) → Below base w w' → Moved w v v' → Turned (fun k => v.ownBlock = some k) w w' → wpList Try.prog ops Q rest (a.put o.dst v') w') :
    wpList Try.prog ops Q (o :: rest) a w := by
  obtain ⟨ao, c, rfl, h1, h2, h3⟩ := hr
  exact appG_list encB 5 24 1 (.int .u8 0) rfl Try.info5 Try.underlying24 hgd s x hop base v ss xs ao _ c hs hown hx h3 rfl (by omega) (by simp only [maxLen]; omega) hb h

set_option maxHeartbeats 400000 in
theorem bclone_none {n c : Nat} (w : World) :
    Calls Try.prog 22 #[.slice none n c] w fun e w' => e = .returned (.slice none 0 0) ∧ w' = w := by
  have q : ∀ (w : World) (a : Option Addr) (n c n' c' : Nat), (binOp .eql 24 (.slice a n c) (.slice none n' c')).run Try.prog w = .ok (.bool a.isNone) w := fun w a n c n' c' => Lib.run_eql_slice_nil w _ _ a n c n' c' Try.underlying24
  go_enter Try.func22, Try.ntmps22
  go_wp2
  go_ret
  exact ⟨rfl, rfl⟩

set_option maxHeartbeats 400000 in
theorem bclone_some {p : Addr} {n c : Nat} {xs : Bs} (w : World) (ha : BAt w (.slice (some p) n c) xs) (hn : xs.length ≤ 140737488355328) :
    Calls Try.prog 22 #[.slice (some p) n c] w fun e w' => ∃ v', e = .returned v' ∧ OwnG encB 5 w' w.heap.size v' xs ∧ Below w.heap.size w w' := by
  have H : Hid (BAt w (.slice (some p) n c) xs) := ha
  clear ha
  have q : ∀ (w : World) (a : Option Addr) (n c n' c' : Nat), (binOp .eql 24 (.slice a n c) (.slice none n' c')).run Try.prog w = .ok (.bool a.isNone) w := fun w a n c n' c' => Lib.run_eql_slice_nil w _ _ a n c n' c' Try.underlying24
  go_enter Try.func22, Try.ntmps22
  go_wp2_with (at_builtin; (refine appB rfl (.tmp 5) (.tmp 6) rfl w.heap.size _ _ [] xs rfl (ownB_zero w) rfl (H.out.below (bz1 w _)) (by simp; omega) (by simp) ?_; intro v2 w2 hown2 hbel2 _ _))
  go_wp2
  go_ret
  rw [List.nil_append] at hown2
  exact ⟨v2, rfl, hown2, (bz1 w _).trans hbel2⟩

/-- slices.Clone of bytes: the same bytes in a new row. -/
theorem bclone_any {v : Value} {xs : Bs} (w : World) (h : BAt w v xs) (hn : xs.length ≤ 140737488355328) :
    Calls Try.prog 22 #[v] w fun e w' => ∃ v', e = .returned v' ∧ OwnG encB 5 w' w.heap.size v' xs ∧ Below w.heap.size w w' := by
  have h' := h
  obtain ⟨ao, c, rfl, h1, h2, h3⟩ := h
  cases ao with
  | none =>
    have h0 : xs = [] := by
      rcases Nat.eq_zero_or_pos xs.length with q | q
      · exact List.eq_nil_of_length_eq_zero q
      · obtain ⟨b, off, e, _⟩ := h3 q
        cases e
    subst h0
    refine (bclone_none w).mono ?_
    rintro e w' ⟨rfl, rfl⟩
    exact ⟨_, rfl, OwnG.nil _ _ _ _, Below.refl _ _⟩
  | some p => exact bclone_some w h' hn

set_option maxHeartbeats 800000 in
theorem grow_zero (w : World) : Calls Try.prog 24 #[.slice none 0 0, .int .i64 0] w fun e w' => e = .returned (.slice none 0 0) ∧ w' = w := by
  go_enter Try.func24, Try.ntmps24
  go_wp2
  go_ret
  exact ⟨rfl, rfl⟩

set_option maxHeartbeats 800000 in
theorem grow_some (w : World) (n : Nat) (h0 : 0 < n) (hn : n ≤ 140737488355328) :
    Calls Try.prog 24 #[.slice none 0 0, .int .i64 (n : Int)] w fun e w' => ∃ v', e = .returned v' ∧ OwnG encB 5 w' w.heap.size v' [] ∧ Below w.heap.size w w' := by
  obtain ⟨i0, hi0, hz0, hz1, hz2⟩ := info_parts Try.info5
  have hr := Lib.run_append_nil_zeros (P := Try.prog) w 24 3 24 5 i0 (.int .u8 0) .i64 .i64 Try.underlying24 Try.underlying3 hi0 hz0 n h0 (by rw [hz1]; decide) (by omega) (by rw [hz2]; omega)
  obtain ⟨C, hC⟩ : ∃ C, grownCap w n 0 5 = C := ⟨_, rfl⟩
  obtain ⟨Y, hY⟩ : ∃ Y, Builtin.zeroCells (Value.int .u8 0).cells n ++ Builtin.zeroCells (Value.int .u8 0).cells (grownCap w n 0 5 - n) = Y := ⟨_, rfl⟩
  have hge := grownCap_ge w n 0 5
  have hcm := grownCap_le_maxLen w n 0 5 (by simp only [maxLen]; omega)
  have hsz : Y.size = C * 1 := by
    rw [← hY, ← hC]
    simp only [Array.size_append, size_zeroCells]
    simp [Value.cells]
    omega
  rw [hY, hC] at hr
  rw [hC] at hge hcm
  have K : Hid (Y.size = C * 1 ∧ n ≤ C ∧ C ≤ maxLen) := ⟨hsz, hge, hcm⟩
  have hC1 : C ≤ 9223372036854775807 := by simpa [maxLen] using hcm
  have hR : Hid _ := hr
  clear hr hC hY hsz hcm
  have gt : decide ((0 : Int) < (n : Int)) = true := by simpa using h0
  have ng : decide ((n : Int) < 0) = false := by simp
  go_enter Try.func24, Try.ntmps24
  go_wp2_with (at_builtin; refine Lib.wpList_append_run _ rfl (.tmp 20) (.tmp 21) 24 3 rfl _ _ rfl rfl _ _ hR.out ?_)
  go_wp2
  go_ret
  refine ⟨_, rfl, ⟨rfl, .inr ⟨w.heap.size, C, Y, rfl, Nat.le_refl _, heap_alloc_new w _, Nat.zero_le _, K.out.2.2, K.out.1, ?_⟩⟩, ((Turned.refl (fun _ => False) w).alloc _).drew.below (Nat.le_refl _) (fun _ _ q => q)⟩
  simp [Enc.all]

theorem grow_any (w : World) (n : Nat) (hn : n ≤ 140737488355328) :
    Calls Try.prog 24 #[.slice none 0 0, .int .i64 (n : Int)] w fun e w' => ∃ v', e = .returned v' ∧ OwnG encB 5 w' w.heap.size v' [] ∧ Below w.heap.size w w' := by
  rcases Nat.eq_zero_or_pos n with rfl | h
  · refine (grow_zero w).mono ?_
    rintro e w' ⟨rfl, rfl⟩
    exact ⟨_, rfl, OwnG.nil _ _ _ _, Below.refl _ _⟩
  · exact grow_some w n h hn

/-- Parts: a list of slices of bytes. -/
def PartsB (w : World) (v : Value) (xss : List Bs) : Prop := ∃ ao c, v = .slice ao xss.length c ∧ (0 < xss.length → ∃ b off, ao = some ⟨b, off, none⟩ ∧ b < w.heap.size) ∧
  ∀ j x b off, xss[j]? = some x → ao = some ⟨b, off, none⟩ → ∃ u, w.cell? ⟨b, off + j, none⟩ = some u ∧ BAt w u x

theorem PartsB.below {w w' : World} {v : Value} {xss : List Bs} (h : PartsB w v xss) (hb : Below w.heap.size w w') : PartsB w' v xss := by
  obtain ⟨ao, c, e, h1, h2⟩ := h
  refine ⟨ao, c, e, fun h0 => ?_, fun j x b off hj ha => ?_⟩
  · obtain ⟨b, off, e, hlt⟩ := h1 h0
    exact ⟨b, off, e, Nat.lt_of_lt_of_le hlt hb.size⟩
  · obtain ⟨u, hu, hx⟩ := h2 j x b off hj ha
    have hlt : b < w.heap.size := by
      obtain ⟨b', off', e', hlt⟩ := h1 (by rcases Nat.lt_or_ge j xss.length with q | q
                                           · omega
                                           · rw [List.getElem?_eq_none q] at hj; cases hj)
      rw [ha] at e'
      cases e'
      exact hlt
    exact ⟨u, (hb.cell hlt).trans hu, hx.below hb⟩

theorem flat_take {xss : List Bs} {i : Nat} {x : Bs} (h : xss[i]? = some x) : (xss.take (i + 1)).flatten = (xss.take i).flatten ++ x := by
  rw [List.take_add_one, h]
  simp

theorem parts_le (xss : List Bs) (i : Nat) : (xss.take i).flatten.length ≤ xss.flatten.length := by
  have : xss.flatten = (xss.take i).flatten ++ (xss.drop i).flatten := by rw [← List.flatten_append, List.take_append_drop]
  rw [this]
  simp

theorem get_some {α : Type} {xs : List α} {i n : Nat} (hl : xs.length = n) (hi : i < n) : ∃ x, xs[i]? = some x := ⟨xs[i]'(by omega), List.getElem?_eq_getElem (by omega)⟩

set_option maxHeartbeats 1600000 in
set_option maxRecDepth 100000 in
/-- slices.Concat of bytes: all bytes of the parts, in a new row. -/
theorem concat_any {v : Value} {xss : List Bs} (w : World) (h : PartsB w v xss) (hl : xss.length ≤ 1000000) (hn : xss.flatten.length ≤ 262144) :
    Calls Try.prog 17 #[v] w fun e w' => ∃ v', e = .returned v' ∧ OwnG encB 5 w' w.heap.size v' xss.flatten ∧ Below w.heap.size w w' := by
  have h' : PartsB w v xss := h
  obtain ⟨ao, c, rfl, h1, h2⟩ := h
  obtain ⟨n, en⟩ : ∃ n, xss.length = n := ⟨_, rfl⟩
  obtain ⟨N, eN⟩ : ∃ N, xss.flatten.length = N := ⟨_, rfl⟩
  rw [en] at hl h1 ⊢
  have H : Hid (PartsB w (.slice ao n c) xss ∧ xss.length = n ∧ xss.flatten.length = N) := ⟨by rw [← en]; exact h', en, eN⟩
  rw [eN] at hn
  have A : Hid (0 < n → ∃ b off, ao = some ⟨b, off, none⟩ ∧ b < w.heap.size) := h1
  have B : Hid (∀ j x b off, xss[j]? = some x → ao = some ⟨b, off, none⟩ → ∃ u, w.cell? ⟨b, off + j, none⟩ = some u ∧ BAt w u x) := h2
  clear h' h1 h2 en eN
  go_enter Try.func17, Try.ntmps17
  go_wp2
  go_loopg [3, 11] n (fun k sv iv wr => wr = w ∧ ∃ i : Nat, iv = .int .i64 i ∧ i + k = n ∧ sv = .int .i64 ((xss.take i).flatten.length : Int))
  case atStart => exact ⟨rfl, 0, rfl, by omega, rfl⟩
  case round =>
    obtain ⟨hw, i, rfl, hi, rfl⟩ := hrel
    have hw' := hw.symm
    subst hw'
    clear hw
    by_cases hin : i < n
    · have id : (i : Int) < (n : Int) := by omega
      obtain ⟨x, hx⟩ := get_some H.out.2.1 hin
      obtain ⟨b1, o1, rfl, hlt⟩ := A.out (by omega)
      obtain ⟨u, hu, a2, c2, rfl, _, _, _⟩ := B.out i x b1 o1 hx rfl
      have X : Hid (xss[i]? = some x) := hx
      have e1 := flat_take hx
      have e2 := parts_le xss (i + 1)
      rw [e1, List.length_append, H.out.2.2] at e2
      obtain ⟨s, hs⟩ : ∃ s, (xss.take i).flatten.length = s := ⟨_, rfl⟩
      have SS : Hid (_ = _) := hs
      rw [hs] at e2 ⊢
      obtain ⟨xl, hxl⟩ : ∃ xl, x.length = xl := ⟨_, rfl⟩
      rw [hxl] at e2 hu
      have XL : Hid (x.length = xl) := hxl
      clear hx e1 hs hxl
      have nn : decide ((s : Int) + (xl : Int) < 0) = false := by simp; omega
      go_wp2
      go_roundg (gk - 1)
      all_goals first
        | omega
        | exact ⟨rfl, i + 1, by go_num, by omega, by rw [flat_take X.out, List.length_append, SS.out, XL.out]; go_num⟩
    · obtain rfl : i = n := by omega
      have e0 : (xss.take i).flatten.length = N := by rw [List.take_of_length_le (by rw [H.out.2.1]; exact Nat.le_refl _)]; exact H.out.2.2
      rw [e0]
      have hg := grow_any w N (by omega)
      go_wp2_with fail
      refine hg.mono ?_
      rintro e w1 ⟨v1, rfl, O1, B1⟩
      have HB : Hid (OwnG encB 5 w1 w.heap.size v1 [] ∧ Below w.heap.size w w1) := ⟨O1, B1⟩
      clear O1 B1 hg
      go_wp2_with fail
      go_loopg [6, 27] i (fun k lv iv w2 => ∃ j : Nat, iv = .int .i64 j ∧ j + k = i ∧ Hid (OwnG encB 5 w2 w.heap.size lv (xss.take j).flatten ∧ Below w.heap.size w w2))
      case atStart => exact ⟨0, rfl, by omega, HB.out⟩
      case round =>
        obtain ⟨j, rfl, hj, HR⟩ := hrel
        by_cases hin : j < i
        · have id : (j : Int) < (i : Int) := by omega
          obtain ⟨x, hx⟩ := get_some H.out.2.1 hin
          obtain ⟨b1, o1, rfl, hlt⟩ := A.out (by omega)
          obtain ⟨u, hu, hB⟩ := B.out j x b1 o1 hx rfl
          have hu2 := (HR.out.2.cell (p := ⟨b1, o1 + j, none⟩) hlt).trans hu
          have X : Hid (xss[j]? = some x) := hx
          have e1 := flat_take hx
          have e2 := parts_le xss (j + 1)
          rw [e1, List.length_append, H.out.2.2] at e2
          have XB : Hid (BAt wr u x ∧ (xss.take j).flatten.length + x.length ≤ N) := ⟨hB.below HR.out.2, e2⟩
          clear hx e1 e2 hu hB
          go_wp2_with (at_builtin; (refine appB rfl (.tmp 31) (.tmp 32) rfl w.heap.size _ _ (xss.take j).flatten x rfl HR.out.1 rfl XB.out.1 (by have := XB.out.2; omega) HR.out.2.size ?_; intro v2 w2 hown2 hbel2 _ _))
          go_wp2
          go_roundg (gk - 1)
          all_goals first
            | omega
            | exact ⟨j + 1, by go_num, by omega, by rw [flat_take X.out]; exact hown2, HR.out.2.trans hbel2⟩
        · obtain rfl : j = i := by omega
          have e0 : (xss.take j).flatten = xss.flatten := by rw [List.take_of_length_le (by rw [H.out.2.1]; exact Nat.le_refl _)]
          go_wp2
          go_ret
          exact ⟨_, rfl, by rw [← e0]; exact HR.out.1, HR.out.2⟩

abbrev tx (n : Bs) : Value := .string ⟨n.toArray⟩

set_option maxRecDepth 100000 in
/-- string(b). -/
theorem conv_str {w : World} {v : Value} {bs : Bs} (h : BAt w v bs) : (convert 24 9 v).run Try.prog w = .ok (tx bs) w := by
  obtain ⟨ao, c, rfl, h1, h2, h3⟩ := h
  by_cases h0 : 0 < bs.length
  · obtain ⟨b, off, rfl, hlt, hc⟩ := h3 h0
    refine run_convert_bytes_back (P := Try.prog) w 24 9 5 ⟨b, off, none⟩ c bs Try.underlying24 Try.underlying5 Try.underlying9 (fun j hj => ?_)
    have := hc j bs[j] (List.getElem?_eq_getElem hj) 0 _ rfl
    rw [addr_plus]
    have e : off + (j * encB.size + 0) = off + j := by show off + (j * 1 + 0) = off + j; omega
    rw [e] at this
    exact this
  · obtain rfl : bs = [] := List.eq_nil_of_length_eq_zero (by omega)
    have e0 : ([] : Bs).length = 0 := rfl
    rw [e0, run_convert_bytes_string (P := Try.prog) w 24 9 5 ao 0 c Try.underlying24 Try.underlying5 Try.underlying9]
    cases ao <;> simp [Conv.bytesToString, loadCells]
    all_goals rfl

theorem bat_lit (w : World) (bs : Bs) (t : TypeId) (fr : Nat × Nat) (c : Array Value) (hc : c = (bs.map (fun x => Value.int .u8 (x.toNat : Int))).toArray) (n : Nat) (hn : n = bs.length) (hb : bs.length ≤ 1000000) : BAt (w.alloc (.cells c t fr)) (.slice (some ⟨w.heap.size, 0, none⟩) n n) bs := by
  subst hc
  subst hn
  refine ⟨_, _, rfl, Nat.le_refl _, by omega, fun _ => ⟨w.heap.size, 0, rfl, by simp, fun i x hx j u hu => ?_⟩⟩
  have hj : j = 0 := by
    rcases Nat.eq_zero_or_pos j with q | q
    · exact q
    · rw [List.getElem?_eq_none (by show ([_] : List Value).length ≤ j; simp; omega)] at hu; cases hu
  subst hj
  have hi : i < bs.length := by
    rcases Nat.lt_or_ge i bs.length with q | q
    · exact q
    · rw [List.getElem?_eq_none q] at hx; cases hx
  have e : 0 + (i * encB.size + 0) = i := by show 0 + (i * 1 + 0) = i; omega
  rw [e, World.cell?_alloc_mark]
  rw [List.getElem?_eq_getElem hi] at hx
  cases hx
  simp [hi]
  simpa [encB] using hu

/-- One part. -/
theorem parts_one {w : World} {u : Value} {x : Bs} (h : BAt w u x) (t : TypeId) : PartsB (w.alloc (.cells #[u] t)) (.slice (some ⟨w.heap.size, 0, none⟩) 1 1) [x] := by
  refine ⟨_, 1, rfl, fun _ => ⟨w.heap.size, 0, rfl, by simp⟩, fun j y b off hy hb => ?_⟩
  cases hb
  have hj : j = 0 := by
    rcases Nat.eq_zero_or_pos j with q | q
    · exact q
    · rw [List.getElem?_eq_none (by simp; omega)] at hy; cases hy
  subst hj
  cases hy
  exact ⟨u, by simp, h.below (bz1 w _)⟩

/-- Two parts. -/
theorem parts_two {w : World} {u v : Value} {x y : Bs} (h : BAt w u x) (k : BAt w v y) (t : TypeId) : PartsB (w.alloc (.cells #[u, v] t)) (.slice (some ⟨w.heap.size, 0, none⟩) 2 2) [x, y] := by
  refine ⟨_, 2, rfl, fun _ => ⟨w.heap.size, 0, rfl, by simp⟩, fun j z b off hz hb => ?_⟩
  cases hb
  match j, hz with
  | 0, hz =>
    cases hz
    exact ⟨u, by simp, h.below (bz1 w _)⟩
  | 1, hz =>
    cases hz
    exact ⟨v, by simp, k.below (bz1 w _)⟩
  | j + 2, hz => simp at hz

/-- A part that is nil. -/
theorem parts_nil (w : World) (t : TypeId) : PartsB (w.alloc (.cells #[.slice none 0 0] t)) (.slice (some ⟨w.heap.size, 0, none⟩) 1 1) [[]] := parts_one ⟨none, 0, rfl, Nat.le_refl _, by omega, RdG.nil _ _ _⟩ t

theorem part_lit (w : World) (bs : Bs) (t t' : TypeId) (fr : Nat × Nat) (c : Array Value) (hc : c = (bs.map (fun x => Value.int .u8 (x.toNat : Int))).toArray) (n : Nat) (hn : n = bs.length) (hb : bs.length ≤ 1000000) :
    PartsB ((w.alloc (.cells c t fr)).alloc (.cells #[.slice (some ⟨w.heap.size, 0, none⟩) n n] t')) (.slice (some ⟨w.heap.size + 1, 0, none⟩) 1 1) [bs] := by
  have := parts_one (bat_lit w bs t fr c hc n hn hb) t'
  rw [show (w.alloc (.cells c t fr)).heap.size = w.heap.size + 1 by simp] at this
  exact this

theorem tx_cat (a b : Bs) : Value.string ((⟨a.toArray⟩ : ByteArray) ++ (⟨b.toArray⟩ : ByteArray)) = tx (a ++ b) := by
  show Value.string _ = Value.string _
  congr 1

theorem set_block {w : World} {b : Nat} {c : Array Value} {t : TypeId} (h : w.heap[b]? = some (.cells c t (0, 0))) (i : Nat) (u : Value) : (w.setCell ⟨b, i, none⟩ u).heap[b]? = some (.cells (c.setIfInBounds i u) t (0, 0)) := by
  simp [World.setCell, Array.getElem?_modify, h]

theorem turned_set {w : World} {b : Nat} (i : Nat) (u : Value) : Turned (fun k => k = b) w (w.setCell ⟨b, i, none⟩ u) := (Turned.refl (fun k => k = b) w).setCell (p := ⟨b, i, none⟩) (.inl (show b = b from rfl)) u

/-- Block g begins with bytes, and may be written there. -/
structure Raw (w : World) (g : Nat) (bs : Bs) : Prop where
  lt : g < w.heap.size
  cell : ∀ j x, bs[j]? = some x → w.cell? ⟨g, j, none⟩ = some (.int .u8 (x.toNat : Int))
  thaw : ∀ j, j < bs.length → w.frozen? ⟨g, j, none⟩ = false

theorem Raw.at {w : World} {g c : Nat} {bs : Bs} (h : Raw w g bs) (h1 : bs.length ≤ c) (h2 : c ≤ 9223372036854775807) : BAt w (.slice (some ⟨g, 0, none⟩) bs.length c) bs := by
  refine ⟨_, c, rfl, h1, h2, fun _ => ⟨g, 0, rfl, h.lt, fun i x hx j u hu => ?_⟩⟩
  have hj : j = 0 := by
    rcases Nat.eq_zero_or_pos j with q | q
    · exact q
    · rw [List.getElem?_eq_none (by show ([_] : List Value).length ≤ j; simp; omega)] at hu; cases hu
  subst hj
  have e : 0 + (i * encB.size + 0) = i := by show 0 + (i * 1 + 0) = i; omega
  rw [e, h.cell i x hx]
  exact hu

theorem Raw.put {w : World} {g z : Nat} {bs : Bs} (h : Raw w g bs) (hz : z < bs.length) (y : UInt8) : Raw (w.setCell ⟨g, z, none⟩ (.int .u8 (y.toNat : Int))) g (bs.set z y) := by
  have hb : ∃ cs t fr, w.heap[g]? = some (.cells cs t fr) := by
    have := h.cell z bs[z] (List.getElem?_eq_getElem hz)
    unfold World.cell? at this
    split at this
    · rename_i c t fr e
      exact ⟨c, t, fr, e⟩
    · cases this
  obtain ⟨cs, t, fr, hb⟩ := hb
  have hc : ∀ (j : Nat) (x : UInt8), bs[j]? = some x → cs[j]? = some (Value.int .u8 (x.toNat : Int)) := fun j x hx => by have := h.cell j x hx; simpa [World.cell?, hb] using this
  refine ⟨by simp [World.setCell]; exact h.lt, fun j x hx => ?_, fun j hj => ?_⟩
  · have hzs : z < cs.size := by
      have := hc z bs[z] (List.getElem?_eq_getElem hz)
      exact (Array.getElem?_eq_some_iff.1 this).1
    rw [List.getElem?_set] at hx
    simp only [World.cell?, World.setCell, Array.getElem?_modify, hb, if_true, Option.map_some, Option.isSome_none, Bool.false_eq_true, if_false, Array.getElem?_setIfInBounds]
    by_cases e : z = j
    · rw [if_pos e, if_pos hz] at hx
      cases hx
      rw [if_pos e, if_pos hzs]
    · rw [if_neg e] at hx
      rw [if_neg e]
      exact hc j x hx
  · have := h.thaw j (by simpa using hj)
    simpa [World.frozen?, World.setCell, Array.getElem?_modify, hb] using this

/-- []byte(s). -/
theorem bytes_of (w : World) (bs : Bs) : ∃ W' c, (convert 9 24 (tx bs)).run Try.prog w = .ok (.slice (some ⟨w.heap.size, 0, none⟩) bs.length c) W' ∧ Below w.heap.size w W' ∧ W'.heap.size = w.heap.size + 1 ∧ Raw W' w.heap.size bs ∧ bs.length ≤ c ∧ (bs.length ≤ maxLen → c ≤ 9223372036854775807) := by
  refine ⟨_, _, run_bytes_of_string (P := Try.prog) w 9 24 5 ⟨bs.toArray⟩ Try.underlying9 Try.underlying24 Try.underlying5, ?_, ?_, ⟨?_, ?_, ?_⟩, ?_, ?_⟩
  · exact below_drew (bz1 w.drew _)
  · show (w.heap.push _).size = _; simp
  · show w.heap.size < (w.heap.push _).size; simp
  · intro j x hx
    have hj : j < bs.length := by
      rcases Nat.lt_or_ge j bs.length with q | q
      · exact q
      · rw [List.getElem?_eq_none q] at hx; cases hx
    have hb := bytesRow_at ⟨bs.toArray⟩ (grownCap w (⟨bs.toArray⟩ : ByteArray).size 0 5) j (by simpa using hj)
    refine ((World.cell?_alloc_mark w.drew _ 5 _ j).trans hb).trans ?_
    rw [List.getElem?_eq_getElem hj] at hx
    cases hx
    simp
  · intro j hj
    have hs : j < (bytesRow ⟨bs.toArray⟩ (grownCap w (⟨bs.toArray⟩ : ByteArray).size 0 5)).size := by
      have hb := bytesRow_at ⟨bs.toArray⟩ (grownCap w (⟨bs.toArray⟩ : ByteArray).size 0 5) j (by simpa using hj)
      exact (Array.getElem?_eq_some_iff.1 hb).1
    obtain ⟨C, hC⟩ : ∃ C, bytesRow ⟨bs.toArray⟩ (grownCap w (⟨bs.toArray⟩ : ByteArray).size 0 5) = C := ⟨_, rfl⟩
    rw [hC] at hs ⊢
    have hh : (w.drew.alloc (.cells C 5 (C.size, C.size + 1))).heap[w.heap.size]? = some (.cells C 5 (C.size, C.size + 1)) := by
      show (w.heap.push _)[w.heap.size]? = _
      simp
    simp only [World.frozen?, hh]
    simp
    omega
  · exact grownCap_ge _ _ _ _
  · intro h
    have := grownCap_le_maxLen w (⟨bs.toArray⟩ : ByteArray).size 0 5 h
    simp only [maxLen] at this
    omega

set_option maxRecDepth 100000 in
/-- s[:k]. -/
theorem sliceB_h {ao : Option Addr} {n c k : Nat} (hc : n ≤ c) (hk : k ≤ n) :
    ∃ a' c', (∀ w, (Instr.slice 24 (.slice ao n c) none (some (.int .i64 (k : Int))) none).run Try.prog w = .ok (.slice a' k c') w) ∧ k ≤ c' ∧ c' ≤ c ∧ ∀ w (xs : Bs), RdG encB w ao xs → RdG encB w a' (xs.take k) := by
  obtain ⟨i0, hi0, hz0, hz1, hz2⟩ := info_parts Try.info5
  refine ⟨if c = 0 then ao else ao.map (·.add 0), c, fun w => ?_, by omega, Nat.le_refl _, ?_⟩
  · rw [run_slice_h w 24 ao n c Try.underlying24 .i64 (k : Int) (by omega) (by omega)]
    have : (sizeOf (Try.prog.elem 24)).run Try.prog w = .ok 1 w := by
      have he : Try.prog.elem 24 = 5 := by kernel_rfl
      rw [he]
      simp [sizeOf, typeInfo, hi0, hz1]
    rw [this]
    simp only [Result.andThen, sliced, Int.toNat_natCast, Nat.mul_one, Nat.sub_zero]
  · intro w xs h
    split
    · exact h.take k
    · intro h0
      obtain ⟨b, off, rfl, hlt, hcc⟩ := h (by simp at h0; omega)
      simp only [Option.map_some, addr_plus, Nat.add_zero]
      exact RdG.take (fun _ => ⟨b, off, rfl, hlt, hcc⟩) k h0

set_option maxRecDepth 100000 in
/-- s[k:]. -/
theorem sliceB_l {ao : Option Addr} {n c k : Nat} (hc : n ≤ c) (hk : k ≤ n) :
    ∃ a' c', (∀ w, (Instr.slice 24 (.slice ao n c) (some (.int .i64 (k : Int))) none none).run Try.prog w = .ok (.slice a' (n - k) c') w) ∧ n - k ≤ c' ∧ c' ≤ c ∧ ∀ w (xs : Bs), xs.length = n → RdG encB w ao xs → RdG encB w a' (xs.drop k) := by
  obtain ⟨i0, hi0, hz0, hz1, hz2⟩ := info_parts Try.info5
  refine ⟨if c = k then ao else ao.map (·.add k), c - k, fun w => ?_, by omega, by omega, ?_⟩
  · rw [run_slice_l w 24 ao n c Try.underlying24 .i64 (k : Int) (by omega) (by omega)]
    have : (sizeOf (Try.prog.elem 24)).run Try.prog w = .ok 1 w := by
      have he : Try.prog.elem 24 = 5 := by kernel_rfl
      rw [he]
      simp [sizeOf, typeInfo, hi0, hz1]
    rw [this]
    simp only [Result.andThen, sliced, Int.toNat_natCast, Nat.mul_one]
  · intro w xs hl h
    split
    · intro h0
      simp at h0
      omega
    · intro h0
      obtain ⟨b, off, rfl, hlt, hcc⟩ := h (by simp at h0; omega)
      simp only [Option.map_some, addr_plus]
      have := RdG.drop (E := encB) (b := b) (off := off) (xs := xs) (fun _ => ⟨b, off, rfl, hlt, hcc⟩) k h0
      rw [show k * encB.size = k from Nat.mul_one k] at this
      exact this

/-- A whole list more behind a row of the call's own, within a region whose order is drawn. -/
theorem stepGL_at {α : Type} {ops : Array Oper} {o : Oper} {a : Act} {w : World} {K : Act → World → Prop} {Q : Exit → Act → World → Prop} {X : Prop} (E : Enc α) (e t : TypeId) (bytes : Nat) (z : Value) (hz : z.cells.size = E.size)
    (hinfo : (Try.prog.info? e).map (fun i => (i.zero, i.size, i.bytes)) = some (some z, E.size, bytes)) (hu : Try.prog.underlying t = some (.slice e)) (hgd : o.guard = none) (s x : Operand)
    (hop : o.op = .call { callee := .builtin .append, args := #[s, x], argTypes := #[t, t] }) (base : Nat) (v : Value) (ss xs : List α) (ao : Option Addr) (n c : Nat) (hs : a.eval s = v) (hown : OwnG E e w base v ss)
    (hx : a.eval x = .slice ao n c) (hr : RdG E w ao xs) (hl : xs.length = n) (hlen : (ss.length + n) * bytes ≤ 140737488355328) (hmax : ss.length + n ≤ maxLen) (hb : base ≤ w.heap.size)
    (h : ∀ v' w', OwnG E e w' base v' (ss ++ xs) → Below base w w' → Moved w v v' → Turned (fun k => v.ownBlock = some k) w w' → K (a.put o.dst v') w') :
    if Region.wanted o (yielded ops a.tmps) = true then Oper.wp Try.prog o a w K Q else X := by
  obtain ⟨i0, hi0, hz0, hz1, hz2⟩ := info_parts hinfo
  by_cases h0 : 0 < xs.length
  · obtain ⟨b, off, rfl, hlt, hc⟩ := hr h0
    refine step_append_moved hgd s x t hop base e i0 _ E.size bytes hu hi0 hz0 hz1 hz2 hz E.pos v ss.length (E.all ss) hs hown ⟨b, off, none⟩ n c (E.all xs) hx (by rw [E.all_length, hl]) (by
      intro k u hk
      obtain ⟨i, j, y, rfl, hj, hy, hu⟩ := E.all_split xs k u hk
      rw [addr_plus]
      exact hc i y hy j u hu) (E.all_one xs) hmax hlen hb ?_
    intro v' w' h1 h2 h3
    have ht : Turned (fun k => v.ownBlock = some k) w w' := (Turned.refl _ _).grown h2 (fun k _ e => e)
    refine h v' w' ?_ (OwnG.turn hown hb ht) h3 ht
    unfold OwnG
    rw [List.length_append, E.all_append, hl]
    exact h1
  · obtain rfl : xs = [] := List.eq_nil_of_length_eq_zero (by omega)
    obtain rfl : n = 0 := hl.symm
    obtain ⟨ao2, cap, rfl, hle, _, _⟩ := hown.form
    have hw : Region.wanted o (yielded ops a.tmps) = true := by simp [Region.wanted, hgd]
    rw [if_pos hw]
    have hrun := run_append_none t o.type e i0 hu hi0 ao2 ss.length cap hle ao c w
    unfold Oper.wp
    simp [execOp, hop, resolve, invoke, builtin, hs, hx, hrun, Result.andThen]
    exact h _ w (by rw [List.append_nil]; exact hown) (Below.refl _ _) (.inl rfl) (Turned.refl _ _)

theorem drew_size (w : World) : w.drew.heap.size = w.heap.size := rfl
theorem oz (w : World) (base : Nat) (hb : base ≤ w.heap.size) : OwnG encB 5 (w.alloc (.cells #[] 5)) base (.slice (some ⟨w.heap.size, 0, none⟩) 0 0) [] :=
  own_base (World.ownsRow_made w #[] 0 (Nat.le_refl _) (Nat.zero_le _) rfl) hb
theorem ob1 (u : World) : OwnG encB 5 (u.alloc (.cells #[] 5)) u.heap.size (.slice (some ⟨u.heap.size, 0, none⟩) 0 0) [] := oz u _ (Nat.le_refl _)
theorem ob2 (u : World) (o : Obj) : OwnG encB 5 ((u.alloc (.cells #[] 5)).alloc o) u.heap.size (.slice (some ⟨u.heap.size, 0, none⟩) 0 0) [] := (ob1 u).below (bz1 _ _)
theorem ob3 (u : World) (o : Obj) : OwnG encB 5 ((u.alloc o).alloc (.cells #[] 5)) u.heap.size (.slice (some ⟨u.heap.size + 1, 0, none⟩) 0 0) [] := by
  have := oz (u.alloc o) u.heap.size (by simp)
  have e : (u.alloc o).heap.size = u.heap.size + 1 := by simp
  rw [e] at this
  exact this
theorem OwnG.stays {α : Type} {E : Enc α} {S : Nat → Prop} {e : TypeId} {w w' : World} {base : Nat} {v : Value} {ss : List α} (h : OwnG E e w base v ss) (ht : Turned S w w') (hS : ∀ g, v.ownBlock = some g → ¬ S g) : OwnG E e w' base v ss := ownsRow_turned h ht hS

theorem byte_at {w : World} {base g n cap : Nat} {bs : Bs} (h : OwnG encB 5 w base (.slice (some ⟨g, 0, none⟩) n cap) bs) {i : Nat} (hi : i < bs.length) :
    ∃ y : UInt8, bs[i]? = some y ∧ w.cell? ⟨g, i, none⟩ = some (.int .u8 (y.toNat : Int)) ∧ w.frozen? ⟨g, i, none⟩ = false := by
  have hn : bs.length = n := own_len h
  subst hn
  have h' : w.ownsRow base 5 1 (.slice (some ⟨g, 0, none⟩) bs.length cap) bs.length (encB.all bs) := h
  refine ⟨bs[i], List.getElem?_eq_getElem hi, ?_, h'.frozenAt _⟩
  rw [h'.cellAt _ (by rw [Nat.mul_one]; exact hi)]
  have := encB.all_get bs i 0 bs[i] (List.getElem?_eq_getElem hi) (by decide)
  rw [show i * encB.size + 0 = i from (by show i * 1 + 0 = i; omega)] at this
  rw [this]
  rfl

theorem byte_put {w : World} {base g n cap : Nat} {bs : Bs} (h : OwnG encB 5 w base (.slice (some ⟨g, 0, none⟩) n cap) bs) {i : Nat} (hi : i < bs.length) (y : UInt8) :
    OwnG encB 5 (w.setCell ⟨g, i, none⟩ (.int .u8 (y.toNat : Int))) base (.slice (some ⟨g, 0, none⟩) n cap) (bs.set i y) := by
  have := OwnG.put h (i := i) (j := 0) (List.getElem?_eq_getElem hi) (by decide) y (.int .u8 (y.toNat : Int)) (by simp [encB])
  rw [show i * encB.size + 0 = i from (by show i * 1 + 0 = i; omega)] at this
  exact this

/-- Raised by one. -/
theorem byte_up (y : UInt8) : ((y + 1).toNat : Int) = ((y.toNat : Int) + 1) % 256 := by
  rw [UInt8.toNat_add]
  simp

/-- A world that has grown. -/
def Grew (w u : World) : Prop := Below w.heap.size w u

theorem RdG.turned {α : Type} {E : Enc α} {T : Nat → Prop} {w w' : World} {ao : Option Addr} {xs : List α} (h : RdG E w ao xs) (ht : Turned T w w') (hT : 0 < xs.length → ∀ p, ao = some p → ¬ T p.block) : RdG E w' ao xs := by
  intro h0
  obtain ⟨b, off, rfl, hlt, hc⟩ := h h0
  exact ⟨b, off, rfl, Nat.lt_of_lt_of_le hlt ht.size, fun i x hx j u hu => (ht.cell (p := ⟨b, off + (i * E.size + j), none⟩) hlt (show ¬ T b from hT h0 ⟨b, off, none⟩ rfl)).trans (hc i x hx j u hu)⟩

theorem xor_byte (y x : UInt8) : bits BinOp.xor IntKind.u8 (y.toNat : Int) (x.toNat : Int) = ((y ^^^ x).toNat : Int) := by
  have y1 := y.toNat_lt
  have x1 := x.toNat_lt
  have hx : y.toNat ^^^ x.toNat < 2 ^ 8 := Nat.xor_lt_two_pow y1 x1
  have h1 : (BitVec.ofInt 8 (y.toNat : Int)).toNat = y.toNat := by
    rw [BitVec.ofInt_natCast, BitVec.toNat_ofNat]; exact Nat.mod_eq_of_lt (by omega)
  have h2 : (BitVec.ofInt 8 (x.toNat : Int)).toNat = x.toNat := by
    rw [BitVec.ofInt_natCast, BitVec.toNat_ofNat]; exact Nat.mod_eq_of_lt (by omega)
  have e : (y ^^^ x).toNat = y.toNat ^^^ x.toNat := UInt8.toNat_xor y x
  have wr : ∀ n : Int, IntKind.u8.wrap n = n % 256 := fun n => by simp [IntKind.wrap, IntKind.bits, IntKind.signed]
  show IntKind.u8.wrap ((BitVec.ofInt 8 (y.toNat : Int) ^^^ BitVec.ofInt 8 (x.toNat : Int)).toNat : Int) = _
  rw [BitVec.toNat_xor, h1, h2, wr, e]
  omega

end Go.Proofs.Ytlcaphickofccaa
