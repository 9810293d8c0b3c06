/-
  slices.Clone and slices.Concat of bytes, strings.Clone, path.Name, each by a contract. No condition but that what is made fits any memory.
-/
import Derived.Test.YtlhlipjbcapidaaDisk
import Derived.Test.YtlhlipjbcapidaaPSmall
import Derived.Lib.AppendZeros
namespace Go.Proofs.Ytlhlipjbcapidaa
open Go.RowKit

theorem ownB_zero (w : World) : OwnG encB 5 (w.alloc (.cells #[] 5)) w.heap.size (.slice (some ⟨w.heap.size, 0, none⟩) 0 0) [] :=
  World.ownsRow_made w #[] 0 (Nat.le_refl _) (Nat.zero_le _) rfl

/-- Bytes more behind a row of the call's own. -/
theorem appB {ops : Array Oper} {rest : List Oper} {o : Oper} {a : Act} {w : World} {Q : Exit → Act → World → Prop} (hgd : o.guard = none) (s x : Operand)
    (hop : o.op = .call { callee := .builtin .append, args := #[s, x], argTypes := #[31, 31] }) (base : Nat) (v u : Value) (ss xs : Bs) (hs : a.eval s = v) (hown : OwnG encB 5 w base v ss)
    (hx : a.eval x = u) (hr : BAt w u xs) (hlen : ss.length + xs.length ≤ 140737488355328) (hb : base ≤ w.heap.size)
    (h : ∀ v' w', OwnG encB 5 w' base v' (ss ++ xs) → Below base w w' → Moved w v v' → Turned (fun k => v.ownBlock = some k) w w' → wpList Try.prog ops Q rest (a.put o.dst v') w') :
    wpList Try.prog ops Q (o :: rest) a w := by
  obtain ⟨ao, c, rfl, h1, h2, h3⟩ := hr
  exact appG_list encB 5 31 1 (.int .u8 0) rfl Try.info5 Try.underlying31 hgd s x hop base v ss xs ao _ c hs hown hx h3 rfl (by omega) (by simp only [maxLen]; omega) hb h

set_option maxHeartbeats 400000 in
theorem bclone_none {n c : Nat} (w : World) :
    Calls Try.prog 35 #[.slice none n c] w fun e w' => e = .returned (.slice none 0 0) ∧ w' = w := by
  have q : ∀ (w : World) (a : Option Addr) (n c n' c' : Nat), (binOp .eql 31 (.slice a n c) (.slice none n' c')).run Try.prog w = .ok (.bool a.isNone) w := fun w a n c n' c' => Lib.run_eql_slice_nil w _ _ a n c n' c' Try.underlying31
  go_enter Try.func35, Try.ntmps35
  go_wp2
  go_ret
  exact ⟨rfl, rfl⟩

set_option maxHeartbeats 400000 in
theorem bclone_some {p : Addr} {n c : Nat} {xs : Bs} (w : World) (ha : BAt w (.slice (some p) n c) xs) (hn : xs.length ≤ 140737488355328) :
    Calls Try.prog 35 #[.slice (some p) n c] w fun e w' => ∃ v', e = .returned v' ∧ OwnG encB 5 w' w.heap.size v' xs ∧ Below w.heap.size w w' := by
  have H : Hid (BAt w (.slice (some p) n c) xs) := ha
  clear ha
  have q : ∀ (w : World) (a : Option Addr) (n c n' c' : Nat), (binOp .eql 31 (.slice a n c) (.slice none n' c')).run Try.prog w = .ok (.bool a.isNone) w := fun w a n c n' c' => Lib.run_eql_slice_nil w _ _ a n c n' c' Try.underlying31
  go_enter Try.func35, Try.ntmps35
  go_wp2_with (at_builtin; (refine appB rfl (.tmp 5) (.tmp 6) rfl w.heap.size _ _ [] xs rfl (ownB_zero w) rfl (H.out.below (bz1 w _)) (by simp; omega) (by simp) ?_; intro v2 w2 hown2 hbel2 _ _))
  go_wp2
  go_ret
  rw [List.nil_append] at hown2
  exact ⟨v2, rfl, hown2, (bz1 w _).trans hbel2⟩

/-- slices.Clone of bytes: the same bytes in a new row. -/
theorem bclone_any {v : Value} {xs : Bs} (w : World) (h : BAt w v xs) (hn : xs.length ≤ 140737488355328) :
    Calls Try.prog 35 #[v] w fun e w' => ∃ v', e = .returned v' ∧ OwnG encB 5 w' w.heap.size v' xs ∧ Below w.heap.size w w' := by
  have h' := h
  obtain ⟨ao, c, rfl, h1, h2, h3⟩ := h
  cases ao with
  | none =>
    have h0 : xs = [] := by
      rcases Nat.eq_zero_or_pos xs.length with q | q
      · exact List.eq_nil_of_length_eq_zero q
      · obtain ⟨b, off, e, _⟩ := h3 q
        cases e
    subst h0
    refine (bclone_none w).mono ?_
    rintro e w' ⟨rfl, rfl⟩
    exact ⟨_, rfl, OwnG.nil _ _ _ _, Below.refl _ _⟩
  | some p => exact bclone_some w h' hn

set_option maxHeartbeats 800000 in
theorem grow_zero (w : World) : Calls Try.prog 57 #[.slice none 0 0, .int .i64 0] w fun e w' => e = .returned (.slice none 0 0) ∧ w' = w := by
  go_enter Try.func57, Try.ntmps57
  go_wp2
  go_ret
  exact ⟨rfl, rfl⟩

set_option maxHeartbeats 800000 in
theorem grow_some (w : World) (n : Nat) (h0 : 0 < n) (hn : n ≤ 140737488355328) :
    Calls Try.prog 57 #[.slice none 0 0, .int .i64 (n : Int)] w fun e w' => ∃ v', e = .returned v' ∧ OwnG encB 5 w' w.heap.size v' [] ∧ Below w.heap.size w w' := by
  obtain ⟨i0, hi0, hz0, hz1, hz2⟩ := info_parts Try.info5
  have hr := Lib.run_append_nil_zeros (P := Try.prog) w 31 3 31 5 i0 (.int .u8 0) .i64 .i64 Try.underlying31 Try.underlying3 hi0 hz0 n h0 (by rw [hz1]; decide) (by omega) (by rw [hz2]; omega)
  obtain ⟨C, hC⟩ : ∃ C, grownCap w n 0 5 = C := ⟨_, rfl⟩
  obtain ⟨Y, hY⟩ : ∃ Y, Builtin.zeroCells (Value.int .u8 0).cells n ++ Builtin.zeroCells (Value.int .u8 0).cells (grownCap w n 0 5 - n) = Y := ⟨_, rfl⟩
  have hge := grownCap_ge w n 0 5
  have hcm := grownCap_le_maxLen w n 0 5 (by simp only [maxLen]; omega)
  have hsz : Y.size = C * 1 := by
    rw [← hY, ← hC]
    simp only [Array.size_append, size_zeroCells]
    simp [Value.cells]
    omega
  rw [hY, hC] at hr
  rw [hC] at hge hcm
  have K : Hid (Y.size = C * 1 ∧ n ≤ C ∧ C ≤ maxLen) := ⟨hsz, hge, hcm⟩
  have hC1 : C ≤ 9223372036854775807 := by simpa [maxLen] using hcm
  have hR : Hid _ := hr
  clear hr hC hY hsz hcm
  have gt : decide ((0 : Int) < (n : Int)) = true := by simpa using h0
  have ng : decide ((n : Int) < 0) = false := by simp
  go_enter Try.func57, Try.ntmps57
  go_wp2_with (at_builtin; refine Lib.wpList_append_run _ rfl (.tmp 20) (.tmp 21) 31 3 rfl _ _ rfl rfl _ _ hR.out ?_)
  go_wp2
  go_ret
  refine ⟨_, rfl, ⟨rfl, .inr ⟨w.heap.size, C, Y, rfl, Nat.le_refl _, heap_alloc_new w _, Nat.zero_le _, K.out.2.2, K.out.1, ?_⟩⟩, ((Turned.refl (fun _ => False) w).alloc _).drew.below (Nat.le_refl _) (fun _ _ q => q)⟩
  simp [Enc.all]

theorem grow_any (w : World) (n : Nat) (hn : n ≤ 140737488355328) :
    Calls Try.prog 57 #[.slice none 0 0, .int .i64 (n : Int)] w fun e w' => ∃ v', e = .returned v' ∧ OwnG encB 5 w' w.heap.size v' [] ∧ Below w.heap.size w w' := by
  rcases Nat.eq_zero_or_pos n with rfl | h
  · refine (grow_zero w).mono ?_
    rintro e w' ⟨rfl, rfl⟩
    exact ⟨_, rfl, OwnG.nil _ _ _ _, Below.refl _ _⟩
  · exact grow_some w n h hn

/-- Parts: a list of slices of bytes. -/
def PartsB (w : World) (v : Value) (xss : List Bs) : Prop := ∃ ao c, v = .slice ao xss.length c ∧ (0 < xss.length → ∃ b off, ao = some ⟨b, off, none⟩ ∧ b < w.heap.size) ∧
  ∀ j x b off, xss[j]? = some x → ao = some ⟨b, off, none⟩ → ∃ u, w.cell? ⟨b, off + j, none⟩ = some u ∧ BAt w u x

theorem PartsB.below {w w' : World} {v : Value} {xss : List Bs} (h : PartsB w v xss) (hb : Below w.heap.size w w') : PartsB w' v xss := by
  obtain ⟨ao, c, e, h1, h2⟩ := h
  refine ⟨ao, c, e, fun h0 => ?_, fun j x b off hj ha => ?_⟩
  · obtain ⟨b, off, e, hlt⟩ := h1 h0
    exact ⟨b, off, e, Nat.lt_of_lt_of_le hlt hb.size⟩
  · obtain ⟨u, hu, hx⟩ := h2 j x b off hj ha
    have hlt : b < w.heap.size := by
      obtain ⟨b', off', e', hlt⟩ := h1 (by rcases Nat.lt_or_ge j xss.length with q | q
                                           · omega
                                           · rw [List.getElem?_eq_none q] at hj; cases hj)
      rw [ha] at e'
      cases e'
      exact hlt
    exact ⟨u, (hb.cell hlt).trans hu, hx.below hb⟩

theorem flat_take {xss : List Bs} {i : Nat} {x : Bs} (h : xss[i]? = some x) : (xss.take (i + 1)).flatten = (xss.take i).flatten ++ x := by
  rw [List.take_add_one, h]
  simp

theorem parts_le (xss : List Bs) (i : Nat) : (xss.take i).flatten.length ≤ xss.flatten.length := by
  have : xss.flatten = (xss.take i).flatten ++ (xss.drop i).flatten := by rw [← List.flatten_append, List.take_append_drop]
  rw [this]
  simp

theorem get_some {α : Type} {xs : List α} {i n : Nat} (hl : xs.length = n) (hi : i < n) : ∃ x, xs[i]? = some x := ⟨xs[i]'(by omega), List.getElem?_eq_getElem (by omega)⟩

set_option maxHeartbeats 1600000 in
set_option maxRecDepth 100000 in
/-- slices.Concat of bytes: all bytes of the parts, in a new row. -/
theorem concat_any {v : Value} {xss : List Bs} (w : World) (h : PartsB w v xss) (hl : xss.length ≤ 1000000) (hn : xss.flatten.length ≤ 262144) :
    Calls Try.prog 51 #[v] w fun e w' => ∃ v', e = .returned v' ∧ OwnG encB 5 w' w.heap.size v' xss.flatten ∧ Below w.heap.size w w' := by
  have h' : PartsB w v xss := h
  obtain ⟨ao, c, rfl, h1, h2⟩ := h
  obtain ⟨n, en⟩ : ∃ n, xss.length = n := ⟨_, rfl⟩
  obtain ⟨N, eN⟩ : ∃ N, xss.flatten.length = N := ⟨_, rfl⟩
  rw [en] at hl h1 ⊢
  have H : Hid (PartsB w (.slice ao n c) xss ∧ xss.length = n ∧ xss.flatten.length = N) := ⟨by rw [← en]; exact h', en, eN⟩
  rw [eN] at hn
  have A : Hid (0 < n → ∃ b off, ao = some ⟨b, off, none⟩ ∧ b < w.heap.size) := h1
  have B : Hid (∀ j x b off, xss[j]? = some x → ao = some ⟨b, off, none⟩ → ∃ u, w.cell? ⟨b, off + j, none⟩ = some u ∧ BAt w u x) := h2
  clear h' h1 h2 en eN
  go_enter Try.func51, Try.ntmps51
  go_wp2
  go_loopg [3, 11] n (fun k sv iv wr => wr = w ∧ ∃ i : Nat, iv = .int .i64 i ∧ i + k = n ∧ sv = .int .i64 ((xss.take i).flatten.length : Int))
  case atStart => exact ⟨rfl, 0, rfl, by omega, rfl⟩
  case round =>
    obtain ⟨hw, i, rfl, hi, rfl⟩ := hrel
    have hw' := hw.symm
    subst hw'
    clear hw
    by_cases hin : i < n
    · have id : (i : Int) < (n : Int) := by omega
      obtain ⟨x, hx⟩ := get_some H.out.2.1 hin
      obtain ⟨b1, o1, rfl, hlt⟩ := A.out (by omega)
      obtain ⟨u, hu, a2, c2, rfl, _, _, _⟩ := B.out i x b1 o1 hx rfl
      have X : Hid (xss[i]? = some x) := hx
      have e1 := flat_take hx
      have e2 := parts_le xss (i + 1)
      rw [e1, List.length_append, H.out.2.2] at e2
      obtain ⟨s, hs⟩ : ∃ s, (xss.take i).flatten.length = s := ⟨_, rfl⟩
      have SS : Hid (_ = _) := hs
      rw [hs] at e2 ⊢
      obtain ⟨xl, hxl⟩ : ∃ xl, x.length = xl := ⟨_, rfl⟩
      rw [hxl] at e2 hu
      have XL : Hid (x.length = xl) := hxl
      clear hx e1 hs hxl
      have nn : decide ((s : Int) + (xl : Int) < 0) = false := by simp; omega
      go_wp2
      go_roundg (gk - 1)
      all_goals first
        | omega
        | exact ⟨rfl, i + 1, by go_num, by omega, by rw [flat_take X.out, List.length_append, SS.out, XL.out]; go_num⟩
    · obtain rfl : i = n := by omega
      have e0 : (xss.take i).flatten.length = N := by rw [List.take_of_length_le (by rw [H.out.2.1]; exact Nat.le_refl _)]; exact H.out.2.2
      rw [e0]
      have hg := grow_any w N (by omega)
      go_wp2_with fail
      refine hg.mono ?_
      rintro e w1 ⟨v1, rfl, O1, B1⟩
      have HB : Hid (OwnG encB 5 w1 w.heap.size v1 [] ∧ Below w.heap.size w w1) := ⟨O1, B1⟩
      clear O1 B1 hg
      go_wp2_with fail
      go_loopg [6, 27] i (fun k lv iv w2 => ∃ j : Nat, iv = .int .i64 j ∧ j + k = i ∧ Hid (OwnG encB 5 w2 w.heap.size lv (xss.take j).flatten ∧ Below w.heap.size w w2))
      case atStart => exact ⟨0, rfl, by omega, HB.out⟩
      case round =>
        obtain ⟨j, rfl, hj, HR⟩ := hrel
        by_cases hin : j < i
        · have id : (j : Int) < (i : Int) := by omega
          obtain ⟨x, hx⟩ := get_some H.out.2.1 hin
          obtain ⟨b1, o1, rfl, hlt⟩ := A.out (by omega)
          obtain ⟨u, hu, hB⟩ := B.out j x b1 o1 hx rfl
          have hu2 := (HR.out.2.cell (p := ⟨b1, o1 + j, none⟩) hlt).trans hu
          have X : Hid (xss[j]? = some x) := hx
          have e1 := flat_take hx
          have e2 := parts_le xss (j + 1)
          rw [e1, List.length_append, H.out.2.2] at e2
          have XB : Hid (BAt wr u x ∧ (xss.take j).flatten.length + x.length ≤ N) := ⟨hB.below HR.out.2, e2⟩
          clear hx e1 e2 hu hB
          go_wp2_with (at_builtin; (refine appB rfl (.tmp 31) (.tmp 32) rfl w.heap.size _ _ (xss.take j).flatten x rfl HR.out.1 rfl XB.out.1 (by have := XB.out.2; omega) HR.out.2.size ?_; intro v2 w2 hown2 hbel2 _ _))
          go_wp2
          go_roundg (gk - 1)
          all_goals first
            | omega
            | exact ⟨j + 1, by go_num, by omega, by rw [flat_take X.out]; exact hown2, HR.out.2.trans hbel2⟩
        · obtain rfl : j = i := by omega
          have e0 : (xss.take j).flatten = xss.flatten := by rw [List.take_of_length_le (by rw [H.out.2.1]; exact Nat.le_refl _)]
          go_wp2
          go_ret
          exact ⟨_, rfl, by rw [← e0]; exact HR.out.1, HR.out.2⟩

end Go.Proofs.Ytlhlipjbcapidaa
