/-
  Numbers as bytes and back in the program and in its reference: appendNumber, appendText, numberOf, the reference's Number and Value, each by a contract. No condition but that what is made fits any memory.
-/
import Derived.Test.YtadjcmekpcimjaaGBytes
import Derived.Test.YtadjcmekpcimjaaForms
import Derived.Lib.AppendStr
namespace Go.Proofs.Ytadjcmekpcimjaa
open Go.RowKit

theorem or_u64 (a b : Nat) (ha : a < 18446744073709551616) (hb : b < 18446744073709551616) : bits BinOp.or IntKind.u64 (a : Int) (b : Int) = ((a ||| b : Nat) : Int) := by
  have hx : a ||| b < 2 ^ 64 := Nat.or_lt_two_pow ha hb
  have h1 : (BitVec.ofInt 64 (a : Int)).toNat = a := by
    rw [BitVec.ofInt_natCast, BitVec.toNat_ofNat]; exact Nat.mod_eq_of_lt (by omega)
  have h2 : (BitVec.ofInt 64 (b : Int)).toNat = b := by
    rw [BitVec.ofInt_natCast, BitVec.toNat_ofNat]; exact Nat.mod_eq_of_lt (by omega)
  show IntKind.u64.wrap ((BitVec.ofInt 64 (a : Int) ||| BitVec.ofInt 64 (b : Int)).toNat : Int) = _
  rw [BitVec.toNat_or, h1, h2, IntKind.wrap_u64]
  omega

theorem or_step {v : Nat} (y : UInt8) (hv : v < 72057594037927936) : bits BinOp.or IntKind.u64 ((v : Int) * 256) (IntKind.u64.wrap (y.toNat : Int)) = ((v * 256 + y.toNat : Nat) : Int) := by
  have hy := y.toNat_lt
  have c0 : (v : Int) * 256 = ((2 ^ 8 * v : Nat) : Int) := by omega
  have c1 : IntKind.u64.wrap (y.toNat : Int) = ((y.toNat : Nat) : Int) := by rw [IntKind.wrap_u64]; omega
  rw [c0, c1, or_u64 _ _ (by omega) (by omega), ← Nat.two_pow_add_eq_or_of_lt (by omega) _]
  omega

set_option maxHeartbeats 1600000 in
set_option maxRecDepth 100000 in
/-- object.numberOf. -/
theorem numberOf_any {w : World} {a : Option Addr} {L c : Nat} {bs : Bs} (h : BAt w (.slice a L c) bs) (hl : bs.length = L) (h8 : L ≤ 8) :
    Calls Try.prog 38 #[.slice a L c] w fun e w' => e = .returned (.int .u64 (val bs : Int)) ∧ w' = w := by
  have H : Hid (RdG encB w a bs ∧ bs.length = L) := by
    obtain ⟨ao, c', e, _, _, h3⟩ := h
    cases e
    exact ⟨h3, hl⟩
  clear h hl
  go_enter Try.func38, Try.ntmps38
  go_wp2_with fail
  go_loopg [3, 8] L (fun m vv iv wr => wr = w ∧ ∃ (i v : Nat), iv = .int .i64 i ∧ i + m = L ∧ vv = .int .u64 (v : Int) ∧ Hid (val (bs.take i) = v))
  case atStart => exact ⟨rfl, 0, 0, rfl, by omega, rfl, rfl⟩
  case round =>
    obtain ⟨hwr, i, v, rfl, hi, rfl, HR⟩ := hrel
    subst hwr
    by_cases hin : i < L
    · have id : (i : Int) < (L : Int) := by omega
      obtain ⟨b, off, rfl, hlt, hc⟩ := H.out.1 (by rw [H.out.2]; omega)
      have hil : i < bs.length := by rw [H.out.2]; exact hin
      obtain ⟨y, hy⟩ : ∃ y, bs[i] = y := ⟨_, rfl⟩
      have cy : wr.cell? ⟨b, off + i, none⟩ = some (.int .u8 (y.toNat : Int)) := by
        have := hc i y (by rw [List.getElem?_eq_getElem hil, hy]) 0 _ rfl
        rw [show i * encB.size + 0 = i from (by show i * 1 + 0 = i; omega)] at this
        exact this
      have hvt := val_take bs i hil
      have hlt2 := val_lt (bs.take i)
      rw [HR.out] at hvt hlt2
      rw [hy] at hvt
      have hv2 : v < 72057594037927936 := by
        have : (bs.take i).length ≤ 7 := by rw [List.length_take]; omega
        have := Nat.pow_le_pow_right (n := 256) (by decide) this
        have e : 256 ^ 7 = 72057594037927936 := by decide
        omega
      have hor := or_step y hv2
      have HV : Hid (val (bs.take (i + 1)) = v * 256 + y.toNat) := hvt
      clear hvt hlt2 hil hc hy
      go_wp2
      go_roundg (gk - 1)
      case measure => omega
      case rel => exact ⟨rfl, i + 1, v * 256 + y.toNat, by go_num, by omega, by go_num, HV.out⟩
    · obtain rfl : i = L := by omega
      have e : bs.take i = bs := List.take_of_length_le (by rw [H.out.2]; omega)
      have HH : Hid (val bs = v) := by rw [← e]; exact HR.out
      clear e
      go_wp2
      go_ret
      exact ⟨by rw [HH.out]; rfl, rfl⟩

/-- Two steps that each turn the row of what is handed on. -/
theorem Turned.chain {w w1 w2 : World} {v v1 : Value} (h : Turned (fun k => v.ownBlock = some k) w w1) (m : Moved w v v1) (k : Turned (fun k => v1.ownBlock = some k) w1 w2) : Turned (fun k => v.ownBlock = some k) w w2 :=
  h.trans k (fun i hi q => by
    rcases m with e | e
    · rw [← e]; exact q
    · have := e i q
      omega)
theorem Moved.refl (w : World) (v : Value) : Moved w v v := .inl rfl
theorem Moved.chain {w w1 : World} {v v1 v2 : Value} (h : Moved w v v1) (hs : w.heap.size ≤ w1.heap.size) (k : Moved w1 v1 v2) : Moved w v v2 := by
  rcases k with e | e
  · rcases h with f | f
    · exact .inl (e.trans f)
    · exact .inr (fun g hg => f g (by rw [← e]; exact hg))
  · exact .inr (fun g hg => Nat.le_trans hs (e g hg))

set_option maxHeartbeats 1600000 in
set_option maxRecDepth 100000 in
/-- object.appendNumber. -/
theorem appNum_any {w : World} {base : Nat} {v : Value} {bs : Bs} (n : Nat) (ho : OwnG encB 5 w base v bs) (hb : base ≤ w.heap.size) (hl : bs.length ≤ 100000000000000) :
    Calls Try.prog 24 #[v, .int .u64 (n : Int)] w fun e w' => ∃ v', e = .returned v' ∧ Hid (OwnG encB 5 w' base v' (bs ++ low 8 n) ∧ Below base w w' ∧ Turned (fun k => v.ownBlock = some k) w w') := by
  have H : Hid (OwnG encB 5 w base v bs ∧ base ≤ w.heap.size ∧ bs.length ≤ 100000000000000) := ⟨ho, hb, hl⟩
  clear ho hb hl
  go_enter Try.func24, Try.ntmps24
  go_wp2_with fail
  go_loopg [0, 5] 8 (fun m bv iv wr => iv = .int .i64 (8 * (m : Int) - 8) ∧ m ≤ 8 ∧ Hid (OwnG encB 5 wr base bv (bs ++ low (8 - m) (n / 256 ^ m)) ∧ Below base w wr ∧ Turned (fun k => v.ownBlock = some k) w wr ∧ Moved w v bv))
  case atStart => exact ⟨rfl, Nat.le_refl _, by simpa [low] using H.out.1, Below.refl _ _, Turned.refl _ _, Moved.refl _ _⟩
  case round =>
    obtain ⟨rfl, hm, HR⟩ := hrel
    cases gk with
    | zero =>
      go_wp2
      go_ret
      exact ⟨_, rfl, by simpa using HR.out.1, HR.out.2.1, HR.out.2.2.1⟩
    | succ gk =>
      obtain ⟨y, hy⟩ : ∃ y : UInt8, UInt8.ofNat (n / 256 ^ gk) = y := ⟨_, rfl⟩
      have hc : (n : Int) / 2 ^ (8 * (gk + 1) - 8) % 256 = (y.toNat : Int) := by
        have e1 : ((2 : Int) ^ (8 * gk)) = ((256 ^ gk : Nat) : Int) := by
          rw [show (256 : Nat) ^ gk = 2 ^ (8 * gk) by rw [Nat.pow_mul]]
          exact (Int.natCast_pow 2 (8 * gk)).symm
        rw [← hy, UInt8.toNat_ofNat', show 8 * (gk + 1) - 8 = 8 * gk by omega, e1, ← Int.natCast_ediv]
        omega
      have hs : low (8 - gk) (n / 256 ^ gk) = low (8 - (gk + 1)) (n / 256 ^ (gk + 1)) ++ [y] := by
        rw [show 8 - gk = (8 - (gk + 1)) + 1 by omega, low, hy, Nat.div_div_eq_div_mul, ← Nat.pow_succ]
      have HS : Hid _ := hs
      have hll : (bs ++ low (8 - (gk + 1)) (n / 256 ^ (gk + 1))).length ≤ 100000000000008 := by
        rw [List.length_append, low_len]
        have := H.out.2.2
        omega
      clear hs hy
      go_wp2_with (at_builtin; refine appG_one encB 5 23 1 (.int .u8 0) rfl Try.info5 Try.underlying23 rfl (.tmp 10) (.tmp 15) rfl base _ _ y _ rfl HR.out.1 rfl (by omega) (by simp only [maxLen]; omega) (Nat.le_trans H.out.2.1 HR.out.2.1.size) _ (by first | rfl | (rw [hc]; rfl)) ?_; intro v4 w4 ho4 hb4 hm4 ht4)
      go_wp2
      go_roundg gk
      case measure => omega
      case rel => exact ⟨by go_num, by omega, by rw [HS.out, ← List.append_assoc]; exact ho4, HR.out.2.1.trans hb4, HR.out.2.2.1.chain HR.out.2.2.2 ht4, HR.out.2.2.2.chain HR.out.2.1.size hm4⟩

theorem str_cells : ∀ xs : Bs, Lib.strCells ⟨xs.toArray⟩ = encB.all xs
  | [] => rfl
  | x :: t => by
    have ih := str_cells t
    show Lib.strCells ⟨(x :: t).toArray⟩ = encB.cells x ++ encB.all t
    rw [← ih]
    simp [Lib.strCells, encB]

/-- A text more behind a row of the call's own. -/
theorem appS {ops : Array Oper} {rest : List Oper} {o : Oper} {a : Act} {w : World} {Q : Exit → Act → World → Prop} (hgd : o.guard = none) (s x : Operand)
    (hop : o.op = .call { callee := .builtin .append, args := #[s, x], argTypes := #[23, 9] }) (base : Nat) (v : Value) (ss xs : Bs) (hs : a.eval s = v) (hown : OwnG encB 5 w base v ss)
    (hx : a.eval x = tx xs) (hlen : ss.length + xs.length ≤ 140737488355328) (hb : base ≤ w.heap.size)
    (h : ∀ v' w', OwnG encB 5 w' base v' (ss ++ xs) → Below base w w' → Turned (fun k => v.ownBlock = some k) w w' → wpList Try.prog ops Q rest (a.put o.dst v') w') :
    wpList Try.prog ops Q (o :: rest) a w := by
  obtain ⟨i0, hi0, hz0, hz1, hz2⟩ := info_parts Try.info5
  have hsz : (⟨xs.toArray⟩ : ByteArray).size = xs.length := by show xs.toArray.size = _; simp
  refine Lib.wpList_append_own_string w hgd s x 23 9 hop base 5 i0 Try.underlying23 Try.underlying9 hi0 hz0 hz1 hz2 v ss.length (encB.all ss) hs hown ⟨xs.toArray⟩ hx (by rw [hsz]; simp only [maxLen]; omega) (by rw [hsz]; exact hlen) hb ?_
  intro v' w' h1 h2 _
  have ht : Turned (fun k => v.ownBlock = some k) w w' := (Turned.refl _ _).grown h2 (fun k _ e => e)
  refine h v' w' ?_ (OwnG.turn hown hb ht) ht
  unfold OwnG
  rw [List.length_append, encB.all_append]
  rw [hsz, str_cells] at h1
  exact h1

set_option maxHeartbeats 1600000 in
set_option maxRecDepth 100000 in
/-- object.appendText. -/
theorem appText_any {w : World} {base : Nat} {v : Value} {bs : Bs} (s : Bs) (hs : s.length ≤ 255) (ho : OwnG encB 5 w base v bs) (hb : base ≤ w.heap.size) (hl : bs.length ≤ 100000000000000) :
    Calls Try.prog 23 #[v, tx s] w fun e w' => ∃ v', e = .returned v' ∧ Hid (OwnG encB 5 w' base v' (bs ++ UInt8.ofNat s.length :: s) ∧ Below base w w' ∧ Turned (fun k => v.ownBlock = some k) w w') := by
  have H : Hid (OwnG encB 5 w base v bs ∧ base ≤ w.heap.size ∧ bs.length ≤ 100000000000000 ∧ s.length ≤ 255) := ⟨ho, hb, hl, hs⟩
  obtain ⟨y, hy⟩ : ∃ y : UInt8, UInt8.ofNat s.length = y := ⟨_, rfl⟩
  have hc : (s.length : Int) % 256 = (y.toNat : Int) := by
    rw [← hy, UInt8.toNat_ofNat']
    omega
  rw [hy]
  obtain ⟨t, ht⟩ : ∃ t : ByteArray, t = ⟨s.toArray⟩ := ⟨_, rfl⟩
  have hts : t.size = s.length := by rw [ht]; show s.toArray.size = _; simp
  rw [← hts] at hc
  have HT : Hid (t = ⟨s.toArray⟩) := ht
  rw [show tx s = .string t by rw [ht]]
  clear ho hb hl hy ht hs hts
  go_enter Try.func23, Try.ntmps23
  go_wp2_with (first
    | (at_builtin; refine appG_one encB 5 23 1 (.int .u8 0) rfl Try.info5 Try.underlying23 rfl (.tmp 5) (.tmp 9) rfl base _ bs y _ rfl H.out.1 rfl (by have := H.out.2.2.1; omega) (by have := H.out.2.2.1; simp only [maxLen]; omega) H.out.2.1 _ (by first | rfl | (rw [hc]; rfl)) ?_; intro v4 w4 ho4 hb4 hm4 ht4; have H4 : Hid (OwnG encB 5 w4 base v4 (bs ++ [y]) ∧ Below base w w4 ∧ Turned (fun k => v.ownBlock = some k) w w4 ∧ Moved w v v4) := ⟨ho4, hb4, ht4, hm4⟩; clear ho4 hb4 hm4 ht4)
    | (at_builtin; refine appS rfl (.tmp 10) (.tmp 11) rfl base _ (bs ++ [y]) s rfl H4.out.1 (by show Value.string t = _; rw [HT.out]) (by have := H.out.2.2.1; have := H.out.2.2.2; rw [List.length_append]; simp; omega) (Nat.le_trans H.out.2.1 H4.out.2.1.size) ?_; intro v5 w5 ho5 hb5 ht5))
  go_wp2
  go_ret
  exact ⟨_, rfl, by rw [List.append_assoc] at ho5; exact ho5, H4.out.2.1.trans hb5, H4.out.2.2.1.chain H4.out.2.2.2 ht5⟩

set_option maxHeartbeats 1600000 in
set_option maxRecDepth 100000 in
/-- The reference's Number. -/
theorem rnumber_any (n k : Nat) (hn : n < 18446744073709551616) (hk : k ≤ 8) (w : World) :
    Calls Try.prog 26 #[.int .u64 (n : Int), .int .i64 (k : Int)] w fun e w' => e = .returned (tx (low k n)) ∧ Below w.heap.size w w' := by
  go_enter Try.func26, Try.ntmps26
  go_wp2_with fail
  go_loopg [0, 5, 6] k (fun m nv sv iv wr => ∃ (i p : Nat) (s : ByteArray), iv = .int .i64 i ∧ i + m = k ∧ nv = .int .u64 (p : Int) ∧ sv = .string s ∧ p < 18446744073709551616 ∧ Hid (∃ t : Bs, s = ⟨t.toArray⟩ ∧ t.length = i ∧ low k n = low m p ++ t ∧ Below w.heap.size w wr))
  case atStart => exact ⟨0, n, _, rfl, by omega, rfl, rfl, hn, [], rfl, rfl, by simp, Below.refl _ _⟩
  case round =>
    obtain ⟨i, p, s, rfl, hi, rfl, rfl, hp, HR⟩ := hrel
    by_cases hin : i < k
    · have id : (i : Int) < (k : Int) := by omega
      have hcv := conv_str (bat_lit wr [UInt8.ofNat p] 5 (0, 0) #[.int .u8 ((p : Int) % 256)] (by simp [UInt8.toNat_ofNat']) 1 rfl (by simp))
      obtain ⟨z, hz⟩ : ∃ z : ByteArray, z = ⟨[UInt8.ofNat p].toArray⟩ := ⟨_, rfl⟩
      rw [show tx [UInt8.ofNat p] = Value.string z by rw [hz]] at hcv
      have hsz : ¬ (9223372036854775807 < z.size + s.size) := by
        obtain ⟨t, e1, e2, _⟩ := HR.out
        rw [hz, e1]
        show ¬ (9223372036854775807 < 1 + t.toArray.size)
        simp only [List.size_toArray]
        omega
      have HZ : Hid (z = ⟨[UInt8.ofNat p].toArray⟩) := hz
      clear hz
      go_wp2
      go_roundg (gk - 1)
      case measure => omega
      case rel =>
        obtain ⟨t, e1, e2, e3, e4⟩ := HR.out
        refine ⟨i + 1, p / 256, z ++ s, by go_num, by omega, by go_num, rfl, by omega, UInt8.ofNat p :: t, ?_, by simp [e2], ?_, e4.trans ((bz1 wr _).mono e4.size)⟩
        · rw [HZ.out, e1]
          rfl
        · obtain ⟨g, rfl⟩ : ∃ g, gk = g + 1 := ⟨gk - 1, by omega⟩
          rw [e3, Nat.add_sub_cancel]
          simp [low]
    · obtain rfl : i = k := by omega
      obtain ⟨t, e1, e2, e3, e4⟩ := HR.out
      have hg : gk = 0 := by omega
      rw [hg] at e3
      have e5 : low i n = t := by rw [e3]; rfl
      have HH : Hid (s = ⟨(low i n).toArray⟩ ∧ Below w.heap.size w wr) := ⟨by rw [e5]; exact e1, e4⟩
      clear e1 e2 e3 e4 e5 hg
      go_wp2
      go_ret
      exact ⟨by rw [HH.out.1]; rfl, HH.out.2⟩

set_option maxHeartbeats 1600000 in
set_option maxRecDepth 100000 in
/-- The reference's Value. -/
theorem rvalue_any (s : ByteArray) (hs : s.size ≤ 8) (w : World) :
    Calls Try.prog 30 #[.string s] w fun e w' => e = .returned (.int .u64 (val s.data.toList : Int)) ∧ w' = w := by
  obtain ⟨L, hL⟩ : ∃ L, s.size = L := ⟨_, rfl⟩
  have hLl : s.data.toList.length = L := by rw [← hL]; rfl
  go_enter Try.func30, Try.ntmps30
  go_wp2_with fail
  go_loopg [3, 4] L (fun m vv iv wr => wr = w ∧ ∃ (i v : Nat), iv = .int .i64 i ∧ i + m = L ∧ vv = .int .u64 (v : Int) ∧ v < 18446744073709551616 ∧ Hid (val (s.data.toList.take i) = v))
  case atStart => exact ⟨rfl, 0, 0, rfl, by omega, rfl, by omega, rfl⟩
  case round =>
    obtain ⟨hwr, i, v, rfl, hi, rfl, hv, HR⟩ := hrel
    subst hwr
    by_cases hin : i < L
    · have id : (i : Int) < (L : Int) := by omega
      have hil : i < s.data.toList.length := by omega
      have hvt := val_take s.data.toList i hil
      have hlt := val_lt (s.data.toList.take i)
      rw [HR.out] at hvt hlt
      have hv2 : v < 72057594037927936 := by
        have : (s.data.toList.take i).length ≤ 7 := by rw [List.length_take]; omega
        have := Nat.pow_le_pow_right (n := 256) (by decide) this
        have e : 256 ^ 7 = 72057594037927936 := by decide
        omega
      have hi2 : i < s.size := by omega
      have hb : s.data.toList[i] = s[i] := by simp [ByteArray.getElem_eq_getElem_data]
      rw [hb] at hvt
      obtain ⟨y, hy⟩ : ∃ y, s[i] = y := ⟨_, rfl⟩
      have hyl := y.toNat_lt
      rw [hy] at hvt
      have HV : Hid (val (s.data.toList.take (i + 1)) = v * 256 + y.toNat) := hvt
      clear hvt hlt hb hil
      go_wp2
      go_roundg (gk - 1)
      case measure => omega
      case rel => exact ⟨rfl, i + 1, v * 256 + y.toNat, by go_num, by omega, by go_num, by omega, HV.out⟩
    · obtain rfl : i = L := by omega
      have e : s.data.toList.take i = s.data.toList := List.take_of_length_le (by omega)
      have HH : Hid (val s.data.toList = v) := by rw [← e]; exact HR.out
      clear e
      go_wp2
      go_ret
      exact ⟨by rw [HH.out]; rfl, rfl⟩

end Go.Proofs.Ytadjcmekpcimjaa
