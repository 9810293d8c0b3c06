/-
  object.appendNumber, appendText and numberOf, each by a contract. No condition but that what is made fits any memory.
-/
import Derived.Test.YtofbphmdkhocdaaGreatGBox
import Derived.Test.YtofbphmdkhocdaaGreatOForms
import Derived.Lib.AppendStr
namespace Go.Proofs.YtofbphmdkhocdaaGreat
open Go.RowKit

theorem or_u64 (a b : Nat) (ha : a < 18446744073709551616) (hb : b < 18446744073709551616) : bits BinOp.or IntKind.u64 (a : Int) (b : Int) = ((a ||| b : Nat) : Int) := by
  have hx : a ||| b < 2 ^ 64 := Nat.or_lt_two_pow ha hb
  have h1 : (BitVec.ofInt 64 (a : Int)).toNat = a := by
    rw [BitVec.ofInt_natCast, BitVec.toNat_ofNat]; exact Nat.mod_eq_of_lt (by omega)
  have h2 : (BitVec.ofInt 64 (b : Int)).toNat = b := by
    rw [BitVec.ofInt_natCast, BitVec.toNat_ofNat]; exact Nat.mod_eq_of_lt (by omega)
  show IntKind.u64.wrap ((BitVec.ofInt 64 (a : Int) ||| BitVec.ofInt 64 (b : Int)).toNat : Int) = _
  rw [BitVec.toNat_or, h1, h2, IntKind.wrap_u64]
  omega

theorem or_step {v : Nat} (y : UInt8) (hv : v < 72057594037927936) : bits BinOp.or IntKind.u64 ((v : Int) * 256) (IntKind.u64.wrap (y.toNat : Int)) = ((v * 256 + y.toNat : Nat) : Int) := by
  have hy := y.toNat_lt
  have c0 : (v : Int) * 256 = ((2 ^ 8 * v : Nat) : Int) := by omega
  have c1 : IntKind.u64.wrap (y.toNat : Int) = ((y.toNat : Nat) : Int) := by rw [IntKind.wrap_u64]; omega
  rw [c0, c1, or_u64 _ _ (by omega) (by omega), ← Nat.two_pow_add_eq_or_of_lt (by omega) _]
  omega

set_option maxHeartbeats 1600000 in
set_option maxRecDepth 100000 in
/-- object.appendNumber. -/
theorem appNum_any {w : World} {base : Nat} {v : Value} {bs : Bs} (n : Nat) (ho : OwnG encB 5 w base v bs) (hb : base ≤ w.heap.size) (hl : bs.length ≤ 100000000000000) :
    Calls Tryz.prog 65 #[v, .int .u64 (n : Int)] w fun e w' => ∃ v', e = .returned v' ∧ Hid (OwnG encB 5 w' base v' (bs ++ low 8 n) ∧ Below base w w' ∧ Turned (fun k => v.ownBlock = some k) w w') := by
  have H : Hid (OwnG encB 5 w base v bs ∧ base ≤ w.heap.size ∧ bs.length ≤ 100000000000000) := ⟨ho, hb, hl⟩
  clear ho hb hl
  go_enter Tryz.func65, Tryz.ntmps65
  go_wp2_with fail
  go_loopg [0, 5] 8 (fun m bv iv wr => iv = .int .i64 (8 * (m : Int) - 8) ∧ m ≤ 8 ∧ Hid (OwnG encB 5 wr base bv (bs ++ low (8 - m) (n / 256 ^ m)) ∧ Below base w wr ∧ Turned (fun k => v.ownBlock = some k) w wr ∧ Moved w v bv))
  case atStart => exact ⟨rfl, Nat.le_refl _, by simpa [low] using H.out.1, Below.refl _ _, Turned.refl _ _, Moved.refl _ _⟩
  case round =>
    obtain ⟨rfl, hm, HR⟩ := hrel
    cases gk with
    | zero =>
      go_wp2
      go_ret
      exact ⟨_, rfl, by simpa using HR.out.1, HR.out.2.1, HR.out.2.2.1⟩
    | succ gk =>
      obtain ⟨y, hy⟩ : ∃ y : UInt8, UInt8.ofNat (n / 256 ^ gk) = y := ⟨_, rfl⟩
      have hc : (n : Int) / 2 ^ (8 * (gk + 1) - 8) % 256 = (y.toNat : Int) := by
        have e1 : ((2 : Int) ^ (8 * gk)) = ((256 ^ gk : Nat) : Int) := by
          rw [show (256 : Nat) ^ gk = 2 ^ (8 * gk) by rw [Nat.pow_mul]]
          exact (Int.natCast_pow 2 (8 * gk)).symm
        rw [← hy, UInt8.toNat_ofNat', show 8 * (gk + 1) - 8 = 8 * gk by omega, e1, ← Int.natCast_ediv]
        omega
      have hs : low (8 - gk) (n / 256 ^ gk) = low (8 - (gk + 1)) (n / 256 ^ (gk + 1)) ++ [y] := by
        rw [show 8 - gk = (8 - (gk + 1)) + 1 by omega, low, hy, Nat.div_div_eq_div_mul, ← Nat.pow_succ]
      have HS : Hid _ := hs
      have hll : (bs ++ low (8 - (gk + 1)) (n / 256 ^ (gk + 1))).length ≤ 100000000000008 := by
        rw [List.length_append, low_len]
        have := H.out.2.2
        omega
      clear hs hy
      go_wp2_with (at_builtin; refine appG_one encB 5 94 1 (.int .u8 0) rfl Tryz.info5 Tryz.underlying94 rfl (.tmp 10) (.tmp 15) rfl base _ _ y _ rfl HR.out.1 rfl (by omega) (by simp only [maxLen]; omega) (Nat.le_trans H.out.2.1 HR.out.2.1.size) _ (by first | rfl | (rw [hc]; rfl)) ?_; intro v4 w4 ho4 hb4 hm4 ht4)
      go_wp2
      go_roundg gk
      case measure => omega
      case rel => exact ⟨by go_num, by omega, by rw [HS.out, ← List.append_assoc]; exact ho4, HR.out.2.1.trans hb4, HR.out.2.2.1.chain HR.out.2.2.2 ht4, HR.out.2.2.2.chain HR.out.2.1.size hm4⟩

theorem str_cells : ∀ xs : Bs, Lib.strCells ⟨xs.toArray⟩ = encB.all xs
  | [] => rfl
  | x :: t => by
    have ih := str_cells t
    show Lib.strCells ⟨(x :: t).toArray⟩ = encB.cells x ++ encB.all t
    rw [← ih]
    simp [Lib.strCells, encB]

/-- A text more behind a row of the call's own. -/
theorem appS {ops : Array Oper} {rest : List Oper} {o : Oper} {a : Act} {w : World} {Q : Exit → Act → World → Prop} (hgd : o.guard = none) (s x : Operand)
    (hop : o.op = .call { callee := .builtin .append, args := #[s, x], argTypes := #[94, 9] }) (base : Nat) (v : Value) (ss xs : Bs) (hs : a.eval s = v) (hown : OwnG encB 5 w base v ss)
    (hx : a.eval x = tx xs) (hlen : ss.length + xs.length ≤ 140737488355328) (hb : base ≤ w.heap.size)
    (h : ∀ v' w', OwnG encB 5 w' base v' (ss ++ xs) → Below base w w' → Turned (fun k => v.ownBlock = some k) w w' → wpList Tryz.prog ops Q rest (a.put o.dst v') w') :
    wpList Tryz.prog ops Q (o :: rest) a w := by
  obtain ⟨i0, hi0, hz0, hz1, hz2⟩ := info_parts Tryz.info5
  have hsz : (⟨xs.toArray⟩ : ByteArray).size = xs.length := by show xs.toArray.size = _; simp
  refine Lib.wpList_append_own_string w hgd s x 94 9 hop base 5 i0 Tryz.underlying94 Tryz.underlying9 hi0 hz0 hz1 hz2 v ss.length (encB.all ss) hs hown ⟨xs.toArray⟩ hx (by rw [hsz]; simp only [maxLen]; omega) (by rw [hsz]; exact hlen) hb ?_
  intro v' w' h1 h2 _
  have ht : Turned (fun k => v.ownBlock = some k) w w' := (Turned.refl _ _).grown h2 (fun k _ e => e)
  refine h v' w' ?_ (OwnG.turn hown hb ht) ht
  unfold OwnG
  rw [List.length_append, encB.all_append]
  rw [hsz, str_cells] at h1
  exact h1

set_option maxHeartbeats 1600000 in
set_option maxRecDepth 100000 in
/-- object.appendText. -/
theorem appText_any {w : World} {base : Nat} {v : Value} {bs : Bs} (s : Bs) (hs : s.length ≤ 255) (ho : OwnG encB 5 w base v bs) (hb : base ≤ w.heap.size) (hl : bs.length ≤ 100000000000000) :
    Calls Tryz.prog 64 #[v, tx s] w fun e w' => ∃ v', e = .returned v' ∧ Hid (OwnG encB 5 w' base v' (bs ++ UInt8.ofNat s.length :: s) ∧ Below base w w' ∧ Turned (fun k => v.ownBlock = some k) w w') := by
  have H : Hid (OwnG encB 5 w base v bs ∧ base ≤ w.heap.size ∧ bs.length ≤ 100000000000000 ∧ s.length ≤ 255) := ⟨ho, hb, hl, hs⟩
  obtain ⟨y, hy⟩ : ∃ y : UInt8, UInt8.ofNat s.length = y := ⟨_, rfl⟩
  have hc : (s.length : Int) % 256 = (y.toNat : Int) := by
    rw [← hy, UInt8.toNat_ofNat']
    omega
  rw [hy]
  obtain ⟨t, ht⟩ : ∃ t : ByteArray, t = ⟨s.toArray⟩ := ⟨_, rfl⟩
  have hts : t.size = s.length := by rw [ht]; show s.toArray.size = _; simp
  rw [← hts] at hc
  have HT : Hid (t = ⟨s.toArray⟩) := ht
  rw [show tx s = .string t by rw [ht]]
  clear ho hb hl hy ht hs hts
  go_enter Tryz.func64, Tryz.ntmps64
  go_wp2_with (first
    | (at_builtin; refine appG_one encB 5 94 1 (.int .u8 0) rfl Tryz.info5 Tryz.underlying94 rfl (.tmp 5) (.tmp 9) rfl base _ bs y _ rfl H.out.1 rfl (by have := H.out.2.2.1; omega) (by have := H.out.2.2.1; simp only [maxLen]; omega) H.out.2.1 _ (by first | rfl | (rw [hc]; rfl)) ?_; intro v4 w4 ho4 hb4 hm4 ht4; have H4 : Hid (OwnG encB 5 w4 base v4 (bs ++ [y]) ∧ Below base w w4 ∧ Turned (fun k => v.ownBlock = some k) w w4 ∧ Moved w v v4) := ⟨ho4, hb4, ht4, hm4⟩; clear ho4 hb4 hm4 ht4)
    | (at_builtin; refine appS rfl (.tmp 10) (.tmp 11) rfl base _ (bs ++ [y]) s rfl H4.out.1 (by show Value.string t = _; rw [HT.out]) (by have := H.out.2.2.1; have := H.out.2.2.2; rw [List.length_append]; simp; omega) (Nat.le_trans H.out.2.1 H4.out.2.1.size) ?_; intro v5 w5 ho5 hb5 ht5))
  go_wp2
  go_ret
  exact ⟨_, rfl, by rw [List.append_assoc] at ho5; exact ho5, H4.out.2.1.trans hb5, H4.out.2.2.1.chain H4.out.2.2.2 ht5⟩

end Go.Proofs.YtofbphmdkhocdaaGreat
