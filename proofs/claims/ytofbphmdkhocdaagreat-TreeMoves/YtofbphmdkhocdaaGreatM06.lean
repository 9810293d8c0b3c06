/-
  Several texts, laid together.
-/
import Derived.Test.YtofbphmdkhocdaaGreatM05
import Derived.Lib.AppendStr
import Derived.Test.YtofbphmdkhocdaaGreatM00
import Derived.Laws.Strings3
import Derived.Laws.DeepStrings4
import Derived.Deep.LoopGhost
import Derived.Deep.RegionHeld3
import Derived.Deep.DeepCutAuto
import Derived.BigRegion
import Derived.BigQuiet

/-
  object.appendNumber, appendText and numberOf, each by a contract. No condition but that what is made fits any memory.
-/
namespace Go.Proofs.YtofbphmdkhocdaaGreat
open Go.RowKit

theorem or_u64 (a b : Nat) (ha : a < 18446744073709551616) (hb : b < 18446744073709551616) : bits BinOp.or IntKind.u64 (a : Int) (b : Int) = ((a ||| b : Nat) : Int) := by
  have hx : a ||| b < 2 ^ 64 := Nat.or_lt_two_pow ha hb
  have h1 : (BitVec.ofInt 64 (a : Int)).toNat = a := by
    rw [BitVec.ofInt_natCast, BitVec.toNat_ofNat]; exact Nat.mod_eq_of_lt (by omega)
  have h2 : (BitVec.ofInt 64 (b : Int)).toNat = b := by
    rw [BitVec.ofInt_natCast, BitVec.toNat_ofNat]; exact Nat.mod_eq_of_lt (by omega)
  show IntKind.u64.wrap ((BitVec.ofInt 64 (a : Int) ||| BitVec.ofInt 64 (b : Int)).toNat : Int) = _
  rw [BitVec.toNat_or, h1, h2, IntKind.wrap_u64]
  omega

theorem or_step {v : Nat} (y : UInt8) (hv : v < 72057594037927936) : bits BinOp.or IntKind.u64 ((v : Int) * 256) (IntKind.u64.wrap (y.toNat : Int)) = ((v * 256 + y.toNat : Nat) : Int) := by
  have hy := y.toNat_lt
  have c0 : (v : Int) * 256 = ((2 ^ 8 * v : Nat) : Int) := by omega
  have c1 : IntKind.u64.wrap (y.toNat : Int) = ((y.toNat : Nat) : Int) := by rw [IntKind.wrap_u64]; omega
  rw [c0, c1, or_u64 _ _ (by omega) (by omega), ← Nat.two_pow_add_eq_or_of_lt (by omega) _]
  omega

set_option maxHeartbeats 1600000 in
set_option maxRecDepth 100000 in
/-- object.appendNumber. -/
theorem appNum_any {w : World} {base : Nat} {v : Value} {bs : Bs} (n : Nat) (ho : OwnG encB 5 w base v bs) (hb : base ≤ w.heap.size) (hl : bs.length ≤ 100000000000000) :
    Calls Tryz.prog 65 #[v, .int .u64 (n : Int)] w fun e w' => ∃ v', e = .returned v' ∧ Hid (OwnG encB 5 w' base v' (bs ++ low 8 n) ∧ Below base w w' ∧ Turned (fun k => v.ownBlock = some k) w w') := by
  have H : Hid (OwnG encB 5 w base v bs ∧ base ≤ w.heap.size ∧ bs.length ≤ 100000000000000) := ⟨ho, hb, hl⟩
  clear ho hb hl
  go_enter Tryz.func65, Tryz.ntmps65
  go_wp2_with fail
  go_loopg [0, 5] 8 (fun m bv iv wr => iv = .int .i64 (8 * (m : Int) - 8) ∧ m ≤ 8 ∧ Hid (OwnG encB 5 wr base bv (bs ++ low (8 - m) (n / 256 ^ m)) ∧ Below base w wr ∧ Turned (fun k => v.ownBlock = some k) w wr ∧ Moved w v bv))
  case atStart => exact ⟨rfl, Nat.le_refl _, by simpa [low] using H.out.1, Below.refl _ _, Turned.refl _ _, Moved.refl _ _⟩
  case round =>
    obtain ⟨rfl, hm, HR⟩ := hrel
    cases gk with
    | zero =>
      go_wp2
      go_ret
      exact ⟨_, rfl, by simpa using HR.out.1, HR.out.2.1, HR.out.2.2.1⟩
    | succ gk =>
      obtain ⟨y, hy⟩ : ∃ y : UInt8, UInt8.ofNat (n / 256 ^ gk) = y := ⟨_, rfl⟩
      have hc : (n : Int) / 2 ^ (8 * (gk + 1) - 8) % 256 = (y.toNat : Int) := by
        have e1 : ((2 : Int) ^ (8 * gk)) = ((256 ^ gk : Nat) : Int) := by
          rw [show (256 : Nat) ^ gk = 2 ^ (8 * gk) by rw [Nat.pow_mul]]
          exact (Int.natCast_pow 2 (8 * gk)).symm
        rw [← hy, UInt8.toNat_ofNat', show 8 * (gk + 1) - 8 = 8 * gk by omega, e1, ← Int.natCast_ediv]
        omega
      have hs : low (8 - gk) (n / 256 ^ gk) = low (8 - (gk + 1)) (n / 256 ^ (gk + 1)) ++ [y] := by
        rw [show 8 - gk = (8 - (gk + 1)) + 1 by omega, low, hy, Nat.div_div_eq_div_mul, ← Nat.pow_succ]
      have HS : Hid _ := hs
      have hll : (bs ++ low (8 - (gk + 1)) (n / 256 ^ (gk + 1))).length ≤ 100000000000008 := by
        rw [List.length_append, low_len]
        have := H.out.2.2
        omega
      clear hs hy
      go_wp2_with (at_builtin; refine appG_one encB 5 94 1 (.int .u8 0) rfl Tryz.info5 Tryz.underlying94 rfl (.tmp 10) (.tmp 15) rfl base _ _ y _ rfl HR.out.1 rfl (by omega) (by simp only [maxLen]; omega) (Nat.le_trans H.out.2.1 HR.out.2.1.size) _ (by first | rfl | (rw [hc]; rfl)) ?_; intro v4 w4 ho4 hb4 hm4 ht4)
      go_wp2
      go_roundg gk
      case measure => omega
      case rel => exact ⟨by go_num, by omega, by rw [HS.out, ← List.append_assoc]; exact ho4, HR.out.2.1.trans hb4, HR.out.2.2.1.chain HR.out.2.2.2 ht4, HR.out.2.2.2.chain HR.out.2.1.size hm4⟩

theorem str_cells : ∀ xs : Bs, Lib.strCells ⟨xs.toArray⟩ = encB.all xs
  | [] => rfl
  | x :: t => by
    have ih := str_cells t
    show Lib.strCells ⟨(x :: t).toArray⟩ = encB.cells x ++ encB.all t
    rw [← ih]
    simp [Lib.strCells, encB]

/-- A text more behind a row of the call's own. -/
theorem appS {ops : Array Oper} {rest : List Oper} {o : Oper} {a : Act} {w : World} {Q : Exit → Act → World → Prop} (hgd : o.guard = none) (s x : Operand)
    (hop : o.op = .call { callee := .builtin .append, args := #[s, x], argTypes := #[94, 9] }) (base : Nat) (v : Value) (ss xs : Bs) (hs : a.eval s = v) (hown : OwnG encB 5 w base v ss)
    (hx : a.eval x = tx xs) (hlen : ss.length + xs.length ≤ 140737488355328) (hb : base ≤ w.heap.size)
    (h : ∀ v' w', OwnG encB 5 w' base v' (ss ++ xs) → Below base w w' → Turned (fun k => v.ownBlock = some k) w w' → wpList Tryz.prog ops Q rest (a.put o.dst v') w') :
    wpList Tryz.prog ops Q (o :: rest) a w := by
  obtain ⟨i0, hi0, hz0, hz1, hz2⟩ := info_parts Tryz.info5
  have hsz : (⟨xs.toArray⟩ : ByteArray).size = xs.length := by show xs.toArray.size = _; simp
  refine Lib.wpList_append_own_string w hgd s x 94 9 hop base 5 i0 Tryz.underlying94 Tryz.underlying9 hi0 hz0 hz1 hz2 v ss.length (encB.all ss) hs hown ⟨xs.toArray⟩ hx (by rw [hsz]; simp only [maxLen]; omega) (by rw [hsz]; exact hlen) hb ?_
  intro v' w' h1 h2 _
  have ht : Turned (fun k => v.ownBlock = some k) w w' := (Turned.refl _ _).grown h2 (fun k _ e => e)
  refine h v' w' ?_ (OwnG.turn hown hb ht) ht
  unfold OwnG
  rw [List.length_append, encB.all_append]
  rw [hsz, str_cells] at h1
  exact h1

set_option maxHeartbeats 1600000 in
set_option maxRecDepth 100000 in
/-- object.appendText. -/
theorem appText_any {w : World} {base : Nat} {v : Value} {bs : Bs} (s : Bs) (hs : s.length ≤ 255) (ho : OwnG encB 5 w base v bs) (hb : base ≤ w.heap.size) (hl : bs.length ≤ 100000000000000) :
    Calls Tryz.prog 64 #[v, tx s] w fun e w' => ∃ v', e = .returned v' ∧ Hid (OwnG encB 5 w' base v' (bs ++ UInt8.ofNat s.length :: s) ∧ Below base w w' ∧ Turned (fun k => v.ownBlock = some k) w w') := by
  have H : Hid (OwnG encB 5 w base v bs ∧ base ≤ w.heap.size ∧ bs.length ≤ 100000000000000 ∧ s.length ≤ 255) := ⟨ho, hb, hl, hs⟩
  obtain ⟨y, hy⟩ : ∃ y : UInt8, UInt8.ofNat s.length = y := ⟨_, rfl⟩
  have hc : (s.length : Int) % 256 = (y.toNat : Int) := by
    rw [← hy, UInt8.toNat_ofNat']
    omega
  rw [hy]
  obtain ⟨t, ht⟩ : ∃ t : ByteArray, t = ⟨s.toArray⟩ := ⟨_, rfl⟩
  have hts : t.size = s.length := by rw [ht]; show s.toArray.size = _; simp
  rw [← hts] at hc
  have HT : Hid (t = ⟨s.toArray⟩) := ht
  rw [show tx s = .string t by rw [ht]]
  clear ho hb hl hy ht hs hts
  go_enter Tryz.func64, Tryz.ntmps64
  go_wp2_with (first
    | (at_builtin; refine appG_one encB 5 94 1 (.int .u8 0) rfl Tryz.info5 Tryz.underlying94 rfl (.tmp 5) (.tmp 9) rfl base _ bs y _ rfl H.out.1 rfl (by have := H.out.2.2.1; omega) (by have := H.out.2.2.1; simp only [maxLen]; omega) H.out.2.1 _ (by first | rfl | (rw [hc]; rfl)) ?_; intro v4 w4 ho4 hb4 hm4 ht4; have H4 : Hid (OwnG encB 5 w4 base v4 (bs ++ [y]) ∧ Below base w w4 ∧ Turned (fun k => v.ownBlock = some k) w w4 ∧ Moved w v v4) := ⟨ho4, hb4, ht4, hm4⟩; clear ho4 hb4 hm4 ht4)
    | (at_builtin; refine appS rfl (.tmp 10) (.tmp 11) rfl base _ (bs ++ [y]) s rfl H4.out.1 (by show Value.string t = _; rw [HT.out]) (by have := H.out.2.2.1; have := H.out.2.2.2; rw [List.length_append]; simp; omega) (Nat.le_trans H.out.2.1 H4.out.2.1.size) ?_; intro v5 w5 ho5 hb5 ht5))
  go_wp2
  go_ret
  exact ⟨_, rfl, by rw [List.append_assoc] at ho5; exact ho5, H4.out.2.1.trans hb5, H4.out.2.2.1.chain H4.out.2.2.2 ht5⟩

end Go.Proofs.YtofbphmdkhocdaaGreat

/-
  The functions of layer 3 that look at one text, and their references, each by a contract: mayStand, Name, strings.Cut at a slash, Check, Under. No condition but that a text is no longer than any text can be.
-/
namespace Go.Proofs.YtofbphmdkhocdaaGreat
open Go.RowKit

theorem bsize (s : ByteArray) : s.size = s.data.toList.length := Lib.size_eq s

set_option maxHeartbeats 400000 in
set_option maxRecDepth 100000 in
theorem may_any (c : Int) (w : World) :
    Calls Tryz.prog 68 #[.int .u8 c] w fun e w' => e = .returned (.bool (okI c)) ∧ w' = w := by
  go_enter Tryz.func68, Tryz.ntmps68
  go_wp2
  all_goals go_ret
  all_goals refine ⟨congrArg (fun b => Ending.returned (Value.bool b)) ?_, rfl⟩
  all_goals (rw [Bool.eq_iff_iff]; simp [okI]; try omega)

set_option maxHeartbeats 400000 in
set_option maxRecDepth 100000 in
theorem pindexByte_any (s : ByteArray) (c : Int) (w : World) :
    Calls Tryz.prog 105 #[.string s, .int .u8 c] w fun e w' => e = .returned (.int .i64 (Lib.indexByte s.data.toList c.toNat.toUInt8)) ∧ w' = w := by
  go_enter Tryz.func105, Tryz.ntmps105
  go_wp2
  rw [run_callFunc_extern Tryz.func113 (by kernel_rfl) (by kernel_rfl) (by kernel_rfl) (e := Extern.BytealgIndexByte.indexByte) (by kernel_rfl), Lib.run_indexByteString]
  simp only [Result.andThen]
  rw [Oper.upon_value]
  go_wp2
  go_ret
  exact ⟨rfl, rfl⟩

theorem index_self {s : ByteArray} (h : ([47] == s.toList) = true) : Lib.indexByte s.data.toList 47 = 0 := by
  have e : [47] = s.toList := by simpa using h
  rw [← ByteArray.toList_eq, ← e]
  rfl

set_option maxHeartbeats 800000 in
set_option maxRecDepth 100000 in
theorem index_slash (s : ByteArray) (w : World) :
    Calls Tryz.prog 86 #[.string s, .string ⟨#[47]⟩] w fun e w' => e = .returned (.int .i64 (Lib.indexByte s.data.toList 47)) ∧ w' = w := by
  go_enter Tryz.func86, Tryz.ntmps86
  go_wp2_with fail
  · have h : ([47] == s.toList) = true := by assumption
    go_ret
    exact ⟨by rw [index_self h]; rfl, rfl⟩
  · refine (pindexByte_any s 47 _).mono ?_
    rintro e w' ⟨rfl, rfl⟩
    go_wp2
    go_ret
    exact ⟨rfl, rfl⟩

theorem ext_take (s : ByteArray) (o : Nat) : s.extract 0 o = ⟨(s.data.toList.take o).toArray⟩ := by
  have := ByteArray.extract_mk s.data.toList 0 o
  simpa using this
theorem ext_drop (s : ByteArray) (o : Nat) : s.extract o s.size = ⟨(s.data.toList.drop o).toArray⟩ := by
  have := ByteArray.extract_mk s.data.toList o s.size
  rw [List.take_of_length_le (by rw [List.length_drop, bsize]; omega)] at this
  simpa using this

theorem cut_le : ∀ l : Bs, (cutB l).2.1.length ≤ l.length
  | [] => by simp [cutB]
  | b :: t => by
    have := cut_le t
    by_cases h : b = 47
    · simp [cutB, h]
    · simp only [cutB, h, if_false, List.length_cons]; omega

def str (l : Bs) : Value := .string ⟨l.toArray⟩

set_option maxHeartbeats 800000 in
set_option maxRecDepth 100000 in
theorem cut_lite (s : ByteArray) (hm : s.size ≤ 9223372036854775807) (w : World) :
    Calls Tryz.prog 67 #[.string s, .string ⟨#[47]⟩] w fun e w' => e = .returned (.tuple #[.string ⟨(cutB s.data.toList).1.toArray⟩, .string ⟨(cutB s.data.toList).2.1.toArray⟩, .bool (cutB s.data.toList).2.2]) ∧ ∃ m, w' = w.drewN m := by
  have hge := Lib.indexByte_ge s.data.toList 47
  obtain ⟨o, ho⟩ : ∃ o, Lib.indexByte s.data.toList 47 = o := ⟨_, rfl⟩
  have hc := index_slash s
  rw [ho] at hc hge
  by_cases h0 : o = -1
  · have q := cut_none _ (ho.trans h0)
    rw [q]
    subst h0
    go_enter Tryz.func67, Tryz.ntmps67
    go_wp2_with fail
    refine (hc _).mono ?_
    rintro e w' ⟨rfl, rfl⟩
    go_wp2
    refine bodyPost_ret (v := .tuple #[.string s, .string ⟨#[]⟩, .bool false]) ?_ rfl ⟨rfl, 0, rfl⟩
    simp [results, Tryz.f67]
  · obtain ⟨k, rfl⟩ : ∃ k : Nat, o = k := ⟨o.toNat, by omega⟩
    obtain ⟨hk, q⟩ := cut_some _ k ho
    rw [q, ← ext_take, ← ext_drop]
    rw [← bsize] at hk
    have Q : Hid (cutB s.data.toList = _) := q
    clear hge h0 q ho
    go_enter Tryz.func67, Tryz.ntmps67
    go_wp2_with fail
    refine (hc _).mono ?_
    rintro e w' ⟨rfl, rfl⟩
    go_wp2_with fail
    go_quiet (fail)
    go_wp2
    refine bodyPost_ret (v := .tuple #[.string (s.extract 0 k), .string (s.extract (k + 1) s.size), .bool true]) ?_ rfl ⟨rfl, _, rfl⟩
    simp [results, Tryz.f67]

set_option maxHeartbeats 800000 in
set_option maxRecDepth 100000 in
theorem cut_slash (s : ByteArray) (hm : s.size ≤ 9223372036854775807) (w : World) :
    Calls Tryz.prog 48 #[.string s, .string ⟨#[47]⟩] w fun e w' => e = .returned (.tuple #[.string ⟨(cutB s.data.toList).1.toArray⟩, .string ⟨(cutB s.data.toList).2.1.toArray⟩, .bool (cutB s.data.toList).2.2]) ∧ ∃ m, w' = w.drewN m := by
  obtain ⟨a, ha⟩ : ∃ a, (cutB s.data.toList).1 = a := ⟨_, rfl⟩
  obtain ⟨b, hb⟩ : ∃ b, (cutB s.data.toList).2.1 = b := ⟨_, rfl⟩
  obtain ⟨f, hf⟩ : ∃ f, (cutB s.data.toList).2.2 = f := ⟨_, rfl⟩
  have hc := cut_lite s hm w
  rw [ha, hb, hf] at hc ⊢
  go_enter Tryz.func48, Tryz.ntmps48
  go_wp2_with fail
  refine hc.mono ?_
  rintro e w' ⟨rfl, m, rfl⟩
  go_wp2
  refine bodyPost_ret (v := .tuple #[.string ⟨a.toArray⟩, .string ⟨b.toArray⟩, .bool f]) ?_ rfl ⟨rfl, m, rfl⟩
  simp [results, Tryz.f48]

theorem name_bad {s : ByteArray} {i : Nat} (h : i < s.data.toList.length) (hf : okI ((s.data.toList[i]).toNat : Int) = false) : isName s.data.toList = false := by
  have : s.data.toList.all okB = false := by
    rw [List.all_eq_false]
    exact ⟨_, List.getElem_mem h, by simpa [okB] using hf⟩
  simp [isName, this]
theorem name_step {l : Bs} {i : Nat} (h : i < l.length) (ha : (l.take i).all okB = true) (hf : okI ((l[i]).toNat : Int) = true) : Hid ((l.take (i + 1)).all okB = true) := by
  show _ = _
  rw [List.take_succ_eq_append_getElem h, List.all_append, ha]
  simpa [okB] using hf
theorem name_good {l : Bs} (h1 : 1 ≤ l.length) (h2 : l.length ≤ 16) (ha : (l.take l.length).all okB = true) : isName l = true := by
  rw [List.take_length] at ha
  simp [isName, ha, h1, h2]

set_option maxHeartbeats 800000 in
set_option maxRecDepth 100000 in
theorem name_any (s : ByteArray) (w : World) :
    Calls Tryz.prog 49 #[.string s] w fun e w' => e = .returned (.int .i64 (err (isName s.data.toList))) ∧ w' = w := by
  have hl := bsize s
  by_cases h1 : 1 ≤ s.size
  · by_cases h2 : s.size ≤ 16
    · have E : Hid (s.size = s.data.toList.length) := hl
      clear hl
      go_enter Tryz.func49, Tryz.ntmps49
      go_wp2_with fail
      go_loopg [14] s.size (fun k v wr => ∃ i : Nat, v = .int .i64 i ∧ i + k = s.size ∧ wr = w ∧ Hid ((s.data.toList.take i).all okB = true))
      case atStart => exact ⟨0, rfl, by omega, rfl, by simp [Hid]⟩
      case round =>
        obtain ⟨i, rfl, hi, rfl, HA⟩ := hrel
        by_cases hin : i < s.size
        · go_wp2_with fail
          refine (may_any _ _).mono ?_
          rintro e w' ⟨rfl, rfl⟩
          obtain ⟨f, hf⟩ : ∃ f, okI (s[i].toNat : Int) = f := ⟨_, rfl⟩
          have F : Hid (okI (s[i].toNat : Int) = f) := hf
          rw [hf]
          clear hf
          cases f
          · go_wp2
            go_ret
            exact ⟨by rw [name_bad (E.out ▸ hin) F.out]; rfl, rfl⟩
          · go_wp2
            go_roundg (gk - 1)
            case measure => omega
            case rel => exact ⟨i + 1, by go_num, by omega, rfl, name_step (E.out ▸ hin) HA.out F.out⟩
        · obtain rfl : i = s.size := by omega
          go_wp2
          go_ret
          exact ⟨by rw [name_good (by rw [← E.out]; exact h1) (by rw [← E.out]; exact h2) (by rw [E.out] at HA; exact HA.out)]; rfl, rfl⟩
    · have : isName s.data.toList = false := by simp [isName]; omega
      rw [this]
      clear this hl
      go_enter Tryz.func49, Tryz.ntmps49
      go_wp2
      go_ret
      exact ⟨rfl, rfl⟩
  · have : isName s.data.toList = false := by simp [isName]; omega
    rw [this]
    clear this hl
    go_enter Tryz.func49, Tryz.ntmps49
    go_wp2
    go_ret
    exact ⟨rfl, rfl⟩

theorem name_at (l : Bs) (g : Bool) (hg : isName l = g) (w : World) :
    Calls Tryz.prog 49 #[.string ⟨l.toArray⟩] w fun e w' => e = .returned (.int .i64 (err g)) ∧ w' = w := by
  subst hg
  exact name_any ⟨l.toArray⟩ w

set_option maxHeartbeats 1600000 in
set_option maxRecDepth 100000 in
theorem pcheck_any (s : ByteArray) (hm : s.size ≤ 9223372036854775807) (w : World) :
    Calls Tryz.prog 23 #[.string s] w fun e w' => e = .returned (.int .i64 (err (isPath s.data.toList))) ∧ ∃ m, w' = w.drewN m := by
  go_enter Tryz.func23, Tryz.ntmps23
  go_wp2_with fail
  go_loopg [0, 7] 6 (fun k p c wr => ∃ (i : Nat) (u : ByteArray) (m : Nat), p = .string u ∧ c = .int .i64 i ∧ i + k = 6 ∧ u.size ≤ 9223372036854775807 ∧ wr = w.drewN m ∧ Hid (chk k u.data.toList = isPath s.data.toList))
  case atStart => exact ⟨0, s, 0, rfl, rfl, by omega, hm, rfl, rfl⟩
  case round =>
    obtain ⟨i, u, m, rfl, rfl, hi, hu, rfl, HC⟩ := hrel
    by_cases hin : i < 6
    · obtain ⟨k, rfl⟩ : ∃ k, gk = k + 1 := ⟨gk - 1, by omega⟩
      obtain ⟨a, ha⟩ : ∃ a, (cutB u.data.toList).1 = a := ⟨_, rfl⟩
      obtain ⟨b, hb⟩ : ∃ b, (cutB u.data.toList).2.1 = b := ⟨_, rfl⟩
      obtain ⟨f, hf⟩ : ∃ f, (cutB u.data.toList).2.2 = f := ⟨_, rfl⟩
      have HC2 := HC.out
      rw [chk, ha, hb, hf] at HC2
      have HD : Hid _ := HC2
      have hbl : b.length ≤ 9223372036854775807 := by rw [← hb]; have := cut_le u.data.toList; rw [← bsize] at this; omega
      have hc := cut_slash u hu
      rw [ha, hb, hf] at hc
      clear ha hb hf HC2 HC
      go_wp2_with fail
      refine (hc _).mono ?_
      rintro e w' ⟨rfl, m1, rfl⟩
      go_wp2_with fail
      obtain ⟨g, hg⟩ : ∃ g, isName a = g := ⟨_, rfl⟩
      have HG : Hid (isName a = g) := hg
      refine (name_at a g hg _).mono ?_
      rintro e w' ⟨rfl, rfl⟩
      clear hg
      cases g
      · rw [show err false = 2 from rfl]
        go_wp2
        go_ret
        exact ⟨by rw [← HD.out, HG.out]; rfl, _, rfl⟩
      · rw [show err true = 0 from rfl]
        cases f
        · go_wp2
          go_ret
          exact ⟨by rw [← HD.out, HG.out]; rfl, _, rfl⟩
        · go_wp2
          go_roundg k
          case measure => omega
          case rel => exact ⟨i + 1, ⟨b.toArray⟩, _, rfl, by go_num, by omega, by rw [bsize]; exact hbl, rfl, by have := HD.out; rw [HG.out] at this; exact this⟩
    · obtain rfl : i = 6 := by omega
      obtain rfl : gk = 0 := by omega
      go_wp2
      go_ret
      exact ⟨by rw [← HC.out]; rfl, m, rfl⟩

theorem pcheck_at (s : ByteArray) (hm : s.size ≤ 9223372036854775807) (g : Bool) (hg : isPath s.data.toList = g) (w : World) :
    Calls Tryz.prog 23 #[.string s] w fun e w' => e = .returned (.int .i64 (err g)) ∧ ∃ m, w' = w.drewN m := by
  subst hg
  exact pcheck_any s hm w

end Go.Proofs.YtofbphmdkhocdaaGreat
