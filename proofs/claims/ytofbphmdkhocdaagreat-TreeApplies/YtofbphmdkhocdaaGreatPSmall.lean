/-
  The functions of layer 3 that look at one text, and their references, each by a contract: mayStand, Name, strings.Cut at a slash, Check, Under. No condition but that a text is no longer than any text can be.
-/
import Derived.Test.YtofbphmdkhocdaaGreatPWords
import Derived.Laws.Strings3
import Derived.Laws.DeepStrings4
import Derived.Deep.LoopGhost
import Derived.Deep.RegionHeld3
import Derived.Deep.DeepCutAuto
import Derived.BigRegion
import Derived.BigQuiet
namespace Go.Proofs.YtofbphmdkhocdaaGreat
open Go.RowKit

theorem bsize (s : ByteArray) : s.size = s.data.toList.length := Lib.size_eq s

set_option maxHeartbeats 400000 in
set_option maxRecDepth 100000 in
theorem may_any (c : Int) (w : World) :
    Calls Tryz.prog 68 #[.int .u8 c] w fun e w' => e = .returned (.bool (okI c)) ∧ w' = w := by
  go_enter Tryz.func68, Tryz.ntmps68
  go_wp2
  all_goals go_ret
  all_goals refine ⟨congrArg (fun b => Ending.returned (Value.bool b)) ?_, rfl⟩
  all_goals (rw [Bool.eq_iff_iff]; simp [okI]; try omega)

set_option maxHeartbeats 400000 in
set_option maxRecDepth 100000 in
theorem pindexByte_any (s : ByteArray) (c : Int) (w : World) :
    Calls Tryz.prog 105 #[.string s, .int .u8 c] w fun e w' => e = .returned (.int .i64 (Lib.indexByte s.data.toList c.toNat.toUInt8)) ∧ w' = w := by
  go_enter Tryz.func105, Tryz.ntmps105
  go_wp2
  rw [run_callFunc_extern Tryz.func113 (by kernel_rfl) (by kernel_rfl) (by kernel_rfl) (e := Extern.BytealgIndexByte.indexByte) (by kernel_rfl), Lib.run_indexByteString]
  simp only [Result.andThen]
  rw [Oper.upon_value]
  go_wp2
  go_ret
  exact ⟨rfl, rfl⟩

theorem index_self {s : ByteArray} (h : ([47] == s.toList) = true) : Lib.indexByte s.data.toList 47 = 0 := by
  have e : [47] = s.toList := by simpa using h
  rw [← ByteArray.toList_eq, ← e]
  rfl

set_option maxHeartbeats 800000 in
set_option maxRecDepth 100000 in
theorem index_slash (s : ByteArray) (w : World) :
    Calls Tryz.prog 86 #[.string s, .string ⟨#[47]⟩] w fun e w' => e = .returned (.int .i64 (Lib.indexByte s.data.toList 47)) ∧ w' = w := by
  go_enter Tryz.func86, Tryz.ntmps86
  go_wp2_with fail
  · have h : ([47] == s.toList) = true := by assumption
    go_ret
    exact ⟨by rw [index_self h]; rfl, rfl⟩
  · refine (pindexByte_any s 47 _).mono ?_
    rintro e w' ⟨rfl, rfl⟩
    go_wp2
    go_ret
    exact ⟨rfl, rfl⟩

theorem ext_take (s : ByteArray) (o : Nat) : s.extract 0 o = ⟨(s.data.toList.take o).toArray⟩ := by
  have := ByteArray.extract_mk s.data.toList 0 o
  simpa using this
theorem ext_drop (s : ByteArray) (o : Nat) : s.extract o s.size = ⟨(s.data.toList.drop o).toArray⟩ := by
  have := ByteArray.extract_mk s.data.toList o s.size
  rw [List.take_of_length_le (by rw [List.length_drop, bsize]; omega)] at this
  simpa using this

theorem cut_le : ∀ l : Bs, (cutB l).2.1.length ≤ l.length
  | [] => by simp [cutB]
  | b :: t => by
    have := cut_le t
    by_cases h : b = 47
    · simp [cutB, h]
    · simp only [cutB, h, if_false, List.length_cons]; omega

def str (l : Bs) : Value := .string ⟨l.toArray⟩

set_option maxHeartbeats 800000 in
set_option maxRecDepth 100000 in
theorem cut_lite (s : ByteArray) (hm : s.size ≤ 9223372036854775807) (w : World) :
    Calls Tryz.prog 67 #[.string s, .string ⟨#[47]⟩] w fun e w' => e = .returned (.tuple #[.string ⟨(cutB s.data.toList).1.toArray⟩, .string ⟨(cutB s.data.toList).2.1.toArray⟩, .bool (cutB s.data.toList).2.2]) ∧ ∃ m, w' = w.drewN m := by
  have hge := Lib.indexByte_ge s.data.toList 47
  obtain ⟨o, ho⟩ : ∃ o, Lib.indexByte s.data.toList 47 = o := ⟨_, rfl⟩
  have hc := index_slash s
  rw [ho] at hc hge
  by_cases h0 : o = -1
  · have q := cut_none _ (ho.trans h0)
    rw [q]
    subst h0
    go_enter Tryz.func67, Tryz.ntmps67
    go_wp2_with fail
    refine (hc _).mono ?_
    rintro e w' ⟨rfl, rfl⟩
    go_wp2
    refine bodyPost_ret (v := .tuple #[.string s, .string ⟨#[]⟩, .bool false]) ?_ rfl ⟨rfl, 0, rfl⟩
    simp [results, Tryz.f67]
  · obtain ⟨k, rfl⟩ : ∃ k : Nat, o = k := ⟨o.toNat, by omega⟩
    obtain ⟨hk, q⟩ := cut_some _ k ho
    rw [q, ← ext_take, ← ext_drop]
    rw [← bsize] at hk
    have Q : Hid (cutB s.data.toList = _) := q
    clear hge h0 q ho
    go_enter Tryz.func67, Tryz.ntmps67
    go_wp2_with fail
    refine (hc _).mono ?_
    rintro e w' ⟨rfl, rfl⟩
    go_wp2_with fail
    go_quiet (fail)
    go_wp2
    refine bodyPost_ret (v := .tuple #[.string (s.extract 0 k), .string (s.extract (k + 1) s.size), .bool true]) ?_ rfl ⟨rfl, _, rfl⟩
    simp [results, Tryz.f67]

set_option maxHeartbeats 800000 in
set_option maxRecDepth 100000 in
theorem cut_slash (s : ByteArray) (hm : s.size ≤ 9223372036854775807) (w : World) :
    Calls Tryz.prog 48 #[.string s, .string ⟨#[47]⟩] w fun e w' => e = .returned (.tuple #[.string ⟨(cutB s.data.toList).1.toArray⟩, .string ⟨(cutB s.data.toList).2.1.toArray⟩, .bool (cutB s.data.toList).2.2]) ∧ ∃ m, w' = w.drewN m := by
  obtain ⟨a, ha⟩ : ∃ a, (cutB s.data.toList).1 = a := ⟨_, rfl⟩
  obtain ⟨b, hb⟩ : ∃ b, (cutB s.data.toList).2.1 = b := ⟨_, rfl⟩
  obtain ⟨f, hf⟩ : ∃ f, (cutB s.data.toList).2.2 = f := ⟨_, rfl⟩
  have hc := cut_lite s hm w
  rw [ha, hb, hf] at hc ⊢
  go_enter Tryz.func48, Tryz.ntmps48
  go_wp2_with fail
  refine hc.mono ?_
  rintro e w' ⟨rfl, m, rfl⟩
  go_wp2
  refine bodyPost_ret (v := .tuple #[.string ⟨a.toArray⟩, .string ⟨b.toArray⟩, .bool f]) ?_ rfl ⟨rfl, m, rfl⟩
  simp [results, Tryz.f48]

theorem name_bad {s : ByteArray} {i : Nat} (h : i < s.data.toList.length) (hf : okI ((s.data.toList[i]).toNat : Int) = false) : isName s.data.toList = false := by
  have : s.data.toList.all okB = false := by
    rw [List.all_eq_false]
    exact ⟨_, List.getElem_mem h, by simpa [okB] using hf⟩
  simp [isName, this]
theorem name_step {l : Bs} {i : Nat} (h : i < l.length) (ha : (l.take i).all okB = true) (hf : okI ((l[i]).toNat : Int) = true) : Hid ((l.take (i + 1)).all okB = true) := by
  show _ = _
  rw [List.take_succ_eq_append_getElem h, List.all_append, ha]
  simpa [okB] using hf
theorem name_good {l : Bs} (h1 : 1 ≤ l.length) (h2 : l.length ≤ 16) (ha : (l.take l.length).all okB = true) : isName l = true := by
  rw [List.take_length] at ha
  simp [isName, ha, h1, h2]

set_option maxHeartbeats 800000 in
set_option maxRecDepth 100000 in
theorem name_any (s : ByteArray) (w : World) :
    Calls Tryz.prog 49 #[.string s] w fun e w' => e = .returned (.int .i64 (err (isName s.data.toList))) ∧ w' = w := by
  have hl := bsize s
  by_cases h1 : 1 ≤ s.size
  · by_cases h2 : s.size ≤ 16
    · have E : Hid (s.size = s.data.toList.length) := hl
      clear hl
      go_enter Tryz.func49, Tryz.ntmps49
      go_wp2_with fail
      go_loopg [14] s.size (fun k v wr => ∃ i : Nat, v = .int .i64 i ∧ i + k = s.size ∧ wr = w ∧ Hid ((s.data.toList.take i).all okB = true))
      case atStart => exact ⟨0, rfl, by omega, rfl, by simp [Hid]⟩
      case round =>
        obtain ⟨i, rfl, hi, rfl, HA⟩ := hrel
        by_cases hin : i < s.size
        · go_wp2_with fail
          refine (may_any _ _).mono ?_
          rintro e w' ⟨rfl, rfl⟩
          obtain ⟨f, hf⟩ : ∃ f, okI (s[i].toNat : Int) = f := ⟨_, rfl⟩
          have F : Hid (okI (s[i].toNat : Int) = f) := hf
          rw [hf]
          clear hf
          cases f
          · go_wp2
            go_ret
            exact ⟨by rw [name_bad (E.out ▸ hin) F.out]; rfl, rfl⟩
          · go_wp2
            go_roundg (gk - 1)
            case measure => omega
            case rel => exact ⟨i + 1, by go_num, by omega, rfl, name_step (E.out ▸ hin) HA.out F.out⟩
        · obtain rfl : i = s.size := by omega
          go_wp2
          go_ret
          exact ⟨by rw [name_good (by rw [← E.out]; exact h1) (by rw [← E.out]; exact h2) (by rw [E.out] at HA; exact HA.out)]; rfl, rfl⟩
    · have : isName s.data.toList = false := by simp [isName]; omega
      rw [this]
      clear this hl
      go_enter Tryz.func49, Tryz.ntmps49
      go_wp2
      go_ret
      exact ⟨rfl, rfl⟩
  · have : isName s.data.toList = false := by simp [isName]; omega
    rw [this]
    clear this hl
    go_enter Tryz.func49, Tryz.ntmps49
    go_wp2
    go_ret
    exact ⟨rfl, rfl⟩

theorem name_at (l : Bs) (g : Bool) (hg : isName l = g) (w : World) :
    Calls Tryz.prog 49 #[.string ⟨l.toArray⟩] w fun e w' => e = .returned (.int .i64 (err g)) ∧ w' = w := by
  subst hg
  exact name_any ⟨l.toArray⟩ w

set_option maxHeartbeats 1600000 in
set_option maxRecDepth 100000 in
theorem pcheck_any (s : ByteArray) (hm : s.size ≤ 9223372036854775807) (w : World) :
    Calls Tryz.prog 23 #[.string s] w fun e w' => e = .returned (.int .i64 (err (isPath s.data.toList))) ∧ ∃ m, w' = w.drewN m := by
  go_enter Tryz.func23, Tryz.ntmps23
  go_wp2_with fail
  go_loopg [0, 7] 6 (fun k p c wr => ∃ (i : Nat) (u : ByteArray) (m : Nat), p = .string u ∧ c = .int .i64 i ∧ i + k = 6 ∧ u.size ≤ 9223372036854775807 ∧ wr = w.drewN m ∧ Hid (chk k u.data.toList = isPath s.data.toList))
  case atStart => exact ⟨0, s, 0, rfl, rfl, by omega, hm, rfl, rfl⟩
  case round =>
    obtain ⟨i, u, m, rfl, rfl, hi, hu, rfl, HC⟩ := hrel
    by_cases hin : i < 6
    · obtain ⟨k, rfl⟩ : ∃ k, gk = k + 1 := ⟨gk - 1, by omega⟩
      obtain ⟨a, ha⟩ : ∃ a, (cutB u.data.toList).1 = a := ⟨_, rfl⟩
      obtain ⟨b, hb⟩ : ∃ b, (cutB u.data.toList).2.1 = b := ⟨_, rfl⟩
      obtain ⟨f, hf⟩ : ∃ f, (cutB u.data.toList).2.2 = f := ⟨_, rfl⟩
      have HC2 := HC.out
      rw [chk, ha, hb, hf] at HC2
      have HD : Hid _ := HC2
      have hbl : b.length ≤ 9223372036854775807 := by rw [← hb]; have := cut_le u.data.toList; rw [← bsize] at this; omega
      have hc := cut_slash u hu
      rw [ha, hb, hf] at hc
      clear ha hb hf HC2 HC
      go_wp2_with fail
      refine (hc _).mono ?_
      rintro e w' ⟨rfl, m1, rfl⟩
      go_wp2_with fail
      obtain ⟨g, hg⟩ : ∃ g, isName a = g := ⟨_, rfl⟩
      have HG : Hid (isName a = g) := hg
      refine (name_at a g hg _).mono ?_
      rintro e w' ⟨rfl, rfl⟩
      clear hg
      cases g
      · rw [show err false = 2 from rfl]
        go_wp2
        go_ret
        exact ⟨by rw [← HD.out, HG.out]; rfl, _, rfl⟩
      · rw [show err true = 0 from rfl]
        cases f
        · go_wp2
          go_ret
          exact ⟨by rw [← HD.out, HG.out]; rfl, _, rfl⟩
        · go_wp2
          go_roundg k
          case measure => omega
          case rel => exact ⟨i + 1, ⟨b.toArray⟩, _, rfl, by go_num, by omega, by rw [bsize]; exact hbl, rfl, by have := HD.out; rw [HG.out] at this; exact this⟩
    · obtain rfl : i = 6 := by omega
      obtain rfl : gk = 0 := by omega
      go_wp2
      go_ret
      exact ⟨by rw [← HC.out]; rfl, m, rfl⟩

theorem pcheck_at (s : ByteArray) (hm : s.size ≤ 9223372036854775807) (g : Bool) (hg : isPath s.data.toList = g) (w : World) :
    Calls Tryz.prog 23 #[.string s] w fun e w' => e = .returned (.int .i64 (err g)) ∧ ∃ m, w' = w.drewN m := by
  subst hg
  exact pcheck_any s hm w

end Go.Proofs.YtofbphmdkhocdaaGreat
