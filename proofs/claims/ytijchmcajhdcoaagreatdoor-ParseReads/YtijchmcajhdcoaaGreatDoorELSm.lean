/-
  The small functions of layer 22 and of its reference, each by a contract: kinds of bytes, how many of a kind a text begins with; strings.Clone; strings.Cut and strings.Contains at one byte. No condition but that a text is no longer than any text can be.
-/
import Derived.Test.YtijchmcajhdcoaaGreatDoorETokW
import Derived.Test.YtijchmcajhdcoaaGreatDoorEShelf
import Derived.Laws.Strings3
import Derived.Laws.DeepStrings4
import Derived.Deep.LoopGhost
import Derived.Deep.RegionHeld3
import Derived.Deep.DeepCutAuto
import Derived.BigRegion
import Derived.BigQuiet
namespace Go.Proofs.YtijchmcajhdcoaaGreatDoor
open Go.RowKit

theorem bsize (s : ByteArray) : s.size = s.data.toList.length := Lib.size_eq s

set_option maxHeartbeats 400000 in
set_option maxRecDepth 100000 in
theorem lo_any (c : UInt8) (w : World) :
    Calls Tryz.prog 41 #[.int .u8 (c.toNat : Int)] w fun e w' => e = .returned (.bool (isLo c)) ∧ w' = w := by
  go_enter Tryz.func41, Tryz.ntmps41
  go_wp2
  all_goals go_ret
  all_goals refine ⟨congrArg (fun b => Ending.returned (Value.bool b)) ?_, rfl⟩
  all_goals (rw [Bool.eq_iff_iff]; simp [isLo]; try omega)

set_option maxHeartbeats 400000 in
set_option maxRecDepth 100000 in
theorem di_any (c : UInt8) (w : World) :
    Calls Tryz.prog 43 #[.int .u8 (c.toNat : Int)] w fun e w' => e = .returned (.bool (isDi c)) ∧ w' = w := by
  go_enter Tryz.func43, Tryz.ntmps43
  go_wp2
  all_goals go_ret
  all_goals refine ⟨congrArg (fun b => Ending.returned (Value.bool b)) ?_, rfl⟩
  all_goals (rw [Bool.eq_iff_iff]; simp [isDi]; try omega)

set_option maxHeartbeats 400000 in
set_option maxRecDepth 100000 in
theorem rlo_any (c : UInt8) (w : World) :
    Calls Tryz.prog 33 #[.int .u8 (c.toNat : Int)] w fun e w' => e = .returned (.bool (isLo c)) ∧ w' = w := by
  go_enter Tryz.func33, Tryz.ntmps33
  go_wp2
  all_goals go_ret
  all_goals refine ⟨congrArg (fun b => Ending.returned (Value.bool b)) ?_, rfl⟩
  all_goals (rw [Bool.eq_iff_iff]; simp [isLo]; try omega)

set_option maxHeartbeats 400000 in
set_option maxRecDepth 100000 in
theorem rdi_any (c : UInt8) (w : World) :
    Calls Tryz.prog 34 #[.int .u8 (c.toNat : Int)] w fun e w' => e = .returned (.bool (isDi c)) ∧ w' = w := by
  go_enter Tryz.func34, Tryz.ntmps34
  go_wp2
  all_goals go_ret
  all_goals refine ⟨congrArg (fun b => Ending.returned (Value.bool b)) ?_, rfl⟩
  all_goals (rw [Bool.eq_iff_iff]; simp [isDi]; try omega)

theorem byte32 (h : 0 < ({ data := #[32] } : ByteArray).size) : (({ data := #[32] } : ByteArray)[0]'h).toNat = 32 := rfl
theorem byte9 (h : 0 < ({ data := #[9] } : ByteArray).size) : (({ data := #[9] } : ByteArray)[0]'h).toNat = 9 := rfl

set_option maxHeartbeats 400000 in
set_option maxRecDepth 100000 in
theorem bl_any (c : UInt8) (w : World) :
    Calls Tryz.prog 29 #[.int .u8 (c.toNat : Int)] w fun e w' => e = .returned (.bool (isBl c)) ∧ w' = w := by
  go_enter Tryz.func29, Tryz.ntmps29
  go_wp2
  all_goals go_ret
  all_goals refine ⟨congrArg (fun b => Ending.returned (Value.bool b)) ?_, rfl⟩
  all_goals (rw [Bool.eq_iff_iff]; simp [isBl, byte32, byte9] at *; try omega)

set_option maxHeartbeats 400000 in
set_option maxRecDepth 100000 in
theorem nm_any (c : UInt8) (w : World) :
    Calls Tryz.prog 54 #[.int .u8 (c.toNat : Int)] w fun e w' => e = .returned (.bool (isNm c)) ∧ w' = w := by
  cases h1 : isLo c <;> cases h2 : isDi c
  all_goals
    go_enter Tryz.func54, Tryz.ntmps54
    go_wp2_with (first
      | (go_at_call 41; refine (lo_any _ _).mono ?_; rintro e w' ⟨rfl, rfl⟩)
      | (go_at_call 43; refine (di_any _ _).mono ?_; rintro e w' ⟨rfl, rfl⟩))
  all_goals go_ret
  all_goals refine ⟨congrArg (fun b => Ending.returned (Value.bool b)) ?_, rfl⟩
  all_goals (rw [Bool.eq_iff_iff]; simp [isNm, h1, h2] at *; try omega)

theorem get_byte (s : ByteArray) (n : Nat) (h : n < s.size) : s.data.toList[n]? = some s[n] := by
  rw [List.getElem?_eq_getElem (by rw [← bsize]; exact h)]
  rfl

set_option maxHeartbeats 400000 in
set_option maxRecDepth 100000 in
theorem span_any (f : Nat) (p : UInt8 → Bool) (hf : ∀ (c : UInt8) (w : World), Calls Tryz.prog f #[.int .u8 (c.toNat : Int)] w fun e w' => e = .returned (.bool (p c)) ∧ w' = w)
    (en : ∀ args w, (callFunc f args).run Tryz.prog w = .ok (.enter f args) w) (s : ByteArray) (hm : s.size ≤ 9223372036854775807) (w : World) :
    Calls Tryz.prog 53 #[.string s, .func (.func f) #[] #[]] w fun e w' => e = .returned (.int .i64 (spn p s.data.toList : Nat)) ∧ w' = w := by
  go_enter Tryz.func53, Tryz.ntmps53
  go_wp2
  go_loop [5] (fun i => ∃ k : Nat, k ≤ s.size ∧ i = .int .i64 k ∧ Hid (k ≤ spn p s.data.toList)) (fun i => s.size - (intOf i).toNat)
  case atStart => exact ⟨0, Nat.zero_le _, rfl, Nat.zero_le _⟩
  case round =>
    obtain ⟨k, hk, rfl, HK⟩ := hrel
    by_cases hlt : k < s.size
    · have hs := spn_step p s.data.toList k HK.out s[k] (get_byte s k hlt)
      have HS : Hid (_ ∧ _) := hs
      clear hs
      cases hp : p s[k] with
      | true =>
        go_wp2_with (go_at_fn f; refine (hf _ _).mono ?_; rintro e w' ⟨rfl, rfl⟩)
        go_round
        case rel => exact ⟨k + 1, by omega, by go_num, HS.out.1 hp⟩
        case measure => simp [intOf]; omega
      | false =>
        go_wp2_with (go_at_fn f; refine (hf _ _).mono ?_; rintro e w' ⟨rfl, rfl⟩)
        go_ret
        exact ⟨by rw [HS.out.2 hp]; rfl, rfl⟩
    · have e := spn_end p s.data.toList k HK.out (by rw [← bsize]; omega)
      have HE : Hid (_ = _) := e
      clear e
      go_wp2
      go_ret
      exact ⟨by rw [HE.out]; rfl, rfl⟩

set_option maxHeartbeats 400000 in
set_option maxRecDepth 100000 in
theorem clone_any (s : ByteArray) (hm : s.size ≤ 281474976710656) (w : World) :
    Calls Tryz.prog 55 #[.string s] w fun e w' => e = .returned (.string s) ∧ Below w.heap.size w w' := by
  go_enter Tryz.func55, Tryz.ntmps55
  go_wp2_with (go_at_call 66; refine (Any.stringslite_Clone laySClone s _ hm).mono ?_; rintro e w' ⟨rfl, hb⟩)
  go_ret
  exact ⟨rfl, hb⟩

set_option maxHeartbeats 400000 in
set_option maxRecDepth 100000 in
theorem pindexByte_any (s : ByteArray) (c : Int) (w : World) :
    Calls Tryz.prog 83 #[.string s, .int .u8 c] w fun e w' => e = .returned (.int .i64 (Lib.indexByte s.data.toList c.toNat.toUInt8)) ∧ w' = w := by
  go_enter Tryz.func83, Tryz.ntmps83
  go_wp2
  rw [run_callFunc_extern Tryz.func91 (by kernel_rfl) (by kernel_rfl) (by kernel_rfl) (e := Extern.BytealgIndexByte.indexByte) (by kernel_rfl), Lib.run_indexByteString]
  simp only [Result.andThen]
  rw [Oper.upon_value]
  go_wp2
  go_ret
  exact ⟨rfl, rfl⟩

theorem index_self39 {s : ByteArray} (h : ([39] == s.toList) = true) : Lib.indexByte s.data.toList 39 = 0 := by
  have e : [39] = s.toList := by simpa using h
  rw [← ByteArray.toList_eq, ← e]
  rfl
theorem index_self10 {s : ByteArray} (h : ([10] == s.toList) = true) : Lib.indexByte s.data.toList 10 = 0 := by
  have e : [10] = s.toList := by simpa using h
  rw [← ByteArray.toList_eq, ← e]
  rfl

set_option maxHeartbeats 800000 in
set_option maxRecDepth 100000 in
theorem index_39 (s : ByteArray) (w : World) :
    Calls Tryz.prog 82 #[.string s, .string ⟨#[39]⟩] w fun e w' => e = .returned (.int .i64 (Lib.indexByte s.data.toList 39)) ∧ w' = w := by
  go_enter Tryz.func82, Tryz.ntmps82
  go_wp2_with fail
  · have h : ([39] == s.toList) = true := by assumption
    go_ret
    exact ⟨by rw [index_self39 h]; rfl, rfl⟩
  · refine (pindexByte_any s 39 _).mono ?_
    rintro e w' ⟨rfl, rfl⟩
    go_wp2
    go_ret
    exact ⟨rfl, rfl⟩

set_option maxHeartbeats 800000 in
set_option maxRecDepth 100000 in
theorem index_10 (s : ByteArray) (w : World) :
    Calls Tryz.prog 82 #[.string s, .string ⟨#[10]⟩] w fun e w' => e = .returned (.int .i64 (Lib.indexByte s.data.toList 10)) ∧ w' = w := by
  go_enter Tryz.func82, Tryz.ntmps82
  go_wp2_with fail
  · have h : ([10] == s.toList) = true := by assumption
    go_ret
    exact ⟨by rw [index_self10 h]; rfl, rfl⟩
  · refine (pindexByte_any s 10 _).mono ?_
    rintro e w' ⟨rfl, rfl⟩
    go_wp2
    go_ret
    exact ⟨rfl, rfl⟩

set_option maxHeartbeats 800000 in
set_option maxRecDepth 100000 in
theorem contains_10 (s : ByteArray) (w : World) :
    Calls Tryz.prog 58 #[.string s, .string ⟨#[10]⟩] w fun e w' => e = .returned (.bool (decide (0 ≤ Lib.indexByte s.data.toList 10))) ∧ w' = w := by
  obtain ⟨o, ho⟩ : ∃ o, Lib.indexByte s.data.toList 10 = o := ⟨_, rfl⟩
  have hc := index_10 s
  rw [ho] at hc ⊢
  go_enter Tryz.func58, Tryz.ntmps58
  go_wp2_with (first
    | (go_at_call 70; go_in)
    | (go_at_call 82; refine (hc _).mono ?_; rintro e w' ⟨rfl, rfl⟩))
  all_goals go_ret
  all_goals exact ⟨rfl, rfl⟩

theorem ext_take (s : ByteArray) (o : Nat) : s.extract 0 o = ⟨(s.data.toList.take o).toArray⟩ := by
  have := ByteArray.extract_mk s.data.toList 0 o
  simpa using this
theorem ext_drop (s : ByteArray) (o : Nat) : s.extract o s.size = ⟨(s.data.toList.drop o).toArray⟩ := by
  have := ByteArray.extract_mk s.data.toList o s.size
  rw [List.take_of_length_le (by rw [List.length_drop, bsize]; omega)] at this
  simpa using this

set_option maxHeartbeats 800000 in
set_option maxRecDepth 100000 in
theorem cutl_no (s : ByteArray) (ho : Lib.indexByte s.data.toList 39 = -1) (w : World) :
    Calls Tryz.prog 69 #[.string s, .string ⟨#[39]⟩] w fun e w' => e = .returned (.tuple #[.string s, .string ⟨#[]⟩, .bool false]) ∧ ∃ m, w' = w.drewN m := by
  have hc := index_39 s
  rw [ho] at hc
  go_enter Tryz.func69, Tryz.ntmps69
  go_wp2_with fail
  refine (hc _).mono ?_
  rintro e w' ⟨rfl, rfl⟩
  go_wp2
  refine bodyPost_ret (v := .tuple #[.string s, .string ⟨#[]⟩, .bool false]) ?_ rfl ⟨rfl, 0, rfl⟩
  simp [results, Tryz.f69]

set_option maxHeartbeats 800000 in
set_option maxRecDepth 100000 in
/-- strings.Cut at a byte 39 that isn't there. -/
theorem cut_no (s : ByteArray) (ho : Lib.indexByte s.data.toList 39 = -1) (w : World) :
    Calls Tryz.prog 57 #[.string s, .string ⟨#[39]⟩] w fun e w' => e = .returned (.tuple #[.string s, .string ⟨#[]⟩, .bool false]) ∧ ∃ m, w' = w.drewN m := by
  go_enter Tryz.func57, Tryz.ntmps57
  go_wp2_with fail
  refine (cutl_no s ho _).mono ?_
  rintro e w' ⟨rfl, m, rfl⟩
  go_wp2
  refine bodyPost_ret (v := .tuple #[.string s, .string ⟨#[]⟩, .bool false]) ?_ rfl ⟨rfl, m, rfl⟩
  simp [results, Tryz.f57]

set_option maxHeartbeats 800000 in
set_option maxRecDepth 100000 in
theorem cutl_yes (s : ByteArray) (hm : s.size ≤ 9223372036854775807) (k : Nat) (ho : Lib.indexByte s.data.toList 39 = k) (hk : k < s.size) (w : World) :
    Calls Tryz.prog 69 #[.string s, .string ⟨#[39]⟩] w fun e w' => e = .returned (.tuple #[.string (s.extract 0 k), .string (s.extract (k + 1) s.size), .bool true]) ∧ ∃ m, w' = w.drewN m := by
  have hc := index_39 s
  rw [ho] at hc
  clear ho
  go_enter Tryz.func69, Tryz.ntmps69
  go_wp2_with fail
  refine (hc _).mono ?_
  rintro e w' ⟨rfl, rfl⟩
  go_wp2_with fail
  go_quiet (fail)
  go_wp2
  refine bodyPost_ret (v := .tuple #[.string (s.extract 0 k), .string (s.extract (k + 1) s.size), .bool true]) ?_ rfl ⟨rfl, _, rfl⟩
  simp [results, Tryz.f69]

set_option maxHeartbeats 800000 in
set_option maxRecDepth 100000 in
/-- strings.Cut at the first byte 39. -/
theorem cut_yes (s : ByteArray) (hm : s.size ≤ 9223372036854775807) (k : Nat) (ho : Lib.indexByte s.data.toList 39 = k) (hk : k < s.size) (w : World) :
    Calls Tryz.prog 57 #[.string s, .string ⟨#[39]⟩] w fun e w' => e = .returned (.tuple #[.string (s.extract 0 k), .string (s.extract (k + 1) s.size), .bool true]) ∧ ∃ m, w' = w.drewN m := by
  go_enter Tryz.func57, Tryz.ntmps57
  go_wp2_with fail
  refine (cutl_yes s hm k ho hk _).mono ?_
  rintro e w' ⟨rfl, m, rfl⟩
  go_wp2
  refine bodyPost_ret (v := .tuple #[.string (s.extract 0 k), .string (s.extract (k + 1) s.size), .bool true]) ?_ rfl ⟨rfl, m, rfl⟩
  simp [results, Tryz.f57]

end Go.Proofs.YtijchmcajhdcoaaGreatDoor
