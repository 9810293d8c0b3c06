/-
  The functions of layer 3 that look at one text, and their references, each by a contract: mayStand, Name, strings.Cut at a slash, Check, Under. No condition but that a text is no longer than any text can be.
-/
import Derived.Test.YtlhlipjbcapidaaPWords
import Derived.Laws.Strings3
import Derived.Laws.DeepStrings4
import Derived.Deep.LoopGhost
import Derived.Deep.RegionHeld3
import Derived.Deep.DeepCutAuto
import Derived.BigRegion
import Derived.BigQuiet
namespace Go.Proofs.Ytlhlipjbcapidaa
open Go.RowKit

theorem bsize (s : ByteArray) : s.size = s.data.toList.length := Lib.size_eq s

set_option maxHeartbeats 400000 in
theorem may_any (c : Int) (w : World) :
    Calls Try.prog 53 #[.int .u8 c] w fun e w' => e = .returned (.bool (okI c)) ∧ w' = w := by
  go_enter Try.func53, Try.ntmps53
  go_wp2
  all_goals go_ret
  all_goals refine ⟨congrArg (fun b => Ending.returned (Value.bool b)) ?_, rfl⟩
  all_goals (rw [Bool.eq_iff_iff]; simp [okI]; try omega)

theorem index_self {s : ByteArray} (h : ([47] == s.toList) = true) : Lib.indexByte s.data.toList 47 = 0 := by
  have e : [47] = s.toList := by simpa using h
  rw [← ByteArray.toList_eq, ← e]
  rfl

theorem ext_take (s : ByteArray) (o : Nat) : s.extract 0 o = ⟨(s.data.toList.take o).toArray⟩ := by
  have := ByteArray.extract_mk s.data.toList 0 o
  simpa using this
theorem ext_drop (s : ByteArray) (o : Nat) : s.extract o s.size = ⟨(s.data.toList.drop o).toArray⟩ := by
  have := ByteArray.extract_mk s.data.toList o s.size
  rw [List.take_of_length_le (by rw [List.length_drop, bsize]; omega)] at this
  simpa using this

theorem cut_le : ∀ l : Bs, (cutB l).2.1.length ≤ l.length
  | [] => by simp [cutB]
  | b :: t => by
    have := cut_le t
    by_cases h : b = 47
    · simp [cutB, h]
    · simp only [cutB, h, if_false, List.length_cons]; omega

def str (l : Bs) : Value := .string ⟨l.toArray⟩

theorem name_bad {s : ByteArray} {i : Nat} (h : i < s.data.toList.length) (hf : okI ((s.data.toList[i]).toNat : Int) = false) : isName s.data.toList = false := by
  have : s.data.toList.all okB = false := by
    rw [List.all_eq_false]
    exact ⟨_, List.getElem_mem h, by simpa [okB] using hf⟩
  simp [isName, this]
theorem name_step {l : Bs} {i : Nat} (h : i < l.length) (ha : (l.take i).all okB = true) (hf : okI ((l[i]).toNat : Int) = true) : Hid ((l.take (i + 1)).all okB = true) := by
  show _ = _
  rw [List.take_succ_eq_append_getElem h, List.all_append, ha]
  simpa [okB] using hf
theorem name_good {l : Bs} (h1 : 1 ≤ l.length) (h2 : l.length ≤ 16) (ha : (l.take l.length).all okB = true) : isName l = true := by
  rw [List.take_length] at ha
  simp [isName, ha, h1, h2]

set_option maxHeartbeats 800000 in
set_option maxRecDepth 100000 in
theorem name_any (s : ByteArray) (w : World) :
    Calls Try.prog 40 #[.string s] w fun e w' => e = .returned (.int .i64 (err (isName s.data.toList))) ∧ w' = w := by
  have hl := bsize s
  by_cases h1 : 1 ≤ s.size
  · by_cases h2 : s.size ≤ 16
    · have E : Hid (s.size = s.data.toList.length) := hl
      clear hl
      go_enter Try.func40, Try.ntmps40
      go_wp2_with fail
      go_loopg [14] s.size (fun k v wr => ∃ i : Nat, v = .int .i64 i ∧ i + k = s.size ∧ wr = w ∧ Hid ((s.data.toList.take i).all okB = true))
      case atStart => exact ⟨0, rfl, by omega, rfl, by simp [Hid]⟩
      case round =>
        obtain ⟨i, rfl, hi, rfl, HA⟩ := hrel
        by_cases hin : i < s.size
        · go_wp2_with fail
          refine (may_any _ _).mono ?_
          rintro e w' ⟨rfl, rfl⟩
          obtain ⟨f, hf⟩ : ∃ f, okI (s[i].toNat : Int) = f := ⟨_, rfl⟩
          have F : Hid (okI (s[i].toNat : Int) = f) := hf
          rw [hf]
          clear hf
          cases f
          · go_wp2
            go_ret
            exact ⟨by rw [name_bad (E.out ▸ hin) F.out]; rfl, rfl⟩
          · go_wp2
            go_roundg (gk - 1)
            case measure => omega
            case rel => exact ⟨i + 1, by go_num, by omega, rfl, name_step (E.out ▸ hin) HA.out F.out⟩
        · obtain rfl : i = s.size := by omega
          go_wp2
          go_ret
          exact ⟨by rw [name_good (by rw [← E.out]; exact h1) (by rw [← E.out]; exact h2) (by rw [E.out] at HA; exact HA.out)]; rfl, rfl⟩
    · have : isName s.data.toList = false := by simp [isName]; omega
      rw [this]
      clear this hl
      go_enter Try.func40, Try.ntmps40
      go_wp2
      go_ret
      exact ⟨rfl, rfl⟩
  · have : isName s.data.toList = false := by simp [isName]; omega
    rw [this]
    clear this hl
    go_enter Try.func40, Try.ntmps40
    go_wp2
    go_ret
    exact ⟨rfl, rfl⟩

theorem name_at (l : Bs) (g : Bool) (hg : isName l = g) (w : World) :
    Calls Try.prog 40 #[.string ⟨l.toArray⟩] w fun e w' => e = .returned (.int .i64 (err g)) ∧ w' = w := by
  subst hg
  exact name_any ⟨l.toArray⟩ w

end Go.Proofs.Ytlhlipjbcapidaa
