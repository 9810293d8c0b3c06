/-
  Several texts, laid together.
-/
import Derived.Test.YtikgbjjgpgjmfaaGreatM00
import Derived.Laws.Strings3
import Derived.Laws.DeepStrings4
import Derived.Deep.LoopGhost
import Derived.Deep.RegionHeld3
import Derived.Deep.DeepCutAuto
import Derived.BigRegion
import Derived.BigQuiet
import Derived.Shelf.Small.Wraps
import Derived.Shelf.Sort.Plain
import Derived.Shelf.Strings.Prefix
import Derived.Shelf.Slices.In.SortNone
import Derived.Test.YtikgbjjgpgjmfaaGreatM06

/-
  The functions of layer 3 that look at one text, and their references, each by a contract: mayStand, Name, strings.Cut at a slash, Check, Under. No condition but that a text is no longer than any text can be.
-/
namespace Go.Proofs.YtikgbjjgpgjmfaaGreat
open Go.RowKit

theorem bsize (s : ByteArray) : s.size = s.data.toList.length := Lib.size_eq s

set_option maxHeartbeats 400000 in
set_option maxRecDepth 100000 in
theorem may_any (c : Int) (w : World) :
    Calls Tryz.prog 135 #[.int .u8 c] w fun e w' => e = .returned (.bool (okI c)) ∧ w' = w := by
  go_enter Tryz.func135, Tryz.ntmps135
  go_wp2
  all_goals go_ret
  all_goals refine ⟨congrArg (fun b => Ending.returned (Value.bool b)) ?_, rfl⟩
  all_goals (rw [Bool.eq_iff_iff]; simp [okI]; try omega)

set_option maxHeartbeats 400000 in
set_option maxRecDepth 100000 in
theorem pindexByte_any (s : ByteArray) (c : Int) (w : World) :
    Calls Tryz.prog 218 #[.string s, .int .u8 c] w fun e w' => e = .returned (.int .i64 (Lib.indexByte s.data.toList c.toNat.toUInt8)) ∧ w' = w := by
  go_enter Tryz.func218, Tryz.ntmps218
  go_wp2
  rw [run_callFunc_extern Tryz.func222 (by kernel_rfl) (by kernel_rfl) (by kernel_rfl) (e := Extern.BytealgIndexByte.indexByte) (by kernel_rfl), Lib.run_indexByteString]
  simp only [Result.andThen]
  rw [Oper.upon_value]
  go_wp2
  go_ret
  exact ⟨rfl, rfl⟩

theorem index_self {s : ByteArray} (h : ([47] == s.toList) = true) : Lib.indexByte s.data.toList 47 = 0 := by
  have e : [47] = s.toList := by simpa using h
  rw [← ByteArray.toList_eq, ← e]
  rfl

set_option maxHeartbeats 800000 in
set_option maxRecDepth 100000 in
theorem index_slash (s : ByteArray) (w : World) :
    Calls Tryz.prog 212 #[.string s, .string ⟨#[47]⟩] w fun e w' => e = .returned (.int .i64 (Lib.indexByte s.data.toList 47)) ∧ w' = w := by
  go_enter Tryz.func212, Tryz.ntmps212
  go_wp2_with fail
  · have h : ([47] == s.toList) = true := by assumption
    go_ret
    exact ⟨by rw [index_self h]; rfl, rfl⟩
  · refine (pindexByte_any s 47 _).mono ?_
    rintro e w' ⟨rfl, rfl⟩
    go_wp2
    go_ret
    exact ⟨rfl, rfl⟩

theorem ext_take (s : ByteArray) (o : Nat) : s.extract 0 o = ⟨(s.data.toList.take o).toArray⟩ := by
  have := ByteArray.extract_mk s.data.toList 0 o
  simpa using this
theorem ext_drop (s : ByteArray) (o : Nat) : s.extract o s.size = ⟨(s.data.toList.drop o).toArray⟩ := by
  have := ByteArray.extract_mk s.data.toList o s.size
  rw [List.take_of_length_le (by rw [List.length_drop, bsize]; omega)] at this
  simpa using this

theorem cut_le : ∀ l : Bs, (cutB l).2.1.length ≤ l.length
  | [] => by simp [cutB]
  | b :: t => by
    have := cut_le t
    by_cases h : b = 47
    · simp [cutB, h]
    · simp only [cutB, h, if_false, List.length_cons]; omega

def str (l : Bs) : Value := .string ⟨l.toArray⟩

set_option maxHeartbeats 800000 in
set_option maxRecDepth 100000 in
theorem cut_lite (s : ByteArray) (hm : s.size ≤ 9223372036854775807) (w : World) :
    Calls Tryz.prog 196 #[.string s, .string ⟨#[47]⟩] w fun e w' => e = .returned (.tuple #[.string ⟨(cutB s.data.toList).1.toArray⟩, .string ⟨(cutB s.data.toList).2.1.toArray⟩, .bool (cutB s.data.toList).2.2]) ∧ ∃ m, w' = w.drewN m := by
  have hge := Lib.indexByte_ge s.data.toList 47
  obtain ⟨o, ho⟩ : ∃ o, Lib.indexByte s.data.toList 47 = o := ⟨_, rfl⟩
  have hc := index_slash s
  rw [ho] at hc hge
  by_cases h0 : o = -1
  · have q := cut_none _ (ho.trans h0)
    rw [q]
    subst h0
    go_enter Tryz.func196, Tryz.ntmps196
    go_wp2_with fail
    refine (hc _).mono ?_
    rintro e w' ⟨rfl, rfl⟩
    go_wp2
    refine bodyPost_ret (v := .tuple #[.string s, .string ⟨#[]⟩, .bool false]) ?_ rfl ⟨rfl, 0, rfl⟩
    simp [results, Tryz.f196]
  · obtain ⟨k, rfl⟩ : ∃ k : Nat, o = k := ⟨o.toNat, by omega⟩
    obtain ⟨hk, q⟩ := cut_some _ k ho
    rw [q, ← ext_take, ← ext_drop]
    rw [← bsize] at hk
    have Q : Hid (cutB s.data.toList = _) := q
    clear hge h0 q ho
    go_enter Tryz.func196, Tryz.ntmps196
    go_wp2_with fail
    refine (hc _).mono ?_
    rintro e w' ⟨rfl, rfl⟩
    go_wp2_with fail
    go_quiet (fail)
    go_wp2
    refine bodyPost_ret (v := .tuple #[.string (s.extract 0 k), .string (s.extract (k + 1) s.size), .bool true]) ?_ rfl ⟨rfl, _, rfl⟩
    simp [results, Tryz.f196]

set_option maxHeartbeats 800000 in
set_option maxRecDepth 100000 in
theorem cut_slash (s : ByteArray) (hm : s.size ≤ 9223372036854775807) (w : World) :
    Calls Tryz.prog 163 #[.string s, .string ⟨#[47]⟩] w fun e w' => e = .returned (.tuple #[.string ⟨(cutB s.data.toList).1.toArray⟩, .string ⟨(cutB s.data.toList).2.1.toArray⟩, .bool (cutB s.data.toList).2.2]) ∧ ∃ m, w' = w.drewN m := by
  obtain ⟨a, ha⟩ : ∃ a, (cutB s.data.toList).1 = a := ⟨_, rfl⟩
  obtain ⟨b, hb⟩ : ∃ b, (cutB s.data.toList).2.1 = b := ⟨_, rfl⟩
  obtain ⟨f, hf⟩ : ∃ f, (cutB s.data.toList).2.2 = f := ⟨_, rfl⟩
  have hc := cut_lite s hm w
  rw [ha, hb, hf] at hc ⊢
  go_enter Tryz.func163, Tryz.ntmps163
  go_wp2_with fail
  refine hc.mono ?_
  rintro e w' ⟨rfl, m, rfl⟩
  go_wp2
  refine bodyPost_ret (v := .tuple #[.string ⟨a.toArray⟩, .string ⟨b.toArray⟩, .bool f]) ?_ rfl ⟨rfl, m, rfl⟩
  simp [results, Tryz.f163]

theorem name_bad {s : ByteArray} {i : Nat} (h : i < s.data.toList.length) (hf : okI ((s.data.toList[i]).toNat : Int) = false) : isName s.data.toList = false := by
  have : s.data.toList.all okB = false := by
    rw [List.all_eq_false]
    exact ⟨_, List.getElem_mem h, by simpa [okB] using hf⟩
  simp [isName, this]
theorem name_step {l : Bs} {i : Nat} (h : i < l.length) (ha : (l.take i).all okB = true) (hf : okI ((l[i]).toNat : Int) = true) : Hid ((l.take (i + 1)).all okB = true) := by
  show _ = _
  rw [List.take_succ_eq_append_getElem h, List.all_append, ha]
  simpa [okB] using hf
theorem name_good {l : Bs} (h1 : 1 ≤ l.length) (h2 : l.length ≤ 16) (ha : (l.take l.length).all okB = true) : isName l = true := by
  rw [List.take_length] at ha
  simp [isName, ha, h1, h2]

set_option maxHeartbeats 800000 in
set_option maxRecDepth 100000 in
theorem name_any (s : ByteArray) (w : World) :
    Calls Tryz.prog 91 #[.string s] w fun e w' => e = .returned (.int .i64 (err (isName s.data.toList))) ∧ w' = w := by
  have hl := bsize s
  by_cases h1 : 1 ≤ s.size
  · by_cases h2 : s.size ≤ 16
    · have E : Hid (s.size = s.data.toList.length) := hl
      clear hl
      go_enter Tryz.func91, Tryz.ntmps91
      go_wp2_with fail
      go_loopg [14] s.size (fun k v wr => ∃ i : Nat, v = .int .i64 i ∧ i + k = s.size ∧ wr = w ∧ Hid ((s.data.toList.take i).all okB = true))
      case atStart => exact ⟨0, rfl, by omega, rfl, by simp [Hid]⟩
      case round =>
        obtain ⟨i, rfl, hi, rfl, HA⟩ := hrel
        by_cases hin : i < s.size
        · go_wp2_with fail
          refine (may_any _ _).mono ?_
          rintro e w' ⟨rfl, rfl⟩
          obtain ⟨f, hf⟩ : ∃ f, okI (s[i].toNat : Int) = f := ⟨_, rfl⟩
          have F : Hid (okI (s[i].toNat : Int) = f) := hf
          rw [hf]
          clear hf
          cases f
          · go_wp2
            go_ret
            exact ⟨by rw [name_bad (E.out ▸ hin) F.out]; rfl, rfl⟩
          · go_wp2
            go_roundg (gk - 1)
            case measure => omega
            case rel => exact ⟨i + 1, by go_num, by omega, rfl, name_step (E.out ▸ hin) HA.out F.out⟩
        · obtain rfl : i = s.size := by omega
          go_wp2
          go_ret
          exact ⟨by rw [name_good (by rw [← E.out]; exact h1) (by rw [← E.out]; exact h2) (by rw [E.out] at HA; exact HA.out)]; rfl, rfl⟩
    · have : isName s.data.toList = false := by simp [isName]; omega
      rw [this]
      clear this hl
      go_enter Tryz.func91, Tryz.ntmps91
      go_wp2
      go_ret
      exact ⟨rfl, rfl⟩
  · have : isName s.data.toList = false := by simp [isName]; omega
    rw [this]
    clear this hl
    go_enter Tryz.func91, Tryz.ntmps91
    go_wp2
    go_ret
    exact ⟨rfl, rfl⟩

theorem name_at (l : Bs) (g : Bool) (hg : isName l = g) (w : World) :
    Calls Tryz.prog 91 #[.string ⟨l.toArray⟩] w fun e w' => e = .returned (.int .i64 (err g)) ∧ w' = w := by
  subst hg
  exact name_any ⟨l.toArray⟩ w

set_option maxHeartbeats 1600000 in
set_option maxRecDepth 100000 in
theorem pcheck_any (s : ByteArray) (hm : s.size ≤ 9223372036854775807) (w : World) :
    Calls Tryz.prog 147 #[.string s] w fun e w' => e = .returned (.int .i64 (err (isPath s.data.toList))) ∧ ∃ m, w' = w.drewN m := by
  go_enter Tryz.func147, Tryz.ntmps147
  go_wp2_with fail
  go_loopg [0, 7] 6 (fun k p c wr => ∃ (i : Nat) (u : ByteArray) (m : Nat), p = .string u ∧ c = .int .i64 i ∧ i + k = 6 ∧ u.size ≤ 9223372036854775807 ∧ wr = w.drewN m ∧ Hid (chk k u.data.toList = isPath s.data.toList))
  case atStart => exact ⟨0, s, 0, rfl, rfl, by omega, hm, rfl, rfl⟩
  case round =>
    obtain ⟨i, u, m, rfl, rfl, hi, hu, rfl, HC⟩ := hrel
    by_cases hin : i < 6
    · obtain ⟨k, rfl⟩ : ∃ k, gk = k + 1 := ⟨gk - 1, by omega⟩
      obtain ⟨a, ha⟩ : ∃ a, (cutB u.data.toList).1 = a := ⟨_, rfl⟩
      obtain ⟨b, hb⟩ : ∃ b, (cutB u.data.toList).2.1 = b := ⟨_, rfl⟩
      obtain ⟨f, hf⟩ : ∃ f, (cutB u.data.toList).2.2 = f := ⟨_, rfl⟩
      have HC2 := HC.out
      rw [chk, ha, hb, hf] at HC2
      have HD : Hid _ := HC2
      have hbl : b.length ≤ 9223372036854775807 := by rw [← hb]; have := cut_le u.data.toList; rw [← bsize] at this; omega
      have hc := cut_slash u hu
      rw [ha, hb, hf] at hc
      clear ha hb hf HC2 HC
      go_wp2_with fail
      refine (hc _).mono ?_
      rintro e w' ⟨rfl, m1, rfl⟩
      go_wp2_with fail
      obtain ⟨g, hg⟩ : ∃ g, isName a = g := ⟨_, rfl⟩
      have HG : Hid (isName a = g) := hg
      refine (name_at a g hg _).mono ?_
      rintro e w' ⟨rfl, rfl⟩
      clear hg
      cases g
      · rw [show err false = 2 from rfl]
        go_wp2
        go_ret
        exact ⟨by rw [← HD.out, HG.out]; rfl, _, rfl⟩
      · rw [show err true = 0 from rfl]
        cases f
        · go_wp2
          go_ret
          exact ⟨by rw [← HD.out, HG.out]; rfl, _, rfl⟩
        · go_wp2
          go_roundg k
          case measure => omega
          case rel => exact ⟨i + 1, ⟨b.toArray⟩, _, rfl, by go_num, by omega, by rw [bsize]; exact hbl, rfl, by have := HD.out; rw [HG.out] at this; exact this⟩
    · obtain rfl : i = 6 := by omega
      obtain rfl : gk = 0 := by omega
      go_wp2
      go_ret
      exact ⟨by rw [← HC.out]; rfl, m, rfl⟩

theorem pcheck_at (s : ByteArray) (hm : s.size ≤ 9223372036854775807) (g : Bool) (hg : isPath s.data.toList = g) (w : World) :
    Calls Tryz.prog 147 #[.string s] w fun e w' => e = .returned (.int .i64 (err g)) ∧ ∃ m, w' = w.drewN m := by
  subst hg
  exact pcheck_any s hm w

end Go.Proofs.YtikgbjjgpgjmfaaGreat

/-
  The library's functions that the program calls, laid at this program. No condition.
-/
namespace Go.Proofs.YtikgbjjgpgjmfaaGreat
open Go.RowKit

def layCutPrefix_ren : Go.Shelf.Ren := ⟨fun | 103 => 198 | 210 => 213 | 206 => 214 | n => n, fun | 9 => 9 | 4 => 4 | 24 => 279 | 3 => 3 | n => n, fun | n => n⟩
theorem layCutPrefix : Go.Proofs.Lays.n103 Tryz.prog layCutPrefix_ren := {
  mixed := by kernel_rfl
  f103 := Tryz.func198.trans (congrArg some (by kernel_rfl))
  f206 := Tryz.func214.trans (congrArg some (by kernel_rfl))
  f210 := Tryz.func213.trans (congrArg some (by kernel_rfl))
  t3 := Tryz.underlying3
  a3 := Tryz.isAgg3
  z3 := Tryz.sizeOf3
  v3 := Tryz.zeroValue3
  t4 := Tryz.underlying4
  a4 := Tryz.isAgg4
  z4 := Tryz.sizeOf4
  v4 := Tryz.zeroValue4
  t9 := Tryz.underlying9
  a9 := Tryz.isAgg9
  z9 := Tryz.sizeOf9
  v9 := Tryz.zeroValue9
  t24 := Tryz.underlying279
  a24 := Tryz.isAgg279
  z24 := Tryz.sizeOf279
  v24 := Tryz.zeroValue279 }
def laySort_ren : Go.Shelf.Ren := ⟨fun | 190 => 137 | 125 => 152 | 258 => 160 | 128 => 177 | 129 => 178 | 302 => 187 | 303 => 188 | 304 => 189 | 305 => 190 | 306 => 191 | 307 => 192 | 308 => 193 | 309 => 194 | 310 => 195 | 333 => 209 | 329 => 201 | 330 => 202 | 334 => 210 | 335 => 211 | 336 => 154 | 344 => 217 | n => n, fun | 31 => 40 | 9 => 9 | 3 => 3 | 46 => 243 | 0 => 0 | 51 => 229 | 53 => 55 | 4 => 4 | 183 => 258 | 182 => 257 | 131 => 263 | 5 => 5 | 218 => 281 | 222 => 284 | 228 => 290 | 229 => 291 | n => n, fun | n => n⟩
theorem laySort : Go.Proofs.Lays.n190 Tryz.prog laySort_ren := {
  mixed := by kernel_rfl
  f125 := Tryz.func152.trans (congrArg some (by kernel_rfl))
  f128 := Tryz.func177.trans (congrArg some (by kernel_rfl))
  f129 := Tryz.func178.trans (congrArg some (by kernel_rfl))
  f190 := Tryz.func137.trans (congrArg some (by kernel_rfl))
  f258 := Tryz.func160.trans (congrArg some (by kernel_rfl))
  f302 := Tryz.func187.trans (congrArg some (by kernel_rfl))
  f303 := Tryz.func188.trans (congrArg some (by kernel_rfl))
  f304 := Tryz.func189.trans (congrArg some (by kernel_rfl))
  f305 := Tryz.func190.trans (congrArg some (by kernel_rfl))
  f306 := Tryz.func191.trans (congrArg some (by kernel_rfl))
  f307 := Tryz.func192.trans (congrArg some (by kernel_rfl))
  f308 := Tryz.func193.trans (congrArg some (by kernel_rfl))
  f309 := Tryz.func194.trans (congrArg some (by kernel_rfl))
  f310 := Tryz.func195.trans (congrArg some (by kernel_rfl))
  f329 := Tryz.func201.trans (congrArg some (by kernel_rfl))
  f330 := Tryz.func202.trans (congrArg some (by kernel_rfl))
  f333 := Tryz.func209.trans (congrArg some (by kernel_rfl))
  f334 := Tryz.func210.trans (congrArg some (by kernel_rfl))
  f335 := Tryz.func211.trans (congrArg some (by kernel_rfl))
  f336 := Tryz.func154.trans (congrArg some (by kernel_rfl))
  f344 := Tryz.func217.trans (congrArg some (by kernel_rfl))
  t0 := Tryz.underlying0
  a0 := Tryz.isAgg0
  z0 := Tryz.sizeOf0
  v0 := Tryz.zeroValue0
  t3 := Tryz.underlying3
  a3 := Tryz.isAgg3
  z3 := Tryz.sizeOf3
  v3 := Tryz.zeroValue3
  t4 := Tryz.underlying4
  a4 := Tryz.isAgg4
  z4 := Tryz.sizeOf4
  v4 := Tryz.zeroValue4
  t5 := Tryz.underlying5
  a5 := Tryz.isAgg5
  z5 := Tryz.sizeOf5
  v5 := Tryz.zeroValue5
  t9 := Tryz.underlying9
  a9 := Tryz.isAgg9
  z9 := Tryz.sizeOf9
  v9 := Tryz.zeroValue9
  t31 := Tryz.underlying40
  a31 := Tryz.isAgg40
  z31 := Tryz.sizeOf40
  v31 := Tryz.zeroValue40
  t46 := Tryz.underlying243
  a46 := Tryz.isAgg243
  z46 := Tryz.sizeOf243
  v46 := Tryz.zeroValue243
  t51 := Tryz.underlying229
  a51 := Tryz.isAgg229
  z51 := Tryz.sizeOf229
  v51 := Tryz.zeroValue229
  t53 := Tryz.underlying55
  a53 := Tryz.isAgg55
  z53 := Tryz.sizeOf55
  v53 := Tryz.zeroValue55
  t131 := Tryz.underlying263
  a131 := Tryz.isAgg263
  z131 := Tryz.sizeOf263
  v131 := Tryz.zeroValue263
  t182 := Tryz.underlying257
  a182 := Tryz.isAgg257
  z182 := Tryz.sizeOf257
  v182 := Tryz.zeroValue257
  t183 := Tryz.underlying258
  a183 := Tryz.isAgg258
  z183 := Tryz.sizeOf258
  v183 := Tryz.zeroValue258
  t218 := Tryz.underlying281
  a218 := Tryz.isAgg281
  z218 := Tryz.sizeOf281
  v218 := Tryz.zeroValue281
  t222 := Tryz.underlying284
  a222 := Tryz.isAgg284
  z222 := Tryz.sizeOf284
  v222 := Tryz.zeroValue284
  t228 := Tryz.underlying290
  a228 := Tryz.isAgg290
  z228 := Tryz.sizeOf290
  v228 := Tryz.zeroValue290
  t229 := Tryz.underlying291
  a229 := Tryz.isAgg291
  z229 := Tryz.sizeOf291
  v229 := Tryz.zeroValue291 }
def layHasPrefix_ren : Go.Shelf.Ren := ⟨fun | 99 => 199 | 206 => 214 | n => n, fun | 9 => 9 | 4 => 4 | 3 => 3 | n => n, fun | n => n⟩
theorem layHasPrefix : Go.Proofs.Lays.n99 Tryz.prog layHasPrefix_ren := {
  mixed := by kernel_rfl
  f99 := Tryz.func199.trans (congrArg some (by kernel_rfl))
  f206 := Tryz.func214.trans (congrArg some (by kernel_rfl))
  t3 := Tryz.underlying3
  a3 := Tryz.isAgg3
  z3 := Tryz.sizeOf3
  v3 := Tryz.zeroValue3
  t4 := Tryz.underlying4
  a4 := Tryz.isAgg4
  z4 := Tryz.sizeOf4
  v4 := Tryz.zeroValue4
  t9 := Tryz.underlying9
  a9 := Tryz.isAgg9
  z9 := Tryz.sizeOf9
  v9 := Tryz.zeroValue9 }
end Go.Proofs.YtikgbjjgpgjmfaaGreat

/-
  strings.CutPrefix and strings.HasPrefix as path.Under calls them, and path.Under by a contract. No condition.
-/
namespace Go.Proofs.YtikgbjjgpgjmfaaGreat
open Go.RowKit

theorem cutPrefix_at (p d : ByteArray) (r : Bs) (f : Bool) (hf : d.data.toList.isPrefixOf p.data.toList = f) (hr : r = if f then p.data.toList.drop d.data.toList.length else p.data.toList) (w : World) :
    Calls Tryz.prog 198 #[.string p, .string d] w fun e w' => e = .returned (.tuple #[.string ⟨r.toArray⟩, .bool f]) ∧ w' = w := by
  have h := Any.strings_CutPrefix layCutPrefix p d w
  subst hf hr
  exact h
theorem hasPrefix_at (r : Bs) (g : Bool) (hg : [47].isPrefixOf r = g) (w : World) :
    Calls Tryz.prog 199 #[.string ⟨r.toArray⟩, .string ⟨#[47]⟩] w fun e w' => e = .returned (.bool g) ∧ w' = w := by
  subst hg
  exact Any.strings_HasPrefix layHasPrefix ⟨r.toArray⟩ ⟨#[47]⟩ w

set_option maxHeartbeats 800000 in
set_option maxRecDepth 100000 in
theorem under_any (p d : ByteArray) (w : World) :
    Calls Tryz.prog 166 #[.string p, .string d] w fun e w' => e = .returned (.bool (under p.data.toList d.data.toList)) ∧ w' = w := by
  have U := under_trim p.data.toList d.data.toList
  obtain ⟨f, hf⟩ : ∃ f, d.data.toList.isPrefixOf p.data.toList = f := ⟨_, rfl⟩
  rw [← U, hf]
  cases f with
  | false =>
    have h1 := cutPrefix_at p d _ false hf rfl
    rw [Bool.false_and]
    clear U hf
    go_enter Tryz.func166, Tryz.ntmps166
    go_wp2_with fail
    refine (h1 _).mono ?_
    rintro e w' ⟨rfl, rfl⟩
    go_wp2
    go_ret
    exact ⟨rfl, rfl⟩
  | true =>
    obtain ⟨r, hr⟩ : ∃ r, p.data.toList.drop d.data.toList.length = r := ⟨_, rfl⟩
    have h1 := cutPrefix_at p d r true hf hr.symm
    rw [hr, Bool.true_and]
    clear U hf hr
    cases hr : r == [] with
    | true =>
      obtain rfl : r = [] := by simpa using hr
      go_enter Tryz.func166, Tryz.ntmps166
      go_wp2_with fail
      refine (h1 _).mono ?_
      rintro e w' ⟨rfl, rfl⟩
      go_wp2
      go_ret
      exact ⟨rfl, rfl⟩
    | false =>
      obtain ⟨g, hg⟩ : ∃ g, [47].isPrefixOf r = g := ⟨_, rfl⟩
      have h2 := hasPrefix_at r g hg
      rw [hg]
      clear hg
      go_enter Tryz.func166, Tryz.ntmps166
      go_wp2_with fail
      refine (h1 _).mono ?_
      rintro e w' ⟨rfl, rfl⟩
      go_wp2_with fail
      refine (h2 _).mono ?_
      rintro e w' ⟨rfl, rfl⟩
      go_wp2
      go_ret
      exact ⟨rfl, rfl⟩

end Go.Proofs.YtikgbjjgpgjmfaaGreat

/-
  Entries and numbers in memory; slices.ContainsFunc and slices.Contains as the program calls them; fitsBehind, by a contract. No condition but that the lists are shorter than any list can be.
-/
namespace Go.Proofs.YtikgbjjgpgjmfaaGreat
open Go.RowKit

/-- Entries. -/
def encE : Enc En := ⟨fun e => [tx e.1, .int .u64 (e.2.toNat : Int)], 2, fun _ => rfl, by decide, by intro x u h; simp at h; rcases h with rfl | rfl <;> rfl⟩

theorem Tryz.info69 : (Tryz.prog.info? 69).map (fun i => (i.zero, i.size, i.bytes)) = some (some (.agg #[.string ⟨#[]⟩, .int .u64 0]), 2, 24) := by kernel_rfl
theorem Tryz.info167 : (Tryz.prog.info? 167).map (fun i => (i.zero, i.size, i.bytes)) = some (some (.agg #[.string ⟨#[]⟩, .int .u64 0]), 2, 24) := by kernel_rfl

theorem Tryz.info56 : (Tryz.prog.info? 56).map (fun i => (i.zero, i.size, i.bytes)) = some (some (.int .u64 0), 1, 8) := by kernel_rfl
theorem Tryz.info55 : (Tryz.prog.info? 55).map (fun i => (i.zero, i.size, i.bytes)) = some (some (.int .u64 0), 1, 8) := by kernel_rfl

theorem RdG.ents {w : World} {b off : Nat} {es : List En} (h : RdG encE w (some ⟨b, off, none⟩) es) {i : Nat} {e : En} (hx : es[i]? = some e) : b < w.heap.size ∧ w.cell? ⟨b, off + i * 2, none⟩ = some (tx e.1) ∧ w.cell? ⟨b, off + i * 2 + 1, none⟩ = some (.int .u64 (e.2.toNat : Int)) := by
  obtain ⟨b', off', e', hlt, hc⟩ := h (by rcases Nat.lt_or_ge i es.length with q | q
                                          · omega
                                          · rw [List.getElem?_eq_none q] at hx; cases hx)
  obtain ⟨rfl, rfl⟩ : b = b' ∧ off = off' := by simpa using e'
  have h0 := hc i e hx 0 _ rfl
  have h1 := hc i e hx 1 _ rfl
  exact ⟨hlt, by simpa [encE] using h0, by simpa [encE, Nat.add_assoc] using h1⟩

set_option maxHeartbeats 800000 in
set_option maxRecDepth 100000 in
theorem ounder_lit (p : Bs) (B : Nat) (d : Bs) (z : Int) (w : World) (hc : w.cell? ⟨B, 0, none⟩ = some (tx p)) (f : Bool) (hf : under p d = f) :
    Calls Tryz.prog 165 #[.agg #[tx d, .int .u64 z], .pointer (some ⟨B, 0, none⟩)] w fun e w' => e = .returned (.bool f) ∧ Below w.heap.size w w' := by
  have hb : B < w.heap.size := World.block_lt_of_cell? w _ hc
  have h := under_any ⟨p.toArray⟩ ⟨d.toArray⟩ (w.alloc (.cells #[tx d, .int .u64 z] 69))
  change Calls Tryz.prog 166 #[.string ⟨p.toArray⟩, .string ⟨d.toArray⟩] _ fun e w' => e = .returned (.bool (under p d)) ∧ w' = _ at h
  rw [hf] at h
  have ne : B ≠ w.heap.size := by omega
  clear hf
  go_enter Tryz.func165, Tryz.ntmps165
  go_wp2_with fail
  refine h.mono ?_
  rintro e w' ⟨rfl, rfl⟩
  go_wp2
  go_ret
  exact ⟨rfl, bz1 _ _⟩

theorem oenters43 : ∀ args w, (callFunc 165 args).run Tryz.prog w = .ok (.enter 165 args) w := enters_of Tryz.func165 (by kernel_rfl) rfl

set_option maxHeartbeats 1600000 in
set_option maxRecDepth 100000 in
/-- slices.IndexFunc as fitsBehind calls it. -/
theorem idx_ent {ao : Option Addr} {c n B : Nat} {es : List En} (p : Bs) (w : World) (hB : w.cell? ⟨B, 0, none⟩ = some (tx p)) (ha : RdG encE w ao es) (hl : es.length = n) (hn : n ≤ 4000000000000000000) :
    Calls Tryz.prog 197 #[.slice ao n c, .func (.func 165) #[] #[.pointer (some ⟨B, 0, none⟩)]] w fun e w' => ∃ r : Int, e = .returned (.int .i64 r) ∧ decide (0 ≤ r) = es.any (fun e => under p e.1) ∧ Below w.heap.size w w' := by
  have H : Hid (RdG encE w ao es ∧ es.length = n ∧ w.cell? ⟨B, 0, none⟩ = some (tx p) ∧ B < w.heap.size) := ⟨ha, hl, hB, World.block_lt_of_cell? w _ hB⟩
  clear ha hl hB
  have eg := oenters43
  go_enter Tryz.func197, Tryz.ntmps197
  go_wp2_with fail
  go_loopg [5, 8] n (fun k _ v wr => ∃ (i : Nat), v = .int .i64 i ∧ i + k = n ∧ Hid ((es.take i).any (fun e => under p e.1) = false) ∧ Hid (Below w.heap.size w wr))
  case atStart => exact ⟨0, rfl, by omega, rfl, Below.refl _ _⟩
  case round =>
    obtain ⟨i, rfl, hi, HT, hb⟩ := hrel
    by_cases hin : i < n
    · have id : (i : Int) < (n : Int) := by omega
      obtain ⟨e, he⟩ := get_some H.out.2.1 hin
      obtain ⟨b, off, rfl, hlt⟩ := H.out.1.some_of he
      obtain ⟨_, c0, c1⟩ := (H.out.1.below hb.out).ents he
      obtain ⟨d, z⟩ := e
      obtain ⟨zi, hz⟩ : ∃ zi, (z.toNat : Int) = zi := ⟨_, rfl⟩
      simp only at c0 c1
      rw [hz] at c1
      have hcB : wr.cell? ⟨B, 0, none⟩ = some (tx p) := (hb.out.cell H.out.2.2.2).trans H.out.2.2.1
      have HE : Hid (es[i]? = some (d, z)) := he
      clear he hz
      cases hxy : under p d with
      | true =>
        have hcall := ounder_lit p B d zi wr hcB true hxy
        clear hcB
        go_wp2_with (go_at_fn 165; refine hcall.mono ?_; rintro e w' ⟨rfl, hb'⟩)
        go_ret
        exact ⟨i, rfl, by rw [anyE_hit (p := fun e => under p e.1) HE.out hxy]; simp, hb.out.trans (hb'.mono hb.out.size)⟩
      | false =>
        have hcall := ounder_lit p B d zi wr hcB false hxy
        clear hcB
        go_wp2_with (go_at_fn 165; refine hcall.mono ?_; rintro e w' ⟨rfl, hb'⟩)
        go_roundg (gk - 1)
        case measure => omega
        case rel => exact ⟨i + 1, by go_num, by omega, anyE_step (es := es) (p := fun e : En => under p e.1) HE.out HT.out hxy, hb.out.trans (hb'.mono hb.out.size)⟩
    · obtain rfl : i = n := by omega
      go_wp2
      go_ret
      refine ⟨-1, rfl, ?_, hb.out⟩
      have e := HT.out
      rw [List.take_of_length_le (by rw [H.out.2.1]; omega)] at e
      rw [e]
      rfl

set_option maxHeartbeats 800000 in
set_option maxRecDepth 100000 in
theorem contains_ent {ao : Option Addr} {c n B : Nat} {es : List En} (p : Bs) (w : World) (hB : w.cell? ⟨B, 0, none⟩ = some (tx p)) (ha : RdG encE w ao es) (hl : es.length = n) (hn : n ≤ 4000000000000000000) (f : Bool) (hf : es.any (fun e => under p e.1) = f) :
    Calls Tryz.prog 164 #[.slice ao n c, .func (.func 165) #[] #[.pointer (some ⟨B, 0, none⟩)]] w fun e w' => e = .returned (.bool f) ∧ Below w.heap.size w w' := by
  have h := idx_ent (c := c) p w hB ha hl hn
  rw [hf] at h
  clear hB ha hl hf
  go_enter Tryz.func164, Tryz.ntmps164
  go_wp2_with fail
  refine h.mono ?_
  rintro e w' ⟨r, rfl, hr, hb⟩
  have R : Hid (decide (0 ≤ r) = f) := hr
  clear hr
  go_wp2
  go_ret
  exact ⟨by rw [← R.out]; rfl, hb⟩

set_option maxHeartbeats 1600000 in
set_option maxRecDepth 100000 in
theorem fits_none {ao : Option Addr} {c : Nat} (p : Bs) (w : World) :
    Calls Tryz.prog 148 #[tx p, .slice ao 0 c] w fun e w' => e = .returned (.bool true) ∧ Below w.heap.size w w' := by
  have hc : ∀ m, _ := fun m => contains_ent (ao := ao) (c := c) (n := 0) (B := w.heap.size) (es := []) p ((w.alloc (.cells #[tx p] 9)).drewN m) (((bdrewN _ m).cell (by simp)).trans (by simp)) (RdG.nil _ _ _) rfl (by omega) false rfl
  go_enter Tryz.func148, Tryz.ntmps148
  go_wp2_with fail
  go_quiet (fail)
  go_wp2_with fail
  refine (hc _).mono ?_
  rintro e w' ⟨rfl, hb⟩
  go_wp2
  go_ret
  exact ⟨rfl, ((bz1 w _).trans ((bdrewN _ _).mono (bz1 w _).size)).trans (hb.mono (bz1 w _).size)⟩

set_option maxHeartbeats 1600000 in
set_option maxRecDepth 100000 in
theorem fits_some {ao : Option Addr} {c m : Nat} {es : List En} (p : Bs) (w : World) (ha : RdG encE w ao es) (hl : es.length = m + 1) (hn : m + 1 ≤ 4000000000000000000) :
    Calls Tryz.prog 148 #[tx p, .slice ao (m + 1) c] w fun e w' => e = .returned (.bool (fits p es)) ∧ Below w.heap.size w w' := by
  obtain ⟨e, he⟩ := get_some hl (Nat.lt_succ_self m)
  obtain ⟨b, off, rfl, hlt⟩ := ha.some_of he
  obtain ⟨W, hW⟩ : ∃ W, w.alloc (.cells #[tx p] 9) = W := ⟨_, rfl⟩
  have bW : Below w.heap.size w W := by rw [← hW]; exact bz1 _ _
  have cW : W.cell? ⟨w.heap.size, 0, none⟩ = some (tx p) := by rw [← hW]; simp
  have sW : W.heap.size = w.heap.size + 1 := by rw [← hW]; simp
  obtain ⟨hbW, c0, _⟩ := (ha.below bW).ents he
  obtain ⟨d, z⟩ := e
  simp only at c0
  have hf : fits p es = (decide (d < p) && !(es.any fun e => under p e.1)) := by
    unfold fits
    have : es.getLast? = some (d, z) := by rw [List.getLast?_eq_getElem?, hl]; exact he
    rw [this]
  obtain ⟨f, hff⟩ : ∃ f, (es.any fun e => under p e.1) = f := ⟨_, rfl⟩
  rw [hff] at hf
  have hc : ∀ k, _ := fun k => contains_ent (ao := some ⟨b, off, none⟩) (c := c) (n := m + 1) (B := w.heap.size) p (W.drewN k) (((bdrewN _ k).cell (by rw [sW]; exact Nat.lt_succ_self _)).trans cW) ((ha.below bW).below (bdrewN _ k)) hl hn f hff
  have H : Hid (Below w.heap.size w W ∧ W.heap.size = w.heap.size + 1) := ⟨bW, sW⟩
  have hdp := less_eq d p
  clear bW sW ha he hff hl
  by_cases hlt : d < p
  · have q1 : Op.bytesLess p d = false := by rw [less_eq, decide_eq_false_iff_not]; exact List.lt_asymm hlt
    have q2 : (p == d) = false := by rw [beq_eq_false_iff_ne]; rintro rfl; exact List.lt_irrefl _ hlt
    rw [hf, decide_eq_true hlt, Bool.true_and]
    clear hf hdp hlt
    go_enter Tryz.func148, Tryz.ntmps148
    go_wp2_with fail
    go_quiet (fail)
    go_wp2_with fail
    refine (hc _).mono ?_
    rintro e w' ⟨rfl, hb⟩
    go_wp2
    go_ret
    exact ⟨rfl, (H.out.1.trans ((bdrewN _ _).mono H.out.1.size)).trans (hb.mono H.out.1.size)⟩
  · rw [hf, decide_eq_false hlt, Bool.false_and]
    clear hc hf hdp
    by_cases hq : p = d
    · subst hq
      clear hlt
      go_enter Tryz.func148, Tryz.ntmps148
      go_wp2_with fail
      go_quiet (fail)
      go_wp2
      go_ret
      exact ⟨rfl, H.out.1.trans ((bdrewN _ _).mono H.out.1.size)⟩
    · have q1 : Op.bytesLess p d = true := by
        rw [less_eq, decide_eq_true_iff]
        by_cases k : p < d
        · exact k
        · exact absurd (List.le_antisymm hlt k) hq
      clear hlt hq
      go_enter Tryz.func148, Tryz.ntmps148
      go_wp2_with fail
      go_quiet (fail)
      go_wp2
      go_ret
      exact ⟨rfl, H.out.1.trans ((bdrewN _ _).mono H.out.1.size)⟩

/-- fitsBehind. -/
theorem fits_any {ao : Option Addr} {c n : Nat} {es : List En} (p : Bs) (w : World) (ha : RdG encE w ao es) (hl : es.length = n) (hn : n ≤ 4000000000000000000) (f : Bool) (hf : fits p es = f) :
    Calls Tryz.prog 148 #[tx p, .slice ao n c] w fun e w' => e = .returned (.bool f) ∧ Below w.heap.size w w' := by
  subst hf
  cases n with
  | zero =>
    obtain rfl : es = [] := List.eq_nil_of_length_eq_zero hl
    exact fits_none p w
  | succ m => exact fits_some p w ha hl hn

set_option maxHeartbeats 1600000 in
set_option maxRecDepth 100000 in
/-- slices.Index of a number. -/
theorem idx_num {ao : Option Addr} {c n : Nat} {xs : List UInt64} (x : UInt64) (w : World) (ha : RdG encU w ao xs) (hl : xs.length = n) (hn : n ≤ 4000000000000000000) :
    Calls Tryz.prog 167 #[.slice ao n c, .int .u64 (x.toNat : Int)] w fun e w' => ∃ r : Int, e = .returned (.int .i64 r) ∧ decide (0 ≤ r) = xs.any (fun y => x == y) ∧ w' = w := by
  have H : Hid (RdG encU w ao xs ∧ xs.length = n) := ⟨ha, hl⟩
  clear ha hl
  go_enter Tryz.func167, Tryz.ntmps167
  go_wp2_with fail
  go_loopg [5, 8] n (fun k _ v wr => ∃ (i : Nat), v = .int .i64 i ∧ i + k = n ∧ wr = w ∧ Hid ((xs.take i).any (fun y => x == y) = false))
  case atStart => exact ⟨0, rfl, by omega, rfl, rfl⟩
  case round =>
    obtain ⟨i, rfl, hi, rfl, HT⟩ := hrel
    by_cases hin : i < n
    · have id : (i : Int) < (n : Int) := by omega
      obtain ⟨y, he⟩ := get_some H.out.2 hin
      obtain ⟨b, off, rfl, hlt⟩ := H.out.1.some_of he
      obtain ⟨_, c0⟩ := H.out.1.nums he
      have HE : Hid (xs[i]? = some y) := he
      clear he
      by_cases hxy : x = y
      · subst hxy
        go_wp2
        go_ret
        exact ⟨i, rfl, by rw [anyE_hit (p := fun y => x == y) HE.out (by simp)]; simp, rfl⟩
      · have m0 : ((x.toNat : Int) == (y.toNat : Int)) = false := by
          rw [beq_eq_false_iff_ne]
          intro q
          exact hxy (UInt64.toNat_inj.1 (by omega))
        have m1 : (x.toNat == y.toNat) = false := by
          rw [beq_eq_false_iff_ne]
          intro q
          exact hxy (UInt64.toNat_inj.1 q)
        go_wp2
        go_roundg (gk - 1)
        case measure => omega
        case rel => exact ⟨i + 1, by go_num, by omega, rfl, anyE_step (p := fun y => x == y) HE.out HT.out (by simpa using hxy)⟩
    · obtain rfl : i = n := by omega
      go_wp2
      go_ret
      refine ⟨-1, rfl, ?_, rfl⟩
      have e := HT.out
      rw [List.take_of_length_le (by rw [H.out.2]; omega)] at e
      rw [e]
      rfl

set_option maxHeartbeats 800000 in
set_option maxRecDepth 100000 in
/-- slices.Contains of a number. -/
theorem contains_num {ao : Option Addr} {c n : Nat} {xs : List UInt64} (x : UInt64) (w : World) (ha : RdG encU w ao xs) (hl : xs.length = n) (hn : n ≤ 4000000000000000000) (f : Bool) (hf : xs.any (fun y => x == y) = f) :
    Calls Tryz.prog 149 #[.slice ao n c, .int .u64 (x.toNat : Int)] w fun e w' => e = .returned (.bool f) ∧ w' = w := by
  have h := idx_num (c := c) x w ha hl hn
  rw [hf] at h
  clear ha hl hf
  go_enter Tryz.func149, Tryz.ntmps149
  go_wp2_with fail
  refine h.mono ?_
  rintro e w' ⟨r, rfl, hr, rfl⟩
  have R : Hid (decide (0 ≤ r) = f) := hr
  clear hr
  go_wp2
  go_ret
  exact ⟨by rw [← R.out]; rfl, rfl⟩

end Go.Proofs.YtikgbjjgpgjmfaaGreat
