/-
  The reference's Name and Under, each by a contract. No condition but that a text is no longer than any text can be.
-/
import Derived.Test.YtjlokpjflgbgdaaGreatML06
set_option maxHeartbeats 6400000
set_option maxRecDepth 100000
namespace Go.Proofs.YtjlokpjflgbgdaaGreat
open Go.RowKit
theorem rname_any (s : ByteArray) (hm : s.size <= 9223372036854775807) (w : World) :
  Calls Tryz.prog 131 #[.string s] w λ e w' => e = .returned (.bool (isName s.data.toList)) /\ w' = w := by
 have E : Hid (s.size = s.data.toList.length) := bsize s
 go_enter Tryz.func131, Tryz.ntmps131
 go_wp2_with fail
 go_loopg [3] s.size (λ k v wr => ∃ i : Nat, v = .int .i64 i /\ i + k = s.size /\ wr = w /\ Hid ((s.data.toList.take i).all okB = true))
 case atStart => exact ⟨0, rfl, by omega, rfl, by simp [Hid]⟩
 case round =>
  obtain ⟨i, rfl, hi, rfl, HA⟩ := hrel
  by_cases hin : i < s.size
  ·obtain ⟨c, hc⟩ : ∃ c : Int, (s[i].toNat : Int) = c := ⟨_, rfl⟩
   have HC : Hid ((s[i].toNat : Int) = c) := hc
   go_wp2_with fail
   all_goals first
    | (have ok : okI c = true := by (clear HA HC hc E; simp_all [okI]; try omega)
       go_roundg (gk - 1)
       case measure => omega
       case rel => exact ⟨i + 1, by go_num, by omega, rfl, name_step (E.out ▸ hin) HA.out (HC.out ▸ ok)⟩)
    | (have ok : okI c = false := by (clear HA HC hc E; simp_all [okI]; try omega)
       go_ret
       exact ⟨by rw [name_bad (E.out ▸ hin) (HC.out ▸ ok)]; rfl, rfl⟩)
  ·obtain rfl : i = s.size := by omega
   have HB := HA.out
   rw [E.out, List.take_length] at HB
   have e : isName s.data.toList = (decide (1 <= s.size) && decide (s.size <= 16)) := by rw [isName, HB, <- E.out, Bool.and_true]
   have EE : Hid (isName s.data.toList = (decide (1 <= s.size) && decide (s.size <= 16))) := e
   clear HB e HA
   go_wp2
   all_goals go_ret
   all_goals refine ⟨congrArg (λ b => Ending.returned (Value.bool b)) ?_, rfl⟩
   all_goals (rw [EE.out, Bool.eq_iff_iff]; simp; try omega)
theorem under_short {p d : Bs} (h : p.length < d.length) : under p d = false := by
 rw [Bool.eq_false_iff]
 intro q
 simp only [under, Bool.or_eq_true, List.isPrefixOf_iff_prefix, beq_iff_eq] at q
 rcases q with rfl | q
 ·omega
 ·have := q.length_le
  simp at this
  omega
theorem under_take {p d : Bs} (q : under p d = true) : p.take d.length = d := by
 simp only [under, Bool.or_eq_true, List.isPrefixOf_iff_prefix, beq_iff_eq] at q
 rcases q with rfl | ⟨u, rfl⟩
 ·simp
 ·simp
theorem under_ne {p d : Bs} (h : p.take d.length ≠ d) : under p d = false := by
 rw [Bool.eq_false_iff]
 exact λ q => h (under_take q)
theorem under_eq {p d : Bs} (h : p.take d.length = d) (hl : p.length = d.length) : under p d = true := by
 rw [<- hl, List.take_length] at h
 simp [under, h]
theorem under_at {p d : Bs} (h : p.take d.length = d) (hl : d.length < p.length) : under p d = decide (((p[d.length]).toNat : Int) = 47) := by
 obtain ⟨u, rfl⟩ : ∃ u, p = d ++ u := ⟨p.drop d.length, by
  have := List.take_append_drop d.length p
  rw [h] at this
  exact this.symm⟩
 cases u with
 | nil => simp at hl
 | cons c t =>
  have e1 : (d ++ c :: t)[d.length] = c := by simp
  rw [e1, Bool.eq_iff_iff]
  simp only [under, Bool.or_eq_true, List.isPrefixOf_iff_prefix, beq_iff_eq, decide_eq_true_eq]
  constructor
  ·rintro (q | ⟨u, q⟩)
   ·simp at q
   ·rw [List.append_assoc, List.append_cancel_left_eq] at q
    simp at q
    rw [<- q.1]; rfl
  ·intro q
   right
   have c47 : c.toNat = (47 : UInt8).toNat := by show c.toNat = 47; omega
   have : c = 47 := UInt8.toNat_inj.1 c47
   subst this
   exact ⟨t, by simp⟩
theorem ext_eq {p d : ByteArray} : ((p.extract 0 d.size).toList == d.toList) = (p.data.toList.take d.data.toList.length == d.data.toList) := by
 rw [ext_take, ByteArray.toList_mk, ByteArray.toList_eq, bsize]
theorem runder_any (p d : ByteArray) (w : World) :
  Calls Tryz.prog 184 #[.string p, .string d] w λ e w' => e = .returned (.bool (under p.data.toList d.data.toList)) /\ w' = w := by
 have hp : Hid _ := bsize p
 have hd : Hid _ := bsize d
 by_cases h1 : p.size < d.size
 ·rw [under_short (by rw [<- hp.out, <- hd.out]; exact h1)]
  go_enter Tryz.func184, Tryz.ntmps184
  go_wp2
  go_ret
  exact ⟨rfl, rfl⟩
 ·have X := @ext_eq p d
  obtain ⟨f, hf⟩ : ∃ f, ((p.extract 0 d.size).toList == d.toList) = f := ⟨_, rfl⟩
  cases f with
  | false =>
   rw [under_ne (by rw [hf] at X; simpa using X.symm)]
   have hf2 : (!(p.extract 0 d.size).toList == d.toList) = true := by rw [hf]; rfl
   have hf3 : ¬ List.take d.size p.data.toList = d.data.toList := by rw [hf] at X; rw [hd.out]; simpa using X.symm
   go_enter Tryz.func184, Tryz.ntmps184
   go_wp2
   all_goals go_ret
   all_goals first
    | exact ⟨rfl, rfl⟩
    | (exfalso; clear X hp hd; simp_all; done)
  | true =>
   have T : p.data.toList.take d.data.toList.length = d.data.toList := by rw [hf] at X; simpa using X.symm
   have hf2 : (!(p.extract 0 d.size).toList == d.toList) = false := by rw [hf]; rfl
   by_cases h2 : p.size = d.size
   ·rw [under_eq T (by rw [<- hp.out, <- hd.out]; exact h2)]
    clear X T
    go_enter Tryz.func184, Tryz.ntmps184
    go_wp2
    all_goals go_ret
    all_goals exact ⟨rfl, rfl⟩
   ·have h3 : d.size < p.size := by omega
    have U := under_at T (by rw [<- hp.out, <- hd.out]; exact h3)
    rw [U]
    have e : (p.data.toList[d.data.toList.length]'(by rw [<- hp.out, <- hd.out]; exact h3)) = p[d.size] := by
     show p.data.toList[d.data.toList.length]'_ = p.data.toList[d.size]'_
     congr 1
    rw [e]
    clear X T U
    go_enter Tryz.func184, Tryz.ntmps184
    go_wp2
    all_goals go_ret
    all_goals refine ⟨congrArg (λ b => Ending.returned (Value.bool b)) ?_, rfl⟩
    all_goals (rw [Bool.eq_iff_iff]; simp; try omega)
end Go.Proofs.YtjlokpjflgbgdaaGreat
