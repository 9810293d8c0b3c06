/-
  The reference's Limit and In, each by a contract. No condition but that no text is longer than any text can be.
-/
import Derived.Test.YtofbphmdkhocdaaGreatPTops
import Derived.Test.YtofbphmdkhocdaaGreatPRSort
import Derived.Test.YtofbphmdkhocdaaGreatGClass
import Derived.Test.YtofbphmdkhocdaaGreatPRParts
namespace Go.Proofs.YtofbphmdkhocdaaGreat
open Go.RowKit

def othr (y q : Bs) : Bool := q != y && under y q

theorem runder_class {S : World → Prop} (p d : Bs) (f : Bool) (hf : under p d = f) (u : SW S) :
    Calls Tryz.prog 58 #[.string ⟨p.toArray⟩, .string ⟨d.toArray⟩] u.w fun e w' => e = .returned (.bool f) ∧ ∃ u' : SW S, w' = u'.w := by
  subst hf
  refine (runder_any ⟨p.toArray⟩ ⟨d.toArray⟩ u.w).mono ?_
  rintro e w' ⟨rfl, rfl⟩
  exact ⟨rfl, u, rfl⟩

theorem anyf_step {ss : List Bs} {p : Bs → Bool} {k : Nat} (h : k < ss.length) : (ss.take (k + 1)).any p = ((ss.take k).any p || p (el ss k)) := by
  rw [List.take_succ_eq_append_getElem h, List.any_append, ← el_get h]
  simp

theorem othr_false {bl : Bool} {x y : Bs} (h : (x == y) = true) : (bl || othr y x) = bl := by
  have e : x = y := by simpa using h
  simp [othr, e]
theorem othr_true {x y : Bs} (h : (x == y) = false) : othr y x = under y x := by
  have e : x ≠ y := by simpa using h
  simp [othr, e]

theorem filt_step {ps : List Bs} {i : Nat} (h : i < ps.length) (f : Bs → Bool) : srt ((ps.take (i + 1)).filter f) = if f (el ps i) then withB (srt ((ps.take i).filter f)) (el ps i) else srt ((ps.take i).filter f) := by
  rw [List.take_succ_eq_append_getElem h, List.filter_append, ← el_get h]
  by_cases q : f (el ps i) = true
  · rw [if_pos q, srt, List.foldl_append]
    simp [q, srt]
  · rw [if_neg q]
    simp [q]

theorem runder_at (p d : Bs) (f : Bool) (hf : under p d = f) (w : World) :
    Calls Tryz.prog 58 #[.string ⟨p.toArray⟩, .string ⟨d.toArray⟩] w fun e w' => e = .returned (.bool f) ∧ w' = w := by
  subst hf
  exact runder_any ⟨p.toArray⟩ ⟨d.toArray⟩ w

set_option maxHeartbeats 1600000 in
set_option maxRecDepth 100000 in
theorem rin_any {ao : Option Addr} {c n : Nat} {ss : List Bs} (x : Bs) (w : World) (ha : Rd w ao ss) (hl : ss.length = n) (hn : n ≤ 4000000000000000000) (f : Bool) (hf : hasS ss x = f) :
    Calls Tryz.prog 29 #[.slice ao n c, .string ⟨x.toArray⟩] w fun e w' => e = .returned (.bool f) ∧ Below w.heap.size w w' := by
  have H : Hid (Rd w ao ss ∧ ss.length = n ∧ hasS ss x = f) := ⟨ha, hl, hf⟩
  clear ha hl hf
  cases hp : isPath x with
  | false =>
    have hck := ris_at x false hp
    have hf : f = false := by rw [← H.out.2.2, hasS, hp]; rfl
    subst hf
    go_enter Tryz.func29, Tryz.ntmps29
    go_wp2_with fail
    refine (hck _).mono ?_
    rintro e w1 ⟨rfl, hb1⟩
    go_wp2
    go_ret
    exact ⟨rfl, hb1⟩
  | true =>
    have hck := ris_at x true hp
    have F : Hid (f = (ss.isEmpty || ss.any (under x))) := by show f = _; rw [← H.out.2.2, hasS, hp]; rfl
    clear hp
    go_enter Tryz.func29, Tryz.ntmps29
    go_wp2_with fail
    refine (hck _).mono ?_
    rintro e w1 ⟨rfl, hb1⟩
    have B1 : Hid (Below w.heap.size w w1) := hb1
    clear hb1
    go_wp2_with fail
    go_loopg [5] n (fun k v wr => ∃ (i : Nat), v = .int .i64 i ∧ i + k = n ∧ wr = w1 ∧ Hid ((ss.take i).any (under x) = false))
    case atStart => exact ⟨0, rfl, by omega, rfl, rfl⟩
    case round =>
      obtain ⟨i, rfl, hi, rfl, HT⟩ := hrel
      by_cases hin : i < n
      · have id : (i : Int) < (n : Int) := by omega
        obtain ⟨b1, o1, rfl, hlt1, hc1⟩ := (H.out.1.below B1.out) (by rw [H.out.2.1]; omega)
        obtain ⟨y, hy⟩ : ∃ y, el ss i = y := ⟨_, rfl⟩
        have c1 := hc1 i (by rw [H.out.2.1]; omega)
        rw [hy] at c1
        have X : Hid (el ss i = y) := hy
        clear hc1 hy
        cases hu : under x y with
        | true =>
          have hc := runder_at x y true hu
          go_wp2_with fail
          refine (hc _).mono ?_
          rintro e w' ⟨rfl, rfl⟩
          go_wp2
          go_ret
          refine ⟨?_, B1.out⟩
          rw [F.out, any_hit (p := under x) (i := i) (by rw [H.out.2.1]; exact hin) (by rw [X.out]; exact hu), Bool.or_true]
          rfl
        | false =>
          have hc := runder_at x y false hu
          go_wp2_with fail
          refine (hc _).mono ?_
          rintro e w' ⟨rfl, rfl⟩
          go_wp2
          go_roundg (gk - 1)
          case measure => omega
          case rel => exact ⟨i + 1, by go_num, by omega, rfl, any_step (p := under x) (by rw [H.out.2.1]; exact hin) HT.out (by rw [X.out]; exact hu)⟩
      · obtain rfl : i = n := by omega
        have e := HT.out
        rw [List.take_of_length_le (by rw [H.out.2.1]; omega)] at e
        have F2 : Hid (f = decide (i = 0)) := by
          show f = _
          rw [F.out, e, Bool.or_false, ← H.out.2.1]
          cases ss <;> simp
        clear e
        go_wp2
        go_ret
        refine ⟨congrArg (fun b => Ending.returned (Value.bool b)) ?_, B1.out⟩
        rw [F2.out, Bool.eq_iff_iff]
        simp
        try omega

end Go.Proofs.YtofbphmdkhocdaaGreat
