/-
  Several texts, laid together.
-/
import Derived.Test.YtofbphmdkhocdaaGreatPTopsMg
import Derived.Test.YtofbphmdkhocdaaGreatM27
import Derived.Test.YtofbphmdkhocdaaGreatM03
import Derived.Test.YtofbphmdkhocdaaGreatPRPartsMg
import Derived.Test.YtofbphmdkhocdaaGreatYCapMg
import Derived.Test.YtofbphmdkhocdaaGreatYGoneMg

/-
  The reference's Limit and In, each by a contract. No condition but that no text is longer than any text can be.
-/
namespace Go.Proofs.YtofbphmdkhocdaaGreat
open Go.RowKit

def othr (y q : Bs) : Bool := q != y && under y q

theorem runder_class {S : World → Prop} (p d : Bs) (f : Bool) (hf : under p d = f) (u : SW S) :
    Calls Tryz.prog 58 #[.string ⟨p.toArray⟩, .string ⟨d.toArray⟩] u.w fun e w' => e = .returned (.bool f) ∧ ∃ u' : SW S, w' = u'.w := by
  subst hf
  refine (runder_any ⟨p.toArray⟩ ⟨d.toArray⟩ u.w).mono ?_
  rintro e w' ⟨rfl, rfl⟩
  exact ⟨rfl, u, rfl⟩

theorem anyf_step {ss : List Bs} {p : Bs → Bool} {k : Nat} (h : k < ss.length) : (ss.take (k + 1)).any p = ((ss.take k).any p || p (el ss k)) := by
  rw [List.take_succ_eq_append_getElem h, List.any_append, ← el_get h]
  simp

theorem othr_false {bl : Bool} {x y : Bs} (h : (x == y) = true) : (bl || othr y x) = bl := by
  have e : x = y := by simpa using h
  simp [othr, e]
theorem othr_true {x y : Bs} (h : (x == y) = false) : othr y x = under y x := by
  have e : x ≠ y := by simpa using h
  simp [othr, e]

theorem filt_step {ps : List Bs} {i : Nat} (h : i < ps.length) (f : Bs → Bool) : srt ((ps.take (i + 1)).filter f) = if f (el ps i) then withB (srt ((ps.take i).filter f)) (el ps i) else srt ((ps.take i).filter f) := by
  rw [List.take_succ_eq_append_getElem h, List.filter_append, ← el_get h]
  by_cases q : f (el ps i) = true
  · rw [if_pos q, srt, List.foldl_append]
    simp [q, srt]
  · rw [if_neg q]
    simp [q]

theorem runder_at (p d : Bs) (f : Bool) (hf : under p d = f) (w : World) :
    Calls Tryz.prog 58 #[.string ⟨p.toArray⟩, .string ⟨d.toArray⟩] w fun e w' => e = .returned (.bool f) ∧ w' = w := by
  subst hf
  exact runder_any ⟨p.toArray⟩ ⟨d.toArray⟩ w

set_option maxHeartbeats 1600000 in
set_option maxRecDepth 100000 in
theorem rin_any {ao : Option Addr} {c n : Nat} {ss : List Bs} (x : Bs) (w : World) (ha : Rd w ao ss) (hl : ss.length = n) (hn : n ≤ 4000000000000000000) (f : Bool) (hf : hasS ss x = f) :
    Calls Tryz.prog 29 #[.slice ao n c, .string ⟨x.toArray⟩] w fun e w' => e = .returned (.bool f) ∧ Below w.heap.size w w' := by
  have H : Hid (Rd w ao ss ∧ ss.length = n ∧ hasS ss x = f) := ⟨ha, hl, hf⟩
  clear ha hl hf
  cases hp : isPath x with
  | false =>
    have hck := ris_at x false hp
    have hf : f = false := by rw [← H.out.2.2, hasS, hp]; rfl
    subst hf
    go_enter Tryz.func29, Tryz.ntmps29
    go_wp2_with fail
    refine (hck _).mono ?_
    rintro e w1 ⟨rfl, hb1⟩
    go_wp2
    go_ret
    exact ⟨rfl, hb1⟩
  | true =>
    have hck := ris_at x true hp
    have F : Hid (f = (ss.isEmpty || ss.any (under x))) := by show f = _; rw [← H.out.2.2, hasS, hp]; rfl
    clear hp
    go_enter Tryz.func29, Tryz.ntmps29
    go_wp2_with fail
    refine (hck _).mono ?_
    rintro e w1 ⟨rfl, hb1⟩
    have B1 : Hid (Below w.heap.size w w1) := hb1
    clear hb1
    go_wp2_with fail
    go_loopg [5] n (fun k v wr => ∃ (i : Nat), v = .int .i64 i ∧ i + k = n ∧ wr = w1 ∧ Hid ((ss.take i).any (under x) = false))
    case atStart => exact ⟨0, rfl, by omega, rfl, rfl⟩
    case round =>
      obtain ⟨i, rfl, hi, rfl, HT⟩ := hrel
      by_cases hin : i < n
      · have id : (i : Int) < (n : Int) := by omega
        obtain ⟨b1, o1, rfl, hlt1, hc1⟩ := (H.out.1.below B1.out) (by rw [H.out.2.1]; omega)
        obtain ⟨y, hy⟩ : ∃ y, el ss i = y := ⟨_, rfl⟩
        have c1 := hc1 i (by rw [H.out.2.1]; omega)
        rw [hy] at c1
        have X : Hid (el ss i = y) := hy
        clear hc1 hy
        cases hu : under x y with
        | true =>
          have hc := runder_at x y true hu
          go_wp2_with fail
          refine (hc _).mono ?_
          rintro e w' ⟨rfl, rfl⟩
          go_wp2
          go_ret
          refine ⟨?_, B1.out⟩
          rw [F.out, any_hit (p := under x) (i := i) (by rw [H.out.2.1]; exact hin) (by rw [X.out]; exact hu), Bool.or_true]
          rfl
        | false =>
          have hc := runder_at x y false hu
          go_wp2_with fail
          refine (hc _).mono ?_
          rintro e w' ⟨rfl, rfl⟩
          go_wp2
          go_roundg (gk - 1)
          case measure => omega
          case rel => exact ⟨i + 1, by go_num, by omega, rfl, any_step (p := under x) (by rw [H.out.2.1]; exact hin) HT.out (by rw [X.out]; exact hu)⟩
      · obtain rfl : i = n := by omega
        have e := HT.out
        rw [List.take_of_length_le (by rw [H.out.2.1]; omega)] at e
        have F2 : Hid (f = decide (i = 0)) := by
          show f = _
          rw [F.out, e, Bool.or_false, ← H.out.2.1]
          cases ss <;> simp
        clear e
        go_wp2
        go_ret
        refine ⟨congrArg (fun b => Ending.returned (Value.bool b)) ?_, B1.out⟩
        rw [F2.out, Bool.eq_iff_iff]
        simp
        try omega

end Go.Proofs.YtofbphmdkhocdaaGreat

/-
  The reference's paths, blob and Diff, and the laws' same, each by a contract: of lists of at most 100000 entries.
-/
namespace Go.Proofs.YtofbphmdkhocdaaGreat
open Go.RowKit

theorem Tryz.info60 : (Tryz.prog.info? 60).map (fun i => (i.zero, i.size, i.bytes)) = some (some (.agg #[.string ⟨#[]⟩, .int .u64 0, .int .u64 0]), 3, 32) := by kernel_rfl

theorem srt_snoc (l : List Bs) (s : Bs) : srt (l ++ [s]) = withB (srt l) s := by
  rw [srt, List.foldl_append]
  rfl

def names1 (A : List En) : List Bs := A.map (·.1)
theorem nam1_snoc {A : List En} {i : Nat} {e : En} (h : A[i]? = some e) : names1 (A.take (i + 1)) = names1 (A.take i) ++ [e.1] := by
  unfold names1
  rw [takeE_snoc h, List.map_append]
  rfl
theorem nam1_len (A : List En) : (names1 A).length = A.length := by unfold names1; simp

set_option maxHeartbeats 1600000 in
set_option maxRecDepth 100000 in
theorem rpaths_any {ao bo : Option Addr} {n c m d : Nat} {A B : List En} (w : World) (ha : RdG encE w ao A) (hb : RdG encE w bo B) (hl : A.length = n) (hk : B.length = m) (hn : n ≤ 100000) (hm : m ≤ 100000) :
    Calls Tryz.prog 27 #[.slice ao n c, .slice bo m d] w fun e w' => ∃ ao' c', e = .returned (.slice ao' (bothP A B).length c') ∧ Rd w' ao' (bothP A B) ∧ Below w.heap.size w w' := by
  have H : Hid (RdG encE w ao A ∧ RdG encE w bo B ∧ A.length = n ∧ B.length = m) := ⟨ha, hb, hl, hk⟩
  clear ha hb hl hk
  go_enter Tryz.func27, Tryz.ntmps27
  go_wp2_with fail
  go_loopg [5, 6] n (fun k av v wr => ∃ (i : Nat) (aa : Option Addr) (an ac : Nat), v = .int .i64 i ∧ av = .slice aa an ac ∧ i + k = n ∧ Hid ((srt (names1 (A.take i))).length = an ∧ Rd wr aa (srt (names1 (A.take i))) ∧ Below w.heap.size w wr))
  case atStart => exact ⟨0, none, 0, 0, rfl, rfl, by omega, rfl, Rd.nil _ _, Below.refl _ _⟩
  case round =>
    obtain ⟨i, aa, an, ac, rfl, rfl, hi, HR⟩ := hrel
    by_cases hin : i < n
    · have id : (i : Int) < (n : Int) := by omega
      obtain ⟨e, he⟩ := get_some H.out.2.2.1 hin
      obtain ⟨b, off, rfl, hlt⟩ := H.out.1.some_of he
      obtain ⟨_, c0, c1⟩ := (H.out.1.below HR.out.2.2).ents he
      have hst := nam1_snoc he
      obtain ⟨x, o⟩ := e
      simp only at c0 c1 hst
      have hal : an ≤ 100000 := by
        rw [← HR.out.1]
        have h1 := srt_len (names1 (A.take i))
        have h2 := List.length_take_le i A
        rw [nam1_len] at h1
        omega
      have hwi := with_any (c := ac) x wr HR.out.2.1 HR.out.1 (by omega)
      rw [← srt_snoc, ← hst] at hwi
      clear he hst hlt
      go_wp2_with fail
      refine hwi.mono ?_
      rintro e w5 ⟨aa5, ac5, rfl, R5, B5⟩
      have G5 : Hid (Rd w5 aa5 (srt (names1 (A.take (i + 1)))) ∧ Below w.heap.size w w5) := ⟨R5, HR.out.2.2.trans (B5.mono HR.out.2.2.size)⟩
      clear R5 B5 hwi
      go_wp2
      go_roundg (gk - 1)
      case measure => omega
      case rel => exact ⟨i + 1, aa5, _, ac5, by go_num, rfl, by omega, rfl, G5.out.1, G5.out.2⟩
    · obtain rfl : i = n := by omega
      have e : A.take i = A := List.take_of_length_le (by rw [H.out.2.2.1]; omega)
      rw [e] at HR
      have HA : Hid ((names1 A).length = i) := by show _ = _; rw [nam1_len]; exact H.out.2.2.1
      have HR2 : Hid ((srt (names1 A ++ names1 (B.take 0))).length = an ∧ Rd wr aa (srt (names1 A ++ names1 (B.take 0))) ∧ Below w.heap.size w wr) := by
        have : names1 A ++ names1 (B.take 0) = names1 A := by simp [names1]
        rw [this]
        exact HR
      clear e HR
      go_wp2_with fail
      go_loopg [5, 7] m (fun k av v wr => ∃ (j : Nat) (aa : Option Addr) (an ac : Nat), v = .int .i64 j ∧ av = .slice aa an ac ∧ j + k = m ∧ Hid ((srt (names1 A ++ names1 (B.take j))).length = an ∧ Rd wr aa (srt (names1 A ++ names1 (B.take j))) ∧ Below w.heap.size w wr))
      case atStart => exact ⟨0, aa, an, ac, rfl, rfl, by omega, HR2⟩
      case round =>
        obtain ⟨j, aa4, an4, ac4, rfl, rfl, hj, HJ⟩ := hrel
        by_cases hjn : j < m
        · have jd : (j : Int) < (m : Int) := by omega
          obtain ⟨e, he⟩ := get_some H.out.2.2.2 hjn
          obtain ⟨b, off, rfl, hlt⟩ := H.out.2.1.some_of he
          obtain ⟨_, c0, c1⟩ := (H.out.2.1.below HJ.out.2.2).ents he
          have hst := nam1_snoc he
          obtain ⟨x, o⟩ := e
          simp only at c0 c1 hst
          have hal : an4 ≤ 200000 := by
            rw [← HJ.out.1]
            have h1 := srt_len (names1 A ++ names1 (B.take j))
            have h2 := List.length_take_le j B
            rw [List.length_append, nam1_len, nam1_len] at h1
            have h3 := H.out.2.2.1
            omega
          have hwi := with_any (c := ac4) x wr HJ.out.2.1 HJ.out.1 (by omega)
          rw [← srt_snoc, List.append_assoc, ← hst] at hwi
          clear he hst hlt
          go_wp2_with fail
          refine hwi.mono ?_
          rintro e w5 ⟨aa5, ac5, rfl, R5, B5⟩
          have G5 : Hid (Rd w5 aa5 (srt (names1 A ++ names1 (B.take (j + 1)))) ∧ Below w.heap.size w w5) := ⟨R5, HJ.out.2.2.trans (B5.mono HJ.out.2.2.size)⟩
          clear R5 B5 hwi
          go_wp2
          go_roundg (gk - 1)
          case measure => omega
          case rel => exact ⟨j + 1, aa5, _, ac5, by go_num, rfl, by omega, rfl, G5.out.1, G5.out.2⟩
        · obtain rfl : j = m := by omega
          have e : B.take j = B := List.take_of_length_le (by rw [H.out.2.2.2]; omega)
          rw [e] at HJ
          clear e
          go_wp2
          go_ret
          refine ⟨aa4, ac4, ?_, HJ.out.2.1, HJ.out.2.2⟩
          have h1 : (bothP A B).length = an4 := HJ.out.1
          rw [h1]
          rfl

set_option maxHeartbeats 400000 in
set_option maxRecDepth 100000 in
theorem rblob_any {ao : Option Addr} {c n : Nat} {es : List En} (p : Bs) (w : World) (hr : RdG encE w ao es) (hl : es.length = n) (hn : n ≤ 4000000000000000000) (o : UInt64) (ho : blobOf es p = o) :
    Calls Tryz.prog 28 #[.slice ao n c, .string ⟨p.toArray⟩] w fun e w' => e = .returned (.int .u64 (o.toNat : Int)) ∧ Below w.heap.size w w' := by
  have hf := rfind_any (c := c) p w hr hl hn _ rfl
  unfold blobOf at ho
  rw [ho] at hf
  obtain ⟨g, hg⟩ : ∃ g, (ffind es p).isSome = g := ⟨_, rfl⟩
  rw [hg] at hf
  clear hg ho hr hl
  go_enter Tryz.func28, Tryz.ntmps28
  go_wp2_with fail
  refine hf.mono ?_
  rintro e w1 ⟨rfl, B1⟩
  go_wp2
  go_ret
  exact ⟨rfl, B1⟩

set_option maxHeartbeats 1600000 in
set_option maxRecDepth 100000 in
/-- The laws' same, of two alike lists. -/
theorem csame_any {ao bo : Option Addr} {c d n : Nat} {cs : List Chg} (w : World) (ha : RdG encC w ao cs) (hb : RdG encC w bo cs) (hl : cs.length = n) (hn : n ≤ 4000000000000000000) :
    Calls Tryz.prog 12 #[.slice ao n c, .slice bo n d] w fun e w' => e = .returned (.bool true) ∧ Below w.heap.size w w' := by
  have H : Hid (RdG encC w ao cs ∧ RdG encC w bo cs ∧ cs.length = n) := ⟨ha, hb, hl⟩
  clear ha hb hl
  go_enter Tryz.func12, Tryz.ntmps12
  go_wp2_with fail
  go_loopg [5] n (fun k v wr => ∃ i : Nat, v = .int .i64 i ∧ i + k = n ∧ Hid (Below w.heap.size w wr))
  case atStart => exact ⟨0, rfl, by omega, Below.refl _ _⟩
  case round =>
    obtain ⟨i, rfl, hi, HR⟩ := hrel
    by_cases hin : i < n
    · have id : (i : Int) < (n : Int) := by omega
      have id0 : (0 : Int) ≤ (i : Int) := by omega
      obtain ⟨e, he⟩ := get_some H.out.2.2 hin
      obtain ⟨b, off, rfl, _⟩ := H.out.1.some_of he
      obtain ⟨b2, off2, rfl, _⟩ := H.out.2.1.some_of he
      obtain ⟨c0, c1, c2⟩ := (H.out.1.below HR.out).chgs he
      obtain ⟨d0, d1, d2⟩ := (H.out.2.1.below HR.out).chgs he
      obtain ⟨x, o, o2⟩ := e
      simp only at c0 c1 c2 d0 d1 d2
      clear he
      go_wp2_with fail
      go_quiet (fail)
      go_wp2
      go_roundg (gk - 1)
      case measure => omega
      case rel => exact ⟨i + 1, by go_num, by omega, below_drewN HR.out _⟩
    · obtain rfl : i = n := by omega
      go_wp2
      go_ret
      exact ⟨rfl, HR.out⟩

end Go.Proofs.YtofbphmdkhocdaaGreat
