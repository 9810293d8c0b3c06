/-
  Several texts, laid together.
-/
import Derived.Test.YtofbphmdkhocdaaGreatM09
import Derived.Test.YtofbphmdkhocdaaGreatM26
import Derived.Test.YtofbphmdkhocdaaGreatM11

/-
  The reference's Tree, Find and SameTree, and the statements' Entries, each by a contract over lists of entries. No condition but that the lists and texts are no longer than any can be.
-/
namespace Go.Proofs.YtofbphmdkhocdaaGreat
open Go.RowKit

set_option maxHeartbeats 3200000 in
set_option maxRecDepth 100000 in
/-- The statements' Entries. -/
theorem entries_any {ao : Option Addr} {c n : Nat} {es : List En} (w : World) (hr : RdG encE w ao es) (hl : es.length = n) (hn : n * 24 ≤ 140737488355328) :
    Calls Tryz.prog 10 #[.slice ao n c] w fun e w' => ∃ v, e = .returned v ∧ Hid (OwnG encE 75 w' w.heap.size v es ∧ Below w.heap.size w w') := by
  have H : Hid (RdG encE w ao es ∧ es.length = n) := ⟨hr, hl⟩
  clear hr hl
  go_enter Tryz.func10, Tryz.ntmps10
  go_wp2_with fail
  go_loopg [3, 4] n (fun m rv iv wr => ∃ i : Nat, iv = .int .i64 i ∧ i + m = n ∧ Hid (OwnG encE 75 wr w.heap.size rv (es.take i) ∧ Below w.heap.size w wr))
  case atStart => exact ⟨0, rfl, by omega, OwnG.nil _ _ _ _, Below.refl _ _⟩
  case round =>
    obtain ⟨i, rfl, hi, HR⟩ := hrel
    by_cases hin : i < n
    · have id : (i : Int) < (n : Int) := by omega
      have id0 : (0 : Int) ≤ (i : Int) := by omega
      obtain ⟨e, he⟩ := get_some H.out.2 hin
      obtain ⟨b, off, rfl, hlt⟩ := H.out.1.some_of he
      obtain ⟨hbw, c0, c1⟩ := (H.out.1.below HR.out.2).ents he
      have hst := takeE_snoc he
      obtain ⟨d, z⟩ := e
      simp only at c0 c1
      have hll : (es.take i).length = i := by rw [List.length_take, H.out.2]; omega
      have HS : Hid (es.take (i + 1) = es.take i ++ [(d, z)] ∧ (es.take i).length = i) := ⟨hst, hll⟩
      clear he hst hll
      go_wp2_with fail
      go_region_law (refine stepG_at encE 75 33 24 _ rfl Tryz.info75 Tryz.underlying33 rfl (.tmp 11) (.tmp 23) rfl w.heap.size _ (es.take i) (d, z) rfl (HR.out.1.below ((Below.refl _ wr).drew.trans (bz1 wr.drew _))) wr.heap.size rfl (cells_new encE wr.drew (d, z) 75) (by rw [HS.out.2]; omega) (by rw [HS.out.2]; simp only [maxLen]; omega) (by have := HR.out.2.size; simp; omega) ?_; intro v4 w4 ho4 hb4 hm4 ht4)
      all_goals
        go_wp2
        go_roundg (gk - 1)
        case measure => omega
        case rel => exact ⟨i + 1, by go_num, by omega, by rw [HS.out.1]; exact ho4, HR.out.2.trans ((((bz1 wr _).drew).mono HR.out.2.size).trans hb4)⟩
    · obtain rfl : i = n := by omega
      have htk : es.take i = es := List.take_of_length_le (by rw [H.out.2]; omega)
      rw [htk] at HR
      go_wp2
      go_ret
      exact ⟨_, rfl, HR.out.1, HR.out.2⟩

set_option maxHeartbeats 3200000 in
set_option maxRecDepth 100000 in
/-- The reference's SameTree, of two alike lists. -/
theorem sameTree_any {ao ao2 : Option Addr} {c c2 n : Nat} {es : List En} (w : World) (hr : RdG encE w ao es) (hr2 : RdG encE w ao2 es) (hl : es.length = n) (hn : n ≤ 4000000000000000000) :
    Calls Tryz.prog 15 #[.slice ao n c, .slice ao2 n c2] w fun e w' => e = .returned (.bool true) ∧ Below w.heap.size w w' := by
  have H : Hid (RdG encE w ao es ∧ RdG encE w ao2 es ∧ es.length = n) := ⟨hr, hr2, hl⟩
  clear hr hr2 hl
  go_enter Tryz.func15, Tryz.ntmps15
  go_wp2_with fail
  go_loopg [5] n (fun m iv wr => ∃ i : Nat, iv = .int .i64 i ∧ i + m = n ∧ Hid (Below w.heap.size w wr))
  case atStart => exact ⟨0, rfl, by omega, Below.refl _ _⟩
  case round =>
    obtain ⟨i, rfl, hi, HR⟩ := hrel
    by_cases hin : i < n
    · have id : (i : Int) < (n : Int) := by omega
      have id0 : (0 : Int) ≤ (i : Int) := by omega
      obtain ⟨e, he⟩ := get_some H.out.2.2 hin
      obtain ⟨b, off, rfl, hlt⟩ := H.out.1.some_of he
      obtain ⟨b2, off2, rfl, hlt2⟩ := H.out.2.1.some_of he
      obtain ⟨hbw, c0, c1⟩ := (H.out.1.below HR.out).ents he
      obtain ⟨hbw2, c02, c12⟩ := (H.out.2.1.below HR.out).ents he
      obtain ⟨d, z⟩ := e
      simp only at c0 c1 c02 c12
      clear he
      go_wp2_with fail
      go_quiet (fail)
      go_wp2
      go_roundg (gk - 1)
      case measure => omega
      case rel => exact ⟨i + 1, by go_num, by omega, HR.out.trans ((bdrewN _ _).mono HR.out.size)⟩
    · obtain rfl : i = n := by omega
      go_wp2
      go_ret
      exact ⟨rfl, HR.out⟩

set_option maxHeartbeats 3200000 in
set_option maxRecDepth 100000 in
/-- The reference's Find. -/
theorem rfind_any {ao : Option Addr} {c n : Nat} {es : List En} (p : Bs) (w : World) (hr : RdG encE w ao es) (hl : es.length = n) (hn : n ≤ 4000000000000000000) (o : Option UInt64) (ho : ffind es p = o) :
    Calls Tryz.prog 56 #[.slice ao n c, tx p] w fun e w' => e = .returned (.tuple #[.int .u64 ((o.getD 0).toNat : Int), .bool o.isSome]) ∧ Below w.heap.size w w' := by
  have H : Hid (RdG encE w ao es ∧ es.length = n ∧ ffind es p = o) := ⟨hr, hl, ho⟩
  clear hr hl ho
  go_enter Tryz.func56, Tryz.ntmps56
  go_wp2_with fail
  go_loopg [6] n (fun m iv wr => ∃ i : Nat, iv = .int .i64 i ∧ i + m = n ∧ Hid ((es.take i).any (fun e => e.1 == p) = false ∧ Below w.heap.size w wr))
  case atStart => exact ⟨0, rfl, by omega, rfl, Below.refl _ _⟩
  case round =>
    obtain ⟨i, rfl, hi, HR⟩ := hrel
    by_cases hin : i < n
    · have id : (i : Int) < (n : Int) := by omega
      obtain ⟨e, he⟩ := get_some H.out.2.1 hin
      obtain ⟨b, off, rfl, hlt⟩ := H.out.1.some_of he
      obtain ⟨_, c0, c1⟩ := (H.out.1.below HR.out.2).ents he
      obtain ⟨d, z⟩ := e
      simp only at c0 c1
      have HE : Hid (es[i]? = some (d, z)) := he
      clear he
      by_cases hdp : d = p
      · subst hdp
        have hfo := find_at HR.out.1 HE.out rfl
        rw [H.out.2.2] at hfo
        subst hfo
        go_wp2
        refine bodyPost_ret (results_tmp2 rfl _ _ _) rfl ?_
        exact ⟨rfl, HR.out.2⟩
      · have m0 : (d == p) = false := by simpa using hdp
        go_wp2
        go_roundg (gk - 1)
        case measure => omega
        case rel => exact ⟨i + 1, by go_num, by omega, anyE_step (p := fun e : En => e.1 == p) HE.out HR.out.1 m0, HR.out.2⟩
    · obtain rfl : i = n := by omega
      have htk : es.take i = es := List.take_of_length_le (by rw [H.out.2.1]; omega)
      rw [htk] at HR
      have hfo := find_no HR.out.1
      rw [H.out.2.2] at hfo
      subst hfo
      go_wp2
      refine bodyPost_ret (results_tmp2 rfl _ _ _) rfl ?_
      exact ⟨rfl, HR.out.2⟩

end Go.Proofs.YtofbphmdkhocdaaGreat

/-
  The reference's With and Sort, each by a contract: a list of at most 4000000 texts.
-/
namespace Go.Proofs.YtofbphmdkhocdaaGreat
open Go.RowKit

/-- Where the insertion of a text stands when i texts have been looked at. -/
def Half (s : Bs) (l : List Bs) (i : Nat) (done : Bool) (out : List Bs) : Prop :=
  if done then out ++ l.drop i = insB s l else out = l.take i ∧ insB s l = l.take i ++ insB s (l.drop i)

theorem drop_el {l : List Bs} {i : Nat} (h : i < l.length) : l.drop i = el l i :: l.drop (i + 1) := by
  rw [List.drop_eq_getElem_cons h, el_get h]

theorem Half.start (s : Bs) (l : List Bs) : Half s l 0 false [] := by simp [Half]
theorem Half.lt {s : Bs} {l : List Bs} {i : Nat} {out : List Bs} (h : Half s l i false out) (hi : i < l.length) (hs : s < el l i) : Half s l (i + 1) true (out ++ [s] ++ [el l i]) := by
  obtain ⟨h1, h2⟩ := (by simpa [Half] using h : out = l.take i ∧ insB s l = l.take i ++ insB s (l.drop i))
  show out ++ [s] ++ [el l i] ++ l.drop (i + 1) = insB s l
  rw [h2, drop_el hi, insB, if_pos hs, h1]
  simp
theorem Half.ge {s : Bs} {l : List Bs} {i : Nat} {out : List Bs} (h : Half s l i false out) (hi : i < l.length) (hs : ¬ s < el l i) : Half s l (i + 1) false (out ++ [el l i]) := by
  obtain ⟨h1, h2⟩ := (by simpa [Half] using h : out = l.take i ∧ insB s l = l.take i ++ insB s (l.drop i))
  have e : l.take (i + 1) = l.take i ++ [el l i] := by rw [List.take_succ_eq_append_getElem hi, el_get hi]
  have : out ++ [el l i] = l.take (i + 1) ∧ insB s l = l.take (i + 1) ++ insB s (l.drop (i + 1)) := by
    refine ⟨by rw [e, h1], ?_⟩
    rw [h2, drop_el hi, insB, if_neg hs, e]
    simp
  simpa [Half] using this
theorem Half.past {s : Bs} {l : List Bs} {i : Nat} {out : List Bs} (h : Half s l i true out) (hi : i < l.length) : Half s l (i + 1) true (out ++ [el l i]) := by
  have h1 : out ++ l.drop i = insB s l := h
  show out ++ [el l i] ++ l.drop (i + 1) = insB s l
  rw [← h1, drop_el hi]
  simp
theorem Half.stop {s : Bs} {l : List Bs} {i : Nat} {done : Bool} {out : List Bs} (h : Half s l i done out) (hi : l.length ≤ i) : insB s l = if done then out else out ++ [s] := by
  cases done with
  | true =>
    have h1 : out ++ l.drop i = insB s l := h
    rw [List.drop_eq_nil_of_le hi, List.append_nil] at h1
    exact h1.symm
  | false =>
    obtain ⟨h1, h2⟩ := (by simpa [Half] using h : out = l.take i ∧ insB s l = l.take i ++ insB s (l.drop i))
    rw [h2, List.drop_eq_nil_of_le hi, ← h1]
    rfl
theorem Half.len {s : Bs} {l : List Bs} {i : Nat} {done : Bool} {out : List Bs} (h : Half s l i done out) : out.length ≤ l.length + 1 := by
  cases done with
  | true =>
    have h1 : out ++ l.drop i = insB s l := h
    have : ∀ l : List Bs, (insB s l).length = l.length + 1 := by
      intro l
      induction l with
      | nil => rfl
      | cons x t ih => by_cases h : s < x <;> simp [insB, h, ih]
    have h2 := congrArg List.length h1
    rw [this, List.length_append] at h2
    omega
  | false =>
    obtain ⟨h1, _⟩ := (by simpa [Half] using h : out = l.take i ∧ insB s l = l.take i ++ insB s (l.drop i))
    rw [h1, List.length_take]
    omega

set_option maxHeartbeats 1600000 in
set_option maxRecDepth 100000 in
theorem with_new {ao : Option Addr} {c n : Nat} {l : List Bs} (s : Bs) (w : World) (ha : Rd w ao l) (hl : l.length = n) (hn : n ≤ 1000000) (hf : l.any (· == s) = false) :
    Calls Tryz.prog 55 #[.slice ao n c, .string ⟨s.toArray⟩] w fun e w' => ∃ v', e = .returned v' ∧ Own w' w.heap.size v' (insB s l) ∧ Below w.heap.size w w' := by
  have hh := rhas_any (c := c) s w ha hl (by omega) false hf
  have H : Hid (Rd w ao l ∧ l.length = n) := ⟨ha, hl⟩
  clear ha hl hf
  go_enter Tryz.func55, Tryz.ntmps55
  go_wp2_with fail
  refine hh.mono ?_
  rintro e w' ⟨rfl, rfl⟩
  clear hh
  go_wp2_with fail
  go_loopg [5, 6, 7] n (fun k ov dv v wr => ∃ (i : Nat) (done : Bool) (out : List Bs), v = .int .i64 i ∧ dv = .bool done ∧ i + k = n ∧ Hid (Half s l i done out ∧ Own wr w'.heap.size ov out ∧ Below w'.heap.size w' wr))
  case atStart => exact ⟨0, false, [], rfl, rfl, by omega, Half.start s l, Own.nil _ _, Below.refl _ _⟩
  case round =>
    obtain ⟨i, done, out, rfl, rfl, hi, HR⟩ := hrel
    have hol := HR.out.1.len
    rw [H.out.2] at hol
    by_cases hin : i < n
    · have id : (i : Int) < (n : Int) := by omega
      obtain ⟨x, hx⟩ : ∃ x, el l i = x := ⟨_, rfl⟩
      obtain ⟨b, off, rfl, hlt, hc⟩ := H.out.1 (by rw [H.out.2]; omega)
      have c0 := hc i (by rw [H.out.2]; omega)
      rw [hx] at c0
      have C : Hid (w'.cell? ⟨b, off + i, none⟩ = some (.string ⟨x.toArray⟩)) := c0
      have X : Hid (el l i = x ∧ i < l.length) := ⟨hx, by rw [H.out.2]; exact hin⟩
      have c1 : wr.cell? ⟨b, off + i, none⟩ = some (.string ⟨x.toArray⟩) := (HR.out.2.2.cell hlt).trans c0
      clear hc c0 hx
      cases done with
      | true =>
        go_wp2_with (at_builtin; refine app_one rfl (.tmp 32) (.tmp 37) rfl w'.heap.size _ out x _ rfl HR.out.2.1 rfl (by omega) HR.out.2.2.size ?_; intro v' w4 hown4 hbel4)
        go_roundg (gk - 1)
        case measure => omega
        case rel => exact ⟨i + 1, true, out ++ [x], by go_num, rfl, by omega, by rw [← X.out.1]; exact HR.out.1.past X.out.2, hown4, HR.out.2.2.trans hbel4⟩
      | false =>
        cases hsx : Op.bytesLess s x with
        | true =>
          have SX : Hid (s < x) := by show s < x; have := bytesLess_eq s x; rw [hsx] at this; simpa using this.symm
          go_wp2_with (first
            | (at_builtin; refine app_one rfl (.tmp 28) (.tmp 30) rfl w'.heap.size _ out s _ rfl HR.out.2.1 rfl (by omega) HR.out.2.2.size ?_; intro v' w4 hown4 hbel4; have c4 : w4.cell? ⟨b, off + i, none⟩ = some (.string ⟨x.toArray⟩) := (hbel4.cell hlt).trans c1; have O4 : Hid (Own w4 w'.heap.size v' (out ++ [s]) ∧ Below w'.heap.size w' w4) := ⟨hown4, HR.out.2.2.trans hbel4⟩; clear hown4 hbel4)
            | (at_builtin; refine app_one rfl (.tmp 32) (.tmp 37) rfl w'.heap.size _ (out ++ [s]) x _ rfl O4.out.1 rfl (by simp; omega) O4.out.2.size ?_; intro v5 w5 hown5 hbel5))
          go_roundg (gk - 1)
          case measure => omega
          case rel => exact ⟨i + 1, true, out ++ [s] ++ [x], by go_num, rfl, by omega, by rw [← X.out.1]; exact HR.out.1.lt X.out.2 (by rw [X.out.1]; exact SX.out), hown5, O4.out.2.trans hbel5⟩
        | false =>
          have SX : Hid (¬ s < x) := by show ¬ s < x; have := bytesLess_eq s x; rw [hsx] at this; simpa using this.symm
          go_wp2_with (at_builtin; refine app_one rfl (.tmp 32) (.tmp 37) rfl w'.heap.size _ out x _ rfl HR.out.2.1 rfl (by omega) HR.out.2.2.size ?_; intro v' w4 hown4 hbel4)
          go_roundg (gk - 1)
          case measure => omega
          case rel => exact ⟨i + 1, false, out ++ [x], by go_num, rfl, by omega, by rw [← X.out.1]; exact HR.out.1.ge X.out.2 (by rw [X.out.1]; exact SX.out), hown4, HR.out.2.2.trans hbel4⟩
    · obtain rfl : i = n := by omega
      have hst := HR.out.1.stop (by rw [H.out.2]; omega)
      have ST : Hid _ := hst
      clear hst
      cases done with
      | true =>
        go_wp2
        go_ret
        exact ⟨_, rfl, by rw [ST.out]; exact HR.out.2.1, HR.out.2.2⟩
      | false =>
        go_wp2_with (at_builtin; refine app_one rfl (.tmp 41) (.tmp 43) rfl w'.heap.size _ out s _ rfl HR.out.2.1 rfl (by omega) HR.out.2.2.size ?_; intro v' w4 hown4 hbel4)
        go_ret
        exact ⟨_, rfl, by rw [ST.out]; exact hown4, HR.out.2.2.trans hbel4⟩

set_option maxHeartbeats 800000 in
set_option maxRecDepth 100000 in
theorem with_old {ao : Option Addr} {c n : Nat} {l : List Bs} (s : Bs) (w : World) (ha : Rd w ao l) (hl : l.length = n) (hn : n ≤ 1000000) (hf : l.any (· == s) = true) :
    Calls Tryz.prog 55 #[.slice ao n c, .string ⟨s.toArray⟩] w fun e w' => e = .returned (.slice ao n c) ∧ w' = w := by
  have hh := rhas_any (c := c) s w ha hl (by omega) true hf
  clear ha hl hf
  go_enter Tryz.func55, Tryz.ntmps55
  go_wp2_with fail
  refine hh.mono ?_
  rintro e w' ⟨rfl, rfl⟩
  clear hh
  go_wp2
  go_ret
  exact ⟨rfl, rfl⟩

theorem with_any {ao : Option Addr} {c n : Nat} {l : List Bs} (s : Bs) (w : World) (ha : Rd w ao l) (hl : l.length = n) (hn : n ≤ 1000000) :
    Calls Tryz.prog 55 #[.slice ao n c, .string ⟨s.toArray⟩] w fun e w' => ∃ ao' c', e = .returned (.slice ao' (withB l s).length c') ∧ Rd w' ao' (withB l s) ∧ Below w.heap.size w w' := by
  cases hf : l.any (· == s) with
  | true =>
    refine (with_old s w ha hl hn hf).mono ?_
    rintro e w' ⟨rfl, rfl⟩
    rw [withB, if_pos hf, hl]
    exact ⟨_, _, rfl, ha, Below.refl _ _⟩
  | false =>
    refine (with_new s w ha hl hn hf).mono ?_
    rintro e w' ⟨v', rfl, ho, hb⟩
    obtain ⟨ao', cap, rfl, _, _, R⟩ := ho.form
    rw [withB, if_neg (by rw [hf]; decide)]
    exact ⟨_, _, rfl, R, hb⟩

theorem srt_step {l : List Bs} {i : Nat} (h : i < l.length) : srt (l.take (i + 1)) = withB (srt (l.take i)) (el l i) := by
  rw [List.take_succ_eq_append_getElem h, srt, List.foldl_append, ← el_get h]
  rfl

set_option maxHeartbeats 1600000 in
set_option maxRecDepth 100000 in
theorem rsort_any {ao : Option Addr} {c n : Nat} {l : List Bs} (w : World) (ha : Rd w ao l) (hl : l.length = n) (hn : n ≤ 1000000) :
    Calls Tryz.prog 45 #[.slice ao n c] w fun e w' => ∃ ao' c', e = .returned (.slice ao' (srt l).length c') ∧ Rd w' ao' (srt l) ∧ Below w.heap.size w w' := by
  have H : Hid (Rd w ao l ∧ l.length = n) := ⟨ha, hl⟩
  clear ha hl
  go_enter Tryz.func45, Tryz.ntmps45
  go_wp2_with fail
  go_loopg [3, 4] n (fun k ov v wr => ∃ (i : Nat) (ao' : Option Addr) (n' c' : Nat), v = .int .i64 i ∧ ov = .slice ao' n' c' ∧ i + k = n ∧ Hid ((srt (l.take i)).length = n' ∧ Rd wr ao' (srt (l.take i)) ∧ Below w.heap.size w wr))
  case atStart => exact ⟨0, none, 0, 0, rfl, rfl, by omega, rfl, Rd.nil _ _, Below.refl _ _⟩
  case round =>
    obtain ⟨i, ao', n', c', rfl, rfl, hi, HR⟩ := hrel
    by_cases hin : i < n
    · have id : (i : Int) < (n : Int) := by omega
      obtain ⟨x, hx⟩ : ∃ x, el l i = x := ⟨_, rfl⟩
      obtain ⟨b, off, rfl, hlt, hc⟩ := H.out.1 (by rw [H.out.2]; omega)
      have c0 := hc i (by rw [H.out.2]; omega)
      rw [hx] at c0
      have c1 : wr.cell? ⟨b, off + i, none⟩ = some (.string ⟨x.toArray⟩) := (HR.out.2.2.cell hlt).trans c0
      have hst := srt_step (l := l) (i := i) (by rw [H.out.2]; exact hin)
      rw [hx] at hst
      have ST : Hid _ := hst
      have hsl := srt_len (l.take i)
      rw [HR.out.1, List.length_take] at hsl
      have hw := with_any (c := c') x wr HR.out.2.1 HR.out.1 (by omega)
      rw [← hst] at hw
      clear hc c0 hx hst hsl
      go_wp2_with fail
      refine hw.mono ?_
      rintro e w4 ⟨ao4, c4, rfl, R4, hb4⟩
      go_wp2
      go_roundg (gk - 1)
      case measure => omega
      case rel => exact ⟨i + 1, ao4, _, c4, by go_num, rfl, by omega, rfl, R4, HR.out.2.2.trans (hb4.mono HR.out.2.2.size)⟩
    · obtain rfl : i = n := by omega
      have e : l.take i = l := List.take_of_length_le (by rw [H.out.2]; omega)
      rw [e] at HR
      go_wp2
      go_ret
      exact ⟨ao', c', by rw [HR.out.1]; rfl, HR.out.2.1, HR.out.2.2⟩

end Go.Proofs.YtofbphmdkhocdaaGreat
