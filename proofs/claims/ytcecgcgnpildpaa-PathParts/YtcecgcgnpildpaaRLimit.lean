/-
  The reference's Limit and In, each by a contract. No condition but that no text is longer than any text can be.
-/
import Derived.Test.YtcecgcgnpildpaaTops
import Derived.Test.YtcecgcgnpildpaaRSort
import Derived.Test.YtcecgcgnpildpaaRParts
namespace Go.Proofs.Ytcecgcgnpildpaa
open Go.RowKit

/-- A world that meets a condition. -/
structure SW (S : World → Prop) where
  w : World
  ok : S w

/-- One walk in the order of the text, in every world that meets the condition. -/
theorem wp_region_class {P : Program} {S : World → Prop} {id : Nat} {Q : Exit → Act → World → Prop} {a : Act} {w : World} {l : List Oper} (hm : P.follows .mixedOrders = true) (hB : Region.lexB .any l.toArray = true) (h0 : S w.drew)
    (h : wpQuiet P l.toArray (fun w' => ∃ u : SW S, w' = u.w) (fun a' => ∀ w', (∃ u : SW S, w' = u.w) → Q .normal a' w') l a) : (Code.region id l.toArray true).wp P Q a w :=
  wp_region_quiet (C := fun w' => ∃ u : SW S, w' = u.w) hm hB ⟨⟨w.drew, h0⟩, rfl⟩ (by simpa using h)

def othr (y q : Bs) : Bool := q != y && under y q

theorem runder_class {S : World → Prop} (p d : Bs) (f : Bool) (hf : under p d = f) (u : SW S) :
    Calls Try.prog 17 #[.string ⟨p.toArray⟩, .string ⟨d.toArray⟩] u.w fun e w' => e = .returned (.bool f) ∧ ∃ u' : SW S, w' = u'.w := by
  subst hf
  refine (runder_any ⟨p.toArray⟩ ⟨d.toArray⟩ u.w).mono ?_
  rintro e w' ⟨rfl, rfl⟩
  exact ⟨rfl, u, rfl⟩

theorem anyf_step {ss : List Bs} {p : Bs → Bool} {k : Nat} (h : k < ss.length) : (ss.take (k + 1)).any p = ((ss.take k).any p || p (el ss k)) := by
  rw [List.take_succ_eq_append_getElem h, List.any_append, ← el_get h]
  simp

theorem othr_false {bl : Bool} {x y : Bs} (h : (x == y) = true) : (bl || othr y x) = bl := by
  have e : x = y := by simpa using h
  simp [othr, e]
theorem othr_true {x y : Bs} (h : (x == y) = false) : othr y x = under y x := by
  have e : x ≠ y := by simpa using h
  simp [othr, e]

theorem filt_step {ps : List Bs} {i : Nat} (h : i < ps.length) (f : Bs → Bool) : srt ((ps.take (i + 1)).filter f) = if f (el ps i) then withB (srt ((ps.take i).filter f)) (el ps i) else srt ((ps.take i).filter f) := by
  rw [List.take_succ_eq_append_getElem h, List.filter_append, ← el_get h]
  by_cases q : f (el ps i) = true
  · rw [if_pos q, srt, List.foldl_append]
    simp [q, srt]
  · rw [if_neg q]
    simp [q]

set_option maxHeartbeats 4000000 in
set_option maxRecDepth 1000000 in
theorem rlimit_walk {ao : Option Addr} {c n : Nat} {ps : List Bs} (w : World) (ha : Rd w ao ps) (hl : ps.length = n) (hn : n ≤ 16) :
    Calls Try.prog 21 #[.slice ao n c] w fun e w' => ∃ ao' c', e = .returned (.tuple #[.slice ao' (limS ps).length c', .int .i64 (limE ps)]) ∧ Rd w' ao' (limS ps) ∧ Below w.heap.size w w' := by
  have H : Hid (Rd w ao ps ∧ ps.length = n) := ⟨ha, hl⟩
  clear ha hl
  have hn' : ¬ (16 : Int) < n := by omega
  go_enter Try.func21, Try.ntmps21
  go_wp2_with fail
  go_loopg [4, 5] n (fun k ov v wr => ∃ (i : Nat) (ao' : Option Addr) (n' c' : Nat), v = .int .i64 i ∧ ov = .slice ao' n' c' ∧ i + k = n ∧ n' ≤ 16 ∧ Hid ((srt ((ps.take i).filter (topB ps))).length = n' ∧ Rd wr ao' (srt ((ps.take i).filter (topB ps))) ∧ Below w.heap.size w wr ∧ (ps.take i).all isPath = true))
  case atStart => exact ⟨0, none, 0, 0, rfl, rfl, by omega, by omega, rfl, Rd.nil _ _, Below.refl _ _, rfl⟩
  case round =>
    obtain ⟨i, ao', n', c', rfl, rfl, hi, hn16, HR⟩ := hrel
    obtain ⟨g0, hg0⟩ : ∃ g0, g0 = gk := ⟨_, rfl⟩
    by_cases hin : i < n
    · have id : (i : Int) < (n : Int) := by omega
      obtain ⟨y, hy⟩ : ∃ y, el ps i = y := ⟨_, rfl⟩
      obtain ⟨b, off, rfl, hlt, hc⟩ := H.out.1 (by rw [H.out.2]; omega)
      have cy0 := hc i (by rw [H.out.2]; omega)
      rw [hy] at cy0
      have hcH : Hid (∀ i, i < n → w.cell? ⟨b, off + i, none⟩ = some (.string ⟨(el ps i).toArray⟩)) := fun i hi => hc i (by rw [H.out.2]; exact hi)
      have CY : Hid (w.cell? ⟨b, off + i, none⟩ = some (.string ⟨y.toArray⟩)) := cy0
      have cy : wr.cell? ⟨b, off + i, none⟩ = some (.string ⟨y.toArray⟩) := (HR.out.2.2.1.cell hlt).trans cy0
      have X : Hid (el ps i = y ∧ i < ps.length) := ⟨hy, by rw [H.out.2]; exact hin⟩
      clear hc cy0 hy
      cases hf : isPath y with
      | false =>
        have hck := ris_at y false hf
        have h16 : ¬ ps.length > 16 := by rw [H.out.2]; omega
        have hall : ps.all isPath = false := all_miss (i := i) X.out.2 (by rw [X.out.1]; exact hf)
        have E : Hid (limE ps = 2 ∧ limS ps = []) := ⟨by rw [limE, if_neg h16, hall]; rfl, by rw [limS, if_neg h16, hall]; rfl⟩
        clear h16 hall hf
        go_wp2_with fail
        refine (hck _).mono ?_
        rintro e w1 ⟨rfl, hb1⟩
        go_wp2
        refine bodyPost_ret (v := .tuple #[.slice none 0 0, .int .i64 2]) ?_ rfl ?_
        · simp [results, Try.f21]
        · rw [E.out.1, E.out.2]
          exact ⟨none, 0, rfl, Rd.nil _ _, HR.out.2.2.1.trans (hb1.mono HR.out.2.2.1.size)⟩
      | true =>
        have hck := ris_at y true hf
        have FP : Hid (isPath y = true) := hf
        clear hf cy
        have cy : ∀ u, Below w.heap.size w u → u.cell? ⟨b, off + i, none⟩ = some (.string ⟨y.toArray⟩) := fun u hu => (hu.cell hlt).trans CY.out
        have cyr := cy wr HR.out.2.2.1
        go_wp2_with fail
        refine (hck _).mono ?_
        rintro e w1 ⟨rfl, hb1⟩
        have B1 : Hid (Below w.heap.size w w1 ∧ Rd w1 ao' (srt ((ps.take i).filter (topB ps)))) := ⟨HR.out.2.2.1.trans (hb1.mono HR.out.2.2.1.size), HR.out.2.1.below hb1⟩
        clear hb1 cyr
        go_wp2_with fail
        go_loopg [6, 7] n (fun k bv v wr => ∃ (j : Nat) (bl : Bool), v = .int .i64 j ∧ bv = .bool bl ∧ j + k = n ∧ Hid ((ps.take j).any (othr y) = bl ∧ Below w1.heap.size w1 wr))
        case atStart => exact ⟨0, false, rfl, rfl, by omega, rfl, Below.refl _ _⟩
        case round =>
          obtain ⟨j, bl, rfl, rfl, hj, HJ⟩ := hrel
          by_cases hjn : j < n
          · have jd : (j : Int) < (n : Int) := by omega
            obtain ⟨x, hx⟩ : ∃ x, el ps j = x := ⟨_, rfl⟩
            have cx0 := hcH.out j hjn
            rw [hx] at cx0
            have XX : Hid (el ps j = x) := hx
            have NE : Nonempty (SW (fun u => Below w1.heap.size w1 u)) := ⟨⟨wr, HJ.out.2⟩⟩
            have cx1 : ∀ u : SW (fun u => Below w1.heap.size w1 u), u.w.cell? ⟨b, off + j, none⟩ = some (.string ⟨x.toArray⟩) := fun u => ((B1.out.1.trans (u.ok.mono B1.out.1.size)).cell hlt).trans cx0
            have cy1 : ∀ u : SW (fun u => Below w1.heap.size w1 u), u.w.cell? ⟨b, off + i, none⟩ = some (.string ⟨y.toArray⟩) := fun u => ((B1.out.1.trans (u.ok.mono B1.out.1.size)).cell hlt).trans CY.out
            clear hx cx0
            cases bl with
            | true =>
              have hnx : (ps.take (j + 1)).any (othr y) = true := by rw [anyf_step (by rw [H.out.2]; exact hjn), HJ.out.1, XX.out]; rfl
              have NX : Hid _ := hnx
              clear hnx
              go_wp2_with fail
              refine wp_region_class (S := fun u => Below w1.heap.size w1 u) (by kernel_rfl) (by kernel_rfl) HJ.out.2.drew ?_
              repeat (go_big_quiet_step (fail))
              refine wpQuiet_nil ?_
              intro _ hw'
              obtain ⟨u, hw''⟩ := hw'
              subst hw''
              have P7 : Hid (Below w1.heap.size w1 u.w) := u.ok
              obtain ⟨w7, hw7⟩ : ∃ w7, w7 = u.w := ⟨_, rfl⟩
              rw [← hw7] at P7 ⊢
              clear hw7
              go_wp2
              go_roundg (gk - 1)
              case measure => omega
              case rel => exact ⟨j + 1, _, by go_num, rfl, by omega, NX.out, P7.out⟩
            | false =>
              cases hxy : x == y with
              | true =>
                have hxy2 : (!x == y) = false := by rw [hxy]; rfl
                have hnx : (ps.take (j + 1)).any (othr y) = false := by rw [anyf_step (by rw [H.out.2]; exact hjn), HJ.out.1, XX.out]; exact othr_false hxy
                have NX : Hid _ := hnx
                clear hnx
                go_wp2_with fail
                refine wp_region_class (S := fun u => Below w1.heap.size w1 u) (by kernel_rfl) (by kernel_rfl) HJ.out.2.drew ?_
                repeat (go_big_quiet_step (fail))
                refine wpQuiet_nil ?_
                intro _ hw'
                obtain ⟨u, hw''⟩ := hw'
                subst hw''
                have P7 : Hid (Below w1.heap.size w1 u.w) := u.ok
                obtain ⟨w7, hw7⟩ : ∃ w7, w7 = u.w := ⟨_, rfl⟩
                rw [← hw7] at P7 ⊢
                clear hw7
                go_wp2
                go_roundg (gk - 1)
                case measure => omega
                case rel => exact ⟨j + 1, _, by go_num, rfl, by omega, NX.out, P7.out⟩
              | false =>
                have hxy2 : (!x == y) = true := by rw [hxy]; rfl
                obtain ⟨g, hg⟩ : ∃ g, under y x = g := ⟨_, rfl⟩
                have hnx : (ps.take (j + 1)).any (othr y) = g := by rw [anyf_step (by rw [H.out.2]; exact hjn), HJ.out.1, XX.out]; rw [othr_true hxy, hg]; rfl
                have NX : Hid _ := hnx
                clear hnx
                go_wp2_with fail
                refine wp_region_class (S := fun u => Below w1.heap.size w1 u) (by kernel_rfl) (by kernel_rfl) HJ.out.2.drew ?_
                repeat (go_big_quiet_step (exact runder_class y x g hg _))
                refine wpQuiet_nil ?_
                intro _ hw'
                obtain ⟨u, hw''⟩ := hw'
                subst hw''
                have P7 : Hid (Below w1.heap.size w1 u.w) := u.ok
                obtain ⟨w7, hw7⟩ : ∃ w7, w7 = u.w := ⟨_, rfl⟩
                rw [← hw7] at P7 ⊢
                clear hw7
                go_wp2
                go_roundg (gk - 1)
                case measure => omega
                case rel => exact ⟨j + 1, _, by go_num, rfl, by omega, NX.out, P7.out⟩
          · obtain rfl : j = n := by omega
            have hbl : topB ps y = !bl := by
              have := HJ.out.1
              rw [List.take_of_length_le (by rw [H.out.2]; omega)] at this
              rw [← this]
              rfl
            have hfs := filt_step (ps := ps) (i := i) X.out.2 (topB ps)
            rw [X.out.1, hbl] at hfs
            have hln : (srt ((ps.take (i + 1)).filter (topB ps))).length ≤ 16 := by
              have h1 := srt_len ((ps.take (i + 1)).filter (topB ps))
              have h2 := List.length_filter_le (topB ps) (ps.take (i + 1))
              rw [List.length_take] at h2
              omega
            have hal : (ps.take (i + 1)).all isPath = true := all_step X.out.2 HR.out.2.2.2 (by rw [X.out.1]; exact FP.out)
            have FS : Hid ((srt ((ps.take (i + 1)).filter (topB ps))).length ≤ 16 ∧ (ps.take (i + 1)).all isPath = true) := ⟨hln, hal⟩
            have B2 : Hid (Below w.heap.size w wr ∧ Rd wr ao' (srt ((ps.take i).filter (topB ps)))) := ⟨B1.out.1.trans (HJ.out.2.mono B1.out.1.size), B1.out.2.below HJ.out.2⟩
            have HL : Hid ((srt ((ps.take i).filter (topB ps))).length = n') := HR.out.1
            have cyr := cy wr B2.out.1
            clear hln hal hbl
            cases bl with
            | true =>
              have F2 : Hid (srt ((ps.take (i + 1)).filter (topB ps)) = srt ((ps.take i).filter (topB ps))) := hfs
              clear hfs
              go_wp2
              go_roundg (g0 - 1)
              case measure => omega
              case rel => exact ⟨i + 1, ao', n', c', by go_num, rfl, by omega, hn16, by rw [F2.out]; exact HL.out, by rw [F2.out]; exact B2.out.2, B2.out.1, FS.out.2⟩
            | false =>
              have F2 : Hid (srt ((ps.take (i + 1)).filter (topB ps)) = withB (srt ((ps.take i).filter (topB ps))) y) := hfs
              have hw := with_any (c := c') y wr B2.out.2 HL.out (by omega)
              rw [← F2.out] at hw
              clear hfs
              go_wp2_with fail
              refine hw.mono ?_
              rintro e w4 ⟨ao4, c4, rfl, R4, hb4⟩
              go_wp2
              go_roundg (g0 - 1)
              case measure => omega
              case rel => exact ⟨i + 1, ao4, _, c4, by go_num, rfl, by omega, FS.out.1, rfl, R4, B2.out.1.trans (hb4.mono B2.out.1.size), FS.out.2⟩
    · obtain rfl : i = n := by omega
      have e : ps.take i = ps := List.take_of_length_le (by rw [H.out.2]; omega)
      rw [e] at HR
      have h16 : ¬ ps.length > 16 := by rw [H.out.2]; omega
      have E : Hid (limE ps = 0 ∧ limS ps = srt (ps.filter (topB ps))) := ⟨by rw [limE, if_neg h16, HR.out.2.2.2]; rfl, by rw [limS, if_neg h16, HR.out.2.2.2, tops_filter]; rfl⟩
      clear e h16
      go_wp2
      refine bodyPost_ret (v := .tuple #[.slice ao' n' c', .int .i64 0]) ?_ rfl ?_
      · simp [results, Try.f21]
      · rw [E.out.1, E.out.2, HR.out.1]
        exact ⟨_, _, rfl, HR.out.2.1, HR.out.2.2.1⟩

set_option maxHeartbeats 800000 in
theorem rlimit_long {ao : Option Addr} {c n : Nat} (w : World) (hn : 16 < n) :
    Calls Try.prog 21 #[.slice ao n c] w fun e w' => e = .returned (.tuple #[.slice none 0 0, .int .i64 4]) ∧ w' = w := by
  have h : (16 : Int) < n := by omega
  go_enter Try.func21, Try.ntmps21
  go_wp2
  refine bodyPost_ret (v := .tuple #[.slice none 0 0, .int .i64 4]) ?_ rfl ⟨rfl, rfl⟩
  simp [results, Try.f21]

theorem rlimit_any {ao : Option Addr} {c n : Nat} {ps : List Bs} (w : World) (ha : Rd w ao ps) (hl : ps.length = n) :
    Calls Try.prog 21 #[.slice ao n c] w fun e w' => ∃ ao' c', e = .returned (.tuple #[.slice ao' (limS ps).length c', .int .i64 (limE ps)]) ∧ Rd w' ao' (limS ps) ∧ Below w.heap.size w w' := by
  by_cases h : 16 < n
  · have h16 : ps.length > 16 := by omega
    have e1 : limE ps = 4 := by rw [limE, if_pos h16]
    have e2 : limS ps = [] := by rw [limS, if_pos h16]
    rw [e1, e2]
    refine (rlimit_long w h).mono ?_
    rintro e w' ⟨rfl, rfl⟩
    exact ⟨none, 0, rfl, Rd.nil _ _, Below.refl _ _⟩
  · exact rlimit_walk w ha hl (by omega)

theorem runder_at (p d : Bs) (f : Bool) (hf : under p d = f) (w : World) :
    Calls Try.prog 17 #[.string ⟨p.toArray⟩, .string ⟨d.toArray⟩] w fun e w' => e = .returned (.bool f) ∧ w' = w := by
  subst hf
  exact runder_any ⟨p.toArray⟩ ⟨d.toArray⟩ w

set_option maxHeartbeats 1600000 in
set_option maxRecDepth 100000 in
theorem rin_any {ao : Option Addr} {c n : Nat} {ss : List Bs} (x : Bs) (w : World) (ha : Rd w ao ss) (hl : ss.length = n) (hn : n ≤ 4000000000000000000) (f : Bool) (hf : hasS ss x = f) :
    Calls Try.prog 23 #[.slice ao n c, .string ⟨x.toArray⟩] w fun e w' => e = .returned (.bool f) ∧ Below w.heap.size w w' := by
  have H : Hid (Rd w ao ss ∧ ss.length = n ∧ hasS ss x = f) := ⟨ha, hl, hf⟩
  clear ha hl hf
  cases hp : isPath x with
  | false =>
    have hck := ris_at x false hp
    have hf : f = false := by rw [← H.out.2.2, hasS, hp]; rfl
    subst hf
    go_enter Try.func23, Try.ntmps23
    go_wp2_with fail
    refine (hck _).mono ?_
    rintro e w1 ⟨rfl, hb1⟩
    go_wp2
    go_ret
    exact ⟨rfl, hb1⟩
  | true =>
    have hck := ris_at x true hp
    have F : Hid (f = (ss.isEmpty || ss.any (under x))) := by show f = _; rw [← H.out.2.2, hasS, hp]; rfl
    clear hp
    go_enter Try.func23, Try.ntmps23
    go_wp2_with fail
    refine (hck _).mono ?_
    rintro e w1 ⟨rfl, hb1⟩
    have B1 : Hid (Below w.heap.size w w1) := hb1
    clear hb1
    go_wp2_with fail
    go_loopg [5] n (fun k v wr => ∃ (i : Nat), v = .int .i64 i ∧ i + k = n ∧ wr = w1 ∧ Hid ((ss.take i).any (under x) = false))
    case atStart => exact ⟨0, rfl, by omega, rfl, rfl⟩
    case round =>
      obtain ⟨i, rfl, hi, rfl, HT⟩ := hrel
      by_cases hin : i < n
      · have id : (i : Int) < (n : Int) := by omega
        obtain ⟨b1, o1, rfl, hlt1, hc1⟩ := (H.out.1.below B1.out) (by rw [H.out.2.1]; omega)
        obtain ⟨y, hy⟩ : ∃ y, el ss i = y := ⟨_, rfl⟩
        have c1 := hc1 i (by rw [H.out.2.1]; omega)
        rw [hy] at c1
        have X : Hid (el ss i = y) := hy
        clear hc1 hy
        cases hu : under x y with
        | true =>
          have hc := runder_at x y true hu
          go_wp2_with fail
          refine (hc _).mono ?_
          rintro e w' ⟨rfl, rfl⟩
          go_wp2
          go_ret
          refine ⟨?_, B1.out⟩
          rw [F.out, any_hit (p := under x) (i := i) (by rw [H.out.2.1]; exact hin) (by rw [X.out]; exact hu), Bool.or_true]
          rfl
        | false =>
          have hc := runder_at x y false hu
          go_wp2_with fail
          refine (hc _).mono ?_
          rintro e w' ⟨rfl, rfl⟩
          go_wp2
          go_roundg (gk - 1)
          case measure => omega
          case rel => exact ⟨i + 1, by go_num, by omega, rfl, any_step (p := under x) (by rw [H.out.2.1]; exact hin) HT.out (by rw [X.out]; exact hu)⟩
      · obtain rfl : i = n := by omega
        have e := HT.out
        rw [List.take_of_length_le (by rw [H.out.2.1]; omega)] at e
        have F2 : Hid (f = decide (i = 0)) := by
          show f = _
          rw [F.out, e, Bool.or_false, ← H.out.2.1]
          cases ss <;> simp
        clear e
        go_wp2
        go_ret
        refine ⟨congrArg (fun b => Ending.returned (Value.bool b)) ?_, B1.out⟩
        rw [F2.out, Bool.eq_iff_iff]
        simp
        try omega

end Go.Proofs.Ytcecgcgnpildpaa
