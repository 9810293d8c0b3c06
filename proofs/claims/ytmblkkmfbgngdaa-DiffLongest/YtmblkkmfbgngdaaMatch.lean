/-
  diff.Match by a contract: the pairs of the document's match, in a new row; ErrLong where a list has more than 256 lines. No condition.
-/
import Derived.Test.YtmblkkmfbgngdaaShared
namespace Go.Proofs.Ytmblkkmfbgngdaa
open Go.RowKit

theorem mstep_same {xs ys : List Bs} {i j : Nat} (h : i < xs.length) (k : j < ys.length) (e : el xs i = el ys j) : matchFrom i j (xs.drop i) (ys.drop j) = ((i : Int), (j : Int)) :: matchFrom (i + 1) (j + 1) (xs.drop (i + 1)) (ys.drop (j + 1)) := by
  rw [drop_el h, drop_el k, e, match_same]

theorem mstep_down {xs ys : List Bs} {i j : Nat} (h : i < xs.length) (k : j < ys.length) (e : el xs i ≠ el ys j) (q : Lat xs ys i (j + 1) ≤ Lat xs ys (i + 1) j) : matchFrom i j (xs.drop i) (ys.drop j) = matchFrom (i + 1) j (xs.drop (i + 1)) (ys.drop j) := by
  unfold Lat at q
  rw [drop_el h, drop_el k] at *
  rw [match_down i j _ _ e q]

theorem mstep_right {xs ys : List Bs} {i j : Nat} (h : i < xs.length) (k : j < ys.length) (e : el xs i ≠ el ys j) (q : ¬ Lat xs ys i (j + 1) ≤ Lat xs ys (i + 1) j) : matchFrom i j (xs.drop i) (ys.drop j) = matchFrom i (j + 1) (xs.drop i) (ys.drop (j + 1)) := by
  unfold Lat at q
  rw [drop_el h, drop_el k] at *
  rw [match_right i j _ _ e q]

theorem mstep_end {xs ys : List Bs} {i j : Nat} (h : xs.length ≤ i ∨ ys.length ≤ j) : matchFrom i j (xs.drop i) (ys.drop j) = [] := by
  rcases h with h | h
  · rw [List.drop_eq_nil_of_le h, match_nil]
  · rw [List.drop_eq_nil_of_le h, match_nil']

theorem info39 : (Try.prog.info? 39).map (fun i => (i.zero, i.size, i.bytes)) = some (some (.agg #[.int .i64 0, .int .i64 0]), 2, 16) := by kernel_rfl

/-- Some pairs of the match are told, the others are still to come. -/
structure MI (e : TypeId) (xs ys : List Bs) (w wr : World) (i j : Nat) (P : List (Int × Int)) (v : Value) : Prop where
  split : P ++ matchFrom i j (xs.drop i) (ys.drop j) = matchL xs ys
  len : P.length ≤ i
  own : OwnG encP e wr w.heap.size v P
  bel : Below w.heap.size w wr

theorem MI.start (e : TypeId) (xs ys : List Bs) (w : World) : MI e xs ys w w 0 0 [] (.slice none 0 0) :=
  ⟨rfl, Nat.le_refl _, OwnG.nil _ _ _ _, Below.refl _ _⟩

theorem MI.drew {e : TypeId} {xs ys : List Bs} {w wr : World} {i j : Nat} {P : List (Int × Int)} {v : Value} (h : MI e xs ys w wr i j P v) (q : Nat) : MI e xs ys w (wr.drewN q) i j P v :=
  ⟨h.split, h.len, h.own.below (below_drewN (Below.refl _ _) q), below_drewN h.bel q⟩

set_option maxHeartbeats 400000 in
theorem match_long {ao bo : Option Addr} {c d n m : Nat} (w : World) (h : 256 < n ∨ 256 < m) :
    Calls Try.prog 9 #[.slice ao n c, .slice bo m d] w fun e w' => e = .returned (.tuple #[.slice none 0 0, .int .i64 4]) ∧ w' = w := by
  by_cases h1 : 256 < n
  · have h2 : decide ((256 : Int) < (n : Int)) = true := decide_eq_true (by omega)
    go_enter Try.func9, Try.ntmps9
    go_wp2
    refine bodyPost_ret (results_tmp2 rfl _ _ _) rfl ?_
    exact ⟨rfl, rfl⟩
  · have h2 : decide ((256 : Int) < (n : Int)) = false := decide_eq_false (by omega)
    have h3 : decide ((256 : Int) < (m : Int)) = true := decide_eq_true (by omega)
    go_enter Try.func9, Try.ntmps9
    go_wp2
    refine bodyPost_ret (results_tmp2 rfl _ _ _) rfl ?_
    exact ⟨rfl, rfl⟩

set_option maxHeartbeats 3200000 in
set_option maxRecDepth 100000 in
theorem match_any {ao bo : Option Addr} {c d n m : Nat} {xs ys : List Bs} (w : World) (ha : Rd w ao xs) (hb : Rd w bo ys) (hl : xs.length = n) (hk : ys.length = m) (hn : n ≤ 256) (hm : m ≤ 256) :
    Calls Try.prog 9 #[.slice ao n c, .slice bo m d] w fun e w' => ∃ v', e = .returned (.tuple #[v', .int .i64 0]) ∧ OwnG encP 39 w' w.heap.size v' (matchL xs ys) ∧ Below w.heap.size w w' := by
  have hsh := shared_any (c := c) (d := d) w ha hb hl hk hn hm
  have H : Hid (Rd w ao xs ∧ Rd w bo ys ∧ xs.length = n ∧ ys.length = m) := ⟨ha, hb, hl, hk⟩
  clear ha hb hl hk
  have h2 : decide ((256 : Int) < (n : Int)) = false := decide_eq_false (by omega)
  have h3 : decide ((256 : Int) < (m : Int)) = false := decide_eq_false (by omega)
  obtain ⟨N, hN⟩ : ∃ N, n + 1 = N := ⟨_, rfl⟩
  obtain ⟨M, hM⟩ : ∃ M, m + 1 = M := ⟨_, rfl⟩
  rw [hN, hM] at hsh
  have NM : Hid (n + 1 = N ∧ m + 1 = M) := ⟨hN, hM⟩
  have hN2 : N ≤ 257 := by omega
  have hM2 : M ≤ 257 := by omega
  clear hN hM
  go_enter Try.func9, Try.ntmps9
  go_wp2_with fail
  refine hsh.mono ?_
  rintro e w2 ⟨g, R, rfl, hT, hb2⟩
  have G : Hid (Tab (fun _ => True) w2 w.heap.size g N M R (Lat xs ys) ∧ Below w.heap.size w w2) := ⟨hT, hb2⟩
  clear hsh hT hb2
  go_wp2_with fail
  go_loopg [7, 8, 9] (n + m) (fun k pv iv jv wr => ∃ (i j : Nat) (P : List (Int × Int)), iv = .int .i64 i ∧ jv = .int .i64 j ∧ i ≤ n ∧ j ≤ m ∧ i + j + k = n + m ∧ Hid (MI 39 xs ys w2 wr i j P pv))
  case atStart => exact ⟨0, 0, [], rfl, rfl, by omega, by omega, by omega, MI.start _ _ _ _⟩
  case round =>
    obtain ⟨i, j, P, rfl, rfl, hin, hjm, hij, HR⟩ := hrel
    by_cases h0 : i < n
    · by_cases h1 : j < m
      · have id : (i : Int) < (n : Int) := by omega
        have jd : (j : Int) < (m : Int) := by omega
        have hxi : i < xs.length := by rw [H.out.2.2.1]; exact h0
        have hyj : j < ys.length := by rw [H.out.2.2.2]; exact h1
        obtain ⟨b1, o1, rfl, hlt1, hc1⟩ := H.out.1 (by omega)
        obtain ⟨b2, o2, rfl, hlt2, hc2⟩ := H.out.2.1 (by omega)
        obtain ⟨x, hx⟩ : ∃ x, el xs i = x := ⟨_, rfl⟩
        obtain ⟨y, hy⟩ : ∃ y, el ys j = y := ⟨_, rfl⟩
        have bw : Below w.heap.size w wr := G.out.2.trans (HR.out.bel.mono G.out.2.size)
        have c1 := (bw.cell (p := ⟨b1, o1 + i, none⟩) hlt1).trans (hc1 i hxi)
        have c2 := (bw.cell (p := ⟨b2, o2 + j, none⟩) hlt2).trans (hc2 j hyj)
        rw [hx] at c1
        rw [hy] at c2
        have X : Hid (el xs i = x ∧ el ys j = y ∧ i < xs.length ∧ j < ys.length) := ⟨hx, hy, hxi, hyj⟩
        clear bw hx hy hxi hyj hc1 hc2
        cases hxy : x == y with
        | true =>
          have E : Hid (el xs i = el ys j) := by show _ = _; rw [X.out.1, X.out.2.1]; simpa using hxy
          obtain ⟨ao0, cap0, rfl, _, _, _, _⟩ := HR.out.own.form
          go_wp2_with fail
          go_quiet (fail)
          go_wp2_with (at_builtin; refine appG_one encP 39 24 16 _ rfl info39 Try.underlying24 rfl (.tmp 43) (.tmp 47) rfl w2.heap.size _ P ((i : Int), (j : Int)) _ rfl (HR.out.drew _).own rfl (by have := HR.out.len; omega) (by have := HR.out.len; simp only [maxLen]; omega) (HR.out.drew _).bel.size _ rfl ?_; intro v' w4 hown4 hbel4 _ _)
          obtain ⟨ao4, cap4, rfl, _, _, _, _⟩ := hown4.form
          go_wp2
          go_roundg (gk - 2)
          case measure => omega
          case rel =>
            refine ⟨i + 1, j + 1, P ++ [((i : Int), (j : Int))], by go_num, by go_num, by omega, by omega, by omega, ?_, by have := HR.out.len; simp; omega, hown4, (HR.out.drew _).bel.trans hbel4⟩
            have := HR.out.split
            rw [mstep_same X.out.2.2.1 X.out.2.2.2 E.out] at this
            rw [← this, List.append_assoc]
            rfl
        | false =>
          have E : Hid (el xs i ≠ el ys j) := by show _ ≠ _; rw [X.out.1, X.out.2.1]; simpa using hxy
          have hiN : i < N := by have := NM.out.1; omega
          have hiN1 : i + 1 < N := by have := NM.out.1; omega
          have hjM : j < M := by have := NM.out.2; omega
          have hjM1 : j + 1 < M := by have := NM.out.2; omega
          have id1 : (i : Int) < (N : Int) := by omega
          have id2 : (i : Int) + 1 < (N : Int) := by omega
          have jd1 : (j : Int) < (M : Int) := by omega
          have jd2 : (j : Int) + 1 < (M : Int) := by omega
          have TT := G.out.1.below HR.out.bel
          have t1 := TT.cell hiN trivial
          have t2 := TT.cell hiN1 trivial
          have t3 := TT.num hiN1 trivial hjM
          have t4 := TT.num hiN trivial hjM1
          obtain ⟨p2, hp2⟩ : ∃ p, Lat xs ys (i + 1) j = p := ⟨_, rfl⟩
          obtain ⟨p3, hp3⟩ : ∃ p, Lat xs ys i (j + 1) = p := ⟨_, rfl⟩
          rw [hp2] at t3
          rw [hp3] at t4
          have PP : Hid (Lat xs ys (i + 1) j = p2 ∧ Lat xs ys i (j + 1) = p3) := ⟨hp2, hp3⟩
          obtain ⟨G0, hG0⟩ : ∃ G0, R i = G0 := ⟨_, rfl⟩
          obtain ⟨G1, hG1⟩ : ∃ G1, R (i + 1) = G1 := ⟨_, rfl⟩
          rw [hG0] at t1 t4
          rw [hG1] at t2 t3
          clear hp2 hp3 hG0 hG1 TT
          by_cases hcmp : p3 ≤ p2
          · have hcmp2 : (p3 : Int) ≤ (p2 : Int) := by omega
            go_wp2_with fail
            go_quiet (fail)
            go_wp2_with fail
            go_quiet (fail)
            go_wp2
            go_roundg (gk - 1)
            case measure => omega
            case rel =>
              refine ⟨i + 1, j, P, by go_num, rfl, by omega, by omega, by omega, ?_, by have := HR.out.len; omega, (HR.out.drew _).own, (HR.out.drew _).bel⟩
              have := HR.out.split
              rw [mstep_down X.out.2.2.1 X.out.2.2.2 E.out (by rw [PP.out.1, PP.out.2]; exact hcmp)] at this
              exact this
          · have hcmp2 : decide ((p3 : Int) ≤ (p2 : Int)) = false := decide_eq_false (by omega)
            go_wp2_with fail
            go_quiet (fail)
            go_wp2_with fail
            go_quiet (fail)
            go_wp2
            go_roundg (gk - 1)
            case measure => omega
            case rel =>
              refine ⟨i, j + 1, P, rfl, by go_num, by omega, by omega, by omega, ?_, HR.out.len, (HR.out.drew _).own, (HR.out.drew _).bel⟩
              have := HR.out.split
              rw [mstep_right X.out.2.2.1 X.out.2.2.2 E.out (by rw [PP.out.1, PP.out.2]; exact hcmp)] at this
              exact this
      · obtain rfl : j = m := by omega
        have id : decide ((i : Int) < (n : Int)) = true := decide_eq_true (by omega)
        go_wp2
        refine bodyPost_ret (results_tmp2 rfl _ _ _) rfl ?_
        refine ⟨_, rfl, ?_, G.out.2.trans (HR.out.bel.mono G.out.2.size)⟩
        have := HR.out.split
        rw [mstep_end (.inr (by rw [H.out.2.2.2]; omega)), List.append_nil] at this
        rw [← this]
        exact HR.out.own.low G.out.2.size
    · obtain rfl : i = n := by omega
      go_wp2
      refine bodyPost_ret (results_tmp2 rfl _ _ _) rfl ?_
      refine ⟨_, rfl, ?_, G.out.2.trans (HR.out.bel.mono G.out.2.size)⟩
      have := HR.out.split
      rw [mstep_end (.inl (by rw [H.out.2.2.1]; omega)), List.append_nil] at this
      rw [← this]
      exact HR.out.own.low G.out.2.size

end Go.Proofs.Ytmblkkmfbgngdaa
