/-
  The law DiffLongest, walked: of whatever two lists it returns true, and what was there when it was called is as it was.
-/
import Derived.Test.YtmblkkmfbgngdaaMatch
import Derived.Test.YtmblkkmfbgngdaaAwake
namespace Go.Proofs.Ytmblkkmfbgngdaa
open Go.RowKit

/-- L of what both lists begin with. -/
def Fr (xs ys : List Bs) (i j : Nat) : Nat := lcs (xs.take i) (ys.take j)

theorem take_rev {xs : List Bs} {i : Nat} (h : i < xs.length) : (xs.take (i + 1)).reverse = el xs i :: (xs.take i).reverse := by
  rw [List.take_succ_eq_append_getElem h, List.reverse_append, el_get h]
  rfl

theorem Fr_none {xs ys : List Bs} {i j : Nat} (h : i = 0 ∨ j = 0) : Fr xs ys i j = 0 := by
  unfold Fr
  rcases h with rfl | rfl
  · rw [List.take_zero, lcs_nil]
  · rw [List.take_zero, lcs_nil']

theorem Fr_cons {xs ys : List Bs} {i j : Nat} (h : i < xs.length) (k : j < ys.length) : Fr xs ys (i + 1) (j + 1) = max (max (Fr xs ys i (j + 1)) (Fr xs ys (i + 1) j)) (if el xs i = el ys j then Fr xs ys i j + 1 else 0) := by
  unfold Fr
  rw [← lcs_rev (xs.take (i + 1)) (ys.take (j + 1)), ← lcs_rev (xs.take i) (ys.take (j + 1)), ← lcs_rev (xs.take (i + 1)) (ys.take j), ← lcs_rev (xs.take i) (ys.take j), take_rev h, take_rev k, lcs_cons]

theorem Fr_le (xs ys : List Bs) (i j : Nat) : Fr xs ys i j ≤ xs.length := by
  have := (lcs_len (xs.take i) (ys.take j)).1
  unfold Fr
  simp at this
  omega

/-- A pair of the match, and the one ahead of it. -/
theorem pair_at {xs ys : List Bs} {i : Nat} (h : i < (matchL xs ys).length) : ∃ u v : Nat, (matchL xs ys)[i]? = some ((u : Int), (v : Int)) ∧ u < xs.length ∧ v < ys.length ∧ el xs u = el ys v := by
  have hx : (matchL xs ys)[i]? = some (matchL xs ys)[i] := List.getElem?_eq_getElem h
  obtain ⟨u, v, e, x, h1, h2⟩ := match_pairs 0 0 xs ys _ (List.mem_of_getElem? hx)
  obtain ⟨l1, e1⟩ := List.getElem?_eq_some_iff.1 h1
  obtain ⟨l2, e2⟩ := List.getElem?_eq_some_iff.1 h2
  refine ⟨u, v, ?_, l1, l2, by rw [el_get l1, el_get l2, e1, e2]⟩
  rw [hx, e]
  simp

theorem pair_up {xs ys : List Bs} {i u v u' v' : Nat} (h : (matchL xs ys)[i + 1]? = some ((u : Int), (v : Int))) (k : (matchL xs ys)[i]? = some ((u' : Int), (v' : Int))) : u' < u ∧ v' < v := by
  obtain ⟨l1, e1⟩ := List.getElem?_eq_some_iff.1 h
  obtain ⟨l2, e2⟩ := List.getElem?_eq_some_iff.1 k
  have := List.pairwise_iff_getElem.1 (match_up 0 0 xs ys) i (i + 1) l2 l1 (Nat.lt_succ_self i)
  unfold matchL at e1 e2
  rw [e1, e2] at this
  simp only at this
  omega

set_option maxHeartbeats 12800000 in
set_option maxRecDepth 100000 in
theorem longest_walk (ao bo : Option Addr) (n c m d : Nat) (xs ys : List Bs) (W : World) (hl : xs.length = n) (hk : ys.length = m) (ha : Rd W ao xs) (hb : Rd W bo ys) :
    Calls Try.prog 4 #[.slice ao n c, .slice bo m d] W fun e w' => e = .returned (.bool true) ∧ Below W.heap.size W w' := by
  by_cases hbig : 256 < n ∨ 256 < m
  · have k3 : ∀ w, _ := fun w => match_long (ao := ao) (bo := bo) (c := c) (d := d) w hbig
    clear ha hb
    by_cases h1 : 256 < n
    · have h2 : decide ((256 : Int) < (n : Int)) = true := decide_eq_true (by omega)
      have h2' : (256 : Int) < (n : Int) := by omega
      clear hl hk hbig
      go_enter Try.func4, Try.ntmps4
      go_wp2_with fail
      refine (awake_any _).mono ?_
      rintro e w1 ⟨rfl, hb1⟩
      go_wp2_with fail
      refine (k3 w1).mono ?_
      rintro e w' ⟨rfl, rfl⟩
      go_wp2
      go_ret
      exact ⟨rfl, hb1⟩
    · have h2 : decide ((256 : Int) < (n : Int)) = false := decide_eq_false (by omega)
      have h3 : decide ((256 : Int) < (m : Int)) = true := decide_eq_true (by omega)
      have h3' : (256 : Int) < (m : Int) := by omega
      clear hl hk hbig
      go_enter Try.func4, Try.ntmps4
      go_wp2_with fail
      refine (awake_any _).mono ?_
      rintro e w1 ⟨rfl, hb1⟩
      go_wp2_with fail
      refine (k3 w1).mono ?_
      rintro e w' ⟨rfl, rfl⟩
      go_wp2
      go_ret
      exact ⟨rfl, hb1⟩
  · have hn : n ≤ 256 := by omega
    have hm : m ≤ 256 := by omega
    have k3 : ∀ w, Rd w ao xs → Rd w bo ys → _ := fun w h1 h2 => match_any (c := c) (d := d) w h1 h2 hl hk hn hm
    obtain ⟨q, hq⟩ : ∃ q, (matchL xs ys).length = q := ⟨_, rfl⟩
    have hq2 : q = Fr xs ys n m := by
      rw [← hq, Fr, ← hl, ← hk, List.take_length, List.take_length]
      exact match_len 0 0 xs ys
    have hqn : q ≤ 256 := by have := Fr_le xs ys n m; omega
    have H : Hid (Rd W ao xs ∧ Rd W bo ys ∧ xs.length = n ∧ ys.length = m ∧ (matchL xs ys).length = q ∧ q = Fr xs ys n m) := ⟨ha, hb, hl, hk, hq, hq2⟩
    have h2 : decide ((256 : Int) < (n : Int)) = false := decide_eq_false (by omega)
    have h3 : decide ((256 : Int) < (m : Int)) = false := decide_eq_false (by omega)
    obtain ⟨M, hM⟩ : ∃ M, m + 1 = M := ⟨_, rfl⟩
    have mk2 := run_make_row' (P := Try.prog) 42 3 (.int .i64 0) 8 Try.underlying42 info3 rfl .i64 .i64 M (by omega) (by omega)
    rw [show ((M : Nat) : Int) = (m : Int) + 1 by omega] at mk2
    have MK2 : Hid _ := mk2
    have MM : Hid (m + 1 = M) := hM
    have hM2 : M ≤ 257 := by omega
    clear hl hk ha hb hbig hq hq2 hM mk2
    go_enter Try.func4, Try.ntmps4
    go_wp2_with fail
    refine (awake_any _).mono ?_
    rintro e w1 ⟨rfl, hb1⟩
    have B1 : Hid (Below W.heap.size W w1) := hb1
    clear hb1
    go_wp2_with fail
    refine (k3 w1 (H.out.1.below B1.out) (H.out.2.1.below B1.out)).mono ?_
    rintro e w4 ⟨v4, rfl, ho4, hb4⟩
    obtain ⟨a4, c4, rfl, _, _, R4, g4⟩ := ho4.form
    rw [H.out.2.2.2.2.1]
    have B4 : Hid (Below W.heap.size W w4 ∧ RdG encP w4 a4 (matchL xs ys)) := ⟨B1.out.trans (hb4.mono B1.out.size), R4⟩
    clear k3 ho4 hb4 R4 B1 g4
    go_wp2_with fail
    go_loopg [9] q (fun k iv wr => ∃ i p : Nat, iv = .int .i64 i ∧ i + k = q ∧ wr = w4.drewN p)
    case atStart => exact ⟨0, 0, rfl, by omega, rfl⟩
    case round =>
      obtain ⟨i, p, rfl, hi, rfl⟩ := hrel
      by_cases hin : i < q
      · have id : (i : Int) < (q : Int) := by omega
        obtain ⟨u, v, hx, hu, hv, he⟩ := pair_at (xs := xs) (ys := ys) (i := i) (by rw [H.out.2.2.2.2.1]; exact hin)
        obtain ⟨g, o, rfl, hlt⟩ := B4.out.2.some_of hx
        obtain ⟨k1, k2⟩ := B4.out.2.pairs hx
        obtain ⟨b1, o1, rfl, hlt1, hc1⟩ := H.out.1 (by omega)
        obtain ⟨b2, o2, rfl, hlt2, hc2⟩ := H.out.2.1 (by omega)
        have d1 := (B4.out.1.cell (p := ⟨b1, o1 + u, none⟩) hlt1).trans (hc1 u hu)
        have d2 := (B4.out.1.cell (p := ⟨b2, o2 + v, none⟩) hlt2).trans (hc2 v hv)
        obtain ⟨x, hxx⟩ : ∃ x, el xs u = x := ⟨_, rfl⟩
        rw [hxx] at d1
        rw [← he, hxx] at d2
        rw [H.out.2.2.1] at hu
        rw [H.out.2.2.2.1] at hv
        simp only at k1 k2
        have u1 : (u : Int) < (n : Int) := by omega
        have v1 : (v : Int) < (m : Int) := by omega
        have u2 : decide ((u : Int) < 0) = false := decide_eq_false (by omega)
        have v2 : decide ((v : Int) < 0) = false := decide_eq_false (by omega)
        have u3 : decide ((n : Int) ≤ (u : Int)) = false := decide_eq_false (by omega)
        have v3 : decide ((m : Int) ≤ (v : Int)) = false := decide_eq_false (by omega)
        have u4 : decide (n ≤ u) = false := decide_eq_false (by omega)
        have v4 : decide (m ≤ v) = false := decide_eq_false (by omega)
        by_cases h0 : i = 0
        · as_aux_lemma =>
            subst h0
            have id0 : (0 : Int) < (q : Int) := by omega
            simp only [Nat.zero_mul, Nat.add_zero] at k1 k2
            clear hx he hxx hc1 hc2 id
            go_wp2_with fail
            simp only [List.append]
            go_big_quiet (fail)
            go_wp2
            go_roundg (gk - 1)
            case measure => omega
            case rel => exact ⟨1, _, by go_num, by omega, rfl⟩
        · as_aux_lemma =>
            obtain ⟨i', rfl⟩ : ∃ i', i = i' + 1 := ⟨i - 1, by omega⟩
            obtain ⟨u', v', hx', hu', hv', _⟩ := pair_at (xs := xs) (ys := ys) (i := i') (by rw [H.out.2.2.2.2.1]; omega)
            obtain ⟨k3, k4⟩ := B4.out.2.pairs hx'
            obtain ⟨r1, r2⟩ := pair_up hx hx'
            simp only at k3 k4
            have id0 : (i' : Int) < (q : Int) := by omega
            have id1 : (i' : Int) + 1 < (q : Int) := by omega
            have id2 : (0 : Int) < (i' : Int) + 1 := by omega
            have id3 : decide (0 < i' + 1) = true := decide_eq_true (by omega)
            have id4 : decide ((0 : Int) < (i' : Int) + 1) = true := decide_eq_true id2
            have z1 : decide ((u : Int) ≤ (u' : Int)) = false := decide_eq_false (by omega)
            have z2 : decide ((v : Int) ≤ (v' : Int)) = false := decide_eq_false (by omega)
            have z3 : decide (u ≤ u') = false := decide_eq_false (by omega)
            have z4 : decide (v ≤ v') = false := decide_eq_false (by omega)
            clear hx he hxx hc1 hc2 id hx' hu' hv' r1 r2 h0
            go_wp2_with fail
            simp only [List.append]
            go_big_quiet (fail)
            go_wp2
            go_roundg (gk - 1)
            case measure => omega
            case rel => exact ⟨i' + 2, _, by go_num, by omega, rfl⟩
      · obtain rfl : i = q := by omega
        obtain ⟨w5, hw5⟩ : ∃ w5, w5 = w4.drewN p := ⟨_, rfl⟩
        have B5 : Hid (Below W.heap.size W w5 ∧ RdG encP w5 a4 (matchL xs ys)) := by rw [hw5]; exact ⟨below_drewN B4.out.1 p, B4.out.2.below (below_drewN (Below.refl _ _) p)⟩
        rw [← hw5]
        clear hw5 B4
        have mk2 := MK2.out
        go_wp2_with fail
        clear mk2
        obtain ⟨g0, hg0⟩ : ∃ g0, w5.heap.size = g0 := ⟨_, rfl⟩
        have R0 : Hid ((w5.alloc (.cells (madeCells #[.int .i64 0] M) 3)).rowIs g0 3 M (fun j => .int .i64 (Fr xs ys 0 j)) ∧ Below w5.heap.size w5 (w5.alloc (.cells (madeCells #[.int .i64 0] M) 3)) ∧ w5.heap.size = g0) := by
          refine ⟨?_, (Below.refl _ w5).alloc (Nat.le_refl _) _, hg0⟩
          rw [← hg0]
          exact (World.rowIs_made w5 (.int .i64 0) M 3).congr (fun j _ => by rw [Fr_none (.inl rfl)]; rfl)
        rw [hg0]
        clear hg0
        go_loopg [11, 12, 13, 14, 15] n (fun k fv iv _ _ _ wr => ∃ r f : Nat, iv = .int .i64 r ∧ fv = .int .i64 f ∧ f ≤ r ∧ r + k = n ∧ Hid (wr.rowIs g0 3 M (fun j => .int .i64 (Fr xs ys r j)) ∧ Below w5.heap.size w5 wr ∧ ∀ k, k < f → ∃ x, xs[k]? = some x ∧ ys[k]? = some x))
        case atStart => exact ⟨0, 0, rfl, rfl, Nat.le_refl _, by omega, R0.out.1, R0.out.2.1, fun k hk => by omega⟩
        case round =>
          obtain ⟨r, f, rfl, rfl, hfr, hrn, HR⟩ := hrel
          obtain ⟨gk1, hgk1⟩ : ∃ g, gk = g := ⟨_, rfl⟩
          rw [hgk1] at hrn
          by_cases hr : r < n
          · have rd : (r : Int) < (n : Int) := by omega
            have hrx : r < xs.length := by rw [H.out.2.2.1]; exact hr
            go_wp2_with fail
            go_loopg [13, 14, 15] m (fun k ov jv _ wq => ∃ (s : Nat) (F : Nat → Nat), jv = .int .i64 s ∧ ov = .int .i64 (Fr xs ys r s : Int) ∧ s + k = m ∧ Hid ((∀ j, j < M → F j = if j ≤ s then Fr xs ys (r + 1) j else Fr xs ys r j) ∧ wq.rowIs g0 3 M (fun j => .int .i64 (F j)) ∧ Below w5.heap.size w5 wq))
            case atStart =>
              refine ⟨0, Fr xs ys r, rfl, ?_, by omega, fun j hj => ?_, HR.out.1, HR.out.2.1⟩
              · rw [Fr_none (.inr rfl)]; rfl
              · by_cases e : j = 0
                · subst e; rw [if_pos (Nat.le_refl _), Fr_none (.inr rfl), Fr_none (.inr rfl)]
                · rw [if_neg (by omega)]
            case round =>
              obtain ⟨s, F, rfl, rfl, hsm, HS⟩ := hrel
              by_cases hs : s < m
              · have sd : (s : Int) < (m : Int) := by omega
                have hsy : s < ys.length := by rw [H.out.2.2.2.1]; exact hs
                have hsM : s < M := by have := MM.out; omega
                have hsM1 : s + 1 < M := by have := MM.out; omega
                have sdM : (s : Int) < (M : Int) := by omega
                have sdM1 : (s : Int) + 1 < (M : Int) := by omega
                have t1 := HS.out.2.1.cell hsM
                have t2 := HS.out.2.1.cell hsM1
                have t3 := HS.out.2.1.frozen (s + 1)
                rw [HS.out.1 s hsM, if_pos (Nat.le_refl _)] at t1
                rw [HS.out.1 (s + 1) hsM1, if_neg (by omega)] at t2
                have lc := Fr_cons (xs := xs) (ys := ys) hrx hsy
                obtain ⟨b1, o1, rfl, hlt1, hc1⟩ := H.out.1 (by omega)
                obtain ⟨b2, o2, rfl, hlt2, hc2⟩ := H.out.2.1 (by omega)
                obtain ⟨x, hx⟩ : ∃ x, el xs r = x := ⟨_, rfl⟩
                obtain ⟨y, hy⟩ : ∃ y, el ys s = y := ⟨_, rfl⟩
                have bw : Below W.heap.size W wr := B5.out.1.trans (HS.out.2.2.mono B5.out.1.size)
                have c1 := (bw.cell (p := ⟨b1, o1 + r, none⟩) hlt1).trans (hc1 r hrx)
                have c2 := (bw.cell (p := ⟨b2, o2 + s, none⟩) hlt2).trans (hc2 s hsy)
                rw [hx] at c1
                rw [hy] at c2
                have l1 := Fr_le xs ys r s
                rw [H.out.2.2.1] at l1
                obtain ⟨p0, hp0⟩ : ∃ p, Fr xs ys r s = p := ⟨_, rfl⟩
                obtain ⟨p1, hp1⟩ : ∃ p, Fr xs ys (r + 1) s = p := ⟨_, rfl⟩
                obtain ⟨p2, hp2⟩ : ∃ p, Fr xs ys r (s + 1) = p := ⟨_, rfl⟩
                rw [hp1] at t1
                rw [hp2] at t2
                rw [hp0] at l1 ⊢
                rw [hp0, hp1, hp2, hx, hy] at lc
                have LC : Hid (Fr xs ys (r + 1) (s + 1) = max (max p2 p1) (if x = y then p0 + 1 else 0) ∧ Fr xs ys r (s + 1) = p2) := ⟨lc, hp2⟩
                have ST : Hid (∀ (q : Nat) (z : Int), z = (Fr xs ys (r + 1) (s + 1) : Int) → ∃ F' : Nat → Nat, (∀ j, j < M → F' j = if j ≤ s + 1 then Fr xs ys (r + 1) j else Fr xs ys r j) ∧ ((wr.drewN q).setCell ⟨g0, s + 1, none⟩ (.int .i64 z)).rowIs g0 3 M (fun j => .int .i64 (F' j)) ∧ Below w5.heap.size w5 ((wr.drewN q).setCell ⟨g0, s + 1, none⟩ (.int .i64 z))) := by
                  intro q z hz
                  subst hz
                  refine ⟨fun j => if j = s + 1 then Fr xs ys (r + 1) (s + 1) else F j, fun j hj => ?_, ?_, ?_⟩
                  · show (if j = s + 1 then Fr xs ys (r + 1) (s + 1) else F j) = _
                    by_cases e : j = s + 1
                    · rw [if_pos e, if_pos (by omega), e]
                    · rw [if_neg e, HS.out.1 j hj]
                      by_cases e2 : j ≤ s
                      · rw [if_pos e2, if_pos (by omega)]
                      · rw [if_neg e2, if_neg (by omega)]
                  · have hro : (wr.drewN q).rowIs g0 3 M (fun j => .int .i64 (F j)) := HS.out.2.1
                    refine (hro.set (s + 1) _).congr (fun j _ => ?_)
                    by_cases e : j = s + 1 <;> simp [e]
                  · exact (below_drewN HS.out.2.2 q).trans ((Turned.refl (fun k => k = g0) (wr.drewN q)).setCell (p := ⟨g0, s + 1, none⟩) (.inl rfl) _ |>.below (below_drewN HS.out.2.2 q).size (fun k hk q => by have := R0.out.2.2; omega))
                clear bw hx hy hc1 hc2 lc hp0 hp1 hp2
                obtain ⟨qm, hqm⟩ : ∃ qm, max p1 p2 = qm := ⟨_, rfl⟩
                have QM : Hid (max p1 p2 = qm) := hqm
                clear hqm
                go_upto_region 23 with fail
                go_cut [15] (fun v u => v = .int .i64 (qm : Int) ∧ ∃ q, u = wr.drewN q)
                case first =>
                  by_cases hcmp : p1 < p2
                  · as_aux_lemma =>
                      obtain rfl : qm = p2 := by have := QM.out; omega
                      go_wp2_with fail
                      go_big_region
                      go_wp2
                      go_meet
                      exact ⟨rfl, 1, rfl⟩
                  · as_aux_lemma =>
                      obtain rfl : qm = p1 := by have := QM.out; omega
                      go_wp2_with fail
                      go_big_region
                      go_wp2
                      go_meet
                      exact ⟨rfl, 1, rfl⟩
                case rest =>
                  obtain ⟨rfl, q1, rfl⟩ := hcut
                  cases hxy : x == y with
                  | true =>
                    have E : x = y := by simpa using hxy
                    have LD := LC.out.1
                    rw [if_pos E] at LD
                    by_cases hcmp : qm < p0 + 1
                    · as_aux_lemma =>
                        have Z : Hid ((p0 : Int) + 1 = (Fr xs ys (r + 1) (s + 1) : Int)) := by show (p0 : Int) + 1 = _; have := QM.out; omega
                        have hc1 : (qm : Int) < (p0 : Int) + 1 := by omega
                        clear LD E
                        go_wp2_with fail
                        go_quiet (fail)
                        go_wp2
                        go_roundg (gk - 1)
                        case measure => omega
                        case rel =>
                          obtain ⟨F', u1, u2, u3⟩ := ST.out _ _ Z.out
                          exact ⟨s + 1, F', by go_num, by rw [LC.out.2], by omega, u1, u2, u3⟩
                    · as_aux_lemma =>
                        have Z : Hid ((qm : Int) = (Fr xs ys (r + 1) (s + 1) : Int)) := by show (qm : Int) = _; have := QM.out; omega
                        have hc1 : ¬ (qm : Int) < (p0 : Int) + 1 := by omega
                        clear LD E
                        go_wp2_with fail
                        go_quiet (fail)
                        go_wp2
                        go_roundg (gk - 1)
                        case measure => omega
                        case rel =>
                          obtain ⟨F', u1, u2, u3⟩ := ST.out _ _ Z.out
                          exact ⟨s + 1, F', by go_num, by rw [LC.out.2], by omega, u1, u2, u3⟩
                  | false =>
                    as_aux_lemma =>
                      have E : ¬ x = y := by simpa using hxy
                      have LD := LC.out.1
                      rw [if_neg E] at LD
                      have Z : Hid ((qm : Int) = (Fr xs ys (r + 1) (s + 1) : Int)) := by show (qm : Int) = _; have := QM.out; omega
                      clear LD E
                      go_wp2_with fail
                      go_quiet (fail)
                      go_wp2
                      go_roundg (gk - 1)
                      case measure => omega
                      case rel =>
                        obtain ⟨F', u1, u2, u3⟩ := ST.out _ _ Z.out
                        exact ⟨s + 1, F', by go_num, by rw [LC.out.2], by omega, u1, u2, u3⟩
              · obtain rfl : s = m := by omega
                have RW : Hid (wr.rowIs g0 3 M (fun j => .int .i64 (Fr xs ys (r + 1) j)) ∧ Below w5.heap.size w5 wr) := by
                  refine ⟨HS.out.2.1.congr (fun j hj => ?_), HS.out.2.2⟩
                  rw [HS.out.1 j hj, if_pos (by have := MM.out; omega)]
                clear HS
                by_cases hf : f = r
                · subst hf
                  by_cases hfm : f < s
                  · have fm : (f : Int) < (s : Int) := by omega
                    have fmd : decide ((f : Int) < (s : Int)) = true := decide_eq_true fm
                    have hfy : f < ys.length := by rw [H.out.2.2.2.1]; exact hfm
                    obtain ⟨b1, o1, rfl, hlt1, hc1⟩ := H.out.1 (by omega)
                    obtain ⟨b2, o2, rfl, hlt2, hc2⟩ := H.out.2.1 (by omega)
                    obtain ⟨x, hx⟩ : ∃ x, el xs f = x := ⟨_, rfl⟩
                    obtain ⟨y, hy⟩ : ∃ y, el ys f = y := ⟨_, rfl⟩
                    have bw : Below W.heap.size W wr := B5.out.1.trans (RW.out.2.mono B5.out.1.size)
                    have c1 := (bw.cell (p := ⟨b1, o1 + f, none⟩) hlt1).trans (hc1 f hrx)
                    have c2 := (bw.cell (p := ⟨b2, o2 + f, none⟩) hlt2).trans (hc2 f hfy)
                    rw [hx] at c1
                    rw [hy] at c2
                    have X : Hid (el xs f = x ∧ el ys f = y ∧ f < ys.length) := ⟨hx, hy, hfy⟩
                    clear bw hx hy hc1 hc2 hfy
                    cases hxy : x == y with
                    | true =>
                      as_aux_lemma =>
                        go_wp2_with fail
                        go_quiet (fail)
                        go_wp2
                        go_roundg (gk1 - 1)
                        case measure => omega
                        case rel =>
                          refine ⟨f + 1, f + 1, by go_num, by go_num, by omega, by omega, RW.out.1, below_drewN RW.out.2 _, fun k hk => ?_⟩
                          by_cases e : k = f
                          · subst e
                            refine ⟨el xs k, by rw [List.getElem?_eq_getElem hrx, el_get hrx], ?_⟩
                            rw [List.getElem?_eq_getElem X.out.2.2, ← el_get X.out.2.2, X.out.1, X.out.2.1]
                            exact congrArg some (by simpa using hxy : x = y).symm
                          · exact HR.out.2.2 k (by omega)
                    | false =>
                      as_aux_lemma =>
                        go_wp2_with fail
                        go_quiet (fail)
                        go_wp2
                        go_roundg (gk1 - 1)
                        case measure => omega
                        case rel => exact ⟨f + 1, f, by go_num, rfl, by omega, by omega, RW.out.1, below_drewN RW.out.2 _, HR.out.2.2⟩
                  · as_aux_lemma =>
                      have fmd : decide ((f : Int) < (s : Int)) = false := decide_eq_false (by omega)
                      go_wp2_with fail
                      go_quiet (fail)
                      go_wp2
                      go_roundg (gk1 - 1)
                      case measure => omega
                      case rel => exact ⟨f + 1, f, by go_num, rfl, by omega, by omega, RW.out.1, below_drewN RW.out.2 _, HR.out.2.2⟩
                · as_aux_lemma =>
                    have hfr2 : ((f : Int) == (r : Int)) = false := by rw [beq_eq_false_iff_ne]; omega
                    go_wp2_with fail
                    go_quiet (fail)
                    go_wp2
                    go_roundg (gk1 - 1)
                    case measure => omega
                    case rel => exact ⟨r + 1, f, by go_num, rfl, by omega, by omega, RW.out.1, below_drewN RW.out.2 _, HR.out.2.2⟩
          · obtain rfl : r = n := by omega
            have PF : Hid (∀ k, k < f → (matchL xs ys)[k]? = some ((k : Int), (k : Int))) := by
              intro k hk
              have := match_front f 0 0 xs ys HR.out.2.2 k hk
              simpa [matchL] using this
            have RW : Hid (wr.rowIs g0 3 M (fun j => .int .i64 (Fr xs ys r j)) ∧ Below w5.heap.size w5 wr) := ⟨HR.out.1, HR.out.2.1⟩
            have RP : Hid (RdG encP wr a4 (matchL xs ys)) := B5.out.2.below HR.out.2.1
            clear HR
            go_wp2_with fail
            go_loopg [16] f (fun k iv wq => ∃ s : Nat, iv = .int .i64 s ∧ s + k = f ∧ wq = wr)
            case atStart => exact ⟨0, rfl, by omega, rfl⟩
            case round =>
              obtain ⟨s, rfl, hs, rfl⟩ := hrel
              by_cases hsf : s < f
              · as_aux_lemma =>
                  have sd : (s : Int) < (f : Int) := by omega
                  have hx := PF.out s hsf
                  have hsq : s < i := by
                    have := (List.getElem?_eq_some_iff.1 hx).1
                    rw [H.out.2.2.2.2.1] at this
                    exact this
                  obtain ⟨g, o, rfl, hlt⟩ := RP.out.some_of hx
                  obtain ⟨k1, k2⟩ := RP.out.pairs hx
                  simp only at k1 k2
                  have sq : (s : Int) < (i : Int) := by omega
                  have sq2 : decide ((i : Int) ≤ (s : Int)) = false := decide_eq_false (by omega)
                  clear hx
                  go_wp2_with fail
                  go_roundg (gk - 1)
                  case measure => omega
                  case rel => exact ⟨s + 1, by go_num, by omega, rfl⟩
              · as_aux_lemma =>
                  obtain rfl : s = f := by omega
                  have hmM : m < M := by have := MM.out; omega
                  have mdM : (m : Int) < (M : Int) := by omega
                  have t1 := RW.out.1.cell hmM
                  rw [← H.out.2.2.2.2.2] at t1
                  go_wp2
                  go_ret
                  exact ⟨rfl, B5.out.1.trans (RW.out.2.mono B5.out.1.size)⟩

end Go.Proofs.Ytmblkkmfbgngdaa
