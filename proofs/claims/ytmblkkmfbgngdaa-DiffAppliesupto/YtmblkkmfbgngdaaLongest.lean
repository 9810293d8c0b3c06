/-
  The reference's Longest by a contract: a new table that holds the document's L at every two places. At most 256 lines in each list.
-/
import Derived.Test.YtmblkkmfbgngdaaMatch
namespace Go.Proofs.Ytmblkkmfbgngdaa
open Go.RowKit

theorem Lat_cons {xs ys : List Bs} {i j : Nat} (h : i < xs.length) (k : j < ys.length) : Lat xs ys i j = max (max (Lat xs ys (i + 1) j) (Lat xs ys i (j + 1))) (if el xs i = el ys j then Lat xs ys (i + 1) (j + 1) + 1 else 0) := by
  unfold Lat
  rw [drop_el h, drop_el k, lcs_cons]

/-- One more number of the row r is L. -/
theorem Tab.fillR {W w : World} {B g N M r s G0 q : Nat} {R : Nat → Nat} {T : Nat → Nat → Nat} {xs ys : List Bs} {z : Int} (h : Tab (fun k => r ≤ k) w B g N M R T) (hb : Below B W w) (hB : B ≤ W.heap.size) (hr : r < N) (hG : R r = G0) (hz : z = (Lat xs ys r s : Int))
    (hi : ∀ k j, k < N → j < M → r + 1 ≤ k ∨ (k = r ∧ s + 1 ≤ j) → T k j = Lat xs ys k j) :
    ∃ U : Nat → Nat → Nat, (∀ k j, k < N → j < M → r + 1 ≤ k ∨ (k = r ∧ s ≤ j) → U k j = Lat xs ys k j) ∧ Tab (fun k => r ≤ k) ((w.drewN q).setCell ⟨G0, s, none⟩ (.int .i64 z)) B g N M R U ∧ Below B W ((w.drewN q).setCell ⟨G0, s, none⟩ (.int .i64 z)) := by
  subst hG hz
  have hd := h.below (below_drewN (Below.refl _ w) q)
  refine ⟨_, ?_, hd.put r s (Lat xs ys r s) hr (Nat.le_refl _), hd.put_below (below_drewN hb q) hB r s hr (Nat.le_refl _) _⟩
  intro k j hk hj hc
  by_cases e : k = r ∧ j = s
  · rw [if_pos e, e.1, e.2]
  · rw [if_neg e]
    exact hi k j hk hj (by omega)

set_option maxHeartbeats 6400000 in
set_option maxRecDepth 100000 in
theorem longest_any {ao bo : Option Addr} {c d n m : Nat} {xs ys : List Bs} (W : World) (ha : Rd W ao xs) (hb : Rd W bo ys) (hl : xs.length = n) (hk : ys.length = m) (hn : n ≤ 256) (hm : m ≤ 256) :
    Calls Try.prog 18 #[.slice ao n c, .slice bo m d] W fun e w' => ∃ g R, e = .returned (.slice (some ⟨g, 0, none⟩) (n + 1) (n + 1)) ∧ Tab (fun _ => True) w' W.heap.size g (n + 1) (m + 1) R (Lat xs ys) ∧ Below W.heap.size W w' := by
  have H : Hid (Rd W ao xs ∧ Rd W bo ys ∧ xs.length = n ∧ ys.length = m) := ⟨ha, hb, hl, hk⟩
  clear ha hb hl hk
  obtain ⟨N, hN⟩ : ∃ N, n + 1 = N := ⟨_, rfl⟩
  obtain ⟨M, hM⟩ : ∃ M, m + 1 = M := ⟨_, rfl⟩
  have mk1 := run_make_row' (P := Try.prog) 52 42 (.slice none 0 0) 24 Try.underlying52 info42 rfl .i64 .i64 N (by omega) (by omega)
  have mk2 := run_make_row' (P := Try.prog) 42 3 (.int .i64 0) 8 Try.underlying42 info3 rfl .i64 .i64 M (by omega) (by omega)
  rw [show ((N : Nat) : Int) = (n : Int) + 1 by omega] at mk1
  rw [show ((M : Nat) : Int) = (m : Int) + 1 by omega] at mk2
  have MK2 : Hid _ := mk2
  have hN2 : N ≤ 257 := by omega
  have hM2 : M ≤ 257 := by omega
  rw [hN, hM]
  have NM : Hid (n + 1 = N ∧ m + 1 = M) := ⟨hN, hM⟩
  clear hN hM mk2
  go_enter Try.func18, Try.ntmps18
  go_wp2_with fail
  clear mk1
  obtain ⟨g, hg⟩ : ∃ g, W.heap.size = g := ⟨_, rfl⟩
  have G : Hid (W.heap.size = g) := hg
  have T0 : Hid (Tab (fun _ => False) (W.alloc (.cells (madeCells #[.slice none 0 0] N) 42)) W.heap.size g N M (fun _ => 0) (fun _ _ => 0) ∧ Below W.heap.size W (W.alloc (.cells (madeCells #[.slice none 0 0] N) 42))) := by
    have := Tab.made W N M (fun _ => 0) (fun _ _ => 0)
    rw [hg] at this ⊢
    exact ⟨this, (Below.refl _ W).alloc (by omega) _⟩
  rw [hg]
  clear hg
  go_loopg [6, 7, 8] N (fun k iv _ _ wq => ∃ (r : Nat) (R : Nat → Nat) (T : Nat → Nat → Nat), iv = .int .i64 ((r : Int) - 1) ∧ r = k ∧ Hid (r ≤ N ∧ (∀ k j, k < N → j < M → r ≤ k → T k j = Lat xs ys k j) ∧ Tab (fun k => r ≤ k) wq W.heap.size g N M R T ∧ Below W.heap.size W wq))
  case atStart =>
    refine ⟨N, fun _ => 0, fun _ _ => 0, ?_, rfl, Nat.le_refl _, fun k j hk hj h => by omega, T0.out.1.say (fun k hk h => by omega) (fun k j hk h _ => by omega), T0.out.2⟩
    have := NM.out.1
    congr 1
    omega
  case round =>
    obtain ⟨r, R, T, rfl, hr, HT⟩ := hrel
    cases r with
    | zero =>
      go_wp2
      go_ret
      refine ⟨g, R, rfl, ?_, HT.out.2.2.2⟩
      exact HT.out.2.2.1.say (fun k hk _ => Nat.zero_le _) (fun k j hk _ hj => HT.out.2.1 k j hk hj (Nat.zero_le _))
    | succ r =>
      rw [show (((r + 1 : Nat) : Int) - 1) = (r : Int) by omega]
      have KR : Hid (r + 1 = gk) := hr
      clear hr
      have hrN : r < N := by have := HT.out.1; omega
      have rdN : (r : Int) < (N : Int) := by omega
      obtain ⟨f, hf, _⟩ := HT.out.2.2.1.row
      have k1 := (hf.alloc (.cells (madeCells #[.int .i64 0] M) 3)).cell hrN
      have k2 := (hf.alloc (.cells (madeCells #[.int .i64 0] M) 3)).frozen r
      have mk2 := MK2.out
      clear hf
      go_wp2_with fail
      have A1 : Hid _ := And.intro (HT.out.2.2.1.add r HT.out.2.2.2.size) (HT.out.2.2.1.add_below HT.out.2.2.2 (Nat.le_refl _) r (.cells (madeCells #[.int .i64 0] M) 3) (.slice (some ⟨wr.heap.size, 0, none⟩) M M))
      obtain ⟨w1, hw1⟩ : ∃ w1, w1 = (wr.alloc (.cells (madeCells #[.int .i64 0] M) 3)).setCell ⟨g, r, none⟩ (.slice (some ⟨wr.heap.size, 0, none⟩) M M) := ⟨_, rfl⟩
      rw [← hw1] at A1 ⊢
      obtain ⟨R1, hR1⟩ : ∃ R1, (fun k => if k = r then wr.heap.size else R k) = R1 := ⟨_, rfl⟩
      rw [hR1] at A1
      have A2 : Hid ((∀ k j, k < N → j < M → r + 1 ≤ k ∨ (k = r ∧ M ≤ j) → (if k = r then 0 else T k j) = Lat xs ys k j) ∧ Tab (fun k => r ≤ k) w1 W.heap.size g N M R1 (fun k j => if k = r then 0 else T k j) ∧ Below W.heap.size W w1) := by
        refine ⟨fun k j hk hj h => ?_, A1.out.1.say (fun k hk h => by show r + 1 ≤ k ∨ k = r; omega) (fun _ _ _ _ _ => rfl), A1.out.2⟩
        rw [if_neg (by omega)]
        exact HT.out.2.1 k j hk hj (by omega)
      obtain ⟨T1, hT1⟩ : ∃ T1, (fun k j => if k = r then 0 else T k j) = T1 := ⟨_, rfl⟩
      have A3 : Hid ((∀ k j, k < N → j < M → r + 1 ≤ k ∨ (k = r ∧ M ≤ j) → T1 k j = Lat xs ys k j) ∧ Tab (fun k => r ≤ k) w1 W.heap.size g N M R1 T1 ∧ Below W.heap.size W w1) := by
        rw [← hT1]; exact A2.out
      clear hw1 hR1 hT1 A1 A2 k1 k2 mk2
      go_loopg [7, 8] M (fun k jv _ wp => ∃ (s : Nat) (T : Nat → Nat → Nat), jv = .int .i64 ((s : Int) - 1) ∧ s = k ∧ Hid (s ≤ M ∧ (∀ k j, k < N → j < M → r + 1 ≤ k ∨ (k = r ∧ s ≤ j) → T k j = Lat xs ys k j) ∧ Tab (fun k => r ≤ k) wp W.heap.size g N M R1 T ∧ Below W.heap.size W wp))
      case atStart =>
        refine ⟨M, T1, ?_, rfl, Nat.le_refl _, A3.out⟩
        have := NM.out.2
        congr 1
        omega
      case round =>
        obtain ⟨s, T, rfl, hs, HS⟩ := hrel
        cases s with
        | zero =>
          go_wp2
          go_roundg r
          case measure => have := KR.out; omega
          case rel =>
            refine ⟨r, R1, T, by go_num, rfl, by omega, fun k j hk hj h => HS.out.2.1 k j hk hj ?_, HS.out.2.2⟩
            omega
        | succ s =>
          rw [show (((s + 1 : Nat) : Int) - 1) = (s : Int) by omega]
          have KS : Hid (s + 1 = gk) := hs
          clear hs
          have hsM : s < M := by have := HS.out.1; omega
          have sdM : (s : Int) < (M : Int) := by omega
          have t1 := HS.out.2.2.1.cell hrN (Nat.le_refl _)
          have t6 := HS.out.2.2.1.num hrN (Nat.le_refl _) hsM
          have t7 := (HS.out.2.2.1.rows r hrN (Nat.le_refl _)).frozen s
          obtain ⟨G0, hG0⟩ : ∃ G0, R1 r = G0 := ⟨_, rfl⟩
          obtain ⟨p4, hp4⟩ : ∃ p, T r s = p := ⟨_, rfl⟩
          rw [hG0] at t1 t6 t7
          rw [hp4] at t6
          have RR : Hid (R1 r = G0) := hG0
          clear hG0 hp4
          by_cases hrn : r < n
          · have rdn : (r : Int) < (n : Int) := by omega
            have rdd : decide ((r : Int) < (n : Int)) = true := decide_eq_true rdn
            have hrN1 : r + 1 < N := by have := NM.out.1; omega
            have rdN1 : (r : Int) + 1 < (N : Int) := by omega
            have t2 := HS.out.2.2.1.cell hrN1 (Nat.le_succ r)
            have t4 := HS.out.2.2.1.num hrN1 (Nat.le_succ r) hsM
            rw [HS.out.2.1 (r + 1) s hrN1 hsM (by omega)] at t4
            obtain ⟨p2, hp2⟩ : ∃ p, Lat xs ys (r + 1) s = p := ⟨_, rfl⟩
            obtain ⟨G1, hG1⟩ : ∃ G1, R1 (r + 1) = G1 := ⟨_, rfl⟩
            rw [hp2] at t4
            rw [hG1] at t2 t4
            have P2 : Hid (Lat xs ys (r + 1) s = p2) := hp2
            by_cases hsm : s < m
            · have sdm : (s : Int) < (m : Int) := by omega
              have sdd : decide ((s : Int) < (m : Int)) = true := decide_eq_true sdm
              have hsM1 : s + 1 < M := by have := NM.out.2; omega
              have sdM1 : (s : Int) + 1 < (M : Int) := by omega
              obtain ⟨b1, o1, rfl, hlt1, hc1⟩ := H.out.1 (by rw [H.out.2.2.1]; omega)
              obtain ⟨b2, o2, rfl, hlt2, hc2⟩ := H.out.2.1 (by rw [H.out.2.2.2]; omega)
              obtain ⟨x, hx⟩ : ∃ x, el xs r = x := ⟨_, rfl⟩
              obtain ⟨y, hy⟩ : ∃ y, el ys s = y := ⟨_, rfl⟩
              have c1 := (HS.out.2.2.2.cell (p := ⟨b1, o1 + r, none⟩) hlt1).trans (hc1 r (by rw [H.out.2.2.1]; exact hrn))
              have c2 := (HS.out.2.2.2.cell (p := ⟨b2, o2 + s, none⟩) hlt2).trans (hc2 s (by rw [H.out.2.2.2]; exact hsm))
              rw [hx] at c1
              rw [hy] at c2
              have t3 := HS.out.2.2.1.num hrN1 (Nat.le_succ r) hsM1
              have t5 := HS.out.2.2.1.num hrN (Nat.le_refl _) hsM1
              rw [HS.out.2.1 (r + 1) (s + 1) hrN1 hsM1 (by omega), hG1] at t3
              rw [HS.out.2.1 r (s + 1) hrN hsM1 (by omega), RR.out] at t5
              have lc := Lat_cons (xs := xs) (ys := ys) (i := r) (j := s) (by rw [H.out.2.2.1]; exact hrn) (by rw [H.out.2.2.2]; exact hsm)
              have l1 := Lat_le xs ys (r + 1) (s + 1)
              rw [H.out.2.2.1] at l1
              obtain ⟨p1, hp1⟩ : ∃ p, Lat xs ys (r + 1) (s + 1) = p := ⟨_, rfl⟩
              obtain ⟨p3, hp3⟩ : ∃ p, Lat xs ys r (s + 1) = p := ⟨_, rfl⟩
              rw [hp1] at t3 l1
              rw [hp3] at t5
              rw [hp1, hp2, hp3, hx, hy] at lc
              have LC : Hid (Lat xs ys r s = max (max p2 p3) (if x = y then p1 + 1 else 0)) := lc
              clear hp1 hp2 hp3 hx hy hc1 hc2 lc hG1
              by_cases hcmp : p2 < p3
              · have hcmp2 : (p2 : Int) < (p3 : Int) := by omega
                have hcmp3 : decide ((p2 : Int) < (p3 : Int)) = true := decide_eq_true hcmp2
                cases hxy : x == y with
                | true =>
                  have E : x = y := by simpa using hxy
                  have LD := LC.out
                  rw [if_pos E] at LD
                  by_cases hq : p3 < p1 + 1
                  · have hq2 : (p3 : Int) < (p1 : Int) + 1 := by omega
                    have hq3 : decide ((p3 : Int) < (p1 : Int) + 1) = true := decide_eq_true hq2
                    have Z : Hid ((p1 : Int) + 1 = (Lat xs ys r s : Int)) := by show (p1 : Int) + 1 = _; omega
                    clear LD E hq
                    go_wp2_with fail
                    go_quiet (fail)
                    go_wp2
                    go_roundg s
                    case measure => have := KS.out; omega
                    case rel =>
                      obtain ⟨U, u1, u2, u3⟩ := HS.out.2.2.1.fillR (q := _) HS.out.2.2.2 (Nat.le_refl _) hrN RR.out (show (p1 : Int) + 1 = (Lat xs ys r s : Int) from Z.out) HS.out.2.1
                      exact ⟨s, U, by go_num, rfl, by omega, u1, u2, u3⟩
                  · have hq3 : decide ((p3 : Int) < (p1 : Int) + 1) = false := decide_eq_false (by omega)
                    have Z : Hid ((p3 : Int) = (Lat xs ys r s : Int)) := by show (p3 : Int) = _; omega
                    clear LD E hq
                    go_wp2_with fail
                    go_quiet (fail)
                    go_wp2
                    go_roundg s
                    case measure => have := KS.out; omega
                    case rel =>
                      obtain ⟨U, u1, u2, u3⟩ := HS.out.2.2.1.fillR (q := _) HS.out.2.2.2 (Nat.le_refl _) hrN RR.out (show (p3 : Int) = (Lat xs ys r s : Int) from Z.out) HS.out.2.1
                      exact ⟨s, U, by go_num, rfl, by omega, u1, u2, u3⟩
                | false =>
                  have E : ¬ x = y := by simpa using hxy
                  have LD := LC.out
                  rw [if_neg E] at LD
                  have Z : Hid ((p3 : Int) = (Lat xs ys r s : Int)) := by show (p3 : Int) = _; omega
                  clear LD E
                  go_wp2_with fail
                  go_quiet (fail)
                  go_wp2
                  go_roundg s
                  case measure => have := KS.out; omega
                  case rel =>
                    obtain ⟨U, u1, u2, u3⟩ := HS.out.2.2.1.fillR (q := _) HS.out.2.2.2 (Nat.le_refl _) hrN RR.out (show (p3 : Int) = (Lat xs ys r s : Int) from Z.out) HS.out.2.1
                    exact ⟨s, U, by go_num, rfl, by omega, u1, u2, u3⟩
              · have hcmp3 : decide ((p2 : Int) < (p3 : Int)) = false := decide_eq_false (by omega)
                cases hxy : x == y with
                | true =>
                  have E : x = y := by simpa using hxy
                  have LD := LC.out
                  rw [if_pos E] at LD
                  by_cases hq : p2 < p1 + 1
                  · have hq2 : (p2 : Int) < (p1 : Int) + 1 := by omega
                    have hq3 : decide ((p2 : Int) < (p1 : Int) + 1) = true := decide_eq_true hq2
                    have Z : Hid ((p1 : Int) + 1 = (Lat xs ys r s : Int)) := by show (p1 : Int) + 1 = _; omega
                    clear LD E hq
                    go_wp2_with fail
                    go_quiet (fail)
                    go_wp2
                    go_roundg s
                    case measure => have := KS.out; omega
                    case rel =>
                      obtain ⟨U, u1, u2, u3⟩ := HS.out.2.2.1.fillR (q := _) HS.out.2.2.2 (Nat.le_refl _) hrN RR.out (show (p1 : Int) + 1 = (Lat xs ys r s : Int) from Z.out) HS.out.2.1
                      exact ⟨s, U, by go_num, rfl, by omega, u1, u2, u3⟩
                  · have hq3 : decide ((p2 : Int) < (p1 : Int) + 1) = false := decide_eq_false (by omega)
                    have Z : Hid ((p2 : Int) = (Lat xs ys r s : Int)) := by show (p2 : Int) = _; omega
                    clear LD E hq
                    go_wp2_with fail
                    go_quiet (fail)
                    go_wp2
                    go_roundg s
                    case measure => have := KS.out; omega
                    case rel =>
                      obtain ⟨U, u1, u2, u3⟩ := HS.out.2.2.1.fillR (q := _) HS.out.2.2.2 (Nat.le_refl _) hrN RR.out (show (p2 : Int) = (Lat xs ys r s : Int) from Z.out) HS.out.2.1
                      exact ⟨s, U, by go_num, rfl, by omega, u1, u2, u3⟩
                | false =>
                  have E : ¬ x = y := by simpa using hxy
                  have LD := LC.out
                  rw [if_neg E] at LD
                  have Z : Hid ((p2 : Int) = (Lat xs ys r s : Int)) := by show (p2 : Int) = _; omega
                  clear LD E
                  go_wp2_with fail
                  go_quiet (fail)
                  go_wp2
                  go_roundg s
                  case measure => have := KS.out; omega
                  case rel =>
                    obtain ⟨U, u1, u2, u3⟩ := HS.out.2.2.1.fillR (q := _) HS.out.2.2.2 (Nat.le_refl _) hrN RR.out (show (p2 : Int) = (Lat xs ys r s : Int) from Z.out) HS.out.2.1
                    exact ⟨s, U, by go_num, rfl, by omega, u1, u2, u3⟩
            · have sdd : decide ((s : Int) < (m : Int)) = false := decide_eq_false (by omega)
              have Z : Hid ((p2 : Int) = (Lat xs ys r s : Int)) := by
                show (p2 : Int) = _
                rw [Lat_end (.inr (by rw [H.out.2.2.2]; omega)), ← P2.out, Lat_end (.inr (by rw [H.out.2.2.2]; omega))]
              clear hp2 hG1
              go_wp2_with fail
              go_quiet (fail)
              go_wp2
              go_roundg s
              case measure => have := KS.out; omega
              case rel =>
                obtain ⟨U, u1, u2, u3⟩ := HS.out.2.2.1.fillR (q := _) HS.out.2.2.2 (Nat.le_refl _) hrN RR.out (show (p2 : Int) = (Lat xs ys r s : Int) from Z.out) HS.out.2.1
                exact ⟨s, U, by go_num, rfl, by omega, u1, u2, u3⟩
          · have rdd : decide ((r : Int) < (n : Int)) = false := decide_eq_false (by omega)
            have Z : Hid ((0 : Int) = (Lat xs ys r s : Int)) := by
              show (0 : Int) = _
              rw [Lat_end (.inl (by rw [H.out.2.2.1]; omega))]
              rfl
            by_cases hsm : s < m
            · have sdm : (s : Int) < (m : Int) := by omega
              have sdd : decide ((s : Int) < (m : Int)) = true := decide_eq_true sdm
              have hsM1 : s + 1 < M := by have := NM.out.2; omega
              have sdM1 : (s : Int) + 1 < (M : Int) := by omega
              have t5 := HS.out.2.2.1.num hrN (Nat.le_refl _) hsM1
              rw [HS.out.2.1 r (s + 1) hrN hsM1 (by omega), RR.out, Lat_end (.inl (by rw [H.out.2.2.1]; omega))] at t5
              go_wp2_with fail
              go_quiet (fail)
              go_wp2
              go_roundg s
              case measure => have := KS.out; omega
              case rel =>
                obtain ⟨U, u1, u2, u3⟩ := HS.out.2.2.1.fillR (q := _) HS.out.2.2.2 (Nat.le_refl _) hrN RR.out (show (0 : Int) = (Lat xs ys r s : Int) from Z.out) HS.out.2.1
                exact ⟨s, U, by go_num, rfl, by omega, u1, u2, u3⟩
            · have sdd : decide ((s : Int) < (m : Int)) = false := decide_eq_false (by omega)
              go_wp2_with fail
              go_quiet (fail)
              go_wp2
              go_roundg s
              case measure => have := KS.out; omega
              case rel =>
                obtain ⟨U, u1, u2, u3⟩ := HS.out.2.2.1.fillR (q := _) HS.out.2.2.2 (Nat.le_refl _) hrN RR.out (show (0 : Int) = (Lat xs ys r s : Int) from Z.out) HS.out.2.1
                exact ⟨s, U, by go_num, rfl, by omega, u1, u2, u3⟩

end Go.Proofs.Ytmblkkmfbgngdaa
