/-
  diff.sharedLengths by a contract: a new table that holds the document's L at every two places. At most 256 lines in each list.
-/
import Derived.Test.YtmblkkmfbgngdaaTab
import Derived.Test.YtmblkkmfbgngdaaPSame
namespace Go.Proofs.Ytmblkkmfbgngdaa
open Go.RowKit

/-- One more number is L. -/
theorem Tab.fill {W w : World} {B g i M r s m G0 q : Nat} {R : Nat → Nat} {T : Nat → Nat → Nat} {xs ys : List Bs} {z : Int} (h : Tab (fun k => k < i) w B g i M R T) (hb : Below B W w) (hB : B ≤ W.heap.size) (hr : r < i) (hG : R r = G0) (hz : z = (Lat xs ys r s : Int))
    (hi : ∀ k j, k < i → j < M → r + 1 ≤ k ∨ j = m ∨ (k = r ∧ s + 1 ≤ j) → T k j = Lat xs ys k j) :
    ∃ U : Nat → Nat → Nat, (∀ k j, k < i → j < M → r + 1 ≤ k ∨ j = m ∨ (k = r ∧ s ≤ j) → U k j = Lat xs ys k j) ∧ Tab (fun k => k < i) ((w.drewN q).setCell ⟨G0, s, none⟩ (.int .i64 z)) B g i M R U ∧ Below B W ((w.drewN q).setCell ⟨G0, s, none⟩ (.int .i64 z)) := by
  subst hG hz
  have hd := h.below (below_drewN (Below.refl _ w) q)
  refine ⟨_, ?_, hd.put r s (Lat xs ys r s) hr hr, hd.put_below (below_drewN hb q) hB r s hr hr _⟩
  intro k j hk hj hc
  by_cases e : k = r ∧ j = s
  · rw [if_pos e, e.1, e.2]
  · rw [if_neg e]
    exact hi k j hk hj (by omega)

set_option maxHeartbeats 6400000 in
set_option maxRecDepth 100000 in
theorem shared_any {ao bo : Option Addr} {c d n m : Nat} {xs ys : List Bs} (W : World) (ha : Rd W ao xs) (hb : Rd W bo ys) (hl : xs.length = n) (hk : ys.length = m) (hn : n ≤ 256) (hm : m ≤ 256) :
    Calls Try.prog 17 #[.slice ao n c, .slice bo m d] W fun e w' => ∃ g R, e = .returned (.slice (some ⟨g, 0, none⟩) (n + 1) (n + 1)) ∧ Tab (fun _ => True) w' W.heap.size g (n + 1) (m + 1) R (Lat xs ys) ∧ Below W.heap.size W w' := by
  have H : Hid (Rd W ao xs ∧ Rd W bo ys ∧ xs.length = n ∧ ys.length = m) := ⟨ha, hb, hl, hk⟩
  clear ha hb hl hk
  obtain ⟨N, hN⟩ : ∃ N, n + 1 = N := ⟨_, rfl⟩
  obtain ⟨M, hM⟩ : ∃ M, m + 1 = M := ⟨_, rfl⟩
  have mk1 := run_make_row' (P := Try.prog) 52 42 (.slice none 0 0) 24 Try.underlying52 info42 rfl .i64 .i64 N (by omega) (by omega)
  have mk2 := run_make_row' (P := Try.prog) 42 3 (.int .i64 0) 8 Try.underlying42 info3 rfl .i64 .i64 M (by omega) (by omega)
  rw [show ((N : Nat) : Int) = (n : Int) + 1 by omega] at mk1
  rw [show ((M : Nat) : Int) = (m : Int) + 1 by omega] at mk2
  rw [hN, hM]
  have NM : Hid (n + 1 = N ∧ m + 1 = M) := ⟨hN, hM⟩
  have hN2 : N ≤ 257 := by omega
  have hM2 : M ≤ 257 := by omega
  clear hN hM
  go_enter Try.func17, Try.ntmps17
  go_wp2_with fail
  go_loopg [6, 15] N (fun k _ iv wr => ∃ (i : Nat) (R : Nat → Nat), iv = .int .i64 i ∧ i + k = N ∧ Hid (Tab (fun k => k < i) wr W.heap.size W.heap.size N M R (fun _ _ => 0) ∧ Below W.heap.size W wr))
  case atStart => exact ⟨0, fun _ => 0, rfl, by omega, (Tab.made W N M (fun _ => 0) (fun _ _ => 0)).say (fun k _ h => by omega) (fun k j _ h => by omega), (Below.refl _ W).alloc (Nat.le_refl _) _⟩
  case round =>
    obtain ⟨i, R, rfl, hi, HR⟩ := hrel
    by_cases hin : i < N
    · have id : (i : Int) < (N : Int) := by omega
      obtain ⟨f, hf, _⟩ := HR.out.1.row
      have k1 := (hf.alloc (.cells (madeCells #[.int .i64 0] M) 3)).cell hin
      have k2 := (hf.alloc (.cells (madeCells #[.int .i64 0] M) 3)).frozen i
      clear hf
      go_wp2
      go_roundg (gk - 1)
      case measure => omega
      case rel =>
        refine ⟨i + 1, _, by go_num, by omega, (HR.out.1.add i HR.out.2.size).say (fun k _ h => ?_) (fun k j _ h _ => ?_), HR.out.1.add_below HR.out.2 (Nat.le_refl _) i _ _⟩
        · show k < i ∨ k = i
          omega
        · show (if k = i then 0 else 0) = 0
          split <;> rfl
    · obtain rfl : i = N := by omega
      obtain ⟨g, hg⟩ : ∃ g, W.heap.size = g := ⟨_, rfl⟩
      have G : Hid (W.heap.size = g ∧ Tab (fun k => k < i) wr W.heap.size W.heap.size i M R (fun _ _ => 0) ∧ Below W.heap.size W wr) := ⟨hg, HR.out⟩
      clear HR mk1 mk2
      rw [hg]
      clear hg
      go_wp2_with fail
      go_loopg [7, 8] n (fun k iv _ wq => ∃ (r : Nat) (T : Nat → Nat → Nat), iv = .int .i64 ((r : Int) - 1) ∧ r = k ∧ Hid (r ≤ n ∧ (∀ k j, k < i → j < M → r ≤ k ∨ j = m → T k j = Lat xs ys k j) ∧ Tab (fun k => k < i) wq W.heap.size g i M R T ∧ Below W.heap.size W wq))
      case atStart =>
        refine ⟨n, fun _ _ => 0, rfl, rfl, Nat.le_refl _, fun k j hk hj h => ?_, by have := G.out.2.1; rw [G.out.1] at this ⊢; exact this, G.out.2.2⟩
        rw [Lat_end]
        rw [H.out.2.2.1, H.out.2.2.2]
        have := NM.out.1
        omega
      case round =>
        obtain ⟨r, T, rfl, hr, HT⟩ := hrel
        cases r with
        | zero =>
          go_wp2
          go_ret
          refine ⟨g, R, rfl, ?_, HT.out.2.2.2⟩
          exact HT.out.2.2.1.say (fun k hk _ => hk) (fun k j hk _ hj => HT.out.2.1 k j hk hj (.inl (Nat.zero_le _)))
        | succ r =>
          rw [show (((r + 1 : Nat) : Int) - 1) = (r : Int) by omega]
          have KR : Hid (r + 1 = gk) := hr
          clear hr
          go_wp2_with fail
          have hri : r < i := by have := NM.out.1; have := HT.out.1; omega
          have hri1 : r + 1 < i := by have := NM.out.1; have := HT.out.1; omega
          have hrn : r < n := by have := HT.out.1; omega
          have rd : (r : Int) < (i : Int) := by omega
          have rd1 : (r : Int) + 1 < (i : Int) := by omega
          have rdn : (r : Int) < (n : Int) := by omega
          go_loopg [8] m (fun k jv wp => ∃ (s : Nat) (T : Nat → Nat → Nat), jv = .int .i64 ((s : Int) - 1) ∧ s = k ∧ Hid (s ≤ m ∧ (∀ k j, k < i → j < M → r + 1 ≤ k ∨ j = m ∨ (k = r ∧ s ≤ j) → T k j = Lat xs ys k j) ∧ Tab (fun k => k < i) wp W.heap.size g i M R T ∧ Below W.heap.size W wp))
          case atStart =>
            refine ⟨m, T, rfl, rfl, Nat.le_refl _, fun k j hk hj h => HT.out.2.1 k j hk hj ?_, HT.out.2.2⟩
            have := NM.out.2
            omega
          case round =>
            obtain ⟨s, T, rfl, hs, HS⟩ := hrel
            cases s with
            | zero =>
              go_wp2
              go_roundg r
              case measure => have := KR.out; omega
              case rel =>
                refine ⟨r, T, rfl, rfl, by omega, fun k j hk hj h => HS.out.2.1 k j hk hj ?_, HS.out.2.2⟩
                omega
            | succ s =>
              rw [show (((s + 1 : Nat) : Int) - 1) = (s : Int) by omega]
              have KS : Hid (s + 1 = gk) := hs
              clear hs
              have hsm : s < m := by have := HS.out.1; omega
              have hsM : s < M := by have := NM.out.2; omega
              have hsM1 : s + 1 < M := by have := NM.out.2; omega
              have sd : (s : Int) < (m : Int) := by omega
              have sdM : (s : Int) < (M : Int) := by omega
              have sdM1 : (s : Int) + 1 < (M : Int) := by omega
              obtain ⟨b1, o1, rfl, hlt1, hc1⟩ := H.out.1 (by rw [H.out.2.2.1]; omega)
              obtain ⟨b2, o2, rfl, hlt2, hc2⟩ := H.out.2.1 (by rw [H.out.2.2.2]; omega)
              obtain ⟨x, hx⟩ : ∃ x, el xs r = x := ⟨_, rfl⟩
              obtain ⟨y, hy⟩ : ∃ y, el ys s = y := ⟨_, rfl⟩
              have c1 := (HS.out.2.2.2.cell (p := ⟨b1, o1 + r, none⟩) hlt1).trans (hc1 r (by rw [H.out.2.2.1]; exact hrn))
              have c2 := (HS.out.2.2.2.cell (p := ⟨b2, o2 + s, none⟩) hlt2).trans (hc2 s (by rw [H.out.2.2.2]; exact hsm))
              rw [hx] at c1
              rw [hy] at c2
              have X : Hid (el xs r = x ∧ el ys s = y) := ⟨hx, hy⟩
              have t1 := HS.out.2.2.1.cell hri hri
              have t2 := HS.out.2.2.1.cell hri1 hri1
              have t3 := HS.out.2.2.1.num hri1 hri1 hsM1
              have t4 := HS.out.2.2.1.num hri1 hri1 hsM
              have t5 := HS.out.2.2.1.num hri hri hsM1
              have t6 := HS.out.2.2.1.num hri hri hsM
              have t7 := (HS.out.2.2.1.rows r hri hri).frozen s
              rw [HS.out.2.1 (r + 1) (s + 1) hri1 hsM1 (by omega)] at t3
              rw [HS.out.2.1 (r + 1) s hri1 hsM (by omega)] at t4
              rw [HS.out.2.1 r (s + 1) hri hsM1 (by omega)] at t5
              have l1 := Lat_le xs ys (r + 1) (s + 1)
              rw [H.out.2.2.1] at l1
              obtain ⟨p1, hp1⟩ : ∃ p, Lat xs ys (r + 1) (s + 1) = p := ⟨_, rfl⟩
              obtain ⟨p2, hp2⟩ : ∃ p, Lat xs ys (r + 1) s = p := ⟨_, rfl⟩
              obtain ⟨p3, hp3⟩ : ∃ p, Lat xs ys r (s + 1) = p := ⟨_, rfl⟩
              obtain ⟨p4, hp4⟩ : ∃ p, T r s = p := ⟨_, rfl⟩
              rw [hp1] at t3 l1
              rw [hp2] at t4
              rw [hp3] at t5
              rw [hp4] at t6
              have PP : Hid (Lat xs ys (r + 1) (s + 1) = p1 ∧ Lat xs ys (r + 1) s = p2 ∧ Lat xs ys r (s + 1) = p3) := ⟨hp1, hp2, hp3⟩
              clear hx hy hc1 hc2 hp1 hp2 hp3 hp4
              obtain ⟨G0, hG0⟩ : ∃ G0, R r = G0 := ⟨_, rfl⟩
              obtain ⟨G1, hG1⟩ : ∃ G1, R (r + 1) = G1 := ⟨_, rfl⟩
              have RR : Hid (R r = G0 ∧ R (r + 1) = G1) := ⟨hG0, hG1⟩
              rw [hG0] at t1 t5 t6 t7
              rw [hG1] at t2 t3 t4
              clear hG0 hG1
              cases hxy : x == y with
              | true =>
                go_wp2_with fail
                go_quiet (fail)
                go_wp2_with fail
                go_big_region
                go_wp2
                go_roundg s
                case measure => have := KS.out; omega
                case rel =>
                  obtain ⟨U, u1, u2, u3⟩ := HS.out.2.2.1.fill (q := nq + 1) (z := (p1 : Int) + 1) HS.out.2.2.2 (Nat.le_refl _) hri RR.out.1 (by rw [Lat_same (by rw [H.out.2.2.1]; exact hrn) (by rw [H.out.2.2.2]; exact hsm) (by rw [X.out.1, X.out.2]; simpa using hxy), PP.out.1]; omega) HS.out.2.1
                  exact ⟨s, U, by go_num, rfl, by omega, u1, u2, u3⟩
              | false =>
                have hmx : (Lat xs ys r s : Int) = max (p2 : Int) (p3 : Int) := by
                  rw [Lat_skip (by rw [H.out.2.2.1]; exact hrn) (by rw [H.out.2.2.2]; exact hsm) (by rw [X.out.1, X.out.2]; simpa using hxy), PP.out.2.1, PP.out.2.2]; omega
                by_cases hcmp : p2 < p3
                · have MX : Hid ((p3 : Int) = (Lat xs ys r s : Int)) := by show (p3 : Int) = _; omega
                  clear hmx
                  go_wp2_with fail
                  go_quiet (fail)
                  go_wp2_with fail
                  go_big_region
                  go_wp2
                  go_roundg s
                  case measure => have := KS.out; omega
                  case rel =>
                    obtain ⟨U, u1, u2, u3⟩ := HS.out.2.2.1.fill (q := nq + 1) HS.out.2.2.2 (Nat.le_refl _) hri RR.out.1 MX.out HS.out.2.1
                    exact ⟨s, U, by go_num, rfl, by omega, u1, u2, u3⟩
                · have MX : Hid ((p2 : Int) = (Lat xs ys r s : Int)) := by show (p2 : Int) = _; omega
                  clear hmx
                  go_wp2_with fail
                  go_quiet (fail)
                  go_wp2_with fail
                  go_big_region
                  go_wp2
                  go_roundg s
                  case measure => have := KS.out; omega
                  case rel =>
                    obtain ⟨U, u1, u2, u3⟩ := HS.out.2.2.1.fill (q := nq + 1) HS.out.2.2.2 (Nat.le_refl _) hri RR.out.1 MX.out HS.out.2.1
                    exact ⟨s, U, by go_num, rfl, by omega, u1, u2, u3⟩

end Go.Proofs.Ytmblkkmfbgngdaa
