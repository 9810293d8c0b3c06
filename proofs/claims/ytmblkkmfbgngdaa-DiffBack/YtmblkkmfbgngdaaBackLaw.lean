/-
  The law DiffBack, walked: of whatever two lists it returns true, and what was there when it was called is as it was.
-/
import Derived.Test.YtmblkkmfbgngdaaAll
import Derived.Test.YtmblkkmfbgngdaaAwake
namespace Go.Proofs.Ytmblkkmfbgngdaa
open Go.RowKit

theorem tot_le {B : Nat} : ∀ hs : List Hk, (∀ h ∈ hs, h.new.length ≤ B) → tot hs ≤ hs.length * B
  | [], _ => by simp [tot]
  | h :: t, k => by
    have h1 := tot_le t (fun g hg => k g (List.mem_cons_of_mem _ hg))
    have h2 := k h (List.mem_cons_self)
    simp only [tot, List.map_cons, List.sum_cons, List.length_cons] at h1 ⊢
    rw [Nat.add_mul, Nat.one_mul]
    omega

theorem ans_back {xs ys : List Bs} (hx : xs.length ≤ 256) (hy : ys.length ≤ 256) : ans xs (hunksL xs ys) = (ys, 0) := ans_ok (by omega) (apply_back xs ys) (by omega)
theorem ans_turn {xs ys : List Bs} (hx : xs.length ≤ 256) (hy : ys.length ≤ 256) : ans ys ((hunksL xs ys).map Hk.turn) = (xs, 0) := ans_ok (by omega) (apply_turn xs ys) (by omega)

theorem hunks_len' {xs ys : List Bs} (hx : xs.length ≤ 256) : (hunksL xs ys).length ≤ 257 := by
  have h2 := hunks_len (xs := xs) (ys := ys) (endsN xs ys) 0 0
  have h3 := match_len 0 0 xs ys
  have h4 := (lcs_len xs ys).1
  rw [ends_len] at h2
  unfold hunksL
  unfold matchL at h2
  omega

set_option maxHeartbeats 3200000 in
set_option maxRecDepth 100000 in
theorem back_walk (ao bo : Option Addr) (n c m d : Nat) (xs ys : List Bs) (W : World) (hl : xs.length = n) (hk : ys.length = m) (hc : n ≤ c) (hd : m ≤ d) (ha : Rd W ao xs) (hb : Rd W bo ys) :
    Calls Try.prog 5 #[.slice ao n c, .slice bo m d] W fun e w' => e = .returned (.bool true) ∧ Below W.heap.size W w' := by
  by_cases hbig : 256 < n ∨ 256 < m
  · have k3 : ∀ w, _ := fun w => hunks_long (ao := ao) (bo := bo) (c := c) (d := d) w hbig
    clear ha hb hc hd
    go_enter Try.func5, Try.ntmps5
    go_wp2_with fail
    refine (awake_any _).mono ?_
    rintro e w1 ⟨rfl, hb1⟩
    go_wp2_with fail
    refine (k3 w1).mono ?_
    rintro e w' ⟨rfl, rfl⟩
    by_cases h1 : 256 < n
    · have h2 : decide ((256 : Int) < (n : Int)) = true := decide_eq_true (by omega)
      have h2' : (256 : Int) < (n : Int) := by omega
      clear k3 hl hk hbig
      go_wp2
      go_ret
      exact ⟨rfl, hb1⟩
    · have h2 : decide ((256 : Int) < (n : Int)) = false := decide_eq_false (by omega)
      have h3 : decide ((256 : Int) < (m : Int)) = true := decide_eq_true (by omega)
      have h3' : (256 : Int) < (m : Int) := by omega
      clear k3 hl hk hbig
      go_wp2
      go_ret
      exact ⟨rfl, hb1⟩
  · obtain ⟨Hs, hH⟩ : ∃ Hs, hunksL xs ys = Hs := ⟨_, rfl⟩
    have hn : n ≤ 256 := by omega
    have hm : m ≤ 256 := by omega
    have k3 : ∀ w, Rd w ao xs → Rd w bo ys → _ := fun w h1 h2 => hunks_any (c := c) (d := d) w h1 h2 hl hk hn hm hc hd
    rw [hH] at k3
    have hHl : Hs.length ≤ 257 := by rw [← hH]; exact hunks_len' (by omega)
    obtain ⟨K, hK⟩ : ∃ K, Hs.length = K := ⟨_, rfl⟩
    have hT1 : n + tot Hs ≤ 4000000000000000000 := by
      have := tot_le (B := 256) Hs (fun h hm => by rw [← hH] at hm; have := hunks_low _ _ _ (fit_ends xs ys) h hm; omega)
      omega
    have hT2 : m + tot (Hs.map Hk.turn) ≤ 4000000000000000000 := by
      have := tot_le (B := 256) (Hs.map Hk.turn) (fun h hm => by
        obtain ⟨g, hg, rfl⟩ := List.mem_map.1 hm
        rw [← hH] at hg
        have := hunks_low _ _ _ (fit_ends xs ys) g hg
        show g.gone.length ≤ 256
        omega)
      rw [List.length_map] at this
      omega
    have A1 : Hid (ans xs Hs = (ys, 0) ∧ ans ys (Hs.map Hk.turn) = (xs, 0) ∧ Hs.length = K ∧ (∀ h ∈ Hs, h.gone.length + h.new.length ≠ 0) ∧ n + tot Hs ≤ 4000000000000000000 ∧ m + tot (Hs.map Hk.turn) ≤ 4000000000000000000 ∧ ∀ h ∈ Hs, h.gone.length ≤ 256 ∧ h.new.length ≤ 256) := by
      refine ⟨by rw [← hH]; exact ans_back (by omega) (by omega), by rw [← hH]; exact ans_turn (by omega) (by omega), hK, by rw [← hH]; exact hunks_full' xs ys, hT1, hT2, ?_⟩
      intro h hm
      rw [← hH] at hm
      have := hunks_low _ _ _ (fit_ends xs ys) h hm
      omega
    have hK2 : K ≤ 257 := by omega
    have H : Hid (Rd W ao xs ∧ Rd W bo ys ∧ xs.length = n ∧ ys.length = m ∧ n ≤ c ∧ m ≤ d) := ⟨ha, hb, hl, hk, hc, hd⟩
    clear hl hk hc hd ha hb hH hHl hK hT1 hT2 hbig
    go_enter Try.func5, Try.ntmps5
    go_wp2_with fail
    refine (awake_any _).mono ?_
    rintro e w1 ⟨rfl, hb1⟩
    have B1 : Hid (Below W.heap.size W w1) := hb1
    clear hb1
    go_wp2_with fail
    refine (k3 w1 (H.out.1.below B1.out) (H.out.2.1.below B1.out)).mono ?_
    rintro e w4 ⟨v4, vs, rfl, ho4, hk4, hb4⟩
    obtain ⟨a4, c4, rfl, _, _, R4, _⟩ := ho4.form
    rw [hk4.len, A1.out.2.2.1]
    have B4 : Hid (Below W.heap.size W w4 ∧ RdG encH w4 a4 vs ∧ Hks w4 vs Hs) := ⟨B1.out.trans (hb4.mono B1.out.size), R4, hk4⟩
    clear k3 ho4 hb4 R4 B1 hk4
    go_wp2_with fail
    refine (apply_any (c := c) (d := c4) w4 (H.out.1.below B4.out.1) H.out.2.2.1 H.out.2.2.2.2.1 B4.out.2.1 B4.out.2.2 A1.out.2.2.1 (by omega) A1.out.2.2.2.2.1 _ _ A1.out.1).mono ?_
    rintro e w5 ⟨v5, rfl, ho5, hb5⟩
    obtain ⟨a5, c5, rfl, _, _, R5⟩ := ho5.form
    rw [H.out.2.2.2.1]
    have B5 : Hid (Below W.heap.size W w5 ∧ RdG encH w5 a4 vs ∧ Hks w5 vs Hs ∧ Rd w5 a5 ys) := ⟨B4.out.1.trans (hb5.mono B4.out.1.size), B4.out.2.1.below hb5, B4.out.2.2.below hb5, R5⟩
    clear ho5 hb5 R5 B4
    go_wp2_with fail
    go_loopg [9, 10] K (fun k ov iv wr => ∃ (i : Nat) (us : List HV), iv = .int .i64 i ∧ i + k = K ∧ Hid (us.length = i ∧ HJ 46 (fun _ => False) W w5 wr us ((Hs.take i).map Hk.turn) ov))
    case atStart => exact ⟨0, [], rfl, by omega, rfl, HJ.start B5.out.1 (fun _ q => q.elim)⟩
    case round =>
      obtain ⟨i, us, rfl, hi, HR⟩ := hrel
      by_cases hin : i < K
      · have id : (i : Int) < (K : Int) := by omega
        obtain ⟨v, h, e1, e2, hk⟩ := B5.out.2.2.1.get (i := i) (by rw [A1.out.2.2.1]; exact hin)
        obtain ⟨b, off, rfl, hlt⟩ := B5.out.2.1.some_of e1
        obtain ⟨c1, c2, c3, c4'⟩ := B5.out.2.1.hunk e1
        have hbel := HR.out.2.tur.below (B := w5.heap.size) (Nat.le_refl _) (fun k _ q => q)
        have k1 := (hbel.cell (p := ⟨b, off + i * 4, none⟩) hlt).trans c1
        have k2 := (hbel.cell (p := ⟨b, off + i * 4 + 1, none⟩) hlt).trans c2
        have k3 := (hbel.cell (p := ⟨b, off + i * 4 + 2, none⟩) hlt).trans c3
        have k4 := (hbel.cell (p := ⟨b, off + i * 4 + 3, none⟩) hlt).trans c4'
        obtain ⟨za, zb, ga, gl, gc, na, nl, nc⟩ := v
        obtain ⟨ya, yb, gone, new⟩ := h
        have q1 := hk.a
        have q2 := hk.b
        simp only at q1 q2 k1 k2 k3 k4 c1 c2 c3 c4'
        subst q1 q2
        have CC : Hid (w5.cell? ⟨b, off + i * 4, none⟩ = some (.int .i64 za) ∧ w5.cell? ⟨b, off + i * 4 + 1, none⟩ = some (.int .i64 zb) ∧ w5.cell? ⟨b, off + i * 4 + 2, none⟩ = some (.slice ga gl gc) ∧ w5.cell? ⟨b, off + i * 4 + 3, none⟩ = some (.slice na nl nc)) := ⟨c1, c2, c3, c4'⟩
        have hmem := List.mem_of_getElem? e2
        have hne := A1.out.2.2.2.1 _ hmem
        have hlo := A1.out.2.2.2.2.2.2 _ hmem
        simp only at hne hlo
        rw [hk.gl, hk.nl] at hne hlo
        simp only at hne hlo
        have X : Hid (Hs[i]? = some ⟨za, zb, gone, new⟩ ∧ HkAt w5 ⟨za, zb, ga, gl, gc, na, nl, nc⟩ ⟨za, zb, gone, new⟩ ∧ Below w5.heap.size w5 wr) := ⟨e2, hk, hbel⟩
        have TK : Hid ((Hs.take (i + 1)).map Hk.turn = (Hs.take i).map Hk.turn ++ [⟨zb, za, new, gone⟩]) := by
          show _ = _
          rw [List.take_add_one, e2, List.map_append]
          rfl
        have hz : ((gl : Int) + (nl : Int) == 0) = false := by rw [beq_eq_false_iff_ne]; omega
        have hlo1 : gl ≤ 256 := hlo.1
        have hlo2 : nl ≤ 256 := hlo.2
        have J1 : Hid (HJ 46 (fun _ => False) W w5 wr.drew us ((Hs.take i).map Hk.turn) u9) := HR.out.2.below (Below.refl _ wr).drew
        clear e1 e2 hk c1 c2 c3 c4' hbel hmem hne hlo
        go_wp2_with fail
        go_region_held3 (fun u => u.cell? ⟨b, off + i * 4, none⟩ = some (.int .i64 za) ∧ u.cell? ⟨b, off + i * 4 + 1, none⟩ = some (.int .i64 zb) ∧ u.cell? ⟨b, off + i * 4 + 2, none⟩ = some (.slice ga gl gc) ∧ u.cell? ⟨b, off + i * 4 + 3, none⟩ = some (.slice na nl nc)) (go_keep)
          (first
            | (refine stepG_at encH 46 31 64 _ rfl info46 Try.underlying31 rfl (.tmp 47) (.tmp 69) rfl w5.heap.size _ us ⟨zb, za, na, nl, nc, ga, gl, gc⟩ rfl (J1.out.own.below ((Below.refl _ wr.drew).alloc (Nat.le_refl _) _)) wr.drew.heap.size rfl (cells_new encH wr.drew ⟨zb, za, na, nl, nc, ga, gl, gc⟩ 46) (by have := HR.out.1; omega) (by have := HR.out.1; simp only [maxLen]; omega) (Nat.le_trans J1.out.tur.size (by simp)) ?_; intro v8 w8 ho8 hb8 hm8 ht8; have J8 : Hid _ := And.intro ho8 (And.intro hb8 (And.intro hm8 ht8)); clear ho8 hb8 hm8 ht8; have b8 : Below w5.heap.size w5 w8 := (X.out.2.2.trans ((Below.refl _ wr).drew.mono X.out.2.2.size)).trans (((Below.refl _ wr.drew).alloc X.out.2.2.size _).trans J8.out.2.1); have i1 := (b8.cell (p := ⟨b, off + i * 4, none⟩) hlt).trans CC.out.1; have i2 := (b8.cell (p := ⟨b, off + i * 4 + 1, none⟩) hlt).trans CC.out.2.1; have i3 := (b8.cell (p := ⟨b, off + i * 4 + 2, none⟩) hlt).trans CC.out.2.2.1; have i4 := (b8.cell (p := ⟨b, off + i * 4 + 3, none⟩) hlt).trans CC.out.2.2.2; clear b8)
            | fail)
        clear k1 k2 k3 k4
        go_wp2_with fail
        go_quiet (fail)
        go_wp2
        go_roundg (gk - 1)
        case measure => omega
        case rel =>
          have A8 := HJ.add (v := ⟨zb, za, na, nl, nc, ga, gl, gc⟩) (g := ⟨zb, za, new, gone⟩) J1.out (Below.refl _ _) ⟨rfl, rfl, X.out.2.1.nl, X.out.2.1.gl, X.out.2.1.rn.below (X.out.2.2.trans ((Below.refl _ wr).drew.mono X.out.2.2.size)), X.out.2.1.rg.below (X.out.2.2.trans ((Below.refl _ wr).drew.mono X.out.2.2.size))⟩
            (fun h0 a ha q => ?_) (fun h0 a ha q => ?_) J8.out.1 J8.out.2.2.1 J8.out.2.2.2
          · refine ⟨i + 1, us ++ [⟨zb, za, na, nl, nc, ga, gl, gc⟩], by go_num, by omega, by have := HR.out.1; simp; omega, ?_⟩
            rw [TK.out]
            exact A8.below (below_drewN (Below.refl _ _) _)
          · rcases q with q | q
            · obtain ⟨b', off', e, hlt', _⟩ := X.out.2.1.rn h0
              simp only at ha e
              rw [ha] at e
              cases e
              have h3 : w5.heap.size ≤ b' := (J1.out.own.lt _ q).1
              omega
            · exact q
          · rcases q with q | q
            · obtain ⟨b', off', e, hlt', _⟩ := X.out.2.1.rg h0
              simp only at ha e
              rw [ha] at e
              cases e
              have h3 : w5.heap.size ≤ b' := (J1.out.own.lt _ q).1
              omega
            · exact q
      · obtain rfl : i = K := by omega
        have hbel := HR.out.2.tur.below (B := w5.heap.size) (Nat.le_refl _) (fun k _ q => q)
        obtain ⟨a6, c6, rfl, _, _, R6, _⟩ := HR.out.2.own.form
        have htk : Hs.take i = Hs := List.take_of_length_le (by rw [A1.out.2.2.1]; omega)
        have G6 : Hid (us.length = i ∧ RdG encH wr a6 us ∧ Hks wr us (Hs.map Hk.turn) ∧ Below W.heap.size W wr ∧ Rd wr a5 ys) := by
          refine ⟨HR.out.1, R6, ?_, HR.out.2.bel, B5.out.2.2.2.below hbel⟩
          have := HR.out.2.hks
          rw [htk] at this
          exact this
        rw [G6.out.1]
        clear hbel R6 htk HR
        go_wp2_with fail
        refine (apply_any (c := d) (d := c6) wr (H.out.2.1.below G6.out.2.2.2.1) H.out.2.2.2.1 H.out.2.2.2.2.2 G6.out.2.1 G6.out.2.2.1 (by rw [List.length_map]; exact A1.out.2.2.1) (by omega) A1.out.2.2.2.2.2.1 _ _ A1.out.2.1).mono ?_
        rintro e w7 ⟨v7, rfl, ho7, hb7⟩
        obtain ⟨a7, c7, rfl, _, _, R7⟩ := ho7.form
        rw [H.out.2.2.1]
        have G7 : Hid (Below W.heap.size W w7 ∧ Rd w7 a5 ys ∧ Rd w7 a7 xs) := ⟨G6.out.2.2.2.1.trans (hb7.mono G6.out.2.2.2.1.size), G6.out.2.2.2.2.below hb7, R7⟩
        clear ho7 hb7 R7 G6
        go_wp2_with fail
        refine (same_any (c := c5) (d := d) w7 G7.out.2.1 (H.out.2.1.below G7.out.1) H.out.2.2.2.1 H.out.2.2.2.1 (by omega) true (by simp)).mono ?_
        rintro e w8 ⟨rfl, q8, rfl⟩
        go_wp2_with fail
        refine (same_any (c := c7) (d := c) (w7.drewN q8) (G7.out.2.2.below (below_drewN (Below.refl _ _) q8)) (H.out.1.below (below_drewN G7.out.1 q8)) H.out.2.2.1 H.out.2.2.1 (by omega) true (by simp)).mono ?_
        rintro e w9 ⟨rfl, q9, rfl⟩
        go_wp2
        go_ret
        exact ⟨rfl, below_drewN G7.out.1 _⟩

end Go.Proofs.Ytmblkkmfbgngdaa
