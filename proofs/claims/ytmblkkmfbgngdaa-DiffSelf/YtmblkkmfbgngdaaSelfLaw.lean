/-
  The law DiffSelf, walked: of whatever list it returns true, and what was there when it was called is as it was. At most 2^43 lines.
-/
import Derived.Test.YtmblkkmfbgngdaaAll
import Derived.Test.YtmblkkmfbgngdaaAwake
namespace Go.Proofs.Ytmblkkmfbgngdaa
open Go.RowKit

theorem self_hunks {xs : List Bs} : hAns xs xs = [] := by
  unfold hAns
  split
  · rfl
  · exact hunks_self xs

/-- The hunks of a list and none, by how many lines it has. -/
theorem gone_hunks {xs : List Bs} (h : xs.length ≤ 256) (h0 : xs ≠ []) : hAns xs [] = [⟨0, 0, xs, []⟩] := by
  unfold hAns
  rw [if_neg (by simp; omega), hunks_gone, if_neg h0]
theorem new_hunks {xs : List Bs} (h : xs.length ≤ 256) (h0 : xs ≠ []) : hAns [] xs = [⟨0, 0, [], xs⟩] := by
  unfold hAns
  rw [if_neg (by simp; omega), hunks_new, if_neg h0]

set_option maxHeartbeats 3200000 in
set_option maxRecDepth 100000 in
theorem self_walk (ao : Option Addr) (n c : Nat) (xs : List Bs) (W : World) (hl : xs.length = n) (hc : n ≤ c) (hn : n ≤ 8796093022208) (ha : Rd W ao xs) :
    Calls Try.prog 7 #[.slice ao n c] W fun e w' => e = .returned (.bool true) ∧ Below W.heap.size W w' := by
  obtain ⟨G, hG⟩ : ∃ G, hAns xs [] = G := ⟨_, rfl⟩
  obtain ⟨N, hN⟩ : ∃ N, hAns [] xs = N := ⟨_, rfl⟩
  obtain ⟨ee, he⟩ : ∃ ee, eAns xs xs = ee := ⟨_, rfl⟩
  have he1 : eAns xs [] = ee := by rw [← he]; unfold eAns; simp
  have he2 : eAns [] xs = ee := by rw [← he]; unfold eAns; simp
  have k1 : ∀ w a' c', Rd w ao xs → Rd w a' xs → n ≤ c' → _ := fun w a' c' h1 h2 h3 => hunks_all (c := c) (bo := a') (d := c') w h1 h2 hl hl hc h3 [] self_hunks ee he
  have k2 : ∀ w, Rd w ao xs → _ := fun w h1 => hunks_all (c := c) (bo := none) (d := 0) (m := 0) w h1 (Rd.nil w none) hl rfl hc (Nat.le_refl _) G hG ee he1
  have k3 : ∀ w, Rd w ao xs → _ := fun w h1 => hunks_all (ao := none) (c := 0) (n := 0) (bo := ao) (d := c) w (Rd.nil w none) h1 rfl hl (Nat.le_refl _) hc N hN ee he2
  have H : Hid (Rd W ao xs ∧ xs.length = n ∧ n ≤ c ∧ hAns xs [] = G ∧ hAns [] xs = N ∧ eAns xs xs = ee) := ⟨ha, hl, hc, hG, hN, he⟩
  clear ha hl hc hG hN he he1 he2
  go_enter Try.func7, Try.ntmps7
  go_wp2_with fail
  refine (awake_any _).mono ?_
  rintro e w1 ⟨rfl, hb1⟩
  have B1 : Hid (Below W.heap.size W w1) := hb1
  clear hb1
  go_wp2_with (at_builtin; refine app_list rfl (.tmp 13) (.tmp 14) rfl w1.heap.size _ [] xs ao n c rfl (own_zero w1 _ (Nat.le_refl _)) rfl ((H.out.1.below B1.out).below ((Below.refl _ w1).alloc (Nat.le_refl _) _)) H.out.2.1 (by simp; omega) (by simp) ?_; intro v2 w2 hown2 hbel2; rw [List.nil_append] at hown2; obtain ⟨a2, c2, e2, hc2, _, R2⟩ := hown2.form; rw [H.out.2.1] at e2; subst e2)
  have B2 : Hid (Below W.heap.size W w2 ∧ Rd w2 a2 xs ∧ n ≤ c2) := ⟨B1.out.trans ((((Below.refl _ w1).alloc (Nat.le_refl _) _).trans hbel2).mono B1.out.size), R2, by rw [H.out.2.1] at hc2; exact hc2⟩
  clear hown2 hbel2 R2 hc2 B1
  refine (k1 w2 a2 c2 (H.out.1.below B2.out.1) B2.out.2.1 B2.out.2.2).mono ?_
  rintro e w3 ⟨v3, vs3, rfl, ho3, hk3, hb3⟩
  obtain ⟨a3, c3, rfl, _, _, R3, _⟩ := ho3.form
  have e3 : vs3.length = 0 := by rw [hk3.len]; rfl
  rw [e3]
  have B3 : Hid (Below W.heap.size W w3) := B2.out.1.trans (hb3.mono B2.out.1.size)
  clear k1 ho3 hk3 hb3 R3 e3 B2
  go_wp2_with fail
  refine (k2 w3 (H.out.1.below B3.out)).mono ?_
  rintro e w4 ⟨v4, vs4, rfl, ho4, hk4, hb4⟩
  obtain ⟨a4, c4, rfl, _, _, R4, _⟩ := ho4.form
  rw [hk4.len]
  have B4 : Hid (Below W.heap.size W w4 ∧ RdG encH w4 a4 vs4 ∧ Hks w4 vs4 G) := ⟨B3.out.trans (hb4.mono B3.out.size), R4, hk4⟩
  clear k2 ho4 hk4 hb4 R4 B3
  go_wp2_with fail
  refine (k3 w4 (H.out.1.below B4.out.1)).mono ?_
  rintro e w5 ⟨v5, vs5, rfl, ho5, hk5, hb5⟩
  obtain ⟨a5, c5, rfl, _, _, R5, _⟩ := ho5.form
  rw [hk5.len]
  have B5 : Hid (Below W.heap.size W w5 ∧ RdG encH w5 a4 vs4 ∧ Hks w5 vs4 G ∧ RdG encH w5 a5 vs5 ∧ Hks w5 vs5 N) := ⟨B4.out.1.trans (hb5.mono B4.out.1.size), B4.out.2.1.below hb5, B4.out.2.2.below hb5, R5, hk5⟩
  clear k3 ho5 hk5 hb5 R5 B4
  by_cases hbig : 256 < n
  · have hb2 : (256 : Int) < (n : Int) := by omega
    obtain ⟨_, hl, _, hG, hN, he⟩ := H.out
    obtain rfl : G = [] := by rw [← hG]; unfold hAns; rw [if_pos (by left; omega)]
    obtain rfl : N = [] := by rw [← hN]; unfold hAns; rw [if_pos (by right; omega)]
    obtain rfl : ee = 4 := by rw [← he]; unfold eAns; rw [if_pos (by left; omega)]
    clear hl hG hN he
    go_wp2
    go_ret
    exact ⟨rfl, B5.out.1⟩
  · have hb2 : decide ((256 : Int) < (n : Int)) = false := decide_eq_false (by omega)
    obtain rfl : ee = 0 := by rw [← H.out.2.2.2.2.2]; unfold eAns; rw [if_neg (by have := H.out.2.1; omega)]
    by_cases h0 : n = 0
    · have hx : xs = [] := List.eq_nil_of_length_eq_zero (by rw [H.out.2.1]; exact h0)
      obtain rfl : G = [] := by rw [← H.out.2.2.2.1, hx]; unfold hAns; rw [if_neg (by simp)]; exact hunks_self []
      obtain rfl : N = [] := by rw [← H.out.2.2.2.2.1, hx]; unfold hAns; rw [if_neg (by simp)]; exact hunks_self []
      subst h0
      clear hx
      go_wp2_with fail
      go_quiet (fail)
      go_wp2
      go_ret
      exact ⟨rfl, below_drewN B5.out.1 _⟩
    · have hx : xs ≠ [] := by
        intro e
        have := H.out.2.1
        rw [e] at this
        exact h0 this.symm
      obtain rfl : G = [⟨0, 0, xs, []⟩] := by rw [← H.out.2.2.2.1]; exact gone_hunks (by have := H.out.2.1; omega) hx
      obtain rfl : N = [⟨0, 0, [], xs⟩] := by rw [← H.out.2.2.2.2.1]; exact new_hunks (by have := H.out.2.1; omega) hx
      have h0b : ((n : Int) == 0) = false := by rw [beq_eq_false_iff_ne]; omega
      have h1n : (1 : Int) ≤ (n : Int) := by omega
      obtain ⟨v, h, e1, e2, hk⟩ := B5.out.2.2.1.get (i := 0) (by simp)
      obtain rfl : _ = h := by simpa using e2
      obtain ⟨u, h', f1, f2, hk'⟩ := B5.out.2.2.2.2.get (i := 0) (by simp)
      obtain rfl : _ = h' := by simpa using f2
      obtain ⟨b, off, rfl, hlt⟩ := B5.out.2.1.some_of e1
      obtain ⟨b', off', rfl, hlt'⟩ := B5.out.2.2.2.1.some_of f1
      obtain ⟨c1, c2', c3', c4'⟩ := B5.out.2.1.hunk e1
      obtain ⟨d1, d2, d3, d4⟩ := B5.out.2.2.2.1.hunk f1
      obtain ⟨za, zb, ga, gl, gc, na, nl, nc⟩ := v
      obtain ⟨za', zb', ga', gl', gc', na', nl', nc'⟩ := u
      have q5 := hk.gl
      have q6 := hk.nl
      have q7 := hk'.gl
      have q8 := hk'.nl
      simp only [Nat.zero_mul, Nat.add_zero, List.length_nil] at q5 q6 q7 q8 c1 c2' c3' c4' d1 d2 d3 d4
      rw [H.out.2.1] at q5 q8
      subst q5 q6 q7 q8
      have s1 : ∀ q, Calls Try.prog 15 #[.slice ga n gc, .slice ao n c] (w5.drewN q) fun e w' => e = .returned (.bool true) ∧ ∃ p, w' = (w5.drewN q).drewN p := fun q =>
        same_any (w5.drewN q) (hk.rg.below (below_drewN (Below.refl _ _) _)) (H.out.1.below (below_drewN B5.out.1 q)) H.out.2.1 H.out.2.1 (by omega) true (by simp)
      have s2 : ∀ q, Calls Try.prog 15 #[.slice na' n nc', .slice ao n c] (w5.drewN q) fun e w' => e = .returned (.bool true) ∧ ∃ p, w' = (w5.drewN q).drewN p := fun q =>
        same_any (w5.drewN q) (hk'.rn.below (below_drewN (Below.refl _ _) _)) (H.out.1.below (below_drewN B5.out.1 q)) H.out.2.1 H.out.2.1 (by omega) true (by simp)
      clear e1 e2 f1 f2 hk hk' hx
      simp only [List.length_cons, List.length_nil, Nat.zero_add]
      go_upto_region 8 with fail
      go_cut [74] (fun s u => s = .bool false ∧ u = w5)
      case first =>
        by_cases hn1 : (1 : Int) < (n : Int)
        · go_wp2
          go_meet
          exact ⟨rfl, rfl⟩
        · have hn2 : (n : Int) = 1 := by omega
          go_wp2
          go_meet
          exact ⟨rfl, rfl⟩
      case rest =>
        obtain ⟨rfl, rfl⟩ := hcut
        go_wp2_with fail
        go_quiet (first | (go_at_call 15; with_reducible exact Calls.quiet_of (s1 _)) | (go_at_call 15; with_reducible exact Calls.quiet_of (s2 _)))
        go_wp2
        go_ret
        exact ⟨rfl, below_drewN B5.out.1 _⟩

end Go.Proofs.Ytmblkkmfbgngdaa
