/-
  The law DiffMatches, walked: of whatever two lists it returns true, and what was there when it was called is as it was.
-/
import Derived.Test.YtmblkkmfbgngdaaAll
import Derived.Test.YtmblkkmfbgngdaaHSame
import Derived.Test.YtmblkkmfbgngdaaAwake
namespace Go.Proofs.Ytmblkkmfbgngdaa
open Go.RowKit

set_option maxHeartbeats 3200000 in
set_option maxRecDepth 100000 in
theorem matches_walk (ao bo : Option Addr) (n c m d : Nat) (xs ys : List Bs) (W : World) (hl : xs.length = n) (hk : ys.length = m) (hc : n ≤ c) (hd : m ≤ d) (ha : Rd W ao xs) (hb : Rd W bo ys) :
    Calls Try.prog 3 #[.slice ao n c, .slice bo m d] W fun e w' => e = .returned (.bool true) ∧ Below W.heap.size W w' := by
  obtain ⟨P, hP⟩ : ∃ P, mAns xs ys = P := ⟨_, rfl⟩
  obtain ⟨Hs, hH⟩ : ∃ Hs, hAns xs ys = Hs := ⟨_, rfl⟩
  obtain ⟨ee, he⟩ : ∃ ee, eAns xs ys = ee := ⟨_, rfl⟩
  have k1 : ∀ w, Rd w ao xs → Rd w bo ys → _ := fun w h1 h2 => match_all (c := c) (d := d) w h1 h2 hl hk P hP ee he
  have k2 : ∀ w, Rd w ao xs → Rd w bo ys → _ := fun w h1 h2 => rmatch_all (c := c) (d := d) w h1 h2 hl hk P hP ee he
  have k3 : ∀ w, Rd w ao xs → Rd w bo ys → _ := fun w h1 h2 => hunks_all (c := c) (d := d) w h1 h2 hl hk hc hd Hs hH ee he
  have k4 : ∀ w, Rd w ao xs → Rd w bo ys → _ := fun w h1 h2 => rhunks_all (c := c) (d := d) w h1 h2 hl hk hc hd Hs hH ee he
  have hPl : P.length ≤ 256 := by rw [← hP]; exact mAns_len xs ys
  have hHl : Hs.length ≤ 257 := by rw [← hH]; exact hAns_len xs ys
  have HL : Hid (∀ h ∈ Hs, h.gone.length ≤ 4000000000000000000 ∧ h.new.length ≤ 4000000000000000000) := by
    intro h hm
    rw [← hH] at hm
    have := hAns_low xs ys h hm
    omega
  have H : Hid (Rd W ao xs ∧ Rd W bo ys) := ⟨ha, hb⟩
  clear hl hk hc hd ha hb hP hH he
  go_enter Try.func3, Try.ntmps3
  go_wp2_with fail
  refine (awake_any _).mono ?_
  rintro e w1 ⟨rfl, hb1⟩
  have B1 : Hid (Below W.heap.size W w1) := hb1
  clear hb1
  go_wp2_with fail
  refine (k1 w1 (H.out.1.below B1.out) (H.out.2.below B1.out)).mono ?_
  rintro e w2 ⟨v2, rfl, ho2, hb2⟩
  obtain ⟨a2, c2, rfl, _, _, R2, _⟩ := ho2.form
  have B2 : Hid (Below W.heap.size W w2 ∧ RdG encP w2 a2 P) := ⟨B1.out.trans (hb2.mono B1.out.size), R2⟩
  clear k1 ho2 hb2 R2 B1
  go_wp2_with fail
  refine (k2 w2 (H.out.1.below B2.out.1) (H.out.2.below B2.out.1)).mono ?_
  rintro e w3 ⟨v3, rfl, ho3, hb3⟩
  obtain ⟨a3, c3, rfl, _, _, R3, _⟩ := ho3.form
  have B3 : Hid (Below W.heap.size W w3 ∧ RdG encP w3 a2 P ∧ RdG encP w3 a3 P) := ⟨B2.out.1.trans (hb3.mono B2.out.1.size), B2.out.2.below hb3, R3⟩
  clear k2 ho3 hb3 R3 B2
  go_wp2_with fail
  refine (k3 w3 (H.out.1.below B3.out.1) (H.out.2.below B3.out.1)).mono ?_
  rintro e w4 ⟨v4, vs4, rfl, ho4, hk4, hb4⟩
  obtain ⟨a4, c4, rfl, _, _, R4, _⟩ := ho4.form
  rw [hk4.len]
  have B4 : Hid (Below W.heap.size W w4 ∧ RdG encP w4 a2 P ∧ RdG encP w4 a3 P ∧ RdG encH w4 a4 vs4 ∧ Hks w4 vs4 Hs) := ⟨B3.out.1.trans (hb4.mono B3.out.1.size), B3.out.2.1.below hb4, B3.out.2.2.below hb4, R4, hk4⟩
  clear k3 ho4 hb4 R4 B3 hk4
  go_wp2_with fail
  refine (k4 w4 (H.out.1.below B4.out.1) (H.out.2.below B4.out.1)).mono ?_
  rintro e w5 ⟨v5, vs5, rfl, ho5, hk5, hb5⟩
  obtain ⟨a5, c5, rfl, _, _, R5, _⟩ := ho5.form
  rw [hk5.len]
  have B5 : Hid (Below W.heap.size W w5 ∧ RdG encP w5 a2 P ∧ RdG encP w5 a3 P ∧ RdG encH w5 a4 vs4 ∧ Hks w5 vs4 Hs ∧ RdG encH w5 a5 vs5 ∧ Hks w5 vs5 Hs) := ⟨B4.out.1.trans (hb5.mono B4.out.1.size), B4.out.2.1.below hb5, B4.out.2.2.1.below hb5, B4.out.2.2.2.1.below hb5, B4.out.2.2.2.2.below hb5, R5, hk5⟩
  clear k4 ho5 hb5 R5 B4 hk5
  obtain ⟨K, hK⟩ : ∃ K, Hs.length = K := ⟨_, rfl⟩
  obtain ⟨q, hq⟩ : ∃ q, P.length = q := ⟨_, rfl⟩
  rw [hK, hq]
  have hK2 : K ≤ 257 := by omega
  have hq2 : q ≤ 256 := by omega
  have KQ : Hid (Hs.length = K ∧ P.length = q) := ⟨hK, hq⟩
  clear hK hq hPl hHl
  go_wp2_with fail
  refine (hsame_any (c := c4) (d := c5) w5 B5.out.2.2.2.1 B5.out.2.2.2.2.2.1 B5.out.2.2.2.2.1 B5.out.2.2.2.2.2.2 KQ.out.1 (by omega) HL.out).mono ?_
  rintro e w6 ⟨rfl, q6, rfl⟩
  have B6 : Hid (Below W.heap.size W (w5.drewN q6) ∧ RdG encP (w5.drewN q6) a2 P ∧ RdG encP (w5.drewN q6) a3 P) := ⟨below_drewN B5.out.1 q6, B5.out.2.1.below (below_drewN (Below.refl _ _) q6), B5.out.2.2.1.below (below_drewN (Below.refl _ _) q6)⟩
  obtain ⟨w7, hw7⟩ : ∃ w7, w7 = w5.drewN q6 := ⟨_, rfl⟩
  rw [← hw7] at B6 ⊢
  clear hw7 B5
  go_wp2_with fail
  go_loopg [13] q (fun k iv wr => ∃ i m : Nat, iv = .int .i64 i ∧ i + k = q ∧ wr = w7.drewN m)
  case atStart => exact ⟨0, 0, rfl, by omega, rfl⟩
  case round =>
    obtain ⟨i, m', rfl, hi, rfl⟩ := hrel
    by_cases hin : i < q
    · have id : (i : Int) < (q : Int) := by omega
      obtain ⟨⟨x, y⟩, hx⟩ : ∃ e, P[i]? = some e := ⟨_, List.getElem?_eq_getElem (by rw [KQ.out.2]; exact hin)⟩
      obtain ⟨b1, o1, rfl, hlt1⟩ := B6.out.2.1.some_of hx
      obtain ⟨b2, o2, rfl, hlt2⟩ := B6.out.2.2.some_of hx
      obtain ⟨c1, c2⟩ := B6.out.2.1.pairs hx
      obtain ⟨d1, d2⟩ := B6.out.2.2.pairs hx
      clear hx
      simp only at c1 c2 d1 d2
      go_wp2_with fail
      go_quiet (fail)
      go_wp2
      go_roundg (gk - 1)
      case measure => omega
      case rel => exact ⟨i + 1, _, by go_num, by omega, rfl⟩
    · obtain rfl : i = q := by omega
      go_wp2
      go_ret
      exact ⟨rfl, below_drewN B6.out.1 _⟩

end Go.Proofs.Ytmblkkmfbgngdaa
