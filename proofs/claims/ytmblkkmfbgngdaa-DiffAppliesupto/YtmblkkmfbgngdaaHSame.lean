/-
  The law's 'same' of two lists of the same hunks, by a contract: it says yes. No condition but that the texts are shorter than any list can be.
-/
import Derived.Test.YtmblkkmfbgngdaaHMem
namespace Go.Proofs.Ytmblkkmfbgngdaa
open Go.RowKit

set_option maxHeartbeats 3200000 in
set_option maxRecDepth 100000 in
theorem hsame_any {ao bo : Option Addr} {K c d : Nat} {vs us : List HV} {hs : List Hk} (w : World) (ha : RdG encH w ao vs) (hb : RdG encH w bo us) (h1 : Hks w vs hs) (h2 : Hks w us hs) (hK : hs.length = K) (hK2 : K ≤ 4000000000000000000) (hT : ∀ h ∈ hs, h.gone.length ≤ 4000000000000000000 ∧ h.new.length ≤ 4000000000000000000) :
    Calls Try.prog 13 #[.slice ao K c, .slice bo K d] w fun e w' => e = .returned (.bool true) ∧ ∃ q, w' = w.drewN q := by
  have H : Hid (RdG encH w ao vs ∧ RdG encH w bo us ∧ Hks w vs hs ∧ Hks w us hs ∧ hs.length = K ∧ ∀ h ∈ hs, h.gone.length ≤ 4000000000000000000 ∧ h.new.length ≤ 4000000000000000000) := ⟨ha, hb, h1, h2, hK, hT⟩
  clear ha hb h1 h2 hK hT
  go_enter Try.func13, Try.ntmps13
  go_wp2_with fail
  go_loopg [5] K (fun k iv wr => ∃ i m : Nat, iv = .int .i64 i ∧ i + k = K ∧ wr = w.drewN m)
  case atStart => exact ⟨0, 0, rfl, by omega, rfl⟩
  case round =>
    obtain ⟨i, m, rfl, hi, rfl⟩ := hrel
    by_cases hin : i < K
    · have id : (i : Int) < (K : Int) := by omega
      obtain ⟨v, h, e1, e2, hk⟩ := H.out.2.2.1.get (i := i) (by rw [H.out.2.2.2.2.1]; exact hin)
      obtain ⟨u, h', f1, f2, hk'⟩ := H.out.2.2.2.1.get (i := i) (by rw [H.out.2.2.2.2.1]; exact hin)
      obtain rfl : h = h' := by rw [e2] at f2; exact Option.some.inj f2
      obtain ⟨b, off, rfl, hlt⟩ := H.out.1.some_of e1
      obtain ⟨b', off', rfl, hlt'⟩ := H.out.2.1.some_of f1
      obtain ⟨c1, c2, c3, c4⟩ := H.out.1.hunk e1
      obtain ⟨d1, d2, d3, d4⟩ := H.out.2.1.hunk f1
      obtain ⟨za, zb, ga, gl, gc, na, nl, nc⟩ := v
      obtain ⟨za', zb', ga', gl', gc', na', nl', nc'⟩ := u
      obtain ⟨ya, yb, gone, new⟩ := h
      have q1 := hk.a
      have q2 := hk.b
      have q3 := hk'.a
      have q4 := hk'.b
      have q5 := hk.gl
      have q6 := hk.nl
      have q7 := hk'.gl
      have q8 := hk'.nl
      simp only at q1 q2 q3 q4 q5 q6 q7 q8 c1 c2 c3 c4 d1 d2 d3 d4
      have hlen := H.out.2.2.2.2.2 _ (List.mem_of_getElem? e2)
      simp only [q5, q6] at hlen
      have k1 : ∀ q, Calls Try.prog 15 #[.slice ga gl gc, .slice ga' gl' gc'] (w.drewN (m + q)) fun e w' => e = .returned (.bool true) ∧ ∃ p, w' = w.drewN (m + p) := fun q =>
        (same_any (w.drewN (m + q)) (hk.rg.below (below_drewN (Below.refl _ _) _)) (hk'.rg.below (below_drewN (Below.refl _ _) _)) q5 q7 hlen.1 true (by simp)).mono (by
          rintro e w' ⟨rfl, p, rfl⟩
          exact ⟨rfl, q + p, by rw [World.drewN_drewN, Nat.add_assoc]⟩)
      have k2 : ∀ q, Calls Try.prog 15 #[.slice na nl nc, .slice na' nl' nc'] (w.drewN (m + q)) fun e w' => e = .returned (.bool true) ∧ ∃ p, w' = w.drewN (m + p) := fun q =>
        (same_any (w.drewN (m + q)) (hk.rn.below (below_drewN (Below.refl _ _) _)) (hk'.rn.below (below_drewN (Below.refl _ _) _)) q6 q8 hlen.2 true (by simp)).mono (by
          rintro e w' ⟨rfl, p, rfl⟩
          exact ⟨rfl, q + p, by rw [World.drewN_drewN, Nat.add_assoc]⟩)
      subst q1 q2 q3 q4
      clear e1 e2 f1 f2 hk hk' q5 q6 q7 q8 hlen
      go_wp2_with fail
      go_quiet (first | (go_at_call 15; with_reducible exact k1 _) | (go_at_call 15; with_reducible exact k2 _))
      go_wp2
      go_roundg (gk - 1)
      case measure => omega
      case rel => exact ⟨i + 1, _, by go_num, by omega, rfl⟩
    · obtain rfl : i = K := by omega
      go_wp2
      go_ret
      exact ⟨rfl, _, rfl⟩

end Go.Proofs.Ytmblkkmfbgngdaa
