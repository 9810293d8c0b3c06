/-
  The law FilterAsks, walked: of whatever bytes, text and number it returns true, and what was there when it was called is as it was.
-/
import Derived.Test.YtkoelofjgceohaaXAwake
import Derived.Test.YtkoelofjgceohaaXRef
namespace Go.Proofs.Ytkoelofjgceohaa
open Go.RowKit

/-- A world that has grown, and in which the bytes are read. -/
def AskS (W : World) (v : Value) (f : Bs) (u : World) : Prop := Below W.heap.size W u ∧ BAt u v f

theorem AskS.below {W u u' : World} {v : Value} {f : Bs} (h : AskS W v f u) (hb : Below u.heap.size u u') : AskS W v f u' := ⟨h.1.trans (hb.mono h.1.size), h.2.below hb⟩

theorem bits_class {W : World} {ao : Option Addr} {n c : Nat} {f : Bs} (hl : f.length = n) (hn : n ≤ 1000000000000000) (z : Int) (hz : fbits f = z) (u : SW (AskS W (.slice ao n c) f)) :
    Calls Try.prog 16 #[.slice ao n c] u.w fun e w' => e = .returned (.int .i64 z) ∧ ∃ u' : SW (AskS W (.slice ao n c) f), w' = u'.w := by
  refine (bits_any u.w u.ok.2 hl hn z hz).mono ?_
  rintro e w' ⟨rfl, rfl⟩
  exact ⟨rfl, u, rfl⟩
theorem rbits_class {W : World} {v : Value} {f : Bs} (hn : f.length ≤ 1000000000000000) (z : Int) (hz : fbits f = z) (u : SW (AskS W v f)) :
    Calls Try.prog 17 #[tx f] u.w fun e w' => e = .returned (.int .i64 z) ∧ ∃ u' : SW (AskS W v f), w' = u'.w := by
  refine (rbits_any ⟨f.toArray⟩ (by rw [bsize]; exact hn) z hz u.w).mono ?_
  rintro e w' ⟨rfl, rfl⟩
  exact ⟨rfl, u, rfl⟩
theorem maybe_class {W : World} {ao : Option Addr} {n c : Nat} {f : Bs} (p : Bs) (hl : f.length = n) (hn : n ≤ 1000000000000000) (hp : p.length ≤ 9223372036854775807) (g : Bool) (hg : fmaybe f p = g) (u : SW (AskS W (.slice ao n c) f)) :
    Calls Try.prog 13 #[.slice ao n c, tx p] u.w fun e w' => e = .returned (.bool g) ∧ ∃ u' : SW (AskS W (.slice ao n c) f), w' = u'.w := by
  refine (maybe_any p u.w u.ok.2 hl hn hp g hg).mono ?_
  rintro e w' ⟨rfl, hb⟩
  exact ⟨rfl, ⟨w', u.ok.below hb⟩, rfl⟩
theorem rmaybe_class {W : World} {v : Value} {f : Bs} (p : Bs) (hn : f.length ≤ 1000000000000000) (hp : p.length ≤ 9223372036854775807) (g : Bool) (hg : fmaybe f p = g) (u : SW (AskS W v f)) :
    Calls Try.prog 18 #[tx f, tx p] u.w fun e w' => e = .returned (.bool g) ∧ ∃ u' : SW (AskS W v f), w' = u'.w := by
  refine (rmaybe_any ⟨f.toArray⟩ (by rw [bsize]; exact hn) p hp g hg u.w).mono ?_
  rintro e w' ⟨rfl, hb⟩
  exact ⟨rfl, ⟨w', u.ok.below hb⟩, rfl⟩

set_option maxHeartbeats 4000000 in
set_option maxRecDepth 100000 in
theorem asks_walk (ao : Option Addr) (n c : Nat) (f p : Bs) (m : Int) (W : World) (hA : BAt W (.slice ao n c) f) (hl : f.length = n) (hn : n ≤ 140737488355328) (hp : p.length ≤ 9223372036854775807) (hm : m ≤ 9223372036854775807) :
    Calls Try.prog 5 #[.slice ao n c, tx p, .int .i64 m] W fun e w' => e = .returned (.bool true) ∧ Below W.heap.size W w' := by
  have H : Hid (BAt W (.slice ao n c) f ∧ f.length = n) := ⟨hA, hl⟩
  clear hA hl
  obtain ⟨ps, hps⟩ : ∃ ps, poss p m = ps := ⟨_, rfl⟩
  have hpo := fun w => positions_any p m hm hp w
  have hrp := fun w => rpositions_any p m hm hp w
  have hp3 := poss_le p m
  rw [hps] at hpo hrp hp3
  clear hps
  obtain ⟨pn, hpn⟩ : ∃ pn, ps.length = pn := ⟨_, rfl⟩
  rw [hpn] at hp3
  have PN : Hid (ps.length = pn) := hpn
  clear hpn
  go_enter Try.func5, Try.ntmps5
  go_wp2_with fail
  refine (awake_walk _).mono ?_
  rintro e w1 ⟨rfl, B1⟩
  have G1 : Hid (Below W.heap.size W w1) := B1
  clear B1
  go_wp2_with fail
  refine (hpo _).mono ?_
  rintro e w2 ⟨v2, rfl, O2, B2⟩
  obtain ⟨a2, c2, rfl, _, _, R2, _⟩ := O2.form
  rw [PN.out]
  have G2 : Hid (Below W.heap.size W w2 ∧ RdG encI w2 a2 ps) := ⟨G1.out.trans (B2.mono G1.out.size), R2⟩
  clear O2 B2 R2 G1 hpo
  go_wp2_with fail
  refine (hrp _).mono ?_
  rintro e w3 ⟨v3, rfl, O3, B3⟩
  obtain ⟨a3, c3, rfl, _, _, R3, _⟩ := O3.form
  rw [PN.out]
  have G3 : Hid (Below W.heap.size W w3 ∧ RdG encI w3 a2 ps ∧ RdG encI w3 a3 ps ∧ BAt w3 (.slice ao n c) f) := ⟨G2.out.1.trans (B3.mono G2.out.1.size), G2.out.2.below B3, R3, (H.out.1.below G2.out.1).below B3⟩
  clear O3 B3 R3 G2 hrp
  obtain ⟨z, hz⟩ : ∃ z, fbits f = z := ⟨_, rfl⟩
  obtain ⟨g, hg⟩ : ∃ g, fmaybe f p = g := ⟨_, rfl⟩
  have h1 := fun u => bits_class (W := w3) (ao := ao) (c := c) H.out.2 (by omega) z hz u
  have h2 := fun u => rbits_class (W := w3) (v := .slice ao n c) (f := f) (by rw [H.out.2]; omega) z hz u
  have h3 := fun u => maybe_class (W := w3) (ao := ao) (c := c) p H.out.2 (by omega) hp g hg u
  have h4 := fun u => rmaybe_class (W := w3) (v := .slice ao n c) (f := f) p (by rw [H.out.2]; omega) hp g hg u
  have hcv : ∀ u : SW (AskS w3 (.slice ao n c) f), (convert 25 9 (.slice ao n c)).run Try.prog u.w = .ok (tx f) u.w := fun u => conv_str u.ok.2
  have NE : Nonempty (SW (AskS w3 (.slice ao n c) f)) := ⟨⟨w3, Below.refl _ _, G3.out.2.2.2⟩⟩
  clear hz hg
  go_wp2_with fail
  refine wp_region_class (S := AskS w3 (.slice ao n c) f) (by kernel_rfl) (by kernel_rfl) ⟨(Below.refl _ w3).drew, G3.out.2.2.2.below (Below.refl _ w3).drew⟩ ?_
  repeat (go_big_quiet_step (first | with_reducible exact h1 _ | with_reducible exact h2 _ | with_reducible exact h3 _ | with_reducible exact h4 _))
  refine wpQuiet_nil ?_
  intro _ hw'
  obtain ⟨u, hw''⟩ := hw'
  subst hw''
  have B5 : Hid (Below w3.heap.size w3 u.w) := u.ok.1
  obtain ⟨w5, hw5⟩ : ∃ w5, w5 = u.w := ⟨_, rfl⟩
  rw [← hw5] at B5 ⊢
  clear hw5 h1 h2 h3 h4 hcv NE
  have G5 : Hid (Below W.heap.size W w5 ∧ RdG encI w5 a2 ps ∧ RdG encI w5 a3 ps) := ⟨G3.out.1.trans (B5.out.mono G3.out.1.size), G3.out.2.1.below B5.out, G3.out.2.2.1.below B5.out⟩
  go_wp2_with fail
  go_loopg [9] pn (fun k v wr => ∃ i : Nat, v = .int .i64 i ∧ i + k = pn ∧ Hid (Below w5.heap.size w5 wr))
  case atStart => exact ⟨0, rfl, by omega, Below.refl _ _⟩
  case round =>
    obtain ⟨i, rfl, hi, HR⟩ := hrel
    by_cases hin : i < pn
    · have id : (i : Int) < (pn : Int) := by omega
      obtain ⟨y, hy⟩ := get_some PN.out hin
      obtain ⟨b2, o2, rfl, _⟩ := G5.out.2.1.some_of hy
      obtain ⟨b3, o3, rfl, _⟩ := G5.out.2.2.some_of hy
      have c2 : wr.cell? ⟨b2, o2 + i, none⟩ = some (.int .i64 y) := (G5.out.2.1.below HR.out).ints hy
      have c3 : wr.cell? ⟨b3, o3 + i, none⟩ = some (.int .i64 y) := (G5.out.2.2.below HR.out).ints hy
      clear hy
      go_wp2_with fail
      go_quiet (fail)
      go_wp2
      go_roundg (gk - 1)
      case measure => omega
      case rel => exact ⟨i + 1, by go_num, by omega, below_drewN HR.out _⟩
    · obtain rfl : i = pn := by omega
      go_wp2
      go_ret
      exact ⟨rfl, G5.out.1.trans (HR.out.mono G5.out.1.size)⟩

end Go.Proofs.Ytkoelofjgceohaa
