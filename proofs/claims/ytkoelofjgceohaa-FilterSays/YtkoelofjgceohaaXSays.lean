/-
  The law FilterSays, walked: of whatever list and text it returns true, and what was there when it was called is as it was.
-/
import Derived.Test.YtkoelofjgceohaaXNever
import Derived.Test.YtkoelofjgceohaaXRMake
namespace Go.Proofs.Ytkoelofjgceohaa
open Go.RowKit

theorem contains_step {l : List Int} {i : Nat} {y z : Int} (h : l[i]? = some y) : (l.take (i + 1)).contains z = ((l.take i).contains z || (y == z)) := by
  rw [xtake_snoc h, Bool.eq_iff_iff, List.contains_iff_mem, Bool.or_eq_true, List.contains_iff_mem, List.mem_append, List.mem_singleton, beq_iff_eq, eq_comm]

theorem all_step11 {l : List Int} {i : Nat} {z : Int} {g : Int → Bool} (h : l[i]? = some z) : (l.take (i + 1)).all g = ((l.take i).all g && g z) := by
  rw [xtake_snoc h, List.all_append]
  simp

set_option maxHeartbeats 4000000 in
set_option maxRecDepth 100000 in
theorem says_walk (ao : Option Addr) (n c : Nat) (ch : List Bs) (p : Bs) (W : World) (hl : ch.length = n) (hcn : n ≤ 9223372036854775807) (hin : Rd W ao ch) (hpx : ∀ x ∈ ch, x.length ≤ 9223372036854775807) (hp : p.length ≤ 9223372036854775807) :
    Calls Try.prog 6 #[.slice ao n c, tx p] W fun e w' => e = .returned (.bool true) ∧ Below W.heap.size W w' := by
  have H : Hid (ch.length = n ∧ Rd W ao ch ∧ ∀ x ∈ ch, x.length ≤ 9223372036854775807) := ⟨hl, hin, hpx⟩
  clear hl hin hpx
  by_cases hf : n ≤ 200
  · have hfw := few_any (ao := ao) (c := c) hcn true (by simpa using hf)
    have hqx : ∀ x ∈ fpaths ch, x.length ≤ 9223372036854775807 := by
      intro x h
      obtain ⟨q, _, h2⟩ := List.mem_flatMap.1 ((mem_srt _ _).1 h)
      have := part_short h2
      omega
    have hfl := fpaths_len ch
    have hfm := fmake_len ch
    have hfc : fcount ch ≤ 200 := by
      unfold fcount
      have h1 := srt_len (ch.filter isPath)
      have h2 := List.length_filter_le isPath ch
      have := H.out.1
      omega
    have hmw : 8 < fcount ch → fmake ch = [2] := fun h => by rw [fmake, if_pos h]
    have hmb : ¬ 8 < fcount ch → fbits (fmake ch) = 8 * ((nby (fpaths ch).length : Nat) : Int) := fun h => by rw [fmake, if_neg h, fbits_made]
    have hmm : ¬ 8 < fcount ch → fmaybe (fmake ch) p = (poss p (8 * ((nby (fpaths ch).length : Nat) : Int))).all (fones ch).contains := fun h => fmaybe_made ch p h
    have hn1 := nby_pos (fpaths ch).length
    have hn2 : nby (fpaths ch).length ≤ 12 * (fpaths ch).length + 8 := by unfold nby; omega
    unfold fones at hmm
    have hrp := fun w h => rpaths_any (ao := ao) (c := c) (n := n) (ch := ch) w h H.out.1 (by omega)
    have hmk := fun w h => make_any (ao := ao) (c := c) (n := n) (ch := ch) w h H.out.1 (by omega) H.out.2.2
    obtain ⟨qs, hqs⟩ : ∃ qs, fpaths ch = qs := ⟨_, rfl⟩
    obtain ⟨fc, hfc2⟩ : ∃ fc, fcount ch = fc := ⟨_, rfl⟩
    obtain ⟨F, hF⟩ : ∃ F, fmake ch = F := ⟨_, rfl⟩
    rw [hqs, hfc2] at hrp hfl
    rw [hqs] at hqx hmb hmm hn1 hn2
    rw [hfc2] at hfc hmw hmb hmm
    rw [hF] at hmk hfm hmw hmb hmm
    clear hqs hfc2 hF
    obtain ⟨qn, hqn⟩ : ∃ qn, qs.length = qn := ⟨_, rfl⟩
    obtain ⟨fn, hfn⟩ : ∃ fn, F.length = fn := ⟨_, rfl⟩
    rw [hqn] at hrp hfl hmb hmm hn1 hn2
    rw [hfn] at hfm
    have hf2 : fn ≤ 1000000 := by have : 1 + nby (103 * 8) ≤ 1000000 := by decide
                                  omega
    have L : Hid (qs.length = qn ∧ F.length = fn ∧ ∀ x ∈ qs, x.length ≤ 9223372036854775807) := ⟨hqn, hfn, hqx⟩
    clear hqn hfn hqx hfm
    go_enter Try.func6, Try.ntmps6
    go_wp2_with fail
    refine (awake_walk _).mono ?_
    rintro e w1 ⟨rfl, B1⟩
    have G1 : Hid (Below W.heap.size W w1) := B1
    clear B1
    go_wp2_with fail
    refine (hfw _).mono ?_
    rintro e w' ⟨rfl, hw'⟩
    have hw'' := hw'.symm
    subst hw''
    clear hw' hfw
    have hrp1 := hrp w1 (H.out.2.1.below G1.out)
    clear hrp
    go_wp2_with fail
    refine hrp1.mono ?_
    rintro e w2 ⟨a2, c2, rfl, R2, B2⟩
    have G2 : Hid (Below W.heap.size W w2 ∧ Rd w2 a2 qs) := ⟨G1.out.trans (B2.mono G1.out.size), R2⟩
    clear R2 B2 hrp1
    have hmk2 := hmk w2 (H.out.2.1.below G2.out.1)
    clear hmk
    go_wp2_with fail
    refine hmk2.mono ?_
    rintro e w3 ⟨v3, rfl, O3, B3⟩
    have A3 := OwnB.at (OwnG.low O3 (Nat.zero_le _))
    obtain ⟨a3, c3, rfl, _, _, _, _⟩ := O3.form
    rw [L.out.2.1] at A3 ⊢
    have G3 : Hid (Below W.heap.size W w3 ∧ Rd w3 a2 qs ∧ BAt w3 (.slice a3 fn c3) F) := ⟨G2.out.1.trans (B3.mono G2.out.1.size), G2.out.2.below B3, A3⟩
    clear O3 B3 A3 hmk2
    by_cases hwd : 8 < fc
    · have hwd' : (8 : Int) < (fc : Int) := by omega
      have e2 := hmw hwd
      have l2 := L.out.2.1
      rw [e2] at l2
      have l1 : fn = 1 := l2.symm
      subst l1
      obtain ⟨b, off, x, rfl, _, hx, c0⟩ := G3.out.2.2.first (by decide)
      rw [e2] at hx
      have ex : x = 2 := (Option.some.inj hx).symm
      subst ex
      have c1 : w3.cell? ⟨b, off, none⟩ = some (.int .u8 2) := c0
      have hma := maybe_any (c := c3) p w3 G3.out.2.2 L.out.2.1 (by decide) hp true (by rw [e2]; exact fmaybe_wide p)
      clear hx c0 e2 l2
      go_wp2_with fail
      refine hma.mono ?_
      rintro e w4 ⟨rfl, B4⟩
      have G4 : Hid (Below W.heap.size W w4) := G3.out.1.trans (B4.mono G3.out.1.size)
      clear B4 hma
      go_wp2
      go_ret
      exact ⟨rfl, G4.out⟩
    · have hwd' : ¬ (8 : Int) < (fc : Int) := by omega
      have eb := hmb hwd
      have em := hmm hwd
      obtain ⟨M, hM⟩ : ∃ M : Int, 8 * ((nby qn : Nat) : Int) = M := ⟨_, rfl⟩
      have hM1 : 1 ≤ M := by omega
      have hM2 : M ≤ 1000000 := by omega
      rw [hM] at eb em
      obtain ⟨ones, hon⟩ : ∃ ones, (qs.flatMap fun p => poss p M) = ones := ⟨_, rfl⟩
      have hse := fun w h => rset_any (ao := a2) (c := c2) (n := qn) (ps := qs) M (by omega) w h L.out.1 (by omega) L.out.2.2
      have hol : ones.length ≤ 3 * qn := by
        rw [← hon, ← L.out.1]
        have := xflat_len (fun p => poss p M) 3 (fun p => poss_le p _) qs qs.length
        rwa [List.take_length] at this
      rw [hon] at hse em
      have hbi := fun w h => bits_any (ao := a3) (c := c3) w h L.out.2.1 (by omega) M eb
      have hpo := fun w => positions_any p M (by omega) hp w
      have hp3 := poss_len (p := p) hM1
      obtain ⟨ps, hps⟩ : ∃ ps, poss p M = ps := ⟨_, rfl⟩
      rw [hps] at hpo hp3 em
      have EM : Hid (fmaybe F p = ps.all ones.contains) := em
      clear hon hM hps em eb hmw hmb hmm hn1 hn2
      have hbi3 := hbi w3 G3.out.2.2
      go_wp2_with fail
      refine hbi3.mono ?_
      rintro e w' ⟨rfl, hw'⟩
      have hw'' := hw'.symm
      subst hw''
      clear hw' hbi3
      have hse3 := hse w3 G3.out.2.1
      clear hse
      go_wp2_with fail
      refine hse3.mono ?_
      rintro e w4 ⟨v4, rfl, O4, B4⟩
      obtain ⟨a4, c4, rfl, _, _, R4, _⟩ := O4.form
      obtain ⟨zn, hzn⟩ : ∃ zn, ones.length = zn := ⟨_, rfl⟩
      rw [hzn] at hol ⊢
      have G4 : Hid (Below W.heap.size W w4 ∧ RdG encI w4 a4 ones ∧ ones.length = zn ∧ BAt w4 (.slice a3 fn c3) F) := ⟨G3.out.1.trans (B4.mono G3.out.1.size), R4, hzn, G3.out.2.2.below B4⟩
      clear O4 B4 R4 hzn hse3
      have hbi4 := hbi w4 G4.out.2.2.2
      clear hbi
      go_wp2_with fail
      refine hbi4.mono ?_
      rintro e w' ⟨rfl, hw'⟩
      have hw'' := hw'.symm
      subst hw''
      clear hw' hbi4
      go_wp2_with fail
      refine (hpo _).mono ?_
      rintro e w5 ⟨v5, rfl, O5, B5⟩
      obtain ⟨a5, c5, rfl, _, _, R5, _⟩ := O5.form
      rw [hp3]
      have G5 : Hid (Below W.heap.size W w5 ∧ RdG encI w5 a4 ones ∧ ones.length = zn ∧ BAt w5 (.slice a3 fn c3) F ∧ RdG encI w5 a5 ps ∧ ps.length = 3) := ⟨G4.out.1.trans (B5.mono G4.out.1.size), G4.out.2.1.below B5, G4.out.2.2.1, G4.out.2.2.2.below B5, R5, hp3⟩
      clear O5 B5 R5 hpo hp3
      go_wp2_with fail
      go_loopg [9, 11] 3 (fun k wv v wr => ∃ (i : Nat) (wt : Bool), v = .int .i64 i ∧ wv = .bool wt ∧ i + k = 3 ∧ Hid (wt = (ps.take i).all ones.contains ∧ Below w5.heap.size w5 wr))
      case atStart => exact ⟨0, true, rfl, rfl, by omega, rfl, Below.refl _ _⟩
      case round =>
        obtain ⟨i, wt, rfl, rfl, hi, HR⟩ := hrel
        obtain ⟨go, hgo⟩ : ∃ go, go = gk := ⟨_, rfl⟩
        rw [← hgo] at hi
        have GO : Hid (go = gk) := hgo
        clear hgo
        obtain ⟨wo, hwo⟩ : ∃ wo, wo = wr := ⟨_, rfl⟩
        subst hwo
        by_cases hi3 : i < 3
        · have id : (i : Int) < 3 := by omega
          obtain ⟨z, hz⟩ := get_some G5.out.2.2.2.2.2 hi3
          obtain ⟨b5, o5, rfl, _⟩ := G5.out.2.2.2.2.1.some_of hz
          have hst := all_step11 (g := ones.contains) hz
          rw [← HR.out.1] at hst
          have Z : Hid (ps[i]? = some z ∧ (ps.take (i + 1)).all ones.contains = (wt && ones.contains z)) := ⟨hz, hst⟩
          clear hz hst
          go_wp2_with fail
          go_loopg [12, 13] zn (fun k fv v wr => ∃ (j : Nat) (fd : Bool), v = .int .i64 j ∧ fv = .bool fd ∧ j + k = zn ∧ Hid (fd = (ones.take j).contains z ∧ Below w5.heap.size w5 wr))
          case atStart => exact ⟨0, false, rfl, rfl, by omega, rfl, HR.out.2⟩
          case round =>
            obtain ⟨j, fd, rfl, rfl, hj, HJ⟩ := hrel
            by_cases hjn : j < zn
            · have jd : (j : Int) < (zn : Int) := by omega
              obtain ⟨y, hy⟩ := get_some G5.out.2.2.1 hjn
              obtain ⟨b4, o4, rfl, _⟩ := G5.out.2.1.some_of hy
              have cy := (G5.out.2.1.below HJ.out.2).ints hy
              have cz := (G5.out.2.2.2.2.1.below HJ.out.2).ints Z.out.1
              have hst := contains_step (z := z) hy
              rw [← HJ.out.1] at hst
              have ST : Hid _ := hst
              obtain ⟨yz, hyz⟩ : ∃ yz, (y == z) = yz := ⟨_, rfl⟩
              rw [hyz] at ST
              clear hy hst
              cases fd <;> cases yz
              all_goals
                go_wp2_with fail
                go_quiet (fail)
                go_wp2
                go_roundg (gk - 1)
                case measure => omega
                case rel => exact ⟨j + 1, _, by go_num, rfl, by omega, ST.out.symm, below_drewN HJ.out.2 _⟩
            · obtain rfl : j = zn := by omega
              have e := HJ.out.1
              rw [List.take_of_length_le (by rw [G5.out.2.2.1]; omega)] at e
              have E : Hid (fd = ones.contains z) := e
              clear e
              cases wt <;> cases fd
              all_goals
                go_wp2
                go_roundg (go - 1)
                case measure => have := GO.out; omega
                case rel => exact ⟨i + 1, _, by go_num, rfl, by omega, by rw [Z.out.2, ← E.out]; rfl, HJ.out.2⟩
        · obtain rfl : i = 3 := by omega
          have e := HR.out.1
          rw [List.take_of_length_le (by rw [G5.out.2.2.2.2.2]; omega), ← EM.out] at e
          have hma := maybe_any (c := c3) p wo (G5.out.2.2.2.1.below HR.out.2) L.out.2.1 (by omega) hp wt e.symm
          clear e
          go_wp2_with fail
          refine hma.mono ?_
          rintro e w6 ⟨rfl, B6⟩
          have G6 : Hid (Below W.heap.size W w6) := (G5.out.1.trans (HR.out.2.mono G5.out.1.size)).trans (B6.mono (Nat.le_trans G5.out.1.size HR.out.2.size))
          clear B6 hma
          cases wt
          all_goals
            go_wp2
            go_ret
            exact ⟨rfl, G6.out⟩
  · have hfw := few_any (ao := ao) (c := c) hcn false (by simpa using hf)
    go_enter Try.func6, Try.ntmps6
    go_wp2_with fail
    refine (awake_walk _).mono ?_
    rintro e w1 ⟨rfl, B1⟩
    have G1 : Hid (Below W.heap.size W w1) := B1
    clear B1
    go_wp2_with fail
    refine (hfw _).mono ?_
    rintro e w' ⟨rfl, rfl⟩
    go_wp2_with fail
    refine (awake_walk _).mono ?_
    rintro e w2 ⟨rfl, B2⟩
    have G2 : Hid (Below W.heap.size W w2) := G1.out.trans (B2.mono G1.out.size)
    clear B2
    go_wp2
    go_ret
    exact ⟨rfl, G2.out⟩

end Go.Proofs.Ytkoelofjgceohaa
