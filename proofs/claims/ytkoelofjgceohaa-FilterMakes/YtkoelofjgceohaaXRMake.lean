/-
  The reference's Paths and Make, each by a contract: of at most 9000 texts, none longer than any text can be.
-/
import Derived.Test.YtkoelofjgceohaaXRef
import Derived.Test.YtkoelofjgceohaaXMake
import Derived.Test.YtkoelofjgceohaaPRSort
import Derived.Test.YtkoelofjgceohaaPRParts
namespace Go.Proofs.Ytkoelofjgceohaa
open Go.RowKit

theorem srt_snoc (l : List Bs) (s : Bs) : srt (l ++ [s]) = withB (srt l) s := by
  rw [srt, List.foldl_append]
  rfl

theorem parts_yes {p : Bs} (h : isPath p = true) : 0 < (parts p).length := by
  rw [parts, if_pos h, List.length_append]
  simp

set_option maxHeartbeats 1600000 in
set_option maxRecDepth 100000 in
/-- The reference's Paths. -/
theorem rpaths_any {ao : Option Addr} {c n : Nat} {ch : List Bs} (w : World) (ha : Rd w ao ch) (hl : ch.length = n) (hn : n ≤ 9000) :
    Calls Try.prog 19 #[.slice ao n c] w fun e w' => ∃ ao' c', e = .returned (.tuple #[.slice ao' (fpaths ch).length c', .int .i64 (fcount ch : Int)]) ∧ Rd w' ao' (fpaths ch) ∧ Below w.heap.size w w' := by
  have H : Hid (Rd w ao ch ∧ ch.length = n) := ⟨ha, hl⟩
  clear ha hl
  go_enter Try.func19, Try.ntmps19
  go_wp2_with fail
  go_loopg [4, 5, 6] n (fun k rv av v wr => ∃ (i : Nat) (ar : Option Addr) (rn rc : Nat) (aa : Option Addr) (an ac : Nat), v = .int .i64 i ∧ rv = .slice ar rn rc ∧ av = .slice aa an ac ∧ i + k = n ∧
    Hid ((srt ((ch.take i).filter isPath)).length = rn ∧ Rd wr ar (srt ((ch.take i).filter isPath)) ∧ (srt ((ch.take i).flatMap parts)).length = an ∧ Rd wr aa (srt ((ch.take i).flatMap parts)) ∧ Below w.heap.size w wr))
  case atStart => exact ⟨0, none, 0, 0, none, 0, 0, rfl, rfl, rfl, by omega, rfl, Rd.nil _ _, rfl, Rd.nil _ _, Below.refl _ _⟩
  case round =>
    obtain ⟨i, ar, rn, rc, aa, an, ac, rfl, rfl, rfl, hi, HR⟩ := hrel
    obtain ⟨go, hgo⟩ : ∃ go, go = gk := ⟨_, rfl⟩
    rw [← hgo] at hi
    have GO : Hid (go = gk) := hgo
    clear hgo
    by_cases hin : i < n
    · have id : (i : Int) < (n : Int) := by omega
      obtain ⟨b, off, rfl, hlt, hc⟩ := H.out.1 (by rw [H.out.2]; omega)
      obtain ⟨x, hx⟩ : ∃ x, el ch i = x := ⟨_, rfl⟩
      have c0 := hc i (by rw [H.out.2]; omega)
      rw [hx] at c0
      have c1 : wr.cell? ⟨b, off + i, none⟩ = some (.string ⟨x.toArray⟩) := (HR.out.2.2.2.2.cell hlt).trans c0
      have CX : Hid (w.cell? ⟨b, off + i, none⟩ = some (.string ⟨x.toArray⟩)) := c0
      have hs1 := filter_snoc (l := ch) (i := i) (by rw [H.out.2]; exact hin) isPath
      have hs2 := flat_snoc (l := ch) (i := i) (by rw [H.out.2]; exact hin) parts
      rw [hx] at hs1 hs2
      have hl1 : rn ≤ 9000 := by
        rw [← HR.out.1]
        have h1 := srt_len ((ch.take i).filter isPath)
        have h2 := List.length_filter_le isPath (ch.take i)
        have h3 := List.length_take_le i ch
        omega
      have hl2 : ((ch.take i).flatMap parts).length ≤ 927000 := by
        have h1 := flat_parts_len (ch.take i)
        have h2 := List.length_take_le i ch
        omega
      obtain ⟨fs, hfs⟩ : ∃ fs, (ch.take i).filter isPath = fs := ⟨_, rfl⟩
      obtain ⟨ds, hds⟩ : ∃ ds, (ch.take i).flatMap parts = ds := ⟨_, rfl⟩
      rw [hfs] at HR hs1
      rw [hds] at HR hs2 hl2
      have hpa := rparts_any ⟨x.toArray⟩ wr
      have hpl := parts_len x
      have hgy : isPath x = true → 0 < (parts x).length := parts_yes
      have hgn : isPath x = false → parts x = [] := parts_no
      obtain ⟨g, hg⟩ : ∃ g, isPath x = g := ⟨_, rfl⟩
      rw [hg] at hs1 hgy hgn
      have ST : Hid ((ch.take (i + 1)).filter isPath = fs ++ (if g then [x] else []) ∧ (ch.take (i + 1)).flatMap parts = ds ++ parts x) := ⟨hs1, hs2⟩
      have epx : parts (⟨x.toArray⟩ : ByteArray).data.toList = parts x := rfl
      rw [epx] at hpa
      obtain ⟨qs, hqs⟩ : ∃ qs, parts x = qs := ⟨_, rfl⟩
      rw [hqs] at hpa hpl hgy hgn ST
      clear hc c0 hx hs1 hs2 hfs hds hg epx hqs
      go_wp2_with fail
      refine hpa.mono ?_
      rintro e w2 ⟨v2, rfl, O2, B2⟩
      obtain ⟨a2, c2, rfl, _, _, R2⟩ := O2.form
      obtain ⟨qn, hqn⟩ : ∃ qn, qs.length = qn := ⟨_, rfl⟩
      rw [hqn] at hpl hgy ⊢
      have G2 : Hid (Rd w2 a2 qs ∧ qs.length = qn ∧ Rd w2 ar (srt fs) ∧ Rd w2 aa (srt ds) ∧ Below w.heap.size w w2) := ⟨R2, hqn, HR.out.2.1.below B2, HR.out.2.2.2.1.below B2, HR.out.2.2.2.2.trans (B2.mono HR.out.2.2.2.2.size)⟩
      have c2' : w2.cell? ⟨b, off + i, none⟩ = some (.string ⟨x.toArray⟩) := (G2.out.2.2.2.2.cell hlt).trans CX.out
      clear O2 B2 R2 hpa hqn
      go_upto_if 22 with fail
      go_cut [4] (fun rv u => ∃ (ar3 : Option Addr) (rn3 rc3 : Nat), rv = .slice ar3 rn3 rc3 ∧ Hid (Rd u a2 qs ∧ qs.length = qn ∧ Rd u ar3 (srt (fs ++ if g then [x] else [])) ∧ (srt (fs ++ if g then [x] else [])).length = rn3 ∧ Rd u aa (srt ds) ∧ (srt ds).length = an ∧ Below w.heap.size w u))
      case first =>
        cases g with
        | true =>
          have hq0 := hgy rfl
          have hq0' : (0 : Int) < (qn : Int) := by omega
          have hwi := with_any (c := rc) x w2 G2.out.2.2.1 HR.out.1 (by omega)
          rw [← srt_snoc] at hwi
          go_wp2_with fail
          refine hwi.mono ?_
          rintro e w3 ⟨ar3, rc3, rfl, R3, B3⟩
          have G3 : Hid (Rd w3 a2 qs ∧ qs.length = qn ∧ Rd w3 ar3 (srt (fs ++ [x])) ∧ Rd w3 aa (srt ds) ∧ (srt ds).length = an ∧ Below w.heap.size w w3) := ⟨G2.out.1.below B3, G2.out.2.1, R3, G2.out.2.2.2.1.below B3, HR.out.2.2.1, G2.out.2.2.2.2.trans (B3.mono G2.out.2.2.2.2.size)⟩
          clear hwi R3 B3 c1 c2' hgy hgn
          go_wp2_with fail
          go_meet
          exact ⟨ar3, _, rc3, rfl, G3.out.1, G3.out.2.1, G3.out.2.2.1, rfl, G3.out.2.2.2⟩
        | false =>
          have hq0 := hgn rfl
          have hq1 := G2.out.2.1
          rw [hq0] at hq1
          have hq2 : qn = 0 := hq1.symm
          subst hq2
          clear hq1
          go_wp2_with fail
          go_meet
          exact ⟨ar, rn, rc, rfl, G2.out.1, G2.out.2.1, by simpa using G2.out.2.2.1, by simpa using HR.out.1, G2.out.2.2.2.1, HR.out.2.2.1, G2.out.2.2.2.2⟩
      case rest =>
        obtain ⟨ar3, rn3, rc3, rfl, G3⟩ := hcut
        clear c1 c2' hgy hgn
        go_wp2_with fail
        go_loopg [5, 8] qn (fun k av v wr => ∃ (j : Nat) (aa4 : Option Addr) (an4 ac4 : Nat), v = .int .i64 j ∧ av = .slice aa4 an4 ac4 ∧ j + k = qn ∧ Hid ((srt (ds ++ qs.take j)).length = an4 ∧ Rd wr aa4 (srt (ds ++ qs.take j)) ∧ Below wc.heap.size wc wr))
        case atStart => exact ⟨0, aa, an, ac, rfl, rfl, by omega, by simpa using G3.out.2.2.2.2.2.1, by simpa using G3.out.2.2.2.2.1, Below.refl _ _⟩
        case round =>
          obtain ⟨j, aa4, an4, ac4, rfl, rfl, hj, HJ⟩ := hrel
          by_cases hjn : j < qn
          · have jd : (j : Int) < (qn : Int) := by omega
            obtain ⟨b2, o2, rfl, hlt2, hc2⟩ := G3.out.1 (by rw [G3.out.2.1]; omega)
            obtain ⟨y, hy⟩ : ∃ y, el qs j = y := ⟨_, rfl⟩
            have cy := hc2 j (by rw [G3.out.2.1]; omega)
            rw [hy] at cy
            have cy2 : wr.cell? ⟨b2, o2 + j, none⟩ = some (.string ⟨y.toArray⟩) := (HJ.out.2.2.cell hlt2).trans cy
            have hst : qs.take (j + 1) = qs.take j ++ [y] := by
              have hj2 : j < qs.length := by rw [G3.out.2.1]; exact hjn
              rw [List.take_succ_eq_append_getElem hj2, ← hy, el_get hj2]
            have hal : an4 ≤ 927103 := by
              rw [← HJ.out.1]
              have h1 := srt_len (ds ++ qs.take j)
              have h2 := List.length_take_le j qs
              rw [List.length_append] at h1
              omega
            have hwi := with_any (c := ac4) y wr HJ.out.2.1 HJ.out.1 (by omega)
            rw [← srt_snoc, List.append_assoc, ← hst] at hwi
            clear hc2 cy hy hst
            go_wp2_with fail
            refine hwi.mono ?_
            rintro e w5 ⟨aa5, ac5, rfl, R5, B5⟩
            have G5 : Hid (Rd w5 aa5 (srt (ds ++ qs.take (j + 1))) ∧ Below wc.heap.size wc w5) := ⟨R5, HJ.out.2.2.trans (B5.mono HJ.out.2.2.size)⟩
            clear R5 B5 hwi
            go_wp2
            go_roundg (gk - 1)
            case measure => omega
            case rel => exact ⟨j + 1, aa5, _, ac5, by go_num, rfl, by omega, rfl, G5.out.1, G5.out.2⟩
          · obtain rfl : j = qn := by omega
            have e : qs.take j = qs := List.take_of_length_le (by rw [G3.out.2.1]; omega)
            rw [e] at HJ
            clear e
            go_wp2
            go_roundg (go - 1)
            case measure => have := GO.out; omega
            case rel =>
              refine ⟨i + 1, ar3, rn3, rc3, aa4, an4, ac4, by go_num, rfl, rfl, by omega, ?_⟩
              rw [ST.out.1, ST.out.2]
              exact ⟨G3.out.2.2.2.1, G3.out.2.2.1.below HJ.out.2.2, HJ.out.1, HJ.out.2.1, G3.out.2.2.2.2.2.2.trans (HJ.out.2.2.mono G3.out.2.2.2.2.2.2.size)⟩
    · obtain rfl : i = n := by omega
      have e : ch.take i = ch := List.take_of_length_le (by rw [H.out.2]; omega)
      rw [e] at HR
      clear e
      go_wp2
      refine bodyPost_ret (results_tmp2 rfl _ _ _) rfl ?_
      refine ⟨aa, ac, ?_, HR.out.2.2.2.1, HR.out.2.2.2.2⟩
      have h1 := HR.out.1
      have h2 := HR.out.2.2.1
      unfold fpaths fcount
      rw [h1, h2]
      rfl

/-- A byte made from its highest bit on, s bits of it. -/
def hor (f : Nat → Bool) : Nat → Nat
  | 0 => 0
  | s + 1 => 2 * hor f s + (f (7 - s)).toNat
theorem hor_lt (f : Nat → Bool) : ∀ s, hor f s < 2 ^ s
  | 0 => by simp [hor]
  | s + 1 => by
    have := hor_lt f s
    have h : (f (7 - s)).toNat ≤ 1 := Bool.toNat_le _
    rw [hor, Nat.pow_succ]
    omega
theorem hor_all (f : Nat → Bool) : hor f 8 = bitsOf f := by
  simp only [hor, bitsOf, Nat.reduceSub, Nat.sub_zero]
  omega
theorem hor_small (f : Nat → Bool) {s : Nat} (hs : s < 8) : hor f s < 128 := by
  have h1 := hor_lt f s
  have h2 : 2 ^ s ≤ 2 ^ 7 := Nat.pow_le_pow_right (by decide) (by omega)
  omega

theorem byte_cells (y : UInt8) (u : Int) (h : (y.toNat : Int) = u) : (#[Value.int .u8 u] : Array Value) = (encB.cells y).toArray := by
  rw [← h]
  rfl

set_option maxHeartbeats 400000 in
theorem rmake_wide {ao : Option Addr} {c n : Nat} {ch : List Bs} (w : World) (ha : Rd w ao ch) (hl : ch.length = n) (hn : n ≤ 9000) (hc : 8 < fcount ch) :
    Calls Try.prog 11 #[.slice ao n c] w fun e w' => e = .returned (tx [2]) ∧ Below w.heap.size w w' := by
  have hpa := rpaths_any (c := c) w ha hl hn
  obtain ⟨qs, hqs⟩ : ∃ qs, fpaths ch = qs := ⟨_, rfl⟩
  obtain ⟨pn, hpn⟩ : ∃ pn, fcount ch = pn := ⟨_, rfl⟩
  rw [hqs, hpn] at hpa
  rw [hpn] at hc
  have hc' : (8 : Int) < (pn : Int) := by omega
  clear ha hl hqs hpn
  go_enter Try.func11, Try.ntmps11
  go_wp2_with fail
  refine hpa.mono ?_
  rintro e w1 ⟨a1, c1, rfl, _, B1⟩
  have G : Hid (Below w.heap.size w w1) := B1
  have hcv := conv_str (bat_lit w1 [2] 5 (0, 0) #[.int .u8 2] rfl 1 rfl (by decide))
  clear B1 hpa
  go_wp2
  go_ret
  exact ⟨rfl, G.out.trans ((bz1 w1 _).mono G.out.size)⟩

set_option maxHeartbeats 1600000 in
set_option maxRecDepth 100000 in
theorem rmake_few {ao : Option Addr} {c n : Nat} {ch : List Bs} (w : World) (ha : Rd w ao ch) (hl : ch.length = n) (hn : n ≤ 9000) (hc : ¬ 8 < fcount ch) :
    Calls Try.prog 11 #[.slice ao n c] w fun e w' => e = .returned (tx (1 :: fbytes (fones ch) (nby (fpaths ch).length))) ∧ Below w.heap.size w w' := by
  have hpa := rpaths_any (c := c) w ha hl hn
  have hfl := fpaths_len ch
  have hqx : ∀ x ∈ fpaths ch, x.length ≤ 9223372036854775807 := by
    intro x h
    obtain ⟨p, _, h2⟩ := List.mem_flatMap.1 ((mem_srt _ _).1 h)
    have := part_short h2
    omega
  unfold fones
  obtain ⟨qs, hqs⟩ : ∃ qs, fpaths ch = qs := ⟨_, rfl⟩
  obtain ⟨pn, hpn⟩ : ∃ pn, fcount ch = pn := ⟨_, rfl⟩
  rw [hqs, hpn] at hpa hfl
  rw [hpn] at hc
  rw [hqs] at hqx ⊢
  obtain ⟨qn, hqn⟩ : ∃ qn, qs.length = qn := ⟨_, rfl⟩
  rw [hqn] at hfl hpa ⊢
  obtain ⟨nb, hnb⟩ : ∃ nb, nby qn = nb := ⟨_, rfl⟩
  have hnb2 : (12 * qn < 8 → 8 * nb = 8) ∧ (¬ 12 * qn < 8 → 12 * qn ≤ 8 * nb ∧ 8 * nb < 12 * qn + 8) := by
    rw [← hnb]
    unfold nby
    omega
  rw [hnb]
  obtain ⟨M, hM⟩ : ∃ M, 8 * nb = M := ⟨_, rfl⟩
  have eM : 8 * (nb : Int) = (M : Int) := by omega
  rw [eM]
  rw [hM] at hnb2
  have MM : Hid (8 * nb = M) := hM
  have hM2 : M ≤ 100000 := by omega
  have hc' : ¬ (8 : Int) < (pn : Int) := by omega
  have L : Hid (qs.length = qn ∧ ∀ x ∈ qs, x.length ≤ 9223372036854775807) := ⟨hqn, hqx⟩
  have N2 : Hid ((12 * qn < 8 → M = 8) ∧ (¬ 12 * qn < 8 → 12 * qn ≤ M ∧ M < 12 * qn + 8)) := hnb2
  clear ha hl hqs hpn hqx hqn hnb hM eM hnb2
  go_enter Try.func11, Try.ntmps11
  go_wp2_with fail
  refine hpa.mono ?_
  rintro e w1 ⟨a1, c1, rfl, R1, B1⟩
  have G : Hid (Rd w1 a1 qs ∧ Below w.heap.size w w1) := ⟨R1, B1⟩
  clear R1 B1 hpa
  go_upto_if 24 with fail
  go_cut [5] (fun mv u => u = w1 ∧ ∃ m0 : Nat, mv = .int .i64 (m0 : Int) ∧ m0 ≤ M ∧ M < m0 + 8)
  case first =>
    by_cases h8 : 12 * qn < 8
    · have h8' : 12 * (qn : Int) < 8 := by omega
      go_wp2_with fail
      go_meet
      have := N2.out.1 h8
      exact ⟨rfl, 8, rfl, by omega, by omega⟩
    · have h8' : ¬ 12 * (qn : Int) < 8 := by omega
      go_wp2_with fail
      go_meet
      have := N2.out.2 h8
      exact ⟨rfl, 12 * qn, by go_num, by omega, by omega⟩
  case rest =>
    obtain ⟨hw, m0, rfl, h1, h2⟩ := hcut
    have hw' := hw.symm
    subst hw'
    clear hw
    go_wp2_with fail
    go_loopg [5] (M - m0) (fun t mv wr => wr = w1 ∧ ∃ m : Nat, mv = .int .i64 (m : Int) ∧ m + t = M ∧ t < 8)
    case atStart => exact ⟨rfl, m0, rfl, by omega, by omega⟩
    case round =>
      obtain ⟨hw, m, rfl, h3, h4⟩ := hrel
      have hw' := hw.symm
      subst hw'
      clear hw h1 h2
      have hmul : M % 8 = 0 := by have := MM.out; omega
      by_cases h0 : m % 8 = 0
      · have h0' : (m : Int) % 8 = 0 := by omega
        obtain rfl : m = M := by omega
        have h00 : ((m : Int) % 8 != 0) = false := by simp [h0']
        have hse := rset_any (c := c1) (m : Int) (by omega) w1 G.out.1 L.out.1 (by omega) L.out.2
        obtain ⟨ones, hon⟩ : ∃ ones, (qs.flatMap fun p => poss p (m : Int)) = ones := ⟨_, rfl⟩
        have hol : ones.length ≤ 3 * qn := by
          rw [← hon, ← L.out.1]
          have := xflat_len (fun p => poss p (m : Int)) 3 (fun p => poss_le p _) qs qs.length
          rwa [List.take_length] at this
        rw [hon] at hse
        have ON : Hid ((qs.flatMap fun p => poss p (m : Int)) = ones) := hon
        clear hon h4 h3 hmul h0 N2
        go_wp2_with fail
        refine hse.mono ?_
        rintro e w3 ⟨v3, rfl, O3, B3⟩
        obtain ⟨a3, c3, rfl, _, _, R3, _⟩ := O3.form
        obtain ⟨zn, hzn⟩ : ∃ zn, ones.length = zn := ⟨_, rfl⟩
        rw [hzn] at hol ⊢
        have G3 : Hid (RdG encI w3 a3 ones ∧ ones.length = zn ∧ Below w.heap.size w w3) := ⟨R3, hzn, G.out.2.trans (B3.mono G.out.2.size)⟩
        have O4 : Hid (OwnG encB 5 (w3.alloc (.cells #[.int .u8 1] 5)) w3.heap.size (.slice (some ⟨w3.heap.size, 0, none⟩) 1 1) [1] ∧ Below w3.heap.size w3 (w3.alloc (.cells #[.int .u8 1] 5))) := ⟨World.ownsRow_lit w3 #[.int .u8 1] 1 (Nat.le_refl _) (by decide) rfl, bz1 _ _⟩
        clear hse O3 B3 R3 hzn
        go_wp2_with fail
        go_loopg [7, 8] nb (fun t ov v wr => ∃ (j A : Nat), v = .int .i64 (A : Int) ∧ j + t = nb ∧ Hid (A = 8 * j) ∧ Hid (OwnG encB 5 wr w3.heap.size ov (1 :: (fbytes ones nb).take j) ∧ Below w3.heap.size w3 wr))
        case atStart => exact ⟨0, 0, rfl, by omega, rfl, O4.out⟩
        case round =>
          obtain ⟨j, A, rfl, hj, AJ, HR⟩ := hrel
          obtain ⟨go, hgo⟩ : ∃ go, go = gk := ⟨_, rfl⟩
          rw [← hgo] at hj
          have GO : Hid (go = gk) := hgo
          clear hgo
          obtain ⟨wo, hwo⟩ : ∃ wo, wo = wr := ⟨_, rfl⟩
          subst hwo
          by_cases hjn : j < nb
          · have jd : (A : Int) < (m : Int) := by have := AJ.out; have := MM.out; omega
            obtain ⟨f, hf⟩ : ∃ f : Nat → Bool, (fun k => ones.contains ((8 * j + k : Nat) : Int)) = f := ⟨_, rfl⟩
            have F : Hid (∀ k, ones.contains ((8 * j + k : Nat) : Int) = f k) := fun k => by rw [← hf]
            have FB : Hid (((fbyte ones j).toNat : Int) = (bitsOf f : Int)) := by show _ = _; rw [fbyte_nat, hf]
            clear hf
            go_wp2_with fail
            go_loopg [9, 10] 8 (fun t bv v wx => wx = wo ∧ ∃ s : Nat, s + t = 8 ∧ v = .int .i64 ((t : Int) - 1) ∧ bv = .int .u8 ((hor f s : Nat) : Int))
            case atStart => exact ⟨rfl, 0, rfl, rfl, rfl⟩
            case round =>
              obtain ⟨hw, s, hs, rfl, rfl⟩ := hrel
              have hw' := hw.symm
              subst hw'
              clear hw
              cases gk with
              | zero =>
                have hs8 : s = 8 := by omega
                subst hs8
                rw [hor_all]
                have hfl8 : (fbytes ones nb)[j]? = some (fbyte ones j) := fbytes_get _ hjn
                have hbl := bitsOf_lt f
                obtain ⟨u, hu⟩ : ∃ u : Int, (bitsOf f : Int) = u := ⟨_, rfl⟩
                rw [hu] at FB ⊢
                have S8 : Hid ((fbytes ones nb).take (j + 1) = (fbytes ones nb).take j ++ [fbyte ones j] ∧ ((fbytes ones nb).take j).length ≤ 20000) := ⟨xtake_snoc hfl8, by rw [List.length_take, fbytes_len]; have := MM.out; omega⟩
                clear hfl8 hu hbl
                have AJ2 : Hid (A + 8 = 8 * (j + 1)) := by show _ = _; have := AJ.out; omega
                go_wp2_with (at_builtin; refine appG_one encB 5 25 1 (.int .u8 0) rfl Try.info5 Try.underlying25 rfl (.tmp 52) (.tmp 54) rfl w3.heap.size _ (1 :: (fbytes ones nb).take j) (fbyte ones j) _ rfl HR.out.1 rfl (by rw [List.length_cons]; have := S8.out.2; omega) (by rw [List.length_cons]; have := S8.out.2; simp only [maxLen]; omega) HR.out.2.size _ (byte_cells _ _ FB.out) ?_; intro v4 w4 hown4 hbel4 _ _)
                go_roundg (go - 1)
                case measure => have := GO.out; omega
                case rel => exact ⟨j + 1, A + 8, by go_num, by omega, AJ2.out, by rw [S8.out.1]; exact hown4, HR.out.2.trans hbel4⟩
              | succ r =>
                have er : ((r + 1 : Nat) : Int) - 1 = (r : Int) := by omega
                rw [er]
                have hs8 : s < 8 := by omega
                have hsm := hor_small f hs8
                obtain ⟨h, hh⟩ : ∃ h, hor f s = h := ⟨_, rfl⟩
                have HH : Hid (hor f s = h ∧ 7 - s = r) := ⟨hh, by omega⟩
                rw [hh] at hsm ⊢
                have hha := has_any11 (c := c3) ((A : Int) + (r : Int)) wo (G3.out.1.below HR.out.2) G3.out.2.1 (by omega) (f r) (by rw [← F.out r]; congr 1; have := AJ.out; omega)
                obtain ⟨fr, hfr⟩ : ∃ fr, f r = fr := ⟨_, rfl⟩
                have FR : Hid (f r = fr) := hfr
                rw [hfr] at hha
                have hAm : A ≤ 100000 := by omega
                clear hh er hfr
                go_wp2_with fail
                refine hha.mono ?_
                rintro e w5 ⟨rfl, hw5⟩
                have hw5' := hw5.symm
                subst hw5'
                clear hw5 hha
                cases fr with
                | true =>
                  go_wp2
                  go_roundg r
                  case measure => omega
                  case rel => exact ⟨rfl, s + 1, by omega, by go_num, by rw [hor, HH.out.1, HH.out.2, FR.out]; go_num⟩
                | false =>
                  go_wp2
                  go_roundg r
                  case measure => omega
                  case rel => exact ⟨rfl, s + 1, by omega, by go_num, by rw [hor, HH.out.1, HH.out.2, FR.out]; go_num⟩
          · obtain rfl : j = nb := by omega
            have jd : ¬ (A : Int) < (m : Int) := by have := AJ.out; have := MM.out; omega
            have et : (fbytes ones j).take j = fbytes ones j := List.take_of_length_le (by rw [fbytes_len]; omega)
            rw [et] at HR
            obtain ⟨K, hK⟩ : ∃ K, 1 :: fbytes ones j = K := ⟨_, rfl⟩
            rw [hK] at HR
            have KK : Hid (1 :: fbytes ones j = K) := hK
            clear et hK
            obtain ⟨a7, c7, rfl, _, _, _, _⟩ := HR.out.1.form
            obtain ⟨kn, hkn⟩ : ∃ kn, K.length = kn := ⟨_, rfl⟩
            have hcv := conv_str (OwnB.at (HR.out.1.low (Nat.zero_le _)))
            rw [hkn] at hcv ⊢
            clear hkn
            go_wp2
            go_ret
            refine ⟨?_, G3.out.2.2.trans (HR.out.2.mono G3.out.2.2.size)⟩
            rw [ON.out, KK.out]
            rfl
      · have h0' : ((m : Int) % 8 != 0) = true := by simp; omega
        have h0'' : ((m : Int) % 8 == 0) = false := by simp; omega
        go_wp2
        go_roundg (gk - 1)
        case measure => omega
        case rel => exact ⟨rfl, m + 1, by go_num, by omega, by omega⟩

/-- The reference's Make. -/
theorem rmake_any {ao : Option Addr} {c n : Nat} {ch : List Bs} (w : World) (ha : Rd w ao ch) (hl : ch.length = n) (hn : n ≤ 9000) :
    Calls Try.prog 11 #[.slice ao n c] w fun e w' => e = .returned (tx (fmake ch)) ∧ Below w.heap.size w w' := by
  by_cases h : 8 < fcount ch
  · rw [fmake, if_pos h]
    exact rmake_wide w ha hl hn h
  · rw [fmake, if_neg h]
    exact rmake_few w ha hl hn h

end Go.Proofs.Ytkoelofjgceohaa
