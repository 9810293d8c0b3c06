/-
  filter.Make and what it calls, each by a contract: of at most 4000000 texts, none longer than any text can be.
-/
import Derived.Test.YtkoelofjgceohaaXPaths
import Derived.Test.YtkoelofjgceohaaXBits
import Derived.Test.YtkoelofjgceohaaPSort
namespace Go.Proofs.Ytkoelofjgceohaa
open Go.RowKit

set_option maxHeartbeats 800000 in
set_option maxRecDepth 100000 in
theorem unlike_any {ao : Option Addr} {c n : Nat} {ch : List Bs} (w : World) (ha : Rd w ao ch) (hl : ch.length = n) (hn : n ≤ 4000000) (hx : ∀ x ∈ ch, x.length ≤ 9223372036854775807) :
    Calls Try.prog 22 #[.slice ao n c] w fun e w' => ∃ v', e = .returned v' ∧ Own w' w.heap.size v' (srt (ch.filter isPath)) ∧ Below w.heap.size w w' := by
  have H : Hid (Rd w ao ch ∧ ch.length = n ∧ ∀ x ∈ ch, x.length ≤ 9223372036854775807) := ⟨ha, hl, hx⟩
  clear ha hl hx
  go_enter Try.func22, Try.ntmps22
  go_wp2_with fail
  go_loopg [3, 8] n (fun k ov v wr => ∃ i : Nat, v = .int .i64 i ∧ i + k = n ∧ Hid (Own wr w.heap.size ov ((ch.take i).filter isPath) ∧ Below w.heap.size w wr))
  case atStart => exact ⟨0, rfl, by omega, Own.nil _ _, Below.refl _ _⟩
  case round =>
    obtain ⟨i, rfl, hi, HR⟩ := hrel
    have hfl : ((ch.take i).filter isPath).length ≤ 4000000 := by
      have h1 := List.length_filter_le isPath (ch.take i)
      have h2 := List.length_take_le i ch
      omega
    by_cases hin : i < n
    · have id : (i : Int) < (n : Int) := by omega
      obtain ⟨b, off, rfl, hlt, hc⟩ := H.out.1 (by rw [H.out.2.1]; omega)
      obtain ⟨x, hx⟩ : ∃ x, el ch i = x := ⟨_, rfl⟩
      have c0 := hc i (by rw [H.out.2.1]; omega)
      rw [hx] at c0
      have hxl : x.length ≤ 9223372036854775807 := by rw [← hx]; exact H.out.2.2 _ (el_mem (by rw [H.out.2.1]; exact hin))
      have c1 : wr.cell? ⟨b, off + i, none⟩ = some (.string ⟨x.toArray⟩) := (HR.out.2.cell hlt).trans c0
      obtain ⟨g, hg⟩ : ∃ g, isPath x = g := ⟨_, rfl⟩
      have hst := filter_snoc (l := ch) (i := i) (by rw [H.out.2.1]; exact hin) isPath
      rw [hx, hg] at hst
      have ST : Hid _ := hst
      have hck := pcheck_at ⟨x.toArray⟩ (by rw [bsize]; exact hxl) g hg
      have FL : Hid (((ch.take i).filter isPath).length ≤ 4000000) := hfl
      clear hc c0 hx hst hg hfl
      go_wp2_with fail
      refine (hck _).mono ?_
      rintro e w2 ⟨rfl, m, rfl⟩
      clear hck
      cases g with
      | true =>
        rw [show err true = 0 from rfl]
        go_wp2_with (at_builtin; refine app_one rfl (.tmp 15) (.tmp 17) rfl w.heap.size _ ((ch.take i).filter isPath) x _ rfl (HR.out.1.below (below_drewN (Below.refl _ _) m)) rfl FL.out HR.out.2.size ?_; intro v4 w4 hown4 hbel4)
        go_roundg (gk - 1)
        case measure => omega
        case rel => exact ⟨i + 1, by go_num, by omega, by rw [ST.out]; exact hown4, (below_drewN HR.out.2 m).trans hbel4⟩
      | false =>
        rw [show err false = 2 from rfl]
        go_wp2
        go_roundg (gk - 1)
        case measure => omega
        case rel => exact ⟨i + 1, by go_num, by omega, by rw [ST.out]; simp only [Bool.false_eq_true, if_false, List.append_nil]; exact HR.out.1.below (below_drewN (Below.refl _ _) m), below_drewN HR.out.2 m⟩
    · obtain rfl : i = n := by omega
      have e : ch.take i = ch := List.take_of_length_le (by rw [H.out.2.1]; omega)
      rw [e] at HR hfl
      obtain ⟨ao1, c1, rfl, _, _, R1⟩ := HR.out.1.form
      have hs := sort_any (c := c1) wr R1 rfl (by omega)
      clear R1 e
      go_wp2_with fail
      refine hs.mono ?_
      rintro e w2 ⟨v2, rfl, ho, hb⟩
      go_wp2
      go_ret
      exact ⟨_, rfl, own_low ho HR.out.2.size, HR.out.2.trans (hb.mono HR.out.2.size)⟩

set_option maxHeartbeats 800000 in
set_option maxRecDepth 100000 in
theorem leading_any {ao : Option Addr} {c n : Nat} {ps : List Bs} (w : World) (ha : Rd w ao ps) (hl : ps.length = n) (hn : n ≤ 4000000) (hx : ∀ x ∈ ps, x.length ≤ 9223372036854775807) :
    Calls Try.prog 23 #[.slice ao n c] w fun e w' => ∃ v', e = .returned v' ∧ Own w' w.heap.size v' (srt (ps.flatMap parts)) ∧ Below w.heap.size w w' := by
  have H : Hid (Rd w ao ps ∧ ps.length = n ∧ ∀ x ∈ ps, x.length ≤ 9223372036854775807) := ⟨ha, hl, hx⟩
  clear ha hl hx
  go_enter Try.func23, Try.ntmps23
  go_wp2_with fail
  go_loopg [3, 8] n (fun k ov v wr => ∃ i : Nat, v = .int .i64 i ∧ i + k = n ∧ Hid (Own wr w.heap.size ov ((ps.take i).flatMap parts) ∧ Below w.heap.size w wr))
  case atStart => exact ⟨0, rfl, by omega, Own.nil _ _, Below.refl _ _⟩
  case round =>
    obtain ⟨i, rfl, hi, HR⟩ := hrel
    have hfl : ((ps.take i).flatMap parts).length ≤ 412000000 := by
      have h1 := flat_parts_len (ps.take i)
      have h2 := List.length_take_le i ps
      omega
    by_cases hin : i < n
    · have id : (i : Int) < (n : Int) := by omega
      obtain ⟨b, off, rfl, hlt, hc⟩ := H.out.1 (by rw [H.out.2.1]; omega)
      obtain ⟨x, hx⟩ : ∃ x, el ps i = x := ⟨_, rfl⟩
      have c0 := hc i (by rw [H.out.2.1]; omega)
      rw [hx] at c0
      have hxl : x.length ≤ 9223372036854775807 := by rw [← hx]; exact H.out.2.2 _ (el_mem (by rw [H.out.2.1]; exact hin))
      have c1 : wr.cell? ⟨b, off + i, none⟩ = some (.string ⟨x.toArray⟩) := (HR.out.2.cell hlt).trans c0
      have hst := flat_snoc (l := ps) (i := i) (by rw [H.out.2.1]; exact hin) parts
      rw [hx] at hst
      have ST : Hid _ := hst
      have hpa := parts_any ⟨x.toArray⟩ (by rw [bsize]; exact hxl) wr
      have FL : Hid (((ps.take i).flatMap parts).length ≤ 412000000 ∧ (parts x).length ≤ 103) := ⟨hfl, parts_len x⟩
      clear hc c0 hx hst hfl
      go_wp2_with fail
      refine hpa.mono ?_
      rintro e w2 ⟨v2, rfl, O2, B2⟩
      obtain ⟨a2, c2, rfl, _, _, R2⟩ := O2.form
      have G2 : Hid (Rd w2 a2 (parts x) ∧ Own w2 w.heap.size _ ((ps.take i).flatMap parts) ∧ Below w.heap.size w w2) := ⟨R2, HR.out.1.below B2, HR.out.2.trans (B2.mono HR.out.2.size)⟩
      clear O2 B2 R2 hpa
      go_wp2_with (at_builtin; refine app_list rfl (.tmp 12) (.tmp 14) rfl w.heap.size _ ((ps.take i).flatMap parts) (parts x) a2 _ c2 rfl G2.out.2.1 rfl G2.out.1 rfl (by have := FL.out; omega) G2.out.2.2.size ?_; intro v4 w4 hown4 hbel4)
      go_roundg (gk - 1)
      case measure => omega
      case rel => exact ⟨i + 1, by go_num, by omega, by rw [ST.out]; exact hown4, G2.out.2.2.trans hbel4⟩
    · obtain rfl : i = n := by omega
      have e : ps.take i = ps := List.take_of_length_le (by rw [H.out.2.1]; omega)
      rw [e] at HR hfl
      obtain ⟨L, hL⟩ : ∃ L, ps.flatMap parts = L := ⟨_, rfl⟩
      rw [hL] at HR hfl
      have LE : Hid (ps.flatMap parts = L) := hL
      clear hL
      obtain ⟨ao1, c1, rfl, _, _, R1⟩ := HR.out.1.form
      have hs := sort_any (c := c1) wr R1 rfl (by omega)
      clear R1 e
      go_wp2_with fail
      refine hs.mono ?_
      rintro e w2 ⟨v2, rfl, ho, hb⟩
      go_wp2
      go_ret
      exact ⟨_, rfl, by rw [LE.out]; exact own_low ho HR.out.2.size, HR.out.2.trans (hb.mono HR.out.2.size)⟩

set_option maxHeartbeats 400000 in
theorem bytesFor_any (k : Nat) (hk : k ≤ 1000000) (w : World) :
    Calls Try.prog 24 #[.int .i64 (k : Int)] w fun e w' => e = .returned (.int .i64 ((nby k : Nat) : Int)) ∧ w' = w := by
  have e : (max ((k : Int) * 12) 8 + 8 - 1) / 8 = ((nby k : Nat) : Int) := by unfold nby; omega
  have E : Hid (_ = _) := e
  clear e
  go_enter Try.func24, Try.ntmps24
  go_wp2
  go_ret
  exact ⟨by rw [← E.out]; rfl, rfl⟩

theorem turned_drewN {S : Nat → Prop} {a w : World} (h : Turned S a w) (n : Nat) : Turned S a (w.drewN n) := ⟨h.os, h.tape, h.output, h.size, h.block⟩

theorem made_set (ones : List Int) {n k : Nat} (h : k / 8 < n) : (1 :: fbytes ones n).set (1 + k / 8) (fbyte (ones ++ [(k : Int)]) (k / 8)) = 1 :: fbytes (ones ++ [(k : Int)]) n := by
  rw [Nat.add_comm 1, List.set_cons_succ, fbytes_set _ _ _ h]
theorem made_get (ones : List Int) {n k : Nat} (h : k / 8 < n) : (1 :: fbytes ones n)[1 + k / 8]? = some (fbyte ones (k / 8)) := by
  rw [Nat.add_comm 1, List.getElem?_cons_succ, fbytes_get _ h]
theorem made_start (n : Nat) : (List.replicate (1 + n) (0 : UInt8)).set 0 1 = 1 :: fbytes [] n := by
  rw [fbytes_none, Nat.add_comm, List.replicate_succ, List.set_cons_zero]

set_option maxHeartbeats 400000 in
theorem make_wide {ao : Option Addr} {c n : Nat} {ch : List Bs} (w : World) (ha : Rd w ao ch) (hl : ch.length = n) (hn : n ≤ 4000000) (hx : ∀ x ∈ ch, x.length ≤ 9223372036854775807) (hc : 8 < fcount ch) :
    Calls Try.prog 10 #[.slice ao n c] w fun e w' => ∃ v', e = .returned v' ∧ OwnG encB 5 w' w.heap.size v' [2] ∧ Below w.heap.size w w' := by
  have hun := unlike_any (c := c) w ha hl hn hx
  unfold fcount at hc
  obtain ⟨ps, hps⟩ : ∃ ps, srt (ch.filter isPath) = ps := ⟨_, rfl⟩
  rw [hps] at hun hc
  have hc' : (8 : Int) < (ps.length : Int) := by omega
  clear ha hl hx hps hc
  go_enter Try.func10, Try.ntmps10
  go_wp2_with fail
  refine hun.mono ?_
  rintro e w1 ⟨v1, rfl, O1, B1⟩
  obtain ⟨a1, c1, rfl, _, _, _⟩ := O1.form
  have G : Hid (Below w.heap.size w w1) := B1
  clear O1 B1 hun
  go_wp2
  go_ret
  refine ⟨_, rfl, ?_, G.out.trans ((bz1 w1 _).mono G.out.size)⟩
  exact World.ownsRow_lit w1 #[.int .u8 2] 1 G.out.size (by decide) rfl

set_option maxHeartbeats 1600000 in
set_option maxRecDepth 100000 in
theorem make_few {ao : Option Addr} {c n : Nat} {ch : List Bs} (w : World) (ha : Rd w ao ch) (hl : ch.length = n) (hn : n ≤ 4000000) (hx : ∀ x ∈ ch, x.length ≤ 9223372036854775807) (hc : ¬ 8 < fcount ch) :
    Calls Try.prog 10 #[.slice ao n c] w fun e w' => ∃ v', e = .returned v' ∧ OwnG encB 5 w' w.heap.size v' (1 :: fbytes (fones ch) (nby (fpaths ch).length)) ∧ Below w.heap.size w w' := by
  have hun := unlike_any (c := c) w ha hl hn hx
  have hfl := fpaths_len ch
  have hld := lead_eq ch
  have hpx : ∀ x ∈ srt (ch.filter isPath), x.length ≤ 9223372036854775807 := fun x h => hx x (List.mem_filter.1 ((mem_srt _ _).1 h)).1
  have hqx : ∀ x ∈ fpaths ch, x.length ≤ 9223372036854775807 := by
    intro x h
    obtain ⟨p, _, h2⟩ := List.mem_flatMap.1 ((mem_srt _ _).1 h)
    have := part_short h2
    omega
  unfold fones
  unfold fcount at hc hfl
  obtain ⟨ps, hps⟩ : ∃ ps, srt (ch.filter isPath) = ps := ⟨_, rfl⟩
  obtain ⟨qs, hqs⟩ : ∃ qs, fpaths ch = qs := ⟨_, rfl⟩
  rw [hps] at hun hc hfl hld hpx
  rw [hqs] at hfl hld hqx ⊢
  obtain ⟨pn, hpn⟩ : ∃ pn, ps.length = pn := ⟨_, rfl⟩
  obtain ⟨qn, hqn⟩ : ∃ qn, qs.length = qn := ⟨_, rfl⟩
  rw [hpn] at hc hfl
  rw [hqn] at hfl ⊢
  obtain ⟨nb, hnb⟩ : ∃ nb, nby qn = nb := ⟨_, rfl⟩
  have hbf := bytesFor_any qn (by omega)
  have hn1 := nby_pos qn
  have hn2 : nb ≤ 2000 := by rw [← hnb]; unfold nby; omega
  rw [hnb] at hbf hn1 ⊢
  have hc' : ¬ (8 : Int) < (pn : Int) := by omega
  have hle : ∀ w1 a1 c1, Rd w1 a1 ps → _ := fun w1 a1 c1 h => leading_any (c := c1) (ao := a1) w1 h hpn (by omega) hpx
  rw [hld] at hle
  have L : Hid (ps.length = pn ∧ qs.length = qn ∧ ∀ x ∈ qs, x.length ≤ 9223372036854775807) := ⟨hpn, hqn, hqx⟩
  clear ha hl hx hps hqs hpx hqx hld hpn hqn hnb
  go_enter Try.func10, Try.ntmps10
  go_wp2_with fail
  refine hun.mono ?_
  rintro e w1 ⟨v1, rfl, O1, B1⟩
  obtain ⟨a1, c1, rfl, _, _, R1⟩ := O1.form
  rw [L.out.1]
  have hle1 := hle w1 a1 c1 R1
  have G1 : Hid (Below w.heap.size w w1) := B1
  clear O1 B1 R1 hun hle
  go_wp2_with fail
  refine hle1.mono ?_
  rintro e w2 ⟨v2, rfl, O2, B2⟩
  obtain ⟨a2, c2, rfl, _, _, R2⟩ := O2.form
  rw [L.out.2.1]
  have G2 : Hid (Below w.heap.size w w2 ∧ Rd w2 a2 qs) := ⟨G1.out.trans (B2.mono G1.out.size), R2⟩
  clear O2 B2 R2 hle1 G1
  go_wp2_with fail
  refine (hbf _).mono ?_
  rintro e w3 ⟨rfl, rfl⟩
  obtain ⟨w4, hm4, O4, B4⟩ := make_bytes (1 + nb) (by omega) w3
  have en : ((1 + nb : Nat) : Int) = 1 + (nb : Int) := by omega
  rw [en] at hm4
  obtain ⟨f0, hf0, c0, z0⟩ := byte_at O4 (i := 0) (by simp; omega)
  have O5 := byte_put O4 (i := 0) (by simp; omega) 1
  rw [made_start] at O5
  have B5 : Below w3.heap.size w3 (w4.setCell ⟨w3.heap.size, 0, none⟩ (.int .u8 1)) := B4.trans ((turned_set 0 _).below B4.size (fun k hk e => by omega))
  have O5' : OwnG encB 5 (w4.setCell ⟨w3.heap.size, 0, none⟩ (.int .u8 1)) w3.heap.size (.slice (some ⟨w3.heap.size, 0, none⟩) (1 + nb) (1 + nb)) (1 :: fbytes [] nb) := O5
  have hbi := bits_any _ (OwnB.at (O5'.low (Nat.zero_le _))) (by simp [fbytes_len]; omega) (by omega) _ (fbits_made [] nb)
  have G5 : Hid (_ ∧ _) := ⟨O5', B5⟩
  clear hbf O4 B4 hf0 O5 B5 O5'
  go_wp2_with fail
  refine hbi.mono ?_
  rintro e w5 ⟨rfl, hw5⟩
  rw [← hw5] at G5
  have G5 : Hid (OwnG encB 5 w5 w3.heap.size (.slice (some ⟨w3.heap.size, 0, none⟩) (1 + nb) (1 + nb)) (1 :: fbytes [] nb) ∧ Below w3.heap.size w3 w5) := G5
  clear hw5 hbi c0 z0 hm4
  go_wp2_with fail
  go_loopg [32] qn (fun k v wr => ∃ i : Nat, v = .int .i64 i ∧ i + k = qn ∧ Hid (OwnG encB 5 wr w3.heap.size (.slice (some ⟨w3.heap.size, 0, none⟩) (1 + nb) (1 + nb)) (1 :: fbytes ((qs.take i).flatMap (fun p => poss p (8 * (nb : Int)))) nb) ∧ Below w3.heap.size w3 wr))
  case atStart => exact ⟨0, rfl, by omega, G5.out⟩
  case round =>
    obtain ⟨i, rfl, hi, HR⟩ := hrel
    obtain ⟨go, hgo⟩ : ∃ go, go = gk := ⟨_, rfl⟩
    rw [← hgo] at hi
    have GO : Hid (go = gk) := hgo
    clear hgo
    by_cases hin : i < qn
    · have id : (i : Int) < (qn : Int) := by omega
      obtain ⟨b, off, rfl, hlt, hcc⟩ := G2.out.2 (by rw [L.out.2.1]; omega)
      obtain ⟨x, hx⟩ : ∃ x, el qs i = x := ⟨_, rfl⟩
      have c0 := hcc i (by rw [L.out.2.1]; omega)
      rw [hx] at c0
      have hxl : x.length ≤ 9223372036854775807 := by rw [← hx]; exact L.out.2.2 _ (el_mem (by rw [L.out.2.1]; exact hin))
      have c1 : wr.cell? ⟨b, off + i, none⟩ = some (.string ⟨x.toArray⟩) := (HR.out.2.cell hlt).trans c0
      have hst := flat_snoc (l := qs) (i := i) (by rw [L.out.2.1]; exact hin) (fun p => poss p (8 * (nb : Int)))
      rw [hx] at hst
      have ST : Hid _ := hst
      have hpo := positions_any x (8 * (nb : Int)) (by omega) hxl wr
      have hrg : ∀ z ∈ poss x (8 * (nb : Int)), 0 ≤ z ∧ z < 8 * (nb : Int) := fun z h => poss_mem h
      have hl3 := poss_le x (8 * (nb : Int))
      obtain ⟨zs, hzs⟩ : ∃ zs, poss x (8 * (nb : Int)) = zs := ⟨_, rfl⟩
      obtain ⟨ds, hds⟩ : ∃ ds, (qs.take i).flatMap (fun p => poss p (8 * (nb : Int))) = ds := ⟨_, rfl⟩
      rw [hzs] at hpo hrg hl3
      have ST2 : Hid ((qs.take (i + 1)).flatMap (fun p => poss p (8 * (nb : Int))) = ds ++ zs) := by
        show _ = _
        rw [ST.out, hds, hzs]
      rw [hds] at HR
      have RG : Hid (∀ z ∈ zs, 0 ≤ z ∧ z < 8 * (nb : Int)) := hrg
      clear hcc c0 hx hst hzs hds hrg ST
      obtain ⟨zn, hzn⟩ : ∃ zn, zs.length = zn := ⟨_, rfl⟩
      go_wp2_with fail
      refine hpo.mono ?_
      rintro e w6 ⟨v6, rfl, O6, B6⟩
      obtain ⟨a6, c6, rfl, _, _, R6, A6⟩ := O6.form
      have N6 : ∀ p, a6 = some p → p.block ≠ w3.heap.size := by
        intro p hp e
        have k1 := (O6.lt p.block (by rw [hp]; exact own_at_head O6 hp)).1
        have k2 := (HR.out.1.lt w3.heap.size rfl).2
        omega
      rw [hzn] at hl3 ⊢
      have G6 : Hid (RdG encI w6 a6 zs ∧ zs.length = zn ∧ (∀ p, a6 = some p → p.block ≠ w3.heap.size) ∧ Below w3.heap.size w3 w6 ∧ OwnG encB 5 w6 w3.heap.size (.slice (some ⟨w3.heap.size, 0, none⟩) (1 + nb) (1 + nb)) (1 :: fbytes ds nb)) :=
        ⟨R6, hzn, N6, HR.out.2.trans (B6.mono HR.out.2.size), HR.out.1.below B6⟩
      clear O6 B6 R6 A6 N6 hpo hzn
      go_wp2_with fail
      go_loopg [40] zn (fun k v wr => ∃ j : Nat, v = .int .i64 j ∧ j + k = zn ∧ Hid (OwnG encB 5 wr w3.heap.size (.slice (some ⟨w3.heap.size, 0, none⟩) (1 + nb) (1 + nb)) (1 :: fbytes (ds ++ zs.take j) nb) ∧ Turned (fun g => g = w3.heap.size) w6 wr))
      case atStart => exact ⟨0, rfl, by omega, by rw [List.take_zero, List.append_nil]; exact G6.out.2.2.2.2, Turned.refl _ _⟩
      case round =>
        obtain ⟨j, rfl, hj, HJ⟩ := hrel
        by_cases hjn : j < zn
        · have jd : (j : Int) < (zn : Int) := by omega
          obtain ⟨y, hy⟩ := get_some G6.out.2.1 hjn
          obtain ⟨y0, y1⟩ := RG.out y (List.mem_of_getElem? hy)
          obtain ⟨k, rfl⟩ : ∃ k : Nat, y = k := ⟨y.toNat, by omega⟩
          have hk : k / 8 < nb := by omega
          have hR := RdG.turned G6.out.1 HJ.out.2 (fun _ p hp => G6.out.2.2.1 p hp)
          obtain ⟨b6, o6, rfl, hlt6⟩ := hR.some_of hy
          have cy := hR.ints hy
          obtain ⟨x0, hx0, cx0, fx0⟩ := byte_at HJ.out.1 (i := 1 + k / 8) (by simp [fbytes_len]; omega)
          have ex : x0 = fbyte (ds ++ zs.take j) (k / 8) := by
            rw [made_get _ hk] at hx0
            exact (Option.some.inj hx0).symm
          subst ex
          have hor := fbyte_or (ds ++ zs.take j) k
          have hput := fun m => byte_put (HJ.out.1.below (below_drewN (Below.refl _ _) m)) (i := 1 + k / 8) (by simp [fbytes_len]; omega) (fbyte (ds ++ zs.take j ++ [(k : Int)]) (k / 8))
          rw [made_set _ hk] at hput
          have etk : ds ++ zs.take j ++ [(k : Int)] = ds ++ zs.take (j + 1) := by rw [xtake_snoc hy, List.append_assoc]
          rw [etk] at hput hor
          obtain ⟨q, hqq⟩ : ∃ q, 1 + k / 8 = q := ⟨_, rfl⟩
          obtain ⟨bb, hbb⟩ : ∃ bb : Int, ((2 ^ (k % 8) : Nat) : Int) = bb := ⟨_, rfl⟩
          have hpl := place_any k (by omega) q hqq bb hbb
          obtain ⟨u0, hu0⟩ : ∃ u0 : Int, ((fbyte (ds ++ zs.take j) (k / 8)).toNat : Int) = u0 := ⟨_, rfl⟩
          obtain ⟨u1, hu1⟩ : ∃ u1 : Int, ((fbyte (ds ++ zs.take (j + 1)) (k / 8)).toNat : Int) = u1 := ⟨_, rfl⟩
          rw [hbb, hu0, hu1] at hor
          rw [hqq] at cx0 fx0 hput
          rw [hu0] at cx0
          rw [hu1] at hput
          have hq1 : q < 1 + nb := by omega
          have PU : Hid _ := hput
          have cxm : ∀ m, (wr.drewN m).cell? ⟨w3.heap.size, q, none⟩ = some (.int .u8 u0) := fun _ => cx0
          have fxm : ∀ m, (wr.drewN m).frozen? ⟨w3.heap.size, q, none⟩ = false := fun _ => fx0
          clear hx0 hput etk hqq hbb hu0 hu1 hR cx0 fx0 hlt6
          go_wp2_with fail
          refine (hpl _).mono ?_
          rintro e w7 ⟨rfl, m, rfl⟩
          have cx := cxm m
          have fx := fxm m
          clear cxm fxm hpl
          go_wp2
          go_roundg (gk - 1)
          case measure => omega
          case rel => exact ⟨j + 1, by go_num, by omega, PU.out m, (turned_drewN HJ.out.2 m).setCell (p := ⟨w3.heap.size, q, none⟩) (.inl rfl) _⟩
        · obtain rfl : j = zn := by omega
          go_wp2
          go_roundg (go - 1)
          case measure => have := GO.out; omega
          case rel =>
            refine ⟨i + 1, by go_num, by omega, ?_, G6.out.2.2.2.1.trans (HJ.out.2.below G6.out.2.2.2.1.size (fun k hk e => by omega))⟩
            rw [ST2.out]
            have := HJ.out.1
            rw [List.take_of_length_le (by rw [G6.out.2.1]; omega)] at this
            exact this
    · obtain rfl : i = qn := by omega
      go_wp2
      go_ret
      refine ⟨_, rfl, ?_, G2.out.1.trans (HR.out.2.mono G2.out.1.size)⟩
      have := HR.out.1
      rw [List.take_of_length_le (by rw [L.out.2.1]; omega)] at this
      exact this.low G2.out.1.size

/-- filter.Make. -/
theorem make_any {ao : Option Addr} {c n : Nat} {ch : List Bs} (w : World) (ha : Rd w ao ch) (hl : ch.length = n) (hn : n ≤ 4000000) (hx : ∀ x ∈ ch, x.length ≤ 9223372036854775807) :
    Calls Try.prog 10 #[.slice ao n c] w fun e w' => ∃ v', e = .returned v' ∧ OwnG encB 5 w' w.heap.size v' (fmake ch) ∧ Below w.heap.size w w' := by
  by_cases h : 8 < fcount ch
  · rw [fmake, if_pos h]
    exact make_wide w ha hl hn hx h
  · rw [fmake, if_neg h]
    exact make_few w ha hl hn hx h

end Go.Proofs.Ytkoelofjgceohaa
