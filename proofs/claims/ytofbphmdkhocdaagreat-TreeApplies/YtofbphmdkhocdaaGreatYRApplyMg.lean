/-
  The reference's Apply by a contract: of a list of at most 100000 entries, and of at most 100000 changes.
-/
import Derived.Test.YtofbphmdkhocdaaGreatYRApplyPMg
import Derived.Test.YtofbphmdkhocdaaGreatYRClassMg
import Derived.Test.YtofbphmdkhocdaaGreatORTreesMg
namespace Go.Proofs.YtofbphmdkhocdaaGreat
open Go.RowKit

set_option maxHeartbeats 3200000 in
set_option maxRecDepth 100000 in
theorem rapply_any {ao bo : Option Addr} {n c m d : Nat} {A : List En} {cs : List Chg} (w : World) (ha : RdG encE w ao A) (hb : RdG encC w bo cs) (hl : A.length = n) (hk : cs.length = m) (hn : n ≤ 100000) (hm : m ≤ 100000) (es : List En) (ce : Int) (hes : fapply A cs = (es, ce)) :
    Calls Tryz.prog 21 #[.slice ao n c, .slice bo m d] w fun e w' => ∃ v', e = .returned (.tuple #[v', .int .i64 ce]) ∧ OwnG encE 75 w' w.heap.size v' es ∧ Below w.heap.size w w' := by
  have H : Hid (RdG encE w ao A ∧ RdG encC w bo cs ∧ A.length = n ∧ cs.length = m ∧ fapply A cs = (es, ce)) := ⟨ha, hb, hl, hk, hes⟩
  clear ha hb hl hk hes
  go_enter Tryz.func21, Tryz.ntmps21
  go_wp2_with fail
  go_loopg [6, 7] m (fun k nv v wr => ∃ i : Nat, v = .int .i64 i ∧ i + k = m ∧ Hid (Own wr w.heap.size nv (namesC (cs.take i)) ∧ Below w.heap.size w wr ∧ goodC A (cs.take i) = true))
  case atStart => exact ⟨0, rfl, by omega, Own.nil _ _, Below.refl _ _, by simp [goodC]⟩
  case round =>
    obtain ⟨i, rfl, hi, HR⟩ := hrel
    by_cases hin : i < m
    · have id : (i : Int) < (m : Int) := by omega
      have id0 : (0 : Int) ≤ (i : Int) := by omega
      obtain ⟨e, he⟩ := get_some H.out.2.2.2.1 hin
      obtain ⟨b, off, rfl, hlt⟩ := H.out.2.1.some_of he
      obtain ⟨an, ac, rfl, _, _, R0⟩ := HR.out.1.form
      obtain ⟨k, hkl⟩ : ∃ k, (namesC (cs.take i)).length = k := ⟨_, rfl⟩
      have hk1 : k ≤ 100000 := by
        rw [← hkl, namesC_len]
        have := List.length_take_le i cs
        omega
      rw [hkl]
      have hst := namesC_snoc he
      have hgs : goodC A (cs.take (i + 1)) = (goodC A (cs.take i) && (!((cs.take i).any (fun x => x.1 == e.1)) && (blobOf A e.1 == e.2.1))) := by rw [takeE_snoc he, good_snoc]
      rw [← namesC_any, HR.out.2.2, Bool.true_and] at hgs
      obtain ⟨x, o, o2⟩ := e
      simp only at hst hgs
      obtain ⟨f, hf⟩ : ∃ f, (namesC (cs.take i)).any (· == x) = f := ⟨_, rfl⟩
      obtain ⟨y, hy⟩ : ∃ y, blobOf A x = y := ⟨_, rfl⟩
      rw [hf, hy] at hgs
      have q0 : ∀ u : SW (Grew wr), u.w.cell? ⟨b, off + i * 3, none⟩ = some (.string ⟨x.toArray⟩) := fun u => (((H.out.2.1.below HR.out.2.1).below u.ok).chgs he).1
      have q1 : ∀ u : SW (Grew wr), u.w.cell? ⟨b, off + i * 3 + 1, none⟩ = some (.int .u64 (o.toNat : Int)) := fun u => (((H.out.2.1.below HR.out.2.1).below u.ok).chgs he).2.1
      have hA := fun u => rhas_class (c := ac) x R0 hkl (by omega) f hf u
      have hB := fun u => rblob_class (c := c) x (H.out.1.below HR.out.2.1) H.out.2.2.1 (by omega) y hy u
      have NE : Nonempty (SW (Grew wr)) := ⟨⟨wr, Below.refl _ wr⟩⟩
      have ST : Hid (namesC (cs.take (i + 1)) = namesC (cs.take i) ++ [x] ∧ goodC A (cs.take (i + 1)) = (!f && (y == o)) ∧ (namesC (cs.take i)).length = k) := ⟨hst, hgs, hkl⟩
      have BAD : Hid (goodC A (cs.take (i + 1)) = false → es = [] ∧ ce = 9) := by
        intro q
        have g := good_pre q
        have := H.out.2.2.2.2
        unfold fapply at this
        rw [g] at this
        have e2 : (([] : List En), (9 : Int)) = (es, ce) := this
        cases e2
        exact ⟨rfl, rfl⟩
      clear he hst hgs hf hy R0 hlt hkl
      cases f with
      | true =>
        go_upto_region 5 with fail
        refine wp_region_class (S := Grew wr) (by kernel_rfl) (by kernel_rfl) (Below.refl _ wr).drew ?_
        repeat (go_big_quiet_step (first | with_reducible exact hA _ | with_reducible exact hB _))
        refine wpQuiet_nil ?_
        intro _ hw'
        obtain ⟨u, hw''⟩ := hw'
        subst hw''
        have BU : Hid (Below w.heap.size w u.w) := HR.out.2.1.trans (Below.mono u.ok HR.out.2.1.size)
        clear hA hB q0 q1 NE
        go_wp2
        refine bodyPost_ret (results_tmp2 rfl _ _ _) rfl ?_
        obtain ⟨e1, e2⟩ := BAD.out (by rw [ST.out.2.1]; rfl)
        rw [e1, e2]
        exact ⟨_, rfl, OwnG.nil _ _ _ _, BU.out⟩
      | false =>
        by_cases hyo : y = o
        · subst hyo
          go_upto_region 5 with fail
          refine wp_region_class (S := Grew wr) (by kernel_rfl) (by kernel_rfl) (Below.refl _ wr).drew ?_
          repeat (go_big_quiet_step (first | with_reducible exact hA _ | with_reducible exact hB _))
          refine wpQuiet_nil ?_
          intro _ hw'
          obtain ⟨u, hw''⟩ := hw'
          subst hw''
          obtain ⟨w4, hw4⟩ : ∃ w4, w4 = u.w := ⟨_, rfl⟩
          have k0 := q0 u
          have BU : Hid (Own w4 w.heap.size (.slice an k ac) (namesC (cs.take i)) ∧ Below w.heap.size w w4) := by
            rw [hw4]
            have h1 := Own.below HR.out.1 u.ok
            rw [ST.out.2.2] at h1
            exact ⟨h1, HR.out.2.1.trans (Below.mono u.ok HR.out.2.1.size)⟩
          rw [← hw4] at k0 ⊢
          clear hA hB q0 q1 NE hw4 u
          go_wp2_with (at_builtin; refine app_one rfl (.tmp 43) (.tmp 49) rfl w.heap.size _ (namesC (cs.take i)) x _ rfl BU.out.1 rfl (by have := ST.out.2.2; omega) BU.out.2.size ?_; intro v5 w5 hown5 hbel5)
          go_roundg (gk - 1)
          case measure => omega
          case rel => exact ⟨i + 1, by go_num, by omega, by rw [ST.out.1]; exact hown5, BU.out.2.trans hbel5, by rw [ST.out.2.1]; simp⟩
        · have hne : ((y.toNat : Int) != (o.toNat : Int)) = true := by
            simp only [bne_iff_ne, ne_eq]
            intro e
            exact hyo (UInt64.toNat_inj.1 (by omega))
          have hne2 : ((y.toNat : Int) == (o.toNat : Int)) = false := by simpa using hne
          have hyo2 : ¬ (y.toNat : Int) = (o.toNat : Int) := by simpa using hne2
          go_upto_region 5 with fail
          refine wp_region_class (S := Grew wr) (by kernel_rfl) (by kernel_rfl) (Below.refl _ wr).drew ?_
          repeat (go_big_quiet_step (first | with_reducible exact hA _ | with_reducible exact hB _))
          refine wpQuiet_nil ?_
          intro _ hw'
          obtain ⟨u, hw''⟩ := hw'
          subst hw''
          have BU : Hid (Below w.heap.size w u.w) := HR.out.2.1.trans (Below.mono u.ok HR.out.2.1.size)
          clear hA hB q0 q1 NE
          go_wp2
          refine bodyPost_ret (results_tmp2 rfl _ _ _) rfl ?_
          obtain ⟨e1, e2⟩ := BAD.out (by rw [ST.out.2.1]; simp [hyo])
          rw [e1, e2]
          exact ⟨_, rfl, OwnG.nil _ _ _ _, BU.out⟩
    · obtain rfl : m = i := by omega
      have e : cs.take m = cs := List.take_of_length_le (by rw [H.out.2.2.2.1]; omega)
      rw [e] at HR
      clear e
      have GOOD : Hid (goodC A cs = true ∧ (cs.map (·.1)).Nodup) := ⟨HR.out.2.2, good_nodup HR.out.2.2⟩
      have HR2 : Hid (Own wr w.heap.size u6 (namesC cs ++ names1 (A.take 0)) ∧ Below w.heap.size w wr) := ⟨by have := HR.out.1; simpa [names1] using this, HR.out.2.1⟩
      clear HR
      go_wp2_with fail
      go_loopg [6, 9] n (fun k nv v wr => ∃ j : Nat, v = .int .i64 j ∧ j + k = n ∧ Hid (Own wr w.heap.size nv (namesC cs ++ names1 (A.take j)) ∧ Below w.heap.size w wr))
      case atStart => exact ⟨0, rfl, by omega, HR2⟩
      case round =>
        obtain ⟨j, rfl, hj, HJ⟩ := hrel
        have hnl : (namesC cs ++ names1 (A.take j)).length ≤ 200000 := by
          rw [List.length_append, namesC_len, nam1_len]
          have h1 := List.length_take_le j A
          have h2 := H.out.2.2.2.1
          omega
        by_cases hjn : j < n
        · have jd : (j : Int) < (n : Int) := by omega
          obtain ⟨e, he⟩ := get_some H.out.2.2.1 hjn
          obtain ⟨b, off, rfl, hlt⟩ := H.out.1.some_of he
          obtain ⟨_, c0, c1⟩ := (H.out.1.below HJ.out.2).ents he
          have hst := nam1_snoc he
          obtain ⟨x, o⟩ := e
          simp only at c0 c1 hst
          have ST : Hid (namesC cs ++ names1 (A.take (j + 1)) = (namesC cs ++ names1 (A.take j)) ++ [x]) := by show _ = _; rw [hst, List.append_assoc]
          clear he hst hlt
          go_wp2_with (at_builtin; refine app_one rfl (.tmp 57) (.tmp 63) rfl w.heap.size _ (namesC cs ++ names1 (A.take j)) x _ rfl HJ.out.1 rfl (by omega) HJ.out.2.size ?_; intro v5 w5 hown5 hbel5)
          go_roundg (gk - 1)
          case measure => omega
          case rel => exact ⟨j + 1, by go_num, by omega, by rw [ST.out]; exact hown5, HJ.out.2.trans hbel5⟩
        · obtain rfl : j = n := by omega
          have e : A.take j = A := List.take_of_length_le (by rw [H.out.2.2.1]; omega)
          rw [e] at HJ hnl
          clear e
          obtain ⟨a1, c1, rfl, _, _, R1⟩ := HJ.out.1.form
          obtain ⟨ln, hln⟩ : ∃ ln, (namesC cs ++ names1 A).length = ln := ⟨_, rfl⟩
          have hso := rsort_any (c := c1) wr R1 hln (by omega)
          rw [hln]
          clear hln
          obtain ⟨qs, hqs⟩ : ∃ qs, srt (namesC cs ++ names1 A) = qs := ⟨_, rfl⟩
          have hql : qs.length ≤ 200000 := by
            rw [← hqs]
            exact Nat.le_trans (srt_len _) hnl
          rw [hqs] at hso
          have CAN : Hid (canon A cs = qs.filterMap (keepAt A cs)) := by show _ = _; rw [← hqs]; rfl
          obtain ⟨qn, hqn⟩ : ∃ qn, qs.length = qn := ⟨_, rfl⟩
          rw [hqn] at hso hql
          have HQ : Hid (qs.length = qn) := hqn
          have W1 : Hid (Below w.heap.size w wr) := HJ.out.2
          clear R1 hqs hqn HJ hnl
          go_wp2_with fail
          refine hso.mono ?_
          rintro e w1 ⟨a2, c2, rfl, R2, B2⟩
          have G1 : Hid (Rd w1 a2 qs ∧ Below w.heap.size w w1) := ⟨R2, W1.out.trans (B2.mono W1.out.size)⟩
          clear R2 B2 hso W1
          go_wp2_with fail
          go_loopg [8, 10] qn (fun k ov v wr => ∃ t : Nat, v = .int .i64 t ∧ t + k = qn ∧ Hid (OwnG encE 75 wr w1.heap.size ov ((qs.take t).filterMap (keepAt A cs)) ∧ Below w1.heap.size w1 wr))
          case atStart => exact ⟨0, rfl, by omega, OwnG.nil _ _ _ _, Below.refl _ _⟩
          case round =>
            obtain ⟨t, rfl, ht, HT⟩ := hrel
            obtain ⟨wo, hwo⟩ : ∃ wo, wo = wr := ⟨_, rfl⟩
            subst hwo
            obtain ⟨go, hgo⟩ : ∃ go, go = gk := ⟨_, rfl⟩
            have GO : Hid (t + go = qn) := by rw [hgo]; exact ht
            have GK : Hid (go = gk) := hgo
            clear hgo
            have hol : ((qs.take t).filterMap (keepAt A cs)).length ≤ 200000 := by
              refine Nat.le_trans (List.length_filterMap_le _ _) ?_
              have := List.length_take_le t qs
              omega
            by_cases htn : t < qn
            · have td : (t : Int) < (qn : Int) := by omega
              have td0 : (0 : Int) ≤ (t : Int) := by omega
              obtain ⟨b1, o1, rfl, hlt1, hc1⟩ := G1.out.1 (by rw [HQ.out]; omega)
              have hks := keep_step A cs (qs := qs) (i := t) (by rw [HQ.out]; exact htn)
              have cy := hc1 t (by rw [HQ.out]; omega)
              obtain ⟨p, hp⟩ : ∃ p, el qs t = p := ⟨_, rfl⟩
              rw [hp] at hks cy
              have D : Hid (w1.cell? ⟨b1, o1 + t, none⟩ = some (.string ⟨p.toArray⟩) ∧ b1 < w1.heap.size) := ⟨cy, hlt1⟩
              have cy2 : wo.cell? ⟨b1, o1 + t, none⟩ = some (.string ⟨p.toArray⟩) := (HT.out.2.cell (p := ⟨b1, o1 + t, none⟩) hlt1).trans cy
              have WW : Hid (Below w.heap.size w wo) := G1.out.2.trans (HT.out.2.mono G1.out.2.size)
              have hbl := rblob_any (c := c) p wo (H.out.1.below WW.out) H.out.2.2.1 (by omega) (lastAt A cs p 0) (lastAt_zero A cs p).symm
              have LA : Hid (lastAt A cs p m = newAt A cs p) := by
                show _ = _
                have := lastAt_all A GOOD.out.2 p
                rw [H.out.2.2.2.1] at this
                exact this
              have ST : Hid ((qs.take (t + 1)).filterMap (keepAt A cs) = (qs.take t).filterMap (keepAt A cs) ++ (if newAt A cs p = 0 then [] else [(p, newAt A cs p)])) := hks
              obtain ⟨out, hout⟩ : ∃ out, (qs.take t).filterMap (keepAt A cs) = out := ⟨_, rfl⟩
              rw [hout] at HT ST hol
              clear hks hp cy hlt1 hc1 hout
              go_wp2_with fail
              refine hbl.mono ?_
              rintro e w2 ⟨rfl, B2⟩
              have G2 : Hid (OwnG encE 75 w2 w1.heap.size u8 out ∧ Below w1.heap.size w1 w2) := ⟨HT.out.1.below B2, HT.out.2.trans (B2.mono HT.out.2.size)⟩
              clear B2 hbl cy2
              go_wp2_with fail
              go_loopg [11, 12] m (fun k iv v wr => ∃ j : Nat, v = .int .i64 j ∧ iv = .int .u64 ((lastAt A cs p j).toNat : Int) ∧ j + k = m ∧ Hid (Below w2.heap.size w2 wr))
              case atStart => exact ⟨0, rfl, rfl, by omega, Below.refl _ _⟩
              case round =>
                obtain ⟨j2, rfl, rfl, hj2, HJ2⟩ := hrel
                have WC : Hid (Below w1.heap.size w1 wr ∧ Below w.heap.size w wr) := ⟨G2.out.2.trans (HJ2.out.mono G2.out.2.size), G1.out.2.trans ((G2.out.2.trans (HJ2.out.mono G2.out.2.size)).mono G1.out.2.size)⟩
                have cp : wr.cell? ⟨b1, o1 + t, none⟩ = some (.string ⟨p.toArray⟩) := (WC.out.1.cell (p := ⟨b1, o1 + t, none⟩) D.out.2).trans D.out.1
                by_cases hjm : j2 < m
                · have jd : (j2 : Int) < (m : Int) := by omega
                  have jd0 : (0 : Int) ≤ (j2 : Int) := by omega
                  obtain ⟨e, he⟩ := get_some H.out.2.2.2.1 hjm
                  obtain ⟨b, off, rfl, hlt⟩ := H.out.2.1.some_of he
                  obtain ⟨c0, _, c2'⟩ := (H.out.2.1.below WC.out.2).chgs he
                  have hls := lastAt_step A he p
                  obtain ⟨x, o, o2⟩ := e
                  simp only at c0 c2' hls
                  have C2 : Hid (w.heap.size ≤ wr.heap.size ∧ ∀ k, (wr.drewN k).cell? ⟨b, off + j2 * 3 + 2, none⟩ = some (.int .u64 (o2.toNat : Int))) := ⟨WC.out.2.size, fun k => c2'⟩
                  by_cases hx : x = p
                  · subst hx
                    have LS : Hid (lastAt A cs x (j2 + 1) = o2) := by show _ = _; rw [hls, if_pos rfl]
                    clear he hls hlt
                    go_wp2_with fail
                    go_quiet (fail)
                    go_wp2
                    go_roundg (gk - 1)
                    case measure => omega
                    case rel => exact ⟨j2 + 1, by go_num, by rw [LS.out], by omega, below_drewN HJ2.out _⟩
                  · have LS : Hid (lastAt A cs p (j2 + 1) = lastAt A cs p j2) := by show _ = _; rw [hls, if_neg hx]
                    have hne : (x == p) = false := by simpa using hx
                    clear he hls hlt
                    go_wp2_with fail
                    go_quiet (fail)
                    go_wp2
                    go_roundg (gk - 1)
                    case measure => omega
                    case rel => exact ⟨j2 + 1, by go_num, by rw [LS.out], by omega, below_drewN HJ2.out _⟩
                · obtain rfl : j2 = m := by omega
                  have G3 : Hid (OwnG encE 75 wr w1.heap.size u8 out ∧ Below w1.heap.size w1 wr) := ⟨G2.out.1.below HJ2.out, WC.out.1⟩
                  obtain ⟨z, hz⟩ : ∃ z, newAt A cs p = z := ⟨_, rfl⟩
                  rw [LA.out, hz]
                  rw [hz] at ST
                  clear hz
                  by_cases h0 : z = 0
                  · subst h0
                    go_wp2
                    go_roundg (go - 1)
                    case measure => have := GK.out; have := GO.out; omega
                    case rel => exact ⟨t + 1, by go_num, by have := GO.out; omega, by rw [ST.out]; simpa using G3.out.1, G3.out.2⟩
                  · have h0' : ((z.toNat : Int) != 0) = true := by
                      simp only [bne_iff_ne, ne_eq]
                      intro e
                      exact h0 (UInt64.toNat_inj.1 (show z.toNat = 0 by omega))
                    have h0'' : ((z.toNat : Int) == 0) = false := by simpa using h0'
                    go_wp2_with (at_builtin; refine appG_one encE 75 33 24 (.agg #[.string ⟨#[]⟩, .int .u64 0]) rfl Tryz.info75 Tryz.underlying33 rfl (.tmp 102) (.tmp 109) rfl w1.heap.size _ out (p, z) _ rfl G3.out.1 rfl (by omega) (by simp only [maxLen]; omega) G3.out.2.size _ rfl ?_; intro v8 w8 hown8 hbel8 _ _)
                    go_roundg (go - 1)
                    case measure => have := GK.out; have := GO.out; omega
                    case rel => exact ⟨t + 1, by go_num, by have := GO.out; omega, by rw [ST.out, if_neg h0]; exact hown8, G3.out.2.trans hbel8⟩
            · obtain rfl : t = qn := by omega
              have e : qs.take t = qs := List.take_of_length_le (by rw [HQ.out]; omega)
              rw [e, ← CAN.out] at HT hol
              clear e
              obtain ⟨a3, c3, rfl, k1, k2, R3, _⟩ := HT.out.1.form
              obtain ⟨kn, hkn⟩ : ∃ kn, (canon A cs).length = kn := ⟨_, rfl⟩
              have htr := rtree_any (c := c3) wo R3 hkn
              rw [hkn]
              obtain ⟨T, hT⟩ : ∃ T, (ftree (canon A cs)).1 = T := ⟨_, rfl⟩
              obtain ⟨z, hz⟩ : ∃ z, (ftree (canon A cs)).2 = z := ⟨_, rfl⟩
              rw [hT, hz] at htr
              rw [ftree_code] at hz
              have FA : Hid ((z = 0 → es = canon A cs ∧ ce = 0) ∧ (z ≠ 0 → es = [] ∧ ce = z)) := by
                have := H.out.2.2.2.2
                unfold fapply at this
                rw [GOOD.out.1, hz] at this
                constructor
                · intro q
                  rw [q] at this
                  have e2 : (canon A cs, (0 : Int)) = (es, ce) := this
                  cases e2
                  exact ⟨rfl, rfl⟩
                · intro q
                  rw [if_pos rfl, if_neg q] at this
                  cases this
                  exact ⟨rfl, rfl⟩
              have G3 : Hid (OwnG encE 75 wo w1.heap.size (.slice a3 kn c3) (canon A cs) ∧ Below w1.heap.size w1 wo) := by
                have := HT.out
                rw [hkn] at this
                exact this
              clear hT hz HT k1 k2 R3 hkn
              go_wp2_with fail
              refine htr.mono ?_
              rintro e w2 ⟨rfl, B2⟩
              have G4 : Hid (OwnG encE 75 w2 w.heap.size (.slice a3 kn c3) (canon A cs) ∧ Below w.heap.size w w2) := ⟨(G3.out.1.below B2).low G1.out.2.size, G1.out.2.trans ((G3.out.2.trans (B2.mono G3.out.2.size)).mono G1.out.2.size)⟩
              clear B2 htr
              by_cases hc0 : z = 0
              · subst hc0
                go_wp2
                refine bodyPost_ret (results_tmp2 rfl _ _ _) rfl ?_
                obtain ⟨e1, e2⟩ := FA.out.1 (by simp)
                rw [e1, e2]
                exact ⟨_, rfl, G4.out.1, G4.out.2⟩
              · have hc1 : (z != 0) = true := by simpa using hc0
                have hc2 : (z == 0) = false := by simpa using hc0
                have HC : Hid (¬ z = 0) := hc0
                go_wp2
                refine bodyPost_ret (results_tmp2 rfl _ _ _) rfl ?_
                obtain ⟨e1, e2⟩ := FA.out.2 (by simpa using HC.out)
                rw [e1, e2]
                exact ⟨_, rfl, OwnG.nil _ _ _ _, G4.out.2⟩

end Go.Proofs.YtofbphmdkhocdaaGreat
