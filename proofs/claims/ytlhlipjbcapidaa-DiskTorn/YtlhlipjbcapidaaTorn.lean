/-
  DiskTorn's walk: whatever is handed in, it returns true and turns nothing that was there. No condition but that what is handed in is no longer than any memory holds.
-/
import Derived.Test.YtlhlipjbcapidaaHeld
import Derived.Deep.RegionHeld3
namespace Go.Proofs.Ytlhlipjbcapidaa
open Go.RowKit

/-- A file that was torn. -/
def dtorn (E : Dk) (k : Nat) (n s : Bs) : Dk := { doff E k with files := fwith E.files n s }

theorem lay_cases (E : Dk) (k : Nat) (n own more : Bs) : dlay (dcut0 E k) n own more = (dcut0 E k, 2) ∨ dlay (dcut0 E k) n own more = (dcut0 E k, 7) ∨ (isName n = true ∧ own.length + more.length ≤ 262144 ∧ dlay (dcut0 E k) n own more = (dtorn E k n (own ++ more.take k), 8)) := by
  unfold dlay
  rw [dnext_off]
  split
  · exact .inl rfl
  · rename_i hn
    split
    · exact .inr (.inl rfl)
    · rename_i hf
      exact .inr (.inr ⟨by simpa using hn, by omega, rfl⟩)

theorem hdead2 {B : Nat} {W u : World} {b : Nat} {D : Dk} {vs : List (Value × Bs)} (h : Held B W u b D vs) (p : Bool) (hp : D.dead = p) : Calls Try.prog 18 #[.pointer (some ⟨b, 0, none⟩)] u fun e w' => e = .returned (.bool p) ∧ w' = u := by
  rw [← hp]
  exact hdead h

section
variable {E : Dk} {k : Nat} {n s : Bs}
theorem dtorn_get (h : E.ok) : fget (dtorn E k n s).files n = some s := by
  show fget (fwith E.files n s) n = _
  rw [fget_with n s n h.rise, if_pos rfl]
theorem dtorn_next : dnext (dtorn E k n s) = (dtorn E k n s, false, false) := by
  unfold dnext
  rw [if_pos (show (dtorn E k n s).dead = true from rfl)]
theorem dtorn_put (h : E.ok) (hn : isName n = true) : dput (dtorn E k n s) n [[]].flatten = (dtorn E k n s, 8) := by
  unfold dput dlay
  rw [if_neg (by rw [hn]; simp), if_neg (by rw [dtorn_get h]; simp), dtorn_next]
  rfl
theorem dtorn_rem (h : E.ok) (hn : isName n = true) : drem (dtorn E k n s) n = (dtorn E k n s, 8) := by
  unfold drem
  rw [if_neg (by rw [hn]; simp), dtorn_get h, dtorn_next]
  rfl
theorem dback_next : dnext (dres (dtorn E k n s)) = ({ dres (dtorn E k n s) with writes := E.writes + 1 }, true, false) := dnext_plain rfl rfl
theorem dback_trim (h : E.ok) (hn : isName n = true) : ∃ D, dtrim (dres (dtorn E k n s)) n 0 = (D, 0) ∧ D.dead = false := by
  have hg : fget (dres (dtorn E k n s)).files n = some s := dtorn_get (k := k) h
  unfold dtrim
  rw [if_neg (by rw [hn]; simp), hg, dback_next]
  show ∃ D, (if (0 : Int) < 0 ∨ (s.length : Int) < 0 then _ else _) = (D, 0) ∧ _
  rw [if_neg (by omega)]
  exact ⟨_, rfl, rfl⟩
theorem dback_rem (h : E.ok) (hn : isName n = true) (h0 : fget E.files n = none) : ∃ D, drem (dres (dtorn E k n s)) n = (D, 0) ∧ D.files = E.files ∧ D.writes = E.writes + 1 := by
  have hg : fget (dres (dtorn E k n s)).files n = some s := dtorn_get (k := k) h
  unfold drem
  rw [if_neg (by rw [hn]; simp), hg, dback_next]
  exact ⟨_, rfl, out_with h.rise h0, rfl⟩
theorem dtorn_ok {own more : Bs} (h : E.ok) (hd : dlay (dcut0 E k) n own more = (dtorn E k n s, 8)) : (dtorn E k n s).ok := by
  have := ok_lay (dcut0_ok h k) (n := n) (own := own) (more := more)
  rw [hd] at this
  exact this
end

set_option maxHeartbeats 6400000 in
set_option maxRecDepth 100000 in
theorem torn_app (so : Option Addr) (n sc : Nat) (xs : List AV) (nm : Bs) (ma : Option Addr) (mn mc : Nat) (more : Bs) (keep : Int) (W : World) (hl : xs.length = n) (hn : n ≤ 4611686018427387904) (hr : RdG encA W so xs) (ha : ∀ a ∈ xs, ActIn W a) (h1 : nm.length ≤ 140737488355328)
    (m1 : more.length = mn) (m2 : mn ≤ mc) (m3 : mc ≤ 9223372036854775807) (m4 : mn ≤ 140737488355328) (m5 : RdG encB W ma more) (hkr : keep ≤ 9223372036854775807) :
    Calls Try.prog 4 #[.slice so n sc, tx nm, .slice ma mn mc, .int .i64 keep, .bool true] W fun e w' => e = .returned (.bool true) ∧ Below W.heap.size W w' := by
  have H : Hid (xs.length = n ∧ n ≤ 4611686018427387904 ∧ RdG encA W so xs ∧ ∀ a ∈ xs, ActIn W a) := ⟨hl, hn, hr, ha⟩
  have HM : Hid (more.length = mn ∧ mn ≤ mc ∧ mc ≤ 9223372036854775807 ∧ RdG encB W ma more) := ⟨m1, m2, m3, m5⟩
  clear hl hn hr ha m1 m2 m3 m5
  go_enter Try.func4, Try.ntmps4
  go_wp2_with fail
  refine (awake_walk W).mono ?_
  rintro e w0 ⟨rfl, B0⟩
  have HB : Hid (Below W.heap.size W w0) := B0
  clear B0
  go_wp2_with fail
  refine (built_walk so n sc xs w0 H.out.1 H.out.2.1 (H.out.2.2.1.below HB.out) (fun a ha => by
    obtain ⟨data, q⟩ := (H.out.2.2.2 a ha).at HB.out (S := fun _ => False) (fun _ q => q.elim)
    exact ⟨data, q⟩)).mono ?_
  rintro e w1 ⟨b, rfl, M1⟩
  obtain ⟨D, M1', ok1, wr1⟩ := M1.out
  have HD : Hid (D.ok ∧ D.writes ≤ 200) := ⟨ok1, wr1⟩
  have K1 : Hid (Held w0.heap.size w0 w1 b D [(.slice ma mn mc, more)]) := (Held.of M1').arg (Nat.le_refl _) HM.out.1 HM.out.2.1 HM.out.2.2.1 (HM.out.2.2.2.below HB.out)
  clear M1' ok1 wr1 M1
  go_wp2_with fail
  refine (hres K1.out (Nat.le_refl _)).mono ?_
  rintro e w2 ⟨rfl, K2⟩
  clear K1
  by_cases hneg : keep < 0
  · have q0 : decide (keep < 0) = true := by simpa using hneg
    have BE : Hid (Below W.heap.size W w2) := HB.out.trans (K2.out.bel.mono HB.out.size)
    go_wp2
    go_ret
    exact ⟨rfl, BE.out⟩
  obtain ⟨k, rfl⟩ : ∃ k : Nat, keep = (k : Int) := ⟨keep.toNat, by omega⟩
  have q0 : decide ((k : Int) < 0) = false := by rw [decide_eq_false_iff_not]; omega
  clear hneg
  have hc := hcut K2.out (Nat.le_refl _) (x := 0) (y := (k : Int)) (by omega) (by omega) _ (dcut0_eq D k)
  go_wp2_with fail
  refine hc.mono ?_
  rintro e w3 ⟨rfl, K3⟩
  have K3' : Hid (Held w0.heap.size w0 w3 b (dcut0 D k) [(.slice ma mn mc, more)]) := K3
  clear hc K2 K3
  go_wp2_with fail
  refine (hread K3'.out (Nat.le_refl _) (dcut0_ok HD.out.1 k) nm h1).mono ?_
  rintro e w4 ⟨ov, rfl, K4⟩
  obtain ⟨og, hog⟩ : ∃ og, fget D.files nm = og := ⟨_, rfl⟩
  have hog' : fget (dcut0 D k).files nm = og := hog
  rw [hog'] at K4 ⊢
  have K4' : Hid (Held w0.heap.size w0 w4 b (dcut0 D k) [(ov, og.getD []), (.slice ma mn mc, more)]) := K4
  clear K3' K4
  go_wp2_with fail
  refine (hdata K4'.out (Nat.le_refl _) (dcut0_ok HD.out.1 k)).mono ?_
  rintro e w5 ⟨rfl, K5⟩
  obtain ⟨was, hwas⟩ : ∃ was : ByteArray, was = ⟨(dataOf D.files).toArray⟩ := ⟨_, rfl⟩
  have ewas : tx (dataOf (dcut0 D k).files) = .string was := by rw [hwas]; rfl
  rw [ewas]
  have HW : Hid (was = ⟨(dataOf D.files).toArray⟩ ∧ fget D.files nm = og) := ⟨hwas, hog⟩
  clear K4' hog hog' ewas hwas
  obtain ⟨oa, oc, rfl, _, _, _⟩ : ∃ oa oc, ov = .slice oa (og.getD []).length oc ∧ True ∧ True ∧ True := by
    obtain ⟨oa, oc, e, _⟩ := K5.out.mem (v := ov) (bs := og.getD []) (by simp)
    exact ⟨oa, oc, e, trivial, trivial, trivial⟩
  obtain ⟨ol, hol⟩ : ∃ ol, (og.getD []).length = ol := ⟨_, rfl⟩
  rw [hol] at K5 ⊢
  have hdl := lay_cases D k nm (og.getD []) more
  have hdq : dapp (dcut0 D k) nm ([more] : List Bs).flatten = dlay (dcut0 D k) nm (og.getD []) more := by
    rw [show ([more] : List Bs).flatten = more by simp]
    unfold dapp
    rw [show fget (dcut0 D k).files nm = og from HW.out.2]
  obtain ⟨p, hp⟩ : ∃ p, dlay (dcut0 D k) nm (og.getD []) more = p := ⟨_, rfl⟩
  have hpp : dapp (dcut0 D k) nm ([more] : List Bs).flatten = p := hdq.trans hp
  rw [hp] at hdl
  have hcall := happ (K5.out.below (Nat.le_refl _) (bz1 w5 (.cells #[.slice ma mn mc] 31))) (Nat.le_refl _) (dcut0_ok HD.out.1 k) (by have := HD.out.2; show D.writes ≤ _; omega) nm h1 (parts_one (K5.out.mem (v := .slice ma mn mc) (bs := more) (by simp)) 31) (by simp) (by intro x hx; simp at hx; subst hx; rw [HM.out.1]; exact m4) p hpp
  have HP : Hid (dlay (dcut0 D k) nm (og.getD []) more = p ∧ (p = (dcut0 D k, 2) ∨ p = (dcut0 D k, 7) ∨ (isName nm = true ∧ ((og.getD []) : Bs).length + more.length ≤ 262144 ∧ p = (dtorn D k nm ((og.getD []) ++ more.take k), 8)))) := ⟨hp, hdl⟩
  clear hdl hdq hpp hp
  go_wp2_with fail
  refine hcall.mono ?_
  rintro e w6 ⟨rfl, K6⟩
  clear hcall K5
  rcases HP.out.2 with e2 | e2 | ⟨hnm, hlen, e2⟩
  · rw [e2] at K6 ⊢
    have K6' : Hid (Held w0.heap.size w0 w6 b (dcut0 D k) [(.slice oa ol oc, og.getD []), (.slice ma mn mc, more)]) := K6
    clear K6 e2
    have hda := hdata K6'.out (Nat.le_refl _) (dcut0_ok HD.out.1 k)
    rw [show tx (dataOf (dcut0 D k).files) = .string was by rw [HW.out.1]; rfl] at hda
    go_wp2_with fail
    refine hda.mono ?_
    rintro e w7 ⟨rfl, K7⟩
    have hdd := hdead K7.out
    rw [show (dcut0 D k).dead = false from rfl] at hdd
    have BE : Hid (Below W.heap.size W w7) := HB.out.trans (K7.out.bel.mono HB.out.size)
    clear hda K6' K7
    go_wp2_with fail
    refine hdd.mono ?_
    rintro e w8 ⟨rfl, hw8⟩
    rw [hw8]
    clear hw8 w8
    go_wp2
    go_ret
    exact ⟨rfl, BE.out⟩
  · rw [e2] at K6 ⊢
    have K6' : Hid (Held w0.heap.size w0 w6 b (dcut0 D k) [(.slice oa ol oc, og.getD []), (.slice ma mn mc, more)]) := K6
    clear K6 e2
    have hda := hdata K6'.out (Nat.le_refl _) (dcut0_ok HD.out.1 k)
    rw [show tx (dataOf (dcut0 D k).files) = .string was by rw [HW.out.1]; rfl] at hda
    go_wp2_with fail
    refine hda.mono ?_
    rintro e w7 ⟨rfl, K7⟩
    have hdd := hdead K7.out
    rw [show (dcut0 D k).dead = false from rfl] at hdd
    have BE : Hid (Below W.heap.size W w7) := HB.out.trans (K7.out.bel.mono HB.out.size)
    clear hda K6' K7
    go_wp2_with fail
    refine hdd.mono ?_
    rintro e w8 ⟨rfl, hw8⟩
    rw [hw8]
    clear hw8 w8
    go_wp2
    go_ret
    exact ⟨rfl, BE.out⟩
  · have okT : (dtorn D k nm ((og.getD []) ++ more.take k)).ok := dtorn_ok HD.out.1 (HP.out.1.trans e2)
    rw [e2] at K6 ⊢
    obtain ⟨ss, hss⟩ : ∃ ss, ((og.getD []) ++ more.take k : Bs) = ss := ⟨_, rfl⟩
    rw [hss] at okT
    have K6' : Hid (Held w0.heap.size w0 w6 b (dtorn D k nm ss) [(.slice oa ol oc, og.getD []), (.slice ma mn mc, more)]) := by rw [← hss]; exact K6
    have HT : Hid ((dtorn D k nm ss).ok ∧ isName nm = true ∧ ((og.getD []) : Bs).length + more.length ≤ 262144 ∧ ((og.getD []) ++ more.take k : Bs) = ss) := ⟨okT, hnm, hlen, hss⟩
    clear K6 e2 hss okT hnm hlen HP
    have hrd := hread K6'.out (Nat.le_refl _) HT.out.1 nm h1
    rw [dtorn_get HD.out.1] at hrd
    go_wp2_with fail
    refine hrd.mono ?_
    rintro e w7 ⟨bv, rfl, K7⟩
    have K7' : Hid (Held w0.heap.size w0 w7 b (dtorn D k nm ss) [(bv, ss), (.slice oa ol oc, og.getD []), (.slice ma mn mc, more)]) := K7
    obtain ⟨ba, bc, rfl⟩ : ∃ ba bc, bv = .slice ba ss.length bc := by
      obtain ⟨ba, bc, e, _⟩ := K7'.out.mem (v := bv) (bs := ss) (by simp)
      exact ⟨ba, bc, e⟩
    obtain ⟨sl, hsl⟩ : ∃ sl, ss.length = sl := ⟨_, rfl⟩
    rw [hsl] at K7' ⊢
    clear K7 hrd K6' hsl
    obtain ⟨kk, hkk⟩ : ∃ kk : Nat, min (k : Int) (mn : Int) = (kk : Int) := ⟨min k mn, by omega⟩
    have hkm : kk ≤ mn ∧ more.take kk = more.take k := by
      refine ⟨by omega, ?_⟩
      by_cases q : k ≤ mn
      · rw [show kk = k by omega]
      · rw [show kk = mn by omega, List.take_of_length_le (by rw [HM.out.1]; omega), List.take_of_length_le (by rw [HM.out.1]; omega)]
    obtain ⟨ta, tc, hts, t1, t2, t3⟩ := sliceB_h (ao := ma) (n := mn) (c := mc) (k := kk) HM.out.2.1 hkm.1
    obtain ⟨ob, hob⟩ : ∃ ob : ByteArray, ob = ⟨((og.getD []) : Bs).toArray⟩ := ⟨_, rfl⟩
    obtain ⟨mb, hmb⟩ : ∃ mb : ByteArray, mb = ⟨(more.take k).toArray⟩ := ⟨_, rfl⟩
    have HK : Hid (kk ≤ mn ∧ more.take kk = more.take k ∧ kk ≤ tc ∧ tc ≤ mc ∧ (∀ w (xs : Bs), RdG encB w ma xs → RdG encB w ta (xs.take kk)) ∧ ob = ⟨((og.getD []) : Bs).toArray⟩ ∧ mb = ⟨(more.take k).toArray⟩) := ⟨hkm.1, hkm.2, t1, t2, t3, hob, hmb⟩
    have p1 : ¬ (9223372036854775807 < ob.size + mb.size) := by
      rw [hob, hmb]
      have := HT.out.2.2.1
      show ¬ (9223372036854775807 < ((og.getD []) : Bs).toArray.size + (more.take k).toArray.size)
      simp only [List.size_toArray, List.length_take]
      omega
    clear hkm t1 t2 t3 hob hmb
    have mkS : ∀ u, Held w0.heap.size w0 u b (dtorn D k nm ss) [(.slice ba sl bc, ss), (.slice oa ol oc, og.getD []), (.slice ma mn mc, more)] →
        Hid (Held w0.heap.size w0 u b (dtorn D k nm ss) [(.slice ba sl bc, ss), (.slice oa ol oc, og.getD []), (.slice ma mn mc, more)]) ∧ (convert 31 9 (.slice ba sl bc)).run Try.prog u = .ok (.string (ob ++ mb)) u ∧ (convert 31 9 (.slice oa ol oc)).run Try.prog u = .ok (.string ob) u ∧ (convert 31 9 (.slice ta kk tc)).run Try.prog u = .ok (.string mb) u := by
      intro u hu
      refine ⟨hu, ?_, ?_, ?_⟩
      · have e : Value.string (ob ++ mb) = tx ss := by
          rw [HK.out.2.2.2.2.2.1, HK.out.2.2.2.2.2.2, tx_cat, HT.out.2.2.2]
        rw [e]
        exact conv_str (hu.mem (by simp))
      · rw [HK.out.2.2.2.2.2.1]
        exact conv_str (hu.mem (by simp))
      · rw [HK.out.2.2.2.2.2.2, ← HK.out.2.1]
        obtain ⟨ma', mc', e', q1, q2, q3⟩ := hu.mem (v := .slice ma mn mc) (bs := more) (by simp)
        rw [HM.out.1] at e'
        cases e'
        have hl : (more.take kk).length = kk := by rw [List.length_take]; have := HM.out.1; have := HK.out.1; omega
        have := conv_str (w := u) (v := .slice ta (more.take kk).length tc) (bs := more.take kk) ⟨ta, tc, rfl, by rw [hl]; exact HK.out.2.2.1, Nat.le_trans HK.out.2.2.2.1 HM.out.2.2.1, HK.out.2.2.2.2.1 u more q3⟩
        rw [hl] at this
        exact this
    have S0 := mkS w7 K7'.out
    go_wp2_with fail
    go_region_held3 (fun u => Hid (Held w0.heap.size w0 u b (dtorn D k nm ss) [(.slice ba sl bc, ss), (.slice oa ol oc, og.getD []), (.slice ma mn mc, more)]) ∧ (convert 31 9 (.slice ba sl bc)).run Try.prog u = .ok (.string (ob ++ mb)) u ∧ (convert 31 9 (.slice oa ol oc)).run Try.prog u = .ok (.string ob) u ∧ (convert 31 9 (.slice ta kk tc)).run Try.prog u = .ok (.string mb) u)
      (first | exact mkS _ K10.out | exact mkS _ K9.out | exact mkS _ (K7'.out.below (Nat.le_refl _) (Below.refl _ w7).drew) | exact mkS _ (K7'.out.below (Nat.le_refl _) ((Below.refl _ w7).drew.trans (bz1 w7.drew _))) | (refine mkS _ (Held.below (Hid.out ?_) (Nat.le_refl _) (bz1 _ _)); assumption) | (refine mkS _ (Held.below (Hid.out ?_) (Nat.le_refl _) (Below.refl _ _).drew); assumption) | go_keep)
      (first
        | (go_at_call 19; refine (hrem K9.out (Nat.le_refl _) HT.out.1 (by have := HD.out.2; show D.writes ≤ _; omega) nm h1 _ (dtorn_rem HD.out.1 HT.out.2.1)).mono ?_; rintro e w10 ⟨rfl, K10⟩)
        | (go_at_call 17; refine (hput (K7'.out.below (Nat.le_refl _) ((Below.refl _ w7).drew.trans (bz1 w7.drew _))) (Nat.le_refl _) HT.out.1 (by have := HD.out.2; show D.writes ≤ _; omega) nm h1 (parts_nil w7.drew 31) (by simp) (by simp) _ (dtorn_put HD.out.1 HT.out.2.1)).mono ?_; rintro e w9 ⟨rfl, K9⟩)
        | (go_at_call 18; refine (hdead2 (K7'.out.below (Nat.le_refl _) (Below.refl _ w7).drew) true rfl).mono ?_; rintro e w8 ⟨rfl, rfl⟩))
    clear K9 S0 mkS K7' hts hkk p1
    go_wp2_with fail
    refine (hres K10.out (Nat.le_refl _)).mono ?_
    rintro e w11 ⟨rfl, K11⟩
    have K11' : Hid (Held w0.heap.size w0 w11 b (dres (dtorn D k nm ss)) [(.slice ba sl bc, ss), (.slice oa ol oc, og.getD []), (.slice ma mn mc, more)]) := K11
    clear K10 K11
    rcases og with _ | o
    · obtain ⟨Dr, hr, hrf, hrw⟩ := dback_rem (k := k) (s := ss) HD.out.1 HT.out.2.1 HW.out.2
      have okr : Dr.ok := by have := ok_rem (ok_res HT.out.1) nm; rw [hr] at this; exact this
      have hcall := hrem K11'.out (Nat.le_refl _) (ok_res HT.out.1) (by have := HD.out.2; show D.writes ≤ _; omega) nm h1 _ hr
      go_wp2_with fail
      refine hcall.mono ?_
      rintro e w12 ⟨rfl, K12⟩
      have hda := hdata K12.out (Nat.le_refl _) okr
      rw [show tx (dataOf Dr.files) = .string was by rw [HW.out.1, hrf]] at hda
      clear hcall K11'
      go_wp2_with fail
      refine hda.mono ?_
      rintro e w13 ⟨rfl, K13⟩
      have BE : Hid (Below W.heap.size W w13) := HB.out.trans (K13.out.bel.mono HB.out.size)
      clear hda K12 K13
      go_wp2
      go_ret
      exact ⟨rfl, BE.out⟩
    · obtain ⟨Dt, ht, hdt⟩ := dback_trim (k := k) (s := ss) HD.out.1 HT.out.2.1
      have hcall := htrim K11'.out (Nat.le_refl _) (ok_res HT.out.1) (by have := HD.out.2; show D.writes ≤ _; omega) nm h1 0 _ ht
      go_wp2_with fail
      refine hcall.mono ?_
      rintro e w12 ⟨rfl, K12⟩
      have hdd := hdead2 K12.out false hdt
      have BE : Hid (Below W.heap.size W w12) := HB.out.trans (K12.out.bel.mono HB.out.size)
      clear hcall K11'
      go_wp2_with fail
      refine hdd.mono ?_
      rintro e w13 ⟨rfl, hw13⟩
      rw [hw13]
      clear hw13 w13
      go_wp2
      go_ret
      exact ⟨rfl, BE.out⟩

set_option maxHeartbeats 6400000 in
set_option maxRecDepth 100000 in
theorem torn_put (so : Option Addr) (n sc : Nat) (xs : List AV) (nm : Bs) (ma : Option Addr) (mn mc : Nat) (more : Bs) (keep : Int) (W : World) (hl : xs.length = n) (hn : n ≤ 4611686018427387904) (hr : RdG encA W so xs) (ha : ∀ a ∈ xs, ActIn W a) (h1 : nm.length ≤ 140737488355328)
    (m1 : more.length = mn) (m2 : mn ≤ mc) (m3 : mc ≤ 9223372036854775807) (m4 : mn ≤ 140737488355328) (m5 : RdG encB W ma more) (hkr : keep ≤ 9223372036854775807) :
    Calls Try.prog 4 #[.slice so n sc, tx nm, .slice ma mn mc, .int .i64 keep, .bool false] W fun e w' => e = .returned (.bool true) ∧ Below W.heap.size W w' := by
  have H : Hid (xs.length = n ∧ n ≤ 4611686018427387904 ∧ RdG encA W so xs ∧ ∀ a ∈ xs, ActIn W a) := ⟨hl, hn, hr, ha⟩
  have HM : Hid (more.length = mn ∧ mn ≤ mc ∧ mc ≤ 9223372036854775807 ∧ RdG encB W ma more) := ⟨m1, m2, m3, m5⟩
  clear hl hn hr ha m1 m2 m3 m5
  go_enter Try.func4, Try.ntmps4
  go_wp2_with fail
  refine (awake_walk W).mono ?_
  rintro e w0 ⟨rfl, B0⟩
  have HB : Hid (Below W.heap.size W w0) := B0
  clear B0
  go_wp2_with fail
  refine (built_walk so n sc xs w0 H.out.1 H.out.2.1 (H.out.2.2.1.below HB.out) (fun a ha => by
    obtain ⟨data, q⟩ := (H.out.2.2.2 a ha).at HB.out (S := fun _ => False) (fun _ q => q.elim)
    exact ⟨data, q⟩)).mono ?_
  rintro e w1 ⟨b, rfl, M1⟩
  obtain ⟨D, M1', ok1, wr1⟩ := M1.out
  have HD : Hid (D.ok ∧ D.writes ≤ 200) := ⟨ok1, wr1⟩
  have K1 : Hid (Held w0.heap.size w0 w1 b D [(.slice ma mn mc, more)]) := (Held.of M1').arg (Nat.le_refl _) HM.out.1 HM.out.2.1 HM.out.2.2.1 (HM.out.2.2.2.below HB.out)
  clear M1' ok1 wr1 M1
  go_wp2_with fail
  refine (hres K1.out (Nat.le_refl _)).mono ?_
  rintro e w2 ⟨rfl, K2⟩
  clear K1
  by_cases hneg : keep < 0
  · have q0 : decide (keep < 0) = true := by simpa using hneg
    have BE : Hid (Below W.heap.size W w2) := HB.out.trans (K2.out.bel.mono HB.out.size)
    go_wp2
    go_ret
    exact ⟨rfl, BE.out⟩
  obtain ⟨k, rfl⟩ : ∃ k : Nat, keep = (k : Int) := ⟨keep.toNat, by omega⟩
  have q0 : decide ((k : Int) < 0) = false := by rw [decide_eq_false_iff_not]; omega
  clear hneg
  have hc := hcut K2.out (Nat.le_refl _) (x := 0) (y := (k : Int)) (by omega) (by omega) _ (dcut0_eq D k)
  go_wp2_with fail
  refine hc.mono ?_
  rintro e w3 ⟨rfl, K3⟩
  have K3' : Hid (Held w0.heap.size w0 w3 b (dcut0 D k) [(.slice ma mn mc, more)]) := K3
  clear hc K2 K3
  go_wp2_with fail
  refine (hread K3'.out (Nat.le_refl _) (dcut0_ok HD.out.1 k) nm h1).mono ?_
  rintro e w4 ⟨ov, rfl, K4⟩
  obtain ⟨og, hog⟩ : ∃ og, fget D.files nm = og := ⟨_, rfl⟩
  have hog' : fget (dcut0 D k).files nm = og := hog
  rw [hog'] at K4 ⊢
  have K4' : Hid (Held w0.heap.size w0 w4 b (dcut0 D k) [(ov, og.getD []), (.slice ma mn mc, more)]) := K4
  clear K3' K4
  go_wp2_with fail
  refine (hdata K4'.out (Nat.le_refl _) (dcut0_ok HD.out.1 k)).mono ?_
  rintro e w5 ⟨rfl, K5⟩
  obtain ⟨was, hwas⟩ : ∃ was : ByteArray, was = ⟨(dataOf D.files).toArray⟩ := ⟨_, rfl⟩
  have ewas : tx (dataOf (dcut0 D k).files) = .string was := by rw [hwas]; rfl
  rw [ewas]
  have HW : Hid (was = ⟨(dataOf D.files).toArray⟩ ∧ fget D.files nm = og) := ⟨hwas, hog⟩
  clear K4' hog hog' ewas hwas
  obtain ⟨oa, oc, rfl, _, _, _⟩ : ∃ oa oc, ov = .slice oa (og.getD []).length oc ∧ True ∧ True ∧ True := by
    obtain ⟨oa, oc, e, _⟩ := K5.out.mem (v := ov) (bs := og.getD []) (by simp)
    exact ⟨oa, oc, e, trivial, trivial, trivial⟩
  obtain ⟨ol, hol⟩ : ∃ ol, (og.getD []).length = ol := ⟨_, rfl⟩
  rw [hol] at K5 ⊢
  have hdl := lay_cases D k nm [] more
  have hdq : dput (dcut0 D k) nm ([more] : List Bs).flatten = dlay (dcut0 D k) nm [] more := by
    rw [show ([more] : List Bs).flatten = more by simp]
    rfl
  obtain ⟨p, hp⟩ : ∃ p, dlay (dcut0 D k) nm [] more = p := ⟨_, rfl⟩
  have hpp : dput (dcut0 D k) nm ([more] : List Bs).flatten = p := hdq.trans hp
  rw [hp] at hdl
  have hcall := hput (K5.out.below (Nat.le_refl _) (bz1 w5 (.cells #[.slice ma mn mc] 31))) (Nat.le_refl _) (dcut0_ok HD.out.1 k) (by have := HD.out.2; show D.writes ≤ _; omega) nm h1 (parts_one (K5.out.mem (v := .slice ma mn mc) (bs := more) (by simp)) 31) (by simp) (by intro x hx; simp at hx; subst hx; rw [HM.out.1]; exact m4) p hpp
  have HP : Hid (dlay (dcut0 D k) nm [] more = p ∧ (p = (dcut0 D k, 2) ∨ p = (dcut0 D k, 7) ∨ (isName nm = true ∧ ([] : Bs).length + more.length ≤ 262144 ∧ p = (dtorn D k nm ([] ++ more.take k), 8)))) := ⟨hp, hdl⟩
  clear hdl hdq hpp hp
  go_wp2_with fail
  refine hcall.mono ?_
  rintro e w6 ⟨rfl, K6⟩
  clear hcall K5
  rcases HP.out.2 with e2 | e2 | ⟨hnm, hlen, e2⟩
  · rw [e2] at K6 ⊢
    have K6' : Hid (Held w0.heap.size w0 w6 b (dcut0 D k) [(.slice oa ol oc, og.getD []), (.slice ma mn mc, more)]) := K6
    clear K6 e2
    have hda := hdata K6'.out (Nat.le_refl _) (dcut0_ok HD.out.1 k)
    rw [show tx (dataOf (dcut0 D k).files) = .string was by rw [HW.out.1]; rfl] at hda
    go_wp2_with fail
    refine hda.mono ?_
    rintro e w7 ⟨rfl, K7⟩
    have hdd := hdead K7.out
    rw [show (dcut0 D k).dead = false from rfl] at hdd
    have BE : Hid (Below W.heap.size W w7) := HB.out.trans (K7.out.bel.mono HB.out.size)
    clear hda K6' K7
    go_wp2_with fail
    refine hdd.mono ?_
    rintro e w8 ⟨rfl, hw8⟩
    rw [hw8]
    clear hw8 w8
    go_wp2
    go_ret
    exact ⟨rfl, BE.out⟩
  · rw [e2] at K6 ⊢
    have K6' : Hid (Held w0.heap.size w0 w6 b (dcut0 D k) [(.slice oa ol oc, og.getD []), (.slice ma mn mc, more)]) := K6
    clear K6 e2
    have hda := hdata K6'.out (Nat.le_refl _) (dcut0_ok HD.out.1 k)
    rw [show tx (dataOf (dcut0 D k).files) = .string was by rw [HW.out.1]; rfl] at hda
    go_wp2_with fail
    refine hda.mono ?_
    rintro e w7 ⟨rfl, K7⟩
    have hdd := hdead K7.out
    rw [show (dcut0 D k).dead = false from rfl] at hdd
    have BE : Hid (Below W.heap.size W w7) := HB.out.trans (K7.out.bel.mono HB.out.size)
    clear hda K6' K7
    go_wp2_with fail
    refine hdd.mono ?_
    rintro e w8 ⟨rfl, hw8⟩
    rw [hw8]
    clear hw8 w8
    go_wp2
    go_ret
    exact ⟨rfl, BE.out⟩
  · have okT : (dtorn D k nm ([] ++ more.take k)).ok := dtorn_ok HD.out.1 (HP.out.1.trans e2)
    rw [e2] at K6 ⊢
    obtain ⟨ss, hss⟩ : ∃ ss, ([] ++ more.take k : Bs) = ss := ⟨_, rfl⟩
    rw [hss] at okT
    have K6' : Hid (Held w0.heap.size w0 w6 b (dtorn D k nm ss) [(.slice oa ol oc, og.getD []), (.slice ma mn mc, more)]) := by rw [← hss]; exact K6
    have HT : Hid ((dtorn D k nm ss).ok ∧ isName nm = true ∧ ([] : Bs).length + more.length ≤ 262144 ∧ ([] ++ more.take k : Bs) = ss) := ⟨okT, hnm, hlen, hss⟩
    clear K6 e2 hss okT hnm hlen HP
    have hrd := hread K6'.out (Nat.le_refl _) HT.out.1 nm h1
    rw [dtorn_get HD.out.1] at hrd
    go_wp2_with fail
    refine hrd.mono ?_
    rintro e w7 ⟨bv, rfl, K7⟩
    have K7' : Hid (Held w0.heap.size w0 w7 b (dtorn D k nm ss) [(bv, ss), (.slice oa ol oc, og.getD []), (.slice ma mn mc, more)]) := K7
    obtain ⟨ba, bc, rfl⟩ : ∃ ba bc, bv = .slice ba ss.length bc := by
      obtain ⟨ba, bc, e, _⟩ := K7'.out.mem (v := bv) (bs := ss) (by simp)
      exact ⟨ba, bc, e⟩
    obtain ⟨sl, hsl⟩ : ∃ sl, ss.length = sl := ⟨_, rfl⟩
    rw [hsl] at K7' ⊢
    clear K7 hrd K6' hsl
    obtain ⟨kk, hkk⟩ : ∃ kk : Nat, min (k : Int) (mn : Int) = (kk : Int) := ⟨min k mn, by omega⟩
    have hkm : kk ≤ mn ∧ more.take kk = more.take k := by
      refine ⟨by omega, ?_⟩
      by_cases q : k ≤ mn
      · rw [show kk = k by omega]
      · rw [show kk = mn by omega, List.take_of_length_le (by rw [HM.out.1]; omega), List.take_of_length_le (by rw [HM.out.1]; omega)]
    obtain ⟨ta, tc, hts, t1, t2, t3⟩ := sliceB_h (ao := ma) (n := mn) (c := mc) (k := kk) HM.out.2.1 hkm.1
    obtain ⟨ob, hob⟩ : ∃ ob : ByteArray, ob = ⟨([] : Bs).toArray⟩ := ⟨_, rfl⟩
    obtain ⟨mb, hmb⟩ : ∃ mb : ByteArray, mb = ⟨(more.take k).toArray⟩ := ⟨_, rfl⟩
    have HK : Hid (kk ≤ mn ∧ more.take kk = more.take k ∧ kk ≤ tc ∧ tc ≤ mc ∧ (∀ w (xs : Bs), RdG encB w ma xs → RdG encB w ta (xs.take kk)) ∧ ob = ⟨([] : Bs).toArray⟩ ∧ mb = ⟨(more.take k).toArray⟩) := ⟨hkm.1, hkm.2, t1, t2, t3, hob, hmb⟩
    have p1 : ¬ (9223372036854775807 < ob.size + mb.size) := by
      rw [hob, hmb]
      have := HT.out.2.2.1
      show ¬ (9223372036854775807 < ([] : Bs).toArray.size + (more.take k).toArray.size)
      simp only [List.size_toArray, List.length_take]
      omega
    clear hkm t1 t2 t3 hob hmb
    have mkS : ∀ u, Held w0.heap.size w0 u b (dtorn D k nm ss) [(.slice ba sl bc, ss), (.slice oa ol oc, og.getD []), (.slice ma mn mc, more)] →
        Hid (Held w0.heap.size w0 u b (dtorn D k nm ss) [(.slice ba sl bc, ss), (.slice oa ol oc, og.getD []), (.slice ma mn mc, more)]) ∧ (convert 31 9 (.slice ba sl bc)).run Try.prog u = .ok (.string (ob ++ mb)) u ∧ (convert 31 9 (.slice none 0 0)).run Try.prog u = .ok (.string ob) u ∧ (convert 31 9 (.slice ta kk tc)).run Try.prog u = .ok (.string mb) u := by
      intro u hu
      refine ⟨hu, ?_, ?_, ?_⟩
      · have e : Value.string (ob ++ mb) = tx ss := by
          rw [HK.out.2.2.2.2.2.1, HK.out.2.2.2.2.2.2, tx_cat, HT.out.2.2.2]
        rw [e]
        exact conv_str (hu.mem (by simp))
      · rw [HK.out.2.2.2.2.2.1]
        exact conv_str (⟨none, 0, rfl, Nat.le_refl _, by omega, RdG.nil _ _ _⟩)
      · rw [HK.out.2.2.2.2.2.2, ← HK.out.2.1]
        obtain ⟨ma', mc', e', q1, q2, q3⟩ := hu.mem (v := .slice ma mn mc) (bs := more) (by simp)
        rw [HM.out.1] at e'
        cases e'
        have hl : (more.take kk).length = kk := by rw [List.length_take]; have := HM.out.1; have := HK.out.1; omega
        have := conv_str (w := u) (v := .slice ta (more.take kk).length tc) (bs := more.take kk) ⟨ta, tc, rfl, by rw [hl]; exact HK.out.2.2.1, Nat.le_trans HK.out.2.2.2.1 HM.out.2.2.1, HK.out.2.2.2.2.1 u more q3⟩
        rw [hl] at this
        exact this
    have S0 := mkS w7 K7'.out
    go_wp2_with fail
    go_region_held3 (fun u => Hid (Held w0.heap.size w0 u b (dtorn D k nm ss) [(.slice ba sl bc, ss), (.slice oa ol oc, og.getD []), (.slice ma mn mc, more)]) ∧ (convert 31 9 (.slice ba sl bc)).run Try.prog u = .ok (.string (ob ++ mb)) u ∧ (convert 31 9 (.slice none 0 0)).run Try.prog u = .ok (.string ob) u ∧ (convert 31 9 (.slice ta kk tc)).run Try.prog u = .ok (.string mb) u)
      (first | exact mkS _ K10.out | exact mkS _ K9.out | exact mkS _ (K7'.out.below (Nat.le_refl _) (Below.refl _ w7).drew) | exact mkS _ (K7'.out.below (Nat.le_refl _) ((Below.refl _ w7).drew.trans (bz1 w7.drew _))) | (refine mkS _ (Held.below (Hid.out ?_) (Nat.le_refl _) (bz1 _ _)); assumption) | (refine mkS _ (Held.below (Hid.out ?_) (Nat.le_refl _) (Below.refl _ _).drew); assumption) | go_keep)
      (first
        | (go_at_call 19; refine (hrem K9.out (Nat.le_refl _) HT.out.1 (by have := HD.out.2; show D.writes ≤ _; omega) nm h1 _ (dtorn_rem HD.out.1 HT.out.2.1)).mono ?_; rintro e w10 ⟨rfl, K10⟩)
        | (go_at_call 17; refine (hput (K7'.out.below (Nat.le_refl _) ((Below.refl _ w7).drew.trans (bz1 w7.drew _))) (Nat.le_refl _) HT.out.1 (by have := HD.out.2; show D.writes ≤ _; omega) nm h1 (parts_nil w7.drew 31) (by simp) (by simp) _ (dtorn_put HD.out.1 HT.out.2.1)).mono ?_; rintro e w9 ⟨rfl, K9⟩)
        | (go_at_call 18; refine (hdead2 (K7'.out.below (Nat.le_refl _) (Below.refl _ w7).drew) true rfl).mono ?_; rintro e w8 ⟨rfl, rfl⟩))
    clear K9 S0 mkS K7' hts hkk p1
    go_wp2_with fail
    refine (hres K10.out (Nat.le_refl _)).mono ?_
    rintro e w11 ⟨rfl, K11⟩
    have K11' : Hid (Held w0.heap.size w0 w11 b (dres (dtorn D k nm ss)) [(.slice ba sl bc, ss), (.slice oa ol oc, og.getD []), (.slice ma mn mc, more)]) := K11
    clear K10 K11
    rcases og with _ | o
    · obtain ⟨Dr, hr, hrf, hrw⟩ := dback_rem (k := k) (s := ss) HD.out.1 HT.out.2.1 HW.out.2
      have okr : Dr.ok := by have := ok_rem (ok_res HT.out.1) nm; rw [hr] at this; exact this
      have hcall := hrem K11'.out (Nat.le_refl _) (ok_res HT.out.1) (by have := HD.out.2; show D.writes ≤ _; omega) nm h1 _ hr
      go_wp2_with fail
      refine hcall.mono ?_
      rintro e w12 ⟨rfl, K12⟩
      have hda := hdata K12.out (Nat.le_refl _) okr
      rw [show tx (dataOf Dr.files) = .string was by rw [HW.out.1, hrf]] at hda
      clear hcall K11'
      go_wp2_with fail
      refine hda.mono ?_
      rintro e w13 ⟨rfl, K13⟩
      have BE : Hid (Below W.heap.size W w13) := HB.out.trans (K13.out.bel.mono HB.out.size)
      clear hda K12 K13
      go_wp2
      go_ret
      exact ⟨rfl, BE.out⟩
    · obtain ⟨Dt, ht, hdt⟩ := dback_trim (k := k) (s := ss) HD.out.1 HT.out.2.1
      have hcall := htrim K11'.out (Nat.le_refl _) (ok_res HT.out.1) (by have := HD.out.2; show D.writes ≤ _; omega) nm h1 0 _ ht
      go_wp2_with fail
      refine hcall.mono ?_
      rintro e w12 ⟨rfl, K12⟩
      have hdd := hdead2 K12.out false hdt
      have BE : Hid (Below W.heap.size W w12) := HB.out.trans (K12.out.bel.mono HB.out.size)
      clear hcall K11'
      go_wp2_with fail
      refine hdd.mono ?_
      rintro e w13 ⟨rfl, hw13⟩
      rw [hw13]
      clear hw13 w13
      go_wp2
      go_ret
      exact ⟨rfl, BE.out⟩

end Go.Proofs.Ytlhlipjbcapidaa
