/-
  The reference's Scan by a contract: the tokens of a text, or the place of what is none. No condition.
-/
import Derived.Test.YtijchmcajhdcoaaGreatDoorERFit
import Derived.Deep.CutBlock
namespace Go.Proofs.YtijchmcajhdcoaaGreatDoor
open Go.RowKit

/-- A block that holds the signs. -/
def Sgb (w : World) (b : Nat) : Prop := ∀ j, j < 10 → w.cell? ⟨b, j, none⟩ = some (.string ⟨(sgAt j).toArray⟩)
theorem Sgb.new (w : World) : Sgb (w.alloc (.cells sgV 9)) w.heap.size := by
  intro j hj
  rw [World.cell?_alloc_new]
  have h : j = 0 ∨ j = 1 ∨ j = 2 ∨ j = 3 ∨ j = 4 ∨ j = 5 ∨ j = 6 ∨ j = 7 ∨ j = 8 ∨ j = 9 := by omega
  rcases h with rfl | rfl | rfl | rfl | rfl | rfl | rfl | rfl | rfl | rfl <;> rfl
theorem Sgb.set {w : World} {b B o : Nat} {v : Value} (h : Sgb w b) (hne : b ≠ B) : Sgb (w.setCell ⟨B, o, none⟩ v) b := by
  intro j hj
  rw [World.cell?_setCell_other _ _ _ _ (by intro q; injection q; omega)]
  exact h j hj

theorem tbD {wr u u' : World} {p mm : Nat} {k m i : Int} {x : ByteArray} (h : Hid (Tb wr p k x m i u)) (hw : u' = u.drewN mm) : Hid (Tb wr p k x m i u') := by
  rw [hw]
  exact h.out.below (belowD _ mm)
theorem tbB {wr u : World} {p b : Nat} {k m i : Int} {x : ByteArray} (h : Hid (Tb wr p k x m i u)) (hb : u.heap.size ≤ b) : Hid (b ≠ wr.heap.size) := by
  have := h.out.box.lt
  show _ ≠ _
  omega

set_option maxHeartbeats 400000 in
set_option maxRecDepth 100000 in
theorem rsigns_any (w : World) : Calls Tryz.prog 36 #[] w fun e w' => ∃ b, e = .returned (.slice (some ⟨b, 0, none⟩) 10 10) ∧ Hid (Sgb w' b) ∧ Below w.heap.size w w' ∧ w.heap.size ≤ b := by
  go_enter Tryz.func36, Tryz.ntmps36
  go_wp2
  go_ret
  exact ⟨w.heap.size, rfl, Sgb.new w, (Below.refl _ w).alloc (Nat.le_refl _) _, Nat.le_refl _⟩

set_option maxHeartbeats 20000000 in
set_option maxRecDepth 100000 in
theorem rscan_short (s : ByteArray) (hs : s.size ≤ 1024) (w : World) :
    Calls Tryz.prog 14 #[.string s] w fun e w' => ∃ v a c ts er, e = .returned (.tuple #[v, .int .i64 a, .int .i64 c]) ∧ Told s.data.toList w 60 w' v a c ts er := by
  go_enter Tryz.func14, Tryz.ntmps14
  go_wp2
  go_loopg [5, 6] s.size (fun g v i wr => ∃ (p : Nat) (ts : List Tk), i = .int .i64 p ∧ p + g = s.size ∧ Hid (Up s.data.toList w 60 wr v ts p))
  case atStart => exact ⟨0, [], rfl, by omega, Up.start _ _ _⟩
  case round =>
    obtain ⟨p, ts, rfl, hp, HU⟩ := hrel
    obtain ⟨wo, hwo⟩ : ∃ wo, wo = wr := ⟨_, rfl⟩
    subst hwo
    obtain ⟨gz, hgz⟩ : ∃ g, g = gk := ⟨_, rfl⟩
    subst hgz
    by_cases hlt : p < s.size
    · have hget := get_byte s p hlt
      have HC : Hid (_ = _) := hget
      clear hget
      obtain ⟨c, hc⟩ : ∃ c, s[p] = c := ⟨_, rfl⟩
      rw [hc] at HC
      have hpi : (p : Int) < (s.size : Int) := by omega
      have HL : Hid (s.size = s.data.toList.length) := bsize s
      cases hb : isBl c with
      | true =>
        have hb2 : c.toNat = 32 ∨ c.toNat = 9 := by simpa [isBl] using hb
        rcases hb2 with hb2 | hb2
        all_goals
          have e1 : ((c.toNat : Int) == 32) = decide (c.toNat = 32) := by rw [hb2]; rfl
          have e2 : ((c.toNat : Int) == 9) = decide (c.toNat = 9) := by rw [hb2]; rfl
          rw [hb2] at e1 e2
          go_wp2_with fail
          go_roundg (gz - 1)
          case measure => omega
          case rel => exact ⟨p + 1, ts, by go_num, by omega, HU.out.skip HC.out hb⟩
      | false =>
        have hb2 : ¬ c.toNat = 32 ∧ ¬ c.toNat = 9 := by simpa [isBl] using hb
        have e1 : ((c.toNat : Int) == 32) = false := by rw [beq_eq_false_iff_ne]; omega
        have e2 : ((c.toNat : Int) == 9) = false := by rw [beq_eq_false_iff_ne]; omega
        go_upto_block 2 with fail
        go_cut [8] (fun v u => ∃ (k m i : Int) (x : ByteArray) (n e : Nat), v = .int .i64 (e : Int) ∧ Hid (e = p + n) ∧ e ≤ s.size ∧ Hid (Tb wo p k x m i u) ∧ Hid (Fit s.data.toList p k x m i n))
        case first =>
          have HT0 : Hid (Tb wo p 0 ⟨#[]⟩ 0 0 _) := Tb.new wo p
          obtain ⟨u0, hu0⟩ : ∃ u, wo.alloc (.cells #[.int .i64 0, .string ⟨#[]⟩, .int .i64 0, .int .u64 0, .int .i64 (p : Int)] 60) = u := ⟨_, rfl⟩
          rw [hu0] at HT0 ⊢
          clear hu0
          have htk := tok1_at HC.out
          have HK : Hid (_ = _) := htk
          have hlo := fun w => rlo_any c w
          have hdi := fun w => rdi_any c w
          clear htk e1 e2 hb2
          by_cases h1 : isLo c = true
          · rw [h1] at hlo
            have HF : Hid (tok1 (s.data.toList.drop p) = nameT (s.data.toList.drop p)) := by show _ = _; rw [HK.out, if_pos h1]
            go_upto_block 5 with (go_at_call 33; refine (hlo _).mono ?_; rintro e w' ⟨rfl, rfl⟩)
            go_cut [8] (fun v u => ∃ e : Nat, v = .int .i64 (e : Int) ∧ e ≤ s.size ∧ Hid (e = p + spn isNm (s.data.toList.drop p)) ∧ Hid (Tb wo p 0 ⟨#[]⟩ 0 0 u))
            case first =>
              go_wp2_with fail
              go_loop [8] (fun v => ∃ e : Nat, v = .int .i64 (e : Int) ∧ p ≤ e ∧ e ≤ s.size ∧ Hid (e - p ≤ spn isNm (s.data.toList.drop p))) (fun v => s.size - (intOf v).toNat)
              case atStart => exact ⟨p, rfl, Nat.le_refl _, by omega, by show p - p ≤ _; omega⟩
              case round =>
                obtain ⟨e, rfl, hpe, hes, HS⟩ := hrel
                by_cases hel : e < s.size
                · have hg2 := get_byte s e hel
                  obtain ⟨d, hd⟩ : ∃ d, s[e] = d := ⟨_, rfl⟩
                  rw [hd] at hg2
                  have HX : Hid (_ ∧ _) := span_go hpe HS.out hg2
                  have hlo2 := fun w => rlo_any d w
                  have hdi2 := fun w => rdi_any d w
                  have heli : (e : Int) < (s.size : Int) := by omega
                  clear hg2
                  by_cases q1 : isLo d = true
                  · as_aux_lemma =>
                      rw [q1] at hlo2
                      have HN : Hid (_ ≤ _) := HX.out.1 (by simp [isNm, q1])
                      go_wp2_with (go_at_call 33; refine (hlo2 _).mono ?_; rintro e w' ⟨rfl, rfl⟩)
                      go_round
                      case rel => exact ⟨e + 1, by go_num, by omega, by omega, HN⟩
                      case measure => simp [intOf]; omega
                  have q1' : isLo d = false := by simpa using q1
                  rw [q1'] at hlo2
                  by_cases q2 : isDi d = true
                  · as_aux_lemma =>
                      rw [q2] at hdi2
                      have HN : Hid (_ ≤ _) := HX.out.1 (by simp [isNm, q2])
                      go_wp2_with (first | (go_at_call 33; refine (hlo2 _).mono ?_; rintro e w' ⟨rfl, rfl⟩) | (go_at_call 34; refine (hdi2 _).mono ?_; rintro e w' ⟨rfl, rfl⟩))
                      go_round
                      case rel => exact ⟨e + 1, by go_num, by omega, by omega, HN⟩
                      case measure => simp [intOf]; omega
                  have q2' : isDi d = false := by simpa using q2
                  rw [q2'] at hdi2
                  by_cases q3 : d.toNat = 95
                  · as_aux_lemma =>
                      have e95 : ((d.toNat : Int) == 95) = true := by rw [q3]; rfl
                      have HN : Hid (_ ≤ _) := HX.out.1 (by simp [isNm, q3])
                      clear q3
                      go_wp2_with (first | (go_at_call 33; refine (hlo2 _).mono ?_; rintro e w' ⟨rfl, rfl⟩) | (go_at_call 34; refine (hdi2 _).mono ?_; rintro e w' ⟨rfl, rfl⟩))
                      go_round
                      case rel => exact ⟨e + 1, by go_num, by omega, by omega, HN⟩
                      case measure => simp [intOf]; omega
                  · as_aux_lemma =>
                      have e95 : ((d.toNat : Int) == 95) = false := by rw [beq_eq_false_iff_ne]; omega
                      have HN : Hid (_ = _) := HX.out.2 (by simp [isNm, q1', q2', q3])
                      go_wp2_with (first | (go_at_call 33; refine (hlo2 _).mono ?_; rintro e w' ⟨rfl, rfl⟩) | (go_at_call 34; refine (hdi2 _).mono ?_; rintro e w' ⟨rfl, rfl⟩))
                      go_meet
                      exact ⟨e, rfl, hes, HN, HT0⟩
                · as_aux_lemma =>
                    have HN : Hid (_ = _) := span_out hpe HS.out (by rw [← HL.out]; omega)
                    go_wp2
                    go_meet
                    exact ⟨e, rfl, hes, HN, HT0⟩
            case rest =>
              obtain ⟨e, rfl, hes, HE, HT⟩ := hcut
              have hpe : p ≤ e := by have := HE.out; omega
              by_cases h16 : e ≤ p + 16
              · as_aux_lemma =>
                  obtain ⟨c0, c1, c2, c3, c4⟩ := HT.out.box.cells
                  obtain ⟨f0, f1, f2, f3, f4⟩ := HT.out.box.thaw
                  have h16i : (e : Int) - (p : Int) ≤ 16 := by omega
                  go_wp2_with fail
                  go_meet
                  exact ⟨1, 0, 0, s.extract p e, e - p, e, rfl, by show e = _; omega, hes, (HT.out.kind 1).text _, fit_name HC.out h1 HF.out HE.out h16⟩
              · as_aux_lemma =>
                  have h16i : ¬ (e : Int) - (p : Int) ≤ 16 := by omega
                  go_wp2_with fail
                  go_meet
                  exact ⟨0, 0, 0, _, e - p, e, rfl, by show e = _; omega, hes, HT, fit_name_no HF.out HE.out h16⟩
          have h1' : isLo c = false := by simpa using h1
          rw [h1'] at hlo
          by_cases h2 : isDi c = true
          · rw [h2] at hdi
            have HF : Hid (tok1 (s.data.toList.drop p) = numT (s.data.toList.drop p)) := by show _ = _; rw [HK.out, if_neg h1, if_pos h2]
            go_upto_block 7 with (first | (go_at_call 33; refine (hlo _).mono ?_; rintro e w' ⟨rfl, rfl⟩) | (go_at_call 34; refine (hdi _).mono ?_; rintro e w' ⟨rfl, rfl⟩))
            go_cut [8] (fun v u => ∃ (e m : Nat), v = .int .i64 (e : Int) ∧ e ≤ s.size ∧ Hid (e = p + spn isDi (s.data.toList.drop p)) ∧ Hid (m = numAt (s.data.toList.drop p) (e - p)) ∧ Hid (Tb wo p 0 ⟨#[]⟩ (m : Int) 0 u))
            case first =>
              go_wp2_with fail
              go_loopg [8] (s.size - p) (fun g v u => ∃ (e m : Nat), v = .int .i64 (e : Int) ∧ p ≤ e ∧ e + g = s.size ∧ Hid (e - p ≤ spn isDi (s.data.toList.drop p)) ∧ Hid (m = numAt (s.data.toList.drop p) (e - p)) ∧ Hid (Tb wo p 0 ⟨#[]⟩ (m : Int) 0 u))
              case atStart => exact ⟨p, 0, rfl, Nat.le_refl _, by omega, by show p - p ≤ _; omega, by show 0 = _; rw [Nat.sub_self]; rfl, HT0⟩
              case round =>
                obtain ⟨e, m, rfl, hpe, hes, HS, HM, HT⟩ := hrel
                by_cases hel : e < s.size
                · have hg2 := get_byte s e hel
                  obtain ⟨d, hd⟩ : ∃ d, s[e] = d := ⟨_, rfl⟩
                  rw [hd] at hg2
                  have HX : Hid (_ ∧ _) := span_go hpe HS.out hg2
                  have HG2 : Hid (_ = _) := hg2
                  have hdi2 := fun w => rdi_any d w
                  have heli : (e : Int) < (s.size : Int) := by omega
                  have hml : m ≤ 999999999 := by rw [HM.out]; exact numAt_lt HS.out
                  clear hg2
                  by_cases q2 : isDi d = true
                  · rw [q2] at hdi2
                    have HN : Hid (_ ≤ _) := HX.out.1 q2
                    obtain ⟨d0, d1⟩ := (isDi_iff d).1 q2
                    by_cases h9 : e - p < 9
                    · as_aux_lemma =>
                        have h9i : (e : Int) - (p : Int) < 9 := by omega
                        obtain ⟨c0, c1, c2, c3, c4⟩ := HT.out.box.cells
                        obtain ⟨f0, f1, f2, f3, f4⟩ := HT.out.box.thaw
                        have HQ : Hid (m * 10 + (d.toNat - 48) = numAt (s.data.toList.drop p) (e + 1 - p)) := by
                          show _ = _
                          rw [HM.out, show e + 1 - p = e - p + 1 by omega, numAt_step h9 (by rw [List.getElem?_drop, show p + (e - p) = e by omega]; exact HG2.out)]
                        go_wp2_with (go_at_call 34; refine (hdi2 _).mono ?_; rintro e w' ⟨rfl, rfl⟩)
                        go_region
                        go_wp2
                        go_roundg (gk - 1)
                        case measure => omega
                        case rel =>
                          refine ⟨e + 1, m * 10 + (d.toNat - 48), by go_num, by omega, by omega, HN, HQ, ?_⟩
                          have e1 : ((m * 10 + (d.toNat - 48) : Nat) : Int) = (m : Int) * 10 + ((d.toNat : Int) - 48) := by omega
                          rw [e1]
                          exact (HT.out.num _).below (Below.refl _ _).drew
                    · as_aux_lemma =>
                        have h9i : ¬ (e : Int) - (p : Int) < 9 := by omega
                        have HQ : Hid (m = numAt (s.data.toList.drop p) (e + 1 - p)) := by
                          show _ = _
                          rw [show e + 1 - p = e - p + 1 by omega, numAt_stay h9]
                          exact HM.out
                        go_wp2_with (go_at_call 34; refine (hdi2 _).mono ?_; rintro e w' ⟨rfl, rfl⟩)
                        go_roundg (gk - 1)
                        case measure => omega
                        case rel => exact ⟨e + 1, m, by go_num, by omega, by omega, HN, HQ, HT⟩
                  · as_aux_lemma =>
                      have q2' : isDi d = false := by simpa using q2
                      rw [q2'] at hdi2
                      have HN : Hid (_ = _) := HX.out.2 q2'
                      go_wp2_with (go_at_call 34; refine (hdi2 _).mono ?_; rintro e w' ⟨rfl, rfl⟩)
                      go_meet
                      exact ⟨e, m, rfl, by omega, HN, HM, HT⟩
                · as_aux_lemma =>
                    have HN : Hid (_ = _) := span_out hpe HS.out (by rw [← HL.out]; omega)
                    go_wp2
                    go_meet
                    exact ⟨e, m, rfl, by omega, HN, HM, HT⟩
            case rest =>
              obtain ⟨e, m, rfl, hes, HE, HM, HT⟩ := hcut
              have hpe : p ≤ e := by have := HE.out; omega
              by_cases h9 : e ≤ p + 9
              · have h9i : (e : Int) - (p : Int) ≤ 9 := by omega
                by_cases h48 : c.toNat = 48
                · have e48 : ((c.toNat : Int) == 48) = true := by rw [h48]; rfl
                  have n48 : ((c.toNat : Int) != 48) = false := by rw [h48]; rfl
                  by_cases hone : e = p + 1
                  · as_aux_lemma =>
                      have eone : ((e : Int) - (p : Int) == 1) = true := by rw [beq_iff_eq]; omega
                      have HFF : Hid (Fit s.data.toList p 2 ⟨#[]⟩ (m : Int) 0 (e - p)) := fit_num rfl HC.out h2 HF.out HE.out (by rw [HM.out]) h9 (.inr hone)
                      obtain ⟨c0, c1, c2, c3, c4⟩ := HT.out.box.cells
                      obtain ⟨f0, f1, f2, f3, f4⟩ := HT.out.box.thaw
                      clear h48 hone
                      go_wp2_with fail
                      go_meet
                      exact ⟨2, (m : Int), 0, ⟨#[]⟩, e - p, e, rfl, by show e = _; omega, hes, HT.out.kind 2, HFF⟩
                  · as_aux_lemma =>
                      have eone : ((e : Int) - (p : Int) == 1) = false := by rw [beq_eq_false_iff_ne]; omega
                      have HFF : Hid (Fit s.data.toList p 0 ⟨#[]⟩ (m : Int) 0 (e - p)) := fit_num_no HC.out HF.out HE.out (.inr ⟨h48, hone, h2⟩)
                      clear h48
                      go_wp2_with fail
                      go_meet
                      exact ⟨0, (m : Int), 0, ⟨#[]⟩, e - p, e, rfl, by show e = _; omega, hes, HT, HFF⟩
                · as_aux_lemma =>
                    have e48 : ((c.toNat : Int) == 48) = false := by rw [beq_eq_false_iff_ne]; omega
                    have n48 : ((c.toNat : Int) != 48) = true := by rw [bne_iff_ne]; omega
                    have HFF : Hid (Fit s.data.toList p 2 ⟨#[]⟩ (m : Int) 0 (e - p)) := fit_num rfl HC.out h2 HF.out HE.out (by rw [HM.out]) h9 (.inl h48)
                    obtain ⟨c0, c1, c2, c3, c4⟩ := HT.out.box.cells
                    obtain ⟨f0, f1, f2, f3, f4⟩ := HT.out.box.thaw
                    go_wp2_with fail
                    go_meet
                    exact ⟨2, (m : Int), 0, ⟨#[]⟩, e - p, e, rfl, by show e = _; omega, hes, HT.out.kind 2, HFF⟩
              · as_aux_lemma =>
                  have h9i : ¬ (e : Int) - (p : Int) ≤ 9 := by omega
                  have HFF : Hid (Fit s.data.toList p 0 ⟨#[]⟩ (m : Int) 0 (e - p)) := fit_num_no HC.out HF.out HE.out (.inl h9)
                  go_wp2_with fail
                  go_meet
                  exact ⟨0, (m : Int), 0, ⟨#[]⟩, e - p, e, rfl, by show e = _; omega, hes, HT, HFF⟩
          have h2' : isDi c = false := by simpa using h2
          rw [h2'] at hdi
          by_cases h3 : c.toNat = 39
          · have e3 : ((c.toNat : Int) == 39) = true := by rw [h3]; rfl
            have HF : Hid (tok1 (s.data.toList.drop p) = textT (s.data.toList.drop p)) := by show _ = _; rw [HK.out, if_neg h1, if_neg h2, if_pos h3]
            clear h3 h1 h2
            go_upto_block 9 with (first | (go_at_call 33; refine (hlo _).mono ?_; rintro e w' ⟨rfl, rfl⟩) | (go_at_call 34; refine (hdi _).mono ?_; rintro e w' ⟨rfl, rfl⟩))
            go_cut [8] (fun v u => ∃ e : Nat, v = .int .i64 (e : Int) ∧ e ≤ s.size ∧ Hid (e = p + 1 + spn isTx (s.data.toList.drop (p + 1))) ∧ Hid (Tb wo p 0 ⟨#[]⟩ 0 0 u))
            case first =>
              go_wp2_with fail
              go_loop [8] (fun v => ∃ e : Nat, v = .int .i64 (e : Int) ∧ p + 1 ≤ e ∧ e ≤ s.size ∧ Hid (e - (p + 1) ≤ spn isTx (s.data.toList.drop (p + 1)))) (fun v => s.size - (intOf v).toNat)
              case atStart => exact ⟨p + 1, by go_num, Nat.le_refl _, by omega, by show p + 1 - (p + 1) ≤ _; omega⟩
              case round =>
                obtain ⟨e, rfl, hpe, hes, HS⟩ := hrel
                by_cases hel : e < s.size
                · have hg2 := get_byte s e hel
                  obtain ⟨d, hd⟩ : ∃ d, s[e] = d := ⟨_, rfl⟩
                  rw [hd] at hg2
                  have HX : Hid (_ ∧ _) := span_go hpe HS.out hg2
                  have heli : (e : Int) < (s.size : Int) := by omega
                  clear hg2
                  by_cases q1 : d.toNat = 39
                  · as_aux_lemma =>
                      have y1 : ((d.toNat : Int) == 39) = true := by rw [q1]; rfl
                      have y2 : ((d.toNat : Int) != 39) = false := by rw [q1]; rfl
                      have HN : Hid (_ = _) := HX.out.2 (by simp [isTx, q1])
                      clear q1
                      go_wp2_with fail
                      go_meet
                      exact ⟨e, rfl, hes, HN, HT0⟩
                  have y1 : ((d.toNat : Int) == 39) = false := by rw [beq_eq_false_iff_ne]; omega
                  have y2 : ((d.toNat : Int) != 39) = true := by rw [bne_iff_ne]; omega
                  by_cases q2 : d.toNat = 10
                  · as_aux_lemma =>
                      have z1 : ((d.toNat : Int) == 10) = true := by rw [q2]; rfl
                      have z2 : ((d.toNat : Int) != 10) = false := by rw [q2]; rfl
                      have HN : Hid (_ = _) := HX.out.2 (by simp [isTx, q2])
                      clear q2 q1
                      go_wp2_with fail
                      go_meet
                      exact ⟨e, rfl, hes, HN, HT0⟩
                  · as_aux_lemma =>
                      have z1 : ((d.toNat : Int) == 10) = false := by rw [beq_eq_false_iff_ne]; omega
                      have z2 : ((d.toNat : Int) != 10) = true := by rw [bne_iff_ne]; omega
                      have HN : Hid (_ ≤ _) := HX.out.1 (by simp [isTx, q1, q2])
                      go_wp2_with fail
                      go_round
                      case rel => exact ⟨e + 1, by go_num, by omega, by omega, HN⟩
                      case measure => simp [intOf]; omega
                · as_aux_lemma =>
                    have HN : Hid (_ = _) := span_out hpe HS.out (by rw [← HL.out]; omega)
                    go_wp2
                    go_meet
                    exact ⟨e, rfl, hes, HN, HT0⟩
            case rest =>
              obtain ⟨e, rfl, hes, HE, HT⟩ := hcut
              have hpe : p + 1 ≤ e := by have := HE.out; omega
              by_cases hel : e < s.size
              · have hg2 := get_byte s e hel
                obtain ⟨d, hd⟩ : ∃ d, s[e] = d := ⟨_, rfl⟩
                rw [hd] at hg2
                have heli : (e : Int) < (s.size : Int) := by omega
                by_cases q1 : d.toNat = 39
                · as_aux_lemma =>
                    have y1 : ((d.toNat : Int) == 39) = true := by rw [q1]; rfl
                    have HFF : Hid (Fit s.data.toList p 3 (s.extract (p + 1) e) 0 0 (e + 1 - p)) := fit_text HF.out HE.out (by rw [hg2, UInt8.toNat_inj.1 (show d.toNat = (39 : UInt8).toNat from q1)])
                    obtain ⟨c0, c1, c2, c3, c4⟩ := HT.out.box.cells
                    obtain ⟨f0, f1, f2, f3, f4⟩ := HT.out.box.thaw
                    clear q1 hg2
                    go_wp2_with fail
                    go_meet
                    exact ⟨3, 0, 0, s.extract (p + 1) e, e + 1 - p, e + 1, by go_num, by show e + 1 = _; omega, by omega, (HT.out.kind 3).text _, HFF⟩
                · as_aux_lemma =>
                    have y1 : ((d.toNat : Int) == 39) = false := by rw [beq_eq_false_iff_ne]; omega
                    have HFF : Hid (Fit s.data.toList p 0 ⟨#[]⟩ 0 0 (e - p)) := fit_text_no HF.out HE.out (by
                      rw [hg2]
                      intro q
                      exact q1 (by rw [Option.some.inj q]; rfl))
                    clear hg2
                    go_wp2_with fail
                    go_meet
                    exact ⟨0, 0, 0, ⟨#[]⟩, e - p, e, rfl, by show e = _; omega, hes, HT, HFF⟩
              · as_aux_lemma =>
                  have HFF : Hid (Fit s.data.toList p 0 ⟨#[]⟩ 0 0 (e - p)) := fit_text_no HF.out HE.out (by
                    rw [List.getElem?_eq_none (by rw [← HL.out]; omega)]
                    simp)
                  go_wp2_with fail
                  go_meet
                  exact ⟨0, 0, 0, ⟨#[]⟩, e - p, e, rfl, by show e = _; omega, hes, HT, HFF⟩
          have e3 : ((c.toNat : Int) == 39) = false := by rw [beq_eq_false_iff_ne]; omega
          by_cases h4 : c.toNat = 35
          · have e4 : ((c.toNat : Int) == 35) = true := by rw [h4]; rfl
            have HF : Hid (tok1 (s.data.toList.drop p) = hashT (s.data.toList.drop p)) := by show _ = _; rw [HK.out, if_neg h1, if_neg h2, if_neg h3, if_pos h4]
            clear h4 h3 h1 h2
            by_cases h17 : p + 17 ≤ s.size
            · have h17i : (p : Int) + 17 ≤ (s.size : Int) := by omega
              have hpr := fun w => rpar_any (s.extract (p + 1) (p + 17)) w
              rw [hash_mid] at hpr
              obtain ⟨⟨i, cd⟩, hic⟩ : ∃ ic, hash16 (s.data.toList.drop p) = ic := ⟨_, rfl⟩
              rw [hic] at hpr
              by_cases hcd : cd = 0
              · as_aux_lemma =>
                  subst hcd
                  have HFF : Hid (Fit s.data.toList p 4 ⟨#[]⟩ 0 i 17) := fit_hash rfl HF.out (by rw [← HL.out]; exact h17) hic
                  clear hic
                  go_wp2_with (first | (go_at_call 33; refine (hlo _).mono ?_; rintro e w' ⟨rfl, rfl⟩) | (go_at_call 34; refine (hdi _).mono ?_; rintro e w' ⟨rfl, rfl⟩) | (go_at_call 35; refine (hpr _).mono ?_; rintro e w2 ⟨rfl, mm, hw2⟩; have HT := tbD HT0 hw2; clear hw2; obtain ⟨c0, c1, c2, c3, c4⟩ := HT.out.box.cells; obtain ⟨f0, f1, f2, f3, f4⟩ := HT.out.box.thaw))
                  go_meet
                  exact ⟨4, 0, i, ⟨#[]⟩, 17, p + 17, by go_num, by show p + 17 = _; omega, h17, (HT.out.kind 4).id _, HFF⟩
              · as_aux_lemma =>
                  have m0 : (cd == 0) = false := by simpa using hcd
                  have HFF : Hid (Fit s.data.toList p 0 ⟨#[]⟩ 0 0 0) := fit_hash_no HF.out (.inr (by rw [hic]; exact hcd))
                  clear hic
                  go_wp2_with (first | (go_at_call 33; refine (hlo _).mono ?_; rintro e w' ⟨rfl, rfl⟩) | (go_at_call 34; refine (hdi _).mono ?_; rintro e w' ⟨rfl, rfl⟩) | (go_at_call 35; refine (hpr _).mono ?_; rintro e w2 ⟨rfl, mm, hw2⟩; have HT := tbD HT0 hw2; clear hw2))
                  go_meet
                  exact ⟨0, 0, 0, ⟨#[]⟩, 0, p, rfl, by show p = _; omega, by omega, HT, HFF⟩
            · as_aux_lemma =>
                have h17i : ¬ (p : Int) + 17 ≤ (s.size : Int) := by omega
                have HFF : Hid (Fit s.data.toList p 0 ⟨#[]⟩ 0 0 0) := fit_hash_no HF.out (.inl (by rw [← HL.out]; omega))
                go_wp2_with (first | (go_at_call 33; refine (hlo _).mono ?_; rintro e w' ⟨rfl, rfl⟩) | (go_at_call 34; refine (hdi _).mono ?_; rintro e w' ⟨rfl, rfl⟩))
                go_meet
                exact ⟨0, 0, 0, ⟨#[]⟩, 0, p, rfl, by show p = _; omega, by omega, HT0, HFF⟩
          · have e4 : ((c.toNat : Int) == 35) = false := by rw [beq_eq_false_iff_ne]; omega
            have HF : Hid (tok1 (s.data.toList.drop p) = signT (s.data.toList.drop p)) := by show _ = _; rw [HK.out, if_neg h1, if_neg h2, if_neg h3, if_neg h4]
            clear h4 h3 h1 h2
            go_wp2_with (first | (go_at_call 33; refine (hlo _).mono ?_; rintro e w' ⟨rfl, rfl⟩) | (go_at_call 34; refine (hdi _).mono ?_; rintro e w' ⟨rfl, rfl⟩) | (go_at_call 36; refine (rsigns_any _).mono ?_; rintro e w2 ⟨b, rfl, HSB, hb2, hle⟩; have HT2 : Hid (Tb wo p 0 ⟨#[]⟩ 0 0 w2) := HT0.out.below hb2; have HBB := tbB HT0 hle; clear hb2 hle))
            go_loopg [8, 12] 10 (fun g ev iv u => ∃ (j e : Nat) (k : Int) (x : ByteArray), iv = .int .i64 (j : Int) ∧ j + g = 10 ∧ ev = .int .i64 (e : Int) ∧ e ≤ s.size ∧ p ≤ e ∧ Hid (SgSo s.data.toList p j k x e) ∧ Hid (Tb wo p k x 0 0 u) ∧ Hid (Sgb u b))
            case atStart => exact ⟨0, p, 0, ⟨#[]⟩, rfl, rfl, rfl, by omega, Nat.le_refl _, SgSo.start _ _, HT2, HSB⟩
            case round =>
              obtain ⟨j, e, k, x, rfl, hj, rfl, hes, hpe, HSO, HT, HSB2⟩ := hrel
              by_cases hj10 : j < 10
              · have hlen := sg_len j hj10
                obtain ⟨y, hy⟩ : ∃ y : ByteArray, y = ⟨(sgAt j).toArray⟩ := ⟨_, rfl⟩
                have hcy := HSB2.out j hj10
                rw [← hy] at hcy
                have hys : y.size = (sgAt j).length := by rw [hy]; rfl
                have hyd : y.data.toList = sgAt j := by rw [hy]
                have HY : Hid (y.data.toList = sgAt j ∧ y.size = (sgAt j).length) := ⟨hyd, hys⟩
                have hy2 : y.size ≤ 2 := by omega
                have hji : (j : Int) < 10 := by omega
                have hq : ((s.extract p (p + y.size)).toList == y.toList) = (sgAt j).isPrefixOf (s.data.toList.drop p) := by
                  rw [ByteArray.toList_eq, ByteArray.toList_eq, ext_mid, show p + y.size - p = y.size by omega, hyd, hys, sg_match]
                obtain ⟨c0, c1, c2, c3, c4⟩ := HT.out.box.cells
                obtain ⟨f0, f1, f2, f3, f4⟩ := HT.out.box.thaw
                have hbn : ¬ b = wo.heap.size := HBB.out
                have hbn2 : ¬ wo.heap.size = b := fun q => HBB.out q.symm
                clear hy hys hyd hlen
                by_cases hfit : p + y.size ≤ s.size
                · have hfi : (p : Int) + (y.size : Int) ≤ (s.size : Int) := by omega
                  have hfd : decide ((p : Int) + (y.size : Int) ≤ (s.size : Int)) = true := decide_eq_true hfi
                  cases hm : (sgAt j).isPrefixOf (s.data.toList.drop p) with
                  | true =>
                    as_aux_lemma =>
                      rw [hm] at hq
                      have HH : Hid (SgSo s.data.toList p (j + 1) 5 y (p + y.size)) := by
                        have := SgSo.hit (l := s.data.toList) (p := p) hj10 hm HY.out.1
                        rw [← HY.out.2] at this
                        exact this
                      clear hm
                      go_upto_region 15 with fail
                      go_quiet (fail)
                      go_wp2_with fail
                      go_roundg (gk - 1)
                      case measure => omega
                      case rel => exact ⟨j + 1, p + y.size, 5, y, by go_num, by omega, by go_num, hfit, by omega, HH, ((HT.out.below (belowD _ _)).kind 5).text y, Sgb.set (Sgb.set (show Sgb (World.drewN _ _) b from fun i hi => HSB2.out i hi) hbn) hbn⟩
                  | false =>
                    as_aux_lemma =>
                      rw [hm] at hq
                      have HH : Hid (SgSo s.data.toList p (j + 1) k x e) := HSO.out.miss hm
                      clear hm
                      go_upto_region 15 with fail
                      go_quiet (fail)
                      go_wp2_with fail
                      go_roundg (gk - 1)
                      case measure => omega
                      case rel => exact ⟨j + 1, e, k, x, by go_num, by omega, rfl, hes, hpe, HH, HT.out.below (belowD _ _), fun i hi => HSB2.out i hi⟩
                · as_aux_lemma =>
                    have hfi : ¬ (p : Int) + (y.size : Int) ≤ (s.size : Int) := by omega
                    have hfd : decide ((p : Int) + (y.size : Int) ≤ (s.size : Int)) = false := decide_eq_false hfi
                    have HH : Hid (SgSo s.data.toList p (j + 1) k x e) := HSO.out.miss (sg_far (by rw [← HL.out, ← HY.out.2]; omega) (by rw [← HL.out]; omega))
                    clear hq
                    go_upto_region 15 with fail
                    go_quiet (fail)
                    go_wp2_with fail
                    go_roundg (gk - 1)
                    case measure => omega
                    case rel => exact ⟨j + 1, e, k, x, by go_num, by omega, rfl, hes, hpe, HH, HT.out.below (belowD _ _), fun i hi => HSB2.out i hi⟩
              · as_aux_lemma =>
                  obtain rfl : j = 10 := by omega
                  have HH : Hid (Fit s.data.toList p k x 0 0 (e - p)) := HSO.out.fit HF.out
                  go_wp2_with fail
                  go_meet
                  exact ⟨k, 0, 0, x, e - p, e, rfl, by show e = _; omega, hes, HT, HH⟩
        case rest =>
          obtain ⟨k, m, i, x, n, e, rfl, HE, hes, HT, HF⟩ := hcut
          obtain ⟨c0, c1, c2, c3, c4⟩ := HT.out.box.cells
          rcases HF.out with ⟨hk, hz⟩ | ⟨hk, hz, hn0⟩
          · as_aux_lemma =>
              subst hk
              have HZ : Hid (_ = _) := hz
              clear hz
              go_wp2
              refine bodyPost_ret (v := .tuple #[.slice none 0 0, .int .i64 p, .int .i64 30]) ?_ rfl ⟨_, _, _, ts, some p, rfl, HU.out.bad HC.out hb HZ.out, HU.out.bel.trans (HT.out.bel.mono HU.out.bel.size), rfl, rfl, rfl⟩
              simp [results, Tryz.f14]
          · as_aux_lemma =>
              have m0 : (k == 0) = false := by rw [beq_eq_false_iff_ne]; exact hk
              have HZ : Hid (_ = _) := hz
              clear hz
              go_wp2_with (at_builtin; refine appG_one encT 60 53 48 _ rfl info45 Tryz.underlying53 rfl (.tmp 238) (.tmp 240) rfl w.heap.size _ ts (Tk.at ⟨k, x.data.toList, m, i, 0⟩ p) 60 rfl (HU.out.own.below HT.out.bel) rfl (by have := HU.out.few; omega) (by have := HU.out.few; simp only [maxLen]; omega) (by have := HU.out.bel.size; have := HT.out.bel.size; omega) _ rfl ?_; intro v3 w3 ho3 hb3 _ _)
              have he := HE.out
              go_roundg (gz - n)
              case measure => omega
              case rel =>
                have b1 := HU.out.bel.trans (HT.out.bel.mono HU.out.bel.size)
                refine ⟨p + n, _, by rw [he], by omega, HU.out.tok HC.out hb HZ.out hn0 ho3 (b1.trans hb3)⟩
    · as_aux_lemma =>
        obtain rfl : p = s.size := by omega
        obtain ⟨ao, cap, hv, _, _, _, _⟩ := HU.out.own.form
        subst hv
        go_wp2
        refine bodyPost_ret (v := .tuple #[.slice ao ts.length cap, .int .i64 0, .int .i64 0]) ?_ rfl ⟨_, _, _, ts, none, rfl, HU.out.done (by rw [← bsize]; exact Nat.le_refl _), HU.out.bel, rfl, rfl, HU.out.own⟩
        simp [results, Tryz.f14]

end Go.Proofs.YtijchmcajhdcoaaGreatDoor
