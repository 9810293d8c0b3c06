/-
  The reference's Runs by a contract: the runs of the numbers, in a new row; what is handed in is left as it was. At most 1,000,000 numbers.
-/
import Derived.Test.YtnodkpnbfklmhaaDoorMRuns
namespace Go.Proofs.YtnodkpnbfklmhaaDoor
open Go.RowKit

theorem info38' : (Tryd.prog.info? 38).map (fun i => (i.zero, i.size, i.bytes)) = some (some (.agg #[.int .i64 0, .int .i64 0]), 2, 16) := by kernel_rfl

theorem any_mem {l : List Int} {z : Int} : l.any (· == z) = true ↔ z ∈ l := by simp

/-- How many of a list are above a number. -/
def above (l : List Int) (t : Int) : Nat := (l.filter (fun y => decide (t < y))).length
theorem above_less {l : List Int} {t : Int} (h : t + 1 ∈ l) : above l (t + 1) < above l t := by
  induction l with
  | nil => simp at h
  | cons a r ih =>
    have mono : ∀ r : List Int, above r (t + 1) ≤ above r t := by
      intro r
      induction r with
      | nil => simp [above]
      | cons b r ih =>
        simp only [above, List.filter_cons] at ih ⊢
        by_cases h1 : t + 1 < b
        · have h2 : t < b := by omega
          simp [h1, h2]; exact ih
        · by_cases h2 : t < b
          · simp [h1, h2]; omega
          · simp [h1, h2]; exact ih
    simp only [above, List.filter_cons]
    rcases List.mem_cons.1 h with e | e
    · subst e
      have := mono r
      simp only [above] at this
      have h1 : ¬ t + 1 < t + 1 := by omega
      have h2 : t < t + 1 := by omega
      simp only [h1, h2, decide_false, decide_true, if_true, if_false, Bool.false_eq_true, List.length_cons]
      omega
    · have := ih e
      simp only [above] at this
      by_cases h1 : t + 1 < a
      · have h2 : t < a := by omega
        simp [h1, h2]; exact this
      · by_cases h2 : t < a
        · simp [h1, h2]; omega
        · simp [h1, h2]; exact this

theorem drop_step {R : List Pr} {a : Nat} {x : Int} {r : Pr} (h : ∀ q ∈ R.drop (a + 1), x < q.1) (hr : R[a]? = some r) (hx : x < r.1) : ∀ q ∈ R.drop a, x < q.1 := by
  obtain ⟨hlt, e⟩ := List.getElem?_eq_some_iff.1 hr
  rw [List.drop_eq_getElem_cons hlt, e]
  intro q hq
  rcases List.mem_cons.1 hq with rfl | p
  · exact hx
  · exact h q p

theorem take_low {R : List Pr} (hup : R.Pairwise (fun a b => a.1 < b.1)) {a : Nat} {x : Int} {r : Pr} (hr : R[a]? = some r) (hx : r.1 ≤ x) : ∀ q ∈ R.take (a + 1), q.1 ≤ x := by
  intro q hq
  rw [List.take_add_one, hr] at hq
  rcases List.mem_append.1 hq with p | p
  · obtain ⟨j, hj, rfl⟩ := List.mem_iff_getElem.1 p
    have hj' : j < a ∧ j < R.length := by simp at hj; omega
    obtain ⟨hlt, e⟩ := List.getElem?_eq_some_iff.1 hr
    have := List.pairwise_iff_getElem.1 hup j a hj'.2 hlt hj'.1
    rw [e] at this
    rw [List.getElem_take]
    omega
  · simp at p; subst p; exact hx

theorem skip_of {zs : List Int} {i : Nat} {x : Int} {f1 f2 : Bool} (h1 : zs.any (· == x - 1) = f1) (h2 : (zs.take i).any (· == x) = f2) (h : (f1 || f2) = true) : x - 1 ∈ zs ∨ x ∈ zs.take i := by
  rcases Bool.or_eq_true_iff.1 h with e | e
  · rw [e] at h1; exact .inl (any_mem.1 h1)
  · rw [e] at h2; exact .inr (any_mem.1 h2)

theorem keep_of {zs : List Int} {i : Nat} {x : Int} {f1 f2 : Bool} (h1 : zs.any (· == x - 1) = f1) (h2 : (zs.take i).any (· == x) = f2) (h : (f1 || f2) = false) : x - 1 ∉ zs ∧ x ∉ zs.take i := by
  obtain ⟨e1, e2⟩ := Bool.or_eq_false_iff.1 h
  refine ⟨fun q => ?_, fun q => ?_⟩
  · rw [any_mem.2 q] at h1; rw [← h1] at e1; cases e1
  · rw [any_mem.2 q] at h2; rw [← h2] at e2; cases e2

theorem RdG.drop0 {w : World} {b : Nat} {xs : List Pr} (h : RdG encP w (some ⟨b, 0, none⟩) xs) (n : Nat) : RdG encP w (some ⟨b, n * 2, none⟩) (xs.drop n) := by
  have := h.drop n
  rw [Nat.zero_add] at this
  exact this

theorem rd_none {w : World} {ao : Option Addr} {xs : List Pr} (h : xs.length = 0) : RdG encP w ao xs := fun h0 => absurd h0 (by omega)

/-- What the reference holds while it looks. -/
structure RI (l : List Int) (w wr : World) (i : Nat) (R : List Pr) (v : Value) : Prop where
  part : Part l i R
  own : OwnG encP 38 wr w.heap.size v R
  bel : Below w.heap.size w wr
  nil : R = [] → v = .slice none 0 0

set_option maxHeartbeats 6400000 in
set_option maxRecDepth 100000 in
theorem rruns_any {ao : Option Addr} {c n : Nat} {zs : List Int} (w : World) (ha : RdG encI w ao zs) (hl : zs.length = n) (hnc : n ≤ c) (hn : n ≤ 1000000) (hint : ∀ x ∈ zs, isInt x) :
    Calls Tryd.prog 14 #[.slice ao n c] w fun e w' => ∃ v' R, e = .returned v' ∧ OwnG encP 38 w' w.heap.size v' R ∧ IsRuns zs R ∧ R.length ≤ n ∧ Below w.heap.size w w' := by
  have H : Hid (RdG encI w ao zs ∧ zs.length = n ∧ ∀ x ∈ zs, isInt x) := ⟨ha, hl, hint⟩
  clear ha hl hint
  go_enter Tryd.func14, Tryd.ntmps14
  go_wp2_with fail
  go_loopg [3, 4, 5, 6, 7, 8] n (fun k ov iv _ _ _ _ wr => ∃ (i : Nat) (R : List Pr), iv = .int .i64 i ∧ i + k = n ∧ R.length ≤ i ∧ Hid (RI zs w wr i R ov))
  case atStart => exact ⟨0, [], rfl, by omega, by simp, Part.nil _, OwnG.nil _ _ _ _, Below.refl _ _, fun _ => rfl⟩
  case round =>
    obtain ⟨i, R, rfl, hi, hRl, HR⟩ := hrel
    by_cases hin : i < n
    · have id : (i : Int) < (n : Int) := by omega
      obtain ⟨x, hx⟩ := get_at (ss := zs) (i := i) (by rw [H.out.2.1]; exact hin)
      have RT := H.out.1.below HR.out.bel
      obtain ⟨b1, o1, rfl, hlt⟩ := RT.some_of hx
      have c1 := RT.ints hx
      have hxi := H.out.2.2 x (List.mem_of_getElem? hx)
      obtain ⟨f1, hf1⟩ : ∃ f1, zs.any (· == x - 1) = f1 := ⟨_, rfl⟩
      obtain ⟨f2, hf2⟩ : ∃ f2, (zs.take i).any (· == x) = f2 := ⟨_, rfl⟩
      have k1 := has_any (c := c) (x - 1) wr RT H.out.2.1 (by omega) f1 hf1
      have k2 := fun c => has_any (c := c) (n := i) x wr (RT.take i) (by rw [List.length_take, H.out.2.1]; omega) (by omega) f2 hf2
      have X : Hid (zs[i]? = some x ∧ isInt x ∧ zs.any (· == x - 1) = f1 ∧ (zs.take i).any (· == x) = f2) := ⟨hx, hxi, hf1, hf2⟩
      clear hx hf1 hf2 hxi RT
      have hic : (i : Int) ≤ (c : Int) := by omega
      go_upto_region 6 with fail
      go_cut [33] (fun s w => s = .bool (f1 || f2) ∧ w = wr)
      case first =>
        by_cases hmin : (-9223372036854775808 : Int) < x
        · have hw : wrap64 (x - 1) = x - 1 := by have := X.out.2.1; unfold isInt at this; unfold wrap64; omega
          have hw1 : -9223372036854775808 ≤ x - 1 := by omega
          have hw2 : x - 1 ≤ 9223372036854775807 := by have := X.out.2.1; unfold isInt at this; omega
          go_wp2_with fail
          refine k1.mono ?_
          rintro e w' ⟨rfl, rfl⟩
          clear k1
          cases f1 with
          | true =>
            go_wp2
            go_meet
            exact ⟨rfl, rfl⟩
          | false =>
            go_wp2_with fail
            refine (k2 _).mono ?_
            rintro e w' ⟨rfl, rfl⟩
            go_wp2
            go_meet
            exact ⟨rfl, rfl⟩
        · have hf : f1 = false := by
            rw [← X.out.2.2.1, List.any_eq_false]
            intro y hy
            have := H.out.2.2 y hy
            have := X.out.2.1
            unfold isInt at *
            simp
            omega
          subst hf
          go_wp2_with fail
          refine (k2 _).mono ?_
          rintro e w' ⟨rfl, rfl⟩
          go_wp2
          go_meet
          exact ⟨rfl, rfl⟩
      case rest =>
        obtain ⟨rfl, rfl⟩ := hcut
        clear k1 k2
        cases hsk : (f1 || f2) with
        | true =>
          go_wp2
          go_roundg (gk - 1)
          case measure => omega
          case rel => exact ⟨i + 1, R, by go_num, by omega, by omega, HR.out.part.skip X.out.1 (skip_of X.out.2.2.1 X.out.2.2.2 hsk), HR.out.own, HR.out.bel, HR.out.nil⟩
        | false =>
          go_wp2_with fail
          have K : Hid (x - 1 ∉ zs ∧ x ∉ zs.take i) := keep_of X.out.2.2.1 X.out.2.2.2 hsk
          clear hsk
          go_loopg [] (above zs x) (fun k wq => ∃ t : Int, wq = wc.alloc (.cells #[.int .i64 x, .int .i64 t] 38) ∧ k = above zs t ∧ Hid (x ≤ t ∧ isInt t ∧ ∀ y, x ≤ y → y ≤ t → y ∈ zs))
          case atStart =>
            refine ⟨x, rfl, rfl, Int.le_refl _, X.out.2.1, fun y h1 h2 => ?_⟩
            obtain rfl : y = x := by omega
            exact List.mem_of_getElem? X.out.1
          case round =>
            obtain ⟨t, rfl, hk, HT⟩ := hrel
            obtain ⟨f, hf⟩ : ∃ f, zs.any (· == t + 1) = f := ⟨_, rfl⟩
            have RT := (H.out.1.below HR.out.bel).below ((Below.refl _ wc).alloc (Nat.le_refl _) (.cells #[.int .i64 x, .int .i64 t] 38))
            have k1 := has_any (c := c) (t + 1) _ RT H.out.2.1 (by omega) f hf
            have F : Hid (zs.any (· == t + 1) = f) := hf
            clear hf RT
            go_upto_region 8 with fail
            go_cut [46] (fun s w => s = .bool f ∧ w = wc.alloc (.cells #[.int .i64 x, .int .i64 t] 38))
            case first =>
              by_cases hmax : t < 9223372036854775807
              · have hw1 : -9223372036854775808 ≤ t + 1 := by have := HT.out.2.1; unfold isInt at this; omega
                have hw2 : t + 1 ≤ 9223372036854775807 := by omega
                have hw : wrap64 (t + 1) = t + 1 := by unfold wrap64; omega
                go_wp2_with fail
                refine k1.mono ?_
                rintro e w' ⟨rfl, rfl⟩
                go_wp2
                go_meet
                exact ⟨rfl, rfl⟩
              · have hf : f = false := by
                  rw [← F.out, List.any_eq_false]
                  intro y hy
                  have := H.out.2.2 y hy
                  unfold isInt at this
                  simp
                  omega
                subst hf
                go_wp2
                go_meet
                exact ⟨rfl, rfl⟩
            case rest =>
              obtain ⟨rfl, rfl⟩ := hcut
              clear k1
              cases f with
              | true =>
                have hmem : t + 1 ∈ zs := any_mem.1 F.out
                have hti : isInt (t + 1) := H.out.2.2 _ hmem
                have hw : wrap64 (t + 1) = t + 1 := by unfold isInt at hti; unfold wrap64; omega
                have hw1 : -9223372036854775808 ≤ t + 1 := hti.1
                have hw2 : t + 1 ≤ 9223372036854775807 := hti.2
                have MM : Hid (t + 1 ∈ zs ∧ isInt (t + 1)) := ⟨hmem, hti⟩
                clear hmem hti
                go_wp2
                go_roundg (above zs (t + 1))
                case measure => rw [hk]; exact above_less MM.out.1
                case rel =>
                  refine ⟨t + 1, rfl, rfl, by have := HT.out.1; omega, MM.out.2, fun y h1 h2 => ?_⟩
                  rcases Int.lt_or_eq_of_le h2 with q | q
                  · exact HT.out.2.2 y h1 (by omega)
                  · rw [q]; exact MM.out.1
              | false =>
                have GG : Hid (Good zs (x, t)) := ⟨List.mem_of_getElem? X.out.1, K.out.1, HT.out.1, HT.out.2.2, fun q => by have := F.out; rw [any_mem.2 q] at this; cases this⟩
                clear hk
                obtain ⟨rb, hrb⟩ : ∃ rb, wc.heap.size = rb := ⟨_, rfl⟩
                obtain ⟨w3, hw3⟩ : ∃ w3, w3 = wc.alloc (.cells #[.int .i64 x, .int .i64 t] 38) := ⟨_, rfl⟩
                rw [← hw3]
                have r0 : w3.cell? ⟨rb, 0, none⟩ = some (.int .i64 x) := by rw [hw3, ← hrb]; simp
                have r1 : w3.cell? ⟨rb, 1, none⟩ = some (.int .i64 t) := by rw [hw3, ← hrb]; simp
                have hb3 : Below wc.heap.size wc w3 := by rw [hw3]; exact (Below.refl _ wc).alloc (Nat.le_refl _) _
                have hr3 : rb < w3.heap.size := by rw [hw3, ← hrb]; simp
                have ho3 := HR.out.own.below hb3
                obtain ⟨ao2, cap2, rfl, hc1, hc2, Ro, hsome⟩ := ho3.form
                obtain ⟨m, hm⟩ : ∃ m, R.length = m := ⟨_, rfl⟩
                have W3 : Hid (OwnG encP 38 w3 w.heap.size (.slice ao2 R.length cap2) R ∧ Below w.heap.size w w3 ∧ R.length = m ∧ (0 < R.length → ∃ g, ao2 = some ⟨g, 0, none⟩) ∧ RdG encP w3 ao2 R) := ⟨ho3, HR.out.bel.trans (hb3.mono HR.out.bel.size), hm, hsome, Ro⟩
                have hnil := HR.out.nil
                have NN : Hid (m = 0 → ao2 = none ∧ cap2 = 0) := fun h0 => by
                  have := hnil (List.eq_nil_of_length_eq_zero (by omega))
                  simp at this
                  exact ⟨this.1, this.2.2⟩
                have UP : Hid (Part zs i R) := HR.out.part
                rw [hm] at hc1 hRl ⊢
                rw [hrb]
                clear ho3 hb3 hw3 hnil hsome Ro hm hrb HR hlt c1
                go_wp2_with fail
                go_loopg [7] m (fun k v wq => ∃ a : Nat, v = .int .i64 a ∧ a = k ∧ a ≤ m ∧ wq = w3 ∧ Hid (∀ q ∈ R.drop a, x < q.1))
                case atStart => exact ⟨m, rfl, rfl, Nat.le_refl _, rfl, by rw [← W3.out.2.2.1, List.drop_length]; simp [Hid]⟩
                case round =>
                  obtain ⟨a, rfl, rfl, ham, rfl, HD⟩ := hrel
                  obtain ⟨g, hg⟩ : ∃ g, (decide (0 < a) && decide (x < (R.getD (a - 1) (0, 0)).1)) = g := ⟨_, rfl⟩
                  have GF : Hid ((decide (0 < a) && decide (x < (R.getD (a - 1) (0, 0)).1)) = g) := hg
                  clear hg
                  go_upto_region 11 with fail
                  go_cut [64] (fun s w => s = .bool g ∧ w = wr)
                  case first =>
                    by_cases h0 : a = 0
                    · subst h0
                      have hgf : g = false := by rw [← GF.out]; rfl
                      subst hgf
                      go_wp2
                      go_meet
                      exact ⟨rfl, rfl⟩
                    · obtain ⟨q, rfl⟩ : ∃ q, a = q + 1 := ⟨a - 1, by omega⟩
                      have hq : q < R.length := by rw [W3.out.2.2.1]; omega
                      obtain ⟨r, hr⟩ := get_at hq
                      obtain ⟨g2, rfl⟩ := W3.out.2.2.2.1 (by omega)
                      obtain ⟨j1, j2, j3, j4⟩ := pair_cells W3.out.1 hr
                      have hgf : decide (x < r.1) = g := by
                        rw [← GF.out, Nat.add_sub_cancel, List.getD_eq_getElem?_getD, hr]
                        simp
                      have hqm : (q : Int) < (m : Int) := by omega
                      clear hq hr h0
                      cases g with
                      | true =>
                        have hgf' : x < r.1 := by simpa using hgf
                        clear hgf
                        go_wp2
                        go_meet
                        exact ⟨rfl, rfl⟩
                      | false =>
                        have hgf' : ¬ x < r.1 := by simpa using hgf
                        go_wp2
                        go_meet
                        exact ⟨rfl, rfl⟩
                  case rest =>
                    obtain ⟨rfl, rfl⟩ := hcut
                    cases g with
                    | true =>
                      obtain ⟨g1, g2⟩ := Bool.and_eq_true_iff.1 GF.out
                      have h0 : 0 < a := by simpa using g1
                      obtain ⟨q, rfl⟩ : ∃ q, a = q + 1 := ⟨a - 1, by omega⟩
                      have hq : q < R.length := by rw [W3.out.2.2.1]; omega
                      obtain ⟨r, hr⟩ := get_at hq
                      rw [Nat.add_sub_cancel, List.getD_eq_getElem?_getD, hr] at g2
                      have D2 : Hid (∀ p ∈ R.drop q, x < p.1) := drop_step HD.out hr (by simpa using g2)
                      clear g1 g2 hq hr GF
                      go_wp2
                      go_roundg q
                      case measure => omega
                      case rel => exact ⟨q, by go_num, rfl, by omega, rfl, D2⟩
                    | false =>
                      have LO : Hid (∀ p ∈ R.take a, p.1 ≤ x) := by
                        show ∀ p ∈ R.take a, p.1 ≤ x
                        cases a with
                        | zero => simp
                        | succ q =>
                          have hq : q < R.length := by rw [W3.out.2.2.1]; omega
                          obtain ⟨r, hr⟩ := get_at hq
                          have := GF.out
                          rw [Nat.add_sub_cancel, List.getD_eq_getElem?_getD, hr] at this
                          exact take_low UP.out.up hr (by simpa using this)
                      clear GF
                      have PI : Hid (Part zs (i + 1) (R.take a ++ [(x, t)] ++ R.drop a)) := UP.out.ins X.out.1 K.out.2 GG.out LO.out HD.out
                      by_cases hm0 : m = 0
                      · obtain ⟨rfl, rfl⟩ := NN.out hm0
                        subst hm0
                        obtain rfl : a = 0 := by omega
                        have hbw : Below wc.heap.size wc (wc.alloc (.cells #[] 38)) := (Below.refl _ wc).alloc (Nat.le_refl _) _
                        have O0 : Hid (OwnG encP 38 (wc.alloc (.cells #[] 38)) wc.heap.size (.slice (some ⟨wc.heap.size, 0, none⟩) 0 0) []) := World.ownsRow_made wc #[] 0 (Nat.le_refl _) (Nat.zero_le _) rfl
                        have BW : Hid (Below wc.heap.size wc (wc.alloc (.cells #[] 38))) := hbw
                        clear hbw
                        have L1 : Hid ((R.take 0).length = 0 ∧ (R.drop 0).length = 0) := ⟨by rw [List.length_take, W3.out.2.2.1]; omega, by rw [List.length_drop, W3.out.2.2.1]⟩
                        go_wp2_with (first
                          | (at_builtin; refine appG_list encP 38 32 16 _ rfl info38' Tryd.underlying32 rfl (.tmp 76) (.tmp 79) rfl wc.heap.size _ (R.take 0 ++ [(x, t)]) (R.drop 0) none _ _ rfl O5.out.1 rfl R5.out L1.out.2 (by simp only [List.length_append, List.length_singleton, L1.out.1]; omega) (by simp only [List.length_append, List.length_singleton, L1.out.1, maxLen]; omega) O5.out.2.size ?_; intro v6 w6 hown6 hbel6 _ _)
                          | (at_builtin; refine appG_one encP 38 32 16 _ rfl info38' Tryd.underlying32 rfl (.tmp 72) (.tmp 74) rfl wc.heap.size _ (R.take 0) (x, t) _ rfl O4.out.1 rfl (by rw [L1.out.1]; omega) (by rw [L1.out.1]; simp only [maxLen]; omega) O4.out.2.size _ rfl ?_; intro v5 w5 hown5 hbel5 _ _; have O5 : Hid (OwnG encP 38 w5 wc.heap.size v5 (R.take 0 ++ [(x, t)]) ∧ Below wc.heap.size wc w5) := ⟨hown5, O4.out.2.trans hbel5⟩; have R5 : Hid (RdG encP w5 none (R.drop 0)) := rd_none (by rw [List.length_drop]; have h := W3.out.2.2.1; omega); clear hown5 hbel5)
                          | (at_builtin; refine appG_list encP 38 32 16 _ rfl info38' Tryd.underlying32 rfl (.tmp 67) (.tmp 70) rfl wc.heap.size _ [] (R.take 0) none _ _ rfl O0.out rfl ((W3.out.2.2.2.2.below BW.out).take 0) L1.out.1 (by simp only [List.length_nil]; omega) (by simp only [List.length_nil, maxLen]; omega) BW.out.size ?_; intro v4 w4 hown4 hbel4 _ _; have O4 : Hid (OwnG encP 38 w4 wc.heap.size v4 (R.take 0) ∧ Below wc.heap.size wc w4) := ⟨hown4, BW.out.trans hbel4⟩; have s0 : w4.cell? ⟨rb, 0, none⟩ = some (.int .i64 x) := (O4.out.2.cell hr3).trans r0; have s1 : w4.cell? ⟨rb, 1, none⟩ = some (.int .i64 t) := (O4.out.2.cell hr3).trans r1; have hr4 : rb < w4.heap.size := Nat.lt_of_lt_of_le hr3 O4.out.2.size; clear hown4 hbel4))
                        go_roundg (n - (i + 1))
                        case measure => omega
                        case rel =>
                          refine ⟨i + 1, R.take 0 ++ [(x, t)] ++ R.drop 0, by go_num, by omega, ?_, PI.out, hown6.low W3.out.2.1.size, ?_, fun h => by simp at h⟩
                          · simp only [List.length_append, List.length_singleton, L1.out.1, L1.out.2]; omega
                          · exact W3.out.2.1.trans ((O5.out.2.trans hbel6).mono W3.out.2.1.size)
                      · obtain ⟨g2, rfl⟩ := W3.out.2.2.2.1 (by rw [W3.out.2.2.1]; omega)
                        by_cases hac : a = cap2
                        · obtain rfl : a = m := by omega
                          have hac' : (cap2 : Int) = a := by omega
                          obtain rfl : cap2 = a := hac.symm
                          have hbw : Below wc.heap.size wc (wc.alloc (.cells #[] 38)) := (Below.refl _ wc).alloc (Nat.le_refl _) _
                          have O0 : Hid (OwnG encP 38 (wc.alloc (.cells #[] 38)) wc.heap.size (.slice (some ⟨wc.heap.size, 0, none⟩) 0 0) []) := World.ownsRow_made wc #[] 0 (Nat.le_refl _) (Nat.zero_le _) rfl
                          have BW : Hid (Below wc.heap.size wc (wc.alloc (.cells #[] 38))) := hbw
                          clear hbw
                          have L1 : Hid ((R.take cap2).length = cap2 ∧ (R.drop cap2).length = 0) := ⟨by rw [List.length_take, W3.out.2.2.1]; omega, by rw [List.length_drop, W3.out.2.2.1]; omega⟩
                          go_wp2_with (first
                            | (at_builtin; refine appG_list encP 38 32 16 _ rfl info38' Tryd.underlying32 rfl (.tmp 76) (.tmp 79) rfl wc.heap.size _ (R.take cap2 ++ [(x, t)]) (R.drop cap2) (some ⟨g2, 0, none⟩) _ _ rfl O5.out.1 rfl R5.out L1.out.2 (by simp only [List.length_append, List.length_singleton, L1.out.1]; omega) (by simp only [List.length_append, List.length_singleton, L1.out.1, maxLen]; omega) O5.out.2.size ?_; intro v6 w6 hown6 hbel6 _ _)
                            | (at_builtin; refine appG_one encP 38 32 16 _ rfl info38' Tryd.underlying32 rfl (.tmp 72) (.tmp 74) rfl wc.heap.size _ (R.take cap2) (x, t) _ rfl O4.out.1 rfl (by rw [L1.out.1]; omega) (by rw [L1.out.1]; simp only [maxLen]; omega) O4.out.2.size _ rfl ?_; intro v5 w5 hown5 hbel5 _ _; have O5 : Hid (OwnG encP 38 w5 wc.heap.size v5 (R.take cap2 ++ [(x, t)]) ∧ Below wc.heap.size wc w5) := ⟨hown5, O4.out.2.trans hbel5⟩; have R5 : Hid (RdG encP w5 (some ⟨g2, 0, none⟩) (R.drop cap2)) := rd_none (by rw [List.length_drop]; have h := W3.out.2.2.1; omega); clear hown5 hbel5)
                            | (at_builtin; refine appG_list encP 38 32 16 _ rfl info38' Tryd.underlying32 rfl (.tmp 67) (.tmp 70) rfl wc.heap.size _ [] (R.take cap2) (some ⟨g2, 0, none⟩) _ _ rfl O0.out rfl ((W3.out.2.2.2.2.below BW.out).take cap2) L1.out.1 (by simp only [List.length_nil]; omega) (by simp only [List.length_nil, maxLen]; omega) BW.out.size ?_; intro v4 w4 hown4 hbel4 _ _; have O4 : Hid (OwnG encP 38 w4 wc.heap.size v4 (R.take cap2) ∧ Below wc.heap.size wc w4) := ⟨hown4, BW.out.trans hbel4⟩; have s0 : w4.cell? ⟨rb, 0, none⟩ = some (.int .i64 x) := (O4.out.2.cell hr3).trans r0; have s1 : w4.cell? ⟨rb, 1, none⟩ = some (.int .i64 t) := (O4.out.2.cell hr3).trans r1; have hr4 : rb < w4.heap.size := Nat.lt_of_lt_of_le hr3 O4.out.2.size; clear hown4 hbel4))
                          go_roundg (n - (i + 1))
                          case measure => omega
                          case rel =>
                            refine ⟨i + 1, R.take cap2 ++ [(x, t)] ++ R.drop cap2, by go_num, by omega, ?_, PI.out, hown6.low W3.out.2.1.size, ?_, fun h => by simp at h⟩
                            · simp only [List.length_append, List.length_singleton, L1.out.1, L1.out.2]; omega
                            · exact W3.out.2.1.trans ((O5.out.2.trans hbel6).mono W3.out.2.1.size)
                        · have hac' : a < cap2 := by omega
                          have hbw : Below wc.heap.size wc (wc.alloc (.cells #[] 38)) := (Below.refl _ wc).alloc (Nat.le_refl _) _
                          have O0 : Hid (OwnG encP 38 (wc.alloc (.cells #[] 38)) wc.heap.size (.slice (some ⟨wc.heap.size, 0, none⟩) 0 0) []) := World.ownsRow_made wc #[] 0 (Nat.le_refl _) (Nat.zero_le _) rfl
                          have BW : Hid (Below wc.heap.size wc (wc.alloc (.cells #[] 38))) := hbw
                          clear hbw
                          have L1 : Hid ((R.take a).length = a ∧ (R.drop a).length = m - a) := ⟨by rw [List.length_take, W3.out.2.2.1]; omega, by rw [List.length_drop, W3.out.2.2.1]⟩
                          go_wp2_with (first
                            | (at_builtin; refine appG_list encP 38 32 16 _ rfl info38' Tryd.underlying32 rfl (.tmp 76) (.tmp 79) rfl wc.heap.size _ (R.take a ++ [(x, t)]) (R.drop a) (some ⟨g2, a * 2, none⟩) _ _ rfl O5.out.1 rfl R5.out L1.out.2 (by simp only [List.length_append, List.length_singleton, L1.out.1]; omega) (by simp only [List.length_append, List.length_singleton, L1.out.1, maxLen]; omega) O5.out.2.size ?_; intro v6 w6 hown6 hbel6 _ _)
                            | (at_builtin; refine appG_one encP 38 32 16 _ rfl info38' Tryd.underlying32 rfl (.tmp 72) (.tmp 74) rfl wc.heap.size _ (R.take a) (x, t) _ rfl O4.out.1 rfl (by rw [L1.out.1]; omega) (by rw [L1.out.1]; simp only [maxLen]; omega) O4.out.2.size _ rfl ?_; intro v5 w5 hown5 hbel5 _ _; have O5 : Hid (OwnG encP 38 w5 wc.heap.size v5 (R.take a ++ [(x, t)]) ∧ Below wc.heap.size wc w5) := ⟨hown5, O4.out.2.trans hbel5⟩; have R5 : Hid (RdG encP w5 (some ⟨g2, a * 2, none⟩) (R.drop a)) := (W3.out.2.2.2.2.below O5.out.2).drop0 a; clear hown5 hbel5)
                            | (at_builtin; refine appG_list encP 38 32 16 _ rfl info38' Tryd.underlying32 rfl (.tmp 67) (.tmp 70) rfl wc.heap.size _ [] (R.take a) (some ⟨g2, 0, none⟩) _ _ rfl O0.out rfl ((W3.out.2.2.2.2.below BW.out).take a) L1.out.1 (by simp only [List.length_nil]; omega) (by simp only [List.length_nil, maxLen]; omega) BW.out.size ?_; intro v4 w4 hown4 hbel4 _ _; have O4 : Hid (OwnG encP 38 w4 wc.heap.size v4 (R.take a) ∧ Below wc.heap.size wc w4) := ⟨hown4, BW.out.trans hbel4⟩; have s0 : w4.cell? ⟨rb, 0, none⟩ = some (.int .i64 x) := (O4.out.2.cell hr3).trans r0; have s1 : w4.cell? ⟨rb, 1, none⟩ = some (.int .i64 t) := (O4.out.2.cell hr3).trans r1; have hr4 : rb < w4.heap.size := Nat.lt_of_lt_of_le hr3 O4.out.2.size; clear hown4 hbel4))
                          go_roundg (n - (i + 1))
                          case measure => omega
                          case rel =>
                            refine ⟨i + 1, R.take a ++ [(x, t)] ++ R.drop a, by go_num, by omega, ?_, PI.out, hown6.low W3.out.2.1.size, ?_, fun h => by simp at h⟩
                            · simp only [List.length_append, List.length_singleton, L1.out.1, L1.out.2]; omega
                            · exact W3.out.2.1.trans ((O5.out.2.trans hbel6).mono W3.out.2.1.size)
    · obtain rfl : i = n := by omega
      go_wp2
      go_ret
      exact ⟨_, R, rfl, HR.out.own, HR.out.part.done (by rw [H.out.2.1]; omega), hRl, HR.out.bel⟩

end Go.Proofs.YtnodkpnbfklmhaaDoor
