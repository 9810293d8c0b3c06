/-
  The law PathAlike, walked: of whatever list and text it returns true, and what was there when it was called is as it was.
-/
import Derived.Test.YtcecgcgnpildpaaAlike
import Derived.Test.YtcecgcgnpildpaaSortsLaw
import Derived.Test.YtcecgcgnpildpaaRNames
namespace Go.Proofs.Ytcecgcgnpildpaa
open Go.RowKit

/-- Three sets of the same paths, each struct in a block of its own. -/
structure Sets3 (W : World) (B1 B2 B3 : Nat) (a1 a2 a3 : Option Addr) (n c1 c2 c3 : Nat) (T : List Bs) (u : World) : Prop where
  s1 : SetAt W B1 a1 n c1 T u
  s2 : SetAt W B2 a2 n c2 T u
  s3 : SetAt W B3 a3 n c3 T u

theorem Sets3.below {W : World} {B1 B2 B3 : Nat} {a1 a2 a3 : Option Addr} {n c1 c2 c3 : Nat} {T : List Bs} {u u' : World} (h : Sets3 W B1 B2 B3 a1 a2 a3 n c1 c2 c3 T u) (hb : Below u.heap.size u u') : Sets3 W B1 B2 B3 a1 a2 a3 n c1 c2 c3 T u' :=
  ⟨h.s1.below hb, h.s2.below hb, h.s3.below hb⟩

/-- A row of the call's own, and all that was there ahead of it. -/
structure Back (w0 : World) (v : Value) (l : List Bs) (u : World) : Prop where
  own : Own u w0.heap.size v l
  bel : Below w0.heap.size w0 u

theorem Back.below {w0 u u' : World} {v : Value} {l : List Bs} (h : Back w0 v l u) (hb : Below u.heap.size u u') : Back w0 v l u' :=
  ⟨h.own.below hb, h.bel.trans (hb.mono h.bel.size)⟩

/-- Paths of a set that can be read, and what it leaves. -/
theorem paths_at {ao : Option Addr} {c n : Nat} {ss : List Bs} (w : World) (ha : Rd w ao ss) (hl : ss.length = n) (hn : n ≤ 16) :
    Calls Try.prog 22 #[.agg #[.slice ao n c]] w fun e w' => ∃ a' c', e = .returned (.slice a' n c') ∧ Rd w' a' ss ∧ Below w.heap.size w w' := by
  refine (paths_any w ha hl (by omega)).mono ?_
  rintro e w' ⟨v', rfl, ho, hb⟩
  obtain ⟨a', c', rfl, _, _, R⟩ := ho.form
  rw [hl]
  exact ⟨a', c', rfl, R, hb⟩

set_option maxHeartbeats 8000000 in
set_option maxRecDepth 1000000 in
theorem alike_walk (ao : Option Addr) (n c : Nat) (ps : List Bs) (m : Bs) (W : World) (hl : ps.length = n) (hcn : n ≤ 9223372036854775807) (hin : Rd W ao ps) (hpx : ∀ x ∈ ps, x.length ≤ 9223372036854775807) (hm : m.length ≤ 9223372036854775807) :
    Calls Try.prog 7 #[.slice ao n c, .string ⟨m.toArray⟩] W fun e w' => e = .returned (.bool true) ∧ Below W.heap.size W w' := by
  have H : Hid (ps.length = n ∧ Rd W ao ps ∧ (∀ x ∈ ps, x.length ≤ 9223372036854775807)) := ⟨hl, hin, hpx⟩
  clear hl hin hpx
  go_enter Try.func7, Try.ntmps7
  go_wp2_with fail
  refine (awake_any _).mono ?_
  rintro e w1 ⟨rfl, hb1⟩
  have B1 : Hid (Below W.heap.size W w1) := hb1
  clear hb1
  by_cases hbig : 300 < n
  · have hbi : (300 : Int) < (n : Int) := by omega
    go_wp2
    go_ret
    exact ⟨rfl, B1.out⟩
  · have hbi : decide ((300 : Int) < (n : Int)) = false := decide_eq_false (by omega)
    obtain ⟨T, hT⟩ : ∃ T, limS ps = T := ⟨_, rfl⟩
    obtain ⟨ee, hE⟩ : ∃ ee, limE ps = ee := ⟨_, rfl⟩
    have hTl : T.length ≤ 16 := by rw [← hT]; exact lim_le ps
    obtain ⟨tn, htn⟩ : ∃ tn, T.length = tn := ⟨_, rfl⟩
    have htn16 : tn ≤ 16 := by omega
    have hTm : ∀ x ∈ T, x.length ≤ 9223372036854775807 := by
      intro x hx
      have hp := lim_paths ps
      rw [hT, List.all_eq_true] at hp
      have := path_len (hp x hx)
      omega
    have k1 := limit_any (c := c) w1 (H.out.2.1.below B1.out) H.out.1 H.out.2.2
    rw [hT, hE] at k1
    have k2 : ∀ w a n c, Rd w a ps.reverse → ps.reverse.length = n → Calls Try.prog 20 #[.slice a n c] w fun e w' => ∃ v', e = .returned (.tuple #[.agg #[v'], .int .i64 ee]) ∧ Own w' w.heap.size v' T ∧ Below w.heap.size w w' := by
      intro w a n c hr hn
      have := limit_any (c := c) w hr hn (fun x hx => H.out.2.2 x (List.mem_reverse.1 hx))
      rw [(lim_rev ps).1, (lim_rev ps).2, hT, hE] at this
      exact this
    have k3 : ∀ w a c, Rd w a T → Calls Try.prog 20 #[.slice a tn c] w fun e w' => ∃ v', e = .returned (.tuple #[.agg #[v'], .int .i64 0]) ∧ Own w' w.heap.size v' T ∧ Below w.heap.size w w' := by
      intro w a c hr
      have := limit_any (c := c) w hr htn hTm
      have ho := lim_own ps
      rw [hT] at ho
      rw [ho.1, ho.2] at this
      exact this
    have TN : Hid (T.length = tn ∧ limS ps = T ∧ limE ps = ee) := ⟨htn, hT, hE⟩
    clear hT hE hTl htn hTm
    go_wp2_with fail
    refine k1.mono ?_
    rintro e w2 ⟨v2, rfl, ho2, hb2⟩
    obtain ⟨a2, c2, rfl, _, _, R2⟩ := ho2.form
    rw [TN.out.1]
    have S2 : Hid (SetAt W w2.heap.size a2 tn c2 T (w2.alloc (.cells #[.slice a2 tn c2] 34))) := SetAt.make 34 R2 (B1.out.trans (hb2.mono B1.out.size))
    clear k1 ho2 hb2 R2
    go_wp2_with fail
    obtain ⟨w3, hw3⟩ : ∃ w3, w3 = w2.alloc (.cells #[.slice a2 tn c2] 34) := ⟨_, rfl⟩
    rw [← hw3] at S2 ⊢
    clear hw3
    go_loopg [7, 8] n (fun k ov v wr => ∃ (i : Nat), v = .int .i64 ((n : Int) - 1 - i) ∧ i + k = n ∧ Hid (Own wr w3.heap.size ov (revs ps i) ∧ Below w3.heap.size w3 wr))
    case atStart => exact ⟨0, by go_num, by omega, Own.nil _ _, Below.refl _ _⟩
    case round =>
      obtain ⟨i, rfl, hi, HR⟩ := hrel
      by_cases hin : i < n
      · obtain ⟨x, hx⟩ : ∃ x, el ps (n - 1 - i) = x := ⟨_, rfl⟩
        have id1 : decide ((0 : Int) ≤ (n : Int) - 1 - i) = true := decide_eq_true (by omega)
        have id2 : (n : Int) - 1 - i < n := by omega
        have id3 : ((n : Int) - 1 - i).toNat = n - 1 - i := by omega
        obtain ⟨b, off, rfl, hlt, hc⟩ := H.out.2.1 (by rw [H.out.1]; omega)
        have c0 := hc (n - 1 - i) (by rw [H.out.1]; omega)
        rw [hx] at c0
        have c1 : wr.cell? ⟨b, off + (n - 1 - i), none⟩ = some (.string ⟨x.toArray⟩) := ((S2.out.bel.trans (HR.out.2.mono S2.out.bel.size)).cell hlt).trans c0
        have hst := revs_step ps i (by rw [H.out.1]; exact hin)
        rw [H.out.1, hx] at hst
        have ST : Hid _ := hst
        have hrl := revs_len ps i (by rw [H.out.1]; omega)
        clear hc c0 hx hst
        go_wp2_with (at_builtin; refine app_one rfl (.tmp 34) (.tmp 39) rfl w3.heap.size _ (revs ps i) x _ rfl HR.out.1 rfl (by omega) HR.out.2.size ?_; intro v' w4 hown4 hbel4)
        go_roundg (gk - 1)
        case measure => omega
        case rel => exact ⟨i + 1, by go_num, by omega, by rw [ST.out]; exact hown4, HR.out.2.trans hbel4⟩
      · obtain rfl : i = n := by omega
        have hgo : ¬ (0 : Int) ≤ (i : Int) - 1 - i := by omega
        have hra := revs_all ps i (by rw [H.out.1]; omega)
        rw [hra] at HR
        obtain ⟨ab, cb, rfl, _, _, Rb⟩ := HR.out.1.form
        have hrl : ps.reverse.length = i := by rw [List.length_reverse, H.out.1]
        rw [hrl]
        rw [hrl] at HR
        have RB : Hid (Rd wr ab ps.reverse ∧ ps.reverse.length = i) := ⟨Rb, hrl⟩
        have k2' := k2 wr ab i cb Rb hrl
        clear hra Rb hrl k2
        go_wp2_with fail
        refine k2'.mono ?_
        rintro e w4 ⟨v4, rfl, ho4, hb4⟩
        obtain ⟨a4, c4, rfl, _, _, R4⟩ := ho4.form
        rw [TN.out.1]
        have BL : Hid (Below W.heap.size W w4) := (S2.out.bel.trans (HR.out.2.mono S2.out.bel.size)).trans (hb4.mono (Nat.le_trans S2.out.bel.size HR.out.2.size))
        have S4 : Hid (SetAt W w2.heap.size a2 tn c2 T (w4.alloc (.cells #[.slice a4 tn c4] 34)) ∧ SetAt W w4.heap.size a4 tn c4 T (w4.alloc (.cells #[.slice a4 tn c4] 34)) ∧ Back w3 (.slice ab i cb) ps.reverse (w4.alloc (.cells #[.slice a4 tn c4] 34))) :=
          ⟨((S2.out.below HR.out.2).below hb4).below ((Below.refl _ w4).alloc (Nat.le_refl _) _), SetAt.make 34 R4 BL.out, ((Back.mk HR.out.1 HR.out.2).below hb4).below ((Below.refl _ w4).alloc (Nat.le_refl _) _)⟩
        clear k2' ho4 hb4 R4
        have cc1 := S4.out.1.cell
        go_wp2_with fail
        refine (paths_any _ S4.out.1.rd TN.out.1 (by omega)).mono ?_
        rintro e w5 ⟨v5, rfl, ho5, hb5⟩
        obtain ⟨a5, c5, rfl, _, _, R5⟩ := ho5.form
        rw [TN.out.1]
        have S5 : Hid (SetAt W w2.heap.size a2 tn c2 T w5 ∧ SetAt W w4.heap.size a4 tn c4 T w5 ∧ Back w3 (.slice ab i cb) ps.reverse w5 ∧ Rd w5 a5 T) := ⟨S4.out.1.below hb5, S4.out.2.1.below hb5, S4.out.2.2.below hb5, R5⟩
        clear ho5 hb5 R5 cc1
        go_wp2_with fail
        refine (k3 _ a5 c5 S5.out.2.2.2).mono ?_
        rintro e w6 ⟨v6, rfl, ho6, hb6⟩
        obtain ⟨a6, c6, rfl, _, _, R6⟩ := ho6.form
        rw [TN.out.1]
        have hb7 : Below w6.heap.size w6 (w6.alloc (.cells #[.slice a6 tn c6] 34)) := (Below.refl _ w6).alloc (Nat.le_refl _) _
        have S7 : Hid (Sets3 W w2.heap.size w4.heap.size w6.heap.size a2 a4 a6 tn c2 c4 c6 T (w6.alloc (.cells #[.slice a6 tn c6] 34)) ∧ Back w3 (.slice ab i cb) ps.reverse (w6.alloc (.cells #[.slice a6 tn c6] 34))) :=
          ⟨⟨(S5.out.1.below hb6).below hb7, (S5.out.2.1.below hb6).below hb7, SetAt.make 34 R6 (S5.out.1.below hb6).bel⟩, (S5.out.2.2.1.below hb6).below hb7⟩
        clear ho6 hb6 R6 hb7
        go_wp2_with fail
        obtain ⟨w7, hw7⟩ : ∃ w7, w7 = w6.alloc (.cells #[.slice a6 tn c6] 34) := ⟨_, rfl⟩
        rw [← hw7] at S7 ⊢
        obtain ⟨B1, hB1⟩ : ∃ B1, w2.heap.size = B1 := ⟨_, rfl⟩
        obtain ⟨B2, hB2⟩ : ∃ B2, w4.heap.size = B2 := ⟨_, rfl⟩
        obtain ⟨B3, hB3⟩ : ∃ B3, w6.heap.size = B3 := ⟨_, rfl⟩
        rw [hB1, hB2, hB3] at S7 ⊢
        rw [hB1] at S2
        have C7 : w7.cell? ⟨B1, 0, none⟩ = some (.slice a2 tn c2) ∧ w7.cell? ⟨B2, 0, none⟩ = some (.slice a4 tn c4) ∧ w7.cell? ⟨B3, 0, none⟩ = some (.slice a6 tn c6) := ⟨S7.out.1.s1.cell, S7.out.1.s2.cell, S7.out.1.s3.cell⟩
        obtain ⟨d1, d2, d3⟩ := C7
        have S8 : Hid (Sets3 W B1 B2 B3 a2 a4 a6 tn c2 c4 c6 T w7.drew ∧ Back w3 (.slice ab i cb) ps.reverse w7.drew) := ⟨S7.out.1.below (Below.refl _ w7).drew, S7.out.2.below (Below.refl _ w7).drew⟩
        clear hB1 hB2 hB3 hw7 S4 S5 BL HR RB k3
        go_region_held3 (fun u => u.cell? ⟨B1, 0, none⟩ = some (.slice a2 tn c2) ∧ u.cell? ⟨B2, 0, none⟩ = some (.slice a4 tn c4) ∧ u.cell? ⟨B3, 0, none⟩ = some (.slice a6 tn c6)) (go_keep)
          (first
            | (go_at_call 13; refine (same_any _ S13.out.2.2.1 S13.out.2.2.2 TN.out.1 TN.out.1 (by omega) true (by simp)).mono ?_; rintro e w14 ⟨rfl, q14, rfl⟩)
            | (go_at_call 22; refine (paths_at _ S12.out.1.s3.rd TN.out.1 htn16).mono ?_; rintro e w13 ⟨a13, c13, rfl, r13, b13⟩; have S13 : Hid (Sets3 W B1 B2 B3 a2 a4 a6 tn c2 c4 c6 T w13 ∧ Back w3 (.slice ab i cb) ps.reverse w13 ∧ Rd w13 a12 T ∧ Rd w13 a13 T) := ⟨S12.out.1.below b13, S12.out.2.1.below b13, S12.out.2.2.below b13, r13⟩; have k13 := And.intro S13.out.1.s1.cell (And.intro S13.out.1.s2.cell S13.out.1.s3.cell); clear r13 b13)
            | (go_at_call 22; refine (paths_at _ S11.out.1.s1.rd TN.out.1 htn16).mono ?_; rintro e w12 ⟨a12, c12, rfl, r12, b12⟩; have S12 : Hid (Sets3 W B1 B2 B3 a2 a4 a6 tn c2 c4 c6 T w12 ∧ Back w3 (.slice ab i cb) ps.reverse w12 ∧ Rd w12 a12 T) := ⟨S11.out.1.below b12, S11.out.2.below b12, r12⟩; have k12 := And.intro S12.out.1.s1.cell (And.intro S12.out.1.s2.cell S12.out.1.s3.cell); clear r12 b12)
            | (go_at_call 13; refine (same_any _ S10.out.2.2.1 S10.out.2.2.2 TN.out.1 TN.out.1 (by omega) true (by simp)).mono ?_; rintro e w11 ⟨rfl, q11, rfl⟩; have S11 : Hid (Sets3 W B1 B2 B3 a2 a4 a6 tn c2 c4 c6 T (w10.drewN q11) ∧ Back w3 (.slice ab i cb) ps.reverse (w10.drewN q11)) := ⟨S10.out.1.below (below_drewN (Below.refl _ _) q11), S10.out.2.1.below (below_drewN (Below.refl _ _) q11)⟩)
            | (go_at_call 22; refine (paths_at _ S9.out.1.s2.rd TN.out.1 htn16).mono ?_; rintro e w10 ⟨a10, c10, rfl, r10, b10⟩; have S10 : Hid (Sets3 W B1 B2 B3 a2 a4 a6 tn c2 c4 c6 T w10 ∧ Back w3 (.slice ab i cb) ps.reverse w10 ∧ Rd w10 a9 T ∧ Rd w10 a10 T) := ⟨S9.out.1.below b10, S9.out.2.1.below b10, S9.out.2.2.below b10, r10⟩; have k10 := And.intro S10.out.1.s1.cell (And.intro S10.out.1.s2.cell S10.out.1.s3.cell); clear r10 b10)
            | (go_at_call 22; refine (paths_at _ S8.out.1.s1.rd TN.out.1 htn16).mono ?_; rintro e w9 ⟨a9, c9, rfl, r9, b9⟩; have S9 : Hid (Sets3 W B1 B2 B3 a2 a4 a6 tn c2 c4 c6 T w9 ∧ Back w3 (.slice ab i cb) ps.reverse w9 ∧ Rd w9 a9 T) := ⟨S8.out.1.below b9, S8.out.2.below b9, r9⟩; have k9 := And.intro S9.out.1.s1.cell (And.intro S9.out.1.s2.cell S9.out.1.s3.cell); clear r9 b9))
        have S14 : Hid (Sets3 W B1 B2 B3 a2 a4 a6 tn c2 c4 c6 T (w13.drewN q14) ∧ Back w3 (.slice ab i cb) ps.reverse (w13.drewN q14)) := ⟨S13.out.1.below (below_drewN (Below.refl _ _) q14), S13.out.2.1.below (below_drewN (Below.refl _ _) q14)⟩
        obtain ⟨w14, hw14⟩ : ∃ w14, w14 = w13.drewN q14 := ⟨_, rfl⟩
        rw [← hw14] at S14 ⊢
        clear hw14 S7 S8 S9 S10 S11 S12 S13 k9 k10 k12 k13 d1 d2 d3
        have e1 := S14.out.1.s1.cell
        by_cases hee : ee = 0
        · subst hee
          by_cases h0 : i = 0
          · have h0b : ((i : Int) == 0) = true := by rw [h0]; rfl
            go_wp2
            go_ret
            exact ⟨rfl, S14.out.1.s1.bel⟩
          · have h0b : ((i : Int) == 0) = false := by rw [beq_eq_false_iff_ne]; omega
            by_cases h16 : 16 ≤ i
            · have h16b : decide ((16 : Int) ≤ (i : Int)) = true := decide_eq_true (by omega)
              go_wp2
              go_ret
              exact ⟨rfl, S14.out.1.s1.bel⟩
            · have h16b : decide ((16 : Int) ≤ (i : Int)) = false := decide_eq_false (by omega)
              obtain ⟨f, hf⟩ : ∃ f, hasS T m = f := ⟨_, rfl⟩
              have hh := has_any (c := c2) m w14 S14.out.1.s1.rd TN.out.1 (by omega) hm f hf
              cases f with
              | false =>
                clear hf
                go_wp2_with fail
                refine hh.mono ?_
                rintro e w15 ⟨rfl, hb15⟩
                have B15 : Hid (Below W.heap.size W w15) := S14.out.1.s1.bel.trans (hb15.mono S14.out.1.s1.bel.size)
                clear hb15
                go_wp2
                go_ret
                exact ⟨rfl, B15.out⟩
              | true =>
                have hmore := lim_more (ps := ps) (m := m) (by rw [H.out.1]; omega) (by rw [H.out.1]; omega) TN.out.2.2 (by rw [TN.out.2.1]; exact hf)
                rw [TN.out.2.1] at hmore
                have k4 : ∀ w a n c, Rd w a (ps.reverse ++ [m]) → (ps.reverse ++ [m]).length = n → Calls Try.prog 20 #[.slice a n c] w fun e w' => ∃ v', e = .returned (.tuple #[.agg #[v'], .int .i64 0]) ∧ Own w' w.heap.size v' T ∧ Below w.heap.size w w' := by
                  intro w a n c hr hn
                  have := limit_any (c := c) w hr hn (fun x hx => by
                    rcases List.mem_append.1 hx with q | q
                    · exact H.out.2.2 x (List.mem_reverse.1 q)
                    · rw [List.mem_singleton] at q; rw [q]; exact hm)
                  rw [hmore.1, hmore.2] at this
                  exact this
                clear hf hmore
                go_wp2_with fail
                refine hh.mono ?_
                rintro e w15 ⟨rfl, hb15⟩
                have S15 : Hid (Back w3 (.slice ab i cb) ps.reverse w15) := S14.out.2.below hb15
                have hrl : ps.reverse.length = i := by rw [List.length_reverse, H.out.1]
                clear hb15 e1 hh
                go_wp2_with (first
                  | (at_builtin; refine app_one rfl (.tmp 96) (.tmp 98) rfl w3.heap.size _ ps.reverse m _ rfl S15.out.own rfl (by omega) S15.out.bel.size ?_; intro v16 w16 hown16 hbel16)
                  | fail)
                obtain ⟨a16, c16, rfl, _, _, R16⟩ := hown16.form
                have S16 : Hid (SetAt W B1 a2 tn c2 T w16) := S2.out.below (S15.out.bel.trans hbel16)
                have hl16 : (ps.reverse ++ [m]).length = i + 1 := by rw [List.length_append, hrl]; rfl
                rw [hl16]
                have k5 := k4 w16 a16 (i + 1) c16 R16 hl16
                clear hown16 hbel16 R16 hl16 k4 S15 S14
                refine k5.mono ?_
                rintro e w17 ⟨v17, rfl, ho17, hb17⟩
                obtain ⟨a17, c17, rfl, _, _, R17⟩ := ho17.form
                rw [TN.out.1]
                have S17 : Hid (SetAt W B1 a2 tn c2 T (w17.alloc (.cells #[.slice a17 tn c17] 34)) ∧ SetAt W w17.heap.size a17 tn c17 T (w17.alloc (.cells #[.slice a17 tn c17] 34))) :=
                  ⟨(S16.out.below hb17).below ((Below.refl _ w17).alloc (Nat.le_refl _) _), SetAt.make 34 R17 (S16.out.below hb17).bel⟩
                have e17 := S17.out.1.cell
                clear ho17 hb17 R17 k5
                go_wp2_with fail
                obtain ⟨w18, hw18⟩ : ∃ w18, w18 = w17.alloc (.cells #[.slice a17 tn c17] 34) := ⟨_, rfl⟩
                obtain ⟨B4, hB4⟩ : ∃ B4, w17.heap.size = B4 := ⟨_, rfl⟩
                rw [← hw18] at S17 ⊢
                rw [hB4] at S17 ⊢
                refine (paths_any w18 S17.out.1.rd TN.out.1 (by omega)).mono ?_
                rintro e w19 ⟨v19, rfl, ho19, hb19⟩
                obtain ⟨a19, c19, rfl, _, _, R19⟩ := ho19.form
                rw [TN.out.1] at ho19 ⊢
                have S19 : Hid (Own w19 w18.heap.size (.slice a19 tn c19) T ∧ Below w18.heap.size w18 w19) := ⟨ho19, hb19⟩
                clear ho19 hb19 R19 hw18 hB4 e17
                go_wp2_with fail
                go_loopg [16] tn (fun k v wr => ∃ (j : Nat) (ls : List Bs), v = .int .i64 j ∧ j + k = tn ∧ Hid (ls.length = tn ∧ Own wr w18.heap.size (.slice a19 tn c19) ls ∧ Below w18.heap.size w18 wr))
                case atStart => exact ⟨0, T, rfl, by omega, TN.out.1, S19.out⟩
                case round =>
                  obtain ⟨j, ls, rfl, hj, HL⟩ := hrel
                  by_cases hjn : j < tn
                  · have jd : (j : Int) < (tn : Int) := by omega
                    obtain ⟨g, rfl⟩ : ∃ g, a19 = some ⟨g, 0, none⟩ := by
                      obtain ⟨a, c, e, _, _, h⟩ := own_form HL.out.2.1
                      cases e
                      exact h (by rw [HL.out.1]; omega)
                    obtain ⟨hc, hf⟩ := own_at HL.out.2.1 (i := j) (by rw [HL.out.1]; exact hjn)
                    go_wp2
                    go_roundg (gk - 1)
                    case measure => omega
                    case rel =>
                      refine ⟨j + 1, ls.set j [109, 97, 114, 107, 101, 100], by go_num, by omega, by rw [List.length_set]; exact HL.out.1, own_put HL.out.2.1 j [109, 97, 114, 107, 101, 100], ?_⟩
                      exact HL.out.2.2.trans ((Turned.refl (fun k => k = g) wr).setCell (.inl rfl) _ |>.below HL.out.2.2.size (fun j hj q => by have := (HL.out.2.1.lt g rfl).1; omega))
                  · obtain rfl : j = tn := by omega
                    have S20 : Hid (SetAt W B1 a2 j c2 T wr ∧ SetAt W B4 a17 j c17 T wr) := ⟨S17.out.1.below HL.out.2.2, S17.out.2.below HL.out.2.2⟩
                    have S21 : Hid (SetAt W B1 a2 j c2 T wr.drew ∧ SetAt W B4 a17 j c17 T wr.drew) := ⟨S20.out.1.below (Below.refl _ wr).drew, S20.out.2.below (Below.refl _ wr).drew⟩
                    have d1 := S20.out.1.cell
                    have d4 := S20.out.2.cell
                    go_wp2_with fail
                    go_region_held3 (fun u => u.cell? ⟨B1, 0, none⟩ = some (.slice a2 j c2) ∧ u.cell? ⟨B4, 0, none⟩ = some (.slice a17 j c17)) (go_keep)
                      (first
                        | (go_at_call 13; refine (same_any _ S23.out.2.2.1 S23.out.2.2.2 TN.out.1 TN.out.1 (by omega) true (by simp)).mono ?_; rintro e w24 ⟨rfl, q24, rfl⟩)
                        | (go_at_call 22; refine (paths_at _ S22.out.1.rd TN.out.1 htn16).mono ?_; rintro e w23 ⟨a23, c23, rfl, r23, b23⟩; have S23 : Hid (SetAt W B1 a2 j c2 T w23 ∧ SetAt W B4 a17 j c17 T w23 ∧ Rd w23 a22 T ∧ Rd w23 a23 T) := ⟨S22.out.1.below b23, S22.out.2.1.below b23, S22.out.2.2.below b23, r23⟩; have k23 := And.intro S23.out.1.cell S23.out.2.1.cell; clear r23 b23)
                        | (go_at_call 22; refine (paths_at _ S21.out.2.rd TN.out.1 htn16).mono ?_; rintro e w22 ⟨a22, c22, rfl, r22, b22⟩; have S22 : Hid (SetAt W B1 a2 j c2 T w22 ∧ SetAt W B4 a17 j c17 T w22 ∧ Rd w22 a22 T) := ⟨S21.out.1.below b22, S21.out.2.below b22, r22⟩; have k22 := And.intro S22.out.1.cell S22.out.2.1.cell; clear r22 b22))
                    go_wp2
                    go_ret
                    exact ⟨rfl, below_drewN S23.out.1.bel _⟩
        · have hee2 : (ee != 0) = true := by simpa using hee
          have hT0 : T = [] := by rw [← TN.out.2.1]; exact lim_no (by rw [TN.out.2.2]; exact hee)
          have htn0 : tn = 0 := by rw [← TN.out.1, hT0]; rfl
          have hp := paths_at (c := c2) w14 S14.out.1.s1.rd TN.out.1 htn16
          subst htn0
          clear hT0
          go_wp2_with fail
          refine hp.mono ?_
          rintro e w15 ⟨a15, c15, rfl, _, hb15⟩
          have B15 : Hid (Below W.heap.size W w15) := S14.out.1.s1.bel.trans (hb15.mono S14.out.1.s1.bel.size)
          clear hb15
          go_wp2
          go_ret
          exact ⟨rfl, B15.out⟩

end Go.Proofs.Ytcecgcgnpildpaa
