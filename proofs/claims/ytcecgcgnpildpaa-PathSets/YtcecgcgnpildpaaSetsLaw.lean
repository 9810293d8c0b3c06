/-
  The law PathSets, walked: of whatever lists it returns true, and what was there when it was called is as it was.
-/
import Derived.Test.YtcecgcgnpildpaaRLimit
import Derived.Test.YtcecgcgnpildpaaSortsLaw
namespace Go.Proofs.Ytcecgcgnpildpaa
open Go.RowKit

theorem lim_len (ps : List Bs) : (limS ps).length ≤ 16 := by
  unfold limS
  split
  · simp
  · split
    · have h1 := red_len (srt ps)
      have h2 := srt_len ps
      omega
    · simp

theorem has_class {W : World} {B n cap m : Nat} {ao bo : Option Addr} {ss ts : List Bs} (x : Bs) (hl : ss.length = n) (hn : n ≤ 16) (hx : x.length ≤ 9223372036854775807) (f : Bool) (hf : hasS ss x = f)
    (u : SW (fun u => SetAt W B ao n cap ss u ∧ Rd u bo ts ∧ ts.length = m)) :
    Calls Try.prog 24 #[.agg #[.slice ao n cap], .string ⟨x.toArray⟩] u.w fun e w' => e = .returned (.bool f) ∧ ∃ u' : SW (fun u => SetAt W B ao n cap ss u ∧ Rd u bo ts ∧ ts.length = m), w' = u'.w := by
  refine (has_any x u.w u.ok.1.rd hl (by omega) hx f hf).mono ?_
  rintro e w' ⟨rfl, hb⟩
  exact ⟨rfl, ⟨w', u.ok.1.below hb, u.ok.2.1.below hb, u.ok.2.2⟩, rfl⟩

set_option maxHeartbeats 4000000 in
set_option maxRecDepth 1000000 in
theorem sets_walk (ao qo : Option Addr) (n c m d : Nat) (ps xs : List Bs) (W : World) (hl : ps.length = n) (hcn : n ≤ 8796093022208) (hin : Rd W ao ps) (hpx : ∀ x ∈ ps, x.length ≤ 9223372036854775807)
    (hk : xs.length = m) (hcm : m ≤ 9223372036854775807) (hix : Rd W qo xs) (hxx : ∀ x ∈ xs, x.length ≤ 9223372036854775807) :
    Calls Try.prog 6 #[.slice ao n c, .slice qo m d] W fun e w' => e = .returned (.bool true) ∧ Below W.heap.size W w' := by
  have H : Hid (ps.length = n ∧ Rd W ao ps ∧ (∀ x ∈ ps, x.length ≤ 9223372036854775807) ∧ xs.length = m ∧ Rd W qo xs ∧ ∀ x ∈ xs, x.length ≤ 9223372036854775807) := ⟨hl, hin, hpx, hk, hix, hxx⟩
  clear hl hin hpx hk hix hxx
  go_enter Try.func6, Try.ntmps6
  go_wp2_with fail
  refine (awake_any _).mono ?_
  rintro e w1 ⟨rfl, hb1⟩
  have B1 : Hid (Below W.heap.size W w1) := hb1
  clear hb1
  by_cases hbig : 300 < m
  · have hbi : (300 : Int) < (m : Int) := by omega
    go_wp2
    go_ret
    exact ⟨rfl, B1.out⟩
  · have hbi : decide ((300 : Int) < (m : Int)) = false := decide_eq_false (by omega)
    have hbz : Below w1.heap.size w1 (w1.alloc (.cells #[] 9)) := (Below.refl _ w1).alloc (Nat.le_refl _) _
    have B2 : Hid (Below W.heap.size W (w1.alloc (.cells #[] 9)) ∧ Rd (w1.alloc (.cells #[] 9)) ao ps) := ⟨B1.out.trans (hbz.mono B1.out.size), (H.out.2.1.below B1.out).below hbz⟩
    clear hbz
    go_wp2_with (first
      | (at_builtin; refine app_list rfl (.tmp 18) (.tmp 19) rfl w1.heap.size _ [] ps ao n c rfl (own_zero w1 _ (Nat.le_refl _)) rfl B2.out.2 H.out.1 (by simp; omega) (by simp) ?_; intro v2 w2 hown2 hbel2)
      | fail)
    rw [List.nil_append] at hown2
    obtain ⟨ao2, cap2, rfl, _, _, R2⟩ := hown2.form
    rw [H.out.1]
    have B3 : Hid (Below W.heap.size W w2 ∧ Rd w2 ao2 ps) := ⟨B2.out.1.trans (hbel2.mono B1.out.size), R2⟩
    clear hown2 hbel2 R2 B2
    obtain ⟨T, hT⟩ : ∃ T, limS ps = T := ⟨_, rfl⟩
    obtain ⟨ee, hE⟩ : ∃ ee, limE ps = ee := ⟨_, rfl⟩
    have hTl : T.length ≤ 16 := by rw [← hT]; exact lim_len ps
    obtain ⟨tn, htn⟩ : ∃ tn, T.length = tn := ⟨_, rfl⟩
    have htn16 : tn ≤ 16 := by omega
    have hlim := limit_any (c := cap2) w2 B3.out.2 H.out.1 H.out.2.2.1
    rw [hT, hE] at hlim
    have hrl : ∀ w, Rd w ao ps → _ := fun w h => rlimit_any (c := c) (n := n) w h H.out.1
    rw [hT, hE, htn] at hrl
    have TN : Hid (T.length = tn) := htn
    clear hT hE hTl htn
    refine hlim.mono ?_
    rintro e w3 ⟨v3, rfl, ho3, hb3⟩
    obtain ⟨ao3, cap3, rfl, _, _, R3⟩ := ho3.form
    rw [TN.out]
    have B4 : Hid (Below W.heap.size W w3 ∧ Rd w3 ao3 T) := ⟨B3.out.1.trans (hb3.mono B3.out.1.size), R3⟩
    clear ho3 hb3 R3 hlim B3
    have S4 : Hid (SetAt W w3.heap.size ao3 tn cap3 T (w3.alloc (.cells #[.slice ao3 tn cap3] 34))) := SetAt.make 34 B4.out.2 B4.out.1
    go_wp2_with fail
    refine (hrl _ (H.out.2.1.below S4.out.bel)).mono ?_
    rintro e w5 ⟨ao5, cap5, rfl, R5, hb5⟩
    have S5 : Hid (SetAt W w3.heap.size ao3 tn cap3 T w5 ∧ Rd w5 ao5 T) := ⟨S4.out.below hb5, R5⟩
    have c5 := S5.out.1.cell
    clear R5 hb5 hrl
    go_wp2_with fail
    refine (paths_any w5 S5.out.1.rd TN.out (by omega)).mono ?_
    rintro e w6 ⟨v6, rfl, ho6, hb6⟩
    obtain ⟨ao6, cap6, rfl, _, _, R6⟩ := ho6.form
    rw [TN.out]
    have S6 : Hid (SetAt W w3.heap.size ao3 tn cap3 T w6 ∧ Rd w6 ao5 T ∧ Rd w6 ao6 T) := ⟨S5.out.1.below hb6, S5.out.2.below hb6, R6⟩
    clear R6 hb6 ho6 c5
    go_wp2_with fail
    refine (same_any w6 S6.out.2.2 S6.out.2.1 TN.out TN.out (by omega) true (by simp)).mono ?_
    rintro e w7 ⟨rfl, m7, rfl⟩
    have S7 : Hid (SetAt W w3.heap.size ao3 tn cap3 T (w6.drewN m7) ∧ Rd (w6.drewN m7) ao5 T ∧ T.length = tn) := ⟨S6.out.1.below (below_drewN (Below.refl _ _) m7), S6.out.2.1.below (below_drewN (Below.refl _ _) m7), TN.out⟩
    go_wp2_with fail
    go_loopg [9, 10] m (fun k av v wr => ∃ (i : Nat) (al : Bool), v = .int .i64 i ∧ av = .bool al ∧ i + k = m ∧ Hid ((xs.take i).any (hasS T) = al ∧ SetAt W w3.heap.size ao3 tn cap3 T wr ∧ Rd wr ao5 T ∧ T.length = tn))
    case atStart => exact ⟨0, false, rfl, rfl, by omega, rfl, S7.out⟩
    case round =>
      obtain ⟨i, al, rfl, rfl, hi, HR⟩ := hrel
      by_cases hin : i < m
      · have id : (i : Int) < (m : Int) := by omega
        obtain ⟨b, off, rfl, hlt, hc⟩ := H.out.2.2.2.2.1 (by rw [H.out.2.2.2.1]; omega)
        obtain ⟨x, hx⟩ : ∃ x, el xs i = x := ⟨_, rfl⟩
        have c0 := hc i (by rw [H.out.2.2.2.1]; omega)
        rw [hx] at c0
        have hxl : x.length ≤ 9223372036854775807 := by rw [← hx]; exact H.out.2.2.2.2.2 _ (el_mem (by rw [H.out.2.2.2.1]; exact hin))
        have C : Hid (W.cell? ⟨b, off + i, none⟩ = some (.string ⟨x.toArray⟩)) := c0
        have c1 : wr.cell? ⟨b, off + i, none⟩ = some (.string ⟨x.toArray⟩) := (HR.out.2.1.bel.cell hlt).trans c0
        obtain ⟨f, hf⟩ : ∃ f, hasS T x = f := ⟨_, rfl⟩
        have hnx : (xs.take (i + 1)).any (hasS T) = (al || f) := by rw [anyf_step (by rw [H.out.2.2.2.1]; exact hin), HR.out.1, hx, hf]
        have NX : Hid _ := hnx
        have HF : Hid (hasS T x = f) := hf
        have hri := rin_any (c := cap5) x wr HR.out.2.2.1 HR.out.2.2.2 (by omega) f hf
        clear hc c0 hx hf hnx
        go_wp2_with fail
        refine hri.mono ?_
        rintro e w8 ⟨rfl, hb8⟩
        have S8 : Hid (SetAt W w3.heap.size ao3 tn cap3 T w8 ∧ Rd w8 ao5 T ∧ T.length = tn) := ⟨HR.out.2.1.below hb8, HR.out.2.2.1.below hb8, HR.out.2.2.2⟩
        have NE : Nonempty (SW (fun u => SetAt W w3.heap.size ao3 tn cap3 T u ∧ Rd u ao5 T ∧ T.length = tn)) := ⟨⟨w8, S8.out⟩⟩
        have cs : ∀ u : SW (fun u => SetAt W w3.heap.size ao3 tn cap3 T u ∧ Rd u ao5 T ∧ T.length = tn), u.w.cell? ⟨w3.heap.size, 0, none⟩ = some (.slice ao3 tn cap3) := fun u => u.ok.1.cell
        have cx : ∀ u : SW (fun u => SetAt W w3.heap.size ao3 tn cap3 T u ∧ Rd u ao5 T ∧ T.length = tn), u.w.cell? ⟨b, off + i, none⟩ = some (.string ⟨x.toArray⟩) := fun u => (u.ok.1.bel.cell hlt).trans C.out
        clear hri hb8 c1
        go_wp2_with fail
        refine wp_region_class (S := fun u => SetAt W w3.heap.size ao3 tn cap3 T u ∧ Rd u ao5 T ∧ T.length = tn) (by kernel_rfl) (by kernel_rfl) ⟨S8.out.1.below (Below.refl _ w8).drew, S8.out.2.1.below (Below.refl _ w8).drew, S8.out.2.2⟩ ?_
        repeat (go_big_quiet_step (exact has_class x TN.out htn16 hxl f HF.out _))
        refine wpQuiet_nil ?_
        intro _ hw'
        obtain ⟨u, hw''⟩ := hw'
        subst hw''
        have P9 : Hid (SetAt W w3.heap.size ao3 tn cap3 T u.w ∧ Rd u.w ao5 T ∧ T.length = tn) := u.ok
        obtain ⟨w9, hw9⟩ : ∃ w9, w9 = u.w := ⟨_, rfl⟩
        rw [← hw9] at P9 ⊢
        clear hw9 cs cx
        cases al <;> cases f
        all_goals
          go_wp2
          go_roundg (gk - 1)
          case measure => omega
          case rel => exact ⟨i + 1, _, by go_num, rfl, by omega, NX.out, P9.out⟩
      · obtain rfl : i = m := by omega
        have e := HR.out.1
        rw [List.take_of_length_le (by rw [H.out.2.2.2.1]; omega)] at e
        have hany := fun w hw1 hw2 => any_any (c := cap3) (d := d) (n := tn) (m := i) (ss := T) (xs := xs) (ao := ao3) (bo := qo) w hw1 TN.out (by omega) hw2 H.out.2.2.2.1 (by omega) H.out.2.2.2.2.2 al e
        have hano := fun w hw1 => any_any (c := cap3) (d := 0) (n := tn) (m := 0) (ss := T) (xs := []) (ao := ao3) (bo := none) w hw1 TN.out (by omega) (Rd.nil w none) rfl (by omega) (by simp) false rfl
        have c0 := HR.out.2.1.cell
        clear e
        go_wp2_with fail
        refine (hany wr HR.out.2.1.rd (H.out.2.2.2.2.1.below HR.out.2.1.bel)).mono ?_
        rintro e w8 ⟨rfl, hb8⟩
        have S8 : Hid (SetAt W w3.heap.size ao3 tn cap3 T w8) := HR.out.2.1.below hb8
        have c8 := S8.out.cell
        clear hb8 c0 hany
        go_wp2_with fail
        refine (hano w8 S8.out.rd).mono ?_
        rintro e w9 ⟨rfl, hb9⟩
        have B9 : Hid (Below W.heap.size W w9) := S8.out.bel.trans (hb9.mono S8.out.bel.size)
        clear hb9
        go_wp2
        go_ret
        exact ⟨rfl, B9.out⟩

end Go.Proofs.Ytcecgcgnpildpaa
