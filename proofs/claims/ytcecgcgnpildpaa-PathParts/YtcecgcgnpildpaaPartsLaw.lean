/-
  The law PathParts, walked: of whatever text it returns true.
-/
import Derived.Test.YtcecgcgnpildpaaChain
import Derived.Test.YtcecgcgnpildpaaRLimit
import Derived.Test.YtcecgcgnpildpaaAwake
namespace Go.Proofs.Ytcecgcgnpildpaa
open Go.RowKit

theorem check_class {w1 : World} (x : Bs) (hx : x.length ≤ 9223372036854775807) (hp : isPath x = true) (u : SW (fun u => Below w1.heap.size w1 u)) :
    Calls Try.prog 11 #[.string ⟨x.toArray⟩] u.w fun e w' => e = .returned (.int .i64 0) ∧ ∃ u' : SW (fun u => Below w1.heap.size w1 u), w' = u'.w := by
  refine (check_at ⟨x.toArray⟩ (by rw [bsize]; exact hx) true hp u.w).mono ?_
  rintro e w' ⟨rfl, m, rfl⟩
  exact ⟨rfl, ⟨_, below_drewN u.ok m⟩, rfl⟩

theorem under_class {S : World → Prop} (p d : Bs) (f : Bool) (hf : under p d = f) (u : SW S) :
    Calls Try.prog 16 #[.string ⟨p.toArray⟩, .string ⟨d.toArray⟩] u.w fun e w' => e = .returned (.bool f) ∧ ∃ u' : SW S, w' = u'.w := by
  subst hf
  refine (under_any ⟨p.toArray⟩ ⟨d.toArray⟩ u.w).mono ?_
  rintro e w' ⟨rfl, rfl⟩
  exact ⟨rfl, u, rfl⟩

theorem cnt_step {l : Bs} {k : Nat} (h : k < l.length) : (l.take (k + 1)).count 47 = (l.take k).count 47 + if (l[k].toNat : Int) = 47 then 1 else 0 := by
  rw [List.take_succ_eq_append_getElem h, List.count_append]
  congr 1
  by_cases e : l[k] = 47
  · rw [e]; rfl
  · have : ¬ (l[k].toNat : Int) = 47 := fun q => e (UInt8.toNat_inj.1 (show l[k].toNat = 47 by omega))
    rw [if_neg this]
    simp [e]

set_option maxHeartbeats 4000000 in
set_option maxRecDepth 1000000 in
theorem parts_walk (p : Bs) (hp : p.length ≤ 9223372036854775807) (W : World) :
    Calls Try.prog 4 #[.string ⟨p.toArray⟩] W fun e w' => e = .returned (.bool true) ∧ Below W.heap.size W w' := by
  have c1 := fun w => parts_any ⟨p.toArray⟩ (by rw [bsize]; exact hp) w
  obtain ⟨f, hf⟩ : ∃ f, isPath p = f := ⟨_, rfl⟩
  have c2 := check_at ⟨p.toArray⟩ (by rw [bsize]; exact hp) f hf
  obtain ⟨T, hT⟩ : ∃ T, parts p = T := ⟨_, rfl⟩
  change ∀ w, Calls Try.prog 14 #[.string ⟨p.toArray⟩] w fun e w' => ∃ v', e = .returned v' ∧ Own w' w.heap.size v' (parts p) ∧ Below w.heap.size w w' at c1
  rw [hT] at c1
  cases f with
  | false =>
    have hT0 : T = [] := by rw [← hT, parts, hf]; rfl
    subst hT0
    rw [show err false = 2 from rfl] at c2
    clear hT hf
    go_enter Try.func4, Try.ntmps4
    go_wp2_with fail
    refine (awake_any _).mono ?_
    rintro e w1 ⟨rfl, hb1⟩
    have B1 : Hid (Below W.heap.size W w1) := hb1
    clear hb1
    go_wp2_with fail
    refine (c1 _).mono ?_
    rintro e w2 ⟨v2, rfl, ho2, hb2⟩
    obtain ⟨ao, cap, rfl, _, _, R2⟩ := ho2.form
    have B2 : Hid (Below W.heap.size W w2) := B1.out.trans (hb2.mono B1.out.size)
    clear ho2 hb2 R2
    simp only [List.length_nil]
    go_wp2_with fail
    refine (c2 _).mono ?_
    rintro e w3 ⟨rfl, m3, rfl⟩
    go_wp2
    go_ret
    exact ⟨rfl, below_drewN B2.out m3⟩
  | true =>
    have CH : Hid (Chain p T) := by show Chain p T; rw [← hT]; exact chain_of hf
    have hpl : p.length ≤ 102 := path_len hf
    rw [show err true = 0 from rfl] at c2
    obtain ⟨n, hn⟩ : ∃ n, T.length = n := ⟨_, rfl⟩
    have hn0 : 0 < n := by have := CH.out.pos; omega
    have hn6 : n ≤ 6 := by have := CH.out.six; omega
    have TN : Hid (T.length = n) := hn
    clear hT hf hn
    go_enter Try.func4, Try.ntmps4
    go_wp2_with fail
    refine (awake_any _).mono ?_
    rintro e w1 ⟨rfl, hb1⟩
    have B1 : Hid (Below W.heap.size W w1) := hb1
    clear hb1
    go_wp2_with fail
    refine (c1 _).mono ?_
    rintro e w2 ⟨v2, rfl, ho2, hb2⟩
    obtain ⟨ao, cap, rfl, _, _, R2⟩ := ho2.form
    have B2 : Hid (Below W.heap.size W w2 ∧ Rd w2 ao T) := ⟨B1.out.trans (hb2.mono B1.out.size), R2⟩
    clear ho2 hb2 R2
    rw [TN.out]
    go_wp2_with fail
    refine (c2 _).mono ?_
    rintro e w3 ⟨rfl, m3, rfl⟩
    have B3 : Hid (Below W.heap.size W (w2.drewN m3) ∧ Rd (w2.drewN m3) ao T) := ⟨below_drewN B2.out.1 m3, B2.out.2.below (below_drewN (Below.refl _ _) m3)⟩
    obtain ⟨w4, hw4⟩ : ∃ w4, w4 = w2.drewN m3 := ⟨_, rfl⟩
    rw [← hw4] at B3 ⊢
    obtain ⟨b, off, rfl, hlt, hc⟩ := B3.out.2 (by rw [TN.out]; exact hn0)
    have C : Hid (∀ i, i < n → w4.cell? ⟨b, off + i, none⟩ = some (.string ⟨(el T i).toArray⟩)) := fun i hi => hc i (by rw [TN.out]; exact hi)
    have clast : w4.cell? ⟨b, off + (n - 1), none⟩ = some (.string ⟨p.toArray⟩) := by
      rw [C.out (n - 1) (by omega), ← TN.out, CH.out.last]
    have hz : ((n : Int) == 0) = false := by rw [beq_eq_false_iff_ne]; omega
    have h6 : decide ((6 : Int) < (n : Int)) = false := decide_eq_false (by omega)
    clear hc hw4 c1 c2
    go_wp2_with fail
    go_loopg [4] n (fun k v wr => ∃ (i : Nat), v = .int .i64 i ∧ i + k = n ∧ Hid (Below w4.heap.size w4 wr))
    case atStart => exact ⟨0, rfl, by omega, Below.refl _ _⟩
    case round =>
      obtain ⟨i, rfl, hi, HR⟩ := hrel
      obtain ⟨g0, hg0⟩ : ∃ g0, g0 = gk := ⟨_, rfl⟩
      by_cases hin : i < n
      · have id : (i : Int) < (n : Int) := by omega
        obtain ⟨x, hx⟩ : ∃ x, el T i = x := ⟨_, rfl⟩
        have hit : i < T.length := by rw [TN.out]; exact hin
        have hxp : isPath x = true := by rw [← hx]; exact CH.out.path i hit
        have hxc : x.count 47 = i := by rw [← hx]; exact CH.out.count i hit
        have hxu : under p x = true := by rw [← hx]; exact CH.out.undr i hit
        have hxl : x.length ≤ 102 := path_len hxp
        have cx0 := C.out i hin
        rw [hx] at cx0
        have cx : wr.cell? ⟨b, off + i, none⟩ = some (.string ⟨x.toArray⟩) := (HR.out.cell hlt).trans cx0
        obtain ⟨xb, hxb⟩ : ∃ xb : ByteArray, (⟨x.toArray⟩ : ByteArray) = xb := ⟨_, rfl⟩
        have hxs : xb.size = x.length := by rw [← hxb, bsize]
        have X : Hid (el T i = x ∧ isPath x = true ∧ x.count 47 = i ∧ under p x = true ∧ (⟨x.toArray⟩ : ByteArray) = xb ∧ w4.cell? ⟨b, off + i, none⟩ = some (.string ⟨x.toArray⟩)) := ⟨hx, hxp, hxc, hxu, hxb, cx0⟩
        rw [hxb] at cx
        have hxs2 : xb.size ≤ 102 := by omega
        clear hx hxp hxc hxu hxb hit cx0
        go_wp2_with fail
        go_loopg [5, 6] xb.size (fun k nv v wr2 => ∃ (j c : Nat), v = .int .i64 j ∧ nv = .int .i64 c ∧ j + k = xb.size ∧ c ≤ j ∧ wr2 = wr ∧ Hid ((x.take j).count 47 = c))
        case atStart => exact ⟨0, 0, rfl, rfl, by omega, by omega, rfl, rfl⟩
        case round =>
          obtain ⟨j, c, rfl, rfl, hj, hcj, rfl, HC⟩ := hrel
          by_cases hjn : j < xb.size
          · have hst := cnt_step (l := x) (k := j) (by rw [← hxs]; exact hjn)
            have hgx : (x[j]'(by rw [← hxs]; exact hjn)) = xb[j] := by
              have := X.out.2.2.2.2.1
              subst this
              rfl
            rw [hgx, HC.out] at hst
            obtain ⟨d, hd⟩ : ∃ d : Int, (xb[j].toNat : Int) = d := ⟨_, rfl⟩
            rw [hd] at hst
            by_cases h47 : d = 47
            · subst h47
              have ST : Hid ((x.take (j + 1)).count 47 = c + 1) := hst
              clear hst hgx
              go_wp2
              go_roundg (gk - 1)
              case measure => omega
              case rel => exact ⟨j + 1, c + 1, by go_num, by go_num, by omega, by omega, rfl, ST.out⟩
            · rw [if_neg h47] at hst
              have ST : Hid ((x.take (j + 1)).count 47 = c) := hst
              have hb47 : (d == 47) = false := by rw [beq_eq_false_iff_ne]; exact h47
              clear hst hgx
              go_wp2
              go_roundg (gk - 1)
              case measure => omega
              case rel => exact ⟨j + 1, c, by go_num, rfl, by omega, by omega, rfl, ST.out⟩
          · obtain rfl : j = xb.size := by omega
            have hci : c = i := by
              have := HC.out
              rw [List.take_of_length_le (by omega), X.out.2.2.1] at this
              exact this.symm
            subst hci
            have NE : Nonempty (SW (fun u => Below w4.heap.size w4 u)) := ⟨⟨wr, HR.out⟩⟩
            have cxu : ∀ u : SW (fun u => Below w4.heap.size w4 u), u.w.cell? ⟨b, off + c, none⟩ = some (.string ⟨x.toArray⟩) := fun u => (u.ok.cell hlt).trans X.out.2.2.2.2.2
            have k1 := fun u => check_class (w1 := w4) x (by omega) X.out.2.1 u
            have k2 := fun u => under_class (S := fun u => Below w4.heap.size w4 u) p x true X.out.2.2.2.1 u
            by_cases h0 : c = 0
            · have hd0 : decide ((0 : Int) < (c : Int)) = false := decide_eq_false (by omega)
              have hd1 : decide (0 < c) = false := decide_eq_false (by omega)
              clear h0
              go_wp2_with fail
              refine wp_region_class (S := fun u => Below w4.heap.size w4 u) (by kernel_rfl) (by kernel_rfl) HR.out.drew ?_
              repeat (go_big_quiet_step (first | with_reducible exact k1 _ | with_reducible exact k2 _))
              refine wpQuiet_nil ?_
              intro _ hw'
              obtain ⟨u, hw''⟩ := hw'
              subst hw''
              have P7 : Hid (Below w4.heap.size w4 u.w) := u.ok
              obtain ⟨w7, hw7⟩ : ∃ w7, w7 = u.w := ⟨_, rfl⟩
              rw [← hw7] at P7 ⊢
              clear hw7
              go_wp2
              go_roundg (g0 - 1)
              case measure => omega
              case rel => exact ⟨c + 1, by go_num, by omega, P7.out⟩
            · obtain ⟨e, rfl⟩ : ∃ e, c = e + 1 := ⟨c - 1, by omega⟩
              obtain ⟨y, hy⟩ : ∃ y, el T e = y := ⟨_, rfl⟩
              have hn1 : under x y = true := by have := CH.out.next e (by rw [TN.out]; exact hin); rw [X.out.1, hy] at this; exact this
              have hb1 : under y x = false := by have := CH.out.back e (by rw [TN.out]; exact hin); rw [X.out.1, hy] at this; exact this
              have cy0 := C.out e (by omega)
              rw [hy] at cy0
              have cyu : ∀ u : SW (fun u => Below w4.heap.size w4 u), u.w.cell? ⟨b, off + e, none⟩ = some (.string ⟨y.toArray⟩) := fun u => (u.ok.cell hlt).trans cy0
              have k3 := fun u => under_class (S := fun u => Below w4.heap.size w4 u) x y true hn1 u
              have k4 := fun u => under_class (S := fun u => Below w4.heap.size w4 u) y x false hb1 u
              clear hy hn1 hb1 cy0
              go_wp2_with fail
              refine wp_region_class (S := fun u => Below w4.heap.size w4 u) (by kernel_rfl) (by kernel_rfl) HR.out.drew ?_
              repeat (go_big_quiet_step (first | with_reducible exact k1 _ | with_reducible exact k2 _ | with_reducible exact k3 _ | with_reducible exact k4 _))
              refine wpQuiet_nil ?_
              intro _ hw'
              obtain ⟨u, hw''⟩ := hw'
              subst hw''
              have P7 : Hid (Below w4.heap.size w4 u.w) := u.ok
              obtain ⟨w7, hw7⟩ : ∃ w7, w7 = u.w := ⟨_, rfl⟩
              rw [← hw7] at P7 ⊢
              clear hw7
              go_wp2
              go_roundg (g0 - 1)
              case measure => omega
              case rel => exact ⟨e + 1 + 1, by go_num, by omega, P7.out⟩
      · obtain rfl : i = n := by omega
        go_wp2
        go_ret
        exact ⟨rfl, B3.out.1.trans (HR.out.mono B3.out.1.size)⟩

end Go.Proofs.Ytcecgcgnpildpaa
