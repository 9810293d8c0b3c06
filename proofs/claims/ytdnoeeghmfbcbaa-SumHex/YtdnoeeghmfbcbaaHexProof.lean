/-
  Proved: for every ID and every text the law SumHex of layer 1 returns true: sum.Hex and sum.Parse are one to one, and Parse refuses every other text. No condition.
-/
import Derived.Test.YtdnoeeghmfbcbaaRound
import Derived.ProofKit
import Derived.OpenShut
import Derived.ShutString
import Derived.Below
namespace Go.Proofs.Ytdnoeeghmfbcbaa
open Go.ChangeShapes Go.WideShapes Go.ChangeAt Go.RowKit
open Go.ChangeMaps (open_string shut_string)

theorem par_at (s : ByteArray) (n f : Int) (hp : parOf s = (n, f)) (w : World) :
    Calls Try.prog 15 #[.string s] w fun e w' => e = .returned (.tuple #[.int .u64 n, .int .i64 f]) ∧ w' = w := by
  have h := par_any s w
  rw [hp] at h
  exact h
theorem rpar_at (s : ByteArray) (n f : Int) (hp : parOf s = (n, f)) (w : World) :
    Calls Try.prog 16 #[.string s] w fun e w' => e = .returned (.tuple #[.int .u64 n, .int .i64 f]) ∧ ∃ m, w' = w.drewN m := by
  have h := rpar_any s w
  rw [hp] at h
  exact h
theorem hex_at (n : Int) (s : ByteArray) (h0 : 0 ≤ n) (h1 : n < 18446744073709551616) (hs : hexS n = s) (w : World) :
    Calls Try.prog 14 #[.int .u64 n] w fun e w' => e = .returned (.string s) ∧ Below w.heap.size w w' := by
  have h := hex_any n h0 h1 w
  rw [hs] at h
  exact h
theorem rhex_at (n : Int) (s : ByteArray) (h0 : 0 ≤ n) (h1 : n < 18446744073709551616) (hs : hexS n = s) (w : World) :
    Calls Try.prog 17 #[.int .u64 n] w fun e w' => e = .returned (.string s) ∧ Below w.heap.size w w' := by
  have h := rhex_any n h0 h1 w
  rw [hs] at h
  exact h

set_option maxHeartbeats 1600000 in
theorem hex_walk (id : Int) (s : ByteArray) (h0 : 0 ≤ id) (h1 : id < 18446744073709551616) (w : World) :
    Calls Try.prog 6 #[.int .u64 id, .string s] w fun e w' => e = .returned (.bool true) ∧ Below w.heap.size w w' := by
  obtain ⟨t, ht⟩ : ∃ t, hexS id = t := ⟨_, rfl⟩
  have HT : Hid (hexS id = t) := ht
  have hpt := par_hex id h0 h1
  rw [ht] at hpt
  have HPT : Hid (parOf t = (id, 0)) := hpt
  obtain ⟨n, f, hp⟩ : ∃ n f, parOf s = (n, f) := ⟨_, _, rfl⟩
  have HP : Hid (parOf s = (n, f)) := hp
  have HX : Hid (f = 0 → 0 ≤ n ∧ n < 18446744073709551616 ∧ hexS n = s) := by
    intro hf
    subst hf
    exact hex_par s n hp
  clear ht hpt hp
  by_cases hf : f = 0
  · subst hf
    have HX2 : Hid (0 ≤ n ∧ n < 18446744073709551616 ∧ hexS n = s) := HX.out rfl
    clear HX
    go_enter Try.func6, Try.ntmps6
    go_wp2_with fail
    refine (awake_any _).mono ?_
    rintro e w1 ⟨rfl, hb1⟩
    go_wp2_with fail
    refine (hex_at id t h0 h1 HT.out _).mono ?_
    rintro e w2 ⟨rfl, hb2⟩
    go_wp2_with fail
    refine (par_at t id 0 HPT.out _).mono ?_
    rintro e w3 ⟨rfl, rfl⟩
    go_wp2_with fail
    refine (par_at s n 0 HP.out _).mono ?_
    rintro e w4 ⟨rfl, rfl⟩
    go_wp2_with fail
    refine (rpar_at s n 0 HP.out _).mono ?_
    rintro e w5 ⟨rfl, m5, rfl⟩
    go_wp2_with fail
    refine (rhex_at id t h0 h1 HT.out _).mono ?_
    rintro e w6 ⟨rfl, hb6⟩
    go_wp2_with fail
    refine (hex_at n s HX2.out.1 HX2.out.2.1 HX2.out.2.2 _).mono ?_
    rintro e w7 ⟨rfl, hb7⟩
    go_wp2_with fail
    go_ret
    refine ⟨rfl, ?_⟩
    have c2 := hb1.trans (hb2.mono hb1.size)
    have c5 := below_drewN c2 m5
    have c6 := c5.trans (hb6.mono c5.size)
    exact c6.trans (hb7.mono c6.size)
  · have hf0 : (f != 0) = true := by simpa using hf
    go_enter Try.func6, Try.ntmps6
    go_wp2_with fail
    refine (awake_any _).mono ?_
    rintro e w1 ⟨rfl, hb1⟩
    go_wp2_with fail
    refine (hex_at id t h0 h1 HT.out _).mono ?_
    rintro e w2 ⟨rfl, hb2⟩
    go_wp2_with fail
    refine (par_at t id 0 HPT.out _).mono ?_
    rintro e w3 ⟨rfl, rfl⟩
    go_wp2_with fail
    refine (par_at s n f HP.out _).mono ?_
    rintro e w4 ⟨rfl, rfl⟩
    go_wp2_with fail
    refine (rpar_at s n f HP.out _).mono ?_
    rintro e w5 ⟨rfl, m5, rfl⟩
    go_wp2_with fail
    refine (rhex_at id t h0 h1 HT.out _).mono ?_
    rintro e w6 ⟨rfl, hb6⟩
    go_wp2_with fail
    go_ret
    refine ⟨rfl, ?_⟩
    have c2 := hb1.trans (hb2.mono hb1.size)
    have c5 := below_drewN c2 m5
    exact c5.trans (hb6.mono c5.size)
theorem hex_own : ownKnob Try.prog.godebug = none := by kernel_rfl

set_option maxRecDepth 100000 in
theorem hex_lifted (os : Os) (started : os.Started) (H : Type) (enc : TypeId × Value → H) :
    ReturnsInHanded {} Try.checked os 6 .any (Rows.sumHexSpec.pre6 enc Try.prog Try.f6 Rows.sumHexRow.domain false) (Rows.sumHexSpec.post enc Try.prog Try.f6 false true false false) := by
  refine returnsInHanded_of_change (C := Try.checked) hex_own started (by kernel_rfl) Try.func6
    (ChangeSpec.witness6 (enc := enc) (C := Try.checked) false ⟨#[], #[.int .u64 0, .string ByteArray.empty], []⟩ 8 (by kernel_rfl) (by kernel_rfl) (by kernel_rfl) (by kernel_rfl)) ?_
  intro W base args ds gs before hval0 hW hcnd _
  have hval : ∀ (j : Nat) t v, Try.f6.params[j]? = some t → args[j]? = some v → Value.okWide Try.prog W .any base t v := hval0
  have hW' := hW
  obtain ⟨p, q, hA0, hV, rfl, hfz, hnd⟩ := hW
  have hA : DataW.TrodAll enc Try.prog W 0 (fun _ => true) true Try.f6.params.toList args.toList ds p := hA0
  rw [Try.params6] at hA hval
  obtain ⟨v0, vs0, d0, ds0, p0, q0, hargs, rfl, rfl, h0, r0⟩ := trodAll_cons hA
  obtain ⟨v1, vs1, d1, ds1, p1, q1, rfl, rfl, rfl, h1, r1⟩ := trodAll_cons r0
  obtain ⟨rfl, rfl, rfl⟩ := trodAll_nil r1
  obtain rfl : args = #[v0, v1] := by cases args; simp_all
  obtain ⟨rfl, rfl⟩ := trodVars_none hV
  obtain ⟨a0, rfl, rfl, rfl, w0⟩ := open_int Try.underlying24 (hval 0 24 v0 rfl rfl) h0
  obtain ⟨a1, rfl, rfl, rfl, w1⟩ := open_string Try.underlying9 (hval 1 9 v1 rfl rfl) h1
  clear hA0 hval0
  simp only [List.append_nil] at hW'
  have w00 : 0 ≤ a0 := (bounds_u64 w0).1
  have w01 : a0 < 18446744073709551616 := by have := (bounds_u64 w0).2; omega
  refine (hex_walk a0 a1 w00 w01 W).mono fun e W' ⟨he, bel⟩ => ?_
  subst he
  exact ⟨_, rfl, _, _, _, [], _, [], hW', trodAll_mk1 (shut_bool Try.underlying4 _), (trodAll_cons_mk (shut_int Try.underlying24 w0) (trodAll_cons_mk (shut_string Try.underlying9 w1) trodAll_mk0)), rfl, bel.frame _, fun h => by cases h⟩

theorem hex_over : Rows.sumHexRow.holds Try.pinned (OpenSpec.ofChange Rows.sumHexSpec) :=
  OpenClaim.holds_of_wide 6 Try.f6 rfl rfl rfl rfl rfl rfl rfl ⟨rfl, rfl, rfl, rfl, rfl⟩ rfl rfl rfl rfl rfl (by kernel_rfl) Try.func6 (by kernel_rfl)
    (of_decide_eq_true (by kernel_rfl)) (by unfold Func.isWrapper; first | (rw [if_pos (by decide +kernel)]; kernel_rfl) | (rw [if_neg (by decide +kernel)]; exact ⟨rfl, rfl⟩))
    (fun os started H enc _ => hex_lifted os started H enc)

theorem sumHex_holds : Rows.SumHexSaid := hex_over
#print axioms sumHex_holds
end Go.Proofs.Ytdnoeeghmfbcbaa
