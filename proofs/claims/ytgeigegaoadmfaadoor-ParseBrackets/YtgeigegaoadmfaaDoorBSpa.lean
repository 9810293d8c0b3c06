/-
  parse.spare by a contract. No condition but that a tree has no more nodes than are left.
-/
import Derived.Test.YtgeigegaoadmfaaDoorBDep
namespace Go.Proofs.YtgeigegaoadmfaaDoor
open Go.RowKit

theorem sz_app (a b : List Nd) : sz (foOf (a ++ b)) = sz (foOf a) + sz (foOf b) := by
  induction a with
  | nil => simp [foOf, sz]
  | cons x a ih =>
    have e1 : foOf ((x :: a) ++ b) = x.onto (foOf (a ++ b)) := rfl
    have e2 : foOf (x :: a) = x.onto (foOf a) := rfl
    rw [e1, e2]
    simp only [Nd.onto, sz, ih]
    omega
theorem sz_one (x : Nd) : sz (foOf [x]) = x.sz := by simp [foOf, Nd.onto, sz, Nd.sz]
theorem sz_take {f : Fo} {i : Nat} {x : Nd} (h : (ndL f)[i]? = some x) : sz (foOf ((ndL f).take (i + 1))) = sz (foOf ((ndL f).take i)) + x.sz := by
  rw [List.take_add_one, h]
  show sz (foOf (_ ++ [x])) = _
  rw [sz_app, sz_one]
theorem sz_le (f : Fo) (i : Nat) : sz (foOf ((ndL f).take i)) ≤ sz f := by
  have := sz_app ((ndL f).take i) ((ndL f).drop i)
  rw [List.take_append_drop, fo_ndL] at this
  omega

set_option maxHeartbeats 1600000 in
set_option maxRecDepth 100000 in
theorem spare_any (nd : Nd) : ∀ (left : Nat), nd.sz ≤ left → left ≤ 100000 → ∀ (Q : Nat → Prop) (w : World) (v : NV), NdIn Q w v nd → Calls Tryd.prog 16 #[v.val, .int .i64 left] w fun e w' => e = .returned (.int .i64 ((left - nd.sz : Nat) : Int)) ∧ Below w.heap.size w w' := by
  induction nd using Nd.ind with
  | h nd ih =>
    intro left hsz hlf Q w v hv
    obtain ⟨us, hrd, _, hns, hul⟩ := hv.rows
    have hlen := hns.len
    rw [hul] at hlen
    have hkc := hv.kc
    have hse : nd.sz = sz nd.kids + 1 := rfl
    have hl1 : v.kl ≤ 100000 := by
      have := len_sz nd.kids
      have := hv.kl
      omega
    have hdn : nd.sz = sz (foOf ((ndL nd.kids).take v.kl)) + 1 := by
      rw [List.take_of_length_le (by omega), fo_ndL]
      rfl
    have hih : ∀ (i : Nat) (x : Nd), (ndL nd.kids)[i]? = some x → ∀ (u : World) (kv : NV) (lf : Nat), x.sz ≤ lf → lf ≤ 100000 → NdIn Q u kv x → Calls Tryd.prog 16 #[kv.val, .int .i64 lf] u fun e w' => e = .returned (.int .i64 ((lf - x.sz : Nat) : Int)) ∧ Below u.heap.size u w' := by
      intro i x hx u kv lf h1 h2 hk
      exact ih x (List.mem_of_getElem? hx) lf h1 h2 Q u kv hk
    have H : Hid (RdG encN w v.ka us ∧ NdsIn Q w us (ndL nd.kids) ∧ us.length = v.kl ∧ (∀ i, sz (foOf ((ndL nd.kids).take i)) + 1 ≤ left) ∧ nd.sz = sz (foOf ((ndL nd.kids).take v.kl)) + 1 ∧ v.kl = (ndL nd.kids).length) := ⟨hrd, hns, hul, fun i => by have := sz_le nd.kids i; omega, hdn, hlen⟩
    have HI : Hid (∀ (i : Nat) (x : Nd), (ndL nd.kids)[i]? = some x → ∀ (u : World) (kv : NV) (lf : Nat), x.sz ≤ lf → lf ≤ 100000 → NdIn Q u kv x → Calls Tryd.prog 16 #[kv.val, .int .i64 lf] u fun e w' => e = .returned (.int .i64 ((lf - x.sz : Nat) : Int)) ∧ Below u.heap.size u w') := hih
    have hl0 : 1 ≤ left := by omega
    clear hrd hns hul hdn hih ih hv hlen hsz hse
    obtain ⟨vo, vt, vn, vi, va, vl, vc, vp⟩ := v
    simp only at H hl1 hkc ⊢
    go_enter Tryd.func16, Tryd.ntmps16
    go_wp2_with fail
    go_loopg [1, 12] vl (fun g bv iv wr => ∃ (i L : Nat), iv = .int .i64 i ∧ i + g = vl ∧ bv = .int .i64 L ∧ L + sz (foOf ((ndL nd.kids).take i)) + 1 = left ∧ Hid (Below w.heap.size w wr))
    case atStart => exact ⟨0, left - 1, rfl, by omega, congrArg (Value.int .i64) (by omega), by simp [foOf, sz]; omega, bz1 w _⟩
    case round =>
      obtain ⟨i, L, rfl, hi, rfl, hL, HB⟩ := hrel
      by_cases hin : i < vl
      · have hii : (i : Int) < (vl : Int) := by omega
        have hi0 : (0 : Int) ≤ (i : Int) := by omega
        obtain ⟨x, hx⟩ : ∃ x, (ndL nd.kids)[i]? = some x := ⟨_, List.getElem?_eq_getElem (by have := H.out.2.2.2.2.2; omega)⟩
        obtain ⟨kv, hkv, hkn⟩ := H.out.2.1.get hx
        have hrd := H.out.1.below HB.out
        obtain ⟨kb, koff, rfl, _⟩ := hrd.some_of hkv
        obtain ⟨k0, k1, k2, k3, k4, k5⟩ := hrd.node hkv
        have hxs := sz_take hx
        have hx1 := H.out.2.2.2.1 (i + 1)
        have hc := fun u hb => HI.out i x hx u kv L (by omega) (by omega) (hkn.below hb)
        have HSX : Hid (sz (foOf ((ndL nd.kids).take (i + 1))) = sz (foOf ((ndL nd.kids).take i)) + x.sz ∧ x.sz ≤ L ∧ L + sz (foOf ((ndL nd.kids).take i)) + 1 = left) := ⟨hxs, by omega, hL⟩
        have hLn : ¬ (L : Int) < 0 := by omega
        have hL2 : L ≤ 100000 := by omega
        clear hrd hx hkv hkn hxs hx1 hL
        obtain ⟨ko, kt, kn, ki, ka, kl, kc, kp⟩ := kv
        simp only at k0 k1 k2 k3 k4 k5 hc
        have HC : Hid (∀ u, Below w.heap.size w u → _) := hc
        clear hc
        go_wp2_with fail
        refine (HC.out _ (HB.out.trans ((bz1 wr _).mono HB.out.size))).mono ?_
        rintro e w3 ⟨rfl, b3⟩
        have HB3 : Hid (Below w.heap.size w w3) := (HB.out.trans ((bz1 wr _).mono HB.out.size)).trans (b3.mono (by have := HB.out.size; simp; omega))
        clear b3
        go_wp2_with fail
        go_roundg (gk - 1)
        case measure => omega
        case rel => exact ⟨i + 1, L - x.sz, by go_num, by omega, rfl, by have := HSX.out; omega, HB3.out⟩
      · obtain rfl : i = vl := by omega
        have HE : Hid (nd.sz = sz (foOf ((ndL nd.kids).take i)) + 1 ∧ L + sz (foOf ((ndL nd.kids).take i)) + 1 = left) := ⟨H.out.2.2.2.2.1, hL⟩
        clear hL
        go_wp2_with fail
        go_ret
        exact ⟨by have := HE.out; exact congrArg (fun z => Ending.returned (Value.int .i64 z)) (by omega), HB.out⟩

end Go.Proofs.YtgeigegaoadmfaaDoor
