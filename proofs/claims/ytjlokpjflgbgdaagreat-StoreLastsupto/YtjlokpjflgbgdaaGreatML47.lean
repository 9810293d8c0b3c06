/-
  Several texts, laid together.
-/
import Derived.Sort.Walk7
import Derived.Test.YtjlokpjflgbgdaaGreatML44
import Derived.Test.YtjlokpjflgbgdaaGreatML45
import Derived.Test.YtjlokpjflgbgdaaGreatML46
import Derived.Sort.Walk13a
import Derived.Sort.AssemblyPlain
set_option maxHeartbeats 6400000
set_option maxRecDepth 100000
namespace Go.Proofs.YtjlokpjflgbgdaaGreat
open Go.RowKit Go.Sort Go.Shelf
def BoxU (w : World) (b : Nat) (r : UInt64) : Prop := w.heap[b]? = some (.cells #[.int .u64 (r.toNat : Int)] 358 (0, 0))
section
variable {w w' : World} {b : Nat} {r : UInt64}
theorem BoxU.lt (h : BoxU w b r) : b < w.heap.size := (Array.getElem?_eq_some_iff.1 h).1
theorem BoxU.cell (h : BoxU w b r) : w.cell? ⟨b, 0, none⟩ = some (.int .u64 (r.toNat : Int)) := by
 unfold BoxU at h
 simp [World.cell?, h]
theorem BoxU.thaw (h : BoxU w b r) : w.frozen? ⟨b, 0, none⟩ = false := by
 unfold BoxU at h
 simp [World.frozen?, h]
theorem BoxU.below (h : BoxU w b r) (hb : Below w.heap.size w w') : BoxU w' b r := (hb.block b h.lt).trans h
theorem BoxU.set (h : BoxU w b r) (s : UInt64) : BoxU (w.setCell ⟨b, 0, none⟩ (.int .u64 (s.toNat : Int))) b s := by
 unfold BoxU at h ⊢
 simp [World.setCell, Array.getElem?_modify, h]
theorem BoxU.turned {S : Nat -> Prop} (h : BoxU w b r) (ht : Turned S w w') (hS : ¬ S b) : BoxU w' b r := (ht.block b h.lt hS).trans h
theorem BoxU.new (w : World) (r : UInt64) : BoxU (w.alloc (.cells #[.int .u64 (r.toNat : Int)] 358)) w.heap.size r := by
 show (w.heap.push _)[w.heap.size]? = _
 simp
end
theorem next_any {w : World} {xb : Nat} {r : UInt64} (h : BoxU w xb r) : Calls Tryz.prog 251 #[.pointer (some ⟨xb, 0, none⟩)] w λ e w' => e = .returned (.int .u64 ((xorNext r).toNat : Int)) /\ Hid (BoxU w' xb (xorNext r) /\ Turned (λ k => k = xb) w w') := by
 have hc := calls_of_every_depth λ D => AnyS.xorshift_NextInS { klaySort with } D xb 0 r.toNat r.toNat_lt w h.cell h.thaw
 refine Calls.mono hc ?_
 rintro e w' ⟨rfl, rfl⟩
 rw [<- xorNext_toNat]
 have hb := bdrewN (w.setCell ⟨xb, 0, none⟩ (.int .u64 ((xorNext r).toNat : Int))) 3
 exact ⟨rfl, (h.set (xorNext r)).below hb, ((Turned.refl (λ k => k = xb) w).setCell (p := ⟨xb, 0, none⟩) (.inl rfl) _).trans (Turned.ofBelow (S := λ _ => False) hb) (λ _ _ q => q.elim)⟩
theorem pow_any (n : Nat) (hn : n < 4611686018427387904) (w : World) : Calls Tryz.prog 250 #[.int .i64 (n : Int)] w λ e w' => e = .returned (.int .u64 ((1 <<< bitsLen n : Nat) : Int)) /\ w' = w :=
 calls_of_every_depth λ D => AnyS.nextPowerOfTwoInS { klaySort with } D n hn w
theorem len_any (n : Nat) (hn : n < 4611686018427387904) (w : World) : Calls Tryz.prog 159 #[.int .u64 (n : Int)] w λ e w' => e = .returned (.int .i64 ((bitsLen n : Nat) : Int)) /\ w' = w :=
 calls_of_every_depth λ D => by
  have h := AnyS.bits_LenInS { klaySort with } D (n : Int) w (by omega) (by omega)
  rwa [Int.toNat_natCast, bitLen_eq _ (by omega)] at h
theorem brk_any {w : World} {g n c a b : Nat} {d : Array UInt64} (h : SR w g d) (hd : d.size = n) (hab : a + 8 <= b) (hb : b <= n) (hn : n <= 1000000000000) :
  Calls Tryz.prog 206 #[.slice (some ⟨g, 0, none⟩) n c, .int .i64 (a : Int), .int .i64 (b : Int)] w λ e w' => e = .returned (.tuple #[]) /\ Hid (SR w' g (breakPatterns d a b) /\ Turned (λ k => k = g) w w') := by
 obtain ⟨L, hL⟩ : ∃ L, a + L = b := ⟨b - a, by omega⟩
 obtain ⟨D, hD⟩ : ∃ D, breakPatterns d a b = D := ⟨_, rfl⟩
 rw [hD]
 rw [<- hL, breakPatterns_eq d a L (by omega)] at hD
 obtain ⟨M, hM⟩ : ∃ M : Nat, 1 <<< bitsLen L = M := ⟨_, rfl⟩
 have hM1 : 1 <= M := by rw [<- hM, Nat.one_shiftLeft]; exact Nat.two_pow_pos _
 have hM2 : M <= 2 * L := by rw [<- hM, Nat.one_shiftLeft]; exact two_pow_bitsLen_le (by omega)
 have hP := λ w => pow_any L (by omega) w
 rw [hM] at hD hP
 obtain ⟨q, hq⟩ : ∃ q, L / 4 = q := ⟨_, rfl⟩
 obtain ⟨q2, hq2⟩ : ∃ q2, q * 2 = q2 := ⟨_, rfl⟩
 obtain ⟨jm, hjm⟩ : ∃ jm, a + q2 = jm := ⟨_, rfl⟩
 obtain ⟨base, hbase⟩ : ∃ base, jm - 1 = base := ⟨_, rfl⟩
 obtain ⟨top, htop⟩ : ∃ top, jm + 1 = top := ⟨_, rfl⟩
 have hbb : a + L / 4 * 2 - 1 = base := by omega
 rw [hbb] at hD
 have m0 : (b : Int) - (a : Int) = (L : Int) := by omega
 have m1 : (L : Int).tdiv 4 = (q : Int) := by rw [<- hq]; rfl
 have m2 : (q : Int) * 2 = (q2 : Int) := by omega
 have m3 : (a : Int) + (q2 : Int) = (jm : Int) := by omega
 have m4 : (jm : Int) - 1 = (base : Int) := by omega
 have m5 : (jm : Int) + 1 = (top : Int) := by omega
 have w0 : IntKind.i64.wrap (L : Int) = (L : Int) := by rw [IntKind.wrap_i64]; omega
 have wu : IntKind.u64.wrap (L : Int) = (L : Int) := by rw [IntKind.wrap_u64]; omega
 have w1 : IntKind.i64.wrap (q : Int) = (q : Int) := by rw [IntKind.wrap_i64]; omega
 have w2 : IntKind.i64.wrap (q2 : Int) = (q2 : Int) := by rw [IntKind.wrap_i64]; omega
 have w3 : IntKind.i64.wrap (jm : Int) = (jm : Int) := by rw [IntKind.wrap_i64]; omega
 have w4 : IntKind.i64.wrap (base : Int) = (base : Int) := by rw [IntKind.wrap_i64]; omega
 have w5 : IntKind.i64.wrap (top : Int) = (top : Int) := by rw [IntKind.wrap_i64]; omega
 have g8 : (8 : Int) <= (L : Int) := by omega
 obtain ⟨xb, hxb⟩ : ∃ xb, w.heap.size = xb := ⟨_, rfl⟩
 obtain ⟨W, hW⟩ : ∃ W, W = w.alloc (.cells #[.int .u64 (L : Int)] 358) := ⟨_, rfl⟩
 have hUL : (UInt64.ofNat L).toNat = L := by simp; omega
 have NW : SR W g d /\ BoxU W xb (UInt64.ofNat L) /\ Below w.heap.size w W := by
  have hB : Below w.heap.size w W := by rw [hW]; exact (Below.refl _ w).alloc (Nat.le_refl _) _
  refine ⟨h.below hB, ?_, hB⟩
  have := BoxU.new w (UInt64.ofNat L)
  rw [hUL] at this
  rw [hW, <- hxb]
  exact this
 have NG : Hid (¬ xb = g) := by have := h.lt; show ¬ _; omega
 have N0 : Hid (bpRest a L M base 3 0 (UInt64.ofNat L, d) = D /\ SR W g d /\ BoxU W xb (UInt64.ofNat L) /\ Turned (λ k => k = g ∨ k = xb) W W /\ d.size = n) := ⟨hD, NW.1, NW.2.1, Turned.refl _ _, hd⟩
 have LAST : Hid (∀ w9 : World, Turned (λ k => k = g ∨ k = xb) W w9 -> Turned (λ k => k = g) w w9) := λ w9 t => (Turned.ofBelow NW.2.2).trans t (λ k hk q => q.elim id (λ e => by omega))
 have SH : base + 3 = top + 1 /\ a <= base /\ top < b /\ base + 2 = top := by omega
 clear h hd hD NW hUL hbb hq hq2 hjm hbase htop hM
 go_enter Tryz.func206, Tryz.ntmps206
 go_upto_region 3 with fail
 rw [<- hW]
 clear hW
 go_wp2_with fail
 refine (hP _).mono ?_
 rintro e w3 ⟨rfl, hw3⟩
 rw [hw3]
 clear hP hw3
 go_wp2_with fail
 go_loopg [9] 3 (λ k v9 wr => ∃ (idx t : Nat) (r : UInt64) (G : Array UInt64), v9 = .int .i64 (idx : Int) /\ t + k = 3 /\ base + t = idx /\ Hid (bpRest a L M base (3 - t) t (r, G) = D /\ SR wr g G /\ BoxU wr xb r /\ Turned (λ k => k = g ∨ k = xb) W wr /\ G.size = n))
 case atStart => exact ⟨base, 0, UInt64.ofNat L, d, rfl, rfl, rfl, N0.out⟩
 case round =>
  obtain ⟨idx, t, r, G, rfl, htk, hidx, HR⟩ := hrel
  clear N0
  have IX : Hid (base + t = idx) := hidx
  by_cases ht3 : t < 3
  ·have z1 : (idx : Int) <= (top : Int) := by omega
   obtain ⟨O, hO⟩ : ∃ O : Nat, O = (xorNext r).toNat &&& (M - 1) := ⟨_, rfl⟩
   have lO : O <= M - 1 := by rw [hO]; exact Nat.and_le_right
   obtain ⟨M1, hM3⟩ : ∃ M1, M - 1 = M1 := ⟨_, rfl⟩
   have y1 : (M : Int) - 1 = (M1 : Int) := by omega
   have y2 : IntKind.u64.wrap (M1 : Int) = (M1 : Int) := by rw [IntKind.wrap_u64]; omega
   have y3 : bits .and .u64 ((xorNext r).toNat : Int) (M1 : Int) = (O : Int) := by
    rw [bits_and_u64_nat _ _ (xorNext r).toNat_lt (by omega), hO, hM3]
   have y4 : IntKind.i64.wrap (O : Int) = (O : Int) := by rw [IntKind.wrap_i64]; omega
   have hN := next_any HR.out.2.2.1
   have z2 : (idx : Int) < (n : Int) := by omega
   have z3 : (0 : Int) <= (idx : Int) := by omega
   by_cases hge : L <= O
   ·have ho3 : L <= O := hge
    obtain ⟨oo, hoo⟩ : ∃ oo, O - L = oo := ⟨_, rfl⟩
    have hol : oo < L := by omega
    obtain ⟨ao, hao⟩ : ∃ ao, a + oo = ao := ⟨_, rfl⟩
    have ST0 : bpRest a L M base (3 - (t + 1)) (t + 1) (xorNext r, swp G idx ao) = D := by
     rw [<- HR.out.1, bp_step a L M base t r G oo (by omega) (by rw [<- hO, if_pos hge, hoo]), hidx, hao]
    have g1 : (a : Int) + (oo : Int) = (ao : Int) := by omega
    have g2 : IntKind.i64.wrap (ao : Int) = (ao : Int) := by rw [IntKind.wrap_i64]; omega
    have g3 : (ao : Int) < (n : Int) := by omega
    have g4 : (0 : Int) <= (ao : Int) := by omega
    have g5 : (L : Int) <= (O : Int) := by omega
    have g6 : (O : Int) - (L : Int) = (oo : Int) := by omega
    have g7 : IntKind.i64.wrap (oo : Int) = (oo : Int) := by rw [IntKind.wrap_i64]; omega
    have ST1 : Hid (bpRest a L M base (3 - (t + 1)) (t + 1) (xorNext r, swp G idx ao) = D) := ST0
    clear ST0
    by_cases hEq : idx = ao
    ·subst hEq
     have ST : Hid (bpRest a L M base (3 - (t + 1)) (t + 1) (xorNext r, swp G idx idx) = D) := ST1.out
     clear ST1 hao hoo hO hidx
     go_wp2_with fail
     refine hN.mono ?_
     rintro e w5 ⟨rfl, H5⟩
     have N5 : Hid (SR w5 g G /\ BoxU w5 xb (xorNext r) /\ Turned (λ k => k = g ∨ k = xb) W w5 /\ G.size = n) := ⟨HR.out.2.1.turned H5.out.2 (λ e => NG.out e.symm), H5.out.1, HR.out.2.2.2.1.trans H5.out.2 (λ _ _ q => .inr q), HR.out.2.2.2.2⟩
     clear HR H5 hN
     obtain ⟨x, hx⟩ : ∃ x, G[idx]! = x := ⟨_, rfl⟩
     have c0 : w5.cell? ⟨g, idx, none⟩ = some (uv x) := by rw [<- hx]; exact N5.out.1.cell (by have := N5.out.2.2.2; omega)
     have f0 := N5.out.1.thaw idx
     have HXY : Hid (G[idx]! = x /\ G[idx]! = x) := ⟨hx, hx⟩
     clear hx
     go_wp2_with fail
     go_region
     go_wp2
     go_roundg (gk - 1)
     case measure => omega
     case rel => exact ⟨idx + 1, t + 1, xorNext r, swp G idx idx, by go_num, by omega, by have := IX.out; omega, ST.out, N5.out.1.drewSwap HXY.out.1 HXY.out.2, N5.out.2.1.turned (turnSwap (Turned.refl (λ k => k = g) w5) _ _ _ _) (λ e => NG.out e), N5.out.2.2.1.trans (turnSwap (Turned.refl (λ k => k = g) w5) _ _ _ _) (λ _ _ q => .inl q), by rw [swp_size]; exact N5.out.2.2.2⟩
    ·have ST : Hid (bpRest a L M base (3 - (t + 1)) (t + 1) (xorNext r, swp G idx ao) = D) := ST1.out
     clear ST1 hao hoo hO hidx
     go_wp2_with fail
     refine hN.mono ?_
     rintro e w5 ⟨rfl, H5⟩
     have N5 : Hid (SR w5 g G /\ BoxU w5 xb (xorNext r) /\ Turned (λ k => k = g ∨ k = xb) W w5 /\ G.size = n) := ⟨HR.out.2.1.turned H5.out.2 (λ e => NG.out e.symm), H5.out.1, HR.out.2.2.2.1.trans H5.out.2 (λ _ _ q => .inr q), HR.out.2.2.2.2⟩
     clear HR H5 hN
     obtain ⟨x, hx⟩ : ∃ x, G[idx]! = x := ⟨_, rfl⟩
     obtain ⟨y, hy⟩ : ∃ y, G[ao]! = y := ⟨_, rfl⟩
     have c0 : w5.cell? ⟨g, idx, none⟩ = some (uv x) := by rw [<- hx]; exact N5.out.1.cell (by have := N5.out.2.2.2; omega)
     have c1 : w5.cell? ⟨g, ao, none⟩ = some (uv y) := by rw [<- hy]; exact N5.out.1.cell (by have := N5.out.2.2.2; omega)
     have f0 := N5.out.1.thaw idx
     have f1 := N5.out.1.thaw ao
     have HXY : Hid (G[idx]! = x /\ G[ao]! = y) := ⟨hx, hy⟩
     have nt : ¬ idx = ao := hEq
     have nt2 : ¬ ao = idx := λ e => nt e.symm
     clear hx hy
     go_wp2_with fail
     go_region
     go_wp2
     go_roundg (gk - 1)
     case measure => omega
     case rel => exact ⟨idx + 1, t + 1, xorNext r, swp G idx ao, by go_num, by omega, by have := IX.out; omega, ST.out, N5.out.1.drewSwap HXY.out.1 HXY.out.2, N5.out.2.1.turned (turnSwap (Turned.refl (λ k => k = g) w5) _ _ _ _) (λ e => NG.out e), N5.out.2.2.1.trans (turnSwap (Turned.refl (λ k => k = g) w5) _ _ _ _) (λ _ _ q => .inl q), by rw [swp_size]; exact N5.out.2.2.2⟩
   ·have ho3 : ¬ L <= O := hge
    obtain ⟨oo, hoo⟩ : ∃ oo, O = oo := ⟨_, rfl⟩
    have hol : oo < L := by omega
    obtain ⟨ao, hao⟩ : ∃ ao, a + oo = ao := ⟨_, rfl⟩
    have ST0 : bpRest a L M base (3 - (t + 1)) (t + 1) (xorNext r, swp G idx ao) = D := by
     rw [<- HR.out.1, bp_step a L M base t r G oo (by omega) (by rw [<- hO, if_neg hge, hoo]), hidx, hao]
    have g1 : (a : Int) + (oo : Int) = (ao : Int) := by omega
    have g2 : IntKind.i64.wrap (ao : Int) = (ao : Int) := by rw [IntKind.wrap_i64]; omega
    have g3 : (ao : Int) < (n : Int) := by omega
    have g4 : (0 : Int) <= (ao : Int) := by omega
    have g5 : ¬ (L : Int) <= (O : Int) := by omega
    have g6 : O = oo := hoo
    have ST1 : Hid (bpRest a L M base (3 - (t + 1)) (t + 1) (xorNext r, swp G idx ao) = D) := ST0
    clear ST0
    subst g6
    by_cases hEq : idx = ao
    ·subst hEq
     have ST : Hid (bpRest a L M base (3 - (t + 1)) (t + 1) (xorNext r, swp G idx idx) = D) := ST1.out
     clear ST1 hao hO hidx
     go_wp2_with fail
     refine hN.mono ?_
     rintro e w5 ⟨rfl, H5⟩
     have N5 : Hid (SR w5 g G /\ BoxU w5 xb (xorNext r) /\ Turned (λ k => k = g ∨ k = xb) W w5 /\ G.size = n) := ⟨HR.out.2.1.turned H5.out.2 (λ e => NG.out e.symm), H5.out.1, HR.out.2.2.2.1.trans H5.out.2 (λ _ _ q => .inr q), HR.out.2.2.2.2⟩
     clear HR H5 hN
     obtain ⟨x, hx⟩ : ∃ x, G[idx]! = x := ⟨_, rfl⟩
     have c0 : w5.cell? ⟨g, idx, none⟩ = some (uv x) := by rw [<- hx]; exact N5.out.1.cell (by have := N5.out.2.2.2; omega)
     have f0 := N5.out.1.thaw idx
     have HXY : Hid (G[idx]! = x /\ G[idx]! = x) := ⟨hx, hx⟩
     clear hx
     go_wp2_with fail
     go_region
     go_wp2
     go_roundg (gk - 1)
     case measure => omega
     case rel => exact ⟨idx + 1, t + 1, xorNext r, swp G idx idx, by go_num, by omega, by have := IX.out; omega, ST.out, N5.out.1.drewSwap HXY.out.1 HXY.out.2, N5.out.2.1.turned (turnSwap (Turned.refl (λ k => k = g) w5) _ _ _ _) (λ e => NG.out e), N5.out.2.2.1.trans (turnSwap (Turned.refl (λ k => k = g) w5) _ _ _ _) (λ _ _ q => .inl q), by rw [swp_size]; exact N5.out.2.2.2⟩
    ·have ST : Hid (bpRest a L M base (3 - (t + 1)) (t + 1) (xorNext r, swp G idx ao) = D) := ST1.out
     clear ST1 hao hO hidx
     go_wp2_with fail
     refine hN.mono ?_
     rintro e w5 ⟨rfl, H5⟩
     have N5 : Hid (SR w5 g G /\ BoxU w5 xb (xorNext r) /\ Turned (λ k => k = g ∨ k = xb) W w5 /\ G.size = n) := ⟨HR.out.2.1.turned H5.out.2 (λ e => NG.out e.symm), H5.out.1, HR.out.2.2.2.1.trans H5.out.2 (λ _ _ q => .inr q), HR.out.2.2.2.2⟩
     clear HR H5 hN
     obtain ⟨x, hx⟩ : ∃ x, G[idx]! = x := ⟨_, rfl⟩
     obtain ⟨y, hy⟩ : ∃ y, G[ao]! = y := ⟨_, rfl⟩
     have c0 : w5.cell? ⟨g, idx, none⟩ = some (uv x) := by rw [<- hx]; exact N5.out.1.cell (by have := N5.out.2.2.2; omega)
     have c1 : w5.cell? ⟨g, ao, none⟩ = some (uv y) := by rw [<- hy]; exact N5.out.1.cell (by have := N5.out.2.2.2; omega)
     have f0 := N5.out.1.thaw idx
     have f1 := N5.out.1.thaw ao
     have HXY : Hid (G[idx]! = x /\ G[ao]! = y) := ⟨hx, hy⟩
     have nt : ¬ idx = ao := hEq
     have nt2 : ¬ ao = idx := λ e => nt e.symm
     clear hx hy
     go_wp2_with fail
     go_region
     go_wp2
     go_roundg (gk - 1)
     case measure => omega
     case rel => exact ⟨idx + 1, t + 1, xorNext r, swp G idx ao, by go_num, by omega, by have := IX.out; omega, ST.out, N5.out.1.drewSwap HXY.out.1 HXY.out.2, N5.out.2.1.turned (turnSwap (Turned.refl (λ k => k = g) w5) _ _ _ _) (λ e => NG.out e), N5.out.2.2.1.trans (turnSwap (Turned.refl (λ k => k = g) w5) _ _ _ _) (λ _ _ q => .inl q), by rw [swp_size]; exact N5.out.2.2.2⟩
  ·have z1 : ¬ (idx : Int) <= (top : Int) := by omega
   have FIN : Hid (SR wr g D /\ Turned (λ k => k = g) w wr) := by
    have e3 : t = 3 := by omega
    have hq := HR.out.1
    rw [e3] at hq
    have hq' : G = D := hq
    rw [<- hq']
    exact ⟨HR.out.2.1, LAST.out _ HR.out.2.2.2.1⟩
   clear HR
   go_wp2
   refine bodyPost_end (v := .tuple #[]) (results_none rfl _ _ _) rfl ?_
   exact ⟨rfl, FIN⟩
end Go.Proofs.YtjlokpjflgbgdaaGreat

namespace Go.Proofs.YtjlokpjflgbgdaaGreat
open Go.Sort hiding Below
theorem swoU : SWO ltU where
 irrefl x := by simp [ltU]
 trans x y z h1 h2 := by simp only [ltU, decide_eq_true_eq, UInt64.lt_iff_toNat_lt] at *; omega
 ntrans x y z h1 h2 := by simp only [ltU, decide_eq_false_iff_not, UInt64.lt_iff_toNat_lt] at *; omega
theorem order2_ge {d : Array UInt64} {a b s n : Nat} (ha : n <= a) (hb : n <= b) : n <= (order2 ltU d a b s).1 /\ n <= (order2 ltU d a b s).2.1 := by
 unfold order2
 split
 ·exact ⟨hb, ha⟩
 ·exact ⟨ha, hb⟩
theorem median_ge {d : Array UInt64} {a b e0 s n : Nat} (ha : n <= a) (hb : n <= b) (he : n <= e0) : n <= (median ltU d a b e0 s).1 := by
 have l1 := order2_ge (d := d) (s := s) ha hb
 have l2 := order2_ge (d := d) (s := (order2 ltU d a b s).2.2) l1.2 he
 exact (order2_ge (d := d) (s := (order2 ltU d (order2 ltU d a b s).2.1 e0 (order2 ltU d a b s).2.2).2.2) l1.1 l2.1).2
theorem pick_in {d : Array UInt64} {a b : Nat} (h : 12 < b - a) : a < (choosePivot ltU d a b).1 /\ (choosePivot ltU d a b).1 + 1 < b := by
 obtain ⟨l, hl⟩ : ∃ l, b - a = l := ⟨_, rfl⟩
 obtain ⟨q, hq⟩ : ∃ q, l / 4 = q := ⟨_, rfl⟩
 unfold choosePivot
 simp only [hl, hq]
 have h8 : l ≥ 8 := by omega
 simp only [h8, if_true]
 have hb : b - 1 <= b := by omega
 split
 ·have x1 : ∀ s, a + 1 <= (medianAdjacent ltU d (a + q * 1) s).1 /\ (medianAdjacent ltU d (a + q * 1) s).1 < b - 1 := λ s => ⟨median_ge (by omega) (by omega) (by omega), (median_lt (by omega) (by omega) (by omega)).1⟩
  have x2 : ∀ s, a + 1 <= (medianAdjacent ltU d (a + q * 2) s).1 /\ (medianAdjacent ltU d (a + q * 2) s).1 < b - 1 := λ s => ⟨median_ge (by omega) (by omega) (by omega), (median_lt (by omega) (by omega) (by omega)).1⟩
  have x3 : ∀ s, a + 1 <= (medianAdjacent ltU d (a + q * 3) s).1 /\ (medianAdjacent ltU d (a + q * 3) s).1 < b - 1 := λ s => ⟨median_ge (by omega) (by omega) (by omega), (median_lt (by omega) (by omega) (by omega)).1⟩
  have y1 := median_ge (d := d) (s := (medianAdjacent ltU d (a + q * 3) (medianAdjacent ltU d (a + q * 2) (medianAdjacent ltU d (a + q * 1) 0).2).2).2) (x1 0).1 (x2 (medianAdjacent ltU d (a + q * 1) 0).2).1 (x3 (medianAdjacent ltU d (a + q * 2) (medianAdjacent ltU d (a + q * 1) 0).2).2).1
  have y2 := (median_lt (d := d) (s := (medianAdjacent ltU d (a + q * 3) (medianAdjacent ltU d (a + q * 2) (medianAdjacent ltU d (a + q * 1) 0).2).2).2) (x1 0).2 (x2 (medianAdjacent ltU d (a + q * 1) 0).2).2 (x3 (medianAdjacent ltU d (a + q * 2) (medianAdjacent ltU d (a + q * 1) 0).2).2).2).1
  exact ⟨by omega, by omega⟩
 ·have y1 := median_ge (d := d) (a := a + q * 1) (b := a + q * 2) (e0 := a + q * 3) (s := 0) (n := a + 1) (by omega) (by omega) (by omega)
  have y2 := (median_lt (d := d) (a := a + q * 1) (b := a + q * 2) (e0 := a + q * 3) (s := 0) (n := b - 1) (by omega) (by omega) (by omega)).1
  exact ⟨by omega, by omega⟩
structure Rnd (E : Array UInt64) (a b lim : Nat) (wb wp : Bool) (d1 : Array UInt64) (l1 cp : Nat) (ch : Hint) (d2 : Array UInt64) (pv : Nat) (ht : Hint) (p1 : Array UInt64) (p2 : Bool) : Prop where
 wbt : wb = true -> E = d1 /\ lim = l1
 wbf : wb = false -> breakPatterns E a b = d1 /\ lim - 1 = l1
 piv : choosePivot ltU d1 a b = (cp, ch)
 dec : ch = .decreasing -> reverseRange d1 a b = d2 /\ (b - 1) - (cp - a) = pv /\ ht = .increasing
 inc : ch ≠ .decreasing -> d1 = d2 /\ cp = pv /\ ht = ch
 yes : (wb && wp && decide (ht = .increasing)) = true -> partialInsertionSort ltU d2 a b = (p1, p2)
 no : (wb && wp && decide (ht = .increasing)) = false -> d2 = p1 /\ p2 = false
 s1 : d1.size = E.size
 s2 : d2.size = E.size
 s3 : p1.size = E.size
 cpr : a < cp /\ cp + 1 < b
 pvr : a < pv /\ pv < b
 llim : l1 <= lim
 done : p2 = true -> pdq ltU E a b lim wb wp = p1
 eql : p2 = false -> (decide (a > 0) && !ltU p1[a - 1]! p1[pv]!) = true -> ∀ mid d4, partitionEqual ltU p1 a b pv = (mid, d4) -> a < mid /\ mid <= b /\ d4.size = E.size /\ Go.Sort.Below ltU mid b d4 /\ pdq ltU E a b lim wb wp = pdq ltU d4 mid b l1 wb wp
 prt : p2 = false -> (decide (a > 0) && !ltU p1[a - 1]! p1[pv]!) = false -> ∀ mid ap d4, partition ltU p1 a b pv = (mid, ap, d4) -> a <= mid /\ mid < b /\ d4.size = E.size /\ Go.Sort.Below ltU a mid d4 /\ Go.Sort.Below ltU (mid + 1) b d4 /\
  (mid - a < b - mid -> (pdq ltU d4 a mid l1 true true).size = E.size /\ Go.Sort.Below ltU (mid + 1) b (pdq ltU d4 a mid l1 true true) /\ pdq ltU E a b lim wb wp = pdq ltU (pdq ltU d4 a mid l1 true true) (mid + 1) b l1 (decide (mid - a ≥ (b - a) / 8)) ap) /\
  (¬ mid - a < b - mid -> (pdq ltU d4 (mid + 1) b l1 true true).size = E.size /\ Go.Sort.Below ltU a mid (pdq ltU d4 (mid + 1) b l1 true true) /\ pdq ltU E a b lim wb wp = pdq ltU (pdq ltU d4 (mid + 1) b l1 true true) a mid l1 (decide (b - mid ≥ (b - a) / 8)) ap)
theorem rnd (E : Array UInt64) (a b lim : Nat) (wb wp : Bool) (h12 : ¬ b - a <= 12) (hl : ¬ lim = 0) (hb : b <= E.size) (hB : Go.Sort.Below ltU a b E) : ∃ d1 l1 cp ch d2 pv ht p1 p2, Rnd E a b lim wb wp d1 l1 cp ch d2 pv ht p1 p2 := by
 obtain ⟨s1, B1, hc1, s2, B2, hpv, s3, B3⟩ := rd_facts (limit := lim) (wb := wb) (wp := wp) swoU partialInsertionSort_holds reverseRange_holds (show a < b by omega) hb hB
 have hpk : a < (rd ltU E a b lim wb wp).c.1 /\ (rd ltU E a b lim wb wp).c.1 + 1 < b := by
  rw [rd_c]
  exact pick_in (by omega)
 refine ⟨(rd ltU E a b lim wb wp).d1, (rd ltU E a b lim wb wp).lim, (rd ltU E a b lim wb wp).c.1, (rd ltU E a b lim wb wp).c.2, (rd ltU E a b lim wb wp).d2, (rd ltU E a b lim wb wp).pivot, (rd ltU E a b lim wb wp).hint, (rd ltU E a b lim wb wp).pi.1, (rd ltU E a b lim wb wp).pi.2, ?_⟩
 have hpv2 : a < (rd ltU E a b lim wb wp).pivot /\ (rd ltU E a b lim wb wp).pivot < b := by
  refine ⟨?_, hpv.2⟩
  by_cases hh : (rd ltU E a b lim wb wp).c.2 = .decreasing
  ·rw [(rd_dec hh).2.1]; omega
  ·rw [(rd_not hh).2.1]; exact hpk.1
 exact {
  wbt := λ e => by subst e; exact ⟨rfl, rfl⟩
  wbf := λ e => by subst e; exact ⟨rfl, rfl⟩
  piv := rfl
  dec := λ e => ⟨(rd_dec e).1.symm, (rd_dec e).2.1.symm, (rd_dec e).2.2⟩
  inc := λ e => ⟨(rd_not e).1.symm, (rd_not e).2.1.symm, (rd_not e).2.2⟩
  yes := λ e => (rd_pi_yes e).symm
  no := λ e => by rw [rd_pi_no e]; exact ⟨rfl, rfl⟩
  s1 := s1, s2 := s2, s3 := s3, cpr := hpk, pvr := hpv2, llim := rd_lim_le
  done := λ e => pdq_done h12 hl e
  eql := λ e g mid d4 hx => by
   have g' := g
   simp only [Bool.and_eq_true, decide_eq_true_eq, Bool.not_eq_true'] at g'
   obtain ⟨r1, r2, r3, r4, _⟩ := round_eq swoU (partitionEqual_holds ltU) g'.1 hpv.1 hpv.2 (by rw [s3]; exact hb) B3 g'.2 hx
   exact ⟨r1, r2, r3.trans s3, r4, by rw [pdq_eq h12 hl e g (by rw [hx]; exact ⟨r1, r2⟩), hx]⟩
  prt := λ e g mid ap d4 hx => by
   obtain ⟨r1, r2, r3, r4, r5, r6, r7⟩ := round_part swoU (partition_holds ltU) hpv.1 hpv.2 (by rw [s3]; exact hb) B3 hx
   refine ⟨r1, r2, r3.trans s3, r4, r5, λ q => ?_, λ q => ?_⟩
   ·obtain ⟨pL, sL⟩ := pdq_sorts ltU swoU d4 a mid (rd ltU E a b lim wb wp).lim true true (by omega) (by rw [r3, s3]; omega) r4
    exact ⟨by rw [pL.1, r3, s3], (r6 _ pL sL).1, by rw [pdq_left h12 hl e g (by rw [hx]; exact ⟨r1, r2⟩) (by rw [hx]; exact q), hx]⟩
   ·obtain ⟨pL, sL⟩ := pdq_sorts ltU swoU d4 (mid + 1) b (rd ltU E a b lim wb wp).lim true true (by omega) (by rw [r3, s3]; omega) r5
    exact ⟨by rw [pL.1, r3, s3], (r7 _ pL sL).1, by rw [pdq_right h12 hl e g (by rw [hx]; exact ⟨r1, r2⟩) (by rw [hx]; exact q), hx]⟩ }
end Go.Proofs.YtjlokpjflgbgdaaGreat
