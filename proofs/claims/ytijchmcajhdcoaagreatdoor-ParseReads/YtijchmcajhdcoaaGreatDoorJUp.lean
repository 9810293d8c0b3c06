import Derived.Test.YtijchmcajhdcoaaGreatDoorJReg
/-!
  The reference's Parse, where a sign behind is made: by a contract over a frame that is a letter. No condition.
-/
namespace Go.Proofs.YtijchmcajhdcoaaGreatDoor
open Go.RowKit

/-- A node of a sign behind: its box, and its kid's row, in two new blocks. -/
structure Mu (W5 u : World) (gx gy : Nat) (num pos : Int) (kv : NV) : Prop where
  bel : Below W5.heap.size W5 u
  lx : W5.heap.size ≤ gx
  ly : W5.heap.size ≤ gy ∧ gy < u.heap.size
  ne : gx ≠ gy
  box : Box6 u gx 34 (.int .i64 12) (.string ⟨#[]⟩) (.int .i64 num) (.int .u64 0) (.slice (some ⟨gy, 0, none⟩) 1 1) (.int .i64 pos)
  row : RdG encN u (some ⟨gy, 0, none⟩) [kv]
theorem Mu.num {W5 u : World} {gx gy : Nat} {n pos : Int} {kv : NV} (h : Mu W5 u gx gy n pos kv) (k : Int) : Mu W5 (u.setCell ⟨gx, 2, none⟩ (.int .i64 k)) gx gy k pos kv := by
  have T : Turned (fun g => g = gx) u (u.setCell ⟨gx, 2, none⟩ (.int .i64 k)) := (Turned.refl (fun g => g = gx) u).setCell (p := ⟨gx, 2, none⟩) (.inl rfl) _
  refine ⟨h.bel.setCell (p := ⟨gx, 2, none⟩) h.lx _, h.lx, ⟨h.ly.1, Nat.lt_of_lt_of_le h.ly.2 T.size⟩, h.ne, h.box.put2 _, h.row.turnN T (fun _ a e q => ?_)⟩
  cases e
  exact h.ne q.symm

set_option maxHeartbeats 8000000 in
set_option maxRecDepth 100000 in
theorem up36 {mS m11 nb no nl nc q kl kc : Nat} {W5 : World} {wv x0 x1 x2 x3 : Value} {tp ko kn ki kp : Int} {kt : Bs} {ka : Option Addr} {us : List NV} (hb : Box2 W5 mS 58 (.slice (some ⟨nb, no, none⟩) nl nc) wv) (hx : Box5 W5 m11 60 x0 x1 x2 x3 (.int .i64 tp))
    (hrow : RdG encN W5 (some ⟨nb, no, none⟩) us) (hkv : us[q]? = some ⟨ko, kt, kn, ki, ka, kl, kc, kp⟩) (hq : nl = q + 1) (hql : q ≤ 2000) (hnc : nl ≤ nc)
    (A : Act) (k8 : A.tmps[8]? = some (.pointer (some ⟨mS, 0, none⟩))) (k11 : A.tmps[11]? = some (.pointer (some ⟨m11, 0, none⟩))) (k15 : A.tmps[15]? = some (.int .i64 (nl : Int))) (hz : A.tmps.size = 276) :
    Code.wp Tryz.prog (prg 36) (fun e b u => e = .normal ∧ ∃ gx gy, b.tmps[16]? = some (.pointer (some ⟨gx, 0, none⟩)) ∧ Upd [167, 168, 169, 170, 171, 172, 173, 174, 175, 176, 16] A b ∧ Mu W5 u gx gy 0 tp ⟨ko, kt, kn, ki, ka, kl, kc, kp⟩) A W5 := by
  have KS : Hid (∀ u, Below W5.heap.size W5 u → u.cell? ⟨mS, 0, none⟩ = some (.slice (some ⟨nb, no, none⟩) nl nc) ∧ u.cell? ⟨m11, 4, none⟩ = some (.int .i64 tp) ∧ u.cell? ⟨nb, no + q * 6, none⟩ = some (.int .i64 ko) ∧ u.cell? ⟨nb, no + q * 6 + 1, none⟩ = some (.string ⟨kt.toArray⟩) ∧ u.cell? ⟨nb, no + q * 6 + 2, none⟩ = some (.int .i64 kn) ∧ u.cell? ⟨nb, no + q * 6 + 3, none⟩ = some (.int .u64 ki) ∧ u.cell? ⟨nb, no + q * 6 + 4, none⟩ = some (.slice ka kl kc) ∧ u.cell? ⟨nb, no + q * 6 + 5, none⟩ = some (.int .i64 kp)) := by
    intro u hu
    exact ⟨(hb.below hu).cells.1, (hx.below hu).cells.2.2.2.2, (hrow.below hu).node hkv⟩
  have HS0 := KS.out _ (Below.refl _ W5).drew
  have j0 : (nl : Int) - 1 = (q : Int) := by omega
  have j1 : (q : Int) < (nl : Int) := by omega
  have j2 : (0 : Int) ≤ (q : Int) := by omega
  have j3 : (nl : Int) ≤ (nc : Int) := by omega
  have wq : IntKind.i64.wrap (q : Int) = (q : Int) := by rw [IntKind.wrap_i64]; omega
  clear hb hx hrow hkv hq
  refine wp_name (fun A0 hA0 => ?_)
  have HU : Upd [167, 168, 169, 170, 171, 172, 173, 174, 175, 176, 16] A A0 := by rw [hA0]; exact Upd.refl _ _
  rw [← hA0] at k8 k11 k15 hz
  clear hA0
  unfold prg
  simp only [Tryz.f6, Option.bind_some, regionOf, reduceIte, Nat.reduceEqDiff, Option.getD_some]
  refine wp_region_tail (fun u => u.cell? ⟨mS, 0, none⟩ = some (.slice (some ⟨nb, no, none⟩) nl nc) ∧ u.cell? ⟨m11, 4, none⟩ = some (.int .i64 tp) ∧ u.cell? ⟨nb, no + q * 6, none⟩ = some (.int .i64 ko) ∧ u.cell? ⟨nb, no + q * 6 + 1, none⟩ = some (.string ⟨kt.toArray⟩) ∧ u.cell? ⟨nb, no + q * 6 + 2, none⟩ = some (.int .i64 kn) ∧ u.cell? ⟨nb, no + q * 6 + 3, none⟩ = some (.int .u64 ki) ∧ u.cell? ⟨nb, no + q * 6 + 4, none⟩ = some (.slice ka kl kc) ∧ u.cell? ⟨nb, no + q * 6 + 5, none⟩ = some (.int .i64 kp)) 11 rfl (by kernel_rfl) (by kernel_rfl) HS0 (fun HS => ?_)
  clear HS0
  simp only [List.take_succ_cons, List.take_zero]
  obtain ⟨U0, hU0⟩ : ∃ U0, W5.drew = U0 := ⟨_, rfl⟩
  have FB0 : Hid (Below W5.heap.size W5 U0) := by rw [← hU0]; exact (Below.refl _ _).drew
  rw [hU0] at HS ⊢
  clear hU0
  refine take_at 0 (some 167) (.pointer (some ⟨mS, 0, none⟩)) rfl rfl (by kernel_rfl) (by kernel_rfl) (by kernel_rfl) (fun _ _ _ h => by cases h.1) (.inl ⟨by rfl, fun u hu => ?_⟩) HS ?_
  · obtain ⟨u0, u1, n0, n1, n2, n3, n4, n5⟩ := hu
    have g8 := get_of k8
    go_simp
  refine any_put (a := A0) (d := 167) (by rw [hz]; decide) (fun A1 hb => ?_)
  replace hz := hb.size.trans hz
  replace HU := hb.upd (by decide) HU
  replace k8 := hb.ne (by decide) k8
  replace k11 := hb.ne (by decide) k11
  replace k15 := hb.ne (by decide) k15
  have k167 : A1.tmps[167]? = some (.pointer (some ⟨mS, 0, none⟩)) := hb.at_
  clear hb
  clear k8
  refine take_at 1 (some 168) (.slice (some ⟨nb, no, none⟩) nl nc) rfl rfl (by kernel_rfl) (by kernel_rfl) (by kernel_rfl) (fun _ _ _ h => by cases h.1) (.inl ⟨by rfl, fun u hu => ?_⟩) HS ?_
  · obtain ⟨u0, u1, n0, n1, n2, n3, n4, n5⟩ := hu
    have g167 := get_of k167
    go_simp
  refine any_put (a := A1) (d := 168) (by rw [hz]; decide) (fun A2 hb => ?_)
  replace hz := hb.size.trans hz
  replace HU := hb.upd (by decide) HU
  replace k11 := hb.ne (by decide) k11
  replace k15 := hb.ne (by decide) k15
  replace k167 := hb.ne (by decide) k167
  have k168 : A2.tmps[168]? = some (.slice (some ⟨nb, no, none⟩) nl nc) := hb.at_
  clear hb A1
  clear k167
  refine take_at 2 (some 169) (.int .i64 (nl : Int)) rfl rfl (by kernel_rfl) (by kernel_rfl) (by kernel_rfl) (fun _ _ _ h => by cases h.1) (.inl ⟨by rfl, fun u hu => ?_⟩) HS ?_
  · obtain ⟨u0, u1, n0, n1, n2, n3, n4, n5⟩ := hu
    have g15 := get_of k15
    go_simp
  refine any_put (a := A2) (d := 169) (by rw [hz]; decide) (fun A3 hb => ?_)
  replace hz := hb.size.trans hz
  replace HU := hb.upd (by decide) HU
  replace k11 := hb.ne (by decide) k11
  replace k15 := hb.ne (by decide) k15
  replace k168 := hb.ne (by decide) k168
  have k169 : A3.tmps[169]? = some (.int .i64 (nl : Int)) := hb.at_
  clear hb A2
  clear k15
  refine take_at 3 (some 170) (.int .i64 (q : Int)) rfl rfl (by kernel_rfl) (by kernel_rfl) (by kernel_rfl) (fun _ _ _ h => by cases h.1) (.inl ⟨by rfl, fun u hu => ?_⟩) HS ?_
  · obtain ⟨u0, u1, n0, n1, n2, n3, n4, n5⟩ := hu
    have g169 := get_of k169
    go_simp
  refine any_put (a := A3) (d := 170) (by rw [hz]; decide) (fun A4 hb => ?_)
  replace hz := hb.size.trans hz
  replace HU := hb.upd (by decide) HU
  replace k11 := hb.ne (by decide) k11
  replace k168 := hb.ne (by decide) k168
  replace k169 := hb.ne (by decide) k169
  have k170 : A4.tmps[170]? = some (.int .i64 (q : Int)) := hb.at_
  clear hb A3
  clear k169
  refine take_at 4 (some 171) (.pointer (some ⟨nb, no + q * 6, none⟩)) rfl rfl (by kernel_rfl) (by kernel_rfl) (by kernel_rfl) (fun _ _ _ h => by cases h.1) (.inl ⟨by rfl, fun u hu => ?_⟩) HS ?_
  · obtain ⟨u0, u1, n0, n1, n2, n3, n4, n5⟩ := hu
    have g168 := get_of k168
    have g170 := get_of k170
    go_simp
  refine any_put (a := A4) (d := 171) (by rw [hz]; decide) (fun A5 hb => ?_)
  replace hz := hb.size.trans hz
  replace HU := hb.upd (by decide) HU
  replace k11 := hb.ne (by decide) k11
  replace k168 := hb.ne (by decide) k168
  replace k170 := hb.ne (by decide) k170
  have k171 : A5.tmps[171]? = some (.pointer (some ⟨nb, no + q * 6, none⟩)) := hb.at_
  clear hb A4
  clear k168
  clear k170
  refine take_at 5 (some 172) (.agg #[.int .i64 ko, .string ⟨kt.toArray⟩, .int .i64 kn, .int .u64 ki, .slice ka kl kc, .int .i64 kp]) rfl rfl (by kernel_rfl) (by kernel_rfl) (by kernel_rfl) (fun _ _ _ h => by cases h.1) (.inl ⟨by rfl, fun u hu => ?_⟩) HS ?_
  · obtain ⟨u0, u1, n0, n1, n2, n3, n4, n5⟩ := hu
    have g171 := get_of k171
    go_simp
  refine any_put (a := A5) (d := 172) (by rw [hz]; decide) (fun A6 hb => ?_)
  replace hz := hb.size.trans hz
  replace HU := hb.upd (by decide) HU
  replace k11 := hb.ne (by decide) k11
  replace k171 := hb.ne (by decide) k171
  have k172 : A6.tmps[172]? = some (.agg #[.int .i64 ko, .string ⟨kt.toArray⟩, .int .i64 kn, .int .u64 ki, .slice ka kl kc, .int .i64 kp]) := hb.at_
  clear hb A5
  clear k171
  refine take_at 7 (some 174) (.pointer (some ⟨m11, 4, none⟩)) rfl rfl (by kernel_rfl) (by kernel_rfl) (by kernel_rfl) (fun _ _ _ h => by cases h.1) (.inl ⟨by rfl, fun u hu => ?_⟩) HS ?_
  · obtain ⟨u0, u1, n0, n1, n2, n3, n4, n5⟩ := hu
    have g11 := get_of k11
    go_simp
  refine any_put (a := A6) (d := 174) (by rw [hz]; decide) (fun A7 hb => ?_)
  replace hz := hb.size.trans hz
  replace HU := hb.upd (by decide) HU
  replace k11 := hb.ne (by decide) k11
  replace k172 := hb.ne (by decide) k172
  have k174 : A7.tmps[174]? = some (.pointer (some ⟨m11, 4, none⟩)) := hb.at_
  clear hb A6
  clear k11
  refine take_at 8 (some 175) (.int .i64 tp) rfl rfl (by kernel_rfl) (by kernel_rfl) (by kernel_rfl) (fun _ _ _ h => by cases h.1) (.inl ⟨by rfl, fun u hu => ?_⟩) HS ?_
  · obtain ⟨u0, u1, n0, n1, n2, n3, n4, n5⟩ := hu
    have g174 := get_of k174
    go_simp
  refine any_put (a := A7) (d := 175) (by rw [hz]; decide) (fun A8 hb => ?_)
  replace hz := hb.size.trans hz
  replace HU := hb.upd (by decide) HU
  replace k172 := hb.ne (by decide) k172
  replace k174 := hb.ne (by decide) k174
  have k175 : A8.tmps[175]? = some (.int .i64 tp) := hb.at_
  clear hb A7
  clear k174
  refine wpAnyH_ready (rs := [6, 10]) (by kernel_rfl) (by simp) ?_
  refine AllReadyH.cons rfl (fun K hK => ?_) ?_
  · dsimp only [List.getElem_toArray, List.getElem_cons_succ, List.getElem_cons_zero]
    have g172 := get_of k172
    go_simp
    clear g172
    obtain ⟨gy, hgy⟩ : ∃ g, U0.heap.size = g := ⟨_, rfl⟩
    obtain ⟨U1, hU⟩ : ∃ z, U0.alloc (.cells #[.int .i64 ko, .string ⟨kt.toArray⟩, .int .i64 kn, .int .u64 ki, .slice ka kl kc, .int .i64 kp] 34) = z := ⟨_, rfl⟩
    have hb : Below U0.heap.size U0 U1 := by rw [← hU]; exact bz1 _ _
    have FB1 : Hid (Below W5.heap.size W5 U1) := FB0.out.trans (hb.mono FB0.out.size)
    have FR1 : Hid (RdG encN U1 (some ⟨gy, 0, none⟩) [⟨ko, kt, kn, ki, ka, kl, kc, kp⟩] ∧ W5.heap.size ≤ gy ∧ gy < U1.heap.size) := by rw [← hU, ← hgy]; exact ⟨rdG_new encN U0 [⟨ko, kt, kn, ki, ka, kl, kc, kp⟩] 34 _ rfl, FB0.out.size, by simp⟩
    rw [hU, hgy]
    clear hU hgy hb
    refine hK.out _ _ (KS.out _ FB1.out) (fun HS => ?_)
    clear hK K
    clear k172
    refine any_put (a := A8) (d := 173) (by rw [hz]; decide) (fun A9 hb => ?_)
    replace hz := hb.size.trans hz
    replace HU := hb.upd (by decide) HU
    replace k175 := hb.ne (by decide) k175
    have k173 : A9.tmps[173]? = some (.slice (some ⟨gy, 0, none⟩) 1 1) := hb.at_
    clear hb A8
    refine take_at 9 (some 176) (.agg #[.int .i64 12, .string ⟨#[]⟩, .int .i64 0, .int .u64 0, .slice (some ⟨gy, 0, none⟩) 1 1, .int .i64 tp]) rfl rfl (by kernel_rfl) (by kernel_rfl) (by kernel_rfl) (fun _ _ _ h => by cases h.1) (.inl ⟨by rfl, fun u hu => ?_⟩) HS ?_
    · obtain ⟨u0, u1, n0, n1, n2, n3, n4, n5⟩ := hu
      have g173 := get_of k173
      have g175 := get_of k175
      go_simp
    refine any_put (a := A9) (d := 176) (by rw [hz]; decide) (fun A10 hb => ?_)
    replace hz := hb.size.trans hz
    replace HU := hb.upd (by decide) HU
    replace k175 := hb.ne (by decide) k175
    replace k173 := hb.ne (by decide) k173
    have k176 : A10.tmps[176]? = some (.agg #[.int .i64 12, .string ⟨#[]⟩, .int .i64 0, .int .u64 0, .slice (some ⟨gy, 0, none⟩) 1 1, .int .i64 tp]) := hb.at_
    clear hb A9
    clear k173
    clear k175
    refine wpAnyH_ready (rs := [10]) (by kernel_rfl) (by simp) ?_
    refine AllReadyH.cons rfl (fun K hK => ?_) ?_
    · dsimp only [List.getElem_toArray, List.getElem_cons_succ, List.getElem_cons_zero]
      go_simp
      obtain ⟨gx, hgx⟩ : ∃ g, U1.heap.size = g := ⟨_, rfl⟩
      obtain ⟨U2, hU⟩ : ∃ z, U1.alloc (.cells #[.int .i64 0, .string ⟨#[]⟩, .int .i64 0, .int .u64 0, .slice none 0 0, .int .i64 0] 34) = z := ⟨_, rfl⟩
      have hb : Below U1.heap.size U1 U2 := by rw [← hU]; exact bz1 _ _
      have FB2 : Hid (Below W5.heap.size W5 U2) := FB1.out.trans (hb.mono FB1.out.size)
      have FX2 : Hid (Box6 U2 gx 34 (.int .i64 0) (.string ⟨#[]⟩) (.int .i64 0) (.int .u64 0) (.slice none 0 0) (.int .i64 0) ∧ W5.heap.size ≤ gx) := by rw [← hU, ← hgx]; exact ⟨Box6.new _ _ _ _ _ _ _ _, FB1.out.size⟩
      have FR2 : Hid (RdG encN U2 (some ⟨gy, 0, none⟩) [⟨ko, kt, kn, ki, ka, kl, kc, kp⟩] ∧ W5.heap.size ≤ gy ∧ gy < U2.heap.size) := ⟨FR1.out.1.below hb, FR1.out.2.1, Nat.lt_of_lt_of_le FR1.out.2.2 hb.size⟩
      have HG : Hid (gx ≠ gy) := by have := FR1.out.2.2; show gx ≠ gy; omega
      rw [hU, hgx]
      clear hU hgx hb
      refine hK.out _ _ (KS.out _ FB2.out) (fun HS => ?_)
      clear hK K
      refine any_put (a := A10) (d := 16) (by rw [hz]; decide) (fun A11 hb => ?_)
      replace hz := hb.size.trans hz
      replace HU := hb.upd (by decide) HU
      replace k176 := hb.ne (by decide) k176
      have k16 : A11.tmps[16]? = some (.pointer (some ⟨gx, 0, none⟩)) := hb.at_
      clear hb A10
      obtain ⟨y0, y1, y2, y3, y4, y5⟩ := FX2.out.1.cells
      obtain ⟨z0, z1, z2, z3, z4, z5⟩ := FX2.out.1.thaw
      refine wpAnyH_done (by kernel_rfl) ?_ _
      refine tail_end rfl (fun K hK => ?_)
      dsimp only [List.getElem_toArray, List.getElem_cons_succ, List.getElem_cons_zero]
      have g16 := get_of k16
      have g176 := get_of k176
      go_simp
      refine hK _ _ ?_
      clear hK K
      refine ⟨rfl, gx, gy, k16, HU, belowS6 FB2.out FX2.out.2 _ _ _ _ _ _, FX2.out.2, ⟨FR2.out.2.1, ?_⟩, HG.out, FX2.out.1.sixed _ _ _ _ _ _, ?_⟩
      · simp only [World.size_setCell]
        exact FR2.out.2.2
      · have T : Turned (fun g => g = gx) U2 ((((((U2.setCell ⟨gx, 0, none⟩ (.int .i64 12)).setCell ⟨gx, 1, none⟩ (.string ⟨#[]⟩)).setCell ⟨gx, 2, none⟩ (.int .i64 0)).setCell ⟨gx, 3, none⟩ (.int .u64 0)).setCell ⟨gx, 4, none⟩ (.slice (some ⟨gy, 0, none⟩) 1 1)).setCell ⟨gx, 5, none⟩ (.int .i64 tp)) := ((((((Turned.refl (fun g => g = gx) U2).setCell (p := ⟨gx, 0, none⟩) (.inl rfl) _).setCell (p := ⟨gx, 1, none⟩) (.inl rfl) _).setCell (p := ⟨gx, 2, none⟩) (.inl rfl) _).setCell (p := ⟨gx, 3, none⟩) (.inl rfl) _).setCell (p := ⟨gx, 4, none⟩) (.inl rfl) _).setCell (p := ⟨gx, 5, none⟩) (.inl rfl) _
        exact FR2.out.1.turnN T (fun _ a e q => by cases e; exact HG.out q.symm)
    exact AllReadyH.nil
  refine AllReadyH.cons rfl (fun K hK => ?_) ?_
  · dsimp only [List.getElem_toArray, List.getElem_cons_succ, List.getElem_cons_zero]
    go_simp
    obtain ⟨gx, hgx⟩ : ∃ g, U0.heap.size = g := ⟨_, rfl⟩
    obtain ⟨U1, hU⟩ : ∃ z, U0.alloc (.cells #[.int .i64 0, .string ⟨#[]⟩, .int .i64 0, .int .u64 0, .slice none 0 0, .int .i64 0] 34) = z := ⟨_, rfl⟩
    have hb : Below U0.heap.size U0 U1 := by rw [← hU]; exact bz1 _ _
    have FB1 : Hid (Below W5.heap.size W5 U1) := FB0.out.trans (hb.mono FB0.out.size)
    have FX1 : Hid (Box6 U1 gx 34 (.int .i64 0) (.string ⟨#[]⟩) (.int .i64 0) (.int .u64 0) (.slice none 0 0) (.int .i64 0) ∧ W5.heap.size ≤ gx) := by rw [← hU, ← hgx]; exact ⟨Box6.new _ _ _ _ _ _ _ _, FB0.out.size⟩
    rw [hU, hgx]
    clear hU hgx hb
    refine hK.out _ _ (KS.out _ FB1.out) (fun HS => ?_)
    clear hK K
    refine any_put (a := A8) (d := 16) (by rw [hz]; decide) (fun A9 hb => ?_)
    replace hz := hb.size.trans hz
    replace HU := hb.upd (by decide) HU
    replace k172 := hb.ne (by decide) k172
    replace k175 := hb.ne (by decide) k175
    have k16 : A9.tmps[16]? = some (.pointer (some ⟨gx, 0, none⟩)) := hb.at_
    clear hb A8
    refine wpAnyH_ready (rs := [6]) (by kernel_rfl) (by simp) ?_
    refine AllReadyH.cons rfl (fun K hK => ?_) ?_
    · dsimp only [List.getElem_toArray, List.getElem_cons_succ, List.getElem_cons_zero]
      have g172 := get_of k172
      go_simp
      clear g172
      obtain ⟨gy, hgy⟩ : ∃ g, U1.heap.size = g := ⟨_, rfl⟩
      obtain ⟨U2, hU⟩ : ∃ z, U1.alloc (.cells #[.int .i64 ko, .string ⟨kt.toArray⟩, .int .i64 kn, .int .u64 ki, .slice ka kl kc, .int .i64 kp] 34) = z := ⟨_, rfl⟩
      have hb : Below U1.heap.size U1 U2 := by rw [← hU]; exact bz1 _ _
      have FB2 : Hid (Below W5.heap.size W5 U2) := FB1.out.trans (hb.mono FB1.out.size)
      have FR2 : Hid (RdG encN U2 (some ⟨gy, 0, none⟩) [⟨ko, kt, kn, ki, ka, kl, kc, kp⟩] ∧ W5.heap.size ≤ gy ∧ gy < U2.heap.size) := by rw [← hU, ← hgy]; exact ⟨rdG_new encN U1 [⟨ko, kt, kn, ki, ka, kl, kc, kp⟩] 34 _ rfl, FB1.out.size, by simp⟩
      have FX2 : Hid (Box6 U2 gx 34 (.int .i64 0) (.string ⟨#[]⟩) (.int .i64 0) (.int .u64 0) (.slice none 0 0) (.int .i64 0) ∧ W5.heap.size ≤ gx) := ⟨FX1.out.1.below hb, FX1.out.2⟩
      have HG : Hid (gx ≠ gy) := by have := FX1.out.1.lt; show gx ≠ gy; omega
      rw [hU, hgy]
      clear hU hgy hb
      refine hK.out _ _ (KS.out _ FB2.out) (fun HS => ?_)
      clear hK K
      clear k172
      refine any_put (a := A9) (d := 173) (by rw [hz]; decide) (fun A10 hb => ?_)
      replace hz := hb.size.trans hz
      replace HU := hb.upd (by decide) HU
      replace k175 := hb.ne (by decide) k175
      replace k16 := hb.ne (by decide) k16
      have k173 : A10.tmps[173]? = some (.slice (some ⟨gy, 0, none⟩) 1 1) := hb.at_
      clear hb A9
      refine take_at 9 (some 176) (.agg #[.int .i64 12, .string ⟨#[]⟩, .int .i64 0, .int .u64 0, .slice (some ⟨gy, 0, none⟩) 1 1, .int .i64 tp]) rfl rfl (by kernel_rfl) (by kernel_rfl) (by kernel_rfl) (fun _ _ _ h => by cases h.1) (.inl ⟨by rfl, fun u hu => ?_⟩) HS ?_
      · obtain ⟨u0, u1, n0, n1, n2, n3, n4, n5⟩ := hu
        have g173 := get_of k173
        have g175 := get_of k175
        go_simp
      refine any_put (a := A10) (d := 176) (by rw [hz]; decide) (fun A11 hb => ?_)
      replace hz := hb.size.trans hz
      replace HU := hb.upd (by decide) HU
      replace k175 := hb.ne (by decide) k175
      replace k16 := hb.ne (by decide) k16
      replace k173 := hb.ne (by decide) k173
      have k176 : A11.tmps[176]? = some (.agg #[.int .i64 12, .string ⟨#[]⟩, .int .i64 0, .int .u64 0, .slice (some ⟨gy, 0, none⟩) 1 1, .int .i64 tp]) := hb.at_
      clear hb A10
      clear k173
      clear k175
      obtain ⟨y0, y1, y2, y3, y4, y5⟩ := FX2.out.1.cells
      obtain ⟨z0, z1, z2, z3, z4, z5⟩ := FX2.out.1.thaw
      refine wpAnyH_done (by kernel_rfl) ?_ _
      refine tail_end rfl (fun K hK => ?_)
      dsimp only [List.getElem_toArray, List.getElem_cons_succ, List.getElem_cons_zero]
      have g16 := get_of k16
      have g176 := get_of k176
      go_simp
      refine hK _ _ ?_
      clear hK K
      refine ⟨rfl, gx, gy, k16, HU, belowS6 FB2.out FX2.out.2 _ _ _ _ _ _, FX2.out.2, ⟨FR2.out.2.1, ?_⟩, HG.out, FX2.out.1.sixed _ _ _ _ _ _, ?_⟩
      · simp only [World.size_setCell]
        exact FR2.out.2.2
      · have T : Turned (fun g => g = gx) U2 ((((((U2.setCell ⟨gx, 0, none⟩ (.int .i64 12)).setCell ⟨gx, 1, none⟩ (.string ⟨#[]⟩)).setCell ⟨gx, 2, none⟩ (.int .i64 0)).setCell ⟨gx, 3, none⟩ (.int .u64 0)).setCell ⟨gx, 4, none⟩ (.slice (some ⟨gy, 0, none⟩) 1 1)).setCell ⟨gx, 5, none⟩ (.int .i64 tp)) := ((((((Turned.refl (fun g => g = gx) U2).setCell (p := ⟨gx, 0, none⟩) (.inl rfl) _).setCell (p := ⟨gx, 1, none⟩) (.inl rfl) _).setCell (p := ⟨gx, 2, none⟩) (.inl rfl) _).setCell (p := ⟨gx, 3, none⟩) (.inl rfl) _).setCell (p := ⟨gx, 4, none⟩) (.inl rfl) _).setCell (p := ⟨gx, 5, none⟩) (.inl rfl) _
        exact FR2.out.1.turnN T (fun _ a e q => by cases e; exact HG.out q.symm)
    exact AllReadyH.nil
  exact AllReadyH.nil

end Go.Proofs.YtijchmcajhdcoaaGreatDoor

/-!
  The reference's Parse, where a sign behind is done: by a contract over a frame that is a letter. No condition.
-/
namespace Go.Proofs.YtijchmcajhdcoaaGreatDoor
open Go.RowKit

theorem up_rows {mS q gy : Nat} {u u' : World} {wa : Option Addr} {us zs : List NV} {x : Nd} {t : List Nd} {num tp : Int} {kv : NV} (nds : NdsIn (Qs mS u wa) u us (x :: t).reverse) (hz : us.take q = zs) (hr : t.length = q) (hkn : NdIn (Qs mS u wa) u kv x) (row : RdG encN u (some ⟨gy, 0, none⟩) [kv]) (hgy : Qs mS u wa gy) (hb : Below u.heap.size u u') :
    NdsIn (Qs mS u' wa) u' (zs ++ [⟨12, [], num, 0, some ⟨gy, 0, none⟩, 1, 1, tp⟩]) (⟨12, [], num, 0, foOf [x], tp⟩ :: t).reverse := by
  have hm : ∀ g, Qs mS u wa g → Qs mS u' wa g := fun _ q => ⟨q.1, Nat.lt_of_lt_of_le q.2.1 hb.size, q.2.2⟩
  have k1 := nds.take q
  rw [hz, List.reverse_cons, List.take_left' (by rw [List.length_reverse]; exact hr)] at k1
  rw [List.reverse_cons]
  exact ((k1.stays hb).mono hm).snoc (NdIn.made (us := [kv]) (ns := [x]) 12 [] num 0 tp (.cons ((hkn.below hb).mono hm) .nil) (row.below hb) (fun _ a e => by cases e; exact hm _ hgy) (Nat.le_refl _))

set_option maxHeartbeats 8000000 in
set_option maxRecDepth 100000 in
theorem up42 {mS m2 gx gy q nl nc : Nat} {w w1 W5 : World} {x : Nd} {t : List Nd} {ws : List Wt} {na wa : Option Addr} {wl wk : Nat} {num tp : Int} {kv : NV} (hs : SP mS m2 w W5 (x :: t) ws na nl nc wa wl wk) (hb1 : Below w1.heap.size w1 W5) (hw1 : mS = w1.heap.size)
    (hx : Box6 W5 gx 34 (.int .i64 12) (.string ⟨#[]⟩) (.int .i64 num) (.int .u64 0) (.slice (some ⟨gy, 0, none⟩) 1 1) (.int .i64 tp)) (hrow : RdG encN W5 (some ⟨gy, 0, none⟩) [kv]) (hkn : NdIn (Qs mS W5 wa) W5 kv x) (hgy : Qs mS W5 wa gy) (hq : nl = q + 1) (hql : q ≤ 2000)
    (A : Act) (k8 : A.tmps[8]? = some (.pointer (some ⟨mS, 0, none⟩))) (k15 : A.tmps[15]? = some (.int .i64 (nl : Int))) (k16 : A.tmps[16]? = some (.pointer (some ⟨gx, 0, none⟩))) (hz : A.tmps.size = 276) :
    Code.wp Tryz.prog (prg 42) (fun e b u => e = .normal ∧ Upd [191, 192, 193, 194, 195, 196, 197, 198, 199, 200, 201] A b ∧ ∃ a9 c9, SP mS m2 w u (⟨12, [], num, 0, foOf [x], tp⟩ :: t) ws a9 (q + 1) c9 wa wl wk ∧ Below w1.heap.size w1 u) A W5 := by
  have lS : mS < W5.heap.size := hs.box.lt
  have hln := hs.st.len
  obtain ⟨us, hu1, hu2, hu3, hu4, hu5⟩ := hs.st.nds
  have htl : t.length = q := by rw [List.length_cons] at hln; omega
  obtain ⟨ux, hux⟩ : ∃ z, us[q]? = some z := ⟨_, List.getElem?_eq_getElem (by omega)⟩
  obtain ⟨nb, no, rfl, hnb⟩ := hu1.some_of hux
  obtain ⟨zs, hzs⟩ : ∃ zs, us.take q = zs := ⟨_, rfl⟩
  have hzl : zs.length = q := by rw [← hzs, List.length_take]; omega
  have hzr := hu1.take q
  rw [hzs] at hzr
  have HZ : Hid (zs.length = q ∧ RdG encN W5 (some ⟨nb, no, none⟩) zs ∧ us.take q = zs ∧ NdsIn (Qs mS W5 wa) W5 us (x :: t).reverse ∧ t.length = q ∧ NdIn (Qs mS W5 wa) W5 kv x ∧ RdG encN W5 (some ⟨gy, 0, none⟩) [kv] ∧ Qs mS W5 wa gy) := ⟨hzl, hzr, hzs, hu5, htl, hkn, hrow, hgy⟩
  have j0 : (nl : Int) - 1 = (q : Int) := by omega
  have j1 : (q : Int) < (nl : Int) := by omega
  have j2 : (0 : Int) ≤ (q : Int) := by omega
  have j3 : (nl : Int) ≤ (nc : Int) := by omega
  have j4 : (q : Int) ≤ (nc : Int) := by omega
  have wq : IntKind.i64.wrap (q : Int) = (q : Int) := by rw [IntKind.wrap_i64]; omega
  have KS : Hid (∀ u, Below W5.heap.size W5 u → u.cell? ⟨mS, 0, none⟩ = some (.slice (some ⟨nb, no, none⟩) nl nc) ∧ u.cell? ⟨gx, 0, none⟩ = some (.int .i64 12) ∧ u.cell? ⟨gx, 1, none⟩ = some (.string ⟨#[]⟩) ∧ u.cell? ⟨gx, 2, none⟩ = some (.int .i64 num) ∧ u.cell? ⟨gx, 3, none⟩ = some (.int .u64 0) ∧ u.cell? ⟨gx, 4, none⟩ = some (.slice (some ⟨gy, 0, none⟩) 1 1) ∧ u.cell? ⟨gx, 5, none⟩ = some (.int .i64 tp)) := by
    intro u hu
    exact ⟨(hs.box.below hu).cells.1, (hx.below hu).cells⟩
  have H5 : Hid (SP mS m2 w W5 (x :: t) ws (some ⟨nb, no, none⟩) nl nc wa wl wk ∧ Below w1.heap.size w1 W5 ∧ mS = w1.heap.size) := ⟨hs, hb1, hw1⟩
  have HS0 := KS.out _ (Below.refl _ W5).drew
  clear hs hb1 hw1 hx hrow hkn hgy hu1 hu2 hu3 hu4 hu5 hux hnb hzs hzl hzr hln htl hq
  refine wp_name (fun A0 hA0 => ?_)
  have HU : Upd [191, 192, 193, 194, 195, 196, 197, 198, 199, 200, 201] A A0 := by rw [hA0]; exact Upd.refl _ _
  rw [← hA0] at k8 k15 k16 hz
  clear hA0
  unfold prg
  simp only [Tryz.f6, Option.bind_some, regionOf, reduceIte, Nat.reduceEqDiff, Option.getD_some]
  refine wp_region_tail (fun u => u.cell? ⟨mS, 0, none⟩ = some (.slice (some ⟨nb, no, none⟩) nl nc) ∧ u.cell? ⟨gx, 0, none⟩ = some (.int .i64 12) ∧ u.cell? ⟨gx, 1, none⟩ = some (.string ⟨#[]⟩) ∧ u.cell? ⟨gx, 2, none⟩ = some (.int .i64 num) ∧ u.cell? ⟨gx, 3, none⟩ = some (.int .u64 0) ∧ u.cell? ⟨gx, 4, none⟩ = some (.slice (some ⟨gy, 0, none⟩) 1 1) ∧ u.cell? ⟨gx, 5, none⟩ = some (.int .i64 tp)) 11 rfl (by kernel_rfl) (by kernel_rfl) HS0 (fun HS => ?_)
  clear HS0
  simp only [List.take_succ_cons, List.take_zero]
  obtain ⟨U0, hU0⟩ : ∃ U0, W5.drew = U0 := ⟨_, rfl⟩
  have FB0 : Hid (Below W5.heap.size W5 U0) := by rw [← hU0]; exact (Below.refl _ _).drew
  rw [hU0] at HS ⊢
  clear hU0
  refine take_at 1 (some 192) (.pointer (some ⟨mS, 0, none⟩)) rfl rfl (by kernel_rfl) (by kernel_rfl) (by kernel_rfl) (fun _ _ _ h => by cases h.1) (.inl ⟨by rfl, fun u hu => ?_⟩) HS ?_
  · obtain ⟨u0, x0, x1, x2, x3, x4, x5⟩ := hu
    have g8 := get_of k8
    go_simp
  refine any_put (a := A0) (d := 192) (by rw [hz]; decide) (fun A1 hb => ?_)
  replace hz := hb.size.trans hz
  replace HU := hb.upd (by decide) HU
  replace k8 := hb.ne (by decide) k8
  replace k15 := hb.ne (by decide) k15
  replace k16 := hb.ne (by decide) k16
  have k192 : A1.tmps[192]? = some (.pointer (some ⟨mS, 0, none⟩)) := hb.at_
  clear hb
  refine take_at 2 (some 193) (.slice (some ⟨nb, no, none⟩) nl nc) rfl rfl (by kernel_rfl) (by kernel_rfl) (by kernel_rfl) (fun _ _ _ h => by cases h.1) (.inl ⟨by rfl, fun u hu => ?_⟩) HS ?_
  · obtain ⟨u0, x0, x1, x2, x3, x4, x5⟩ := hu
    have g192 := get_of k192
    go_simp
  refine any_put (a := A1) (d := 193) (by rw [hz]; decide) (fun A2 hb => ?_)
  replace hz := hb.size.trans hz
  replace HU := hb.upd (by decide) HU
  replace k8 := hb.ne (by decide) k8
  replace k15 := hb.ne (by decide) k15
  replace k16 := hb.ne (by decide) k16
  replace k192 := hb.ne (by decide) k192
  have k193 : A2.tmps[193]? = some (.slice (some ⟨nb, no, none⟩) nl nc) := hb.at_
  clear hb A1
  clear k192
  refine take_at 3 (some 194) (.int .i64 (nl : Int)) rfl rfl (by kernel_rfl) (by kernel_rfl) (by kernel_rfl) (fun _ _ _ h => by cases h.1) (.inl ⟨by rfl, fun u hu => ?_⟩) HS ?_
  · obtain ⟨u0, x0, x1, x2, x3, x4, x5⟩ := hu
    have g15 := get_of k15
    go_simp
  refine any_put (a := A2) (d := 194) (by rw [hz]; decide) (fun A3 hb => ?_)
  replace hz := hb.size.trans hz
  replace HU := hb.upd (by decide) HU
  replace k8 := hb.ne (by decide) k8
  replace k15 := hb.ne (by decide) k15
  replace k16 := hb.ne (by decide) k16
  replace k193 := hb.ne (by decide) k193
  have k194 : A3.tmps[194]? = some (.int .i64 (nl : Int)) := hb.at_
  clear hb A2
  clear k15
  refine take_at 4 (some 195) (.int .i64 (q : Int)) rfl rfl (by kernel_rfl) (by kernel_rfl) (by kernel_rfl) (fun _ _ _ h => by cases h.1) (.inl ⟨by rfl, fun u hu => ?_⟩) HS ?_
  · obtain ⟨u0, x0, x1, x2, x3, x4, x5⟩ := hu
    have g194 := get_of k194
    go_simp
  refine any_put (a := A3) (d := 195) (by rw [hz]; decide) (fun A4 hb => ?_)
  replace hz := hb.size.trans hz
  replace HU := hb.upd (by decide) HU
  replace k8 := hb.ne (by decide) k8
  replace k16 := hb.ne (by decide) k16
  replace k193 := hb.ne (by decide) k193
  replace k194 := hb.ne (by decide) k194
  have k195 : A4.tmps[195]? = some (.int .i64 (q : Int)) := hb.at_
  clear hb A3
  clear k194
  refine take_at 5 (some 196) (.slice (some ⟨nb, no, none⟩) q nc) rfl rfl (by kernel_rfl) (by kernel_rfl) (by kernel_rfl) (fun _ _ _ h => by cases h.1) (.inl ⟨by rfl, fun u hu => ?_⟩) HS ?_
  · obtain ⟨u0, x0, x1, x2, x3, x4, x5⟩ := hu
    have g193 := get_of k193
    have g195 := get_of k195
    go_simp
  refine any_put (a := A4) (d := 196) (by rw [hz]; decide) (fun A5 hb => ?_)
  replace hz := hb.size.trans hz
  replace HU := hb.upd (by decide) HU
  replace k8 := hb.ne (by decide) k8
  replace k16 := hb.ne (by decide) k16
  replace k193 := hb.ne (by decide) k193
  replace k195 := hb.ne (by decide) k195
  have k196 : A5.tmps[196]? = some (.slice (some ⟨nb, no, none⟩) q nc) := hb.at_
  clear hb A4
  clear k193
  clear k195
  refine take_at 7 (some 198) (.agg #[.int .i64 12, .string ⟨#[]⟩, .int .i64 num, .int .u64 0, .slice (some ⟨gy, 0, none⟩) 1 1, .int .i64 tp]) rfl rfl (by kernel_rfl) (by kernel_rfl) (by kernel_rfl) (fun _ _ _ h => by cases h.1) (.inl ⟨by rfl, fun u hu => ?_⟩) HS ?_
  · obtain ⟨u0, x0, x1, x2, x3, x4, x5⟩ := hu
    have g16 := get_of k16
    go_simp
  refine any_put (a := A5) (d := 198) (by rw [hz]; decide) (fun A6 hb => ?_)
  replace hz := hb.size.trans hz
  replace HU := hb.upd (by decide) HU
  replace k8 := hb.ne (by decide) k8
  replace k16 := hb.ne (by decide) k16
  replace k196 := hb.ne (by decide) k196
  have k198 : A6.tmps[198]? = some (.agg #[.int .i64 12, .string ⟨#[]⟩, .int .i64 num, .int .u64 0, .slice (some ⟨gy, 0, none⟩) 1 1, .int .i64 tp]) := hb.at_
  clear hb A5
  clear k16
  refine wpAnyH_ready (rs := [0, 8]) (by kernel_rfl) (by simp) ?_
  refine AllReadyH.cons rfl (fun K hK => ?_) ?_
  · dsimp only [List.getElem_toArray, List.getElem_cons_zero]
    go_simp
    obtain ⟨g0, hg0⟩ : ∃ g0, U0.heap.size = g0 := ⟨_, rfl⟩
    obtain ⟨U1, hU⟩ : ∃ z, U0.alloc (.cells #[] 34) = z := ⟨_, rfl⟩
    have hb : Below U0.heap.size U0 U1 := by rw [← hU]; exact bz1 _ _
    have FB1 : Hid (Below W5.heap.size W5 U1) := FB0.out.trans (hb.mono FB0.out.size)
    have FE1 : Hid (OwnG encN 34 U1 W5.heap.size (.slice (some ⟨g0, 0, none⟩) 0 0) []) := by rw [← hU, ← hg0]; exact own0 encN _ FB0.out.size (Below.refl _ _)
    rw [hU, hg0]
    clear hU hg0 hb
    refine hK.out _ _ (KS.out _ FB1.out) (fun HS => ?_)
    clear hK K
    refine any_put (a := A6) (d := 191) (by rw [hz]; decide) (fun A7 hb => ?_)
    replace hz := hb.size.trans hz
    replace HU := hb.upd (by decide) HU
    replace k8 := hb.ne (by decide) k8
    replace k196 := hb.ne (by decide) k196
    replace k198 := hb.ne (by decide) k198
    have k191 : A7.tmps[191]? = some (.slice (some ⟨g0, 0, none⟩) 0 0) := hb.at_
    clear hb A6
    refine wpAnyH_ready (rs := [6, 8]) (by kernel_rfl) (by simp) ?_
    refine AllReadyH.cons rfl (fun K hK => ?_) ?_
    · refine stepG_list encN 34 32 72 (.agg #[.int .i64 0, .string ⟨#[]⟩, .int .i64 0, .int .u64 0, .slice none 0 0, .int .i64 0]) rfl infoR Tryz.underlying32 rfl (.tmp 191) (.tmp 196) rfl W5.heap.size (.slice (some ⟨g0, 0, none⟩) 0 0) [] zs (some ⟨nb, no, none⟩) q nc (eval_of k191) FE1.out (eval_of k196) (HZ.out.2.1.below FB1.out) HZ.out.1 (by simp; omega) (by simp only [maxLen, List.length_nil]; omega) FB1.out.size ?_
      intro v8 U2 ho hb ht
      rw [List.nil_append] at ho
      obtain ⟨a8, c8, e8, q8, _, r8, _⟩ := OwnG.form ho
      rw [HZ.out.1] at e8
      subst e8
      have FB2 : Hid (Below W5.heap.size W5 U2) := FB1.out.trans hb
      have FA2 : Hid (OwnG encN 34 U2 W5.heap.size (.slice a8 q c8) zs) := ho
      clear ho hb ht q8 r8
      refine hK.out _ _ (KS.out _ FB2.out) (fun HS => ?_)
      clear hK K
      clear k191
      clear k196
      refine any_put (a := A7) (d := 197) (by rw [hz]; decide) (fun A8 hb => ?_)
      replace hz := hb.size.trans hz
      replace HU := hb.upd (by decide) HU
      replace k8 := hb.ne (by decide) k8
      replace k198 := hb.ne (by decide) k198
      have k197 : A8.tmps[197]? = some (.slice a8 q c8) := hb.at_
      clear hb A7
      refine wpAnyH_ready (rs := [8]) (by kernel_rfl) (by simp) ?_
      refine AllReadyH.cons rfl (fun K hK => ?_) ?_
      · dsimp only [List.getElem_toArray, List.getElem_cons_succ, List.getElem_cons_zero]
        have g198 := get_of k198
        go_simp
        clear g198
        obtain ⟨bx, hbx⟩ : ∃ bx, U2.heap.size = bx := ⟨_, rfl⟩
        obtain ⟨U3, hU⟩ : ∃ z, U2.alloc (.cells #[.int .i64 12, .string ⟨#[]⟩, .int .i64 num, .int .u64 0, .slice (some ⟨gy, 0, none⟩) 1 1, .int .i64 tp] 34) = z := ⟨_, rfl⟩
        have hb : Below U2.heap.size U2 U3 := by rw [← hU]; exact bz1 _ _
        have FB3 : Hid (Below W5.heap.size W5 U3) := FB2.out.trans (hb.mono FB2.out.size)
        have FX3 : Hid ((∀ j c, (encN.cells ⟨12, [], num, 0, some ⟨gy, 0, none⟩, 1, 1, tp⟩)[j]? = some c → U3.cell? ((⟨bx, 0, none⟩ : Addr).add j) = some c) ∧ bx < U3.heap.size) := by rw [← hU, ← hbx]; exact ⟨cells_new encN _ ⟨12, [], num, 0, some ⟨gy, 0, none⟩, 1, 1, tp⟩ 34, by simp⟩
        have FA3 : Hid (OwnG encN 34 U3 W5.heap.size (.slice a8 q c8) zs) := FA2.out.below hb
        rw [hU, hbx]
        clear hU hbx hb
        refine hK.out _ _ (KS.out _ FB3.out) (fun HS => ?_)
        clear hK K
        clear k198
        refine any_put (a := A8) (d := 199) (by rw [hz]; decide) (fun A9 hb => ?_)
        replace hz := hb.size.trans hz
        replace HU := hb.upd (by decide) HU
        replace k8 := hb.ne (by decide) k8
        replace k197 := hb.ne (by decide) k197
        have k199 : A9.tmps[199]? = some (.slice (some ⟨bx, 0, none⟩) 1 1) := hb.at_
        clear hb A8
        refine wpAnyH_ready (rs := [9]) (by kernel_rfl) (by simp) ?_
        refine AllReadyH.cons rfl (fun K hK => ?_) ?_
        · refine stepG_at encN 34 32 72 (.agg #[.int .i64 0, .string ⟨#[]⟩, .int .i64 0, .int .u64 0, .slice none 0 0, .int .i64 0]) rfl infoR Tryz.underlying32 rfl (.tmp 197) (.tmp 199) rfl W5.heap.size (.slice a8 q c8) zs ⟨12, [], num, 0, some ⟨gy, 0, none⟩, 1, 1, tp⟩ (eval_of k197) FA3.out bx (eval_of k199) FX3.out.1 (by have := HZ.out.1; omega) (by have := HZ.out.1; simp only [maxLen]; omega) FB3.out.size ?_
          intro v9 U4 ho hb hm ht
          obtain ⟨a9, c9, e9, q9, _, r9, _⟩ := OwnG.form ho
          rw [List.length_append, HZ.out.1] at e9
          simp only [List.length_cons, List.length_nil, Nat.zero_add] at e9
          subst e9
          have J9 : Hid (Gone W5 U4 (.slice a9 (q + 1) c9) (zs ++ [⟨12, [], num, 0, some ⟨gy, 0, none⟩, 1, 1, tp⟩])) := ⟨ho, FB3.out.trans hb⟩
          clear ho hb hm ht q9 r9
          refine hK.out _ _ (KS.out _ J9.out.bel) (fun HS => ?_)
          clear hK K
          clear k197
          clear k199
          refine any_put (a := A9) (d := 200) (by rw [hz]; decide) (fun A10 hb => ?_)
          replace hz := hb.size.trans hz
          replace HU := hb.upd (by decide) HU
          replace k8 := hb.ne (by decide) k8
          have k200 : A10.tmps[200]? = some (.slice a9 (q + 1) c9) := hb.at_
          clear hb A9
          refine take_at 10 (some 201) (.pointer (some ⟨mS, 0, none⟩)) rfl rfl (by kernel_rfl) (by kernel_rfl) (by kernel_rfl) (fun _ _ _ h => by cases h.1) (.inl ⟨by rfl, fun u hu => ?_⟩) HS ?_
          · obtain ⟨u0, x0, x1, x2, x3, x4, x5⟩ := hu
            have g8 := get_of k8
            go_simp
          refine any_put (a := A10) (d := 201) (by rw [hz]; decide) (fun A11 hb => ?_)
          replace hz := hb.size.trans hz
          replace HU := hb.upd (by decide) HU
          replace k8 := hb.ne (by decide) k8
          replace k200 := hb.ne (by decide) k200
          have k201 : A11.tmps[201]? = some (.pointer (some ⟨mS, 0, none⟩)) := hb.at_
          clear hb A10
          obtain ⟨g0, g1⟩ := (H5.out.1.box.below J9.out.bel).cells
          obtain ⟨g2, g3⟩ := (H5.out.1.box.below J9.out.bel).thaw
          refine wpAnyH_done (by kernel_rfl) ?_ _
          refine tail_end rfl (fun K hK => ?_)
          dsimp only [List.getElem_toArray, List.getElem_cons_succ, List.getElem_cons_zero]
          have g200 := get_of k200
          have g201 := get_of k201
          go_simp
          refine hK _ _ ?_
          clear hK K
          refine ⟨rfl, HU, a9, c9, H5.out.1.nodes J9.out (up_rows HZ.out.2.2.2.1 HZ.out.2.2.1 HZ.out.2.2.2.2.1 HZ.out.2.2.2.2.2.1 HZ.out.2.2.2.2.2.2.1 HZ.out.2.2.2.2.2.2.2 J9.out.bel), ?_⟩
          rw [← H5.out.2.2]
          have h1 := H5.out.2.1
          rw [← H5.out.2.2] at h1
          exact (h1.trans (J9.out.bel.mono (Nat.le_of_lt lS))).setCell (p := ⟨mS, 0, none⟩) (Nat.le_refl _) _
        exact AllReadyH.nil
      exact AllReadyH.nil
    refine AllReadyH.cons rfl (fun K hK => ?_) ?_
    · dsimp only [List.getElem_toArray, List.getElem_cons_succ, List.getElem_cons_zero]
      have g198 := get_of k198
      go_simp
      clear g198
      obtain ⟨bx, hbx⟩ : ∃ bx, U1.heap.size = bx := ⟨_, rfl⟩
      obtain ⟨U2, hU⟩ : ∃ z, U1.alloc (.cells #[.int .i64 12, .string ⟨#[]⟩, .int .i64 num, .int .u64 0, .slice (some ⟨gy, 0, none⟩) 1 1, .int .i64 tp] 34) = z := ⟨_, rfl⟩
      have hb : Below U1.heap.size U1 U2 := by rw [← hU]; exact bz1 _ _
      have FB2 : Hid (Below W5.heap.size W5 U2) := FB1.out.trans (hb.mono FB1.out.size)
      have FX2 : Hid ((∀ j c, (encN.cells ⟨12, [], num, 0, some ⟨gy, 0, none⟩, 1, 1, tp⟩)[j]? = some c → U2.cell? ((⟨bx, 0, none⟩ : Addr).add j) = some c) ∧ bx < U2.heap.size) := by rw [← hU, ← hbx]; exact ⟨cells_new encN _ ⟨12, [], num, 0, some ⟨gy, 0, none⟩, 1, 1, tp⟩ 34, by simp⟩
      have HG : Hid (¬ g0 = bx) := by have := (FE1.out.lt g0 rfl).2; show ¬ _; omega
      have FE2 : Hid (OwnG encN 34 U2 W5.heap.size (.slice (some ⟨g0, 0, none⟩) 0 0) []) := FE1.out.below hb
      rw [hU, hbx]
      clear hU hbx hb
      refine hK.out _ _ (KS.out _ FB2.out) (fun HS => ?_)
      clear hK K
      clear k198
      refine any_put (a := A7) (d := 199) (by rw [hz]; decide) (fun A8 hb => ?_)
      replace hz := hb.size.trans hz
      replace HU := hb.upd (by decide) HU
      replace k8 := hb.ne (by decide) k8
      replace k196 := hb.ne (by decide) k196
      replace k191 := hb.ne (by decide) k191
      have k199 : A8.tmps[199]? = some (.slice (some ⟨bx, 0, none⟩) 1 1) := hb.at_
      clear hb A7
      refine wpAnyH_ready (rs := [6]) (by kernel_rfl) (by simp) ?_
      refine AllReadyH.cons rfl (fun K hK => ?_) ?_
      · refine stepG_list encN 34 32 72 (.agg #[.int .i64 0, .string ⟨#[]⟩, .int .i64 0, .int .u64 0, .slice none 0 0, .int .i64 0]) rfl infoR Tryz.underlying32 rfl (.tmp 191) (.tmp 196) rfl W5.heap.size (.slice (some ⟨g0, 0, none⟩) 0 0) [] zs (some ⟨nb, no, none⟩) q nc (eval_of k191) FE2.out (eval_of k196) (HZ.out.2.1.below FB2.out) HZ.out.1 (by simp; omega) (by simp only [maxLen, List.length_nil]; omega) FB2.out.size ?_
        intro v8 U3 ho hb ht
        rw [List.nil_append] at ho
        obtain ⟨a8, c8, e8, q8, _, r8, _⟩ := OwnG.form ho
        rw [HZ.out.1] at e8
        subst e8
        have FB3 : Hid (Below W5.heap.size W5 U3) := FB2.out.trans hb
        have FA3 : Hid (OwnG encN 34 U3 W5.heap.size (.slice a8 q c8) zs) := ho
        have FX3 : Hid ((∀ j c, (encN.cells ⟨12, [], num, 0, some ⟨gy, 0, none⟩, 1, 1, tp⟩)[j]? = some c → U3.cell? ((⟨bx, 0, none⟩ : Addr).add j) = some c) ∧ bx < U3.heap.size) := ⟨cells_turn FX2.out.1 FX2.out.2 ht (fun q => HG.out (by simpa [Value.ownBlock] using q)), Nat.lt_of_lt_of_le FX2.out.2 ht.size⟩
        clear ho hb ht q8 r8
        refine hK.out _ _ (KS.out _ FB3.out) (fun HS => ?_)
        clear hK K
        clear k191
        clear k196
        refine any_put (a := A8) (d := 197) (by rw [hz]; decide) (fun A9 hb => ?_)
        replace hz := hb.size.trans hz
        replace HU := hb.upd (by decide) HU
        replace k8 := hb.ne (by decide) k8
        replace k199 := hb.ne (by decide) k199
        have k197 : A9.tmps[197]? = some (.slice a8 q c8) := hb.at_
        clear hb A8
        refine wpAnyH_ready (rs := [9]) (by kernel_rfl) (by simp) ?_
        refine AllReadyH.cons rfl (fun K hK => ?_) ?_
        · refine stepG_at encN 34 32 72 (.agg #[.int .i64 0, .string ⟨#[]⟩, .int .i64 0, .int .u64 0, .slice none 0 0, .int .i64 0]) rfl infoR Tryz.underlying32 rfl (.tmp 197) (.tmp 199) rfl W5.heap.size (.slice a8 q c8) zs ⟨12, [], num, 0, some ⟨gy, 0, none⟩, 1, 1, tp⟩ (eval_of k197) FA3.out bx (eval_of k199) FX3.out.1 (by have := HZ.out.1; omega) (by have := HZ.out.1; simp only [maxLen]; omega) FB3.out.size ?_
          intro v9 U4 ho hb hm ht
          obtain ⟨a9, c9, e9, q9, _, r9, _⟩ := OwnG.form ho
          rw [List.length_append, HZ.out.1] at e9
          simp only [List.length_cons, List.length_nil, Nat.zero_add] at e9
          subst e9
          have J9 : Hid (Gone W5 U4 (.slice a9 (q + 1) c9) (zs ++ [⟨12, [], num, 0, some ⟨gy, 0, none⟩, 1, 1, tp⟩])) := ⟨ho, FB3.out.trans hb⟩
          clear ho hb hm ht q9 r9
          refine hK.out _ _ (KS.out _ J9.out.bel) (fun HS => ?_)
          clear hK K
          clear k197
          clear k199
          refine any_put (a := A9) (d := 200) (by rw [hz]; decide) (fun A10 hb => ?_)
          replace hz := hb.size.trans hz
          replace HU := hb.upd (by decide) HU
          replace k8 := hb.ne (by decide) k8
          have k200 : A10.tmps[200]? = some (.slice a9 (q + 1) c9) := hb.at_
          clear hb A9
          refine take_at 10 (some 201) (.pointer (some ⟨mS, 0, none⟩)) rfl rfl (by kernel_rfl) (by kernel_rfl) (by kernel_rfl) (fun _ _ _ h => by cases h.1) (.inl ⟨by rfl, fun u hu => ?_⟩) HS ?_
          · obtain ⟨u0, x0, x1, x2, x3, x4, x5⟩ := hu
            have g8 := get_of k8
            go_simp
          refine any_put (a := A10) (d := 201) (by rw [hz]; decide) (fun A11 hb => ?_)
          replace hz := hb.size.trans hz
          replace HU := hb.upd (by decide) HU
          replace k8 := hb.ne (by decide) k8
          replace k200 := hb.ne (by decide) k200
          have k201 : A11.tmps[201]? = some (.pointer (some ⟨mS, 0, none⟩)) := hb.at_
          clear hb A10
          obtain ⟨g0, g1⟩ := (H5.out.1.box.below J9.out.bel).cells
          obtain ⟨g2, g3⟩ := (H5.out.1.box.below J9.out.bel).thaw
          refine wpAnyH_done (by kernel_rfl) ?_ _
          refine tail_end rfl (fun K hK => ?_)
          dsimp only [List.getElem_toArray, List.getElem_cons_succ, List.getElem_cons_zero]
          have g200 := get_of k200
          have g201 := get_of k201
          go_simp
          refine hK _ _ ?_
          clear hK K
          refine ⟨rfl, HU, a9, c9, H5.out.1.nodes J9.out (up_rows HZ.out.2.2.2.1 HZ.out.2.2.1 HZ.out.2.2.2.2.1 HZ.out.2.2.2.2.2.1 HZ.out.2.2.2.2.2.2.1 HZ.out.2.2.2.2.2.2.2 J9.out.bel), ?_⟩
          rw [← H5.out.2.2]
          have h1 := H5.out.2.1
          rw [← H5.out.2.2] at h1
          exact (h1.trans (J9.out.bel.mono (Nat.le_of_lt lS))).setCell (p := ⟨mS, 0, none⟩) (Nat.le_refl _) _
        exact AllReadyH.nil
      exact AllReadyH.nil
    exact AllReadyH.nil
  refine AllReadyH.cons rfl (fun K hK => ?_) ?_
  · dsimp only [List.getElem_toArray, List.getElem_cons_succ, List.getElem_cons_zero]
    have g198 := get_of k198
    go_simp
    clear g198
    obtain ⟨bx, hbx⟩ : ∃ bx, U0.heap.size = bx := ⟨_, rfl⟩
    obtain ⟨U1, hU⟩ : ∃ z, U0.alloc (.cells #[.int .i64 12, .string ⟨#[]⟩, .int .i64 num, .int .u64 0, .slice (some ⟨gy, 0, none⟩) 1 1, .int .i64 tp] 34) = z := ⟨_, rfl⟩
    have hb : Below U0.heap.size U0 U1 := by rw [← hU]; exact bz1 _ _
    have FB1 : Hid (Below W5.heap.size W5 U1) := FB0.out.trans (hb.mono FB0.out.size)
    have FX1 : Hid ((∀ j c, (encN.cells ⟨12, [], num, 0, some ⟨gy, 0, none⟩, 1, 1, tp⟩)[j]? = some c → U1.cell? ((⟨bx, 0, none⟩ : Addr).add j) = some c) ∧ bx < U1.heap.size) := by rw [← hU, ← hbx]; exact ⟨cells_new encN _ ⟨12, [], num, 0, some ⟨gy, 0, none⟩, 1, 1, tp⟩ 34, by simp⟩
    rw [hU, hbx]
    clear hU hbx hb
    refine hK.out _ _ (KS.out _ FB1.out) (fun HS => ?_)
    clear hK K
    clear k198
    refine any_put (a := A6) (d := 199) (by rw [hz]; decide) (fun A7 hb => ?_)
    replace hz := hb.size.trans hz
    replace HU := hb.upd (by decide) HU
    replace k8 := hb.ne (by decide) k8
    replace k196 := hb.ne (by decide) k196
    have k199 : A7.tmps[199]? = some (.slice (some ⟨bx, 0, none⟩) 1 1) := hb.at_
    clear hb A6
    refine wpAnyH_ready (rs := [0]) (by kernel_rfl) (by simp) ?_
    refine AllReadyH.cons rfl (fun K hK => ?_) ?_
    · dsimp only [List.getElem_toArray, List.getElem_cons_zero]
      go_simp
      obtain ⟨g0, hg0⟩ : ∃ g0, U1.heap.size = g0 := ⟨_, rfl⟩
      obtain ⟨U2, hU⟩ : ∃ z, U1.alloc (.cells #[] 34) = z := ⟨_, rfl⟩
      have hb : Below U1.heap.size U1 U2 := by rw [← hU]; exact bz1 _ _
      have FB2 : Hid (Below W5.heap.size W5 U2) := FB1.out.trans (hb.mono FB1.out.size)
      have FE2 : Hid (OwnG encN 34 U2 W5.heap.size (.slice (some ⟨g0, 0, none⟩) 0 0) []) := by rw [← hU, ← hg0]; exact own0 encN _ FB1.out.size (Below.refl _ _)
      have HG : Hid (¬ g0 = bx) := by have := FX1.out.2; show ¬ _; omega
      have FX2 : Hid ((∀ j c, (encN.cells ⟨12, [], num, 0, some ⟨gy, 0, none⟩, 1, 1, tp⟩)[j]? = some c → U2.cell? ((⟨bx, 0, none⟩ : Addr).add j) = some c) ∧ bx < U2.heap.size) := ⟨cells_stay FX1.out.1 FX1.out.2 hb, Nat.lt_of_lt_of_le FX1.out.2 (hb).size⟩
      rw [hU, hg0]
      clear hU hg0 hb
      refine hK.out _ _ (KS.out _ FB2.out) (fun HS => ?_)
      clear hK K
      refine any_put (a := A7) (d := 191) (by rw [hz]; decide) (fun A8 hb => ?_)
      replace hz := hb.size.trans hz
      replace HU := hb.upd (by decide) HU
      replace k8 := hb.ne (by decide) k8
      replace k196 := hb.ne (by decide) k196
      replace k199 := hb.ne (by decide) k199
      have k191 : A8.tmps[191]? = some (.slice (some ⟨g0, 0, none⟩) 0 0) := hb.at_
      clear hb A7
      refine wpAnyH_ready (rs := [6]) (by kernel_rfl) (by simp) ?_
      refine AllReadyH.cons rfl (fun K hK => ?_) ?_
      · refine stepG_list encN 34 32 72 (.agg #[.int .i64 0, .string ⟨#[]⟩, .int .i64 0, .int .u64 0, .slice none 0 0, .int .i64 0]) rfl infoR Tryz.underlying32 rfl (.tmp 191) (.tmp 196) rfl W5.heap.size (.slice (some ⟨g0, 0, none⟩) 0 0) [] zs (some ⟨nb, no, none⟩) q nc (eval_of k191) FE2.out (eval_of k196) (HZ.out.2.1.below FB2.out) HZ.out.1 (by simp; omega) (by simp only [maxLen, List.length_nil]; omega) FB2.out.size ?_
        intro v8 U3 ho hb ht
        rw [List.nil_append] at ho
        obtain ⟨a8, c8, e8, q8, _, r8, _⟩ := OwnG.form ho
        rw [HZ.out.1] at e8
        subst e8
        have FB3 : Hid (Below W5.heap.size W5 U3) := FB2.out.trans hb
        have FA3 : Hid (OwnG encN 34 U3 W5.heap.size (.slice a8 q c8) zs) := ho
        have FX3 : Hid ((∀ j c, (encN.cells ⟨12, [], num, 0, some ⟨gy, 0, none⟩, 1, 1, tp⟩)[j]? = some c → U3.cell? ((⟨bx, 0, none⟩ : Addr).add j) = some c) ∧ bx < U3.heap.size) := ⟨cells_turn FX2.out.1 FX2.out.2 ht (fun q => HG.out (by simpa [Value.ownBlock] using q)), Nat.lt_of_lt_of_le FX2.out.2 ht.size⟩
        clear ho hb ht q8 r8
        refine hK.out _ _ (KS.out _ FB3.out) (fun HS => ?_)
        clear hK K
        clear k191
        clear k196
        refine any_put (a := A8) (d := 197) (by rw [hz]; decide) (fun A9 hb => ?_)
        replace hz := hb.size.trans hz
        replace HU := hb.upd (by decide) HU
        replace k8 := hb.ne (by decide) k8
        replace k199 := hb.ne (by decide) k199
        have k197 : A9.tmps[197]? = some (.slice a8 q c8) := hb.at_
        clear hb A8
        refine wpAnyH_ready (rs := [9]) (by kernel_rfl) (by simp) ?_
        refine AllReadyH.cons rfl (fun K hK => ?_) ?_
        · refine stepG_at encN 34 32 72 (.agg #[.int .i64 0, .string ⟨#[]⟩, .int .i64 0, .int .u64 0, .slice none 0 0, .int .i64 0]) rfl infoR Tryz.underlying32 rfl (.tmp 197) (.tmp 199) rfl W5.heap.size (.slice a8 q c8) zs ⟨12, [], num, 0, some ⟨gy, 0, none⟩, 1, 1, tp⟩ (eval_of k197) FA3.out bx (eval_of k199) FX3.out.1 (by have := HZ.out.1; omega) (by have := HZ.out.1; simp only [maxLen]; omega) FB3.out.size ?_
          intro v9 U4 ho hb hm ht
          obtain ⟨a9, c9, e9, q9, _, r9, _⟩ := OwnG.form ho
          rw [List.length_append, HZ.out.1] at e9
          simp only [List.length_cons, List.length_nil, Nat.zero_add] at e9
          subst e9
          have J9 : Hid (Gone W5 U4 (.slice a9 (q + 1) c9) (zs ++ [⟨12, [], num, 0, some ⟨gy, 0, none⟩, 1, 1, tp⟩])) := ⟨ho, FB3.out.trans hb⟩
          clear ho hb hm ht q9 r9
          refine hK.out _ _ (KS.out _ J9.out.bel) (fun HS => ?_)
          clear hK K
          clear k197
          clear k199
          refine any_put (a := A9) (d := 200) (by rw [hz]; decide) (fun A10 hb => ?_)
          replace hz := hb.size.trans hz
          replace HU := hb.upd (by decide) HU
          replace k8 := hb.ne (by decide) k8
          have k200 : A10.tmps[200]? = some (.slice a9 (q + 1) c9) := hb.at_
          clear hb A9
          refine take_at 10 (some 201) (.pointer (some ⟨mS, 0, none⟩)) rfl rfl (by kernel_rfl) (by kernel_rfl) (by kernel_rfl) (fun _ _ _ h => by cases h.1) (.inl ⟨by rfl, fun u hu => ?_⟩) HS ?_
          · obtain ⟨u0, x0, x1, x2, x3, x4, x5⟩ := hu
            have g8 := get_of k8
            go_simp
          refine any_put (a := A10) (d := 201) (by rw [hz]; decide) (fun A11 hb => ?_)
          replace hz := hb.size.trans hz
          replace HU := hb.upd (by decide) HU
          replace k8 := hb.ne (by decide) k8
          replace k200 := hb.ne (by decide) k200
          have k201 : A11.tmps[201]? = some (.pointer (some ⟨mS, 0, none⟩)) := hb.at_
          clear hb A10
          obtain ⟨g0, g1⟩ := (H5.out.1.box.below J9.out.bel).cells
          obtain ⟨g2, g3⟩ := (H5.out.1.box.below J9.out.bel).thaw
          refine wpAnyH_done (by kernel_rfl) ?_ _
          refine tail_end rfl (fun K hK => ?_)
          dsimp only [List.getElem_toArray, List.getElem_cons_succ, List.getElem_cons_zero]
          have g200 := get_of k200
          have g201 := get_of k201
          go_simp
          refine hK _ _ ?_
          clear hK K
          refine ⟨rfl, HU, a9, c9, H5.out.1.nodes J9.out (up_rows HZ.out.2.2.2.1 HZ.out.2.2.1 HZ.out.2.2.2.2.1 HZ.out.2.2.2.2.2.1 HZ.out.2.2.2.2.2.2.1 HZ.out.2.2.2.2.2.2.2 J9.out.bel), ?_⟩
          rw [← H5.out.2.2]
          have h1 := H5.out.2.1
          rw [← H5.out.2.2] at h1
          exact (h1.trans (J9.out.bel.mono (Nat.le_of_lt lS))).setCell (p := ⟨mS, 0, none⟩) (Nat.le_refl _) _
        exact AllReadyH.nil
      exact AllReadyH.nil
    exact AllReadyH.nil
  exact AllReadyH.nil

end Go.Proofs.YtijchmcajhdcoaaGreatDoor

/-!
  The reference's Parse, where a leaf is read: by a contract over a frame that is a letter. No condition.
-/
namespace Go.Proofs.YtijchmcajhdcoaaGreatDoor
open Go.RowKit

set_option maxHeartbeats 8000000 in
set_option maxRecDepth 100000 in
theorem leaf23 {mS m2 m11 : Nat} {w w1 W5 : World} {ns : List Nd} {ws : List Wt} {na : Option Addr} {nl nc : Nat} {wa : Option Addr} {wl wk : Nat} {tk tn ti tp : Int} {tx : Bs} (hs : SP mS m2 w W5 ns ws na nl nc wa wl wk) (hb1 : Below w1.heap.size w1 W5) (hw1 : mS = w1.heap.size)
    (hx : Box5 W5 m11 60 (.int .i64 tk) (.string ⟨tx.toArray⟩) (.int .i64 tn) (.int .u64 ti) (.int .i64 tp)) (hnl5 : nl ≤ 2000) (A : Act) (k8 : A.tmps[8]? = some (.pointer (some ⟨mS, 0, none⟩))) (k11 : A.tmps[11]? = some (.pointer (some ⟨m11, 0, none⟩))) (hz : A.tmps.size = 276) :
    Code.wp Tryz.prog (prg 23) (fun e b u => e = .normal ∧ Upd [117, 118, 119, 120, 121, 122, 123, 124, 125] A b ∧ ∃ a9 c9, SP mS m2 w u (leafN ⟨tk, tx, tn, ti, tp⟩ :: ns) ws a9 (nl + 1) c9 wa wl wk ∧ Below w1.heap.size w1 u) A W5 := by
  have lS : mS < W5.heap.size := hs.box.lt
  have hln := hs.st.len
  obtain ⟨zs, hz1, hz2, hz3, hz4, hz5⟩ := hs.st.nds
  have HZ : Hid (zs.length = nl ∧ RdG encN W5 na zs ∧ NdsIn (Qs mS W5 wa) W5 zs ns.reverse) := ⟨hz2, hz1, hz5⟩
  clear hz1 hz2 hz3 hz4 hz5
  obtain ⟨LO, hLO⟩ : ∃ LO, leafOp tk = LO := ⟨_, rfl⟩
  have HLf : Hid (∀ u : World, Calls Tryz.prog 16 #[.agg #[.int .i64 tk, .string ⟨tx.toArray⟩, .int .i64 tn, .int .u64 ti, .int .i64 tp]] u fun e w' => e = .returned (⟨LO, tx, tn, ti, none, 0, 0, tp⟩ : NV).val ∧ Below u.heap.size u w') := fun u => hLO ▸ rleaf_any ⟨tk, tx, tn, ti, tp⟩ u
  have HLO : Hid (leafOp tk = LO) := hLO
  have KS : Hid (∀ u, Below W5.heap.size W5 u → u.cell? ⟨mS, 0, none⟩ = some (.slice na nl nc) ∧ u.cell? ⟨m11, 0, none⟩ = some (.int .i64 tk) ∧ u.cell? ⟨m11, 1, none⟩ = some (.string ⟨tx.toArray⟩) ∧ u.cell? ⟨m11, 2, none⟩ = some (.int .i64 tn) ∧ u.cell? ⟨m11, 3, none⟩ = some (.int .u64 ti) ∧ u.cell? ⟨m11, 4, none⟩ = some (.int .i64 tp)) := by
    intro u hu
    exact ⟨(hs.box.below hu).cells.1, (hx.below hu).cells⟩
  have H5 : Hid (SP mS m2 w W5 ns ws na nl nc wa wl wk ∧ Below w1.heap.size w1 W5 ∧ mS = w1.heap.size) := ⟨hs, hb1, hw1⟩
  have HS0 := KS.out _ (Below.refl _ W5).drew
  clear hLO hs hb1 hw1 hx
  refine wp_name (fun A0 hA0 => ?_)
  have HU : Upd [117, 118, 119, 120, 121, 122, 123, 124, 125] A A0 := by rw [hA0]; exact Upd.refl _ _
  rw [← hA0] at k8 k11 hz
  clear hA0
  unfold prg
  simp only [Tryz.f6, Option.bind_some, regionOf, reduceIte, Nat.reduceEqDiff, Option.getD_some]
  refine wp_region_tail (fun u => u.cell? ⟨mS, 0, none⟩ = some (.slice na nl nc) ∧ u.cell? ⟨m11, 0, none⟩ = some (.int .i64 tk) ∧ u.cell? ⟨m11, 1, none⟩ = some (.string ⟨tx.toArray⟩) ∧ u.cell? ⟨m11, 2, none⟩ = some (.int .i64 tn) ∧ u.cell? ⟨m11, 3, none⟩ = some (.int .u64 ti) ∧ u.cell? ⟨m11, 4, none⟩ = some (.int .i64 tp)) 9 rfl (by kernel_rfl) (by kernel_rfl) HS0 (fun HS => ?_)
  clear HS0
  simp only [List.take_succ_cons, List.take_zero]
  obtain ⟨U0, hU0⟩ : ∃ U0, W5.drew = U0 := ⟨_, rfl⟩
  have FB0 : Hid (Below W5.heap.size W5 U0) := by rw [← hU0]; exact (Below.refl _ _).drew
  rw [hU0] at HS ⊢
  clear hU0
  refine take_at 1 (some 118) (.pointer (some ⟨mS, 0, none⟩)) rfl rfl (by kernel_rfl) (by kernel_rfl) (by kernel_rfl) (fun _ _ _ h => by cases h.1) (.inl ⟨by rfl, fun u hu => ?_⟩) HS ?_
  · obtain ⟨u0, u1, u2, u3, u4, u5⟩ := hu
    have g8 := get_of k8
    go_simp
  refine any_put (a := A0) (d := 118) (by rw [hz]; decide) (fun A1 hb => ?_)
  replace hz := hb.size.trans hz
  replace HU := hb.upd (by decide) HU
  replace k8 := hb.ne (by decide) k8
  replace k11 := hb.ne (by decide) k11
  have k118 : A1.tmps[118]? = some (.pointer (some ⟨mS, 0, none⟩)) := hb.at_
  clear hb
  refine take_at 2 (some 119) (.slice na nl nc) rfl rfl (by kernel_rfl) (by kernel_rfl) (by kernel_rfl) (fun _ _ _ h => by cases h.1) (.inl ⟨by rfl, fun u hu => ?_⟩) HS ?_
  · obtain ⟨u0, u1, u2, u3, u4, u5⟩ := hu
    have g118 := get_of k118
    go_simp
  refine any_put (a := A1) (d := 119) (by rw [hz]; decide) (fun A2 hb => ?_)
  replace hz := hb.size.trans hz
  replace HU := hb.upd (by decide) HU
  replace k8 := hb.ne (by decide) k8
  replace k11 := hb.ne (by decide) k11
  replace k118 := hb.ne (by decide) k118
  have k119 : A2.tmps[119]? = some (.slice na nl nc) := hb.at_
  clear hb A1
  clear k118
  refine take_at 4 (some 121) (.agg #[.int .i64 tk, .string ⟨tx.toArray⟩, .int .i64 tn, .int .u64 ti, .int .i64 tp]) rfl rfl (by kernel_rfl) (by kernel_rfl) (by kernel_rfl) (fun _ _ _ h => by cases h.1) (.inl ⟨by rfl, fun u hu => ?_⟩) HS ?_
  · obtain ⟨u0, u1, u2, u3, u4, u5⟩ := hu
    have g11 := get_of k11
    go_simp
  refine any_put (a := A2) (d := 121) (by rw [hz]; decide) (fun A3 hb => ?_)
  replace hz := hb.size.trans hz
  replace HU := hb.upd (by decide) HU
  replace k8 := hb.ne (by decide) k8
  replace k11 := hb.ne (by decide) k11
  replace k119 := hb.ne (by decide) k119
  have k121 : A3.tmps[121]? = some (.agg #[.int .i64 tk, .string ⟨tx.toArray⟩, .int .i64 tn, .int .u64 ti, .int .i64 tp]) := hb.at_
  clear hb A2
  clear k11
  refine wpAnyH_ready (rs := [0]) (by kernel_rfl) (by simp) ?_
  refine AllReadyH.cons rfl (fun K hK => ?_) ?_
  · dsimp only [List.getElem_toArray, List.getElem_cons_zero]
    go_simp
    obtain ⟨g0, hg0⟩ : ∃ g0, U0.heap.size = g0 := ⟨_, rfl⟩
    obtain ⟨U1, hU⟩ : ∃ z, U0.alloc (.cells #[] 34) = z := ⟨_, rfl⟩
    have hb : Below U0.heap.size U0 U1 := by rw [← hU]; exact bz1 _ _
    have FB1 : Hid (Below W5.heap.size W5 U1) := FB0.out.trans (hb.mono FB0.out.size)
    have FE1 : Hid (OwnG encN 34 U1 W5.heap.size (.slice (some ⟨g0, 0, none⟩) 0 0) []) := by rw [← hU, ← hg0]; exact own0 encN _ FB0.out.size (Below.refl _ _)
    rw [hU, hg0]
    clear hU hg0 hb
    refine hK.out _ _ (KS.out _ FB1.out) (fun HS => ?_)
    clear hK K
    refine any_put (a := A3) (d := 117) (by rw [hz]; decide) (fun A4 hb => ?_)
    replace hz := hb.size.trans hz
    replace HU := hb.upd (by decide) HU
    replace k8 := hb.ne (by decide) k8
    replace k119 := hb.ne (by decide) k119
    replace k121 := hb.ne (by decide) k121
    have k117 : A4.tmps[117]? = some (.slice (some ⟨g0, 0, none⟩) 0 0) := hb.at_
    clear hb A3
    refine wpAnyH_ready (rs := [3]) (by kernel_rfl) (by simp) ?_
    refine AllReadyH.cons rfl (fun K hK => ?_) ?_
    · refine stepG_list encN 34 32 72 (.agg #[.int .i64 0, .string ⟨#[]⟩, .int .i64 0, .int .u64 0, .slice none 0 0, .int .i64 0]) rfl infoR Tryz.underlying32 rfl (.tmp 117) (.tmp 119) rfl W5.heap.size (.slice (some ⟨g0, 0, none⟩) 0 0) [] zs na nl nc (eval_of k117) FE1.out (eval_of k119) (HZ.out.2.1.below FB1.out) HZ.out.1 (by simp; omega) (by simp only [maxLen, List.length_nil]; omega) FB1.out.size ?_
      intro v8 U2 ho hb ht
      rw [List.nil_append] at ho
      obtain ⟨a8, c8, e8, q8, _, r8, _⟩ := OwnG.form ho
      rw [HZ.out.1] at e8
      subst e8
      have FB2 : Hid (Below W5.heap.size W5 U2) := FB1.out.trans hb
      have FA2 : Hid (OwnG encN 34 U2 W5.heap.size (.slice a8 nl c8) zs) := ho
      clear ho hb ht q8 r8
      refine hK.out _ _ (KS.out _ FB2.out) (fun HS => ?_)
      clear hK K
      clear k117
      clear k119
      refine any_put (a := A4) (d := 120) (by rw [hz]; decide) (fun A5 hb => ?_)
      replace hz := hb.size.trans hz
      replace HU := hb.upd (by decide) HU
      replace k8 := hb.ne (by decide) k8
      replace k121 := hb.ne (by decide) k121
      have k120 : A5.tmps[120]? = some (.slice a8 nl c8) := hb.at_
      clear hb A4
      refine wpAnyH_ready (rs := [5]) (by kernel_rfl) (by simp) ?_
      refine AllReadyH.cons rfl (fun K hK => ?_) ?_
      · refine step_callB rfl (.tmp 121) 16 #[60] rfl enters_leaf (.agg #[.int .i64 tk, .string ⟨tx.toArray⟩, .int .i64 tn, .int .u64 ti, .int .i64 tp]) (eval_of k121) (fun v w' => v = (⟨LO, tx, tn, ti, none, 0, 0, tp⟩ : NV).val ∧ Below U2.heap.size U2 w') ((HLf.out U2).mono (by rintro e w' ⟨rfl, hb⟩; exact ⟨_, rfl, rfl, hb⟩)) ?_
        rintro v U3 ⟨rfl, hb⟩
        have FB3 : Hid (Below W5.heap.size W5 U3) := FB2.out.trans (hb.mono FB2.out.size)
        have FA3 : Hid (OwnG encN 34 U3 W5.heap.size (.slice a8 nl c8) zs) := FA2.out.below hb
        clear hb
        refine hK.out _ _ (KS.out _ FB3.out) (fun HS => ?_)
        clear hK K
        clear k121
        refine any_put (a := A5) (d := 122) (by rw [hz]; decide) (fun A6 hb => ?_)
        replace hz := hb.size.trans hz
        replace HU := hb.upd (by decide) HU
        replace k8 := hb.ne (by decide) k8
        replace k120 := hb.ne (by decide) k120
        have k122 : A6.tmps[122]? = some (.agg #[.int .i64 LO, .string ⟨tx.toArray⟩, .int .i64 tn, .int .u64 ti, .slice none 0 0, .int .i64 tp]) := hb.at_
        clear hb A5
        refine wpAnyH_ready (rs := [6]) (by kernel_rfl) (by simp) ?_
        refine AllReadyH.cons rfl (fun K hK => ?_) ?_
        · dsimp only [List.getElem_toArray, List.getElem_cons_succ, List.getElem_cons_zero]
          have g122 := get_of k122
          go_simp
          clear g122
          obtain ⟨bx, hbx⟩ : ∃ bx, U3.heap.size = bx := ⟨_, rfl⟩
          obtain ⟨U4, hU⟩ : ∃ z, U3.alloc (.cells #[.int .i64 LO, .string ⟨tx.toArray⟩, .int .i64 tn, .int .u64 ti, .slice none 0 0, .int .i64 tp] 34) = z := ⟨_, rfl⟩
          have hb : Below U3.heap.size U3 U4 := by rw [← hU]; exact bz1 _ _
          have FB4 : Hid (Below W5.heap.size W5 U4) := FB3.out.trans (hb.mono FB3.out.size)
          have FX4 : Hid ((∀ j c, (encN.cells ⟨LO, tx, tn, ti, none, 0, 0, tp⟩)[j]? = some c → U4.cell? ((⟨bx, 0, none⟩ : Addr).add j) = some c) ∧ bx < U4.heap.size) := by rw [← hU, ← hbx]; exact ⟨cells_new encN _ ⟨LO, tx, tn, ti, none, 0, 0, tp⟩ 34, by simp⟩
          have FA4 : Hid (OwnG encN 34 U4 W5.heap.size (.slice a8 nl c8) zs) := FA3.out.below hb
          rw [hU, hbx]
          clear hU hbx hb
          refine hK.out _ _ (KS.out _ FB4.out) (fun HS => ?_)
          clear hK K
          clear k122
          refine any_put (a := A6) (d := 123) (by rw [hz]; decide) (fun A7 hb => ?_)
          replace hz := hb.size.trans hz
          replace HU := hb.upd (by decide) HU
          replace k8 := hb.ne (by decide) k8
          replace k120 := hb.ne (by decide) k120
          have k123 : A7.tmps[123]? = some (.slice (some ⟨bx, 0, none⟩) 1 1) := hb.at_
          clear hb A6
          refine wpAnyH_ready (rs := [7]) (by kernel_rfl) (by simp) ?_
          refine AllReadyH.cons rfl (fun K hK => ?_) ?_
          · refine stepG_at encN 34 32 72 (.agg #[.int .i64 0, .string ⟨#[]⟩, .int .i64 0, .int .u64 0, .slice none 0 0, .int .i64 0]) rfl infoR Tryz.underlying32 rfl (.tmp 120) (.tmp 123) rfl W5.heap.size (.slice a8 nl c8) zs ⟨LO, tx, tn, ti, none, 0, 0, tp⟩ (eval_of k120) FA4.out bx (eval_of k123) FX4.out.1 (by have := HZ.out.1; omega) (by have := HZ.out.1; simp only [maxLen]; omega) FB4.out.size ?_
            intro v9 U5 ho hb hm ht
            obtain ⟨a9, c9, e9, q9, _, r9, _⟩ := OwnG.form ho
            rw [List.length_append, HZ.out.1] at e9
            simp only [List.length_cons, List.length_nil, Nat.zero_add] at e9
            subst e9
            have J9 : Hid (Gone W5 U5 (.slice a9 (nl + 1) c9) (zs ++ [⟨LO, tx, tn, ti, none, 0, 0, tp⟩])) := ⟨ho, FB4.out.trans hb⟩
            clear ho hb hm ht q9 r9
            refine hK.out _ _ (KS.out _ J9.out.bel) (fun HS => ?_)
            clear hK K
            clear k120
            clear k123
            refine any_put (a := A7) (d := 124) (by rw [hz]; decide) (fun A8 hb => ?_)
            replace hz := hb.size.trans hz
            replace HU := hb.upd (by decide) HU
            replace k8 := hb.ne (by decide) k8
            have k124 : A8.tmps[124]? = some (.slice a9 (nl + 1) c9) := hb.at_
            clear hb A7
            refine take_at 8 (some 125) (.pointer (some ⟨mS, 0, none⟩)) rfl rfl (by kernel_rfl) (by kernel_rfl) (by kernel_rfl) (fun _ _ _ h => by cases h.1) (.inl ⟨by rfl, fun u hu => ?_⟩) HS ?_
            · obtain ⟨u0, u1, u2, u3, u4, u5⟩ := hu
              have g8 := get_of k8
              go_simp
            refine any_put (a := A8) (d := 125) (by rw [hz]; decide) (fun A9 hb => ?_)
            replace hz := hb.size.trans hz
            replace HU := hb.upd (by decide) HU
            replace k8 := hb.ne (by decide) k8
            replace k124 := hb.ne (by decide) k124
            have k125 : A9.tmps[125]? = some (.pointer (some ⟨mS, 0, none⟩)) := hb.at_
            clear hb A8
            obtain ⟨g0, g1⟩ := (H5.out.1.box.below J9.out.bel).cells
            obtain ⟨g2, g3⟩ := (H5.out.1.box.below J9.out.bel).thaw
            refine wpAnyH_done (by kernel_rfl) ?_ _
            refine tail_end rfl (fun K hK => ?_)
            dsimp only [List.getElem_toArray, List.getElem_cons_succ, List.getElem_cons_zero]
            have g124 := get_of k124
            have g125 := get_of k125
            go_simp
            refine hK _ _ ?_
            clear hK K
            refine ⟨rfl, HU, a9, c9, H5.out.1.nodes J9.out (leaf_rows (t := ⟨tk, tx, tn, ti, tp⟩) HZ.out.2.2 HLO.out J9.out.bel), ?_⟩
            rw [← H5.out.2.2]
            have h1 := H5.out.2.1
            rw [← H5.out.2.2] at h1
            exact (h1.trans (J9.out.bel.mono (Nat.le_of_lt lS))).setCell (p := ⟨mS, 0, none⟩) (Nat.le_refl _) _
          exact AllReadyH.nil
        exact AllReadyH.nil
      exact AllReadyH.nil
    exact AllReadyH.nil
  exact AllReadyH.nil

end Go.Proofs.YtijchmcajhdcoaaGreatDoor

/-!
  The reference's Parse, where an open bracket and where a not is met: its waits, over a frame that is a letter. No condition.
-/
namespace Go.Proofs.YtijchmcajhdcoaaGreatDoor
open Go.RowKit

theorem any_putL {ops : Array Oper} {l : List Oper} {Q : Exit → Act → World → Prop} {a : Act} {d : Nat} {v : Value} {w : World} (hd : d < a.tmps.size) (h : ∀ b, Stp a b d v → wpList Tryz.prog ops Q l b w) : wpList Tryz.prog ops Q l (a.put (some d) v) w := h _ (Stp.of hd)

set_option maxHeartbeats 8000000 in
set_option maxRecDepth 100000 in
/-- An open bracket waits. -/
theorem wait26 {mS m2 : Nat} {w w1 W5 : World} {ns : List Nd} {ws : List Wt} {na : Option Addr} {nl nc : Nat} {wa : Option Addr} {wl wk : Nat} (hs : SP mS m2 w W5 ns ws na nl nc wa wl wk) (hb1 : Below w1.heap.size w1 W5) (hw1 : mS = w1.heap.size) (hwl5 : wl ≤ 2000) (A : Act) (k8 : A.tmps[8]? = some (.pointer (some ⟨mS, 0, none⟩))) (hz : A.tmps.size = 276) :
    Code.wp Tryz.prog (prg 26) (fun e b u => e = .normal ∧ Upd [130, 131, 132, 133, 134, 135, 136, 137, 138] A b ∧ ∃ a9 c9, SP mS m2 w u ns (⟨0, 0, [], true, nl⟩ :: ws) na nl nc a9 (wl + 1) c9 ∧ Below mS W5 u ∧ Below w1.heap.size w1 u) A W5 := by
  have lS : mS < W5.heap.size := hs.box.lt
  have HL : Hid (ws.length = wl ∧ mS = w1.heap.size) := ⟨hs.st.wl, hw1⟩
  clear hw1
  obtain ⟨c0, c1⟩ := hs.box.cells
  refine wp_name (fun A0 hA0 => ?_)
  have HU : Upd [130, 131, 132, 133, 134, 135, 136, 137, 138] A A0 := by rw [hA0]; exact Upd.refl _ _
  rw [← hA0] at k8 hz
  clear hA0
  unfold prg
  simp only [Tryz.f6, Option.bind_some, regionOf, reduceIte, Nat.reduceEqDiff, Option.getD_some]
  refine wp_region_lit ?_
  refine wpList_plain rfl (fun K hK => ?_)
  have g8 := get_of k8
  go_simp
  refine hK _ _ ?_
  clear hK K g8
  refine any_putL (a := A0) (d := 130) (by rw [hz]; decide) (fun A1 hb => ?_)
  replace hz := hb.size.trans hz
  replace HU := hb.upd (by decide) HU
  replace k8 := hb.ne (by decide) k8
  have k130 : A1.tmps[130]? = some (.pointer (some ⟨mS, 1, none⟩)) := hb.at_
  clear hb
  refine wpList_plain rfl (fun K hK => ?_)
  have g130 := get_of k130
  go_simp
  refine hK _ _ ?_
  clear hK K g130
  refine any_putL (a := A1) (d := 131) (by rw [hz]; decide) (fun A2 hb => ?_)
  replace hz := hb.size.trans hz
  replace HU := hb.upd (by decide) HU
  replace k8 := hb.ne (by decide) k8
  replace k130 := hb.ne (by decide) k130
  have k131 : A2.tmps[131]? = some (.slice wa wl wk) := hb.at_
  clear hb A1
  clear k130
  refine wpList_plain rfl (fun K hK => ?_)
  have g8 := get_of k8
  go_simp
  refine hK _ _ ?_
  clear hK K g8
  refine any_putL (a := A2) (d := 132) (by rw [hz]; decide) (fun A3 hb => ?_)
  replace hz := hb.size.trans hz
  replace HU := hb.upd (by decide) HU
  replace k8 := hb.ne (by decide) k8
  replace k131 := hb.ne (by decide) k131
  have k132 : A3.tmps[132]? = some (.pointer (some ⟨mS, 0, none⟩)) := hb.at_
  clear hb A2
  refine wpList_plain rfl (fun K hK => ?_)
  have g132 := get_of k132
  go_simp
  refine hK _ _ ?_
  clear hK K g132
  refine any_putL (a := A3) (d := 133) (by rw [hz]; decide) (fun A4 hb => ?_)
  replace hz := hb.size.trans hz
  replace HU := hb.upd (by decide) HU
  replace k8 := hb.ne (by decide) k8
  replace k131 := hb.ne (by decide) k131
  replace k132 := hb.ne (by decide) k132
  have k133 : A4.tmps[133]? = some (.slice na nl nc) := hb.at_
  clear hb A3
  clear k132
  refine wpList_plain rfl (fun K hK => ?_)
  have g133 := get_of k133
  go_simp
  refine hK _ _ ?_
  clear hK K g133
  refine any_putL (a := A4) (d := 134) (by rw [hz]; decide) (fun A5 hb => ?_)
  replace hz := hb.size.trans hz
  replace HU := hb.upd (by decide) HU
  replace k8 := hb.ne (by decide) k8
  replace k131 := hb.ne (by decide) k131
  replace k133 := hb.ne (by decide) k133
  have k134 : A5.tmps[134]? = some (.int .i64 (nl : Int)) := hb.at_
  clear hb A4
  clear k133
  refine wpList_plain rfl (fun K hK => ?_)
  have g134 := get_of k134
  go_simp
  refine hK _ _ ?_
  clear hK K g134
  refine any_putL (a := A5) (d := 135) (by rw [hz]; decide) (fun A6 hb => ?_)
  replace hz := hb.size.trans hz
  replace HU := hb.upd (by decide) HU
  replace k8 := hb.ne (by decide) k8
  replace k131 := hb.ne (by decide) k131
  replace k134 := hb.ne (by decide) k134
  have k135 : A6.tmps[135]? = some (.agg #[.int .i64 0, .int .i64 0, .string ⟨#[]⟩, .bool true, .int .i64 (nl : Int)]) := hb.at_
  clear hb A5
  clear k134
  refine wpList_plain rfl (fun K hK => ?_)
  have g135 := get_of k135
  go_simp
  refine hK _ _ ?_
  clear hK K g135
  clear k135
  refine any_putL (a := A6) (d := 136) (by rw [hz]; decide) (fun A7 hb => ?_)
  replace hz := hb.size.trans hz
  replace HU := hb.upd (by decide) HU
  replace k8 := hb.ne (by decide) k8
  replace k131 := hb.ne (by decide) k131
  have k136 : A7.tmps[136]? = some (.slice (some ⟨W5.heap.size, 0, none⟩) 1 1) := hb.at_
  clear hb A6
  refine appG_one encW 62 56 48 (.agg #[.int .i64 0, .int .i64 0, .string ⟨#[]⟩, .bool false, .int .i64 0]) rfl infoW Tryz.underlying56 rfl (.tmp 131) (.tmp 136) rfl (mS + 1) (.slice wa wl wk) ws.reverse ⟨0, 0, [], true, nl⟩ _ (eval_of k131) hs.st.wts (eval_of k136) (by rw [List.length_reverse]; have := HL.out.1; omega) (by rw [List.length_reverse]; have := HL.out.1; simp only [maxLen]; omega) (by omega) _ rfl ?_
  intro v6 w6 ho6 hb6 hm6 ht6
  obtain ⟨wa6, wk6, e6, q6, _, r6, _⟩ := OwnG.form ho6
  rw [List.length_append, List.length_reverse, HL.out.1] at e6
  simp only [List.length_cons, List.length_nil, Nat.zero_add] at e6
  subst e6
  clear k131
  clear k136
  refine any_putL (a := A7) (d := 137) (by rw [hz]; decide) (fun A8 hb => ?_)
  replace hz := hb.size.trans hz
  replace HU := hb.upd (by decide) HU
  replace k8 := hb.ne (by decide) k8
  have k137 : A8.tmps[137]? = some (.slice wa6 (wl + 1) wk6) := hb.at_
  clear hb A7
  obtain ⟨g0, g1⟩ := (hs.box.turned ht6 hs.apart).cells
  obtain ⟨g2, g3⟩ := (hs.box.turned ht6 hs.apart).thaw
  refine wpList_plain rfl (fun K hK => ?_)
  have g8 := get_of k8
  go_simp
  refine hK _ _ ?_
  clear hK K g8
  refine any_putL (a := A8) (d := 138) (by rw [hz]; decide) (fun A9 hb => ?_)
  replace hz := hb.size.trans hz
  replace HU := hb.upd (by decide) HU
  replace k8 := hb.ne (by decide) k8
  replace k137 := hb.ne (by decide) k137
  have k138 : A9.tmps[138]? = some (.pointer (some ⟨mS, 1, none⟩)) := hb.at_
  clear hb A8
  refine wpList_plain rfl (fun K hK => ?_)
  have g137 := get_of k137
  have g138 := get_of k138
  go_simp
  refine hK _ _ ?_
  refine wpList_nil ⟨rfl, HU, wa6, wk6, hs.wait ho6 hm6 ht6, ?_⟩
  have h2 : Below mS W5 (w6.setCell ⟨mS, 1, none⟩ (.slice wa6 (wl + 1) wk6)) := (ht6.below (Nat.le_of_lt lS) (fun k hk e => by have := (hs.st.wts.lt k e).1; omega)).setCell (p := ⟨mS, 1, none⟩) (Nat.le_refl _) _
  exact ⟨h2, hb1.trans (by rw [← HL.out.2]; exact h2)⟩

set_option maxHeartbeats 8000000 in
set_option maxRecDepth 100000 in
/-- A not waits. -/
theorem wait28 {mS m2 m11 : Nat} {w w1 W5 : World} {ns : List Nd} {ws : List Wt} {na : Option Addr} {nl nc : Nat} {wa : Option Addr} {wl wk : Nat} {tk tn ti tp : Int} {tx : Bs} (hs : SP mS m2 w W5 ns ws na nl nc wa wl wk) (hb1 : Below w1.heap.size w1 W5) (hw1 : mS = w1.heap.size) (hx : Box5 W5 m11 60 (.int .i64 tk) (.string ⟨tx.toArray⟩) (.int .i64 tn) (.int .u64 ti) (.int .i64 tp)) (hwl5 : wl ≤ 2000) (A : Act) (k8 : A.tmps[8]? = some (.pointer (some ⟨mS, 0, none⟩))) (k11 : A.tmps[11]? = some (.pointer (some ⟨m11, 0, none⟩))) (hz : A.tmps.size = 276) :
    Code.wp Tryz.prog (prg 28) (fun e b u => e = .normal ∧ Upd [143, 144, 145, 146, 147, 148, 149, 150] A b ∧ ∃ a9 c9, SP mS m2 w u ns (⟨11, tp, [], false, 0⟩ :: ws) na nl nc a9 (wl + 1) c9 ∧ Below mS W5 u ∧ Below w1.heap.size w1 u) A W5 := by
  have lS : mS < W5.heap.size := hs.box.lt
  have HL : Hid (ws.length = wl ∧ mS = w1.heap.size) := ⟨hs.st.wl, hw1⟩
  clear hw1
  obtain ⟨c0, c1⟩ := hs.box.cells
  obtain ⟨x0, x1, x2, x3, x4⟩ := hx.cells
  refine wp_name (fun A0 hA0 => ?_)
  have HU : Upd [143, 144, 145, 146, 147, 148, 149, 150] A A0 := by rw [hA0]; exact Upd.refl _ _
  rw [← hA0] at k8 k11 hz
  clear hA0
  unfold prg
  simp only [Tryz.f6, Option.bind_some, regionOf, reduceIte, Nat.reduceEqDiff, Option.getD_some]
  refine wp_region_lit ?_
  refine wpList_plain rfl (fun K hK => ?_)
  have g8 := get_of k8
  go_simp
  refine hK _ _ ?_
  clear hK K g8
  refine any_putL (a := A0) (d := 143) (by rw [hz]; decide) (fun A1 hb => ?_)
  replace hz := hb.size.trans hz
  replace HU := hb.upd (by decide) HU
  replace k8 := hb.ne (by decide) k8
  replace k11 := hb.ne (by decide) k11
  have k143 : A1.tmps[143]? = some (.pointer (some ⟨mS, 1, none⟩)) := hb.at_
  clear hb
  refine wpList_plain rfl (fun K hK => ?_)
  have g143 := get_of k143
  go_simp
  refine hK _ _ ?_
  clear hK K g143
  refine any_putL (a := A1) (d := 144) (by rw [hz]; decide) (fun A2 hb => ?_)
  replace hz := hb.size.trans hz
  replace HU := hb.upd (by decide) HU
  replace k8 := hb.ne (by decide) k8
  replace k11 := hb.ne (by decide) k11
  replace k143 := hb.ne (by decide) k143
  have k144 : A2.tmps[144]? = some (.slice wa wl wk) := hb.at_
  clear hb A1
  clear k143
  refine wpList_plain rfl (fun K hK => ?_)
  have g11 := get_of k11
  go_simp
  refine hK _ _ ?_
  clear hK K g11
  refine any_putL (a := A2) (d := 145) (by rw [hz]; decide) (fun A3 hb => ?_)
  replace hz := hb.size.trans hz
  replace HU := hb.upd (by decide) HU
  replace k8 := hb.ne (by decide) k8
  replace k11 := hb.ne (by decide) k11
  replace k144 := hb.ne (by decide) k144
  have k145 : A3.tmps[145]? = some (.pointer (some ⟨m11, 4, none⟩)) := hb.at_
  clear hb A2
  clear k11
  refine wpList_plain rfl (fun K hK => ?_)
  have g145 := get_of k145
  go_simp
  refine hK _ _ ?_
  clear hK K g145
  refine any_putL (a := A3) (d := 146) (by rw [hz]; decide) (fun A4 hb => ?_)
  replace hz := hb.size.trans hz
  replace HU := hb.upd (by decide) HU
  replace k8 := hb.ne (by decide) k8
  replace k144 := hb.ne (by decide) k144
  replace k145 := hb.ne (by decide) k145
  have k146 : A4.tmps[146]? = some (.int .i64 tp) := hb.at_
  clear hb A3
  clear k145
  refine wpList_plain rfl (fun K hK => ?_)
  have g146 := get_of k146
  go_simp
  refine hK _ _ ?_
  clear hK K g146
  refine any_putL (a := A4) (d := 147) (by rw [hz]; decide) (fun A5 hb => ?_)
  replace hz := hb.size.trans hz
  replace HU := hb.upd (by decide) HU
  replace k8 := hb.ne (by decide) k8
  replace k144 := hb.ne (by decide) k144
  replace k146 := hb.ne (by decide) k146
  have k147 : A5.tmps[147]? = some (.agg #[.int .i64 11, .int .i64 tp, .string ⟨#[]⟩, .bool false, .int .i64 0]) := hb.at_
  clear hb A4
  clear k146
  refine wpList_plain rfl (fun K hK => ?_)
  have g147 := get_of k147
  go_simp
  refine hK _ _ ?_
  clear hK K g147
  clear k147
  refine any_putL (a := A5) (d := 148) (by rw [hz]; decide) (fun A6 hb => ?_)
  replace hz := hb.size.trans hz
  replace HU := hb.upd (by decide) HU
  replace k8 := hb.ne (by decide) k8
  replace k144 := hb.ne (by decide) k144
  have k148 : A6.tmps[148]? = some (.slice (some ⟨W5.heap.size, 0, none⟩) 1 1) := hb.at_
  clear hb A5
  refine appG_one encW 62 56 48 (.agg #[.int .i64 0, .int .i64 0, .string ⟨#[]⟩, .bool false, .int .i64 0]) rfl infoW Tryz.underlying56 rfl (.tmp 144) (.tmp 148) rfl (mS + 1) (.slice wa wl wk) ws.reverse ⟨11, tp, [], false, 0⟩ _ (eval_of k144) hs.st.wts (eval_of k148) (by rw [List.length_reverse]; have := HL.out.1; omega) (by rw [List.length_reverse]; have := HL.out.1; simp only [maxLen]; omega) (by omega) _ rfl ?_
  intro v6 w6 ho6 hb6 hm6 ht6
  obtain ⟨wa6, wk6, e6, q6, _, r6, _⟩ := OwnG.form ho6
  rw [List.length_append, List.length_reverse, HL.out.1] at e6
  simp only [List.length_cons, List.length_nil, Nat.zero_add] at e6
  subst e6
  clear k144
  clear k148
  refine any_putL (a := A6) (d := 149) (by rw [hz]; decide) (fun A7 hb => ?_)
  replace hz := hb.size.trans hz
  replace HU := hb.upd (by decide) HU
  replace k8 := hb.ne (by decide) k8
  have k149 : A7.tmps[149]? = some (.slice wa6 (wl + 1) wk6) := hb.at_
  clear hb A6
  obtain ⟨g0, g1⟩ := (hs.box.turned ht6 hs.apart).cells
  obtain ⟨g2, g3⟩ := (hs.box.turned ht6 hs.apart).thaw
  refine wpList_plain rfl (fun K hK => ?_)
  have g8 := get_of k8
  go_simp
  refine hK _ _ ?_
  clear hK K g8
  refine any_putL (a := A7) (d := 150) (by rw [hz]; decide) (fun A8 hb => ?_)
  replace hz := hb.size.trans hz
  replace HU := hb.upd (by decide) HU
  replace k8 := hb.ne (by decide) k8
  replace k149 := hb.ne (by decide) k149
  have k150 : A8.tmps[150]? = some (.pointer (some ⟨mS, 1, none⟩)) := hb.at_
  clear hb A7
  refine wpList_plain rfl (fun K hK => ?_)
  have g149 := get_of k149
  have g150 := get_of k150
  go_simp
  refine hK _ _ ?_
  refine wpList_nil ⟨rfl, HU, wa6, wk6, hs.wait ho6 hm6 ht6, ?_⟩
  have h2 : Below mS W5 (w6.setCell ⟨mS, 1, none⟩ (.slice wa6 (wl + 1) wk6)) := (ht6.below (Nat.le_of_lt lS) (fun k hk e => by have := (hs.st.wts.lt k e).1; omega)).setCell (p := ⟨mS, 1, none⟩) (Nat.le_refl _) _
  exact ⟨h2, hb1.trans (by rw [← HL.out.2]; exact h2)⟩

end Go.Proofs.YtijchmcajhdcoaaGreatDoor
