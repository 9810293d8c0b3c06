/-
  TextRuns' walk: of whatever numbers it returns true and turns nothing that was there. No condition but that no list is longer than its room.
-/
import Derived.Test.YtnodkpnbfklmhaaDoorAwake
import Derived.Test.YtnodkpnbfklmhaaDoorRRuns
namespace Go.Proofs.YtnodkpnbfklmhaaDoor
open Go.RowKit

/-- A world that meets a condition. -/
structure SW (S : World → Prop) where
  w : World
  ok : S w

/-- One walk in the order of the text, in every world that meets the condition. -/
theorem wp_region_class {P : Program} {S : World → Prop} {id : Nat} {Q : Exit → Act → World → Prop} {a : Act} {w : World} {l : List Oper} (hm : P.follows .mixedOrders = true) (hB : Region.lexB .any l.toArray = true) (h0 : S w.drew)
    (h : wpQuiet P l.toArray (fun w' => ∃ u : SW S, w' = u.w) (fun a' => ∀ w', (∃ u : SW S, w' = u.w) → Q .normal a' w') l a) : (Code.region id l.toArray true).wp P Q a w :=
  wp_region_quiet (C := fun w' => ∃ u : SW S, w' = u.w) hm hB ⟨⟨w.drew, h0⟩, rfl⟩ (by simpa using h)

theorem info3 : (Tryd.prog.info? 3).map (fun i => (i.zero, i.size, i.bytes)) = some (some (.int .i64 0), 1, 8) := by kernel_rfl

theorem in_class {w5 : World} {ao : Option Addr} {m c : Nat} {R : List Pr} (x : Int) (ha : RdG encP w5 ao R) (hl : R.length = m) (hm : m ≤ 1000000) (hf : R.any (inRun x) = true) (u : SW (fun u => Below w5.heap.size w5 u)) :
    Calls Tryd.prog 15 #[.int .i64 x, .slice ao m c] u.w fun e w' => e = .returned (.bool true) ∧ ∃ u' : SW (fun u => Below w5.heap.size w5 u), w' = u'.w := by
  refine (in_any x u.w (ha.below u.ok) hl (by omega) true hf).mono ?_
  rintro e w' ⟨rfl, hb⟩
  exact ⟨rfl, ⟨w', u.ok.trans (hb.mono u.ok.size)⟩, rfl⟩

theorem below_draw {B : Nat} {w w' : World} (h : Below B w w') (n : Nat) : Below B w (w'.drewN n) := ⟨h.os, h.tape, h.output, h.size, h.block⟩

theorem Made.any_in {zs : List Int} {R : List Pr} (h : Made (sortI zs) R) {x : Int} (hx : x ∈ zs) : R.any (inRun x) = true := by
  obtain ⟨r, hr, h1, h2⟩ := h.cover x ((sortI_mem zs x).2 hx)
  exact List.any_eq_true.2 ⟨r, hr, by simp [inRun, h1, h2]⟩

set_option maxHeartbeats 6400000 in
set_option maxRecDepth 100000 in
theorem runs_walk (z : Int) (ao : Option Addr) (n c : Nat) (zs : List Int) (w : World) (hl : zs.length = n) (hnc : n ≤ c) (ha : RdG encI w ao zs) (hint : ∀ x ∈ zs, isInt x) :
    Calls Tryd.prog 6 #[.slice ao n c, .int .i64 z] w fun e w' => e = .returned (.bool true) ∧ Below w.heap.size w w' := by
  have H : Hid (RdG encI w ao zs ∧ zs.length = n ∧ ∀ x ∈ zs, isInt x) := ⟨ha, hl, hint⟩
  clear ha hl hint
  go_enter Tryd.func6, Tryd.ntmps6
  go_wp2_with fail
  refine (awake_walk w).mono ?_
  rintro e w1 ⟨rfl, hb1⟩
  have B1 : Hid (Below w.heap.size w w1) := hb1
  clear hb1
  by_cases h300 : 300 < n
  · have h' : (300 : Int) < n := by omega
    go_wp2
    go_ret
    exact ⟨rfl, B1.out⟩
  have h' : ¬ (300 : Int) < n := by omega
  have O0 : Hid (OwnG encI 3 (w1.alloc (.cells #[] 3)) w1.heap.size (.slice (some ⟨w1.heap.size, 0, none⟩) 0 0) []) := World.ownsRow_made w1 #[] 0 (Nat.le_refl _) (Nat.zero_le _) rfl
  have BW : Hid (Below w1.heap.size w1 (w1.alloc (.cells #[] 3))) := (Below.refl _ w1).alloc (Nat.le_refl _) _
  go_wp2_with (at_builtin; refine appG_list encI 3 29 8 _ rfl info3 Tryd.underlying29 rfl (.tmp 15) (.tmp 16) rfl w1.heap.size _ [] zs ao n c rfl O0.out rfl ((H.out.1.below B1.out).below BW.out) H.out.2.1 (by simp only [List.length_nil]; omega) (by simp only [List.length_nil, maxLen]; omega) BW.out.size ?_; intro v2 w2 hown2 hbel2 _ _)
  have hb2 : Below w1.heap.size w1 w2 := BW.out.trans hbel2
  obtain ⟨a2, c2, rfl, _, _, R2, _⟩ := hown2.form
  rw [List.nil_append, H.out.2.1]
  rw [List.nil_append] at R2
  have r1 := runs_any (c := c2) w2 R2 H.out.2.1 (by omega) H.out.2.2
  have G2 : Hid (Below w.heap.size w w2 ∧ RdG encI w2 a2 zs ∧ RdG encI w2 ao zs) := ⟨B1.out.trans (hb2.mono B1.out.size), R2, (H.out.1.below B1.out).below hb2⟩
  clear hown2 hbel2 hb2 R2 O0 BW
  refine r1.mono ?_
  rintro e w3 ⟨va, R, rfl, ho3, hM, hRl, hb3⟩
  obtain ⟨a3, c3, rfl, _, _, R3, _⟩ := ho3.form
  have r2 := rruns_any (c := c) w3 (G2.out.2.2.below hb3) H.out.2.1 hnc (by omega) H.out.2.2
  have G3 : Hid (Below w.heap.size w w3 ∧ RdG encI w3 a2 zs ∧ RdG encI w3 ao zs ∧ RdG encP w3 a3 R ∧ Made (sortI zs) R) := ⟨G2.out.1.trans (hb3.mono G2.out.1.size), G2.out.2.1.below hb3, G2.out.2.2.below hb3, R3, hM⟩
  clear ho3 hM hb3 R3 r1
  go_wp2_with fail
  refine r2.mono ?_
  rintro e w4 ⟨vb, R', rfl, ho4, hI, _, hb4⟩
  obtain rfl : R' = R := hI.uniq (G3.out.2.2.2.2.runs.of_mem (fun x => sortI_mem zs x))
  obtain ⟨a4, c4, rfl, _, _, R4, _⟩ := ho4.form
  obtain ⟨m, hm⟩ : ∃ m, R'.length = m := ⟨_, rfl⟩
  obtain ⟨f, hf⟩ : ∃ f, R'.any (inRun z) = f := ⟨_, rfl⟩
  have i1 := in_any (c := c3) z w4 (G3.out.2.2.2.1.below hb4) hm (by omega) f hf
  have G4 : Hid (Below w.heap.size w w4 ∧ RdG encI w4 a2 zs ∧ RdG encI w4 ao zs ∧ RdG encP w4 a3 R' ∧ RdG encP w4 a4 R' ∧ R'.length = m ∧ R'.any (inRun z) = f ∧ Made (sortI zs) R') := ⟨G3.out.1.trans (hb4.mono G3.out.1.size), G3.out.2.1.below hb4, G3.out.2.2.1.below hb4, G3.out.2.2.2.1.below hb4, R4, hm, hf, G3.out.2.2.2.2⟩
  rw [hm] at hRl ⊢
  clear ho4 hI hb4 R4 r2 hf hm
  go_wp2_with fail
  refine i1.mono ?_
  rintro e w5 ⟨rfl, hb5⟩
  have i2 := rin_any (c := c4) z w5 (G4.out.2.2.2.2.1.below hb5) G4.out.2.2.2.2.2.1 (by omega) f G4.out.2.2.2.2.2.2.1
  have G5 : Hid (Below w.heap.size w w5 ∧ RdG encI w5 a2 zs ∧ RdG encI w5 ao zs ∧ RdG encP w5 a3 R' ∧ RdG encP w5 a4 R' ∧ R'.length = m ∧ Made (sortI zs) R') := ⟨G4.out.1.trans (hb5.mono G4.out.1.size), G4.out.2.1.below hb5, G4.out.2.2.1.below hb5, G4.out.2.2.2.1.below hb5, G4.out.2.2.2.2.1.below hb5, G4.out.2.2.2.2.2.1, G4.out.2.2.2.2.2.2.2⟩
  clear i1 hb5
  go_wp2_with fail
  refine i2.mono ?_
  rintro e w6 ⟨rfl, rfl⟩
  clear i2
  have hff : (f != f) = false := by simp
  go_wp2_with fail
  go_loopg [8] m (fun k v wr => ∃ (i q : Nat), v = .int .i64 i ∧ i + k = m ∧ wr = w6.drewN q)
  case atStart => exact ⟨0, 0, rfl, by omega, rfl⟩
  case round =>
    obtain ⟨i, q, rfl, hi, rfl⟩ := hrel
    by_cases hin : i < m
    · have id : (i : Int) < (m : Int) := by omega
      obtain ⟨⟨x, y⟩, hx⟩ := get_at (ss := R') (i := i) (by rw [G5.out.2.2.2.2.2.1]; exact hin)
      obtain ⟨b3, o3, rfl, hlt3⟩ := G5.out.2.2.2.1.some_of hx
      obtain ⟨b4, o4, rfl, hlt4⟩ := G5.out.2.2.2.2.1.some_of hx
      obtain ⟨k1, k2⟩ := G5.out.2.2.2.1.pairs hx
      obtain ⟨k3, k4⟩ := G5.out.2.2.2.2.1.pairs hx
      clear hx
      go_wp2_with fail
      go_quiet (fail)
      go_wp2
      go_roundg (gk - 1)
      case measure => omega
      case rel => exact ⟨i + 1, _, by go_num, by omega, rfl⟩
    · obtain rfl : i = m := by omega
      go_wp2_with fail
      have B6 : Hid (Below w6.heap.size w6 (w6.drewN q)) := below_draw (Below.refl _ w6) q
      go_loopg [9] n (fun k v wr => ∃ (j : Nat), v = .int .i64 j ∧ j + k = n ∧ Hid (Below w6.heap.size w6 wr))
      case atStart => exact ⟨0, rfl, by omega, B6.out⟩
      case round =>
        obtain ⟨j, rfl, hj, HB⟩ := hrel
        by_cases hjn : j < n
        · have jd : (j : Int) < (n : Int) := by omega
          obtain ⟨x, hx⟩ := get_at (ss := zs) (i := j) (by rw [H.out.2.1]; exact hjn)
          obtain ⟨b1, o1, rfl, hlt1⟩ := G5.out.2.2.1.some_of hx
          obtain ⟨b2, o2, rfl, hlt2⟩ := G5.out.2.1.some_of hx
          have k1 := G5.out.2.2.1.ints hx
          have k2 := G5.out.2.1.ints hx
          have NE : Nonempty (SW (fun u => Below w6.heap.size w6 u)) := ⟨⟨wr, HB.out⟩⟩
          have cx1 : ∀ u : SW (fun u => Below w6.heap.size w6 u), u.w.cell? ⟨b1, o1 + j, none⟩ = some (.int .i64 x) := fun u => (u.ok.cell hlt1).trans k1
          have cx2 : ∀ u : SW (fun u => Below w6.heap.size w6 u), u.w.cell? ⟨b2, o2 + j, none⟩ = some (.int .i64 x) := fun u => (u.ok.cell hlt2).trans k2
          have k3 := fun u => in_class (c := c3) x G5.out.2.2.2.1 G5.out.2.2.2.2.2.1 (by omega) (G5.out.2.2.2.2.2.2.any_in (List.mem_of_getElem? hx)) u
          clear hx k1 k2
          go_wp2_with fail
          refine wp_region_class (S := fun u => Below w6.heap.size w6 u) (by kernel_rfl) (by kernel_rfl) HB.out.drew ?_
          repeat (go_big_quiet_step (with_reducible exact k3 _))
          refine wpQuiet_nil ?_
          intro _ hw'
          obtain ⟨u, hw''⟩ := hw'
          subst hw''
          have P7 : Hid (Below w6.heap.size w6 u.w) := u.ok
          obtain ⟨w7, hw7⟩ : ∃ w7, w7 = u.w := ⟨_, rfl⟩
          rw [← hw7] at P7 ⊢
          clear hw7
          go_wp2
          go_roundg (gk - 1)
          case measure => omega
          case rel => exact ⟨j + 1, by go_num, by omega, P7.out⟩
        · obtain rfl : j = n := by omega
          go_wp2
          go_ret
          exact ⟨rfl, G5.out.1.trans (HB.out.mono G5.out.1.size)⟩

end Go.Proofs.YtnodkpnbfklmhaaDoor
