/-
  The reference's Diff by a contract: of lists of at most 100000 entries.
-/
import Derived.Test.YtofbphmdkhocdaaGreatM30
import Derived.Deep.RegionHeld3
namespace Go.Proofs.YtofbphmdkhocdaaGreat
open Go.RowKit

/-- A change of a path. -/
def chgOf (A B : List En) (p : Bs) : Chg := (p, blobOf A p, blobOf B p)
/-- Is it told? -/
def told (g : Bs → Bool) (c : Chg) : Bool := (c.2.1 != c.2.2) && g c.1
theorem fdiff_told (g : Bs → Bool) (A B : List En) : fdiff g A B = ((bothP A B).map (chgOf A B)).filter (told g) := rfl
theorem told_step (g : Bs → Bool) (A B : List En) {qs : List Bs} {i : Nat} (h : i < qs.length) : ((qs.take (i + 1)).map (chgOf A B)).filter (told g) = ((qs.take i).map (chgOf A B)).filter (told g) ++ (if told g (chgOf A B (el qs i)) = true then [chgOf A B (el qs i)] else []) := by
  rw [List.take_succ_eq_append_getElem h, List.map_append, List.filter_append, ← el_get h]
  congr 1
  simp only [List.map_cons, List.map_nil, List.filter_cons, List.filter_nil]

theorem box3_laid {wr w3 : World} {R : Nat} {a b c : Value} (h : Box3 w3 R 60 a b c) (hb : Below wr.heap.size wr w3) (hR : wr.heap.size ≤ R) (x y z : Value) :
    Box3 (((w3.setCell ⟨R, 0, none⟩ x).setCell ⟨R, 1, none⟩ y).setCell ⟨R, 2, none⟩ z) R 60 x y z ∧ Below wr.heap.size wr (((w3.setCell ⟨R, 0, none⟩ x).setCell ⟨R, 1, none⟩ y).setCell ⟨R, 2, none⟩ z) := by
  have h0 : Box3 (w3.setCell ⟨R, 0, none⟩ x) R 60 x b c := by
    unfold Box3 at h ⊢
    simp [World.setCell, Array.getElem?_modify, h]
  have t : Turned (fun i => i = R) w3 (((w3.setCell ⟨R, 0, none⟩ x).setCell ⟨R, 1, none⟩ y).setCell ⟨R, 2, none⟩ z) :=
    (((Turned.refl (fun i => i = R) w3).setCell (p := ⟨R, 0, none⟩) (.inl (show R = R from rfl)) x).setCell (p := ⟨R, 1, none⟩) (.inl (show R = R from rfl)) y).setCell (p := ⟨R, 2, none⟩) (.inl (show R = R from rfl)) z
  exact ⟨(h0.put1 y).put2 z, hb.trans (t.below hb.size (fun i hi q => by have q' : i = R := q; omega))⟩

set_option maxHeartbeats 3200000 in
set_option maxRecDepth 100000 in
theorem rdiff_any {ao bo lo : Option Addr} {n c m d ln lc : Nat} {A B : List En} {ls : List Bs} (w : World) (ha : RdG encE w ao A) (hb : RdG encE w bo B) (hl : A.length = n) (hk : B.length = m) (hn : n ≤ 100000) (hm : m ≤ 100000) (hL : Rd w lo ls) (hll : ls.length = ln) (hln : ln ≤ 100000) :
    Calls Tryz.prog 9 #[.slice ao n c, .slice bo m d, .slice lo ln lc] w fun e w' => ∃ v', e = .returned v' ∧ OwnG encC 60 w' w.heap.size v' (fdiff (hasS ls) A B) ∧ Below w.heap.size w w' := by
  have hpa := rpaths_any (c := c) (d := d) w ha hb hl hk hn hm
  have hql : (bothP A B).length ≤ 200000 := by
    have h1 := srt_len (A.map (·.1) ++ B.map (·.1))
    rw [List.length_append, List.length_map, List.length_map] at h1
    unfold bothP
    omega
  have H : Hid (RdG encE w ao A ∧ RdG encE w bo B ∧ A.length = n ∧ B.length = m ∧ Rd w lo ls ∧ ls.length = ln) := ⟨ha, hb, hl, hk, hL, hll⟩
  obtain ⟨qs, hqs⟩ : ∃ qs, bothP A B = qs := ⟨_, rfl⟩
  rw [hqs] at hpa hql
  have FD : Hid (fdiff (hasS ls) A B = (qs.map (chgOf A B)).filter (told (hasS ls))) := by show _ = _; rw [fdiff_told, hqs]
  obtain ⟨qn, hqn⟩ : ∃ qn, qs.length = qn := ⟨_, rfl⟩
  rw [hqn] at hpa hql
  have HQ : Hid (qs.length = qn) := hqn
  clear ha hb hl hk hL hll hqs hqn
  go_enter Tryz.func9, Tryz.ntmps9
  go_wp2_with fail
  refine hpa.mono ?_
  rintro e w1 ⟨a1, c1, rfl, R1, B1⟩
  have G1 : Hid (Rd w1 a1 qs ∧ Below w.heap.size w w1) := ⟨R1, B1⟩
  clear R1 B1 hpa
  go_wp2_with fail
  go_loopg [7, 9] qn (fun k ov v wr => ∃ i : Nat, v = .int .i64 i ∧ i + k = qn ∧ Hid (OwnG encC 60 wr w1.heap.size ov (((qs.take i).map (chgOf A B)).filter (told (hasS ls))) ∧ Below w1.heap.size w1 wr))
  case atStart => exact ⟨0, rfl, by omega, OwnG.nil _ _ _ _, Below.refl _ _⟩
  case round =>
    obtain ⟨i, rfl, hi, HR⟩ := hrel
    by_cases hin : i < qn
    · have id : (i : Int) < (qn : Int) := by omega
      have id0 : (0 : Int) ≤ (i : Int) := by omega
      obtain ⟨b1, o1, rfl, hlt1, hc1⟩ := G1.out.1 (by rw [HQ.out]; omega)
      have hts := told_step (hasS ls) A B (qs := qs) (i := i) (by rw [HQ.out]; exact hin)
      have cy := hc1 i (by rw [HQ.out]; omega)
      obtain ⟨p, hp⟩ : ∃ p, el qs i = p := ⟨_, rfl⟩
      rw [hp] at hts cy
      have D : Hid (w1.cell? ⟨b1, o1 + i, none⟩ = some (.string ⟨p.toArray⟩) ∧ b1 < w1.heap.size) := ⟨cy, hlt1⟩
      have cy2 : wr.cell? ⟨b1, o1 + i, none⟩ = some (.string ⟨p.toArray⟩) := (HR.out.2.cell (p := ⟨b1, o1 + i, none⟩) hlt1).trans cy
      obtain ⟨x, hx⟩ : ∃ x, blobOf A p = x := ⟨_, rfl⟩
      obtain ⟨y, hy⟩ : ∃ y, blobOf B p = y := ⟨_, rfl⟩
      have ST : Hid (((qs.take (i + 1)).map (chgOf A B)).filter (told (hasS ls)) = ((qs.take i).map (chgOf A B)).filter (told (hasS ls)) ++ (if ((x != y) && hasS ls p) = true then [(p, x, y)] else [])) := by
        show _ = _
        rw [hts]
        have : chgOf A B p = (p, x, y) := by unfold chgOf; rw [hx, hy]
        rw [this]
        rfl
      have XY : Hid (blobOf A p = x ∧ blobOf B p = y) := ⟨hx, hy⟩
      have hol : ((((qs.take i).map (chgOf A B)).filter (told (hasS ls)))).length ≤ 200000 := by
        refine Nat.le_trans (List.length_filter_le _ _) ?_
        rw [List.length_map]
        have := List.length_take_le i qs
        omega
      obtain ⟨out, hout⟩ : ∃ out, ((qs.take i).map (chgOf A B)).filter (told (hasS ls)) = out := ⟨_, rfl⟩
      rw [hout] at HR ST hol
      have hb1 := fun (u : World) (hb : Below w.heap.size w u) => rblob_any (c := c) p u (H.out.1.below hb) H.out.2.2.1 (by omega) x XY.out.1
      have hb2 := fun (u : World) (hb : Below w.heap.size w u) => rblob_any (c := d) p u (H.out.2.1.below hb) H.out.2.2.2.1 (by omega) y XY.out.2
      have W0 : Hid (Below w.heap.size w wr.drew) := G1.out.2.trans ((HR.out.2.mono G1.out.2.size).trans (Below.refl _ wr).drew)
      clear hts hp hx hy hout cy hlt1 hc1
      go_upto_region 6 with fail
      go_cut [10] (fun pv u => Hid (∃ R, pv = .pointer (some ⟨R, 0, none⟩) ∧ Box3 u R 60 (tx p) (.int .u64 (x.toNat : Int)) (.int .u64 (y.toNat : Int)) ∧ Below wr.heap.size wr u))
      case first =>
        have hnn := World.new_ne wr ⟨b1, o1 + i, none⟩ cy2
        have BA : Hid (∀ u : World, Below wr.heap.size wr u → Below w.heap.size w u ∧ u.cell? ⟨b1, o1 + i, none⟩ = some (.string ⟨p.toArray⟩)) := by
          intro u hu
          exact ⟨G1.out.2.trans ((HR.out.2.trans (hu.mono HR.out.2.size)).mono G1.out.2.size), ((HR.out.2.trans (hu.mono HR.out.2.size)).cell (p := ⟨b1, o1 + i, none⟩) D.out.2).trans D.out.1⟩
        have W1 : Hid (Below wr.heap.size wr wr.drew) := (Below.refl _ wr).drew
        have W1a : Hid (Below wr.heap.size wr (wr.alloc (.cells #[.string ⟨#[]⟩, .int .u64 0, .int .u64 0] 60)).drew ∧ Box3 (wr.alloc (.cells #[.string ⟨#[]⟩, .int .u64 0, .int .u64 0] 60)).drew wr.heap.size 60 (.string ⟨#[]⟩) (.int .u64 0) (.int .u64 0)) := ⟨(bz1 wr _).drew, Box3.below (Box3.new wr 60 (.string ⟨#[]⟩) (.int .u64 0) (.int .u64 0)) (Below.refl _ _).drew⟩
        have kS1 := (BA.out _ W1a.out.1).2
        go_region_held3 (fun u => u.cell? ⟨b1, o1 + i, none⟩ = some (.string ⟨p.toArray⟩)) (first | with_reducible exact kS3 | with_reducible exact kS2a | with_reducible exact kS2 | with_reducible exact kS1 | go_keep)
          (first
            | (go_at_call 28; (with_reducible refine (hb2 _ (BA.out _ W2a.out.1).1).mono ?_); rintro e w3 ⟨rfl, B3⟩; have W3 : Hid (Below wr.heap.size wr w3) := W2a.out.1.trans (B3.mono W2a.out.1.size); have kS3 := (BA.out _ W3.out).2; have XB3 := W2a.out.2.below B3; obtain ⟨s0, s1, s2⟩ := XB3.cells; obtain ⟨f0, f1, f2⟩ := XB3.thaw; have XH : Hid _ := XB3; clear B3 XB3)
            | (go_at_call 28; (with_reducible refine (hb2 _ (BA.out _ W2.out).1).mono ?_); have XB2 := XX.out; rintro e w3 ⟨rfl, B3⟩; have W3 : Hid (Below wr.heap.size wr w3) := W2.out.trans (B3.mono W2.out.size); have kS3 := (BA.out _ W3.out).2; have XB3 := XB2.below B3; obtain ⟨s0, s1, s2⟩ := XB3.cells; obtain ⟨f0, f1, f2⟩ := XB3.thaw; have XH : Hid _ := XB3; clear B3 XB3 XB2)
            | (go_at_call 28; (with_reducible refine (hb2 _ (BA.out _ W2.out).1).mono ?_); rintro e w3 ⟨rfl, B3⟩; have W3 : Hid (Below wr.heap.size wr w3) := W2.out.trans (B3.mono W2.out.size); have kS3 := (BA.out _ W3.out).2; have hn3 := World.new_ne w3 ⟨b1, o1 + i, none⟩ kS3; clear B3)
            | (go_at_call 28; (with_reducible refine (hb1 _ (BA.out _ W1.out).1).mono ?_); rintro e w2 ⟨rfl, B2⟩; have W2 : Hid (Below wr.heap.size wr w2) := W1.out.trans (B2.mono W1.out.size); have kS2 := (BA.out _ W2.out).2; have hn2 := World.new_ne w2 ⟨b1, o1 + i, none⟩ kS2; have W2a : Hid (Below wr.heap.size wr (w2.alloc (.cells #[.string ⟨#[]⟩, .int .u64 0, .int .u64 0] 60)) ∧ Box3 (w2.alloc (.cells #[.string ⟨#[]⟩, .int .u64 0, .int .u64 0] 60)) w2.heap.size 60 (.string ⟨#[]⟩) (.int .u64 0) (.int .u64 0)) := ⟨W2.out.trans ((bz1 w2 _).mono W2.out.size), Box3.new w2 60 _ _ _⟩; have kS2a := (BA.out _ W2a.out.1).2; clear B2)
            | (go_at_call 28; (with_reducible refine (hb1 _ (BA.out _ W1a.out.1).1).mono ?_); rintro e w2 ⟨rfl, B2⟩; have W2 : Hid (Below wr.heap.size wr w2) := W1a.out.1.trans (B2.mono W1a.out.1.size); have kS2 := (BA.out _ W2.out).2; have XX : Hid (Box3 w2 wr.heap.size 60 (.string ⟨#[]⟩) (.int .u64 0) (.int .u64 0)) := W1a.out.2.below B2; clear B2))
        all_goals
          go_wp2_with fail
          go_meet
          first
            | exact ⟨_, rfl, Box3.new _ 60 _ _ _, W3.out.trans ((bz1 _ _).mono W3.out.size)⟩
            | exact ⟨_, rfl, (box3_laid XH.out W3.out W2.out.size _ _ _).1, (box3_laid XH.out W3.out W2.out.size _ _ _).2⟩
            | exact ⟨_, rfl, (box3_laid XH.out W3.out (Nat.le_refl _) _ _ _).1, (box3_laid XH.out W3.out (Nat.le_refl _) _ _ _).2⟩
      case rest =>
        obtain ⟨R, hpv, BX, BW⟩ := hcut.out
        subst hpv
        have WC : Below w1.heap.size w1 wc := HR.out.2.trans (BW.mono HR.out.2.size)
        have WW : Below w.heap.size w wc := G1.out.2.trans (WC.mono G1.out.2.size)
        have cy3 : wc.cell? ⟨b1, o1 + i, none⟩ = some (.string ⟨p.toArray⟩) := (WC.cell (p := ⟨b1, o1 + i, none⟩) D.out.2).trans D.out.1
        obtain ⟨j0, j1, j2⟩ := BX.cells
        have GC : Hid (Box3 wc R 60 (tx p) (.int .u64 (x.toNat : Int)) (.int .u64 (y.toNat : Int)) ∧ OwnG encC 60 wc w1.heap.size u7 out ∧ Below w1.heap.size w1 wc ∧ Below w.heap.size w wc) := ⟨BX, HR.out.1.below BW, WC, WW⟩
        clear hcut BX BW WC WW hb1 hb2 W0 cy2
        by_cases hxy : x = y
        · subst hxy
          have S0 : Hid (((qs.take (i + 1)).map (chgOf A B)).filter (told (hasS ls)) = out) := by
            show _ = _
            rw [ST.out]
            simp
          go_wp2
          go_roundg (gk - 1)
          case measure => omega
          case rel => exact ⟨i + 1, by go_num, by omega, by rw [S0.out]; exact GC.out.2.1, GC.out.2.2.1⟩
        · have hne : ¬ (x.toNat : Int) = (y.toNat : Int) := fun e => hxy (UInt64.toNat_inj.1 (by omega))
          have hne2 : ((x.toNat : Int) == (y.toNat : Int)) = false := by simpa using hne
          obtain ⟨f, hf⟩ : ∃ f, hasS ls p = f := ⟨_, rfl⟩
          have hri := rin_any (c := lc) p wc (H.out.2.2.2.2.1.below GC.out.2.2.2) H.out.2.2.2.2.2 (by omega) f hf
          have S0 : Hid (((qs.take (i + 1)).map (chgOf A B)).filter (told (hasS ls)) = out ++ (if f = true then [(p, x, y)] else [])) := by
            show _ = _
            have hb : (x != y) = true := by simpa using hxy
            rw [ST.out, hb, hf, Bool.true_and]
          clear hf
          go_wp2_with fail
          refine hri.mono ?_
          rintro e w6 ⟨rfl, B6⟩
          obtain ⟨k0, k1, k2⟩ := (GC.out.1.below B6).cells
          have G6 : Hid (OwnG encC 60 w6 w1.heap.size u7 out ∧ Below w1.heap.size w1 w6) := ⟨GC.out.2.1.below B6, GC.out.2.2.1.trans (B6.mono GC.out.2.2.1.size)⟩
          clear B6 hri j0 j1 j2 cy3
          cases f with
          | false =>
            have S1 : Hid (((qs.take (i + 1)).map (chgOf A B)).filter (told (hasS ls)) = out) := by
              show _ = _
              rw [S0.out]
              simp
            go_wp2
            go_roundg (gk - 1)
            case measure => omega
            case rel => exact ⟨i + 1, by go_num, by omega, by rw [S1.out]; exact G6.out.1, G6.out.2⟩
          | true =>
            have S1 : Hid (((qs.take (i + 1)).map (chgOf A B)).filter (told (hasS ls)) = out ++ [(p, x, y)]) := by
              show _ = _
              rw [S0.out]
              simp
            go_wp2_with (at_builtin; refine appG_one encC 60 31 32 (.agg #[.string ⟨#[]⟩, .int .u64 0, .int .u64 0]) rfl Tryz.info60 Tryz.underlying31 rfl (.tmp 50) (.tmp 52) rfl w1.heap.size _ out (p, x, y) _ rfl G6.out.1 rfl (by omega) (by simp only [maxLen]; omega) G6.out.2.size _ rfl ?_; intro v8 w8 hown8 hbel8 _ _; have G8 : Hid (OwnG encC 60 w8 w1.heap.size v8 (out ++ [(p, x, y)]) ∧ Below w1.heap.size w1 w8) := ⟨hown8, G6.out.2.trans hbel8⟩; clear hown8 hbel8)
            go_roundg (gk - 1)
            case measure => omega
            case rel => exact ⟨i + 1, by go_num, by omega, by rw [S1.out]; exact G8.out.1, G8.out.2⟩
    · obtain rfl : i = qn := by omega
      have e : qs.take i = qs := List.take_of_length_le (by rw [HQ.out]; omega)
      rw [e] at HR
      clear e
      go_wp2
      go_ret
      exact ⟨_, rfl, by rw [FD.out]; exact OwnG.low HR.out.1 G1.out.2.size, G1.out.2.trans (HR.out.2.mono G1.out.2.size)⟩

end Go.Proofs.YtofbphmdkhocdaaGreat
