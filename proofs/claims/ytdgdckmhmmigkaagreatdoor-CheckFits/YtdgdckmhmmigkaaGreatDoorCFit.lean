/-
  check.Fits and the document's Fits by contracts: they tell the same. No condition but that the table of functions lies as the program's text lays it.
-/
import Derived.Test.YtdgdckmhmmigkaaGreatDoorCChk
import Derived.Test.YtdgdckmhmmigkaaGreatDoorJRef
namespace Go.Proofs.YtdgdckmhmmigkaaGreatDoor
open Go.RowKit

/-- What is told of types, one by one. -/
def fitT (tk : Nat → Int) : Nat → List Int → Int
  | _, [] => 0
  | i, z :: l => if z = tk i then fitT tk (i + 1) l else 35
/-- What Fits tells. -/
def fitR (name : Bs) (zs : List Int) : Int := if (fgo name zs.length ftab).2 ≠ 0 then (fgo name zs.length ftab).2 else fitT (fgo name zs.length ftab).1.at 0 zs

theorem fitT_from (tk : Nat → Int) (zs : List Int) (i : Nat) (h : ∀ j, j < i → zs[j]? = some (tk j)) (hi : i ≤ zs.length) : fitT tk 0 zs = fitT tk i (zs.drop i) := by
  induction i with
  | zero => rfl
  | succ i ih =>
    have hlt : i < zs.length := by omega
    rw [ih (fun j hj => h j (by omega)) (by omega), List.drop_eq_getElem_cons hlt]
    have e : zs[i] = tk i := by
      have := h i (by omega)
      rw [List.getElem?_eq_getElem hlt] at this
      exact Option.some.inj this
    rw [fitT, if_pos e]
theorem fitT_bad (tk : Nat → Int) (zs : List Int) (i : Nat) (h : ∀ j, j < i → zs[j]? = some (tk j)) {z : Int} (hz : zs[i]? = some z) (hne : z ≠ tk i) : fitT tk 0 zs = 35 := by
  have hlt := (List.getElem?_eq_some_iff.1 hz).1
  have e := (List.getElem?_eq_some_iff.1 hz).2
  rw [fitT_from tk zs i h (by omega), List.drop_eq_getElem_cons hlt, e, fitT, if_neg hne]
theorem fitT_end (tk : Nat → Int) (zs : List Int) (h : ∀ j, j < zs.length → zs[j]? = some (tk j)) : fitT tk 0 zs = 0 := by
  rw [fitT_from tk zs zs.length h (Nat.le_refl _), List.drop_length]
  rfl

set_option maxHeartbeats 1600000 in
set_option maxRecDepth 100000 in
theorem fits_any (name : Bs) (zs : List Int) (ao : Option Addr) (n c : Nat) (hl : zs.length = n) (hn : n ≤ 17592186044416) (w : World) (hf : Fns w) (hr : RdG encI w ao zs) :
    Calls Tryz.prog 8 #[.string ⟨name.toArray⟩, .slice ao n c] w fun e w' => e = .returned (.int .i64 (fitR name zs)) ∧ Below w.heap.size w w' := by
  have hfi := find_any name n w hf
  obtain ⟨R, hR⟩ : ∃ R, fitR name zs = R := ⟨_, rfl⟩
  rw [hR]
  rw [fitR, hl] at hR
  obtain ⟨⟨fr, er⟩, hfe⟩ : ∃ r, fgo name n ftab = r := ⟨_, rfl⟩
  rw [hfe] at hfi hR
  simp only at hR
  have H : Hid (RdG encI w ao zs ∧ zs.length = n) := ⟨hr, hl⟩
  by_cases he : er = 0
  · subst he
    rw [if_neg (by simp)] at hR
    have hmem : fr ∈ ftab := by
      have := fgo_mem name n ftab (by rw [hfe])
      rwa [hfe] at this
    have hsm := (ftab_small fr hmem).2
    have hor := takes_or hmem hfe
    have HR : Hid (fitT fr.at 0 zs = R) := hR
    clear hR hf hr hl hfe hmem
    go_enter Tryz.func8, Tryz.ntmps8
    go_wp2_with fail
    refine hfi.mono ?_
    rintro e w1 ⟨⟨na, nl, nc, ta, tl, tc, least, most, comes⟩, rfl, hfv, b1⟩
    obtain ⟨W1, m1, hW1, hm1, hx1, bW1, c1, hB1, hlt1⟩ := lay5 b1 b1.size 36 (.slice na nl nc) (.slice ta tl tc) (.int .i64 least) (.int .i64 most) (.int .i64 comes)
    simp only [FvV.cells]
    have HF : Hid (FvAt W1 ⟨na, nl, nc, ta, tl, tc, least, most, comes⟩ fr ∧ Below w.heap.size w W1 ∧ RdG encI W1 ao zs ∧ Box5 W1 m1 36 (.slice na nl nc) (.slice ta tl tc) (.int .i64 least) (.int .i64 most) (.int .i64 comes)) := ⟨(hfv trivial).below c1, bW1, H.out.1.below bW1, hx1⟩
    clear hfv b1 hx1 bW1 c1 hfi
    go_upto_region 2 with fail
    clear hW1 hm1
    go_wp2_with fail
    go_loopg [21] n (fun g iv wr => ∃ (i : Nat), iv = .int .i64 i ∧ i + g = n ∧ Hid (Below W1.heap.size W1 wr ∧ ∀ j, j < i → zs[j]? = some (fr.at j)))
    case atStart => exact ⟨0, rfl, by omega, Below.refl _ _, fun j q => absurd q (Nat.not_lt_zero j)⟩
    case round =>
      obtain ⟨i, rfl, hi, HB⟩ := hrel
      by_cases hin : i < n
      · have hii : (i : Int) < (n : Int) := by omega
        have htk : fr.takes ≠ [] := by
          rcases hor with q | q
          · exact q
          · omega
        obtain ⟨z, hz⟩ : ∃ z, zs[i]? = some z := ⟨_, List.getElem?_eq_getElem (by have := H.out.2; omega)⟩
        obtain ⟨b, off, rfl, hblt⟩ := HF.out.2.2.1.some_of hz
        have hce := (HF.out.2.2.1.below HB.out.1).ints hz
        obtain ⟨s0, s1, s2, s3, s4⟩ := (HF.out.2.2.2.below HB.out.1).cells
        have hta := takesAt_any ⟨na, nl, nc, ta, tl, tc, least, most, comes⟩ fr i (by omega) htk wr (HF.out.1.below HB.out.1) (by omega)
        simp only [FvV.cells] at hta
        obtain ⟨g, hg⟩ : ∃ g, fr.at i = g := ⟨_, rfl⟩
        rw [hg] at hta
        have HG : Hid (fr.at i = g ∧ zs[i]? = some z) := ⟨hg, hz⟩
        clear hg hz
        by_cases hzg : z = g
        · subst hzg
          go_wp2_with (go_at_call 13; refine hta.mono ?_; rintro e w3 ⟨rfl, b3⟩; have B3 : Hid (Below W1.heap.size W1 w3) := HB.out.1.trans (b3.mono HB.out.1.size); clear b3)
          go_roundg (gk - 1)
          case measure => omega
          case rel => exact ⟨i + 1, by go_num, by omega, B3.out, fun j hj => by
            rcases Nat.lt_or_ge j i with q | q
            · exact HB.out.2 j q
            · obtain rfl : j = i := by omega
              rw [HG.out.1]
              exact HG.out.2⟩
        · have hne : (z == g) = false := by rw [beq_eq_false_iff_ne]; exact hzg
          go_wp2_with (go_at_call 13; refine hta.mono ?_; rintro e w3 ⟨rfl, b3⟩; have B3 : Hid (Below W1.heap.size W1 w3) := HB.out.1.trans (b3.mono HB.out.1.size); clear b3)
          go_ret
          exact ⟨by rw [← HR.out, fitT_bad fr.at zs i HB.out.2 HG.out.2 (by rw [HG.out.1]; exact hzg)]; rfl, HF.out.2.1.trans (B3.out.mono HF.out.2.1.size)⟩
      · obtain rfl : i = n := by omega
        clear hi hin
        go_wp2_with fail
        go_ret
        exact ⟨by rw [← HR.out, fitT_end fr.at zs (fun j hj => HB.out.2 j (by have := H.out.2; omega))]; rfl, HF.out.2.1.trans (HB.out.1.mono HF.out.2.1.size)⟩
  · rw [if_pos he] at hR
    subst hR
    have he1 : (er == 0) = false := by rw [beq_eq_false_iff_ne]; exact he
    clear hf hr hl hfe
    go_enter Tryz.func8, Tryz.ntmps8
    go_wp2_with fail
    refine hfi.mono ?_
    rintro e w1 ⟨⟨na, nl, nc, ta, tl, tc, least, most, comes⟩, rfl, hfv, b1⟩
    obtain ⟨W1, m1, hW1, hm1, hx1, bW1, c1, hB1, hlt1⟩ := lay5 b1 b1.size 36 (.slice na nl nc) (.slice ta tl tc) (.int .i64 least) (.int .i64 most) (.int .i64 comes)
    simp only [FvV.cells]
    have HF : Hid (Below w.heap.size w W1) := bW1
    clear hfv b1 hx1 bW1 c1 hfi
    go_upto_region 2 with fail
    clear hW1 hm1
    go_wp2_with fail
    go_ret
    exact ⟨rfl, HF.out⟩

/-- What the document's table says of types is what the program's says. -/
theorem rtk_fit {name : Bs} {zs : List Int} (h : name ∈ rnames) (hl : zs.length ≤ 9223372036854775807) :
    ((rtk name zs.length).2 = false → fitR name zs = 34) ∧ ((rtk name zs.length).2 = true → fitR name zs = fitT (fgo name zs.length ftab).1.at 0 zs ∧ ∀ i, i < zs.length → (rtk name zs.length).1[i]? = some ((fgo name zs.length ftab).1.at i)) := by
  obtain ⟨h1, h2⟩ := fgo_rtk name zs.length hl h
  refine ⟨fun q => ?_, fun q => ?_⟩
  · have := h1 q
    rw [fitR, if_pos (by rw [this]; decide), this]
  · obtain ⟨a, _, c⟩ := h2 q
    refine ⟨?_, c⟩
    rw [fitR, if_neg (by rw [a]; decide)]

set_option maxHeartbeats 1600000 in
set_option maxRecDepth 100000 in
theorem rfits_any (name : Bs) (zs : List Int) (ao : Option Addr) (n c : Nat) (hl : zs.length = n) (hn : n ≤ 17592186044416) (w : World) (hr : RdG encI w ao zs) :
    Calls Tryz.prog 9 #[.string ⟨name.toArray⟩, .slice ao n c] w fun e w' => e = .returned (.int .i64 (fitR name zs)) ∧ Below w.heap.size w w' := by
  obtain ⟨R, hR⟩ : ∃ R, fitR name zs = R := ⟨_, rfl⟩
  rw [hR]
  have H : Hid (RdG encI w ao zs ∧ zs.length = n ∧ fitR name zs = R) := ⟨hr, hl, hR⟩
  clear hr hl hR
  by_cases hnm : name ∈ rnames
  · have hrt := rtk_fit (zs := zs) hnm (by have := H.out.2.1; omega)
    rw [H.out.2.1, H.out.2.2] at hrt
    obtain ⟨tk, htk⟩ : ∃ tk, (fgo name n ftab).1.at = tk := ⟨_, rfl⟩
    rw [htk] at hrt
    obtain ⟨⟨l, b⟩, hlb⟩ : ∃ r, rtk name n = r := ⟨_, rfl⟩
    rw [hlb] at hrt
    have HT : Hid (∀ u, Calls Tryz.prog 15 #[.string ⟨name.toArray⟩, .int .i64 n] u fun e w' => ∃ (ao : Option Addr) (k c : Nat), e = .returned (.tuple #[.slice ao k c, .bool b]) ∧ RdG encI w' ao l ∧ l.length = k ∧ k ≤ c ∧ Below u.heap.size u w') := by
      intro u
      refine (takes_any name n hn u).mono ?_
      rintro e w' ⟨ao, k, c, h1, h2, h3⟩
      rw [hlb] at h1 h2 h3
      exact ⟨ao, k, c, h1, h2, h3⟩
    have hd : decide (name ∈ rnames) = true := decide_eq_true hnm
    clear htk hlb hnm
    cases b with
    | false =>
      obtain rfl := (hrt.1 rfl).symm
      clear hrt
      go_enter Tryz.func9, Tryz.ntmps9
      go_wp2_with fail
      refine (rnames_any w).mono ?_
      rintro e w1 ⟨rfl, hrd, b1⟩
      have ha := among_any name rnames (some ⟨w.heap.size, 0, none⟩) 21 21 rfl (by omega) w1 hrd
      rw [hd] at ha
      have B1 : Hid (Below w.heap.size w w1) := b1
      clear hrd b1 hd
      go_wp2_with fail
      refine ha.mono ?_
      rintro e w2 ⟨rfl, rfl⟩
      clear ha
      go_wp2_with fail
      refine (HT.out w2).mono ?_
      rintro e w3 ⟨ao2, k, c2, rfl, hr2, hk, hkc, b3⟩
      have B3 : Hid (Below w.heap.size w w3) := B1.out.trans (b3.mono B1.out.size)
      clear hr2 hk hkc b3
      go_wp2_with fail
      go_ret
      exact ⟨rfl, B3.out⟩
    | true =>
      obtain ⟨hr1, hr2⟩ := hrt.2 rfl
      have HR : Hid (R = fitT tk 0 zs ∧ ∀ i, i < n → l[i]? = some (tk i)) := ⟨hr1, hr2⟩
      clear hrt hr1 hr2
      go_enter Tryz.func9, Tryz.ntmps9
      go_wp2_with fail
      refine (rnames_any w).mono ?_
      rintro e w1 ⟨rfl, hrd, b1⟩
      have ha := among_any name rnames (some ⟨w.heap.size, 0, none⟩) 21 21 rfl (by omega) w1 hrd
      rw [hd] at ha
      have B1 : Hid (Below w.heap.size w w1) := b1
      clear hrd b1 hd
      go_wp2_with fail
      refine ha.mono ?_
      rintro e w2 ⟨rfl, rfl⟩
      clear ha
      go_wp2_with fail
      refine (HT.out w2).mono ?_
      rintro e w3 ⟨ao2, k, c2, rfl, hr2, hk, hkc, b3⟩
      have B3 : Hid (Below w.heap.size w w3 ∧ RdG encI w3 ao2 l ∧ RdG encI w3 ao zs ∧ l.length = k) := ⟨B1.out.trans (b3.mono B1.out.size), hr2, H.out.1.below (B1.out.trans (b3.mono B1.out.size)), hk⟩
      clear hr2 hk b3
      go_wp2_with fail
      go_loopg [7] n (fun g iv wr => ∃ (i : Nat), iv = .int .i64 i ∧ i + g = n ∧ Hid (Below w3.heap.size w3 wr ∧ ∀ j, j < i → zs[j]? = some (tk j)))
      case atStart => exact ⟨0, rfl, by omega, Below.refl _ _, fun j q => absurd q (Nat.not_lt_zero j)⟩
      case round =>
        obtain ⟨i, rfl, hi, HB⟩ := hrel
        by_cases hin : i < n
        · have hii : (i : Int) < (n : Int) := by omega
          obtain ⟨z, hz⟩ : ∃ z, zs[i]? = some z := ⟨_, List.getElem?_eq_getElem (by have := H.out.2.1; omega)⟩
          have hz2 := HR.out.2 i hin
          obtain ⟨g, hg⟩ : ∃ g, tk i = g := ⟨_, rfl⟩
          rw [hg] at hz2
          obtain ⟨b, off, rfl, hblt⟩ := B3.out.2.2.1.some_of hz
          obtain ⟨b2, off2, rfl, hblt2⟩ := B3.out.2.1.some_of hz2
          have hik : i < k := by
            have := (List.getElem?_eq_some_iff.1 hz2).1
            have := B3.out.2.2.2
            omega
          have hik2 : (i : Int) < (k : Int) := by omega
          have hce := (B3.out.2.2.1.below HB.out.1).ints hz
          have hce2 := (B3.out.2.1.below HB.out.1).ints hz2
          have HG : Hid (tk i = g ∧ zs[i]? = some z) := ⟨hg, hz⟩
          clear hg hz hz2
          by_cases hzg : z = g
          · subst hzg
            go_wp2_with fail
            go_quiet (fail)
            go_wp2
            go_roundg (gk - 1)
            case measure => omega
            case rel => exact ⟨i + 1, by go_num, by omega, HB.out.1.trans ((belowD _ _).mono HB.out.1.size), fun j hj => by
              rcases Nat.lt_or_ge j i with q | q
              · exact HB.out.2 j q
              · obtain rfl : j = i := by omega
                rw [HG.out.1]
                exact HG.out.2⟩
          · have hne : (z == g) = false := by rw [beq_eq_false_iff_ne]; exact hzg
            go_wp2_with fail
            go_quiet (fail)
            go_wp2
            go_ret
            exact ⟨by rw [HR.out.1, fitT_bad tk zs i HB.out.2 HG.out.2 (by rw [HG.out.1]; exact hzg)]; rfl, B3.out.1.trans ((HB.out.1.trans ((belowD _ _).mono HB.out.1.size)).mono B3.out.1.size)⟩
        · obtain rfl : i = n := by omega
          clear hi hin
          go_wp2_with fail
          go_ret
          exact ⟨by rw [HR.out.1, fitT_end tk zs (fun j hj => HB.out.2 j (by have := H.out.2.1; omega))]; rfl, B3.out.1.trans (HB.out.1.mono B3.out.1.size)⟩
  · have hd : decide (name ∈ rnames) = false := decide_eq_false hnm
    have hRe : R = 33 := by
      rw [← H.out.2.2, fitR, fgo_no name _ hnm]
      rfl
    subst hRe
    clear hnm
    go_enter Tryz.func9, Tryz.ntmps9
    go_wp2_with fail
    refine (rnames_any w).mono ?_
    rintro e w1 ⟨rfl, hrd, b1⟩
    have ha := among_any name rnames (some ⟨w.heap.size, 0, none⟩) 21 21 rfl (by omega) w1 hrd
    rw [hd] at ha
    have B1 : Hid (Below w.heap.size w w1) := b1
    clear hrd b1 hd
    go_wp2_with fail
    refine ha.mono ?_
    rintro e w2 ⟨rfl, rfl⟩
    clear ha
    go_wp2_with fail
    go_ret
    exact ⟨rfl, B1.out⟩

end Go.Proofs.YtdgdckmhmmigkaaGreatDoor
