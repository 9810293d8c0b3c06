/-
  The law FilterNever, walked: of whatever list it returns true, and what was there when it was called is as it was.
-/
import Derived.Test.YtkoelofjgceohaaXAwake
namespace Go.Proofs.Ytkoelofjgceohaa
open Go.RowKit

/-- Nothing is missed. -/
theorem never_missed {ch : List Bs} {x y : Bs} (hx : x ∈ ch) (hy : y ∈ parts x) : fmaybe (fmake ch) y = true := by
  by_cases h : 8 < fcount ch
  · rw [fmake, if_pos h]
    exact fmaybe_wide y
  · rw [fmaybe_made _ _ h, List.all_eq_true]
    intro z hz
    rw [List.contains_iff_mem]
    exact List.mem_flatMap.2 ⟨y, (mem_srt _ _).2 (List.mem_flatMap.2 ⟨x, hx, hy⟩), hz⟩

theorem fmake_len (ch : List Bs) : (fmake ch).length ≤ 1 + nby (103 * 8) := by
  by_cases h : 8 < fcount ch
  · rw [fmake, if_pos h]
    simp
  · rw [fmake, if_neg h, List.length_cons, fbytes_len]
    have := fpaths_len ch
    unfold nby
    omega

set_option maxHeartbeats 1600000 in
set_option maxRecDepth 100000 in
theorem never_walk (ao : Option Addr) (n c : Nat) (ch : List Bs) (W : World) (hl : ch.length = n) (hcn : n ≤ 9223372036854775807) (hin : Rd W ao ch) (hpx : ∀ x ∈ ch, x.length ≤ 9223372036854775807) :
    Calls Try.prog 4 #[.slice ao n c] W fun e w' => e = .returned (.bool true) ∧ Below W.heap.size W w' := by
  have H : Hid (ch.length = n ∧ Rd W ao ch ∧ ∀ x ∈ ch, x.length ≤ 9223372036854775807) := ⟨hl, hin, hpx⟩
  clear hl hin hpx
  by_cases hf : n ≤ 200
  · have hfw := few_any (ao := ao) (c := c) hcn true (by simpa using hf)
    go_enter Try.func4, Try.ntmps4
    go_wp2_with fail
    refine (awake_walk _).mono ?_
    rintro e w1 ⟨rfl, B1⟩
    have G1 : Hid (Below W.heap.size W w1) := B1
    clear B1
    go_wp2_with fail
    refine (hfw _).mono ?_
    rintro e w' ⟨rfl, rfl⟩
    have hmk := make_any (c := c) w' (H.out.2.1.below G1.out) H.out.1 (by omega) H.out.2.2
    clear hfw
    go_wp2_with fail
    refine hmk.mono ?_
    rintro e w2 ⟨v2, rfl, O2, B2⟩
    obtain ⟨a2, c2, rfl, _, _, _, _⟩ := O2.form
    have hfl := fmake_len ch
    obtain ⟨fn, hfn⟩ : ∃ fn, (fmake ch).length = fn := ⟨_, rfl⟩
    have A2 := OwnB.at (OwnG.low O2 (Nat.zero_le _))
    rw [hfn] at hfl A2 ⊢
    have G2 : Hid (Below W.heap.size W w2 ∧ BAt w2 (.slice a2 fn c2) (fmake ch) ∧ (fmake ch).length = fn) := ⟨G1.out.trans (B2.mono G1.out.size), A2, hfn⟩
    have hf2 : fn ≤ 1000000 := by have : 1 + nby (103 * 8) ≤ 1000000 := by decide
                                  omega
    clear O2 B2 hmk A2 hfn hfl G1
    go_wp2_with fail
    go_loopg [4] n (fun k v wr => ∃ i : Nat, v = .int .i64 i ∧ i + k = n ∧ Hid (Below w2.heap.size w2 wr))
    case atStart => exact ⟨0, rfl, by omega, Below.refl _ _⟩
    case round =>
      obtain ⟨i, rfl, hi, HR⟩ := hrel
      obtain ⟨go, hgo⟩ : ∃ go, go = gk := ⟨_, rfl⟩
      rw [← hgo] at hi
      have GO : Hid (go = gk) := hgo
      clear hgo
      by_cases hin : i < n
      · have id : (i : Int) < (n : Int) := by omega
        obtain ⟨b, off, rfl, hlt, hc⟩ := H.out.2.1 (by rw [H.out.1]; omega)
        obtain ⟨x, hx⟩ : ∃ x, el ch i = x := ⟨_, rfl⟩
        have c0 := hc i (by rw [H.out.1]; omega)
        rw [hx] at c0
        have hxm : x ∈ ch := by rw [← hx]; exact el_mem (by rw [H.out.1]; exact hin)
        have hxl := H.out.2.2 x hxm
        have c1 : wr.cell? ⟨b, off + i, none⟩ = some (.string ⟨x.toArray⟩) := (HR.out.cell (Nat.lt_of_lt_of_le hlt G2.out.1.size)).trans ((G2.out.1.cell hlt).trans c0)
        have hpa := parts_any ⟨x.toArray⟩ (by rw [bsize]; exact hxl) wr
        have NM : Hid (∀ y ∈ parts x, fmaybe (fmake ch) y = true) := fun y hy => never_missed hxm hy
        have hpl := parts_len x
        have PS : Hid (∀ y ∈ parts x, y.length ≤ 102) := fun y hy => part_short hy
        have epx : parts (⟨x.toArray⟩ : ByteArray).data.toList = parts x := rfl
        rw [epx] at hpa
        obtain ⟨qs, hqs⟩ : ∃ qs, parts x = qs := ⟨_, rfl⟩
        rw [hqs] at hpa NM hpl PS
        clear hc c0 hx hxm epx hqs
        go_wp2_with fail
        refine hpa.mono ?_
        rintro e w3 ⟨v3, rfl, O3, B3⟩
        obtain ⟨a3, c3, rfl, _, _, R3⟩ := O3.form
        obtain ⟨qn, hqn⟩ : ∃ qn, qs.length = qn := ⟨_, rfl⟩
        rw [hqn] at hpl ⊢
        have G3 : Hid (Rd w3 a3 qs ∧ qs.length = qn ∧ Below w2.heap.size w2 w3) := ⟨R3, hqn, HR.out.trans (B3.mono HR.out.size)⟩
        clear O3 B3 R3 hpa hqn
        go_wp2_with fail
        go_loopg [6] qn (fun k v wr => ∃ j : Nat, v = .int .i64 j ∧ j + k = qn ∧ Hid (Below w3.heap.size w3 wr))
        case atStart => exact ⟨0, rfl, by omega, Below.refl _ _⟩
        case round =>
          obtain ⟨j, rfl, hj, HJ⟩ := hrel
          by_cases hjn : j < qn
          · have jd : (j : Int) < (qn : Int) := by omega
            obtain ⟨b2, o2, rfl, hlt2, hc2⟩ := G3.out.1 (by rw [G3.out.2.1]; omega)
            obtain ⟨y, hy⟩ : ∃ y, el qs j = y := ⟨_, rfl⟩
            have cy := hc2 j (by rw [G3.out.2.1]; omega)
            rw [hy] at cy
            have cy2 : wr.cell? ⟨b2, o2 + j, none⟩ = some (.string ⟨y.toArray⟩) := (HJ.out.cell hlt2).trans cy
            have hym : y ∈ qs := by rw [← hy]; exact el_mem (by rw [G3.out.2.1]; exact hjn)
            have hyl := PS.out y hym
            have hma := maybe_any (c := c2) y wr ((G2.out.2.1.below G3.out.2.2).below HJ.out) G2.out.2.2 (by omega) (by omega) true (NM.out y hym)
            clear hc2 cy hy hym
            go_wp2_with fail
            refine hma.mono ?_
            rintro e w4 ⟨rfl, B4⟩
            have G4 : Hid (Below w3.heap.size w3 w4) := HJ.out.trans (B4.mono HJ.out.size)
            clear B4 hma
            go_wp2
            go_roundg (gk - 1)
            case measure => omega
            case rel => exact ⟨j + 1, by go_num, by omega, G4.out⟩
          · obtain rfl : j = qn := by omega
            go_wp2
            go_roundg (go - 1)
            case measure => have := GO.out; omega
            case rel => exact ⟨i + 1, by go_num, by omega, G3.out.2.2.trans (HJ.out.mono G3.out.2.2.size)⟩
      · obtain rfl : i = n := by omega
        go_wp2
        go_ret
        exact ⟨rfl, G2.out.1.trans (HR.out.mono G2.out.1.size)⟩
  · have hfw := few_any (ao := ao) (c := c) hcn false (by simpa using hf)
    go_enter Try.func4, Try.ntmps4
    go_wp2_with fail
    refine (awake_walk _).mono ?_
    rintro e w1 ⟨rfl, B1⟩
    have G1 : Hid (Below W.heap.size W w1) := B1
    clear B1
    go_wp2_with fail
    refine (hfw _).mono ?_
    rintro e w' ⟨rfl, rfl⟩
    go_wp2_with fail
    refine (awake_walk _).mono ?_
    rintro e w2 ⟨rfl, B2⟩
    have G2 : Hid (Below W.heap.size W w2) := G1.out.trans (B2.mono G1.out.size)
    clear B2
    go_wp2
    go_ret
    exact ⟨rfl, G2.out⟩

end Go.Proofs.Ytkoelofjgceohaa
