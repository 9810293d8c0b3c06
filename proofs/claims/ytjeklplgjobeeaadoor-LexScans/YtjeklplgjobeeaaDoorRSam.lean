/-
  The statements' Tokens and the reference's Same (tokens held against each other), each by a contract. No condition but that there are not too many tokens.
-/
import Derived.Test.YtjeklplgjobeeaaDoorLWrt
import Derived.Test.YtjeklplgjobeeaaDoorGMore
namespace Go.Proofs.YtjeklplgjobeeaaDoor
open Go.RowKit

set_option maxHeartbeats 1600000 in
set_option maxRecDepth 100000 in
theorem tokens_any {ao : Option Addr} {n c : Nat} {ts : List Tk} (w : World) (hr : RdG encT w ao ts) (hl : ts.length = n) (hc : n ≤ c) (hn : n ≤ 100000) :
    Calls Tryd.prog 10 #[.slice ao n c] w fun e w' => ∃ v, e = .returned v ∧ OwnG encT 45 w' w.heap.size v ts ∧ Below w.heap.size w w' := by
  have H : Hid (RdG encT w ao ts ∧ ts.length = n) := ⟨hr, hl⟩
  clear hr hl
  go_enter Tryd.func10, Tryd.ntmps10
  go_wp2_with fail
  go_loopg [3, 4] n (fun g v iv u => ∃ (i : Nat), iv = .int .i64 i ∧ i + g = n ∧ Hid (OwnG encT 45 u w.heap.size v (ts.take i)) ∧ Hid (Below w.heap.size w u))
  case atStart => exact ⟨0, rfl, by omega, by rw [List.take_zero]; exact OwnG.nil _ _ _ _, Below.refl _ w⟩
  case round =>
    obtain ⟨i, rfl, hi, HO, HW⟩ := hrel
    by_cases hin : i < n
    · obtain ⟨h1, h2⟩ := H.out
      have hii : (i : Int) < (n : Int) := by omega
      have hi0 : (0 : Int) ≤ (i : Int) := by omega
      obtain ⟨t, ht⟩ : ∃ t, ts[i]? = some t := ⟨_, List.getElem?_eq_getElem (by omega)⟩
      obtain ⟨tb, off, rfl, _⟩ := h1.some_of ht
      obtain ⟨hlt, k0, k1, k2, k3, k4⟩ := h1.tok ht
      have hm : ∀ j, wr.cell? ⟨tb, j, none⟩ = w.cell? ⟨tb, j, none⟩ := fun j => HW.out.cell (p := ⟨tb, j, none⟩) hlt
      rw [← hm] at k0 k1 k2 k3 k4
      have HT : Hid (ts.take (i + 1) = ts.take i ++ [t]) := by
        show _ = _
        rw [List.take_add_one, ht]
        rfl
      have hlen : (ts.take i).length = i := by rw [List.length_take]; omega
      have HLN : Hid (_ = _) := hlen
      clear h1 h2 hm ht hlen
      obtain ⟨tk, tx, tm, ti, tp⟩ := t
      obtain ⟨y, hy⟩ : ∃ y : ByteArray, y = ⟨tx.toArray⟩ := ⟨_, rfl⟩
      simp only at k0 k1 k2 k3 k4
      rw [← hy] at k1
      have hcn : ∀ ww : World, ∀ j u, (encT.cells ⟨tk, tx, tm, ti, tp⟩)[j]? = some u → (ww.alloc (.cells #[.int .i64 tk, .string y, .int .i64 tm, .int .u64 ti, .int .i64 tp] 45)).cell? ((⟨ww.heap.size, 0, none⟩ : Addr).add j) = some u := by
        intro ww
        rw [hy]
        exact cells_new encT ww ⟨tk, tx, tm, ti, tp⟩ 45
      have HCN : Hid (∀ ww : World, _) := hcn
      clear hcn hy
      go_wp2_with fail
      go_region_held3 (fun w' => w'.cell? ⟨tb, off + i * 5, none⟩ = some (.int .i64 tk) ∧ w'.cell? ⟨tb, off + i * 5 + 1, none⟩ = some (.string y) ∧ w'.cell? ⟨tb, off + i * 5 + 2, none⟩ = some (.int .i64 tm) ∧ w'.cell? ⟨tb, off + i * 5 + 3, none⟩ = some (.int .u64 ti) ∧ w'.cell? ⟨tb, off + i * 5 + 4, none⟩ = some (.int .i64 tp)) (first | exact kS | go_keep)
        (first
          | (refine stepG_at encT 45 27 48 _ rfl info45 Tryd.underlying27 rfl (.tmp 11) (.tmp 38) rfl w.heap.size _ (ts.take i) ⟨tk, tx, tm, ti, tp⟩ (by simp [Act.eval]) (HO.out.below ((Below.refl _ wr).drew.trans (bz1 wr.drew _))) wr.heap.size (by simp [Act.eval]) (HCN.out wr.drew) (by rw [HLN.out]; omega) (by rw [HLN.out]; simp only [maxLen]; omega) (by have := HW.out.size; simp; omega) ?_; intro v3 w3 ho3 hb3 _ _; have b3 := ((Below.refl w.heap.size wr).drew.trans ((bz1 wr.drew _).mono HW.out.size)).trans hb3; have kS := And.intro ((b3.cell (p := ⟨tb, off + i * 5, none⟩) hlt).trans k0) (And.intro ((b3.cell (p := ⟨tb, off + i * 5 + 1, none⟩) hlt).trans k1) (And.intro ((b3.cell (p := ⟨tb, off + i * 5 + 2, none⟩) hlt).trans k2) (And.intro ((b3.cell (p := ⟨tb, off + i * 5 + 3, none⟩) hlt).trans k3) ((b3.cell (p := ⟨tb, off + i * 5 + 4, none⟩) hlt).trans k4))))))
      go_wp2_with fail
      go_roundg (gk - 1)
      case measure => omega
      case rel => exact ⟨i + 1, by go_num, by omega, by rw [HT.out]; exact ho3, HW.out.trans b3⟩
    · obtain rfl : i = n := by omega
      have e1 : ts.take i = ts := List.take_of_length_le (by rw [H.out.2]; exact Nat.le_refl _)
      rw [e1] at HO
      clear e1
      go_wp2_with fail
      go_ret
      exact ⟨_, rfl, HO.out, HW.out⟩

set_option maxHeartbeats 1600000 in
set_option maxRecDepth 100000 in
/-- Same of lists that are the same, but for places that are not asked for. -/
theorem same_yes {ao bo : Option Addr} {n c d : Nat} {xs ys : List Tk} (pl : Bool) (w : World) (hx : RdG encT w ao xs) (hy : RdG encT w bo ys) (hl : xs.length = n) (hk : ys.length = n) (hc : n ≤ c) (hd : n ≤ d) (hn : n ≤ 100000) (hz : xs.map Tk.z = ys.map Tk.z) (hp : pl = true → xs = ys) :
    Calls Tryd.prog 9 #[.slice ao n c, .slice bo n d, .bool pl] w fun e w' => e = .returned (.bool true) ∧ Below w.heap.size w w' := by
  have H : Hid (RdG encT w ao xs ∧ RdG encT w bo ys ∧ xs.length = n ∧ ys.length = n ∧ xs.map Tk.z = ys.map Tk.z ∧ (pl = true → xs = ys)) := ⟨hx, hy, hl, hk, hz, hp⟩
  clear hx hy hl hk hz hp
  go_enter Tryd.func9, Tryd.ntmps9
  go_wp2_with fail
  go_loopg [7] n (fun g iv u => ∃ (i : Nat), iv = .int .i64 i ∧ i + g = n ∧ Hid (Below w.heap.size w u))
  case atStart => exact ⟨0, rfl, by omega, Below.refl _ w⟩
  case round =>
    obtain ⟨i, rfl, hi, HW⟩ := hrel
    by_cases hin : i < n
    · obtain ⟨h1, h2, h3, h4, h5, h6⟩ := H.out
      have hii : (i : Int) < (n : Int) := by omega
      obtain ⟨t, ht⟩ : ∃ t, xs[i]? = some t := ⟨_, List.getElem?_eq_getElem (by omega)⟩
      obtain ⟨u, hu⟩ : ∃ u, ys[i]? = some u := ⟨_, List.getElem?_eq_getElem (by omega)⟩
      have hzz : t.z = u.z := by
        have := congrArg (fun l => l[i]?) h5
        simp only [List.getElem?_map, ht, hu, Option.map_some, Option.some.injEq] at this
        exact this
      have hpp : pl = true → t.pos = u.pos := fun q => by
        have := h6 q
        rw [this, hu] at ht
        rw [Option.some.inj ht]
      obtain ⟨tb, off, rfl, _⟩ := h1.some_of ht
      obtain ⟨ub, of2, rfl, _⟩ := h2.some_of hu
      obtain ⟨hlt, k0, k1, k2, k3, k4⟩ := h1.tok ht
      obtain ⟨hlu, l0, l1, l2, l3, l4⟩ := h2.tok hu
      have hm : ∀ j, wr.cell? ⟨tb, j, none⟩ = w.cell? ⟨tb, j, none⟩ := fun j => HW.out.cell (p := ⟨tb, j, none⟩) hlt
      have hm2 : ∀ j, wr.cell? ⟨ub, j, none⟩ = w.cell? ⟨ub, j, none⟩ := fun j => HW.out.cell (p := ⟨ub, j, none⟩) hlu
      rw [← hm] at k0 k1 k2 k3 k4
      rw [← hm2] at l0 l1 l2 l3 l4
      have hlt2 : tb < wr.heap.size := Nat.lt_of_lt_of_le hlt HW.out.size
      have hlu2 : ub < wr.heap.size := Nat.lt_of_lt_of_le hlu HW.out.size
      clear h1 h2 h3 h4 h5 h6 hm hm2 ht hu
      obtain ⟨tk, tx, tm, ti, tp⟩ := t
      obtain ⟨uk, ux, um, ui, up⟩ := u
      obtain ⟨rfl, rfl, rfl, rfl⟩ : tk = uk ∧ tx = ux ∧ tm = um ∧ ti = ui := by
        simp only [Tk.z, Tk.at, Tk.mk.injEq] at hzz
        exact ⟨hzz.1, hzz.2.1, hzz.2.2.1, hzz.2.2.2.1⟩
      obtain ⟨y, hy⟩ : ∃ y : ByteArray, y = ⟨tx.toArray⟩ := ⟨_, rfl⟩
      simp only at k0 k1 k2 k3 k4 l0 l1 l2 l3 l4 hpp
      rw [← hy] at k1 l1
      clear hzz hy
      cases pl with
      | true =>
        obtain rfl := hpp rfl
        clear hpp
        go_wp2_with fail
        go_roundg (gk - 1)
        case measure => omega
        case rel => exact ⟨i + 1, by go_num, by omega, HW.out.trans ((bz2 wr _ _).mono HW.out.size)⟩
      | false =>
        clear hpp
        go_wp2_with fail
        go_roundg (gk - 1)
        case measure => omega
        case rel => exact ⟨i + 1, by go_num, by omega, HW.out.trans ((bz2 wr _ _).mono HW.out.size)⟩
    · obtain rfl : i = n := by omega
      go_wp2_with fail
      go_ret
      exact ⟨rfl, HW.out⟩

end Go.Proofs.YtjeklplgjobeeaaDoor
