/-
  text.Lines, text.Join and the reference's Lines, each by a contract. A text is shorter than 2^31 bytes; what is joined is no longer than any text can be.
-/
import Derived.Test.YtnodkpnbfklmhaaDoorShelf
import Derived.Test.YtnodkpnbfklmhaaDoorLines
import Derived.Test.YtnodkpnbfklmhaaDoorPSame
import Derived.Lib.IndexBytes
namespace Go.Proofs.YtnodkpnbfklmhaaDoor
open Go.RowKit

theorem info9' : (Tryd.prog.info? (layGenSplit_ren.t 9)).map (fun i => (i.zero, i.size, i.bytes)) = some (some (.string ByteArray.empty), 1, 16) := by kernel_rfl

theorem gen_split (s : ByteArray) (hs : s.size < 4294967281) (w : World) :
    Calls Tryd.prog 25 #[.string s, .string ⟨#[10]⟩, .int .i64 1, .int .i64 (-1)] w fun e w' =>
      e = .returned (.slice (some ⟨w.heap.size, 0, none⟩) (Lib.countB s ⟨#[10]⟩ + 1) (Lib.countB s ⟨#[10]⟩ + 1)) ∧ w' = w.alloc (.cells ((Lib.splitB ⟨#[10]⟩ 1 (Lib.countB s ⟨#[10]⟩) s).map Value.string).toArray 9) := by
  have hle := Lib.countB_le ⟨#[10]⟩ (by decide) s.size s (Nat.le_refl _)
  have hlen := Lib.splitB_all ⟨#[10]⟩ (by decide) 1 _ s rfl
  have c := Any.strings_genSplit_core layGenSplit info9' s ⟨#[10]⟩ 1 (-1) (Lib.countB s ⟨#[10]⟩ + 1) w hs (by decide) (by decide)
    (fun x c hx => (Any.strings_Index_one { layGenSplit with } x 10 _).mono fun e w' ⟨he, hw⟩ => ⟨by rw [he]; show _ = Ending.returned (.int .i64 (Lib.index x.data.toList [10])); rw [Lib.index_one], hw⟩)
    ((Any.strings_Count_one { layGenSplit with } s 10 w).mono fun e w' ⟨he, hw⟩ => ⟨by rw [he]; show _ = Ending.returned (Value.int .i64 ((Lib.count s.data.toList [10] : Nat) : Int)); rw [Lib.count_one]; rfl, hw⟩)
    (by decide) (by decide) (by rw [if_pos (by decide)]; omega)
  rw [Nat.add_sub_cancel, hlen] at c
  have e2 : Lib.cellsOf (Lib.splitB ⟨#[10]⟩ 1 (Lib.countB s ⟨#[10]⟩) s) (Lib.countB s ⟨#[10]⟩ + 1) = ((Lib.splitB ⟨#[10]⟩ 1 (Lib.countB s ⟨#[10]⟩) s).map Value.string).toArray := by rw [← hlen]; exact Lib.cellsOf_full _
  rw [e2] at c
  exact c

set_option maxHeartbeats 800000 in
theorem split_after (s : ByteArray) (hs : s.size < 4294967281) (w : World) (m : Nat) (pcs : List ByteArray) (hm : Lib.countB s ⟨#[10]⟩ = m) (hp : Lib.splitB ⟨#[10]⟩ 1 (Lib.countB s ⟨#[10]⟩) s = pcs) :
    Calls Tryd.prog 17 #[.string s, .string ⟨#[10]⟩] w fun e w' =>
      e = .returned (.slice (some ⟨w.heap.size, 0, none⟩) (m + 1) (m + 1)) ∧ w' = w.alloc (.cells (pcs.map Value.string).toArray 9) := by
  have c := gen_split s hs w
  rw [hp, hm] at c
  clear hp hm
  go_enter Tryd.func17, Tryd.ntmps17
  go_wp2_with fail
  refine c.mono ?_
  rintro e w' ⟨rfl, rfl⟩
  go_wp2
  go_ret
  exact ⟨rfl, rfl⟩

/-- The first of the pieces, in memory. -/
theorem rd_pieces (w : World) (pcs : List ByteArray) (t : TypeId) (n : Nat) : Rd (w.alloc (.cells (pcs.map Value.string).toArray t)) (some ⟨w.heap.size, 0, none⟩) ((pcs.map (·.data.toList)).take n) := by
  intro h0
  refine ⟨w.heap.size, 0, rfl, by simp, fun i hi => ?_⟩
  have h1 : i < n := by simp at hi; omega
  have h2 : i < pcs.length := by simp at hi; omega
  rw [Nat.zero_add, World.cell?_alloc_new]
  simp [el, h2, h1]

set_option maxHeartbeats 1600000 in
set_option maxRecDepth 100000 in
/-- text.Lines. -/
theorem lines_any (s : ByteArray) (hs : s.size < 4294967281) (w : World) :
    Calls Tryd.prog 10 #[.string s] w fun e w' => ∃ n c : Nat, e = .returned (.slice (some ⟨w.heap.size, 0, none⟩) n c) ∧ (lines s.data.toList).length = n ∧ n ≤ c ∧ c ≤ 4294967281 ∧ Rd w' (some ⟨w.heap.size, 0, none⟩) (lines s.data.toList) ∧ Below w.heap.size w w' := by
  have hle := Lib.countB_le ⟨#[10]⟩ (by decide) s.size s (Nat.le_refl _)
  have hlen := Lib.splitB_all ⟨#[10]⟩ (by decide) 1 _ s rfl
  have hdat : (Lib.splitB ⟨#[10]⟩ 1 (Lib.countB s ⟨#[10]⟩) s).map (·.data.toList) = pieces s.data.toList := by
    rw [Lib.splitB_data]
    exact split_pieces s.data.toList
  obtain ⟨m, hm⟩ : ∃ m, Lib.countB s ⟨#[10]⟩ = m := ⟨_, rfl⟩
  obtain ⟨pcs, hp⟩ : ∃ pcs, Lib.splitB ⟨#[10]⟩ 1 (Lib.countB s ⟨#[10]⟩) s = pcs := ⟨_, rfl⟩
  have hcall := split_after s hs w m pcs hm hp
  rw [hp] at hlen hdat
  rw [hm] at hlen hle
  clear hm hp
  have hx : pcs[m]? = some pcs[m] := List.getElem?_eq_getElem (by omega)
  obtain ⟨x, hxe⟩ : ∃ x, pcs[m]? = some x := ⟨_, hx⟩
  clear hx
  have hlast : (pieces s.data.toList).getLast? = some x.data.toList := by
    rw [← hdat, List.getLast?_eq_getElem?, List.length_map, hlen, List.getElem?_map, Nat.add_sub_cancel, hxe]
    rfl
  have hcell : (w.alloc (.cells (pcs.map Value.string).toArray 9)).cell? ⟨w.heap.size, m, none⟩ = some (.string x) := by
    rw [World.cell?_alloc_new]
    simp [hxe]
  have hplen : (pieces s.data.toList).length = m + 1 := by rw [← hdat, List.length_map, hlen]
  have D : Hid (pcs.map (·.data.toList) = pieces s.data.toList ∧ pcs.length = m + 1 ∧ (pieces s.data.toList).getLast? = some x.data.toList ∧ (pieces s.data.toList).length = m + 1) := ⟨hdat, hlen, hlast, hplen⟩
  clear hdat hlen hlast hplen hxe
  by_cases h0 : x = ⟨#[]⟩
  · subst h0
    have hl : lines s.data.toList = (pieces s.data.toList).take m := by
      unfold lines
      rw [if_pos D.out.2.2.1, List.dropLast_eq_take, D.out.2.2.2]
      rfl
    have L : Hid (lines s.data.toList = (pieces s.data.toList).take m) := hl
    clear hl
    go_enter Tryd.func10, Tryd.ntmps10
    go_wp2_with (go_at_call 17; refine hcall.mono ?_; rintro e w' ⟨rfl, rfl⟩)
    go_ret
    refine ⟨m, m + 1, rfl, ?_, by omega, by omega, ?_, (Below.refl _ w).alloc (Nat.le_refl _) _⟩
    · rw [L.out, List.length_take, D.out.2.2.2]; omega
    · rw [L.out, ← D.out.1]; exact rd_pieces w pcs 9 m
  · have h0' : x.toList.isEmpty = false := by
      rw [Lib.toList_data]
      cases hd : x.data.toList with
      | nil => exact absurd (by cases x with | mk d => simp at hd; simp [hd]) h0
      | cons _ _ => rfl
    have hl : lines s.data.toList = (pieces s.data.toList).take (m + 1) := by
      unfold lines
      rw [if_neg (by rw [D.out.2.2.1]; intro e; apply h0; have := Option.some.inj e; cases x with | mk d => simp at this; simp [this]), List.take_of_length_le (by rw [D.out.2.2.2]; omega)]
    have L : Hid (lines s.data.toList = (pieces s.data.toList).take (m + 1)) := hl
    clear hl
    go_enter Tryd.func10, Tryd.ntmps10
    go_wp2_with (go_at_call 17; refine hcall.mono ?_; rintro e w' ⟨rfl, rfl⟩)
    go_ret
    refine ⟨m + 1, m + 1, rfl, ?_, by omega, by omega, ?_, (Below.refl _ w).alloc (Nat.le_refl _) _⟩
    · rw [L.out, List.length_take, D.out.2.2.2]; omega
    · rw [L.out, ← D.out.1]; exact rd_pieces w pcs 9 (m + 1)

theorem join_flat : ∀ xs : List Bs, Lib.join xs [] = xs.flatten
  | [] => rfl
  | [x] => by rw [Lib.join_one]; simp
  | x :: y :: t => by
    have := join_flat (y :: t)
    unfold Lib.join at this ⊢
    rw [List.intercalate_cons_cons, this]
    simp

set_option maxHeartbeats 800000 in
/-- text.Join. -/
theorem join_any {ao : Option Addr} {c n : Nat} {xs : List Bs} (w : World) (ha : Rd w ao xs) (hl : xs.length = n) (hn : n ≤ c) (hbig : n ≤ 140737488355328) (x : ByteArray) (hx : xs.flatten = x.data.toList) (hlen : xs.flatten.length ≤ 140737488355328) :
    Calls Tryd.prog 12 #[.slice ao n c] w fun e w' => e = .returned (.string x) ∧ Below w.heap.size w w' := by
  have key : Calls Tryd.prog 18 #[.slice ao n c, .string ⟨#[]⟩] w fun e w' => e = .returned (.string x) ∧ Below w.heap.size w w' := by
    by_cases h0 : 0 < xs.length
    · obtain ⟨b, off, rfl, hlt, hc⟩ := ha h0
      have h := Any.strings_Join layJoin layExtra b off c (xs.map (fun l => (⟨l.toArray⟩ : ByteArray))) ⟨#[]⟩ w (by
        intro j y hy
        rw [List.getElem?_map] at hy
        rcases Nat.lt_or_ge j xs.length with q | q
        · rw [List.getElem?_eq_getElem q] at hy
          rw [hc j q, el_get q]
          simp at hy
          rw [← hy]
        · rw [List.getElem?_eq_none q] at hy; cases hy) hlt (by simp; omega) (by simp; omega) (by
        rw [List.map_map]
        show (Lib.join (xs.map (fun l => l.toArray.toList)) []).length ≤ _
        simp only [List.map_id']
        rw [join_flat]; exact hlen)
      rw [List.length_map, hl] at h
      refine h.mono fun e w' ⟨he, hw⟩ => ⟨?_, hw⟩
      rw [he, List.map_map]
      show Ending.returned (Value.string ⟨(Lib.join (xs.map (fun l => l.toArray.toList)) []).toArray⟩) = _
      simp only [List.map_id']
      rw [join_flat, hx]
    · obtain rfl : xs = [] := List.eq_nil_of_length_eq_zero (by omega)
      obtain rfl : n = 0 := hl.symm
      refine (Any.strings_Join_none layJoin layExtra ao c ⟨#[]⟩ w).mono fun e w' ⟨he, hw⟩ => ⟨?_, hw ▸ Below.refl _ _⟩
      rw [he]
      cases x with
      | mk d => simp at hx; simp [← hx]
  clear ha hl hx hlen
  go_enter Tryd.func12, Tryd.ntmps12
  go_wp2_with fail
  refine key.mono ?_
  rintro e w' ⟨rfl, hb⟩
  go_wp2
  go_ret
  exact ⟨rfl, hb⟩

end Go.Proofs.YtnodkpnbfklmhaaDoor
