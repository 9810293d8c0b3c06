/-
  strings.Clone and disk.Names, each by a contract: the same text; all names, rising, in a new row. No condition but that a text is no longer than any text can be.
-/
import Derived.Test.YtlhlipjbcapidaaShelf
import Derived.Test.YtlhlipjbcapidaaLib
namespace Go.Proofs.Ytlhlipjbcapidaa
open Go.RowKit Go.Maps Go.Sort Go.Shelf

set_option maxHeartbeats 400000 in
/-- strings.Clone. -/
theorem sclone_any (s : ByteArray) (w : World) (hlim : s.size ≤ 281474976710656) :
    Calls Try.prog 52 #[.string s] w fun e w' => e = .returned (.string s) ∧ Below w.heap.size w w' := by
  have hc : Calls Try.prog 58 #[.string s] w fun e w' => e = .returned (.string s) ∧ Below w.heap.size w w' := Any.stringslite_Clone laySClone s w hlim
  go_enter Try.func52, Try.ntmps52
  go_wp2_with fail
  refine hc.mono ?_
  rintro e w1 ⟨rfl, B1⟩
  go_wp2
  go_ret
  exact ⟨rfl, B1⟩

theorem sorts_in (m : Nat) : AnyZ.SortsIn Try.prog laySorted_ren Fence.wide m :=
  ⟨fun blk off cap ss W hH hblk hsz => callsIn_wide.2 (Any.slices_Sort_string laySort blk off cap ss W hH hblk hsz),
   fun p cap W => callsIn_wide.2 (Any.slices_Sort_string_none laySort p cap W)⟩

set_option maxHeartbeats 1000000 in
theorem keys_sorted (b m nn : Nat) (D0 : DataW Value) (w : World) (c0 : w.cell? ⟨b, 0, none⟩ = some (.map (some m))) (hown : w.ownsMap Try.prog 9 heldR m nn D0) (hmax : Maps.size D0 ≤ 1000000) :
    Calls Try.prog 22 #[.pointer (some ⟨b, 0, none⟩)] w fun e w' => ∃ (v : Value) (ss : List (List UInt8)), e = .returned v ∧ ss.Perm (strKeys D0) ∧
      w'.ownsRow w.heap.size 9 1 v ss.length ((ss.mergeSort (fun x y => decide (x ≤ y))).map encStr) ∧ Below w.heap.size w w' := by
  refine (callsIn_wide (n := 6)).1 ?_
  have hbl := hown.lt
  have hseq : SeqGives Fence.wide 2 Try.prog 56 #[.pointer (some ⟨w.heap.size, 0, none⟩)] encStr (fun ss => ss.Perm (strKeys D0)) (Maps.size D0) (w.alloc (.cells #[.map (some m)] 54)) :=
    AnyZ.keys_gives (ρ := layKeys_ren) { layKeys with } Fence.wide _ trivial rfl (by omega) w.heap.size m nn D0 _ (by simp) (by simp) (by
      obtain ⟨es, clock, hb, Ft, hs, hD⟩ := hown
      exact ⟨es, clock, (Below.heap_alloc _ _ m hbl).trans hb, Ft, hs, hD⟩)
  have cK : ∀ mb W, CallsIn Fence.wide 5 Try.prog 42 #[.map mb] W fun e w' => e = .returned (.func (.func 56) #[] #[.pointer (some ⟨W.heap.size, 0, none⟩)]) ∧ w' = W.alloc (.cells #[.map mb] 54) := fun mb W => AnyZ.keys_in layKeys Fence.wide 5 trivial rfl mb W
  have cS := AnyZ.sorted_in laySorted Fence.wide 5 trivial trivial trivial trivial rfl (by omega) (sorts_in _) (enters_of Try.func55 (by kernel_rfl) rfl) 56 #[.pointer (some ⟨w.heap.size, 0, none⟩)] trivial (enters_of Try.func56 (by kernel_rfl) rfl) _ _ (by simp only [maxLen]; omega) (by omega) _ hseq
  change CallsIn _ _ Try.prog 41 _ _ _ at cS
  have hfK : Fence.wide.fn 42 := trivial
  have hfS : Fence.wide.fn 41 := trivial
  refine callsIn_of_wp Try.func22 rfl trivial ?_ rfl
  simp only [Try.ntmps22, List.size_toArray, List.length_cons, List.length_nil, Nat.reduceAdd, Nat.reduceSub, Array.replicate_succ, Array.replicate_zero, List.push_toArray, List.append_toArray, List.nil_append, List.cons_append]
  gi_wp2_with (first
    | (gi_at_call 42; refine (cK _ _).mono ?_; rintro e w' ⟨rfl, rfl⟩)
    | (gi_at_call 41; refine cS.mono ?_; rintro e w' ⟨v, ss, rfl, hS, hrow, hnil, hb⟩))
  go_ret
  exact ⟨v, ss, rfl, hS, own_base hrow (by simp), ((Below.refl _ w).alloc (Nat.le_refl _) _).trans (hb.mono (by simp))⟩

/-- Names in rising order. -/
theorem names_sorted {F : Fs} (h : FRise F) {ss : List Bs} (hp : ss.Perm (F.map (·.1))) : ss.mergeSort (fun x y => decide (x ≤ y)) = F.map (·.1) := by
  have e1 := mergeSort_of_perm hp
  rw [e1]
  refine List.mergeSort_of_pairwise ?_
  refine List.pairwise_map.2 (h.imp (fun {a b} hab => ?_))
  simpa using List.le_of_lt hab

theorem names_nodup {F : Fs} (h : FRise F) : (F.map (·.1)).Nodup := by
  refine List.pairwise_map.2 (h.imp (fun {a b} hab e => ?_))
  rw [e] at hab
  exact fs_irrefl _ hab

theorem names_mem {F : Fs} {x : Bs} : x ∈ F.map (·.1) ↔ (fget F x).isSome = true := by
  cases e : fget F x with
  | none =>
    have := fget_none.1 e
    constructor
    · intro h
      obtain ⟨f, hf, rfl⟩ := List.mem_map.1 h
      exact absurd rfl (this f hf)
    · intro h; cases h
  | some v => exact ⟨fun _ => rfl, fun _ => List.mem_map.2 ⟨(x, v), fget_mem e, rfl⟩⟩

/-- disk.Names. -/
theorem names_at {S : Nat → Prop} {w : World} {b : Nat} {d : Dk} (h : DiskAt w b d S) (hr : FRise d.files) (hl : d.files.length ≤ 32) :
    Calls Try.prog 22 #[.pointer (some ⟨b, 0, none⟩)] w fun e w' => ∃ v, e = .returned v ∧ Own w' w.heap.size v (d.files.map (·.1)) ∧ Below w.heap.size w w' := by
  obtain ⟨m, f, a, k, h⟩ := h
  obtain ⟨D, ho, hsz, hh, ha⟩ := h.files.map
  refine (keys_sorted b m _ D w h.cell.1 ho (by omega)).mono ?_
  rintro e w' ⟨v, ss, rfl, hp, hrow, hb⟩
  refine ⟨v, rfl, ?_, hb⟩
  have hnd : (strKeys D).Perm (d.files.map (·.1)) := by
    obtain ⟨es, hD, hpw, _⟩ := ho.entries keyedS
    obtain ⟨es', hD', hko⟩ := ho.keysOf
    obtain rfl : es = es' := by rw [hD] at hD'; simpa using hD'
    subst hD
    refine (perm_strKeys hpw (fun p hp => by obtain ⟨v, hv⟩ := hko p hp; obtain ⟨x, _, hx, _⟩ := Maps.keyOf_str Try.underlying9 hv; exact ⟨x, hx⟩) (names_nodup hr) (fun x => ?_)).symm
    rw [hh x, h.some_iff x, names_mem]
  rw [names_sorted hr (hp.trans hnd)] at hrow
  have : ss.length = (d.files.map (·.1)).length := (hp.trans hnd).length_eq
  unfold Own
  rw [← this]
  exact hrow

end Go.Proofs.Ytlhlipjbcapidaa
