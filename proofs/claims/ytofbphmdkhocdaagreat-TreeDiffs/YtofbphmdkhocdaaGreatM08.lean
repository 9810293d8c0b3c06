/-
  Several texts, laid together.
-/
import Derived.Test.YtofbphmdkhocdaaGreatM06
import Derived.Test.YtofbphmdkhocdaaGreatM07

/-
  Entries and numbers in memory; slices.ContainsFunc and slices.Contains as the program calls them; fitsBehind, by a contract. No condition but that the lists are shorter than any list can be.
-/
namespace Go.Proofs.YtofbphmdkhocdaaGreat
open Go.RowKit

/-- Entries. -/
def encE : Enc En := ⟨fun e => [tx e.1, .int .u64 (e.2.toNat : Int)], 2, fun _ => rfl, by decide, by intro x u h; simp at h; rcases h with rfl | rfl <;> rfl⟩

theorem Tryz.info52 : (Tryz.prog.info? 52).map (fun i => (i.zero, i.size, i.bytes)) = some (some (.agg #[.string ⟨#[]⟩, .int .u64 0]), 2, 24) := by kernel_rfl
theorem Tryz.info75 : (Tryz.prog.info? 75).map (fun i => (i.zero, i.size, i.bytes)) = some (some (.agg #[.string ⟨#[]⟩, .int .u64 0]), 2, 24) := by kernel_rfl

theorem Tryz.info50 : (Tryz.prog.info? 50).map (fun i => (i.zero, i.size, i.bytes)) = some (some (.int .u64 0), 1, 8) := by kernel_rfl
theorem Tryz.info49 : (Tryz.prog.info? 49).map (fun i => (i.zero, i.size, i.bytes)) = some (some (.int .u64 0), 1, 8) := by kernel_rfl

theorem RdG.ents {w : World} {b off : Nat} {es : List En} (h : RdG encE w (some ⟨b, off, none⟩) es) {i : Nat} {e : En} (hx : es[i]? = some e) : b < w.heap.size ∧ w.cell? ⟨b, off + i * 2, none⟩ = some (tx e.1) ∧ w.cell? ⟨b, off + i * 2 + 1, none⟩ = some (.int .u64 (e.2.toNat : Int)) := by
  obtain ⟨b', off', e', hlt, hc⟩ := h (by rcases Nat.lt_or_ge i es.length with q | q
                                          · omega
                                          · rw [List.getElem?_eq_none q] at hx; cases hx)
  obtain ⟨rfl, rfl⟩ : b = b' ∧ off = off' := by simpa using e'
  have h0 := hc i e hx 0 _ rfl
  have h1 := hc i e hx 1 _ rfl
  exact ⟨hlt, by simpa [encE] using h0, by simpa [encE, Nat.add_assoc] using h1⟩

set_option maxHeartbeats 800000 in
set_option maxRecDepth 100000 in
theorem ounder_lit (p : Bs) (B : Nat) (d : Bs) (z : Int) (w : World) (hc : w.cell? ⟨B, 0, none⟩ = some (tx p)) (f : Bool) (hf : under p d = f) :
    Calls Tryz.prog 104 #[.agg #[tx d, .int .u64 z], .pointer (some ⟨B, 0, none⟩)] w fun e w' => e = .returned (.bool f) ∧ Below w.heap.size w w' := by
  have hb : B < w.heap.size := World.block_lt_of_cell? w _ hc
  have h := under_any ⟨p.toArray⟩ ⟨d.toArray⟩ (w.alloc (.cells #[tx d, .int .u64 z] 52))
  change Calls Tryz.prog 54 #[.string ⟨p.toArray⟩, .string ⟨d.toArray⟩] _ fun e w' => e = .returned (.bool (under p d)) ∧ w' = _ at h
  rw [hf] at h
  have ne : B ≠ w.heap.size := by omega
  clear hf
  go_enter Tryz.func104, Tryz.ntmps104
  go_wp2_with fail
  refine h.mono ?_
  rintro e w' ⟨rfl, rfl⟩
  go_wp2
  go_ret
  exact ⟨rfl, bz1 _ _⟩

theorem oenters43 : ∀ args w, (callFunc 104 args).run Tryz.prog w = .ok (.enter 104 args) w := enters_of Tryz.func104 (by kernel_rfl) rfl

set_option maxHeartbeats 1600000 in
set_option maxRecDepth 100000 in
/-- slices.IndexFunc as fitsBehind calls it. -/
theorem idx_ent {ao : Option Addr} {c n B : Nat} {es : List En} (p : Bs) (w : World) (hB : w.cell? ⟨B, 0, none⟩ = some (tx p)) (ha : RdG encE w ao es) (hl : es.length = n) (hn : n ≤ 4000000000000000000) :
    Calls Tryz.prog 59 #[.slice ao n c, .func (.func 104) #[] #[.pointer (some ⟨B, 0, none⟩)]] w fun e w' => ∃ r : Int, e = .returned (.int .i64 r) ∧ decide (0 ≤ r) = es.any (fun e => under p e.1) ∧ Below w.heap.size w w' := by
  have H : Hid (RdG encE w ao es ∧ es.length = n ∧ w.cell? ⟨B, 0, none⟩ = some (tx p) ∧ B < w.heap.size) := ⟨ha, hl, hB, World.block_lt_of_cell? w _ hB⟩
  clear ha hl hB
  have eg := oenters43
  go_enter Tryz.func59, Tryz.ntmps59
  go_wp2_with fail
  go_loopg [5, 8] n (fun k _ v wr => ∃ (i : Nat), v = .int .i64 i ∧ i + k = n ∧ Hid ((es.take i).any (fun e => under p e.1) = false) ∧ Hid (Below w.heap.size w wr))
  case atStart => exact ⟨0, rfl, by omega, rfl, Below.refl _ _⟩
  case round =>
    obtain ⟨i, rfl, hi, HT, hb⟩ := hrel
    by_cases hin : i < n
    · have id : (i : Int) < (n : Int) := by omega
      obtain ⟨e, he⟩ := get_some H.out.2.1 hin
      obtain ⟨b, off, rfl, hlt⟩ := H.out.1.some_of he
      obtain ⟨_, c0, c1⟩ := (H.out.1.below hb.out).ents he
      obtain ⟨d, z⟩ := e
      obtain ⟨zi, hz⟩ : ∃ zi, (z.toNat : Int) = zi := ⟨_, rfl⟩
      simp only at c0 c1
      rw [hz] at c1
      have hcB : wr.cell? ⟨B, 0, none⟩ = some (tx p) := (hb.out.cell H.out.2.2.2).trans H.out.2.2.1
      have HE : Hid (es[i]? = some (d, z)) := he
      clear he hz
      cases hxy : under p d with
      | true =>
        have hcall := ounder_lit p B d zi wr hcB true hxy
        clear hcB
        go_wp2_with (go_at_fn 104; refine hcall.mono ?_; rintro e w' ⟨rfl, hb'⟩)
        go_ret
        exact ⟨i, rfl, by rw [anyE_hit (p := fun e => under p e.1) HE.out hxy]; simp, hb.out.trans (hb'.mono hb.out.size)⟩
      | false =>
        have hcall := ounder_lit p B d zi wr hcB false hxy
        clear hcB
        go_wp2_with (go_at_fn 104; refine hcall.mono ?_; rintro e w' ⟨rfl, hb'⟩)
        go_roundg (gk - 1)
        case measure => omega
        case rel => exact ⟨i + 1, by go_num, by omega, anyE_step (es := es) (p := fun e : En => under p e.1) HE.out HT.out hxy, hb.out.trans (hb'.mono hb.out.size)⟩
    · obtain rfl : i = n := by omega
      go_wp2
      go_ret
      refine ⟨-1, rfl, ?_, hb.out⟩
      have e := HT.out
      rw [List.take_of_length_le (by rw [H.out.2.1]; omega)] at e
      rw [e]
      rfl

set_option maxHeartbeats 800000 in
set_option maxRecDepth 100000 in
theorem contains_ent {ao : Option Addr} {c n B : Nat} {es : List En} (p : Bs) (w : World) (hB : w.cell? ⟨B, 0, none⟩ = some (tx p)) (ha : RdG encE w ao es) (hl : es.length = n) (hn : n ≤ 4000000000000000000) (f : Bool) (hf : es.any (fun e => under p e.1) = f) :
    Calls Tryz.prog 103 #[.slice ao n c, .func (.func 104) #[] #[.pointer (some ⟨B, 0, none⟩)]] w fun e w' => e = .returned (.bool f) ∧ Below w.heap.size w w' := by
  have h := idx_ent (c := c) p w hB ha hl hn
  rw [hf] at h
  clear hB ha hl hf
  go_enter Tryz.func103, Tryz.ntmps103
  go_wp2_with fail
  refine h.mono ?_
  rintro e w' ⟨r, rfl, hr, hb⟩
  have R : Hid (decide (0 ≤ r) = f) := hr
  clear hr
  go_wp2
  go_ret
  exact ⟨by rw [← R.out]; rfl, hb⟩

set_option maxHeartbeats 1600000 in
set_option maxRecDepth 100000 in
theorem fits_none {ao : Option Addr} {c : Nat} (p : Bs) (w : World) :
    Calls Tryz.prog 85 #[tx p, .slice ao 0 c] w fun e w' => e = .returned (.bool true) ∧ Below w.heap.size w w' := by
  have hc : ∀ m, _ := fun m => contains_ent (ao := ao) (c := c) (n := 0) (B := w.heap.size) (es := []) p ((w.alloc (.cells #[tx p] 9)).drewN m) (((bdrewN _ m).cell (by simp)).trans (by simp)) (RdG.nil _ _ _) rfl (by omega) false rfl
  go_enter Tryz.func85, Tryz.ntmps85
  go_wp2_with fail
  go_quiet (fail)
  go_wp2_with fail
  refine (hc _).mono ?_
  rintro e w' ⟨rfl, hb⟩
  go_wp2
  go_ret
  exact ⟨rfl, ((bz1 w _).trans ((bdrewN _ _).mono (bz1 w _).size)).trans (hb.mono (bz1 w _).size)⟩

set_option maxHeartbeats 1600000 in
set_option maxRecDepth 100000 in
theorem fits_some {ao : Option Addr} {c m : Nat} {es : List En} (p : Bs) (w : World) (ha : RdG encE w ao es) (hl : es.length = m + 1) (hn : m + 1 ≤ 4000000000000000000) :
    Calls Tryz.prog 85 #[tx p, .slice ao (m + 1) c] w fun e w' => e = .returned (.bool (fits p es)) ∧ Below w.heap.size w w' := by
  obtain ⟨e, he⟩ := get_some hl (Nat.lt_succ_self m)
  obtain ⟨b, off, rfl, hlt⟩ := ha.some_of he
  obtain ⟨W, hW⟩ : ∃ W, w.alloc (.cells #[tx p] 9) = W := ⟨_, rfl⟩
  have bW : Below w.heap.size w W := by rw [← hW]; exact bz1 _ _
  have cW : W.cell? ⟨w.heap.size, 0, none⟩ = some (tx p) := by rw [← hW]; simp
  have sW : W.heap.size = w.heap.size + 1 := by rw [← hW]; simp
  obtain ⟨hbW, c0, _⟩ := (ha.below bW).ents he
  obtain ⟨d, z⟩ := e
  simp only at c0
  have hf : fits p es = (decide (d < p) && !(es.any fun e => under p e.1)) := by
    unfold fits
    have : es.getLast? = some (d, z) := by rw [List.getLast?_eq_getElem?, hl]; exact he
    rw [this]
  obtain ⟨f, hff⟩ : ∃ f, (es.any fun e => under p e.1) = f := ⟨_, rfl⟩
  rw [hff] at hf
  have hc : ∀ k, _ := fun k => contains_ent (ao := some ⟨b, off, none⟩) (c := c) (n := m + 1) (B := w.heap.size) p (W.drewN k) (((bdrewN _ k).cell (by rw [sW]; exact Nat.lt_succ_self _)).trans cW) ((ha.below bW).below (bdrewN _ k)) hl hn f hff
  have H : Hid (Below w.heap.size w W ∧ W.heap.size = w.heap.size + 1) := ⟨bW, sW⟩
  have hdp := less_eq d p
  clear bW sW ha he hff hl
  by_cases hlt : d < p
  · have q1 : Op.bytesLess p d = false := by rw [less_eq, decide_eq_false_iff_not]; exact List.lt_asymm hlt
    have q2 : (p == d) = false := by rw [beq_eq_false_iff_ne]; rintro rfl; exact List.lt_irrefl _ hlt
    rw [hf, decide_eq_true hlt, Bool.true_and]
    clear hf hdp hlt
    go_enter Tryz.func85, Tryz.ntmps85
    go_wp2_with fail
    go_quiet (fail)
    go_wp2_with fail
    refine (hc _).mono ?_
    rintro e w' ⟨rfl, hb⟩
    go_wp2
    go_ret
    exact ⟨rfl, (H.out.1.trans ((bdrewN _ _).mono H.out.1.size)).trans (hb.mono H.out.1.size)⟩
  · rw [hf, decide_eq_false hlt, Bool.false_and]
    clear hc hf hdp
    by_cases hq : p = d
    · subst hq
      clear hlt
      go_enter Tryz.func85, Tryz.ntmps85
      go_wp2_with fail
      go_quiet (fail)
      go_wp2
      go_ret
      exact ⟨rfl, H.out.1.trans ((bdrewN _ _).mono H.out.1.size)⟩
    · have q1 : Op.bytesLess p d = true := by
        rw [less_eq, decide_eq_true_iff]
        by_cases k : p < d
        · exact k
        · exact absurd (List.le_antisymm hlt k) hq
      clear hlt hq
      go_enter Tryz.func85, Tryz.ntmps85
      go_wp2_with fail
      go_quiet (fail)
      go_wp2
      go_ret
      exact ⟨rfl, H.out.1.trans ((bdrewN _ _).mono H.out.1.size)⟩

/-- fitsBehind. -/
theorem fits_any {ao : Option Addr} {c n : Nat} {es : List En} (p : Bs) (w : World) (ha : RdG encE w ao es) (hl : es.length = n) (hn : n ≤ 4000000000000000000) (f : Bool) (hf : fits p es = f) :
    Calls Tryz.prog 85 #[tx p, .slice ao n c] w fun e w' => e = .returned (.bool f) ∧ Below w.heap.size w w' := by
  subst hf
  cases n with
  | zero =>
    obtain rfl : es = [] := List.eq_nil_of_length_eq_zero hl
    exact fits_none p w
  | succ m => exact fits_some p w ha hl hn

end Go.Proofs.YtofbphmdkhocdaaGreat

/-
  The reader of bytes (object.reader): take, number, count, text, each by a contract over what is left of the bytes. No condition.
-/
namespace Go.Proofs.YtofbphmdkhocdaaGreat
open Go.RowKit

end Go.Proofs.YtofbphmdkhocdaaGreat
