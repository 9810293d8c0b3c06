/-
  The law ObjectFinds, walked: of any entries and any text it returns true, and what was there is as it was. No condition but that what is handed in is no longer than any memory holds.
-/
import Derived.Test.YtadjcmekpcimjaaAwake
import Derived.Test.YtadjcmekpcimjaaRTree
namespace Go.Proofs.Ytadjcmekpcimjaa
open Go.RowKit

/-- In a tree each path is found. -/
theorem find_in {es : List En} (h : Tr es) {i : Nat} {e : En} (he : es[i]? = some e) : ffind es e.1 = some e.2 := by
  refine find_at (i := i) ?_ he rfl
  rw [List.any_eq_false]
  intro x hx
  obtain ⟨k, hk⟩ := List.getElem?_of_mem hx
  rw [List.getElem?_take] at hk
  split at hk
  · rename_i q
    obtain ⟨h1, e1⟩ := List.getElem?_eq_some_iff.1 hk
    obtain ⟨h2, e2⟩ := List.getElem?_eq_some_iff.1 he
    have := List.pairwise_iff_getElem.1 h k i h1 h2 q
    rw [e1, e2] at this
    simp only [beq_iff_eq]
    intro q'
    have h3 := this.1
    rw [q'] at h3
    exact List.lt_irrefl _ h3
  · cases hk

set_option maxHeartbeats 6400000 in
set_option maxRecDepth 100000 in
theorem finds_walk (ea : Option Addr) (n c : Nat) (es : List En) (p : Bs) (W : World) (hr : RdG encE W ea es) (hl : es.length = n) (hf : Fine es) (hc : n ≤ c) (hn : n * 24 ≤ 140737488355328) :
    Calls Try.prog 6 #[.slice ea n c, tx p] W fun e w' => e = .returned (.bool true) ∧ Below W.heap.size W w' := by
  obtain ⟨o, ho⟩ : ∃ o, ffind es p = o := ⟨_, rfl⟩
  have H : Hid (RdG encE W ea es ∧ es.length = n ∧ Fine es ∧ n ≤ c ∧ ffind es p = o) := ⟨hr, hl, hf, hc, ho⟩
  clear hr hl hf hc ho
  go_enter Try.func6, Try.ntmps6
  go_wp2_with fail
  refine (awake_walk W).mono ?_
  rintro e w0 ⟨rfl, B0⟩
  have HB : Hid (Below W.heap.size W w0) := B0
  clear B0
  have h1 := find_any (c := c) p w0 (H.out.1.below HB.out) H.out.2.1 (by omega) o H.out.2.2.2.2
  go_wp2_with fail
  refine h1.mono ?_
  rintro e w1 ⟨rfl, B1⟩
  have H1 : Hid (Below W.heap.size W w1) := HB.out.trans (B1.mono HB.out.size)
  clear B1 h1
  have h2 := entries_any (c := c) w1 (H.out.1.below H1.out) H.out.2.1 hn
  go_wp2_with fail
  refine h2.mono ?_
  rintro e w2 ⟨v2, rfl, J2⟩
  obtain ⟨a2, c2, rfl, _, _, r2, _⟩ := OwnG.form J2.out.1
  rw [H.out.2.1]
  have H2 : Hid (Below W.heap.size W w2) := H1.out.trans (J2.out.2.mono H1.out.size)
  have h3 := rfind_any (c := c2) p w2 r2 H.out.2.1 (by omega) o H.out.2.2.2.2
  clear h2 J2 r2
  go_wp2_with fail
  refine h3.mono ?_
  rintro e w3 ⟨rfl, B3⟩
  have H3 : Hid (Below W.heap.size W w3) := H2.out.trans (B3.mono H2.out.size)
  clear B3 h3
  have h4 := tree_any (c := c) w3 (H.out.1.below H3.out) H.out.2.1 H.out.2.2.1 H.out.2.2.2.1
  obtain ⟨fe, hfe⟩ : ∃ fe, (ftree es).2 = fe := ⟨_, rfl⟩
  rw [hfe] at h4
  have HF : Hid ((ftree es).2 = fe) := hfe
  clear hfe
  obtain ⟨ov, hov⟩ : ∃ ov, ((o.getD 0).toNat : Int) = ov := ⟨_, rfl⟩
  obtain ⟨ob, hob⟩ : ∃ ob, o.isSome = ob := ⟨_, rfl⟩
  rw [hov, hob]
  clear hov hob
  go_wp2_with fail
  refine h4.mono ?_
  rintro e w4 ⟨v4, rfl, J4⟩
  have H4 : Hid (Below W.heap.size W w4) := H3.out.trans (J4.out.2.mono H3.out.size)
  clear J4 h4
  by_cases hf0 : fe = 0
  · subst hf0
    have htr : Tr es := by
      have := (ftree_rt HF.out)
      rcases this with ⟨_, q, _⟩ | ⟨q, _⟩
      · exact (ctree_ok q).2.2
      · cases q
    have HT : Hid (Tr es) := htr
    clear htr
    go_wp2_with fail
    go_loopg [5, 6, 11] n (fun m _ _ iv wr => ∃ i : Nat, iv = .int .i64 i ∧ i + m = n ∧ Hid (Below W.heap.size W wr))
    case atStart => exact ⟨0, rfl, by omega, H4.out⟩
    case round =>
      obtain ⟨i, rfl, hi, HR⟩ := hrel
      by_cases hin : i < n
      · have id : (i : Int) < (n : Int) := by omega
        obtain ⟨e, he⟩ := get_some H.out.2.1 hin
        obtain ⟨b, off, rfl, hlt⟩ := H.out.1.some_of he
        obtain ⟨_, c0, c1⟩ := (H.out.1.below HR.out).ents he
        have hfi := find_in HT.out he
        obtain ⟨d, z⟩ := e
        simp only at c0 c1 hfi
        have h5 := find_any (c := c) d wr (H.out.1.below HR.out) H.out.2.1 (by omega) _ hfi
        have HE : Hid (es[i]? = some (d, z)) := he
        simp only [Option.getD_some, Option.isSome_some] at h5
        clear he hfi
        go_wp2_with fail
        refine h5.mono ?_
        rintro e w5 ⟨rfl, B5⟩
        have H5 : Hid (Below W.heap.size W w5) := HR.out.trans (B5.mono HR.out.size)
        clear B5 h5 c0 c1
        obtain ⟨_, c0, c1⟩ := (H.out.1.below H5.out).ents HE.out
        simp only at c0 c1
        go_wp2
        go_roundg (gk - 1)
        case measure => omega
        case rel => exact ⟨i + 1, by go_num, by omega, H5.out⟩
      · obtain rfl : i = n := by omega
        go_wp2
        go_ret
        exact ⟨rfl, HR.out⟩
  · have m0 : (fe == 0) = false := by simpa using hf0
    have m1 : (fe != 0) = true := by simpa using hf0
    go_wp2
    go_ret
    exact ⟨by simp, H4.out⟩

end Go.Proofs.Ytadjcmekpcimjaa
