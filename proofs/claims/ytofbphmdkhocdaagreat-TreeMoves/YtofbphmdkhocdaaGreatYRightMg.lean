/-
  The reference's Is and the laws' right, by contracts.
-/
import Derived.Test.YtofbphmdkhocdaaGreatM24
import Derived.Test.YtofbphmdkhocdaaGreatORTreesMg
namespace Go.Proofs.YtofbphmdkhocdaaGreat
open Go.RowKit

set_option maxHeartbeats 1600000 in
set_option maxRecDepth 100000 in
theorem is10_any {ao : Option Addr} {c n : Nat} {es : List En} (w : World) (hr : RdG encE w ao es) (hl : es.length = n) (hn : n ≤ 4000000000000000000) (f : Bool) (hf : isTree es = f) :
    Calls Tryz.prog 26 #[.slice ao n c] w fun e w' => e = .returned (.bool f) ∧ Below w.heap.size w w' := by
  have H : Hid (RdG encE w ao es ∧ es.length = n ∧ isTree es = f) := ⟨hr, hl, hf⟩
  clear hr hl hf
  go_enter Tryz.func26, Tryz.ntmps26
  go_wp2_with fail
  go_loopg [3] n (fun k v wr => ∃ i : Nat, v = .int .i64 i ∧ i + k = n ∧ Hid ((es.take i).all (fun e => e.2 != 0) = true ∧ Below w.heap.size w wr))
  case atStart => exact ⟨0, rfl, by omega, rfl, Below.refl _ _⟩
  case round =>
    obtain ⟨i, rfl, hi, HR⟩ := hrel
    by_cases hin : i < n
    · have id : (i : Int) < (n : Int) := by omega
      obtain ⟨e, he⟩ := get_some H.out.2.1 hin
      obtain ⟨b, off, rfl, hlt⟩ := H.out.1.some_of he
      obtain ⟨_, c0, c1⟩ := (H.out.1.below HR.out.2).ents he
      have hst := takeE_snoc he
      have hme := List.mem_of_getElem? he
      obtain ⟨x, o⟩ := e
      simp only at c0 c1
      by_cases h0 : o = 0
      · subst h0
        have F : Hid (f = false) := by
          show f = false
          rw [← H.out.2.2]
          unfold isTree
          rw [Bool.and_eq_false_iff]
          exact .inl (List.all_eq_false.2 ⟨(x, 0), hme, by simp⟩)
        have c1' : wr.cell? ⟨b, off + i * 2 + 1, none⟩ = some (.int .u64 0) := c1
        clear he hst hme c1 c0 hlt
        go_wp2
        go_ret
        exact ⟨by rw [F.out]; rfl, HR.out.2⟩
      · have hz : ((o.toNat : Int) == 0) = false := by
          simp only [beq_eq_false_iff_ne, ne_eq]
          intro e
          exact h0 (UInt64.toNat_inj.1 (by simp; omega))
        have hz2 : ¬ (o.toNat : Int) = 0 := by simpa using hz
        have ST : Hid ((es.take (i + 1)).all (fun e => e.2 != 0) = true) := by
          show _ = true
          rw [hst, List.all_append, HR.out.1]
          simp [h0]
        clear he hst hme hlt
        go_wp2
        go_roundg (gk - 1)
        case measure => omega
        case rel => exact ⟨i + 1, by go_num, by omega, ST.out, HR.out.2⟩
    · obtain rfl : i = n := by omega
      have e : es.take i = es := List.take_of_length_le (by rw [H.out.2.1]; omega)
      rw [e] at HR
      clear e
      have ht := rtree_any (c := c) wr (H.out.1.below HR.out.2) H.out.2.1
      obtain ⟨T, hT⟩ : ∃ T, (ftree es).1 = T := ⟨_, rfl⟩
      obtain ⟨z, hz⟩ : ∃ z, (ftree es).2 = z := ⟨_, rfl⟩
      rw [hT, hz] at ht
      rw [ftree_code] at hz
      have F : Hid (f = decide (z = 0)) := by
        show f = _
        rw [← H.out.2.2, ← hz]
        unfold isTree
        rw [HR.out.1, Bool.true_and]
      clear hT hz
      go_wp2_with fail
      refine ht.mono ?_
      rintro e w2 ⟨rfl, B2⟩
      have G2 : Hid (Below w.heap.size w w2) := HR.out.2.trans (B2.mono HR.out.2.size)
      clear B2 ht
      go_wp2
      go_ret
      refine ⟨?_, G2.out⟩
      rw [F.out]
      try rfl
      try exact congrArg (fun b => Ending.returned (Value.bool b)) (by rw [Bool.eq_iff_iff]; simp)

set_option maxHeartbeats 1600000 in
set_option maxRecDepth 100000 in
theorem right_any {ao bo : Option Addr} {c n d m : Nat} {A B : List En} (w : World) (hr : RdG encE w ao A) (hr2 : RdG encE w bo B) (hl : A.length = n) (hk : B.length = m) (hn : n * 24 ≤ 140737488355328) (hm : m * 24 ≤ 140737488355328) (f g : Bool) (hf : isTree A = f) (hg : isTree B = g) :
    Calls Tryz.prog 8 #[.slice ao n c, .slice bo m d] w fun e w' => e = .returned (.bool (f && g)) ∧ Below w.heap.size w w' := by
  have he := entries_any (c := c) w hr hl hn
  have H : Hid (RdG encE w bo B ∧ A.length = n ∧ B.length = m ∧ isTree A = f ∧ isTree B = g) := ⟨hr2, hl, hk, hf, hg⟩
  clear hr hr2 hl hk hf hg
  go_enter Tryz.func8, Tryz.ntmps8
  go_wp2_with fail
  refine he.mono ?_
  rintro e w1 ⟨v1, rfl, O1⟩
  obtain ⟨a1, c1, rfl, _, _, R1, _⟩ := O1.out.1.form
  rw [H.out.2.1]
  have G1 : Hid (RdG encE w1 a1 A ∧ Below w.heap.size w w1) := ⟨R1, O1.out.2⟩
  clear O1 R1 he
  go_wp2_with fail
  refine (is10_any w1 G1.out.1 H.out.2.1 (by omega) f H.out.2.2.2.1).mono ?_
  rintro e w2 ⟨rfl, B2⟩
  have G2 : Hid (Below w.heap.size w w2) := G1.out.2.trans (B2.mono G1.out.2.size)
  clear B2
  cases f with
  | false =>
    go_wp2
    go_ret
    exact ⟨rfl, G2.out⟩
  | true =>
    have he3 := entries_any (c := d) w2 (H.out.1.below G2.out) H.out.2.2.1 hm
    go_wp2_with fail
    refine he3.mono ?_
    rintro e w3 ⟨v3, rfl, O3⟩
    obtain ⟨a3, c3, rfl, _, _, R3, _⟩ := O3.out.1.form
    rw [H.out.2.2.1]
    have G3 : Hid (RdG encE w3 a3 B ∧ Below w.heap.size w w3) := ⟨R3, G2.out.trans (O3.out.2.mono G2.out.size)⟩
    clear O3 R3 he3
    go_wp2_with fail
    refine (is10_any w3 G3.out.1 H.out.2.2.1 (by omega) g H.out.2.2.2.2).mono ?_
    rintro e w4 ⟨rfl, B4⟩
    have G4 : Hid (Below w.heap.size w w4) := G3.out.2.trans (B4.mono G3.out.2.size)
    clear B4
    go_wp2
    go_ret
    exact ⟨by simp, G4.out⟩

end Go.Proofs.YtofbphmdkhocdaaGreat
