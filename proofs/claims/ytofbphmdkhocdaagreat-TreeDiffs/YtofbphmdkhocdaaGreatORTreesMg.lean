/-
  The reference's Tree, by a contract over lists of entries. No condition but that the lists and texts are no longer than any can be.
-/
import Derived.Test.YtofbphmdkhocdaaGreatM27
namespace Go.Proofs.YtofbphmdkhocdaaGreat
open Go.RowKit

/-- Two entries that can't stand together. -/
def Bad (es : List En) (i k : Nat) : Prop := ∃ a b, es[i]? = some a ∧ es[k]? = some b ∧ ((i < k ∧ ¬ a.1 < b.1) ∨ (i ≠ k ∧ under a.1 b.1 = true))

theorem tr_get {es : List En} (h : Tr es) {i k : Nat} {a b : En} (hik : i < k) (ha : es[i]? = some a) (hb : es[k]? = some b) : Ahead a b := by
  obtain ⟨hi, rfl⟩ := List.getElem?_eq_some_iff.1 ha
  obtain ⟨hk, rfl⟩ := List.getElem?_eq_some_iff.1 hb
  exact List.pairwise_iff_getElem.1 h i k hi hk hik

theorem bad_not {es : List En} {i k : Nat} (h : Bad es i k) : ¬ Tr es := by
  intro ht
  obtain ⟨a, b, ha, hb, q⟩ := h
  rcases q with ⟨h1, h2⟩ | ⟨h1, h2⟩
  · exact h2 (tr_get ht h1 ha hb).1
  · rcases Nat.lt_or_gt_of_ne h1 with q | q
    · exact under_le h2 (tr_get ht q ha hb).1
    · have := (tr_get ht q hb ha).2
      rw [h2] at this
      cases this

theorem not_bad {es : List En} (h : ∀ i k, ¬ Bad es i k) : Tr es := by
  refine List.pairwise_iff_getElem.2 (fun i k hi hk hik => ⟨?_, ?_⟩)
  · by_cases q : es[i].1 < es[k].1
    · exact q
    · exact absurd ⟨es[i], es[k], List.getElem?_eq_getElem hi, List.getElem?_eq_getElem hk, .inl ⟨hik, q⟩⟩ (h i k)
  · cases q : under es[k].1 es[i].1 with
    | false => rfl
    | true => exact absurd ⟨es[k], es[i], List.getElem?_eq_getElem hk, List.getElem?_eq_getElem hi, .inr ⟨by omega, q⟩⟩ (h k i)

theorem app_str (a b : ByteArray) : (a ++ b).data.toList = a.data.toList ++ b.data.toList := by
  rw [ByteArray.data_append]
  simp
theorem app_size (a b : ByteArray) : (a ++ b).size = a.size + b.size := by
  rw [bsize, app_str, List.length_append, bsize, bsize]

theorem rnum_at (n k : Nat) (hn : n < 18446744073709551616) (hk : k ≤ 8) (z : ByteArray) (hz : z = ⟨(low k n).toArray⟩) (w : World) (u : SW (Grew w)) :
    Calls Tryz.prog 66 #[.int .u64 (n : Int), .int .i64 (k : Int)] u.w fun e w' => e = .returned (.string z) ∧ ∃ u' : SW (Grew w), w' = u'.w := by
  subst hz
  refine (rnumber_any n k hn hk u.w).mono ?_
  rintro e w' ⟨rfl, hb⟩
  exact ⟨rfl, ⟨w', u.ok.trans (hb.mono u.ok.size)⟩, rfl⟩

set_option maxHeartbeats 6400000 in
set_option maxRecDepth 100000 in
/-- The reference's Tree. -/
theorem rtree_any {ao : Option Addr} {c n : Nat} {es : List En} (w : World) (hr : RdG encE w ao es) (hl : es.length = n) :
    Calls Tryz.prog 46 #[.slice ao n c] w fun e w' => e = .returned (.tuple #[tx (ftree es).1, .int .i64 (ftree es).2]) ∧ Below w.heap.size w w' := by
  by_cases h64 : 64 < n
  · have q : (64 : Int) < (n : Int) := by omega
    have e : ctree es = 4 := by unfold ctree; rw [if_pos (by omega)]
    have e2 : ftree es = ([], 4) := by unfold ftree; rw [e]; rfl
    rw [e2]
    clear hr hl e e2
    go_enter Tryz.func46, Tryz.ntmps46
    go_wp2
    refine bodyPost_ret (results_tmp2 rfl _ _ _) rfl ?_
    exact ⟨rfl, Below.refl _ _⟩
  have q : decide ((64 : Int) < (n : Int)) = false := by rw [decide_eq_false_iff_not]; omega
  have H : Hid (RdG encE w ao es ∧ es.length = n) := ⟨hr, hl⟩
  clear hr hl
  go_enter Tryz.func46, Tryz.ntmps46
  go_wp2_with fail
  go_loopg [4, 5] n (fun m sv iv wr => ∃ (i : Nat) (s : ByteArray), iv = .int .i64 i ∧ i + m = n ∧ sv = .string s ∧ Hid (s = ⟨(treeB (es.take i)).toArray⟩ ∧ ((es.take i).all fun e => isPath e.1) = true ∧ Below w.heap.size w wr))
  case atStart => exact ⟨0, _, rfl, by omega, rfl, rfl, rfl, Below.refl _ _⟩
  case round =>
    obtain ⟨i, s, rfl, hi, rfl, HR⟩ := hrel
    by_cases hin : i < n
    · have id : (i : Int) < (n : Int) := by omega
      have id0 : (0 : Int) ≤ (i : Int) := by omega
      obtain ⟨e, he⟩ := get_some H.out.2 hin
      obtain ⟨b, off, rfl, hlt⟩ := H.out.1.some_of he
      obtain ⟨hbw, c0, c1⟩ := (H.out.1.below HR.out.2.2).ents he
      obtain ⟨d, z⟩ := e
      obtain ⟨t, ht⟩ : ∃ t : ByteArray, t = ⟨d.toArray⟩ := ⟨_, rfl⟩
      have hts : t.size = d.length := by rw [ht]; show d.toArray.size = _; simp
      simp only at c0 c1
      rw [show tx d = .string t by rw [ht]] at c0
      have HE : Hid (es[i]? = some (d, z) ∧ t = ⟨d.toArray⟩ ∧ t.size = d.length) := ⟨he, ht, hts⟩
      have hri : ∀ f, isPath d = f → Calls Tryz.prog 57 #[.string t] wr fun e w' => e = .returned (.bool f) ∧ Below wr.heap.size wr w' := fun f hf => by rw [ht]; exact ris_at d f hf wr
      clear he ht hts
      cases hp : isPath d with
      | false =>
        have hri2 := hri false hp
        have hct : ftree es = ([], 2) := by
          have : ctree es = 2 := by
            unfold ctree
            rw [if_neg (by rw [H.out.2]; exact h64), if_pos (allE_miss HE.out.1 hp)]
          unfold ftree
          rw [this]
          rfl
        clear hri
        go_wp2_with fail
        refine hri2.mono ?_
        rintro e w2 ⟨rfl, hb2⟩
        go_wp2
        refine bodyPost_ret (results_tmp2 rfl _ _ _) rfl ?_
        exact ⟨by rw [hct]; rfl, HR.out.2.2.trans (hb2.mono HR.out.2.2.size)⟩
      | true =>
        have hri2 := hri true hp
        clear hri
        go_wp2_with fail
        refine hri2.mono ?_
        rintro e w2 ⟨rfl, hb2⟩
        clear hri2 c0 c1
        have B2 := HR.out.2.2.trans (hb2.mono HR.out.2.2.size)
        have hps := path_short hp
        have hlen : s.size ≤ 264 * 64 := by
          rw [HR.out.1]
          show (treeB (es.take i)).toArray.size ≤ _
          have h1 := treeB_len (es := es.take i) (fun x hx => by have := path_short (List.all_eq_true.1 HR.out.2.1 x hx); omega)
          have h2 : (es.take i).length ≤ 64 := by rw [List.length_take, H.out.2]; omega
          simp only [List.size_toArray]
          omega
        obtain ⟨z1, hz1⟩ : ∃ z1 : ByteArray, z1 = ⟨(low 1 t.size).toArray⟩ := ⟨_, rfl⟩
        obtain ⟨z8, hz8⟩ : ∃ z8 : ByteArray, z8 = ⟨(low 8 z.toNat).toArray⟩ := ⟨_, rfl⟩
        have l1 : z1.size = 1 := by rw [hz1]; show (low 1 t.size).toArray.size = 1; simp [low_len]
        have l8 : z8.size = 8 := by rw [hz8]; show (low 8 z.toNat).toArray.size = 8; simp [low_len]
        have lt' : t.size ≤ 102 := by rw [HE.out.2.2]; exact hps
        have NE : Nonempty (SW (Grew w2)) := ⟨⟨w2, Below.refl _ _⟩⟩
        have bu : ∀ u : SW (Grew w2), Below w.heap.size w u.w := fun u => B2.trans (u.ok.mono B2.size)
        have k0 : ∀ u : SW (Grew w2), u.w.cell? ⟨b, off + i * 2, none⟩ = some (.string t) := fun u => by
          have := ((H.out.1.below (bu u)).ents HE.out.1).2.1
          rw [HE.out.2.1]
          exact this
        have k1 : ∀ u : SW (Grew w2), u.w.cell? ⟨b, off + i * 2 + 1, none⟩ = some (.int .u64 (z.toNat : Int)) := fun u => ((H.out.1.below (bu u)).ents HE.out.1).2.2
        have n1 : ∀ u : SW (Grew w2), Calls Tryz.prog 66 #[.int .u64 (t.size : Int), .int .i64 1] u.w fun e w' => e = .returned (.string z1) ∧ ∃ u' : SW (Grew w2), w' = u'.w := rnum_at t.size 1 (by omega) (by omega) z1 hz1 w2
        have n8 : ∀ u : SW (Grew w2), Calls Tryz.prog 66 #[.int .u64 (z.toNat : Int), .int .i64 8] u.w fun e w' => e = .returned (.string z8) ∧ ∃ u' : SW (Grew w2), w' = u'.w := rnum_at z.toNat 8 z.toNat_lt (by omega) z8 hz8 w2
        have wr1 : IntKind.u64.wrap (t.size : Int) = (t.size : Int) := by rw [IntKind.wrap_u64]; omega
        have a1 : ¬ (9223372036854775807 < s.size + z1.size) := by omega
        have a2 : ¬ (9223372036854775807 < (s ++ z1).size + t.size) := by rw [app_size]; omega
        have a3 : ¬ (9223372036854775807 < (s ++ z1 ++ t).size + z8.size) := by rw [app_size, app_size]; omega
        have HN : Hid (s ++ z1 ++ t ++ z8 = ⟨(treeB (es.take (i + 1))).toArray⟩) := by
          show _ = _
          rw [treeB_take HE.out.1, HR.out.1, hz1, hz8, HE.out.2.1]
          have e1 : low 1 (⟨d.toArray⟩ : ByteArray).size = [UInt8.ofNat d.length] := by
            have : (⟨d.toArray⟩ : ByteArray).size = d.length := by show d.toArray.size = _; simp
            rw [this]; rfl
          rw [e1]
          apply ByteArray.ext
          simp [b8]
        have HB2 : Hid (Below w.heap.size w w2 ∧ isPath d = true) := ⟨B2, hp⟩
        clear bu hps hlen l1 l8 lt' hz1 hz8 B2 hb2
        go_wp2_with fail
        refine wp_region_class (S := Grew w2) (by kernel_rfl) (by kernel_rfl) (Below.refl _ w2).drew ?_
        repeat (go_big_quiet_step (first | with_reducible exact n1 _ | with_reducible exact n8 _))
        refine wpQuiet_nil ?_
        intro _ hw'
        obtain ⟨u, hw''⟩ := hw'
        subst hw''
        have N4 : Hid (Below w.heap.size w u.w) := HB2.out.1.trans (u.ok.mono HB2.out.1.size)
        obtain ⟨w4, hw4⟩ : ∃ w4, w4 = u.w := ⟨_, rfl⟩
        rw [← hw4] at N4 ⊢
        clear hw4 k0 k1 n1 n8 NE u
        go_wp2
        go_roundg (gk - 1)
        case measure => omega
        case rel => exact ⟨i + 1, _, by go_num, by omega, rfl, HN.out, allE_step HE.out.1 HR.out.2.1 HB2.out.2, N4.out⟩
    · obtain rfl : i = n := by omega
      have htk : es.take i = es := List.take_of_length_le (by rw [H.out.2]; omega)
      have HA : Hid (s = ⟨(treeB es).toArray⟩ ∧ ((es.all fun e => isPath e.1) = true) ∧ Below w.heap.size w wr) := by
        have := HR.out
        rw [htk] at this
        exact this
      obtain ⟨w1, hw1⟩ : ∃ w1, w1 = wr := ⟨_, rfl⟩
      rw [← hw1] at HA ⊢
      clear htk hw1 HR wr hin hi
      go_wp2_with fail
      go_loopg [6, 7] i (fun m iv _ wr => ∃ k : Nat, iv = .int .i64 k ∧ k + m = i ∧ Hid ((∀ j l, j < k → ¬ Bad es j l) ∧ Below w.heap.size w wr))
      case atStart => exact ⟨0, rfl, by omega, fun j l h => absurd h (by omega), HA.out.2.2⟩
      case round =>
        obtain ⟨k, rfl, hi, HR⟩ := hrel
        by_cases hin : k < i
        · have id : (k : Int) < (i : Int) := by omega
          have id0 : (0 : Int) ≤ (k : Int) := by omega
          obtain ⟨w2, hw2⟩ : ∃ w2, w2 = wr := ⟨_, rfl⟩
          rw [← hw2] at HR ⊢
          clear hw2 wr
          go_wp2_with fail
          go_loopg [7] i (fun m iv wr => ∃ l : Nat, iv = .int .i64 l ∧ l + m = i ∧ Hid ((∀ j, j < l → ¬ Bad es k j) ∧ Below w.heap.size w wr))
          case atStart => exact ⟨0, rfl, by omega, fun j h => absurd h (by omega), HR.out.2⟩
          case round =>
            obtain ⟨l, rfl, hl, HQ⟩ := hrel
            by_cases hln : l < i
            · have ld : (l : Int) < (i : Int) := by omega
              have ld0 : (0 : Int) ≤ (l : Int) := by omega
              obtain ⟨x, hx⟩ := get_some H.out.2 hin
              obtain ⟨y, hy⟩ := get_some H.out.2 hln
              obtain ⟨b, off, rfl, hlt⟩ := H.out.1.some_of hx
              obtain ⟨xp, xb⟩ := x
              obtain ⟨yp, yb⟩ := y
              have NE : Nonempty (SW (Grew wr)) := ⟨⟨wr, Below.refl _ _⟩⟩
              have bu : ∀ u : SW (Grew wr), Below w.heap.size w u.w := fun u => HQ.out.2.trans (u.ok.mono HQ.out.2.size)
              have k0 : ∀ u : SW (Grew wr), u.w.cell? ⟨b, off + k * 2, none⟩ = some (tx xp) := fun u => ((H.out.1.below (bu u)).ents hx).2.1
              have k1 : ∀ u : SW (Grew wr), u.w.cell? ⟨b, off + l * 2, none⟩ = some (tx yp) := fun u => ((H.out.1.below (bu u)).ents hy).2.1
              obtain ⟨f, hf⟩ : ∃ f, under xp yp = f := ⟨_, rfl⟩
              have hun : ∀ u : SW (Grew wr), Calls Tryz.prog 58 #[tx xp, tx yp] u.w fun e w' => e = .returned (.bool f) ∧ ∃ u' : SW (Grew wr), w' = u'.w := fun u => by
                refine (runder_any ⟨xp.toArray⟩ ⟨yp.toArray⟩ u.w).mono ?_
                rintro e w' ⟨rfl, rfl⟩
                exact ⟨by rw [← hf], u, rfl⟩
              have HX : Hid (es[k]? = some (xp, xb) ∧ es[l]? = some (yp, yb) ∧ under xp yp = f) := ⟨hx, hy, hf⟩
              have fine : ∀ u : SW (Grew wr), ¬ Bad es k l → Hid ((∀ j, j < l + 1 → ¬ Bad es k j) ∧ Below w.heap.size w u.w) := fun u hb => by
                refine ⟨fun j hj => ?_, bu u⟩
                rcases Nat.lt_or_ge j l with q | q
                · exact HQ.out.1 j q
                · obtain rfl : j = l := by omega
                  exact hb
              have wrong : Bad es k l → ftree es = ([], 12) := fun hb => by
                have : ctree es = 12 := by
                  unfold ctree
                  rw [if_neg (by rw [H.out.2]; exact h64), if_neg (by rw [HA.out.2.1]; decide), if_neg (bad_not hb)]
                unfold ftree
                rw [this]
                rfl
              have HW : Hid ((∀ u : SW (Grew wr), ¬ Bad es k l → Hid ((∀ j, j < l + 1 → ¬ Bad es k j) ∧ Below w.heap.size w u.w)) ∧ (Bad es k l → ftree es = ([], 12)) ∧ ∀ u : SW (Grew wr), Below w.heap.size w u.w) := ⟨fine, wrong, bu⟩
              clear hx hy hf fine wrong bu
              rcases Nat.lt_trichotomy k l with hkl | hkl | hkl
              · have d1 : decide ((k : Int) < (l : Int)) = true := by rw [decide_eq_true_iff]; omega
                have d2 : ((k : Int) != (l : Int)) = true := by rw [bne_iff_ne]; omega
                have d3 : (k : Int) < (l : Int) := by omega
                by_cases hxy : xp < yp
                · have q1 : Op.bytesLess xp yp = true := by rw [less_eq, decide_eq_true_iff]; exact hxy
                  have q2 : Op.bytesLess yp xp = false := by rw [less_eq, decide_eq_false_iff_not]; exact List.lt_asymm hxy
                  have q3 : (yp == xp) = false := by rw [beq_eq_false_iff_ne]; rintro rfl; exact List.lt_irrefl _ hxy
                  have q4 : (xp == yp) = false := by rw [beq_eq_false_iff_ne]; rintro rfl; exact List.lt_irrefl _ hxy
                  go_wp2_with fail
                  refine wp_region_class (S := Grew wr) (by kernel_rfl) (by kernel_rfl) (Below.refl _ wr).drew ?_
                  repeat (go_big_quiet_step (with_reducible exact hun _))
                  refine wpQuiet_nil ?_
                  intro _ hw'
                  obtain ⟨u, hw''⟩ := hw'
                  subst hw''
                  have HU := HW.out.1 u
                  have HV : Hid (Below w.heap.size w u.w) := HW.out.2.2 u
                  have HU' : Hid (¬ Bad es k l → Hid ((∀ j, j < l + 1 → ¬ Bad es k j) ∧ Below w.heap.size w u.w)) := HU
                  obtain ⟨w4, hw4⟩ : ∃ w4, w4 = u.w := ⟨_, rfl⟩
                  rw [← hw4] at HU' HV ⊢
                  clear HU hw4 k0 k1 hun NE u
                  cases f with
                  | true =>
                    have hct := HW.out.2.1 (⟨_, _, HX.out.1, HX.out.2.1, .inr ⟨by omega, HX.out.2.2⟩⟩)
                    clear HU'
                    go_wp2
                    refine bodyPost_ret (results_tmp2 rfl _ _ _) rfl ?_
                    exact ⟨by rw [hct]; rfl, HV.out⟩
                  | false =>
                    have N := HU'.out (by
                        rintro ⟨a, b', h1, h2, h3⟩
                        rw [HX.out.1] at h1
                        rw [HX.out.2.1] at h2
                        cases h1
                        cases h2
                        rcases h3 with ⟨g1, g2⟩ | ⟨g1, g2⟩
                        · first | exact g2 hxy | omega
                        · first | omega | (rw [HX.out.2.2] at g2; cases g2))
                    clear HU'
                    go_wp2
                    go_roundg (gk - 1)
                    case measure => omega
                    case rel => exact ⟨l + 1, by go_num, by omega, N⟩
                · by_cases hq : xp = yp
                  · have hct := HW.out.2.1 ⟨_, _, HX.out.1, HX.out.2.1, .inl ⟨hkl, hxy⟩⟩
                    have q1 : Op.bytesLess xp yp = false := by rw [less_eq, decide_eq_false_iff_not]; exact hxy
                    have q2 : Op.bytesLess yp xp = false := by rw [less_eq, decide_eq_false_iff_not, ← hq]; exact List.lt_irrefl _
                    have q3 : (yp == xp) = true := by rw [beq_iff_eq]; exact hq.symm
                    have q4 : (xp == yp) = true := by rw [beq_iff_eq]; exact hq
                    clear hq
                    go_wp2_with fail
                    refine wp_region_class (S := Grew wr) (by kernel_rfl) (by kernel_rfl) (Below.refl _ wr).drew ?_
                    repeat (go_big_quiet_step (with_reducible exact hun _))
                    refine wpQuiet_nil ?_
                    intro _ hw'
                    obtain ⟨u, hw''⟩ := hw'
                    subst hw''
                    have HU := HW.out.1 u
                    have HV : Hid (Below w.heap.size w u.w) := HW.out.2.2 u
                    have HU' : Hid (¬ Bad es k l → Hid ((∀ j, j < l + 1 → ¬ Bad es k j) ∧ Below w.heap.size w u.w)) := HU
                    obtain ⟨w4, hw4⟩ : ∃ w4, w4 = u.w := ⟨_, rfl⟩
                    rw [← hw4] at HU' HV ⊢
                    clear HU hw4 k0 k1 hun NE u
                    clear HU'
                    go_wp2
                    refine bodyPost_ret (results_tmp2 rfl _ _ _) rfl ?_
                    exact ⟨by rw [hct]; rfl, HV.out⟩
                  · have hct := HW.out.2.1 ⟨_, _, HX.out.1, HX.out.2.1, .inl ⟨hkl, hxy⟩⟩
                    have hlt2 : yp < xp := by
                      by_cases k' : yp < xp
                      · exact k'
                      · exact absurd (List.le_antisymm k' hxy) hq
                    have q1 : Op.bytesLess xp yp = false := by rw [less_eq, decide_eq_false_iff_not]; exact hxy
                    have q2 : Op.bytesLess yp xp = true := by rw [less_eq, decide_eq_true_iff]; exact hlt2
                    have q3 : (yp == xp) = false := by rw [beq_eq_false_iff_ne]; exact fun e => hq e.symm
                    have q4 : (xp == yp) = false := by rw [beq_eq_false_iff_ne]; exact hq
                    clear hq hlt2
                    go_wp2_with fail
                    refine wp_region_class (S := Grew wr) (by kernel_rfl) (by kernel_rfl) (Below.refl _ wr).drew ?_
                    repeat (go_big_quiet_step (with_reducible exact hun _))
                    refine wpQuiet_nil ?_
                    intro _ hw'
                    obtain ⟨u, hw''⟩ := hw'
                    subst hw''
                    have HU := HW.out.1 u
                    have HV : Hid (Below w.heap.size w u.w) := HW.out.2.2 u
                    have HU' : Hid (¬ Bad es k l → Hid ((∀ j, j < l + 1 → ¬ Bad es k j) ∧ Below w.heap.size w u.w)) := HU
                    obtain ⟨w4, hw4⟩ : ∃ w4, w4 = u.w := ⟨_, rfl⟩
                    rw [← hw4] at HU' HV ⊢
                    clear HU hw4 k0 k1 hun NE u
                    clear HU'
                    go_wp2
                    refine bodyPost_ret (results_tmp2 rfl _ _ _) rfl ?_
                    exact ⟨by rw [hct]; rfl, HV.out⟩
              · subst hkl
                have hnb : ¬ Bad es k k := by
                  rintro ⟨a, b', h1, h2, h3⟩
                  rcases h3 with ⟨g1, g2⟩ | ⟨g1, g2⟩
                  · omega
                  · exact g1 rfl
                have HNB : Hid (¬ Bad es k k) := hnb
                clear hnb
                go_wp2_with fail
                refine wp_region_class (S := Grew wr) (by kernel_rfl) (by kernel_rfl) (Below.refl _ wr).drew ?_
                repeat (go_big_quiet_step (with_reducible exact hun _))
                refine wpQuiet_nil ?_
                intro _ hw'
                obtain ⟨u, hw''⟩ := hw'
                subst hw''
                have HU := HW.out.1 u
                have HV : Hid (Below w.heap.size w u.w) := HW.out.2.2 u
                have HU' : Hid (¬ Bad es k k → Hid ((∀ j, j < k + 1 → ¬ Bad es k j) ∧ Below w.heap.size w u.w)) := HU
                obtain ⟨w4, hw4⟩ : ∃ w4, w4 = u.w := ⟨_, rfl⟩
                rw [← hw4] at HU' HV ⊢
                clear HU hw4 k0 k1 hun NE u
                have N := HU'.out (HNB.out)
                clear HU'
                go_wp2
                go_roundg (gk - 1)
                case measure => omega
                case rel => exact ⟨k + 1, by go_num, by omega, N⟩
              · have d1 : decide ((k : Int) < (l : Int)) = false := by rw [decide_eq_false_iff_not]; omega
                have d4 : decide (k < l) = false := by rw [decide_eq_false_iff_not]; omega
                have d5 : ((k : Int) == (l : Int)) = false := by rw [beq_eq_false_iff_ne]; omega
                have d6 : (k == l) = false := by rw [beq_eq_false_iff_ne]; omega
                have d7 : (k != l) = true := by rw [bne_iff_ne]; omega
                have d2 : ((k : Int) != (l : Int)) = true := by rw [bne_iff_ne]; omega
                go_wp2_with fail
                refine wp_region_class (S := Grew wr) (by kernel_rfl) (by kernel_rfl) (Below.refl _ wr).drew ?_
                repeat (go_big_quiet_step (with_reducible exact hun _))
                refine wpQuiet_nil ?_
                intro _ hw'
                obtain ⟨u, hw''⟩ := hw'
                subst hw''
                have HU := HW.out.1 u
                have HV : Hid (Below w.heap.size w u.w) := HW.out.2.2 u
                have HU' : Hid (¬ Bad es k l → Hid ((∀ j, j < l + 1 → ¬ Bad es k j) ∧ Below w.heap.size w u.w)) := HU
                obtain ⟨w4, hw4⟩ : ∃ w4, w4 = u.w := ⟨_, rfl⟩
                rw [← hw4] at HU' HV ⊢
                clear HU hw4 k0 k1 hun NE u
                cases f with
                | true =>
                  have hct := HW.out.2.1 (⟨_, _, HX.out.1, HX.out.2.1, .inr ⟨by omega, HX.out.2.2⟩⟩)
                  clear HU'
                  go_wp2
                  refine bodyPost_ret (results_tmp2 rfl _ _ _) rfl ?_
                  exact ⟨by rw [hct]; rfl, HV.out⟩
                | false =>
                  have N := HU'.out (by
                      rintro ⟨a, b', h1, h2, h3⟩
                      rw [HX.out.1] at h1
                      rw [HX.out.2.1] at h2
                      cases h1
                      cases h2
                      rcases h3 with ⟨g1, g2⟩ | ⟨g1, g2⟩
                      · omega
                      · first | omega | (rw [HX.out.2.2] at g2; cases g2))
                  clear HU'
                  go_wp2
                  go_roundg (gk - 1)
                  case measure => omega
                  case rel => exact ⟨l + 1, by go_num, by omega, N⟩
            · obtain rfl : l = i := by omega
              have HZ : Hid (∀ j l, j < k + 1 → ¬ Bad es j l) := fun j l hj hb => by
                rcases Nat.lt_or_ge j k with q | q
                · exact HR.out.1 j l q hb
                · obtain rfl : j = k := by omega
                  have hb2 := hb
                  obtain ⟨_, _, _, h2, _⟩ := hb2
                  exact HQ.out.1 l (by have := (List.getElem?_eq_some_iff.1 h2).1; rw [H.out.2] at this; exact this) hb
              go_wp2
              go_roundg (l - (k + 1))
              case measure => omega
              case rel => exact ⟨k + 1, by go_num, by omega, HZ.out, HQ.out.2⟩
        · obtain rfl : k = i := by omega
          have htr : Tr es := not_bad (fun j l hb => by
            have hb2 := hb
            obtain ⟨_, _, h1, _, _⟩ := hb2
            exact HR.out.1 j l (by have := (List.getElem?_eq_some_iff.1 h1).1; rw [H.out.2] at this; exact this) hb)
          have hct : ftree es = (treeB es, 0) := by
            unfold ftree
            rw [if_pos (ctree_mk (by rw [H.out.2]; omega) HA.out.2.1 htr)]
          clear htr
          go_wp2
          refine bodyPost_ret (results_tmp2 rfl _ _ _) rfl ?_
          exact ⟨by rw [hct, HA.out.1]; rfl, HR.out.2⟩

end Go.Proofs.YtofbphmdkhocdaaGreat
