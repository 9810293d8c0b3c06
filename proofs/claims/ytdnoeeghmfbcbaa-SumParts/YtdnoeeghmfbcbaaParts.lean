/-
  The walk of the law SumParts: parts that are appended one behind the other have the sums of the whole.
-/
import Derived.Test.YtdnoeeghmfbcbaaKept
import Derived.Laws.AppendOwnNone
import Derived.OwnWalk
namespace Go.Proofs.Ytdnoeeghmfbcbaa
open Go.RowKit

theorem Try.info5 : (Try.prog.info? 5).map (fun i => (i.zero, i.size, i.bytes)) = some (some (.int .u8 0), 1, 1) := by kernel_rfl

/-- The call's own row of bytes. -/
theorem own_form {w : World} {base : Nat} {v : Value} {n : Nat} {xs : List Value} (h : w.ownsRow base 5 1 v n xs) : ∃ a c, v = .slice a n c := by
  rcases h.2 with ⟨rfl, rfl⟩ | ⟨g, cap, cur, rfl, _⟩
  · exact ⟨none, 0, rfl⟩
  · exact ⟨_, _, rfl⟩

theorem own_bytes {w : World} {base : Nat} {v : Value} {acc : List Int} (hl : acc.length ≤ 100000) (h : w.ownsRow base 5 1 v acc.length (acc.map (Value.int .u8))) : BytesAt w v acc := by
  have h' := h
  rcases h.2 with ⟨rfl, h0⟩ | ⟨g, cap, cur, rfl, _⟩
  · refine ⟨none, 0, by rw [h0], by omega, .inl (by simpa using h0)⟩
  · refine ⟨_, cap, rfl, by omega, .inr ⟨g, 0, rfl, ?_⟩⟩
    intro j hj
    have := h'.cellAt j (by omega)
    rw [Nat.zero_add, this]
    simp [List.getD, hj]

theorem idFold_append (h : Int) (a b : List Int) : idFold h (a ++ b) = idFold (idFold h a) b := by simp [idFold]
theorem idFolds_flatten (zss : List (List Int)) : ∀ h, idFolds h zss = idFold h zss.flatten := by
  induction zss with
  | nil => intro h; rfl
  | cons z zss ih => intro h; rw [List.flatten_cons, idFold_append, ← ih]; rfl
theorem chkFold_append (h : Int) (a b : List Int) : chkFold h (a ++ b) = chkFold (chkFold h a) b := by simp [chkFold]
theorem chkFolds_flatten (zss : List (List Int)) : ∀ h, chkFolds h zss = chkFold h zss.flatten := by
  induction zss with
  | nil => intro h; rfl
  | cons z zss ih => intro h; rw [List.flatten_cons, chkFold_append, ← ih]; rfl
theorem flatten_step (zss : List (List Int)) (k : Nat) (hk : k < zss.length) : (zss.take (k + 1)).flatten = (zss.take k).flatten ++ zss.getD k [] := by
  rw [List.take_add_one, List.flatten_append]
  simp [List.getElem?_eq_getElem hk, List.getD]

/-- What the end of the law asks: the sums of the parts and of the whole. -/
theorem id_flat (kind : Int) (v : Value) (zss : List (List Int)) (w : World) (h : PartsAt w v zss) :
    Calls Try.prog 8 #[.int .i64 kind, v] w fun e w' => e = .returned (.int .u64 (idFold (idStep 14695981039346656037 (kind % 256)) zss.flatten)) ∧ w' = w := by
  rw [← idFolds_flatten]
  exact id_any kind v zss w h
theorem chk_flat (v : Value) (zss : List (List Int)) (w : World) (h : PartsAt w v zss) :
    Calls Try.prog 10 #[v] w fun e w' => e = .returned (.int .u32 (4294967295 - chkFold 4294967295 zss.flatten)) ∧ w' = w := by
  rw [← chkFolds_flatten]
  exact chk_any v zss w h

set_option maxHeartbeats 1600000 in
theorem parts_walk (kind : Int) (b off cap : Nat) (zss : List (List Int)) (w : World) (hn : zss.length ≤ 9223372036854775807)
    (hc : ∀ j, j < zss.length → ∃ u, w.cell? ⟨b, off + j, none⟩ = some u ∧ BytesAt w u (zss.getD j []))
    (hnil : ∀ j c, j < zss.length → w.cell? ⟨b, off + j, none⟩ = some (.slice none 0 c) → c = 0) :
    Calls Try.prog 4 #[.int .i64 kind, .slice (some ⟨b, off, none⟩) zss.length cap] w fun e w' => e = .returned (.bool true) ∧ Below w.heap.size w w' := by
  obtain ⟨i0, hi, hz0, hz1, hz2⟩ := info_parts Try.info5
  have HC : Hid (∀ j, j < zss.length → ∃ u, w.cell? ⟨b, off + j, none⟩ = some u ∧ BytesAt w u (zss.getD j [])) := hc
  have HNIL : Hid (∀ j c, j < zss.length → w.cell? ⟨b, off + j, none⟩ = some (.slice none 0 c) → c = 0) := hnil
  clear hc hnil
  go_enter Try.func4, Try.ntmps4
  go_wp2_with fail
  refine (awake_any _).mono ?_
  rintro e w1 ⟨rfl, hb1⟩
  go_wp2_with fail
  go_loopg [5, 6] (zss.length + 1) (fun g v i wr => ∃ (k : Nat) (a5 : Option Addr) (c5 : Nat) (acc : List Int), k + g = zss.length + 1 ∧ k ≤ zss.length ∧ i = .int .i64 (k : Int) ∧ v = .slice a5 acc.length c5
    ∧ acc.length ≤ 100000 ∧ Hid (acc = (zss.take k).flatten) ∧ Hid (wr.ownsRow w1.heap.size 5 1 (.slice a5 acc.length c5) acc.length (acc.map (Value.int .u8))) ∧ Below w1.heap.size w1 wr)
  case atStart => exact ⟨0, none, 0, [], by omega, by omega, rfl, rfl, by decide, rfl, World.ownsRow_nil _ _ _ _, Below.refl _ _⟩
  case round =>
    obtain ⟨k, a5, c5, acc, hg, hk, rfl, rfl, hacc, HA, HO, hb2⟩ := hrel
    by_cases hlt : k < zss.length
    · obtain ⟨u, hcell0, hB0⟩ := HC.out k hlt
      have hb12 := hb1.trans (hb2.mono hb1.size)
      have hB := hB0.below hb12
      have hcell : wr.cell? ⟨b, off + k, none⟩ = some u := by rw [hb12.cell (cell_lt hcell0)]; exact hcell0
      have hnl : ∀ c, u = .slice none 0 c → c = 0 := fun c hu => HNIL.out k c hlt (by rw [hcell0, hu])
      have hfl := flatten_step zss k hlt
      generalize zss.getD k [] = zs at hB hfl
      obtain ⟨a, ca, rfl, hl, hbs⟩ := hB
      have HF : Hid (_ = _) := hfl
      have HNL : Hid (∀ c, Value.slice a zs.length ca = .slice none 0 c → c = 0) := hnl
      clear hcell0 hB0 hfl hnl
      by_cases h1 : (100000 - (acc.length : Int)) < (zs.length : Int)
      · go_wp2_with fail
        go_ret
        exact ⟨rfl, hb12⟩
      · by_cases h2 : (10000 : Int) ≤ (k : Int)
        · go_wp2_with fail
          go_ret
          exact ⟨rfl, hb12⟩
        · by_cases ha : a = none
          · subst ha
            have hzs : zs = [] := by
              rcases hbs with h | ⟨b', off', h, _⟩
              · exact h
              · exact absurd h (by simp)
            subst hzs
            have hca : ca = 0 := HNL.out ca rfl
            subst hca
            clear HNL hbs
            go_wp2_with (first
              | (at_builtin; refine wpList_append_own_none rfl (.tmp 28) (.tmp 32) 22 rfl w1.heap.size 5 i0 1 Try.underlying22 hi _ acc.length (acc.map (Value.int .u8)) rfl HO.out rfl ?_))
            go_roundg (gk - 1)
            case measure => omega
            case rel => exact ⟨k + 1, a5, c5, acc, by omega, by omega, by go_num, rfl, hacc, show acc = _ from by rw [HF.out, List.append_nil]; exact HA.out, HO.out, hb2⟩
          · obtain ⟨x, rfl⟩ : ∃ x, a = some x := by cases a with | none => exact absurd rfl ha | some x => exact ⟨x, rfl⟩
            have hsrc : ∀ (j : Nat) (u : Value), (zs.map (Value.int .u8))[j]? = some u → wr.cell? (x.add j) = some u := by
              intro j u hj
              rcases hbs with h | ⟨b', off', h, hcs⟩
              · rw [h] at hj
                simp at hj
              · have hx : x = ⟨b', off', none⟩ := by simpa using h
                have hjl : j < zs.length := by
                  have := (List.getElem?_eq_some_iff.1 hj).1
                  simpa using this
                rw [hx, Go.WideShapes.add_plain, hcs j hjl]
                simpa [List.getD, hjl] using hj
            have HSRC : Hid (∀ (j : Nat) (u : Value), (zs.map (Value.int .u8))[j]? = some u → wr.cell? (x.add j) = some u) := hsrc
            have hone : ∀ u ∈ zs.map (Value.int .u8), u.oneCell' = true := by
              intro u hu
              obtain ⟨z, _, rfl⟩ := List.mem_map.1 hu
              rfl
            have HONE : Hid (∀ u ∈ zs.map (Value.int .u8), u.oneCell' = true) := hone
            have hsum : acc.length + zs.length ≤ 100000 := by omega
            clear HNL hbs hsrc hone ha
            go_wp2_with (first
              | (at_builtin; refine wpList_append_own _ rfl (.tmp 28) (.tmp 32) 22 rfl w1.heap.size 5 i0 (.int .u8 0) 1 1 Try.underlying22 hi hz0 hz1 hz2 rfl (by decide) _ acc.length (acc.map (Value.int .u8)) rfl HO.out x zs.length ca (zs.map (Value.int .u8)) rfl (by simp) HSRC.out HONE.out (by unfold maxLen; omega) (by omega) hb2.size ?_))
            intro v' w2 hown' hgrow _
            have hrow : ∀ q, (Value.slice a5 acc.length c5).ownBlock = some q → w1.heap.size ≤ q := fun q hq => (HO.out.lt q hq).1
            have hb3 := hb2.grown hgrow hb2.size hrow
            obtain ⟨a6, c6, rfl⟩ := own_form hown'
            have hlen : (acc ++ zs).length = acc.length + zs.length := List.length_append
            have HO' : Hid (w2.ownsRow w1.heap.size 5 1 (.slice a6 (acc ++ zs).length c6) (acc ++ zs).length ((acc ++ zs).map (Value.int .u8))) := by
              rw [hlen, List.map_append]
              exact hown'
            clear hown' hgrow hrow hcell
            go_wp2_with fail
            go_roundg (gk - 1)
            case measure => omega
            case rel => exact ⟨k + 1, a6, c6, acc ++ zs, by omega, by omega, by go_num, by rw [hlen], by omega, show acc ++ zs = _ from by rw [HF.out, ← HA.out], HO'.out, hb3⟩
    · have : k = zss.length := by omega
      subst this
      have hfl : acc = zss.flatten := by
        have := HA.out
        rw [List.take_length] at this
        exact this
      have hb12 := hb1.trans (hb2.mono hb1.size)
      have hP0 : PartsAt w (.slice (some ⟨b, off, none⟩) zss.length cap) zss := ⟨_, cap, rfl, hn, .inr ⟨b, off, rfl, HC.out⟩⟩
      have hP1 := hP0.below hb12
      have hB := own_bytes hacc HO.out
      have hbA := (Below.refl wr.heap.size wr).alloc (Nat.le_refl _) (.cells #[.slice a5 acc.length c5] 22)
      have hP2 := hP1.below hbA
      have hB2 := hB.below hbA
      have hI := id_flat kind _ zss wr hP1
      have hC := chk_flat _ zss _ hP2
      rw [← hfl] at hI hC
      have HI : Hid (Calls _ _ _ _ _) := hI
      have HCK : Hid (Calls _ _ _ _ _) := hC
      have HB : Hid (BytesAt wr (.slice a5 acc.length c5) acc) := hB
      have HB2 : Hid (BytesAt (wr.alloc (.cells #[.slice a5 acc.length c5] 22)) (.slice a5 acc.length c5) acc) := hB2
      clear hfl hP0 hP1 hP2 hB hB2 hI hC HA HO
      have hb13 := hb12.alloc hb12.size (.cells #[.slice a5 acc.length c5] 22)
      have hb14 := hb13.alloc hb13.size (.cells #[.slice a5 acc.length c5] 22)
      clear hbA
      go_wp2_with fail
      refine HI.out.mono ?_
      rintro e w2 ⟨rfl, hw2⟩
      subst hw2
      go_wp2_with fail
      refine (id_one kind _ acc _ HB.out).mono ?_
      rintro e w3 ⟨rfl, hw3⟩
      subst hw3
      go_wp2_with fail
      refine HCK.out.mono ?_
      rintro e w3 ⟨rfl, hw3⟩
      subst hw3
      go_wp2_with fail
      refine (chk_one (.slice a5 acc.length c5) acc _ _ (World.size_alloc _ _).symm HB2.out).mono ?_
      rintro e w3 ⟨rfl, hw3⟩
      subst hw3
      go_wp2_with fail
      go_ret
      exact ⟨rfl, hb14⟩
end Go.Proofs.Ytdnoeeghmfbcbaa
