/-
  TextIn's walk: of whatever number and runs it returns true and turns nothing that was there. At most 8796093022207 runs.
-/
import Derived.Test.YtnodkpnbfklmhaaDoorAwake
namespace Go.Proofs.YtnodkpnbfklmhaaDoor
open Go.RowKit

theorem info38 : (Tryd.prog.info? 38).map (fun i => (i.zero, i.size, i.bytes)) = some (some (.agg #[.int .i64 0, .int .i64 0]), 2, 16) := by kernel_rfl

set_option maxHeartbeats 3200000 in
set_option maxRecDepth 100000 in
theorem in_walk (z : Int) (ao : Option Addr) (n c : Nat) (ss : List Pr) (w : World) (hl : ss.length = n) (hn : n ≤ 8796093022207) (ha : RdG encP w ao ss) :
    Calls Tryd.prog 7 #[.int .i64 z, .slice ao n c] w fun e w' => e = .returned (.bool true) ∧ Below w.heap.size w w' := by
  have H : Hid (RdG encP w ao ss ∧ ss.length = n) := ⟨ha, hl⟩
  clear ha hl
  go_enter Tryd.func7, Tryd.ntmps7
  go_wp2_with fail
  refine (awake_walk w).mono ?_
  rintro e w1 ⟨rfl, hb1⟩
  have B1 : Hid (Below w.heap.size w w1) := hb1
  clear hb1
  go_wp2_with fail
  go_loopg [5, 6] n (fun k lv iv wr => ∃ (i : Nat), iv = .int .i64 i ∧ i + k = n ∧ Hid (OwnG encP 38 wr w1.heap.size lv (ss.take i) ∧ Below w1.heap.size w1 wr))
  case atStart => exact ⟨0, rfl, by omega, OwnG.nil _ _ _ _, Below.refl _ _⟩
  case round =>
    obtain ⟨i, rfl, hi, HR⟩ := hrel
    by_cases hin : i < n
    · have id : (i : Int) < (n : Int) := by omega
      obtain ⟨⟨x, y⟩, hx⟩ := get_at (ss := ss) (i := i) (by rw [H.out.2]; exact hin)
      have RT := (H.out.1.below B1.out).below (w' := wr) (HR.out.2)
      obtain ⟨b1, o1, rfl, hlt⟩ := RT.some_of hx
      obtain ⟨c1, c2⟩ := RT.pairs hx
      have X : Hid (ss[i]? = some (x, y)) := hx
      clear RT hx
      go_wp2_with fail
      have B0 : Hid (Below wr.heap.size wr (wr.drew.alloc (.cells #[.int .i64 x, .int .i64 y] 38))) := ((Turned.refl (fun _ => False) wr).drew.alloc _).below (Nat.le_refl _) (fun _ _ q => q)
      have hil : (ss.take i).length ≤ 8796093022206 := by rw [List.length_take]; omega
      go_region_law (refine stepG_one encP 38 32 16 _ rfl info38 Tryd.underlying32 rfl (.tmp 15) (.tmp 27) rfl w1.heap.size _ (ss.take i) (x, y) (by simp [Act.eval]) (HR.out.1.below B0.out) wr.heap.size (by simp [Act.eval]) (cells_new encP wr.drew (x, y) 38) (by omega) (by simp only [maxLen]; omega) (Nat.le_trans HR.out.2.size B0.out.size) ?_; intro v' w' hown' hbel')
      all_goals have hb2 : Hid (Below w1.heap.size wr w') := (B0.out.mono HR.out.2.size).trans hbel'
      all_goals clear hbel'
      all_goals go_wp2
      all_goals go_roundg (gk - 1)
      all_goals first
        | omega
        | exact ⟨i + 1, by go_num, by omega, by rw [List.take_add_one, X.out]; exact hown', HR.out.2.trans hb2.out⟩
    · obtain rfl : i = n := by omega
      obtain ⟨f, hf⟩ : ∃ f, ss.any (inRun z) = f := ⟨_, rfl⟩
      have hown := HR.out.1
      rw [List.take_of_length_le (by rw [H.out.2]; omega)] at hown
      obtain ⟨al, cl, rfl, _, _, Rl, _⟩ := hown.form
      have R0 := (H.out.1.below B1.out).below HR.out.2
      have h1 := in_any (c := c) z wr R0 H.out.2 (by omega) f hf
      have RL : Hid (RdG encP wr al ss ∧ ss.any (inRun z) = f) := ⟨Rl, hf⟩
      rw [H.out.2]
      clear hown Rl R0 hf
      go_wp2_with fail
      refine h1.mono ?_
      rintro e w2 ⟨rfl, hb2⟩
      have h2 := rin_any (c := cl) z w2 (RL.out.1.below hb2) H.out.2 (by omega) f RL.out.2
      have B2 : Hid (Below wr.heap.size wr w2) := hb2
      clear hb2 h1
      go_wp2_with fail
      refine h2.mono ?_
      rintro e w3 ⟨rfl, rfl⟩
      clear h2
      cases f
      all_goals go_wp2
      all_goals go_ret
      all_goals exact ⟨rfl, B1.out.trans ((HR.out.2.trans (B2.out.mono HR.out.2.size)).mono B1.out.size)⟩

end Go.Proofs.YtnodkpnbfklmhaaDoor
