/-
  The numbers that each law of this seat asks first: the walk of 'awake'.
-/
import Derived.Test.YtdnoeeghmfbcbaaPar
import Derived.Test.YtdnoeeghmfbcbaaChk
import Derived.Lib.SlBytesConst
namespace Go.Proofs.Ytdnoeeghmfbcbaa
open Go.RowKit

theorem par_ff : parOf { data := #[48, 48, 48, 48, 48, 48, 48, 48, 48, 48, 48, 48, 48, 48, 102, 102] } = (255, 0) := by decide +kernel
theorem id_0 : idFolds (idStep 14695981039346656037 (0 % 256)) [] = 12638153115695167455 := by decide +kernel
theorem hex_0 : hexS 12638153115695167455 = { data := #[97, 102, 54, 51, 98, 100, 52, 99, 56, 54, 48, 49, 98, 55, 100, 102] } := by decide +kernel
theorem hex_255 : hexS 255 = { data := #[48, 48, 48, 48, 48, 48, 48, 48, 48, 48, 48, 48, 48, 48, 102, 102] } := by decide +kernel
theorem chk_9 : 4294967295 - chkFolds 4294967295 [[49, 50, 51, 52, 53, 54, 55, 56, 57]] = 3421780262 := by decide +kernel

theorem par_awake (w : World) : Calls Try.prog 15 #[.string { data := #[48, 48, 48, 48, 48, 48, 48, 48, 48, 48, 48, 48, 48, 48, 102, 102] }] w fun e w' => e = .returned (.tuple #[.int .u64 255, .int .i64 0]) ∧ w' = w := by
  have h := par_any { data := #[48, 48, 48, 48, 48, 48, 48, 48, 48, 48, 48, 48, 48, 48, 102, 102] } w
  rw [par_ff] at h
  exact h
theorem id_awake (w : World) : Calls Try.prog 8 #[.int .i64 0, .slice none 0 0] w fun e w' => e = .returned (.int .u64 12638153115695167455) ∧ w' = w := by
  have h := id_any 0 (.slice none 0 0) [] w ⟨none, 0, rfl, by decide, .inl rfl⟩
  rw [id_0] at h
  exact h
theorem hex0_awake (w : World) : Calls Try.prog 14 #[.int .u64 12638153115695167455] w fun e w' => e = .returned (.string { data := #[97, 102, 54, 51, 98, 100, 52, 99, 56, 54, 48, 49, 98, 55, 100, 102] }) ∧ Below w.heap.size w w' := by
  have h := hex_any 12638153115695167455 (by decide) (by decide) w
  rw [hex_0] at h
  exact h
theorem hex255_awake (w : World) : Calls Try.prog 14 #[.int .u64 255] w fun e w' => e = .returned (.string { data := #[48, 48, 48, 48, 48, 48, 48, 48, 48, 48, 48, 48, 48, 48, 102, 102] }) ∧ Below w.heap.size w w' := by
  have h := hex_any 255 (by decide) (by decide) w
  rw [hex_255] at h
  exact h

theorem nine (w1 : World) (C : Array Value) (hC : C = #[Value.int IntKind.u8 49, Value.int IntKind.u8 50, Value.int IntKind.u8 51, Value.int IntKind.u8 52, Value.int IntKind.u8 53, Value.int IntKind.u8 54, Value.int IntKind.u8 55, Value.int IntKind.u8 56, Value.int IntKind.u8 57]) :
    PartsAt ((w1.alloc (.cells C 5 (9, 10))).alloc (.cells #[.slice (some ⟨w1.heap.size, 0, none⟩) 9 9] 22)) (.slice (some ⟨w1.heap.size + 1, 0, none⟩) 1 1) [[49, 50, 51, 52, 53, 54, 55, 56, 57]] := by
  refine ⟨_, 1, rfl, by decide, .inr ⟨_, 0, rfl, ?_⟩⟩
  intro j hj
  have hj0 : j = 0 := by simpa using hj
  subst hj0
  refine ⟨.slice (some ⟨w1.heap.size, 0, none⟩) 9 9, ?_, _, 9, rfl, by decide, .inr ⟨_, 0, rfl, ?_⟩⟩
  · have h := World.cell?_alloc_at (w := w1.alloc (.cells C 5 (9, 10))) #[Value.slice (some ⟨w1.heap.size, 0, none⟩) 9 9] 22 (w1.heap.size + 1) 0 (World.size_alloc _ _).symm
    exact h
  · intro i hi
    have hi9 : i < 9 := hi
    rw [World.cell?_alloc_past _ _ _ (by rw [World.size_alloc]; omega), World.cell?_alloc_mark, hC]
    match i, hi9 with
    | 0, _ | 1, _ | 2, _ | 3, _ | 4, _ | 5, _ | 6, _ | 7, _ | 8, _ => rfl
    | n + 9, h => omega
theorem chk_awake (w1 : World) (C : Array Value) (hC : C = #[Value.int IntKind.u8 49, Value.int IntKind.u8 50, Value.int IntKind.u8 51, Value.int IntKind.u8 52, Value.int IntKind.u8 53, Value.int IntKind.u8 54, Value.int IntKind.u8 55, Value.int IntKind.u8 56, Value.int IntKind.u8 57]) :
    Calls Try.prog 10 #[.slice (some ⟨w1.heap.size + 1, 0, none⟩) 1 1] ((w1.alloc (.cells C 5 (9, 10))).alloc (.cells #[.slice (some ⟨w1.heap.size, 0, none⟩) 9 9] 22)) fun e w' =>
      e = .returned (.int .u32 3421780262) ∧ w' = ((w1.alloc (.cells C 5 (9, 10))).alloc (.cells #[.slice (some ⟨w1.heap.size, 0, none⟩) 9 9] 22)) := by
  have h := chk_any _ _ _ (nine w1 C hC)
  rw [chk_9] at h
  exact h

set_option maxHeartbeats 800000 in
theorem awake_any (w : World) : Calls Try.prog 7 #[] w fun e w' => e = .returned (.bool true) ∧ Below w.heap.size w w' := by
  have kc := fun (w : World) (C : Array Value) (n c : Nat) => Lib.run_convert_bytes_const (P := Try.prog) w 22 5 C n c Try.underlying22 Try.underlying5
  go_enter Try.func7, Try.ntmps7
  go_wp2_with (first
    | (go_at_call 15; refine (par_awake _).mono ?_; rintro e w' ⟨rfl, rfl⟩)
    | (go_at_call 8; refine (id_awake _).mono ?_; rintro e w' ⟨rfl, rfl⟩))
  refine (hex0_awake _).mono ?_
  rintro e w1 ⟨rfl, hb1⟩
  go_wp2_with fail
  refine (chk_awake w1 _ rfl).mono ?_
  rintro e w2 ⟨rfl, rfl⟩
  go_wp2_with fail
  refine (hex255_awake _).mono ?_
  rintro e w2 ⟨rfl, hb2⟩
  go_wp2_with fail
  go_ret
  refine ⟨rfl, ?_⟩
  exact ((hb1.alloc hb1.size _).alloc (by rw [World.size_alloc]; have := hb1.size; omega) _).trans (hb2.mono (by rw [World.size_alloc, World.size_alloc]; have := hb1.size; omega))
end Go.Proofs.Ytdnoeeghmfbcbaa
