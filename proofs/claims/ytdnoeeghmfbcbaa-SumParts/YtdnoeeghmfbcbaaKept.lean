/-
  Bytes that are read behind calls which only make new blocks: they stay.
-/
import Derived.Test.YtdnoeeghmfbcbaaAwake
namespace Go.Proofs.Ytdnoeeghmfbcbaa
open Go.RowKit

theorem cell_lt {w : World} {a : Addr} {v : Value} (h : w.cell? a = some v) : a.block < w.heap.size := by
  rcases Nat.lt_or_ge a.block w.heap.size with h' | h'
  · exact h'
  · unfold World.cell? at h
    rw [Array.getElem?_eq_none h'] at h
    simp at h

theorem BytesAt.below {w w' : World} {v : Value} {zs : List Int} (h : BytesAt w v zs) (hb : Below w.heap.size w w') : BytesAt w' v zs := by
  obtain ⟨a, cap, rfl, hl, h⟩ := h
  refine ⟨a, cap, rfl, hl, ?_⟩
  rcases h with h | ⟨b, off, rfl, hc⟩
  · exact .inl h
  · exact .inr ⟨b, off, rfl, fun j hj => by rw [hb.cell (cell_lt (hc j hj))]; exact hc j hj⟩

theorem PartsAt.below {w w' : World} {v : Value} {zss : List (List Int)} (h : PartsAt w v zss) (hb : Below w.heap.size w w') : PartsAt w' v zss := by
  obtain ⟨a, cap, rfl, hl, h⟩ := h
  refine ⟨a, cap, rfl, hl, ?_⟩
  rcases h with h | ⟨b, off, rfl, hc⟩
  · exact .inl h
  · refine .inr ⟨b, off, rfl, fun j hj => ?_⟩
    obtain ⟨u, hu, hB⟩ := hc j hj
    exact ⟨u, by rw [hb.cell (cell_lt hu)]; exact hu, hB.below hb⟩

/-- One part, in a new block. -/
theorem onePart {w : World} {v : Value} {zs : List Int} (h : BytesAt w v zs) : PartsAt (w.alloc (.cells #[v] 22)) (.slice (some ⟨w.heap.size, 0, none⟩) 1 1) [zs] := by
  refine ⟨_, 1, rfl, by simp, .inr ⟨_, 0, rfl, ?_⟩⟩
  intro j hj
  have hj0 : j = 0 := by simpa using hj
  subst hj0
  exact ⟨v, World.cell?_alloc_new w #[v] 22 0, h.below ((Below.refl _ _).alloc (Nat.le_refl _) _)⟩

theorem id_one (kind : Int) (v : Value) (zs : List Int) (w : World) (h : BytesAt w v zs) :
    Calls Try.prog 8 #[.int .i64 kind, .slice (some ⟨w.heap.size, 0, none⟩) 1 1] (w.alloc (.cells #[v] 22)) fun e w' => e = .returned (.int .u64 (idFold (idStep 14695981039346656037 (kind % 256)) zs)) ∧ w' = w.alloc (.cells #[v] 22) :=
  id_any kind _ [zs] _ (onePart h)
theorem chk_one (v : Value) (zs : List Int) (w : World) (g : Nat) (hg : g = w.heap.size) (h : BytesAt w v zs) :
    Calls Try.prog 10 #[.slice (some ⟨g, 0, none⟩) 1 1] (w.alloc (.cells #[v] 22)) fun e w' => e = .returned (.int .u32 (4294967295 - chkFold 4294967295 zs)) ∧ w' = w.alloc (.cells #[v] 22) := by
  subst hg
  exact chk_any _ [zs] _ (onePart h)

set_option maxHeartbeats 800000 in
theorem ids_walk (kind : Int) (v : Value) (zs : List Int) (w : World) (h : BytesAt w v zs) :
    Calls Try.prog 3 #[.int .i64 kind, v] w fun e w' => e = .returned (.bool true) ∧ Below w.heap.size w w' := by
  obtain ⟨a, cap, hv⟩ : ∃ a cap, v = .slice a zs.length cap := by obtain ⟨a, cap, hv, _⟩ := h; exact ⟨a, cap, hv⟩
  subst hv
  have H : Hid (BytesAt w (.slice a zs.length cap) zs) := h
  clear h
  go_enter Try.func3, Try.ntmps3
  go_wp2_with fail
  refine (awake_any _).mono ?_
  rintro e w1 ⟨rfl, hb1⟩
  have h1 := H.out.below hb1
  have hb2 := hb1.alloc hb1.size (.cells #[.slice a zs.length cap] 22)
  have h2 := H.out.below hb2
  have H1 : Hid (BytesAt w1 (.slice a zs.length cap) zs) := h1
  have H2 : Hid (BytesAt (w1.alloc (.cells #[.slice a zs.length cap] 22)) (.slice a zs.length cap) zs) := h2
  clear h1 h2
  go_wp2_with fail
  refine (id_one kind _ zs _ H1.out).mono ?_
  rintro e w2 ⟨rfl, rfl⟩
  go_wp2_with fail
  refine (rid_any kind _ zs _ H2.out).mono ?_
  rintro e w2 ⟨rfl, rfl⟩
  go_wp2_with fail
  refine (chk_one (.slice a zs.length cap) zs (w1.alloc (.cells #[.slice a zs.length cap] 22)) (w1.heap.size + 1) (World.size_alloc _ _).symm H2.out).mono ?_
  rintro e w2 ⟨rfl, rfl⟩
  have hb3 := hb2.alloc hb2.size (.cells #[.slice a zs.length cap] 22)
  have h3 := H.out.below hb3
  have H3 : Hid (BytesAt ((w1.alloc (.cells #[.slice a zs.length cap] 22)).alloc (.cells #[.slice a zs.length cap] 22)) (.slice a zs.length cap) zs) := h3
  clear h3
  go_wp2_with fail
  refine (rchk_any _ zs _ H3.out).mono ?_
  rintro e w2 ⟨rfl, rfl⟩
  go_wp2_with fail
  go_ret
  exact ⟨rfl, hb3⟩
end Go.Proofs.Ytdnoeeghmfbcbaa
