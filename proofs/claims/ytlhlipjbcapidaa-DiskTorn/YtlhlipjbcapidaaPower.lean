/-
  disk.New, write, Writes, Dead, Cut and Restart, each by a contract over the document's disk. No condition but that fewer raw writes were done than any int can count.
-/
import Derived.Test.YtlhlipjbcapidaaDisk
import Derived.Test.YtlhlipjbcapidaaPSmall
namespace Go.Proofs.Ytlhlipjbcapidaa
open Go.RowKit

theorem dnext_dead {d : Dk} (h : d.dead = true) : dnext d = (d, false, false) := by simp [dnext, h]
theorem dnext_torn {d : Dk} (h : d.dead = false) (ha : d.armed = true) (h0 : d.after = 0) : dnext d = ({ d with dead := true, armed := false }, false, true) := by simp [dnext, h, ha, h0]
theorem dnext_armed {d : Dk} (h : d.dead = false) (ha : d.armed = true) (h0 : d.after ≠ 0) : dnext d = ({ d with after := d.after - 1, writes := d.writes + 1 }, true, false) := by simp [dnext, h, ha, h0]
theorem dnext_plain {d : Dk} (h : d.dead = false) (ha : d.armed = false) : dnext d = ({ d with writes := d.writes + 1 }, true, false) := by simp [dnext, h, ha]

section
variable {S : Nat → Prop} {w : World} {b m : Nat} {f : Bs → Option Value} {a k : Int} {d : Dk}

set_option maxHeartbeats 800000 in
theorem write_dead (h : DiskM w b m f a k d S) (hd : d.dead = true) :
    Calls Try.prog 38 #[.pointer (some ⟨b, 0, none⟩)] w fun e w' => e = .returned (.int .i64 8) ∧ w' = w := by
  obtain ⟨c0, c1, c2, c3, c4, c5, cf⟩ := h.cell
  rw [hd] at c2
  have H : Hid _ := h
  clear h hd
  go_enter Try.func38, Try.ntmps38
  go_wp2
  go_ret
  exact ⟨rfl, rfl⟩

set_option maxHeartbeats 800000 in
theorem write_torn (h : DiskM w b m f a k d S) (hd : d.dead = false) (ha : d.armed = true) (h0 : d.after = 0) :
    Calls Try.prog 38 #[.pointer (some ⟨b, 0, none⟩)] w fun e w' => e = .returned (.int .i64 8) ∧ DiskM w' b m f a k { d with dead := true, armed := false } S ∧ Turned (fun i => i = b) w w' := by
  obtain ⟨c0, c1, c2, c3, c4, c5, cf⟩ := h.cell
  have f2 := cf 2
  have f3 := cf 3
  have ea := (h.cut ha).1
  rw [h0] at ea
  subst ea
  rw [hd] at c2
  rw [ha] at c3
  have H : Hid _ := h
  clear h cf
  have HD : Hid _ := And.intro hd ha
  clear hd ha
  go_enter Try.func38, Try.ntmps38
  go_wp2
  go_ret
  have h1 := set_block (set_block H.out.cells 3 (.bool false)) 2 (.bool true)
  have t1 : Turned (fun i => i = b) w ((w.setCell ⟨b, 3, none⟩ (.bool false)).setCell ⟨b, 2, none⟩ (.bool true)) := (turned_set 3 _).trans (turned_set 2 _) (fun _ _ q => q)
  refine ⟨rfl, DiskM.wrote H.out t1 (d' := { d with dead := true, armed := false }) rfl (by rw [h1]; simp [HD.out]) (by simp), t1⟩

set_option maxHeartbeats 800000 in
theorem write_armed (h : DiskM w b m f a k d S) (hd : d.dead = false) (ha : d.armed = true) (h0 : d.after ≠ 0) (hb : d.after < 9223372036854775808) (hw : d.writes < 4611686018427387904) :
    Calls Try.prog 38 #[.pointer (some ⟨b, 0, none⟩)] w fun e w' => ∃ a', e = .returned (.int .i64 0) ∧ DiskM w' b m f a' k { d with after := d.after - 1, writes := d.writes + 1 } S ∧ Turned (fun i => i = b) w w' := by
  obtain ⟨c0, c1, c2, c3, c4, c5, cf⟩ := h.cell
  have f1 := cf 1
  have f4 := cf 4
  obtain ⟨ea, ek⟩ := h.cut ha
  rw [hd] at c2
  rw [ha] at c3
  have H : Hid _ := h
  clear h cf
  have HD : Hid _ := And.intro hd (And.intro ha ek)
  clear hd ha ek
  obtain ⟨n, hn⟩ : ∃ n, d.after = n + 1 := ⟨d.after - 1, by omega⟩
  have N : Hid (d.after = n + 1) := hn
  have hn1 : n < 9223372036854775807 := by omega
  have ea' : a = ((n + 1 : Nat) : Int) := by rw [ea, hn]
  clear hn ea h0 hb
  subst ea'
  have z : (((n + 1 : Nat) : Int) == 0) = false := by simp; omega
  obtain ⟨q, hq⟩ : ∃ q, d.writes = q := ⟨_, rfl⟩
  rw [hq] at c1 hw
  go_enter Try.func38, Try.ntmps38
  go_wp2
  go_ret
  have h1 := set_block (set_block H.out.cells 4 (.int .i64 (n : Int))) 1 (.int .i64 ((q : Int) + 1))
  have t1 : Turned (fun i => i = b) w ((w.setCell ⟨b, 4, none⟩ (.int .i64 (n : Int))).setCell ⟨b, 1, none⟩ (.int .i64 ((q : Int) + 1))) := (turned_set 4 _).trans (turned_set 1 _) (fun _ _ q => q)
  refine ⟨n, rfl, DiskM.wrote H.out t1 (d' := { d with after := d.after - 1, writes := d.writes + 1 }) rfl (by rw [h1]; simp [HD.out, hq]) (fun _ => ⟨by rw [N.out]; rfl, HD.out.2.2⟩), t1⟩

set_option maxHeartbeats 800000 in
theorem write_plain (h : DiskM w b m f a k d S) (hd : d.dead = false) (ha : d.armed = false) (hw : d.writes < 4611686018427387904) :
    Calls Try.prog 38 #[.pointer (some ⟨b, 0, none⟩)] w fun e w' => e = .returned (.int .i64 0) ∧ DiskM w' b m f a k { d with writes := d.writes + 1 } S ∧ Turned (fun i => i = b) w w' := by
  obtain ⟨c0, c1, c2, c3, c4, c5, cf⟩ := h.cell
  have f1 := cf 1
  rw [hd] at c2
  rw [ha] at c3
  have H : Hid _ := h
  clear h cf
  have HD : Hid _ := And.intro hd ha
  clear hd ha
  obtain ⟨q, hq⟩ : ∃ q, d.writes = q := ⟨_, rfl⟩
  rw [hq] at c1 hw
  go_enter Try.func38, Try.ntmps38
  go_wp2
  go_ret
  have h1 := set_block H.out.cells 1 (.int .i64 ((q : Int) + 1))
  have t1 : Turned (fun i => i = b) w (w.setCell ⟨b, 1, none⟩ (.int .i64 ((q : Int) + 1))) := turned_set 1 _
  refine ⟨rfl, DiskM.wrote H.out t1 (d' := { d with writes := d.writes + 1 }) rfl (by rw [h1]; simp [HD.out, hq]) (fun e => by rw [show ({ d with writes := d.writes + 1 } : Dk).armed = d.armed from rfl, HD.out.2] at e; cases e), t1⟩

/-- A raw write that isn't refused: counted, or the power goes off in it, or it is off. -/
theorem write_any (h : DiskM w b m f a k d S) (hb : d.after < 9223372036854775808) (hw : d.writes < 4611686018427387904) :
    Calls Try.prog 38 #[.pointer (some ⟨b, 0, none⟩)] w fun e w' => ∃ r a', e = .returned (.int .i64 r) ∧ Hid (r = if (dnext d).2.1 then 0 else 8) ∧ DiskM w' b m f a' k (dnext d).1 S ∧ Turned (fun i => i = b) w w' := by
  by_cases hd : d.dead = true
  · refine (write_dead h hd).mono ?_
    rintro e w' ⟨rfl, rfl⟩
    rw [dnext_dead hd]
    exact ⟨8, a, rfl, rfl, h, Turned.refl _ _⟩
  · have hd : d.dead = false := by simpa using hd
    by_cases ha : d.armed = true
    · by_cases h0 : d.after = 0
      · refine (write_torn h hd ha h0).mono ?_
        rintro e w' ⟨rfl, h1, h2⟩
        rw [dnext_torn hd ha h0]
        exact ⟨8, a, rfl, rfl, h1, h2⟩
      · refine (write_armed h hd ha h0 hb hw).mono ?_
        rintro e w' ⟨a', rfl, h1, h2⟩
        rw [dnext_armed hd ha h0]
        exact ⟨0, a', rfl, rfl, h1, h2⟩
    · have ha : d.armed = false := by simpa using ha
      refine (write_plain h hd ha hw).mono ?_
      rintro e w' ⟨rfl, h1, h2⟩
      rw [dnext_plain hd ha]
      exact ⟨0, a, rfl, rfl, h1, h2⟩

set_option maxHeartbeats 400000 in
theorem writes_at (h : DiskAt w b d S) : Calls Try.prog 23 #[.pointer (some ⟨b, 0, none⟩)] w fun e w' => e = .returned (.int .i64 (d.writes : Int)) ∧ w' = w := by
  obtain ⟨m, f, a, k, h⟩ := h
  obtain ⟨c0, c1, c2, c3, c4, c5, cf⟩ := h.cell
  have H : Hid _ := h
  clear h
  go_enter Try.func23, Try.ntmps23
  go_wp2
  go_ret
  exact ⟨rfl, rfl⟩

set_option maxHeartbeats 400000 in
theorem dead_at (h : DiskAt w b d S) : Calls Try.prog 18 #[.pointer (some ⟨b, 0, none⟩)] w fun e w' => e = .returned (.bool d.dead) ∧ w' = w := by
  obtain ⟨m, f, a, k, h⟩ := h
  obtain ⟨c0, c1, c2, c3, c4, c5, cf⟩ := h.cell
  have H : Hid _ := h
  clear h
  go_enter Try.func18, Try.ntmps18
  go_wp2
  go_ret
  exact ⟨rfl, rfl⟩

set_option maxHeartbeats 800000 in
theorem restart_at (h : DiskAt w b d S) : Calls Try.prog 12 #[.pointer (some ⟨b, 0, none⟩)] w fun e w' => e = .returned (.tuple #[]) ∧ DiskAt w' b (dres d) S ∧ Turned (fun i => i = b) w w' := by
  obtain ⟨m, f, a, k, h⟩ := h
  obtain ⟨c0, c1, c2, c3, c4, c5, cf⟩ := h.cell
  have f2 := cf 2
  have f3 := cf 3
  have f4 := cf 4
  have f5 := cf 5
  have H : Hid _ := h
  clear h cf
  go_enter Try.func12, Try.ntmps12
  go_wp2
  go_end0
  have h1 := set_block (set_block (set_block (set_block H.out.cells 2 (.bool false)) 3 (.bool false)) 4 (.int .i64 0)) 5 (.int .i64 0)
  have t1 : Turned (fun i => i = b) w ((((w.setCell ⟨b, 2, none⟩ (.bool false)).setCell ⟨b, 3, none⟩ (.bool false)).setCell ⟨b, 4, none⟩ (.int .i64 0)).setCell ⟨b, 5, none⟩ (.int .i64 0)) :=
    (((turned_set 2 _).trans (turned_set 3 _) (fun _ _ q => q)).trans (turned_set 4 _) (fun _ _ q => q)).trans (turned_set 5 _) (fun _ _ q => q)
  refine ⟨rfl, ⟨m, f, 0, 0, DiskM.wrote H.out t1 (d' := dres d) rfl (by rw [h1]; simp [dres]) (by simp [dres])⟩, t1⟩

set_option maxHeartbeats 800000 in
theorem cut_bad (b : Nat) {x y : Int} (hx : -9223372036854775808 ≤ x ∧ x ≤ 9223372036854775807) (hy : -9223372036854775808 ≤ y ∧ y ≤ 9223372036854775807) (hn : x < 0 ∨ y < 0) :
    Calls Try.prog 13 #[.pointer (some ⟨b, 0, none⟩), .int .i64 x, .int .i64 y] w fun e w' => e = .returned (.int .i64 3) ∧ w' = w := by
  by_cases h1 : x < 0
  · have p : decide (x < 0) = true := by simpa using h1
    go_enter Try.func13, Try.ntmps13
    go_wp2
    go_ret
    exact ⟨rfl, rfl⟩
  · have p : decide (x < 0) = false := by simpa using h1
    have h2 : y < 0 := by omega
    have p2 : decide (y < 0) = true := by simpa using h2
    go_enter Try.func13, Try.ntmps13
    go_wp2
    go_ret
    exact ⟨rfl, rfl⟩

set_option maxHeartbeats 800000 in
theorem cut_dead (h : DiskM w b m f a k d S) (hd : d.dead = true) {x y : Int} (h1 : 0 ≤ x) (h2 : 0 ≤ y) :
    Calls Try.prog 13 #[.pointer (some ⟨b, 0, none⟩), .int .i64 x, .int .i64 y] w fun e w' => e = .returned (.int .i64 8) ∧ w' = w := by
  obtain ⟨c0, c1, c2, c3, c4, c5, cf⟩ := h.cell
  rw [hd] at c2
  have H : Hid _ := h
  clear h
  have p : decide (x < 0) = false := by simpa using h1
  have p2 : decide (y < 0) = false := by simpa using h2
  go_enter Try.func13, Try.ntmps13
  go_wp2
  go_ret
  exact ⟨rfl, rfl⟩

set_option maxHeartbeats 800000 in
theorem cut_ok (h : DiskM w b m f a k d S) (hd : d.dead = false) {x y : Int} (h1 : 0 ≤ x) (h2 : 0 ≤ y) :
    Calls Try.prog 13 #[.pointer (some ⟨b, 0, none⟩), .int .i64 x, .int .i64 y] w fun e w' => e = .returned (.int .i64 0) ∧ DiskM w' b m f x y { d with armed := true, after := x.toNat, keep := y.toNat } S ∧ Turned (fun i => i = b) w w' := by
  obtain ⟨c0, c1, c2, c3, c4, c5, cf⟩ := h.cell
  rw [hd] at c2
  have f3 := cf 3
  have f4 := cf 4
  have f5 := cf 5
  have H : Hid _ := h
  have HD : Hid _ := hd
  clear h cf hd
  have p : decide (x < 0) = false := by simpa using h1
  have p2 : decide (y < 0) = false := by simpa using h2
  go_enter Try.func13, Try.ntmps13
  go_wp2
  go_ret
  have e1 := set_block (set_block (set_block H.out.cells 3 (.bool true)) 4 (.int .i64 x)) 5 (.int .i64 y)
  have t1 : Turned (fun i => i = b) w (((w.setCell ⟨b, 3, none⟩ (.bool true)).setCell ⟨b, 4, none⟩ (.int .i64 x)).setCell ⟨b, 5, none⟩ (.int .i64 y)) :=
    ((turned_set 3 _).trans (turned_set 4 _) (fun _ _ q => q)).trans (turned_set 5 _) (fun _ _ q => q)
  refine ⟨rfl, DiskM.wrote H.out t1 (d' := { d with armed := true, after := x.toNat, keep := y.toNat }) rfl (by rw [e1]; simp [HD.out]) (fun _ => ⟨(Int.toNat_of_nonneg h1).symm, (Int.toNat_of_nonneg h2).symm⟩), t1⟩

/-- disk.Cut. -/
theorem cut_at (h : DiskAt w b d S) {x y : Int} (hx : -9223372036854775808 ≤ x ∧ x ≤ 9223372036854775807) (hy : -9223372036854775808 ≤ y ∧ y ≤ 9223372036854775807) :
    Calls Try.prog 13 #[.pointer (some ⟨b, 0, none⟩), .int .i64 x, .int .i64 y] w fun e w' => ∃ r, e = .returned (.int .i64 r) ∧ Hid (r = (dcut d x y).2) ∧ DiskAt w' b (dcut d x y).1 S ∧ Turned (fun i => i = b) w w' := by
  unfold dcut
  by_cases hn : x < 0 ∨ y < 0
  · refine (cut_bad b hx hy hn).mono ?_
    rintro e w' ⟨rfl, rfl⟩
    rw [if_pos hn]
    exact ⟨3, rfl, rfl, h, Turned.refl _ _⟩
  · obtain ⟨m, f, a, k, h⟩ := h
    rw [if_neg hn]
    by_cases hd : d.dead = true
    · refine (cut_dead h hd (by omega) (by omega)).mono ?_
      rintro e w' ⟨rfl, rfl⟩
      rw [if_pos hd]
      exact ⟨8, rfl, rfl, ⟨m, f, a, k, h⟩, Turned.refl _ _⟩
    · have hd' : d.dead = false := by simpa using hd
      refine (cut_ok h hd' (by omega) (by omega)).mono ?_
      rintro e w' ⟨rfl, h1, h2⟩
      rw [if_neg hd]
      exact ⟨0, rfl, rfl, ⟨m, f, _, _, h1⟩, h2⟩

end

theorem files_none (w : World) (m : Nat) (S : Nat → Prop) (hm : w.heap[m]? = some (.map #[] 0)) : FilesX w m S [] (fun _ => none) (fun _ => False) where
  map := ⟨.map [], ⟨#[], 0, hm, ⟨by simp, MapKept.stamped_empty 0, by simp⟩, Nat.le_refl _, rfl⟩, rfl, fun _ => rfl, fun _ _ h => by cases h⟩
  no := fun _ _ => rfl
  yes := fun x bs h => by simp [fget] at h
  apart := fun x y u v g _ h => by cases h
  own := fun x v g h => by cases h

set_option maxHeartbeats 800000 in
/-- disk.New: a disk without files, in new blocks. -/
theorem new_any (w : World) : Calls Try.prog 8 #[] w fun e w' => ∃ b, e = .returned (.pointer (some ⟨b, 0, none⟩)) ∧ DiskAt w' b dk0 (fun i => w.heap.size ≤ i ∧ i < w'.heap.size) ∧ Below w.heap.size w w' := by
  have hmk := run_makeMap (P := Try.prog) 54 w
  go_enter Try.func8, Try.ntmps8
  go_wp2
  go_ret
  have e : (w.alloc (.map #[] 0)).heap.size = w.heap.size + 1 := by simp
  have e2 : ∀ o, ((w.alloc (.map #[] 0)).alloc o).heap.size = w.heap.size + 2 := by intro o; simp
  refine ⟨w.heap.size + 1, rfl, ⟨w.heap.size, fun _ => none, 0, 0, ⟨?_, by simp [dk0], files_none _ _ _ ?_, ⟨⟨by omega, by rw [e2]; omega⟩, ⟨Nat.le_refl _, by rw [e2]; omega⟩⟩, fun i hi => hi.2⟩⟩, bz2 _ _ _⟩
  · have := heap_alloc_new (w.alloc (.map #[] 0)) (.cells #[.map (some w.heap.size), .int .i64 0, .bool false, .bool false, .int .i64 0, .int .i64 0] 58)
    rw [e] at this
    exact this
  · exact (Below.heap_alloc _ _ w.heap.size (by simp)).trans (heap_alloc_new w _)
end Go.Proofs.Ytlhlipjbcapidaa
