/-
  The statements' awake: it returns true, and turns nothing that was there. No condition.
-/
import Derived.Test.YtlhlipjbcapidaaTalk
import Derived.Test.YtlhlipjbcapidaaOks
namespace Go.Proofs.Ytlhlipjbcapidaa
open Go.RowKit

theorem bz_turned {S : Nat → Prop} {w w' : World} (hB : Below w.heap.size w w') : Turned S w w' := Turned.ofBelow hB

/-- A disk in blocks from B on, behind whatever was done to it and to new blocks. -/
structure Mine (B : Nat) (w w' : World) (b : Nat) (d : Dk) (S : Nat → Prop) : Prop where
  disk : DiskAt w' b d S
  low : ∀ i, S i → B ≤ i
  bel : Below B w w'

theorem Mine.step {B : Nat} {w w' w'' : World} {b : Nat} {d d' : Dk} {S : Nat → Prop} (h : Mine B w w' b d S) (hB : B ≤ w'.heap.size) (hd : DiskAt w'' b d' (Since S w' w'')) (ht : Turned S w' w'') : Mine B w w'' b d' (Since S w' w'') where
  disk := hd
  low := fun i hi => by
    rcases hi with q | q
    · exact h.low i q
    · omega
  bel := h.bel.trans (ht.below hB (fun i hi q => by have := h.low i q; omega))

theorem Mine.step0 {B : Nat} {w w' w'' : World} {b : Nat} {d d' : Dk} {S : Nat → Prop} (h : Mine B w w' b d S) (hB : B ≤ w'.heap.size) (hd : DiskAt w'' b d' S) (ht : Turned (fun i => i = b) w' w'') : Mine B w w'' b d' S where
  disk := hd
  low := h.low
  bel := h.bel.trans (ht.below hB (fun i hi q => by have := h.low b h.disk.mine; omega))

theorem Mine.below {B : Nat} {w w' w'' : World} {b : Nat} {d : Dk} {S : Nat → Prop} (h : Mine B w w' b d S) (hB : B ≤ w'.heap.size) (hb : Below w'.heap.size w' w'') : Mine B w w'' b d S :=
  ⟨h.disk.below hb, h.low, h.bel.trans (hb.mono hB)⟩

theorem Mine.size {B : Nat} {w w' : World} {b : Nat} {d : Dk} {S : Nat → Prop} (h : Mine B w w' b d S) (hB : B ≤ w.heap.size) : B ≤ w'.heap.size := Nat.le_trans hB h.bel.size

def MineE (B : Nat) (w w' : World) (b : Nat) (d : Dk) : Prop := ∃ S, Mine B w w' b d S

section
variable {B : Nat} {w W : World} {b : Nat} {d : Dk}

theorem MineE.bel (h : MineE B w W b d) : Below B w W := by obtain ⟨S, h⟩ := h; exact h.bel
theorem MineE.below {W' : World} (h : MineE B w W b d) (hB : B ≤ w.heap.size) (hb : Below W.heap.size W W') : MineE B w W' b d := by
  obtain ⟨S, h⟩ := h
  exact ⟨S, h.below (h.size hB) hb⟩

theorem mput (h : MineE B w W b d) (hB : B ≤ w.heap.size) (hk : d.ok) (hw : d.writes ≤ 1000000) (n : Bs) (hn : n.length ≤ 1000000) {v : Value} {xss : List Bs} (hp : PartsB W v xss) (hl : xss.length ≤ 2) (hx : ∀ x ∈ xss, x.length ≤ 140737488355328) :
    Calls Try.prog 17 #[.pointer (some ⟨b, 0, none⟩), tx n, v] W fun e w' => ∃ r, e = .returned (.int .i64 r) ∧ Hid (r = (dput d n xss.flatten).2) ∧ Hid (MineE B w w' b (dput d n xss.flatten).1) := by
  obtain ⟨S, h⟩ := h
  refine (put_at h.disk hk (by omega) n (by omega) hp (by omega) hx).mono ?_
  rintro e w' ⟨r, rfl, h1, h2, h3⟩
  exact ⟨r, rfl, h1, _, h.step (h.size hB) h2 h3⟩

theorem mapp (h : MineE B w W b d) (hB : B ≤ w.heap.size) (hk : d.ok) (hw : d.writes ≤ 1000000) (n : Bs) (hn : n.length ≤ 1000000) {v : Value} {xss : List Bs} (hp : PartsB W v xss) (hl : xss.length ≤ 2) (hx : ∀ x ∈ xss, x.length ≤ 140737488355328) :
    Calls Try.prog 16 #[.pointer (some ⟨b, 0, none⟩), tx n, v] W fun e w' => ∃ r, e = .returned (.int .i64 r) ∧ Hid (r = (dapp d n xss.flatten).2) ∧ Hid (MineE B w w' b (dapp d n xss.flatten).1) := by
  obtain ⟨S, h⟩ := h
  refine (append_at h.disk hk (by omega) n (by omega) hp (by omega) hx).mono ?_
  rintro e w' ⟨r, rfl, h1, h2, h3⟩
  exact ⟨r, rfl, h1, _, h.step (h.size hB) h2 h3⟩

theorem mcut (h : MineE B w W b d) (hB : B ≤ w.heap.size) {x y : Int} (hx : -9223372036854775808 ≤ x ∧ x ≤ 9223372036854775807) (hy : -9223372036854775808 ≤ y ∧ y ≤ 9223372036854775807) :
    Calls Try.prog 13 #[.pointer (some ⟨b, 0, none⟩), .int .i64 x, .int .i64 y] W fun e w' => ∃ r, e = .returned (.int .i64 r) ∧ Hid (r = (dcut d x y).2) ∧ Hid (MineE B w w' b (dcut d x y).1) := by
  obtain ⟨S, h⟩ := h
  refine (cut_at h.disk hx hy).mono ?_
  rintro e w' ⟨r, rfl, h1, h2, h3⟩
  exact ⟨r, rfl, h1, _, h.step0 (h.size hB) h2 h3⟩

theorem mread (h : MineE B w W b d) (hB : B ≤ w.heap.size) (hk : d.ok) (n : Bs) (hn : n.length ≤ 1000000) :
    Calls Try.prog 14 #[.pointer (some ⟨b, 0, none⟩), tx n] W fun e w' => ∃ v, e = .returned (.tuple #[v, .bool (fget d.files n).isSome]) ∧ Hid (OwnG encB 5 w' W.heap.size v ((fget d.files n).getD []) ∧ MineE B w w' b d) := by
  obtain ⟨S, h⟩ := h
  refine (read_at h.disk n (by simp only [maxLen]; omega) (fun bs hb => hk.get hb)).mono ?_
  rintro e w' ⟨v, rfl, h1, h2⟩
  exact ⟨v, rfl, h1, S, h.below (h.size hB) h2⟩
end

abbrev kA : Bs := [97]
def a1 : Dk := (dput dk0 kA [[49, 50]].flatten).1
def a2 : Dk := (dcut a1 1 1).1
def a3 : Dk := (dapp a2 kA [[51]].flatten).1
def a4 : Dk := (dput a3 kA [[52, 53]].flatten).1
theorem a1_ok : a1.ok := ok_put Dk.ok0 _ _
theorem a2_ok : a2.ok := ok_cut a1_ok _ _ (by omega)
theorem a3_ok : a3.ok := ok_app a2_ok _ _
theorem a4_ok : a4.ok := ok_put a3_ok _ _
theorem a_codes : (dput dk0 kA [[49, 50]].flatten).2 = 0 ∧ (dcut a1 1 1).2 = 0 ∧ (dapp a2 kA [[51]].flatten).2 = 0 ∧ (dput a3 kA [[52, 53]].flatten).2 = 8 ∧ fget a4.files kA = some [52] ∧ a4.dead = true ∧ a4.writes = 2 ∧ a1.writes = 1 ∧ a2.writes = 1 ∧ a3.writes = 2 := by
  refine ⟨?_, ?_, ?_, ?_, ?_, ?_, ?_, ?_, ?_, ?_⟩ <;> decide

set_option maxHeartbeats 3200000 in
set_option maxRecDepth 100000 in
theorem awake_walk (w : World) : Calls Try.prog 7 #[] w fun e w' => e = .returned (.bool true) ∧ Below w.heap.size w w' := by
  obtain ⟨q1, q2, q3, q4, q5, q6, q7, q8, q9, q10⟩ := a_codes
  have Q : Hid _ := And.intro q1 (And.intro q2 (And.intro q3 q4))
  clear q1 q2 q3 q4
  have kc := fun (w : World) (C : Array Value) (n c : Nat) => Lib.run_convert_bytes_const (P := Try.prog) w 31 5 C n c Try.underlying31 Try.underlying5
  go_enter Try.func7, Try.ntmps7
  go_wp2_with fail
  refine (new_any w).mono ?_
  rintro e w1 ⟨b, rfl, D1, B1⟩
  have M1 : Hid (MineE w.heap.size w w1 b dk0) := ⟨_, D1, fun _ q => q.1, B1⟩
  clear D1 B1
  go_wp2_with fail
  refine (mput (M1.out.below (Nat.le_refl _) (bz2 w1 _ _)) (Nat.le_refl _) Dk.ok0 (by decide) kA (by decide) (part_lit w1 [49, 50] 5 31 _ _ rfl 2 rfl (by decide)) (by decide) (by simp)).mono ?_
  rintro e w2 ⟨r, rfl, hr, M2⟩
  have er : r = 0 := by rw [hr.out]; exact Q.out.1
  subst er
  clear hr M1
  go_wp2_with fail
  refine (mcut M2.out (Nat.le_refl _) (by omega) (by omega)).mono ?_
  rintro e w3 ⟨r, rfl, hr, M3⟩
  have er : r = 0 := by rw [hr.out]; exact Q.out.2.1
  subst er
  clear hr M2
  go_wp2_with fail
  refine (mapp (M3.out.below (Nat.le_refl _) (bz2 w3 _ _)) (Nat.le_refl _) a2_ok (Nat.le_trans (Nat.le_of_eq q9) (by decide)) kA (by decide) (part_lit w3 [51] 5 31 _ _ rfl 1 rfl (by decide)) (by decide) (by simp)).mono ?_
  rintro e w4 ⟨r, rfl, hr, M4⟩
  have er : r = 0 := by rw [hr.out]; exact Q.out.2.2.1
  subst er
  clear hr M3
  go_wp2_with fail
  refine (mput (M4.out.below (Nat.le_refl _) (bz2 w4 _ _)) (Nat.le_refl _) a3_ok (Nat.le_trans (Nat.le_of_eq q10) (by decide)) kA (by decide) (part_lit w4 [52, 53] 5 31 _ _ rfl 2 rfl (by decide)) (by decide) (by simp)).mono ?_
  rintro e w5 ⟨r, rfl, hr, M5⟩
  have er : r = 8 := by rw [hr.out]; exact Q.out.2.2.2
  subst er
  clear hr M4
  have M5' : Hid (MineE w.heap.size w w5 b a4) := M5
  clear M5
  go_wp2_with fail
  refine (mread M5'.out (Nat.le_refl _) a4_ok kA (by decide)).mono ?_
  rintro e w6 ⟨v, rfl, M6⟩
  rw [q5] at M6 ⊢
  have hcs := conv_str (OwnB.at (OwnG.low M6.out.1 (Nat.zero_le _)))
  obtain ⟨S6, M6'⟩ := M6.out.2
  have hd := dead_at M6'.disk
  have hw := writes_at M6'.disk
  rw [q6] at hd
  rw [q7] at hw
  have BB : Hid (Below w.heap.size w w6) := M6'.bel
  clear M5' M6 M6' 
  go_wp2_with fail
  refine hd.mono ?_
  rintro e w7 ⟨rfl, hw7⟩
  rw [hw7]
  clear hw7 w7
  go_wp2_with fail
  refine hw.mono ?_
  rintro e w7 ⟨rfl, hw7⟩
  rw [hw7]
  clear hw7 w7
  go_wp2
  go_ret
  exact ⟨by simp, BB.out⟩

end Go.Proofs.Ytlhlipjbcapidaa
