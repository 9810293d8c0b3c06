/-
  The reference's next, Cut and Restart, each by a contract over the document's disk. No condition but that fewer raw writes were done than any int can count.
-/
import Derived.Test.YtlhlipjbcapidaaRWith
import Derived.Test.YtlhlipjbcapidaaPower
namespace Go.Proofs.Ytlhlipjbcapidaa
open Go.RowKit

section
variable {ao : Option Addr} {L c : Nat} {d : Dk} {w : World}

set_option maxHeartbeats 1600000 in
set_option maxRecDepth 100000 in
theorem rnext_dead (hd : d.dead = true) : Calls Try.prog 47 #[rv ao L c d] w fun e w' => e = .returned (.tuple #[rv ao L c d, .bool false, .bool false]) ∧ Below w.heap.size w w' := by
  unfold rv
  rw [hd]
  go_enter Try.func47, Try.ntmps47
  go_wp2
  refine bodyPost_ret (v := .tuple #[.agg #[.slice ao L c, .int .i64 (d.writes : Int), .bool d.armed, .bool true, .int .i64 (d.after : Int), .int .i64 (d.keep : Int)], .bool false, .bool false]) ?_ rfl ⟨rfl, bz2 _ _ _⟩
  simp [results, Try.f47]
  go_simp

set_option maxHeartbeats 1600000 in
set_option maxRecDepth 100000 in
theorem rnext_torn (hd : d.dead = false) (ha : d.armed = true) (h0 : d.after = 0) : Calls Try.prog 47 #[rv ao L c d] w fun e w' => e = .returned (.tuple #[rv ao L c { d with dead := true, armed := false }, .bool false, .bool true]) ∧ Below w.heap.size w w' := by
  unfold rv
  rw [hd, ha, h0]
  go_enter Try.func47, Try.ntmps47
  go_wp2
  refine bodyPost_ret (v := .tuple #[.agg #[.slice ao L c, .int .i64 (d.writes : Int), .bool false, .bool true, .int .i64 0, .int .i64 (d.keep : Int)], .bool false, .bool true]) ?_ rfl ⟨rfl, bz2 _ _ _⟩
  simp [results, Try.f47]
  go_simp

set_option maxHeartbeats 1600000 in
set_option maxRecDepth 100000 in
theorem rnext_armed (hd : d.dead = false) (ha : d.armed = true) (h0 : d.after ≠ 0) (hb : d.after < 9223372036854775808) (hw : d.writes < 4611686018427387904) : Calls Try.prog 47 #[rv ao L c d] w fun e w' => e = .returned (.tuple #[rv ao L c { d with after := d.after - 1, writes := d.writes + 1 }, .bool true, .bool false]) ∧ Below w.heap.size w w' := by
  unfold rv
  obtain ⟨n, hn⟩ : ∃ n, d.after = n + 1 := ⟨d.after - 1, by omega⟩
  obtain ⟨q, hq⟩ : ∃ q, d.writes = q := ⟨_, rfl⟩
  have e1 : ((d.after - 1 : Nat) : Int) = (n : Int) := by omega
  show Calls Try.prog 47 _ w fun e w' => e = .returned (.tuple #[.agg #[.slice ao L c, .int .i64 ((d.writes + 1 : Nat) : Int), .bool d.armed, .bool d.dead, .int .i64 ((d.after - 1 : Nat) : Int), .int .i64 (d.keep : Int)], .bool true, .bool false]) ∧ Below w.heap.size w w'
  rw [hd, ha, e1, hn, hq]
  rw [hq] at hw
  have hn1 : n < 9223372036854775807 := by omega
  clear e1 h0 hb hn
  have z : (((n + 1 : Nat) : Int) == 0) = false := by simp; omega
  go_enter Try.func47, Try.ntmps47
  go_wp2
  refine bodyPost_ret (v := .tuple #[.agg #[.slice ao L c, .int .i64 ((q : Int) + 1), .bool true, .bool false, .int .i64 (n : Int), .int .i64 (d.keep : Int)], .bool true, .bool false]) ?_ rfl ⟨rfl, bz2 _ _ _⟩
  simp [results, Try.f47]
  go_simp

set_option maxHeartbeats 1600000 in
set_option maxRecDepth 100000 in
theorem rnext_plain (hd : d.dead = false) (ha : d.armed = false) (hw : d.writes < 4611686018427387904) : Calls Try.prog 47 #[rv ao L c d] w fun e w' => e = .returned (.tuple #[rv ao L c { d with writes := d.writes + 1 }, .bool true, .bool false]) ∧ Below w.heap.size w w' := by
  unfold rv
  obtain ⟨q, hq⟩ : ∃ q, d.writes = q := ⟨_, rfl⟩
  show Calls Try.prog 47 _ w fun e w' => e = .returned (.tuple #[.agg #[.slice ao L c, .int .i64 ((d.writes + 1 : Nat) : Int), .bool d.armed, .bool d.dead, .int .i64 (d.after : Int), .int .i64 (d.keep : Int)], .bool true, .bool false]) ∧ Below w.heap.size w w'
  rw [hd, ha, hq]
  rw [hq] at hw
  go_enter Try.func47, Try.ntmps47
  go_wp2
  refine bodyPost_ret (v := .tuple #[.agg #[.slice ao L c, .int .i64 ((q : Int) + 1), .bool false, .bool false, .int .i64 (d.after : Int), .int .i64 (d.keep : Int)], .bool true, .bool false]) ?_ rfl ⟨rfl, bz2 _ _ _⟩
  simp [results, Try.f47]
  go_simp

/-- The reference's next. -/
theorem rnext_any (hb : d.after < 9223372036854775808) (hw : d.writes < 4611686018427387904) :
    Calls Try.prog 47 #[rv ao L c d] w fun e w' => e = .returned (.tuple #[rv ao L c (dnext d).1, .bool (dnext d).2.1, .bool (dnext d).2.2]) ∧ Below w.heap.size w w' := by
  by_cases hd : d.dead = true
  · rw [dnext_dead hd]; exact rnext_dead hd
  · have hd : d.dead = false := by simpa using hd
    by_cases ha : d.armed = true
    · by_cases h0 : d.after = 0
      · rw [dnext_torn hd ha h0]; exact rnext_torn hd ha h0
      · rw [dnext_armed hd ha h0]; exact rnext_armed hd ha h0 hb hw
    · have ha : d.armed = false := by simpa using ha
      rw [dnext_plain hd ha]; exact rnext_plain hd ha hw

set_option maxHeartbeats 1600000 in
set_option maxRecDepth 100000 in
/-- The reference's Restart. -/
theorem rrestart_any : Calls Try.prog 31 #[rv ao L c d] w fun e w' => e = .returned (rv ao L c (dres d)) ∧ Below w.heap.size w w' := by
  unfold rv
  go_enter Try.func31, Try.ntmps31
  go_wp2
  refine bodyPost_ret (v := .agg #[.slice ao L c, .int .i64 (d.writes : Int), .bool false, .bool false, .int .i64 (d.after : Int), .int .i64 (d.keep : Int)]) ?_ rfl ⟨rfl, bz2 _ _ _⟩
  simp [results, Try.f31]
  go_simp

set_option maxHeartbeats 1600000 in
set_option maxRecDepth 100000 in
theorem rcut_bad {x y : Int} (hn : x < 0 ∨ y < 0) : Calls Try.prog 30 #[rv ao L c d, .int .i64 x, .int .i64 y] w fun e w' => e = .returned (.tuple #[rv ao L c d, .int .i64 3]) ∧ Below w.heap.size w w' := by
  unfold rv
  by_cases h1 : x < 0
  · have p : decide (x < 0) = true := by simpa using h1
    go_enter Try.func30, Try.ntmps30
    go_wp2
    refine bodyPost_ret (v := .tuple #[.agg #[.slice ao L c, .int .i64 (d.writes : Int), .bool d.armed, .bool d.dead, .int .i64 (d.after : Int), .int .i64 (d.keep : Int)], .int .i64 3]) ?_ rfl ⟨rfl, bz2 _ _ _⟩
    simp [results, Try.f30]
    go_simp
  · have p : decide (x < 0) = false := by simpa using h1
    have p2 : decide (y < 0) = true := by rw [decide_eq_true_eq]; omega
    go_enter Try.func30, Try.ntmps30
    go_wp2
    refine bodyPost_ret (v := .tuple #[.agg #[.slice ao L c, .int .i64 (d.writes : Int), .bool d.armed, .bool d.dead, .int .i64 (d.after : Int), .int .i64 (d.keep : Int)], .int .i64 3]) ?_ rfl ⟨rfl, bz2 _ _ _⟩
    simp [results, Try.f30]
    go_simp

set_option maxHeartbeats 1600000 in
set_option maxRecDepth 100000 in
theorem rcut_dead {x y : Int} (h1 : 0 ≤ x) (h2 : 0 ≤ y) (hd : d.dead = true) : Calls Try.prog 30 #[rv ao L c d, .int .i64 x, .int .i64 y] w fun e w' => e = .returned (.tuple #[rv ao L c d, .int .i64 8]) ∧ Below w.heap.size w w' := by
  unfold rv
  rw [hd]
  have p : decide (x < 0) = false := by simpa using h1
  have p2 : decide (y < 0) = false := by simpa using h2
  go_enter Try.func30, Try.ntmps30
  go_wp2
  refine bodyPost_ret (v := .tuple #[.agg #[.slice ao L c, .int .i64 (d.writes : Int), .bool d.armed, .bool true, .int .i64 (d.after : Int), .int .i64 (d.keep : Int)], .int .i64 8]) ?_ rfl ⟨rfl, bz2 _ _ _⟩
  simp [results, Try.f30]
  go_simp

set_option maxHeartbeats 1600000 in
set_option maxRecDepth 100000 in
theorem rcut_ok {x y : Nat} (hd : d.dead = false) : Calls Try.prog 30 #[rv ao L c d, .int .i64 (x : Int), .int .i64 (y : Int)] w fun e w' => e = .returned (.tuple #[rv ao L c { d with armed := true, after := x, keep := y }, .int .i64 0]) ∧ Below w.heap.size w w' := by
  unfold rv
  show Calls Try.prog 30 _ w fun e w' => e = .returned (.tuple #[.agg #[.slice ao L c, .int .i64 (d.writes : Int), .bool true, .bool d.dead, .int .i64 (x : Int), .int .i64 (y : Int)], .int .i64 0]) ∧ Below w.heap.size w w'
  rw [hd]
  have p : decide ((x : Int) < 0) = false := by rw [decide_eq_false_iff_not]; omega
  have p2 : decide ((y : Int) < 0) = false := by rw [decide_eq_false_iff_not]; omega
  go_enter Try.func30, Try.ntmps30
  go_wp2
  refine bodyPost_ret (v := .tuple #[.agg #[.slice ao L c, .int .i64 (d.writes : Int), .bool true, .bool false, .int .i64 (x : Int), .int .i64 (y : Int)], .int .i64 0]) ?_ rfl ⟨rfl, bz2 _ _ _⟩
  simp [results, Try.f30]
  go_simp

/-- The reference's Cut. -/
theorem rcut_any (x y : Int) : Calls Try.prog 30 #[rv ao L c d, .int .i64 x, .int .i64 y] w fun e w' => e = .returned (.tuple #[rv ao L c (dcut d x y).1, .int .i64 (dcut d x y).2]) ∧ Below w.heap.size w w' := by
  unfold dcut
  by_cases hn : x < 0 ∨ y < 0
  · rw [if_pos hn]; exact rcut_bad hn
  · rw [if_neg hn]
    obtain ⟨p, rfl⟩ : ∃ p : Nat, x = (p : Int) := ⟨x.toNat, by omega⟩
    obtain ⟨q, rfl⟩ : ∃ q : Nat, y = (q : Int) := ⟨y.toNat, by omega⟩
    by_cases hd : d.dead = true
    · rw [if_pos hd]; exact rcut_dead (by omega) (by omega) hd
    · rw [if_neg hd]
      simp only [Int.toNat_natCast]
      exact rcut_ok (by simpa using hd)

end
end Go.Proofs.Ytlhlipjbcapidaa
