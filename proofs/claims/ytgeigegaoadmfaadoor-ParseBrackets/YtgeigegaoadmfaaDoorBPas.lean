/-
  The reader's pass, made and joined, each by a contract. No condition.
-/
import Derived.Test.YtgeigegaoadmfaaDoorBRst
namespace Go.Proofs.YtgeigegaoadmfaaDoor
open Go.RowKit

/-- All but the reader's own block is as it was. -/
abbrev Tn (b : Nat) (w w' : World) : Prop := Turned (fun g => g = b) w w'
theorem Tn.of {b : Nat} {w w' : World} (h : Below w.heap.size w w') : Tn b w w' := Turned.ofBelow h

theorem Tn.undrew {b : Nat} {w w' : World} (h : Tn b w.drew w') : Tn b w w' := ⟨h.os, h.tape, h.output, h.size, h.block⟩
/-- Six cells stored into a block that is not the reader's. -/
theorem Tn.six {b g : Nat} {a w : World} (h : Tn b a w) (hg : a.heap.size ≤ g) (x0 x1 x2 x3 x4 x5 : Value) : Tn b a ((((((w.setCell ⟨g, 0, none⟩ x0).setCell ⟨g, 1, none⟩ x1).setCell ⟨g, 2, none⟩ x2).setCell ⟨g, 3, none⟩ x3).setCell ⟨g, 4, none⟩ x4).setCell ⟨g, 5, none⟩ x5) :=
  (((((h.setCell (p := ⟨g, 0, none⟩) (.inr hg) _).setCell (p := ⟨g, 1, none⟩) (.inr hg) _).setCell (p := ⟨g, 2, none⟩) (.inr hg) _).setCell (p := ⟨g, 3, none⟩) (.inr hg) _).setCell (p := ⟨g, 4, none⟩) (.inr hg) _).setCell (p := ⟨g, 5, none⟩) (.inr hg) _

theorem Tn.trans {b : Nat} {u v w : World} (h : Tn b u v) (k : Tn b v w) : Tn b u w := Turned.trans h k (fun _ _ q => q)
/-- What is turned behind the reader. -/
theorem Rst.above {S : Nat → Prop} {w w' : World} {b : Nat} {ao : Option Addr} {n c k : Nat} {ts : List Tk} (h : Rst w b ao n c ts k) (ht : Turned S w w') (hS : ∀ g, S g → b < g) : Rst w' b ao n c ts k :=
  ⟨h.box.turned ht (fun q => by have := hS _ q; omega), h.rd.turnN ht (fun q a e s => by have := hS _ s; have := h.far (by have := h.len; omega) a e; omega), h.len, h.le, h.cap, h.few, h.far, h.inf.turned ht (fun q => by have := hS _ q; have := h.ib; omega), h.ib, h.good⟩
theorem Rst.six {w : World} {b : Nat} {ao : Option Addr} {n c k : Nat} {ts : List Tk} (h : Rst w b ao n c ts k) {g : Nat} (hg : b < g) (x0 x1 x2 x3 x4 x5 : Value) :
    Rst ((((((w.setCell ⟨g, 0, none⟩ x0).setCell ⟨g, 1, none⟩ x1).setCell ⟨g, 2, none⟩ x2).setCell ⟨g, 3, none⟩ x3).setCell ⟨g, 4, none⟩ x4).setCell ⟨g, 5, none⟩ x5) b ao n c ts k :=
  h.above (S := fun q => q = g) ((((((Turned.refl (fun q => q = g) w).setCell (p := ⟨g, 0, none⟩) (.inl rfl) x0).setCell (p := ⟨g, 1, none⟩) (.inl rfl) x1).setCell (p := ⟨g, 2, none⟩) (.inl rfl) x2).setCell (p := ⟨g, 3, none⟩) (.inl rfl) x3).setCell (p := ⟨g, 4, none⟩) (.inl rfl) x4 |>.setCell (p := ⟨g, 5, none⟩) (.inl rfl) x5) (fun q e => by omega)

theorem undrewB {w w' : World} (h : Below w.drew.heap.size w.drew w') : Below w.heap.size w w' := ⟨h.os, h.tape, h.output, h.size, h.block⟩

theorem hd_pk {q : Tk → Bool} (h0 : q tk0 = false) (l : List Tk) : hd q l = q (pk l) := by
  cases l with
  | nil => exact h0.symm
  | cons t r => rfl
theorem drop_pk {ts : List Tk} {k : Nat} {q : Tk → Bool} (h : hd q (ts.drop k) = true) : k < ts.length ∧ ts.drop k = pk (ts.drop k) :: ts.drop (k + 1) := by
  rcases Nat.lt_or_ge k ts.length with q | q
  · rw [List.drop_eq_getElem_cons q]
    exact ⟨q, rfl⟩
  · rw [List.drop_eq_nil_of_le q] at h
    cases h

/-- A token in a block of its own. -/
theorem lay5 {B : Nat} {w w2 : World} (hb : Below B w w2) (hB : B ≤ w2.heap.size) (t : TypeId) (a1 a2 a3 a4 a5 : Value) : ∃ W g, w2.alloc (.cells #[a1, a2, a3, a4, a5] t) = W ∧ w2.heap.size = g ∧ Box5 W g t a1 a2 a3 a4 a5 ∧ Below B w W ∧ Below w2.heap.size w2 W ∧ B ≤ g ∧ g < W.heap.size :=
  ⟨_, _, rfl, rfl, Box5.new w2 t a1 a2 a3 a4 a5, hb.trans ((bz1 w2 _).mono hB), bz1 w2 _, hB, by simp⟩
/-- A node in a block of its own. -/
theorem lay6 {B : Nat} {w w2 : World} (hb : Below B w w2) (hB : B ≤ w2.heap.size) (t : TypeId) (a1 a2 a3 a4 a5 a6 : Value) : ∃ W g, w2.alloc (.cells #[a1, a2, a3, a4, a5, a6] t) = W ∧ w2.heap.size = g ∧ Box6 W g t a1 a2 a3 a4 a5 a6 ∧ Below B w W ∧ Below w2.heap.size w2 W ∧ B ≤ g ∧ g < W.heap.size :=
  ⟨_, _, rfl, rfl, Box6.new w2 t a1 a2 a3 a4 a5 a6, hb.trans ((bz1 w2 _).mono hB), bz1 w2 _, hB, by simp⟩

set_option maxHeartbeats 800000 in
set_option maxRecDepth 100000 in
theorem pass_yes {b : Nat} {ao : Option Addr} {n c k : Nat} {ts : List Tk} (g : Bs) (w : World) (h : Rst w b ao n c ts k) (hg : hd (sB g) (ts.drop k) = true) :
    Calls Tryd.prog 60 #[.pointer (some ⟨b, 0, none⟩), .string ⟨g.toArray⟩] w fun e w' => e = .returned (.bool true) ∧ Rst w' b ao n c ts (k + 1) ∧ Tn b w w' := by
  have hp := peek_any w h
  have hk := (drop_pk hg).1
  rw [hd_pk (by simp [sB, tk0])] at hg
  obtain ⟨h5, hx⟩ := (sB_iff g _).1 hg
  rw [h5, hx] at hp
  have H : Hid (Rst w b ao n c ts k ∧ k < n) := ⟨h, by rw [← h.len]; exact hk⟩
  have hkn : (k : Int) ≤ 1024 := by have := h.le; have := h.few; omega
  have hlb := h.box.lt
  clear h hg h5 hx hk
  generalize (pk (ts.drop k)).num = tm at hp
  generalize (pk (ts.drop k)).id = ti at hp
  generalize (pk (ts.drop k)).pos = tp at hp
  go_enter Tryd.func60, Tryd.ntmps60
  go_wp2_with fail
  refine hp.mono ?_
  rintro e w2 ⟨rfl, hb⟩
  obtain ⟨W, m, hW, hm, hx, bW, b2, hB, hlt⟩ := lay5 hb hb.size 54 (.int .i64 5) (.string ⟨g.toArray⟩) (.int .i64 tm) (.int .u64 ti) (.int .i64 tp)
  have h2 := H.out.1.below bW
  obtain ⟨c0, c1, f1⟩ := h2.cells
  obtain ⟨d0, d1, d2, d3, d4⟩ := hx.cells
  have H2 : Hid (Rst W b ao n c ts k ∧ Below w.heap.size w W) := ⟨h2, bW⟩
  clear hp h2 hb hx b2 bW
  go_upto_region 2 with fail
  clear hW hm
  go_wp2_with fail
  go_ret
  exact ⟨rfl, H2.out.1.next H.out.2, (Tn.of H2.out.2).setCell (p := ⟨b, 1, none⟩) (.inl rfl) _⟩

set_option maxHeartbeats 800000 in
set_option maxRecDepth 100000 in
theorem pass_no {b : Nat} {ao : Option Addr} {n c k : Nat} {ts : List Tk} (g : Bs) (w : World) (h : Rst w b ao n c ts k) (hg : hd (sB g) (ts.drop k) = false) :
    Calls Tryd.prog 60 #[.pointer (some ⟨b, 0, none⟩), .string ⟨g.toArray⟩] w fun e w' => e = .returned (.bool false) ∧ Below w.heap.size w w' := by
  have hp := peek_any w h
  rw [hd_pk (by simp [sB, tk0])] at hg
  clear h
  generalize pk (ts.drop k) = t at hp hg
  obtain ⟨tk, tx, tm, ti, tp⟩ := t
  simp only at hp
  have hq : tk = 5 → (tx == g) = false := by
    intro e
    subst e
    rw [beq_eq_false_iff_ne]
    simpa [sB] using hg
  clear hg
  by_cases h5 : tk = 5
  · subst h5
    have hxg := hq rfl
    clear hq
    go_enter Tryd.func60, Tryd.ntmps60
    go_wp2_with fail
    refine hp.mono ?_
    rintro e w2 ⟨rfl, hb⟩
    clear hp
    have HB : Hid (Below w.heap.size w w2) := hb
    clear hb
    go_wp2_with fail
    go_ret
    exact ⟨rfl, HB.out.trans ((bz1 w2 _).mono HB.out.size)⟩
  · have e5 : (tk == 5) = false := by rw [beq_eq_false_iff_ne]; exact h5
    clear hq
    go_enter Tryd.func60, Tryd.ntmps60
    go_wp2_with fail
    refine hp.mono ?_
    rintro e w2 ⟨rfl, hb⟩
    clear hp
    have HB : Hid (Below w.heap.size w w2) := hb
    clear hb
    go_wp2_with fail
    go_ret
    exact ⟨rfl, HB.out.trans ((bz1 w2 _).mono HB.out.size)⟩

/-- A node as a value. -/
abbrev ndV (o : Int) (y : ByteArray) (m i : Int) (a : Option Addr) (l c : Nat) (p : Int) : Value := .agg #[.int .i64 o, .string y, .int .i64 m, .int .u64 i, .slice a l c, .int .i64 p]

theorem field_tok (a1 a2 a3 a4 a5 : Value) (w : World) : (Instr.field 54 (.agg #[a1, a2, a3, a4, a5]) 4).run Tryd.prog w = .ok a5 w := by kernel_rfl

set_option maxHeartbeats 800000 in
set_option maxRecDepth 100000 in
theorem made_yes {b : Nat} {ao : Option Addr} {n c k : Nat} {ts : List Tk} (o : Int) (g : Bs) (w : World) (h : Rst w b ao n c ts k) (hg : hd (sB g) (ts.drop k) = true) :
    Calls Tryd.prog 48 #[.pointer (some ⟨b, 0, none⟩), .int .i64 o, .string ⟨g.toArray⟩] w fun e w' => e = .returned (.tuple #[.agg #[.int .i64 o, .string ⟨#[]⟩, .int .i64 0, .int .u64 0, .slice none 0 0, .int .i64 (pk (ts.drop k)).pos], .bool true]) ∧ Rst w' b ao n c ts (k + 1) ∧ Tn b w w' := by
  obtain ⟨W0, m0, hW0, hm0, hx0, bW0, _, hB0, hlt0⟩ := lay6 (Below.refl _ w) (Nat.le_refl _) 28 (.int .i64 0) (.string ⟨#[]⟩) (.int .i64 0) (.int .u64 0) (.slice none 0 0) (.int .i64 0)
  have hp := peek_any W0 (h.below bW0)
  have hlb := h.box.lt
  have H : Hid (Rst w b ao n c ts k ∧ hd (sB g) (ts.drop k) = true) := ⟨h, hg⟩
  clear h hg
  generalize pk (ts.drop k) = t at hp
  obtain ⟨tk, tx, tm, ti, tp⟩ := t
  simp only at hp ⊢
  have hfd := field_tok
  go_enter Tryd.func48, Tryd.ntmps48
  go_wp2_with fail
  clear hW0 hm0
  refine hp.mono ?_
  rintro e w2 ⟨rfl, hb⟩
  obtain ⟨W, m, hW, hm, hx, bW, b2, hB, hlt⟩ := lay6 (bW0.trans (hb.mono bW0.size)) (by have := bW0.size; have := hb.size; omega) 28 (.int .i64 o) (.string ⟨#[]⟩) (.int .i64 0) (.int .u64 0) (.slice none 0 0) (.int .i64 tp)
  have HPS : Hid (∀ u, Below W.heap.size W u → Calls Tryd.prog 60 #[.pointer (some ⟨b, 0, none⟩), .string ⟨g.toArray⟩] u fun e w' => e = .returned (.bool true) ∧ Rst w' b ao n c ts (k + 1) ∧ Tn b u w') :=
    fun u hu => pass_yes g u ((H.out.1.below bW).below hu) H.out.2
  have hx0' := (hx0.below hb).below b2
  obtain ⟨d0, d1, d2, d3, d4, d5⟩ := hx.cells
  obtain ⟨f0, f1, f2, f3, f4, f5⟩ := hx0'.thaw
  have HX : Hid (Below w.heap.size w W ∧ Box6 W m 28 (.int .i64 o) (.string ⟨#[]⟩) (.int .i64 0) (.int .u64 0) (.slice none 0 0) (.int .i64 tp) ∧ Box6 W m0 28 (.int .i64 0) (.string ⟨#[]⟩) (.int .i64 0) (.int .u64 0) (.slice none 0 0) (.int .i64 0)) := ⟨bW, hx, hx0'⟩
  have hbm : ¬ b = m := by omega
  have hmm : ¬ m0 = m := by have := hb.size; omega
  have hmm' : ¬ m = m0 := by omega
  have hbm0 : ¬ b = m0 := by omega
  have hmb : ¬ m0 = b := by omega
  clear hp hx hx0 hx0' hb bW b2 bW0
  go_upto_region 2 with fail
  clear hW hm
  go_region_held3 (fun w' => w'.cell? ⟨m, 0, none⟩ = some (.int .i64 o) ∧ w'.cell? ⟨m, 1, none⟩ = some (.string ⟨#[]⟩) ∧ w'.cell? ⟨m, 2, none⟩ = some (.int .i64 0) ∧ w'.cell? ⟨m, 3, none⟩ = some (.int .u64 0) ∧ w'.cell? ⟨m, 4, none⟩ = some (.slice none 0 0) ∧ w'.cell? ⟨m, 5, none⟩ = some (.int .i64 tp)) (first | with_reducible exact kS | go_keep)
    (first
      | (go_at_call 60; (with_reducible refine (HPS.out _ (by first | exact Below.refl _ _ | exact (Below.refl _ _).drew)).mono ?_); rintro e w3 ⟨rfl, h3, t3⟩; have t4 := t3.undrew; have kS := (HX.out.2.1.turned t4 (by omega)).cells; have x4 := HX.out.2.2.turned t4 (by omega); obtain ⟨p0, p1, p2, p3, p4, p5⟩ := x4.cells; obtain ⟨q0, q1, q2, q3, q4, q5⟩ := x4.thaw; clear x4; have H3 : Hid (Rst w3 b ao n c ts (k + 1) ∧ Tn b W w3) := ⟨h3, t4⟩; clear h3 t3 t4))
  go_wp2_with fail
  refine bodyPost_ret (v := .tuple #[.agg #[.int .i64 o, .string ⟨#[]⟩, .int .i64 0, .int .u64 0, .slice none 0 0, .int .i64 tp], .bool true]) ?_ rfl ⟨rfl, ?_, ?_⟩
  · simp [results, Tryd.f48]
    go_simp
  · exact H3.out.1.six (by omega) _ _ _ _ _ _
  · exact ((Tn.of HX.out.1).trans H3.out.2).six (by omega) _ _ _ _ _ _

theorem belowS6 {B : Nat} {w W : World} (h : Below B w W) {g : Nat} (hg : B ≤ g) (a b c d e f : Value) : Below B w ((((((W.setCell ⟨g, 0, none⟩ a).setCell ⟨g, 1, none⟩ b).setCell ⟨g, 2, none⟩ c).setCell ⟨g, 3, none⟩ d).setCell ⟨g, 4, none⟩ e).setCell ⟨g, 5, none⟩ f) :=
  (((((h.setCell (p := ⟨g, 0, none⟩) hg _).setCell (p := ⟨g, 1, none⟩) hg _).setCell (p := ⟨g, 2, none⟩) hg _).setCell (p := ⟨g, 3, none⟩) hg _).setCell (p := ⟨g, 4, none⟩) hg _).setCell (p := ⟨g, 5, none⟩) hg _

set_option maxHeartbeats 800000 in
set_option maxRecDepth 100000 in
theorem made_no {b : Nat} {ao : Option Addr} {n c k : Nat} {ts : List Tk} (o : Int) (g : Bs) (w : World) (h : Rst w b ao n c ts k) (hg : hd (sB g) (ts.drop k) = false) :
    Calls Tryd.prog 48 #[.pointer (some ⟨b, 0, none⟩), .int .i64 o, .string ⟨g.toArray⟩] w fun e w' => e = .returned (.tuple #[.agg #[.int .i64 o, .string ⟨#[]⟩, .int .i64 0, .int .u64 0, .slice none 0 0, .int .i64 (pk (ts.drop k)).pos], .bool false]) ∧ Below w.heap.size w w' := by
  obtain ⟨W0, m0, hW0, hm0, hx0, bW0, _, hB0, hlt0⟩ := lay6 (Below.refl _ w) (Nat.le_refl _) 28 (.int .i64 0) (.string ⟨#[]⟩) (.int .i64 0) (.int .u64 0) (.slice none 0 0) (.int .i64 0)
  have hp := peek_any W0 (h.below bW0)
  have hlb := h.box.lt
  have H : Hid (Rst w b ao n c ts k ∧ hd (sB g) (ts.drop k) = false) := ⟨h, hg⟩
  clear h hg
  generalize pk (ts.drop k) = t at hp
  obtain ⟨tk, tx, tm, ti, tp⟩ := t
  simp only at hp ⊢
  have hfd := field_tok
  go_enter Tryd.func48, Tryd.ntmps48
  go_wp2_with fail
  clear hW0 hm0
  refine hp.mono ?_
  rintro e w2 ⟨rfl, hb⟩
  obtain ⟨W, m, hW, hm, hx, bW, b2, hB, hlt⟩ := lay6 (bW0.trans (hb.mono bW0.size)) (by have := bW0.size; have := hb.size; omega) 28 (.int .i64 o) (.string ⟨#[]⟩) (.int .i64 0) (.int .u64 0) (.slice none 0 0) (.int .i64 tp)
  have HPS : Hid (∀ u, Below W.heap.size W u → Calls Tryd.prog 60 #[.pointer (some ⟨b, 0, none⟩), .string ⟨g.toArray⟩] u fun e w' => e = .returned (.bool false) ∧ Below u.heap.size u w') :=
    fun u hu => pass_no g u ((H.out.1.below bW).below hu) H.out.2
  have hx0' := (hx0.below hb).below b2
  obtain ⟨d0, d1, d2, d3, d4, d5⟩ := hx.cells
  obtain ⟨f0, f1, f2, f3, f4, f5⟩ := hx0'.thaw
  have HX : Hid (Below w.heap.size w W ∧ Box6 W m 28 (.int .i64 o) (.string ⟨#[]⟩) (.int .i64 0) (.int .u64 0) (.slice none 0 0) (.int .i64 tp) ∧ Box6 W m0 28 (.int .i64 0) (.string ⟨#[]⟩) (.int .i64 0) (.int .u64 0) (.slice none 0 0) (.int .i64 0)) := ⟨bW, hx, hx0'⟩
  have hbm : ¬ b = m := by omega
  have hmm : ¬ m0 = m := by have := hb.size; omega
  have hmm' : ¬ m = m0 := by omega
  have hbm0 : ¬ b = m0 := by omega
  have hmb : ¬ m0 = b := by omega
  clear hp hx hx0 hx0' hb bW b2 bW0
  go_upto_region 2 with fail
  clear hW hm
  go_region_held3 (fun w' => w'.cell? ⟨m, 0, none⟩ = some (.int .i64 o) ∧ w'.cell? ⟨m, 1, none⟩ = some (.string ⟨#[]⟩) ∧ w'.cell? ⟨m, 2, none⟩ = some (.int .i64 0) ∧ w'.cell? ⟨m, 3, none⟩ = some (.int .u64 0) ∧ w'.cell? ⟨m, 4, none⟩ = some (.slice none 0 0) ∧ w'.cell? ⟨m, 5, none⟩ = some (.int .i64 tp)) (first | with_reducible exact kS | go_keep)
    (first
      | (go_at_call 60; (with_reducible refine (HPS.out _ (by first | exact Below.refl _ _ | exact (Below.refl _ _).drew)).mono ?_); rintro e w3 ⟨rfl, t3⟩; have t4 := undrewB t3; have kS := (HX.out.2.1.below t4).cells; have x4 := HX.out.2.2.below t4; obtain ⟨p0, p1, p2, p3, p4, p5⟩ := x4.cells; obtain ⟨q0, q1, q2, q3, q4, q5⟩ := x4.thaw; clear x4; have H3 : Hid (Below W.heap.size W w3) := t4; clear t3 t4))
  go_wp2_with fail
  refine bodyPost_ret (v := .tuple #[.agg #[.int .i64 o, .string ⟨#[]⟩, .int .i64 0, .int .u64 0, .slice none 0 0, .int .i64 tp], .bool false]) ?_ rfl ⟨rfl, ?_⟩
  · simp [results, Tryd.f48]
    go_simp
  · exact belowS6 (HX.out.1.trans (H3.out.mono HX.out.1.size)) (by omega) _ _ _ _ _ _

end Go.Proofs.YtgeigegaoadmfaaDoor
