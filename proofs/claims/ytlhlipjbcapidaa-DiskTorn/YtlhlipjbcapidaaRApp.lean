/-
  The reference's Put and Append, each by a contract over the document's disk. No condition but that what is handed in is no longer than any memory holds.
-/
import Derived.Test.YtlhlipjbcapidaaRPut
namespace Go.Proofs.Ytlhlipjbcapidaa
open Go.RowKit

/-- The result of a call is laid into its cells. -/
theorem RVS.laid {S : Nat → Prop} {w1 : World} {ao : Option Addr} {L c : Nat} {d : Dk} (h : RVS S w1 (rv ao L c d) d) (b : Nat) (hF : RdG encF w1 ao d.files → 0 < L → ∀ p, ao = some p → p.block ≠ b) (v0 v1 v2 v3 v4 v5 : Value) :
    RVS S ((((((w1.setCell ⟨b, 0, none⟩ v0).setCell ⟨b, 1, none⟩ v1).setCell ⟨b, 2, none⟩ v2).setCell ⟨b, 3, none⟩ v3).setCell ⟨b, 4, none⟩ v4).setCell ⟨b, 5, none⟩ v5) (rv ao L c d) d := by
  have t : Turned (fun i => i = b) w1 ((((((w1.setCell ⟨b, 0, none⟩ v0).setCell ⟨b, 1, none⟩ v1).setCell ⟨b, 2, none⟩ v2).setCell ⟨b, 3, none⟩ v3).setCell ⟨b, 4, none⟩ v4).setCell ⟨b, 5, none⟩ v5) :=
    (((((((Turned.refl (fun i => i = b) w1).setCell (p := ⟨b, 0, none⟩) (.inl rfl) v0).setCell (p := ⟨b, 1, none⟩) (.inl rfl) v1).setCell (p := ⟨b, 2, none⟩) (.inl rfl) v2).setCell (p := ⟨b, 3, none⟩) (.inl rfl) v3).setCell (p := ⟨b, 4, none⟩) (.inl rfl) v4).setCell (p := ⟨b, 5, none⟩) (.inl rfl) v5)
  obtain ⟨a', L', c', e, h1, h2, h3, h4⟩ := h
  obtain ⟨rfl, rfl, rfl⟩ : ao = a' ∧ L = L' ∧ c = c' := by simpa [rv] using e
  exact ⟨ao, L, c, rfl, h1, h2, h3.turned t (fun h0 p hp q => hF h3 (by omega) p hp q), h4⟩

/-- A block of cells of a struct is no list of files. -/
theorem Six.not_files {w : World} {B : Nat} {a0 a1 a2 a3 a4 a5 : Value} (h : Six w B a0 a1 a2 a3 a4 a5) (h1 : ∀ n, a1 ≠ tx n) (h0 : ∀ n, a0 ≠ tx n) (h2 : ∀ n, a2 ≠ tx n) (h3 : ∀ n, a3 ≠ tx n) (h4 : ∀ n, a4 ≠ tx n) (h5 : ∀ n, a5 ≠ tx n) {ao : Option Addr} {fs : Fs} (hR : RdG encF w ao fs) (hl : 0 < fs.length) : ∀ p, ao = some p → p.block ≠ B := by
  intro p hp e
  obtain ⟨b, off, rfl, hlt, hc⟩ := hR hl
  cases hp
  have c0 := hc 0 fs[0] (List.getElem?_eq_getElem hl) 0 (tx fs[0].1) rfl
  have e' : b = B := e
  subst e'
  unfold Six at h
  simp [World.cell?, h] at c0
  have : off + (0 * encF.size + 0) = off := by omega
  rcases off with _ | _ | _ | _ | _ | _ | off
  · exact h0 _ (by simpa using c0)
  · exact h1 _ (by simpa using c0)
  · exact h2 _ (by simpa using c0)
  · exact h3 _ (by simpa using c0)
  · exact h4 _ (by simpa using c0)
  · exact h5 _ (by simpa using c0)
  · simp at c0

section
variable {S : Nat → Prop} {d : Dk} {w : World}

set_option maxHeartbeats 1600000 in
set_option maxRecDepth 100000 in
/-- The reference's Put. -/
theorem rput_any (hS : ∀ i, S i → i < w.heap.size) {v : Value} (h : RVS S w v d) (hk : d.ok) (hw : d.writes < 4611686018427387904) (n more : Bs) (hnl : n.length ≤ 140737488355328) (hm : more.length ≤ 140737488355328) :
    Calls Try.prog 25 #[v, tx n, tx more] w fun e w' => ∃ v', e = .returned (.tuple #[v', .int .i64 (dput d n more).2]) ∧ RVS S w' v' (dput d n more).1 ∧ Below w.heap.size w w' := by
  have h' := h
  obtain ⟨ao, L, c, rfl, hL, hc, hR, hF⟩ := h
  obtain ⟨W, hW⟩ : ∃ W, (w.alloc (.cells #[.slice ao L c, .int .i64 (d.writes : Int), .bool d.armed, .bool d.dead, .int .i64 (d.after : Int), .int .i64 (d.keep : Int)] 28)).alloc (.cells #[.slice none 0 0, .int .i64 0, .bool false, .bool false, .int .i64 0, .int .i64 0] 28) = W := ⟨_, rfl⟩
  have T := two_blocks w (.slice ao L c) (.int .i64 (d.writes : Int)) (.bool d.armed) (.bool d.dead) (.int .i64 (d.after : Int)) (.int .i64 (d.keep : Int)) (.slice none 0 0) (.int .i64 0) (.bool false) (.bool false) (.int .i64 0) (.int .i64 0)
  rw [hW] at T
  have B0 : Below w.heap.size w W := by rw [← hW]; exact bz2 _ _ _
  have hcall := rlay_any (w := W) (fun i hi => Nat.lt_of_lt_of_le (hS i hi) B0.size) (RVS.below h' B0) hk hw n [] more hnl (by simp) hm
  obtain ⟨x0, x1, x2, x3, x4, x5⟩ := T.1.cells
  have H : Hid (Below w.heap.size w W ∧ Six W (w.heap.size + 1) (.slice none 0 0) (.int .i64 0) (.bool false) (.bool false) (.int .i64 0) (.int .i64 0) ∧ ∀ i, S i → i < w.heap.size) := ⟨B0, T.2, hS⟩
  obtain ⟨P, hP⟩ : ∃ P, dput d n more = P := ⟨_, rfl⟩
  have hP' : dlay d n [] more = P := hP
  rw [hP'] at hcall
  rw [hP]
  clear hR hL hF T B0 h' hS hP hP'
  go_enter Try.func25, Try.ntmps25
  go_wp2_with fail
  refine hcall.mono ?_
  rintro e w1 ⟨v', rfl, R1, B1⟩
  have R1' := R1
  obtain ⟨a1, L1, c1, rfl, e1, e2, e3, e4⟩ := R1
  have Y := H.out.2.1.below B1
  obtain ⟨y0, y1, y2, y3, y4, y5⟩ := Y.cells
  obtain ⟨f0, f1, f2, f3, f4, f5⟩ := Y.thaw
  have BB : Hid (Below w.heap.size w w1) := H.out.1.trans (B1.mono H.out.1.size)
  have CL := close_one BB.out (b2 := w.heap.size + 1) (by omega) (.slice a1 L1 c1) (.int .i64 (P.1.writes : Int)) (.bool P.1.armed) (.bool P.1.dead) (.int .i64 (P.1.after : Int)) (.int .i64 (P.1.keep : Int))
  have RR := RVS.laid R1' (w.heap.size + 1) (fun q h0 => Y.not_files (fun _ q => by cases q) (fun _ q => by cases q) (fun _ q => by cases q) (fun _ q => by cases q) (fun _ q => by cases q) (fun _ q => by cases q) q (by omega)) (.slice a1 L1 c1) (.int .i64 (P.1.writes : Int)) (.bool P.1.armed) (.bool P.1.dead) (.int .i64 (P.1.after : Int)) (.int .i64 (P.1.keep : Int))
  have C : Hid _ := And.intro RR CL
  clear B1 hcall Y R1' e3 e4 RR CL
  go_wp2
  refine bodyPost_ret (v := .tuple #[rv a1 L1 c1 P.1, .int .i64 P.2]) ?_ rfl ⟨_, rfl, C.out.1, C.out.2⟩
  simp [results, Try.f25]
  go_simp

set_option maxHeartbeats 3200000 in
set_option maxRecDepth 100000 in
/-- The reference's Append. -/
theorem rapp_any (hS : ∀ i, S i → i < w.heap.size) {v : Value} (h : RVS S w v d) (hk : d.ok) (hw : d.writes < 4611686018427387904) (n more : Bs) (hnl : n.length ≤ 140737488355328) (hm : more.length ≤ 140737488355328) :
    Calls Try.prog 26 #[v, tx n, tx more] w fun e w' => ∃ v', e = .returned (.tuple #[v', .int .i64 (dapp d n more).2]) ∧ RVS S w' v' (dapp d n more).1 ∧ Below w.heap.size w w' := by
  have h' := h
  obtain ⟨ao, L, c, rfl, hL, hc, hR, hF⟩ := h
  obtain ⟨W, hW⟩ : ∃ W, (w.alloc (.cells #[.slice ao L c, .int .i64 (d.writes : Int), .bool d.armed, .bool d.dead, .int .i64 (d.after : Int), .int .i64 (d.keep : Int)] 28)).alloc (.cells #[.slice none 0 0, .int .i64 0, .bool false, .bool false, .int .i64 0, .int .i64 0] 28) = W := ⟨_, rfl⟩
  have T := two_blocks w (.slice ao L c) (.int .i64 (d.writes : Int)) (.bool d.armed) (.bool d.dead) (.int .i64 (d.after : Int)) (.int .i64 (d.keep : Int)) (.slice none 0 0) (.int .i64 0) (.bool false) (.bool false) (.int .i64 0) (.int .i64 0)
  rw [hW] at T
  have B0 : Below w.heap.size w W := by rw [← hW]; exact bz2 _ _ _
  obtain ⟨own, hown⟩ : ∃ own, (fget d.files n).getD [] = own := ⟨_, rfl⟩
  have hol : own.length ≤ 262144 := by
    rw [← hown]
    cases e : fget d.files n with
    | none => simp
    | some b => exact hk.get e
  have hl : L ≤ 1000 := by have := hk.few; omega
  have hdata : ∀ W', Below W.heap.size W W' → Calls Try.prog 44 #[rv ao L c d, tx n] W' fun e w' => e = .returned (tx own) ∧ Below W'.heap.size W' w' := by
    intro W' hB
    cases e : fget d.files n with
    | none => rw [e] at hown; cases hown; exact data_none d n W' ((hR.below B0).below hB) hL hl e
    | some b => rw [e] at hown; cases hown; exact data_some d n W' ((hR.below B0).below hB) hL hl e
  have hlay : ∀ W', Below W.heap.size W W' → Calls Try.prog 43 #[rv ao L c d, tx n, tx own, tx more] W' fun e w' => ∃ v', e = .returned (.tuple #[v', .int .i64 (dapp d n more).2]) ∧ RVS S w' v' (dapp d n more).1 ∧ Below W'.heap.size W' w' := by
    intro W' hB
    have := rlay_any (w := W') (fun i hi => Nat.lt_of_lt_of_le (hS i hi) (Nat.le_trans B0.size hB.size)) (RVS.below (RVS.below h' B0) hB) hk hw n own more hnl hol hm
    rw [← hown] at this ⊢
    exact this
  have HC : Hid (_ ∧ _) := And.intro hdata hlay
  obtain ⟨P, hP⟩ : ∃ P, dapp d n more = P := ⟨_, rfl⟩
  have H : Hid (Below w.heap.size w W ∧ Six W w.heap.size (.slice ao L c) (.int .i64 (d.writes : Int)) (.bool d.armed) (.bool d.dead) (.int .i64 (d.after : Int)) (.int .i64 (d.keep : Int)) ∧ Six W (w.heap.size + 1) (.slice none 0 0) (.int .i64 0) (.bool false) (.bool false) (.int .i64 0) (.int .i64 0)) := ⟨B0, T.1, T.2⟩
  rw [hP] at HC ⊢
  obtain ⟨x0, x1, x2, x3, x4, x5⟩ := T.1.cells
  clear hR hL hF T B0 h' hS hP hdata hlay hown
  go_enter Try.func26, Try.ntmps26
  go_wp2_with fail
  go_region_held3 (fun u => u.cell? ⟨w.heap.size, 0, none⟩ = some (.slice ao L c) ∧ u.cell? ⟨w.heap.size, 1, none⟩ = some (.int .i64 (d.writes : Int)) ∧ u.cell? ⟨w.heap.size, 2, none⟩ = some (.bool d.armed) ∧ u.cell? ⟨w.heap.size, 3, none⟩ = some (.bool d.dead) ∧ u.cell? ⟨w.heap.size, 4, none⟩ = some (.int .i64 (d.after : Int)) ∧ u.cell? ⟨w.heap.size, 5, none⟩ = some (.int .i64 (d.keep : Int))) (go_keep)
    (first
      | (go_at_call 43; refine (HC.out.2 _ K1.out).mono ?_; rintro e w2 ⟨v', rfl, R2, B2⟩; have R2' : Hid (RVS S w2 v' P.1) := R2; obtain ⟨a1, L1, c1, rfl, e1, e2, e3, e4⟩ := R2; have Y := (H.out.2.2.below K1.out).below B2; obtain ⟨y0, y1, y2, y3, y4, y5⟩ := Y.cells; obtain ⟨f0, f1, f2, f3, f4, f5⟩ := Y.thaw; have xx2 := ((H.out.2.1.below K1.out).below B2).cells; have K2 : Hid (Below w1.heap.size w1 w2) := B2; clear B2 Y e3 e4)
      | (go_at_call 44; refine (HC.out.1 W.drew ⟨rfl, rfl, rfl, Nat.le_refl _, fun _ _ => rfl⟩).mono ?_; rintro e w1 ⟨rfl, B1⟩; have K1 : Hid (Below W.heap.size W w1) := ⟨B1.os, B1.tape, B1.output, B1.size, B1.block⟩; have xx1 := (H.out.2.1.below K1.out).cells; clear B1))
  have BB : Below w.heap.size w w2 := by
    have b1 := H.out.1.trans (K1.out.mono H.out.1.size)
    exact b1.trans (K2.out.mono b1.size)
  have CL := close_one BB (b2 := w.heap.size + 1) (by omega) (.slice a1 L1 c1) (.int .i64 (P.1.writes : Int)) (.bool P.1.armed) (.bool P.1.dead) (.int .i64 (P.1.after : Int)) (.int .i64 (P.1.keep : Int))
  have RR := RVS.laid R2'.out (w.heap.size + 1) (fun q h0 => ((H.out.2.2.below K1.out).below K2.out).not_files (fun _ q => by cases q) (fun _ q => by cases q) (fun _ q => by cases q) (fun _ q => by cases q) (fun _ q => by cases q) (fun _ q => by cases q) q (by omega)) (.slice a1 L1 c1) (.int .i64 (P.1.writes : Int)) (.bool P.1.armed) (.bool P.1.dead) (.int .i64 (P.1.after : Int)) (.int .i64 (P.1.keep : Int))
  have C : Hid _ := And.intro RR CL
  clear BB CL RR
  go_wp2
  refine bodyPost_ret (v := .tuple #[rv a1 L1 c1 P.1, .int .i64 P.2]) ?_ rfl ⟨_, rfl, C.out.1, C.out.2⟩
  simp [results, Try.f26]
  go_simp

end
end Go.Proofs.Ytlhlipjbcapidaa
