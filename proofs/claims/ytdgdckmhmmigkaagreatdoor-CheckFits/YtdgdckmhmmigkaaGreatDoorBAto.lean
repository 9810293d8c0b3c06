/-
  The reader's atom by a contract, over that of expr further on. No condition.
-/
import Derived.Test.YtdgdckmhmmigkaaGreatDoorJBra
namespace Go.Proofs.YtdgdckmhmmigkaaGreatDoor
open Go.RowKit

/-- A token's kinds, and what they hold. -/
theorem tk_kinds {t : Tk} (h : Gd t) : (t.kind = 1 ∧ t.num = 0 ∧ t.id = 0 ∧ t.text ≠ []) ∨ (t.kind = 2 ∧ t.text = [] ∧ t.id = 0) ∨ (t.kind = 3 ∧ t.num = 0 ∧ t.id = 0) ∨ (t.kind = 4 ∧ t.text = [] ∧ t.num = 0) ∨ t.kind = 5 := by
  rcases h.shape with ⟨e, h0⟩ | e | e | e | ⟨e, _⟩
  · exact .inl ⟨congrArg Tk.kind e, congrArg Tk.num e, congrArg Tk.id e, h0⟩
  · exact .inr (.inl ⟨congrArg Tk.kind e, congrArg Tk.text e, congrArg Tk.id e⟩)
  · exact .inr (.inr (.inl ⟨congrArg Tk.kind e, congrArg Tk.num e, congrArg Tk.id e⟩))
  · exact .inr (.inr (.inr (.inl ⟨congrArg Tk.kind e, congrArg Tk.text e, congrArg Tk.num e⟩)))
  · exact .inr (.inr (.inr (.inr (congrArg Tk.kind e))))

set_option maxHeartbeats 1600000 in
set_option maxRecDepth 100000 in
theorem patom_name {E : Int} {b : Nat} {ao : Option Addr} {n c k : Nat} {ts : List Tk} {t : Tk} (ht : ts[k]? = some t) (hk : t.kind = 1) (hnum : t.num = 0) (hid : t.id = 0) (hne : t.text ≠ []) (hU : ∀ k', k + 1 + 1 ≤ k' → Pt E (.row 1) 22 b ao n c ts k') : Pt E .atom 84 b ao n c ts k := by
  intro w h
  obtain ⟨W0, m0, hW0, hm0, hx0, bW0, _, hB0, hlt0⟩ := lay6 (Below.refl _ w) (Nat.le_refl _) 50 (.int .i64 0) (.string ⟨#[]⟩) (.int .i64 0) (.int .u64 0) (.slice none 0 0) (.int .i64 0)
  have hlb := h.box.lt
  have H : Hid (Rst W0 b ao n c ts k ∧ Below w.heap.size w W0 ∧ w.heap.size = m0) := ⟨h.below bW0, bW0, hm0⟩
  have HX : Hid (Box6 W0 m0 50 (.int .i64 0) (.string ⟨#[]⟩) (.int .i64 0) (.int .u64 0) (.slice none 0 0) (.int .i64 0)) := hx0
  have hm0b : ¬ m0 = b := by omega
  have h0b : b < m0 := by omega
  have hki : (k : Int) ≤ 1024 := by have := h.few; have := h.le; omega
  have hpk := peek_any W0 (h.below bW0)
  clear h bW0 hx0
  have hkn : k < n := by have := (List.getElem?_eq_some_iff.1 ht).1; have := H.out.1.len; omega
  rw [pk_at ht] at hpk
  obtain ⟨y, hy⟩ : ∃ y : ByteArray, (⟨t.text.toArray⟩ : ByteArray) = y := ⟨_, rfl⟩
  have hyt : y.data.toList = t.text := by rw [← hy]
  rw [hy, hk] at hpk
  rw [hnum] at hpk
  rw [hid] at hpk
  clear hy
  obtain ⟨tp, htp⟩ : ∃ tp, t.pos = tp := ⟨_, rfl⟩
  rw [htp] at hpk
  have HN : Hid (∀ u, Rst u b ao n c ts k → Calls Tryz.prog 92 #[.pointer (some ⟨b, 0, none⟩), .agg #[.int .i64 0, .string y, .int .i64 0, .int .u64 0, .slice none 0 0, .int .i64 tp]] u (Rp E .atom b ao n c ts k u)) := by
    have := pnamed_any (E := E) ht hk ⟨hnum, hid, hne⟩ hU y hyt
    rw [htp] at this
    exact this
  clear ht hk hnum hid hne hU hyt htp
  go_enter Tryz.func84, Tryz.ntmps84
  go_upto_region 1 with fail
  clear hW0 hm0
  go_wp2_with fail
  refine hpk.mono ?_
  rintro e w2 ⟨rfl, b2⟩
  clear hpk
  have hs2 := b2.size
  obtain ⟨W3, m3, hW3, hm3, hx3, bW3, _, hB3, hlt3⟩ := lay5 (Below.refl _ w2) (Nat.le_refl _) 67 (.int .i64 1) (.string y) (.int .i64 0) (.int .u64 0) (.int .i64 tp)
  obtain ⟨W5, m5, hW5, hm5, hx5, bW5, b5, hB5, hlt5⟩ := lay6 (Below.refl _ W3) (Nat.le_refl _) 50 (.int .i64 0) (.string y) (.int .i64 0) (.int .u64 0) (.slice none 0 0) (.int .i64 tp)
  have b25 := (b2.trans (bW3.mono b2.size)).trans (bW5.mono (by have := bW3.size; omega))
  obtain ⟨c0, c1, c2, c3, c4⟩ := hx3.cells
  have y3 := hx3.below bW5
  obtain ⟨z0, z1, z2, z3, z4⟩ := y3.cells
  have hm5b : ¬ m5 = b := by omega
  have hb5 : ¬ b = m5 := by omega
  have hm05 : ¬ m0 = m5 := by omega
  have hm50 : ¬ m5 = m0 := by omega
  have h5m : m0 < m5 := by omega
  have H5 : Hid (Rst W5 b ao n c ts k ∧ Tn b w W5 ∧ Box6 W5 m5 50 (.int .i64 0) (.string y) (.int .i64 0) (.int .u64 0) (.slice none 0 0) (.int .i64 tp) ∧ Box6 W5 m0 50 (.int .i64 0) (.string ⟨#[]⟩) (.int .i64 0) (.int .u64 0) (.slice none 0 0) (.int .i64 0) ∧ m0 < W5.heap.size) :=
    ⟨H.out.1.below b25, (Tn.of H.out.2.1).trans (Tn.of b25), hx5, HX.out.below b25, by omega⟩
  clear b2 hx3 bW3 hx5 bW5 b5 b25 y3 hs2
  go_upto_region 3 with fail
  clear hW3 hm3 hW5 hm5
  obtain ⟨d0, d1, d2, d3, d4, d5⟩ := H5.out.2.2.1.cells
  go_wp2_with fail
  refine (HN.out W5 H5.out.1).mono ?_
  rintro e w6 ⟨o, y2, i, j, a, l, q, p, f, k2, rfl, hk2, hR6, hT6, hO6⟩
  have hs6 := hT6.size
  have x6 := H5.out.2.2.2.1.turned hT6 hm0b
  obtain ⟨p0, p1, p2, p3, p4, p5⟩ := x6.cells
  obtain ⟨q0, q1, q2, q3, q4, q5⟩ := x6.thaw
  have H6 : Hid (Rst w6 b ao n c ts k2 ∧ Tn b w w6 ∧ Oc E .atom ts k (Bt W5.heap.size w6.heap.size) ⟨o, y2.data.toList, i, j, a, l, q, p⟩ f k2 w6) := ⟨hR6, H5.out.2.1.trans hT6, hO6⟩
  clear x6 hR6 hT6 hO6
  go_wp2_with fail
  refine bodyPost_ret (v := .tuple #[.agg #[.int .i64 o, .string y2, .int .i64 i, .int .u64 j, .slice a l q, .int .i64 p], .bool f]) ?_ rfl ⟨o, y2, i, j, a, l, q, p, f, k2, rfl, hk2, ?_, ?_, ?_⟩
  · simp [results, Tryz.f84]
    go_simp
  · exact H6.out.1.six (by omega) _ _ _ _ _ _
  · exact H6.out.2.1.six (by have := H.out.2.2; omega) _ _ _ _ _ _
  · rcases H6.out.2.2 with ⟨nd, h1, h2, h3⟩ | h1
    · refine .inl ⟨nd, h1, h2, (h3.six (g := m0) (fun q => by have := q.1; have := H5.out.2.2.2.2; omega) _ _ _ _ _ _).mono (fun g hg => ⟨by have := hg.1; have := H.out.2.2; have := H5.out.2.2.2.2; omega, by rw [six_size]; exact hg.2⟩)⟩
    · exact .inr h1

set_option maxHeartbeats 1600000 in
set_option maxRecDepth 100000 in
theorem patom_sign {E : Int} {b : Nat} {ao : Option Addr} {n c k : Nat} {ts : List Tk} (hk : (pk (ts.drop k)).kind = 5 ∨ (pk (ts.drop k)).kind = 0) (hB : Pt E .atom 93 b ao n c ts k) : Pt E .atom 84 b ao n c ts k := by
  intro w h
  obtain ⟨W0, m0, hW0, hm0, hx0, bW0, _, hB0, hlt0⟩ := lay6 (Below.refl _ w) (Nat.le_refl _) 50 (.int .i64 0) (.string ⟨#[]⟩) (.int .i64 0) (.int .u64 0) (.slice none 0 0) (.int .i64 0)
  have hlb := h.box.lt
  have H : Hid (Rst W0 b ao n c ts k ∧ Below w.heap.size w W0 ∧ w.heap.size = m0) := ⟨h.below bW0, bW0, hm0⟩
  have HX : Hid (Box6 W0 m0 50 (.int .i64 0) (.string ⟨#[]⟩) (.int .i64 0) (.int .u64 0) (.slice none 0 0) (.int .i64 0)) := hx0
  have hm0b : ¬ m0 = b := by omega
  have h0b : b < m0 := by omega
  have hki : (k : Int) ≤ 1024 := by have := h.few; have := h.le; omega
  have hpk := peek_any W0 (h.below bW0)
  clear h bW0 hx0
  have HN : Hid (Pt E .atom 93 b ao n c ts k) := hB
  generalize pk (ts.drop k) = t at hpk hk
  obtain ⟨tk, tx, tm, ti, tp⟩ := t
  simp only at hpk hk
  obtain ⟨y, hy⟩ : ∃ y : ByteArray, (⟨tx.toArray⟩ : ByteArray) = y := ⟨_, rfl⟩
  rw [hy] at hpk
  have k1 : (tk == 1) = false := by rw [beq_eq_false_iff_ne]; omega
  have k2 : (tk == 2) = false := by rw [beq_eq_false_iff_ne]; omega
  have k3 : (tk == 3) = false := by rw [beq_eq_false_iff_ne]; omega
  have k4 : (tk == 4) = false := by rw [beq_eq_false_iff_ne]; omega
  clear hy hk hB
  go_enter Tryz.func84, Tryz.ntmps84
  go_upto_region 1 with fail
  clear hW0 hm0
  go_wp2_with fail
  refine hpk.mono ?_
  rintro e w2 ⟨rfl, b2⟩
  clear hpk
  have hs2 := b2.size
  obtain ⟨W3, m3, hW3, hm3, hx3, bW3, _, hB3, hlt3⟩ := lay5 (Below.refl _ w2) (Nat.le_refl _) 67 (.int .i64 tk) (.string y) (.int .i64 tm) (.int .u64 ti) (.int .i64 tp)
  obtain ⟨W5, m5, hW5, hm5, hx5, bW5, b5, hB5, hlt5⟩ := lay6 (Below.refl _ W3) (Nat.le_refl _) 50 (.int .i64 0) (.string y) (.int .i64 tm) (.int .u64 ti) (.slice none 0 0) (.int .i64 tp)
  have b25 := (b2.trans (bW3.mono b2.size)).trans (bW5.mono (by have := bW3.size; omega))
  obtain ⟨c0, c1, c2, c3, c4⟩ := hx3.cells
  have y3 := hx3.below bW5
  obtain ⟨z0, z1, z2, z3, z4⟩ := y3.cells
  have hm5b : ¬ m5 = b := by omega
  have hb5 : ¬ b = m5 := by omega
  have hm05 : ¬ m0 = m5 := by omega
  have hm50 : ¬ m5 = m0 := by omega
  have h5m : m0 < m5 := by omega
  have H5 : Hid (Rst W5 b ao n c ts k ∧ Tn b w W5 ∧ Box6 W5 m5 50 (.int .i64 0) (.string y) (.int .i64 tm) (.int .u64 ti) (.slice none 0 0) (.int .i64 tp) ∧ Box6 W5 m0 50 (.int .i64 0) (.string ⟨#[]⟩) (.int .i64 0) (.int .u64 0) (.slice none 0 0) (.int .i64 0) ∧ m0 < W5.heap.size) :=
    ⟨H.out.1.below b25, (Tn.of H.out.2.1).trans (Tn.of b25), hx5, HX.out.below b25, by omega⟩
  clear b2 hx3 bW3 hx5 bW5 b5 b25 y3 hs2
  go_upto_region 3 with fail
  clear hW3 hm3 hW5 hm5
  go_wp2_with fail
  refine (HN.out W5 H5.out.1).mono ?_
  rintro e w6 ⟨o, y2, i, j, a, l, q, p, f, k2, rfl, hk2, hR6, hT6, hO6⟩
  have hs6 := hT6.size
  have x6 := H5.out.2.2.2.1.turned hT6 hm0b
  obtain ⟨p0, p1, p2, p3, p4, p5⟩ := x6.cells
  obtain ⟨q0, q1, q2, q3, q4, q5⟩ := x6.thaw
  have H6 : Hid (Rst w6 b ao n c ts k2 ∧ Tn b w w6 ∧ Oc E .atom ts k (Bt W5.heap.size w6.heap.size) ⟨o, y2.data.toList, i, j, a, l, q, p⟩ f k2 w6) := ⟨hR6, H5.out.2.1.trans hT6, hO6⟩
  clear x6 hR6 hT6 hO6
  go_wp2_with fail
  refine bodyPost_ret (v := .tuple #[.agg #[.int .i64 o, .string y2, .int .i64 i, .int .u64 j, .slice a l q, .int .i64 p], .bool f]) ?_ rfl ⟨o, y2, i, j, a, l, q, p, f, k2, rfl, hk2, ?_, ?_, ?_⟩
  · simp [results, Tryz.f84]
    go_simp
  · exact H6.out.1.six (by omega) _ _ _ _ _ _
  · exact H6.out.2.1.six (by have := H.out.2.2; omega) _ _ _ _ _ _
  · rcases H6.out.2.2 with ⟨nd, h1, h2, h3⟩ | h1
    · refine .inl ⟨nd, h1, h2, (h3.six (g := m0) (fun q => by have := q.1; have := H5.out.2.2.2.2; omega) _ _ _ _ _ _).mono (fun g hg => ⟨by have := hg.1; have := H.out.2.2; have := H5.out.2.2.2.2; omega, by rw [six_size]; exact hg.2⟩)⟩
    · exact .inr h1

set_option maxHeartbeats 1600000 in
set_option maxRecDepth 100000 in
theorem patom_num {E : Int} {b : Nat} {ao : Option Addr} {n c k : Nat} {ts : List Tk} {t : Tk} (ht : ts[k]? = some t) (hk : t.kind = 2) (hid : t.id = 0) : Pt E .atom 84 b ao n c ts k := by
  intro w h
  obtain ⟨W0, m0, hW0, hm0, hx0, bW0, _, hB0, hlt0⟩ := lay6 (Below.refl _ w) (Nat.le_refl _) 50 (.int .i64 0) (.string ⟨#[]⟩) (.int .i64 0) (.int .u64 0) (.slice none 0 0) (.int .i64 0)
  have hlb := h.box.lt
  have H : Hid (Rst W0 b ao n c ts k ∧ Below w.heap.size w W0 ∧ w.heap.size = m0) := ⟨h.below bW0, bW0, hm0⟩
  have HX : Hid (Box6 W0 m0 50 (.int .i64 0) (.string ⟨#[]⟩) (.int .i64 0) (.int .u64 0) (.slice none 0 0) (.int .i64 0)) := hx0
  have hm0b : ¬ m0 = b := by omega
  have h0b : b < m0 := by omega
  have hki : (k : Int) ≤ 1024 := by have := h.few; have := h.le; omega
  have hpk := peek_any W0 (h.below bW0)
  clear h bW0 hx0
  have hkn : k < n := by have := (List.getElem?_eq_some_iff.1 ht).1; have := H.out.1.len; omega
  rw [pk_at ht] at hpk
  obtain ⟨y, hy⟩ : ∃ y : ByteArray, (⟨t.text.toArray⟩ : ByteArray) = y := ⟨_, rfl⟩
  have hyt : y.data.toList = t.text := by rw [← hy]
  rw [hy, hk] at hpk
  rw [hid] at hpk
  clear hy
  obtain ⟨tp, htp⟩ : ∃ tp, t.pos = tp := ⟨_, rfl⟩
  rw [htp] at hpk
  obtain ⟨tm, htm⟩ : ∃ tm, t.num = tm := ⟨_, rfl⟩
  rw [htm] at hpk
  have HL : Hid (leafN t = ⟨3, y.data.toList, tm, 0, foOf [], tp⟩) := by
    show leafN t = _
    unfold leafN
    rw [hk, hyt, htp, htm, hid]
    rfl
  have HT : Hid (ts[k]? = some t ∧ t.kind = 2) := ⟨ht, hk⟩
  clear ht hk hyt htp htm hid
  go_enter Tryz.func84, Tryz.ntmps84
  go_upto_region 1 with fail
  clear hW0 hm0
  go_wp2_with fail
  refine hpk.mono ?_
  rintro e w2 ⟨rfl, b2⟩
  clear hpk
  have hs2 := b2.size
  obtain ⟨W3, m3, hW3, hm3, hx3, bW3, _, hB3, hlt3⟩ := lay5 (Below.refl _ w2) (Nat.le_refl _) 67 (.int .i64 2) (.string y) (.int .i64 tm) (.int .u64 0) (.int .i64 tp)
  obtain ⟨W5, m5, hW5, hm5, hx5, bW5, b5, hB5, hlt5⟩ := lay6 (Below.refl _ W3) (Nat.le_refl _) 50 (.int .i64 0) (.string y) (.int .i64 tm) (.int .u64 0) (.slice none 0 0) (.int .i64 tp)
  have b25 := (b2.trans (bW3.mono b2.size)).trans (bW5.mono (by have := bW3.size; omega))
  obtain ⟨c0, c1, c2, c3, c4⟩ := hx3.cells
  have y3 := hx3.below bW5
  obtain ⟨z0, z1, z2, z3, z4⟩ := y3.cells
  have hm5b : ¬ m5 = b := by omega
  have hb5 : ¬ b = m5 := by omega
  have hm05 : ¬ m0 = m5 := by omega
  have hm50 : ¬ m5 = m0 := by omega
  have h5m : m0 < m5 := by omega
  have H5 : Hid (Rst W5 b ao n c ts k ∧ Tn b w W5 ∧ Box6 W5 m5 50 (.int .i64 0) (.string y) (.int .i64 tm) (.int .u64 0) (.slice none 0 0) (.int .i64 tp) ∧ Box6 W5 m0 50 (.int .i64 0) (.string ⟨#[]⟩) (.int .i64 0) (.int .u64 0) (.slice none 0 0) (.int .i64 0) ∧ m0 < W5.heap.size) :=
    ⟨H.out.1.below b25, (Tn.of H.out.2.1).trans (Tn.of b25), hx5, HX.out.below b25, by omega⟩
  clear b2 hx3 bW3 hx5 bW5 b5 b25 y3 hs2
  go_upto_region 3 with fail
  clear hW3 hm3 hW5 hm5
  obtain ⟨d0, d1, d2, d3, d4, d5⟩ := H5.out.2.2.1.cells
  obtain ⟨v0, v1, v2, v3, v4, v5⟩ := H5.out.2.2.1.thaw
  obtain ⟨e0, e1, e2⟩ := H5.out.1.cells
  obtain ⟨p0, p1, p2, p3, p4, p5⟩ := H5.out.2.2.2.1.cells
  obtain ⟨q0, q1, q2, q3, q4, q5⟩ := H5.out.2.2.2.1.thaw
  go_wp2_with fail
  have hc : ((k + 1 : Nat) : Int) = (k : Int) + 1 := by omega
  have r6 := (H5.out.1.one (g := m5) (by omega) 0 (.int .i64 3)).next hkn
  have t6 : Tn b w (((W5.setCell ⟨m5, 0, none⟩ (.int .i64 3)).setCell ⟨b, 1, none⟩ (.int .i64 ((k + 1 : Nat) : Int)))) := (H5.out.2.1.one (g := m5) (by have := H.out.2.2; omega) 0 (.int .i64 3)).setCell (p := ⟨b, 1, none⟩) (.inl rfl) _
  rw [hc] at r6 t6
  have hat : ts.drop k = t :: ts.drop (k + 1) := by
    obtain ⟨hlt, e⟩ := List.getElem?_eq_some_iff.1 HT.out.1
    rw [List.drop_eq_getElem_cons hlt, e]
  refine bodyPost_ret (v := .tuple #[.agg #[.int .i64 3, .string y, .int .i64 tm, .int .u64 0, .slice none 0 0, .int .i64 tp], .bool true]) ?_ rfl ⟨3, y, tm, 0, none, 0, 0, tp, true, k + 1, rfl, by omega, ?_, ?_, ?_⟩
  · simp [results, Tryz.f84]
    go_simp
  · exact r6.six (by omega) _ _ _ _ _ _
  · exact Tn.six t6 (by have := H.out.2.2; omega) _ _ _ _ _ _
  · refine .inl ⟨leafN t, rfl, by rw [hat]; exact .leaf (by rw [HT.out.2]; decide) (fun q => by rw [HT.out.2] at q; cases q), ?_⟩
    rw [HL.out]
    exact NdIn.made 3 _ tm 0 tp .nil (RdG.nil _ _ _) (fun q => by simp at q) (Nat.le_refl _)

set_option maxHeartbeats 1600000 in
set_option maxRecDepth 100000 in
theorem patom_text {E : Int} {b : Nat} {ao : Option Addr} {n c k : Nat} {ts : List Tk} {t : Tk} (ht : ts[k]? = some t) (hk : t.kind = 3) (hnum : t.num = 0) (hid : t.id = 0) : Pt E .atom 84 b ao n c ts k := by
  intro w h
  obtain ⟨W0, m0, hW0, hm0, hx0, bW0, _, hB0, hlt0⟩ := lay6 (Below.refl _ w) (Nat.le_refl _) 50 (.int .i64 0) (.string ⟨#[]⟩) (.int .i64 0) (.int .u64 0) (.slice none 0 0) (.int .i64 0)
  have hlb := h.box.lt
  have H : Hid (Rst W0 b ao n c ts k ∧ Below w.heap.size w W0 ∧ w.heap.size = m0) := ⟨h.below bW0, bW0, hm0⟩
  have HX : Hid (Box6 W0 m0 50 (.int .i64 0) (.string ⟨#[]⟩) (.int .i64 0) (.int .u64 0) (.slice none 0 0) (.int .i64 0)) := hx0
  have hm0b : ¬ m0 = b := by omega
  have h0b : b < m0 := by omega
  have hki : (k : Int) ≤ 1024 := by have := h.few; have := h.le; omega
  have hpk := peek_any W0 (h.below bW0)
  clear h bW0 hx0
  have hkn : k < n := by have := (List.getElem?_eq_some_iff.1 ht).1; have := H.out.1.len; omega
  rw [pk_at ht] at hpk
  obtain ⟨y, hy⟩ : ∃ y : ByteArray, (⟨t.text.toArray⟩ : ByteArray) = y := ⟨_, rfl⟩
  have hyt : y.data.toList = t.text := by rw [← hy]
  rw [hy, hk] at hpk
  rw [hnum] at hpk
  rw [hid] at hpk
  clear hy
  obtain ⟨tp, htp⟩ : ∃ tp, t.pos = tp := ⟨_, rfl⟩
  rw [htp] at hpk
  have HL : Hid (leafN t = ⟨4, y.data.toList, 0, 0, foOf [], tp⟩) := by
    show leafN t = _
    unfold leafN
    rw [hk, hyt, htp, hnum, hid]
    rfl
  have HT : Hid (ts[k]? = some t ∧ t.kind = 3) := ⟨ht, hk⟩
  clear ht hk hyt htp hnum hid
  go_enter Tryz.func84, Tryz.ntmps84
  go_upto_region 1 with fail
  clear hW0 hm0
  go_wp2_with fail
  refine hpk.mono ?_
  rintro e w2 ⟨rfl, b2⟩
  clear hpk
  have hs2 := b2.size
  obtain ⟨W3, m3, hW3, hm3, hx3, bW3, _, hB3, hlt3⟩ := lay5 (Below.refl _ w2) (Nat.le_refl _) 67 (.int .i64 3) (.string y) (.int .i64 0) (.int .u64 0) (.int .i64 tp)
  obtain ⟨W5, m5, hW5, hm5, hx5, bW5, b5, hB5, hlt5⟩ := lay6 (Below.refl _ W3) (Nat.le_refl _) 50 (.int .i64 0) (.string y) (.int .i64 0) (.int .u64 0) (.slice none 0 0) (.int .i64 tp)
  have b25 := (b2.trans (bW3.mono b2.size)).trans (bW5.mono (by have := bW3.size; omega))
  obtain ⟨c0, c1, c2, c3, c4⟩ := hx3.cells
  have y3 := hx3.below bW5
  obtain ⟨z0, z1, z2, z3, z4⟩ := y3.cells
  have hm5b : ¬ m5 = b := by omega
  have hb5 : ¬ b = m5 := by omega
  have hm05 : ¬ m0 = m5 := by omega
  have hm50 : ¬ m5 = m0 := by omega
  have h5m : m0 < m5 := by omega
  have H5 : Hid (Rst W5 b ao n c ts k ∧ Tn b w W5 ∧ Box6 W5 m5 50 (.int .i64 0) (.string y) (.int .i64 0) (.int .u64 0) (.slice none 0 0) (.int .i64 tp) ∧ Box6 W5 m0 50 (.int .i64 0) (.string ⟨#[]⟩) (.int .i64 0) (.int .u64 0) (.slice none 0 0) (.int .i64 0) ∧ m0 < W5.heap.size) :=
    ⟨H.out.1.below b25, (Tn.of H.out.2.1).trans (Tn.of b25), hx5, HX.out.below b25, by omega⟩
  clear b2 hx3 bW3 hx5 bW5 b5 b25 y3 hs2
  go_upto_region 3 with fail
  clear hW3 hm3 hW5 hm5
  obtain ⟨d0, d1, d2, d3, d4, d5⟩ := H5.out.2.2.1.cells
  obtain ⟨v0, v1, v2, v3, v4, v5⟩ := H5.out.2.2.1.thaw
  obtain ⟨e0, e1, e2⟩ := H5.out.1.cells
  obtain ⟨p0, p1, p2, p3, p4, p5⟩ := H5.out.2.2.2.1.cells
  obtain ⟨q0, q1, q2, q3, q4, q5⟩ := H5.out.2.2.2.1.thaw
  go_wp2_with fail
  have hc : ((k + 1 : Nat) : Int) = (k : Int) + 1 := by omega
  have r6 := (H5.out.1.one (g := m5) (by omega) 0 (.int .i64 4)).next hkn
  have t6 : Tn b w (((W5.setCell ⟨m5, 0, none⟩ (.int .i64 4)).setCell ⟨b, 1, none⟩ (.int .i64 ((k + 1 : Nat) : Int)))) := (H5.out.2.1.one (g := m5) (by have := H.out.2.2; omega) 0 (.int .i64 4)).setCell (p := ⟨b, 1, none⟩) (.inl rfl) _
  rw [hc] at r6 t6
  have hat : ts.drop k = t :: ts.drop (k + 1) := by
    obtain ⟨hlt, e⟩ := List.getElem?_eq_some_iff.1 HT.out.1
    rw [List.drop_eq_getElem_cons hlt, e]
  refine bodyPost_ret (v := .tuple #[.agg #[.int .i64 4, .string y, .int .i64 0, .int .u64 0, .slice none 0 0, .int .i64 tp], .bool true]) ?_ rfl ⟨4, y, 0, 0, none, 0, 0, tp, true, k + 1, rfl, by omega, ?_, ?_, ?_⟩
  · simp [results, Tryz.f84]
    go_simp
  · exact r6.six (by omega) _ _ _ _ _ _
  · exact Tn.six t6 (by have := H.out.2.2; omega) _ _ _ _ _ _
  · refine .inl ⟨leafN t, rfl, by rw [hat]; exact .leaf (by rw [HT.out.2]; decide) (fun q => by rw [HT.out.2] at q; cases q), ?_⟩
    rw [HL.out]
    exact NdIn.made 4 _ 0 0 tp .nil (RdG.nil _ _ _) (fun q => by simp at q) (Nat.le_refl _)

set_option maxHeartbeats 1600000 in
set_option maxRecDepth 100000 in
theorem patom_hash {E : Int} {b : Nat} {ao : Option Addr} {n c k : Nat} {ts : List Tk} {t : Tk} (ht : ts[k]? = some t) (hk : t.kind = 4) (hnum : t.num = 0) : Pt E .atom 84 b ao n c ts k := by
  intro w h
  obtain ⟨W0, m0, hW0, hm0, hx0, bW0, _, hB0, hlt0⟩ := lay6 (Below.refl _ w) (Nat.le_refl _) 50 (.int .i64 0) (.string ⟨#[]⟩) (.int .i64 0) (.int .u64 0) (.slice none 0 0) (.int .i64 0)
  have hlb := h.box.lt
  have H : Hid (Rst W0 b ao n c ts k ∧ Below w.heap.size w W0 ∧ w.heap.size = m0) := ⟨h.below bW0, bW0, hm0⟩
  have HX : Hid (Box6 W0 m0 50 (.int .i64 0) (.string ⟨#[]⟩) (.int .i64 0) (.int .u64 0) (.slice none 0 0) (.int .i64 0)) := hx0
  have hm0b : ¬ m0 = b := by omega
  have h0b : b < m0 := by omega
  have hki : (k : Int) ≤ 1024 := by have := h.few; have := h.le; omega
  have hpk := peek_any W0 (h.below bW0)
  clear h bW0 hx0
  have hkn : k < n := by have := (List.getElem?_eq_some_iff.1 ht).1; have := H.out.1.len; omega
  rw [pk_at ht] at hpk
  obtain ⟨y, hy⟩ : ∃ y : ByteArray, (⟨t.text.toArray⟩ : ByteArray) = y := ⟨_, rfl⟩
  have hyt : y.data.toList = t.text := by rw [← hy]
  rw [hy, hk] at hpk
  rw [hnum] at hpk
  clear hy
  obtain ⟨tp, htp⟩ : ∃ tp, t.pos = tp := ⟨_, rfl⟩
  rw [htp] at hpk
  obtain ⟨ti, hti⟩ : ∃ ti, t.id = ti := ⟨_, rfl⟩
  rw [hti] at hpk
  have HL : Hid (leafN t = ⟨2, y.data.toList, 0, ti, foOf [], tp⟩) := by
    show leafN t = _
    unfold leafN
    rw [hk, hyt, htp, hnum, hti]
    rfl
  have HT : Hid (ts[k]? = some t ∧ t.kind = 4) := ⟨ht, hk⟩
  clear ht hk hyt htp hnum hti
  go_enter Tryz.func84, Tryz.ntmps84
  go_upto_region 1 with fail
  clear hW0 hm0
  go_wp2_with fail
  refine hpk.mono ?_
  rintro e w2 ⟨rfl, b2⟩
  clear hpk
  have hs2 := b2.size
  obtain ⟨W3, m3, hW3, hm3, hx3, bW3, _, hB3, hlt3⟩ := lay5 (Below.refl _ w2) (Nat.le_refl _) 67 (.int .i64 4) (.string y) (.int .i64 0) (.int .u64 ti) (.int .i64 tp)
  obtain ⟨W5, m5, hW5, hm5, hx5, bW5, b5, hB5, hlt5⟩ := lay6 (Below.refl _ W3) (Nat.le_refl _) 50 (.int .i64 0) (.string y) (.int .i64 0) (.int .u64 ti) (.slice none 0 0) (.int .i64 tp)
  have b25 := (b2.trans (bW3.mono b2.size)).trans (bW5.mono (by have := bW3.size; omega))
  obtain ⟨c0, c1, c2, c3, c4⟩ := hx3.cells
  have y3 := hx3.below bW5
  obtain ⟨z0, z1, z2, z3, z4⟩ := y3.cells
  have hm5b : ¬ m5 = b := by omega
  have hb5 : ¬ b = m5 := by omega
  have hm05 : ¬ m0 = m5 := by omega
  have hm50 : ¬ m5 = m0 := by omega
  have h5m : m0 < m5 := by omega
  have H5 : Hid (Rst W5 b ao n c ts k ∧ Tn b w W5 ∧ Box6 W5 m5 50 (.int .i64 0) (.string y) (.int .i64 0) (.int .u64 ti) (.slice none 0 0) (.int .i64 tp) ∧ Box6 W5 m0 50 (.int .i64 0) (.string ⟨#[]⟩) (.int .i64 0) (.int .u64 0) (.slice none 0 0) (.int .i64 0) ∧ m0 < W5.heap.size) :=
    ⟨H.out.1.below b25, (Tn.of H.out.2.1).trans (Tn.of b25), hx5, HX.out.below b25, by omega⟩
  clear b2 hx3 bW3 hx5 bW5 b5 b25 y3 hs2
  go_upto_region 3 with fail
  clear hW3 hm3 hW5 hm5
  obtain ⟨d0, d1, d2, d3, d4, d5⟩ := H5.out.2.2.1.cells
  obtain ⟨v0, v1, v2, v3, v4, v5⟩ := H5.out.2.2.1.thaw
  obtain ⟨e0, e1, e2⟩ := H5.out.1.cells
  obtain ⟨p0, p1, p2, p3, p4, p5⟩ := H5.out.2.2.2.1.cells
  obtain ⟨q0, q1, q2, q3, q4, q5⟩ := H5.out.2.2.2.1.thaw
  go_wp2_with fail
  have hc : ((k + 1 : Nat) : Int) = (k : Int) + 1 := by omega
  have r6 := (H5.out.1.one (g := m5) (by omega) 0 (.int .i64 2)).next hkn
  have t6 : Tn b w (((W5.setCell ⟨m5, 0, none⟩ (.int .i64 2)).setCell ⟨b, 1, none⟩ (.int .i64 ((k + 1 : Nat) : Int)))) := (H5.out.2.1.one (g := m5) (by have := H.out.2.2; omega) 0 (.int .i64 2)).setCell (p := ⟨b, 1, none⟩) (.inl rfl) _
  rw [hc] at r6 t6
  have hat : ts.drop k = t :: ts.drop (k + 1) := by
    obtain ⟨hlt, e⟩ := List.getElem?_eq_some_iff.1 HT.out.1
    rw [List.drop_eq_getElem_cons hlt, e]
  refine bodyPost_ret (v := .tuple #[.agg #[.int .i64 2, .string y, .int .i64 0, .int .u64 ti, .slice none 0 0, .int .i64 tp], .bool true]) ?_ rfl ⟨2, y, 0, ti, none, 0, 0, tp, true, k + 1, rfl, by omega, ?_, ?_, ?_⟩
  · simp [results, Tryz.f84]
    go_simp
  · exact r6.six (by omega) _ _ _ _ _ _
  · exact Tn.six t6 (by have := H.out.2.2; omega) _ _ _ _ _ _
  · refine .inl ⟨leafN t, rfl, by rw [hat]; exact .leaf (by rw [HT.out.2]; decide) (fun q => by rw [HT.out.2] at q; cases q), ?_⟩
    rw [HL.out]
    exact NdIn.made 2 _ 0 ti tp .nil (RdG.nil _ _ _) (fun q => by simp at q) (Nat.le_refl _)

theorem patom_any {E : Int} {b : Nat} {ao : Option Addr} {n c k : Nat} {ts : List Tk} (hU : ∀ k', k < k' → Pt E (.row 1) 22 b ao n c ts k') (h33 : hd (sB [33]) (ts.drop k) = false) : Pt E .atom 84 b ao n c ts k := by
  intro w h
  rcases Nat.lt_or_ge k n with hk | hk
  · obtain ⟨t, ht⟩ : ∃ t, ts[k]? = some t := ⟨_, List.getElem?_eq_getElem (by rw [h.len]; exact hk)⟩
    rcases tk_kinds (h.good t (List.mem_of_getElem? ht)) with ⟨a1, a2, a3, a4⟩ | ⟨a1, a2, a3⟩ | ⟨a1, a2, a3⟩ | ⟨a1, a2, a3⟩ | a1
    · exact patom_name ht a1 a2 a3 a4 (fun k' q => hU k' (by omega)) w h
    · exact patom_num ht a1 a3 w h
    · exact patom_text ht a1 a2 a3 w h
    · exact patom_hash ht a1 a3 w h
    · exact patom_sign (.inl (by rw [pk_at ht, a1])) (pbrac_any (fun _ => hU _ (by omega)) (fun _ => by rw [pk_at ht, a1]) h33) w h
  · exact patom_sign (.inr (by rw [pk_end (by rw [h.len]; exact hk)]; rfl)) (pbrac_any (fun _ => hU _ (by omega)) (fun q => by omega) h33) w h

end Go.Proofs.YtdgdckmhmmigkaaGreatDoor
