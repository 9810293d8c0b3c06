import Derived.Test.YtijchmcajhdcoaaGreatDoorBJoi
/-!
  What a part of the reader answers: a tree of the grammar, or where the reading ends. No condition.
-/
namespace Go.Proofs.YtijchmcajhdcoaaGreatDoor
open Go.RowKit

/-- The blocks from one number on, ahead of another. -/
abbrev Bt (lo hi : Nat) : Nat → Prop := fun g => lo ≤ g ∧ g < hi

/-- What is told of a part: a tree, and what is left; or where no more can stand. -/
def Oc (E : Int) (m : Mo) (ts : List Tk) (k : Nat) (Q : Nat → Prop) (v : NV) (f : Bool) (k' : Nat) (w' : World) : Prop :=
  (∃ nd, f = true ∧ Gm E m (ts.drop k) (.ok nd (ts.drop k')) ∧ NdIn Q w' v nd) ∨ (Gm E m (ts.drop k) (.err (nextP E (ts.drop k'))) ∧ (f = true → hd (kB 2) (ts.drop k') = true))

/-- What a part of the reader answers. -/
def Rp (E : Int) (m : Mo) (b : Nat) (ao : Option Addr) (n c : Nat) (ts : List Tk) (k : Nat) (w : World) (e : Ending) (w' : World) : Prop :=
  ∃ (o : Int) (y : ByteArray) (i j : Int) (a : Option Addr) (l q : Nat) (p : Int) (f : Bool) (k' : Nat), e = .returned (.tuple #[.agg #[.int .i64 o, .string y, .int .i64 i, .int .u64 j, .slice a l q, .int .i64 p], .bool f]) ∧
    k ≤ k' ∧ Rst w' b ao n c ts k' ∧ Tn b w w' ∧ Oc E m ts k (Bt w.heap.size w'.heap.size) ⟨o, y.data.toList, i, j, a, l, q, p⟩ f k' w'

theorem num_no {L : Int} {l : List Tk} (hL : L ≠ 0) (h : hd (kB 2) l = true) : hd (lB L) l = false := by
  cases l with
  | nil => cases h
  | cons t r =>
    have h2 : t.kind = 2 := by simpa [hd, kB] using h
    simp [hd, lB, sgl, h2]
    omega
theorem num_sB {s : Bs} {l : List Tk} (h : hd (kB 2) l = true) : hd (sB s) l = false := by
  cases l with
  | nil => cases h
  | cons t r =>
    have h2 : t.kind = 2 := by simpa [hd, kB] using h
    simp [hd, sB, h2]

section
variable {Q : Nat → Prop} {w : World}
theorem sixT (w : World) (g : Nat) (x0 x1 x2 x3 x4 x5 : Value) : Turned (fun q => q = g) w ((((((w.setCell ⟨g, 0, none⟩ x0).setCell ⟨g, 1, none⟩ x1).setCell ⟨g, 2, none⟩ x2).setCell ⟨g, 3, none⟩ x3).setCell ⟨g, 4, none⟩ x4).setCell ⟨g, 5, none⟩ x5) :=
  ((((((Turned.refl (fun q => q = g) w).setCell (p := ⟨g, 0, none⟩) (.inl rfl) x0).setCell (p := ⟨g, 1, none⟩) (.inl rfl) x1).setCell (p := ⟨g, 2, none⟩) (.inl rfl) x2).setCell (p := ⟨g, 3, none⟩) (.inl rfl) x3).setCell (p := ⟨g, 4, none⟩) (.inl rfl) x4).setCell (p := ⟨g, 5, none⟩) (.inl rfl) x5
theorem NdIn.six {v : NV} {nd : Nd} (h : NdIn Q w v nd) {g : Nat} (hg : ¬ Q g) (x0 x1 x2 x3 x4 x5 : Value) : NdIn Q ((((((w.setCell ⟨g, 0, none⟩ x0).setCell ⟨g, 1, none⟩ x1).setCell ⟨g, 2, none⟩ x2).setCell ⟨g, 3, none⟩ x3).setCell ⟨g, 4, none⟩ x4).setCell ⟨g, 5, none⟩ x5) v nd :=
  h.turned (sixT w g x0 x1 x2 x3 x4 x5) (fun _ hq e => hg (e ▸ hq))

/-- Things of a kind that are written down lie in a new row. -/
theorem rdG_new {α : Type} (E : Enc α) (w : World) (xs : List α) (t : TypeId) (cs : Array Value) (hc : cs = (E.all xs).toArray) : RdG E (w.alloc (.cells cs t)) (some ⟨w.heap.size, 0, none⟩) xs := by
  subst hc
  intro _
  refine ⟨w.heap.size, 0, rfl, by simp, fun i x hx j u hu => ?_⟩
  have hj : j < E.size := by
    rw [← E.len x]
    exact (List.getElem?_eq_some_iff.1 hu).1
  rw [Nat.zero_add, World.cell?_alloc_new]
  have := E.all_get xs i j x hx hj
  rw [hu] at this
  simpa using this

/-- A node of one kid, the kid's row laid anew. -/
theorem NdIn.kid1 {v : NV} {x : Nd} (h : NdIn Q w v x) {op num pos : Int} (t : TypeId) (cs : Array Value) (hc : cs = (encN.cells v).toArray) {R : Nat → Prop} (hR : R w.heap.size) (hQR : ∀ g, Q g → R g) :
    NdIn R (w.alloc (.cells cs t)) ⟨op, [], num, 0, some ⟨w.heap.size, 0, none⟩, 1, 1, pos⟩ ⟨op, [], num, 0, foOf [x], pos⟩ :=
  NdIn.made op [] num 0 pos (.cons ((h.below (bz1 w _)).mono hQR) .nil) (rdG_new encN w [v] t cs (by rw [hc]; simp [Enc.all])) (fun _ a e => by cases e; exact hR) (Nat.le_refl _)
/-- A node of two kids, their row laid anew. -/
theorem NdIn.kid2 {v u : NV} {x y : Nd} (h : NdIn Q w v x) {Q2 : Nat → Prop} (h2 : NdIn Q2 w u y) {op pos : Int} (t : TypeId) (cs : Array Value) (hc : cs = (encN.cells v ++ encN.cells u).toArray) {R : Nat → Prop} (hR : R w.heap.size) (hQR : ∀ g, Q g → R g) (hQR2 : ∀ g, Q2 g → R g) :
    NdIn R (w.alloc (.cells cs t)) ⟨op, [], 0, 0, some ⟨w.heap.size, 0, none⟩, 2, 2, pos⟩ ⟨op, [], 0, 0, foOf [x, y], pos⟩ :=
  NdIn.made op [] 0 0 pos (.cons ((h.below (bz1 w _)).mono hQR) (.cons ((h2.below (bz1 w _)).mono hQR2) .nil)) (rdG_new encN w [v, u] t cs (by rw [hc]; simp [Enc.all])) (fun _ a e => by cases e; exact hR) (Nat.le_refl _)
end

theorem Rst.one {w : World} {b : Nat} {ao : Option Addr} {n c k : Nat} {ts : List Tk} (h : Rst w b ao n c ts k) {g : Nat} (hg : b < g) (j : Nat) (x : Value) : Rst (w.setCell ⟨g, j, none⟩ x) b ao n c ts k :=
  h.above (S := fun q => q = g) ((Turned.refl (fun q => q = g) w).setCell (p := ⟨g, j, none⟩) (.inl rfl) x) (fun q e => by omega)
theorem Tn.one {b g : Nat} {a w : World} (h : Tn b a w) (hg : a.heap.size ≤ g) (j : Nat) (x : Value) : Tn b a (w.setCell ⟨g, j, none⟩ x) := h.setCell (p := ⟨g, j, none⟩) (.inr hg) _
theorem NdIn.one {Q : Nat → Prop} {w : World} {v : NV} {nd : Nd} (h : NdIn Q w v nd) {g : Nat} (hg : ¬ Q g) (j : Nat) (x : Value) : NdIn Q (w.setCell ⟨g, j, none⟩ x) v nd :=
  h.turned (S := fun q => q = g) ((Turned.refl (fun q => q = g) w).setCell (p := ⟨g, j, none⟩) (.inl rfl) x) (fun _ hq e => hg (e ▸ hq))
/-- All that lies from a number on may be turned. -/
theorem turnB {B : Nat} {w w' : World} (h : Below B w w') : Turned (fun g => B ≤ g) w w' := ⟨h.os, h.tape, h.output, h.size, fun k _ hk => h.block k (by omega)⟩
/-- A row in a block of its own. -/
theorem layR (w : World) (t : TypeId) (cs : Array Value) : ∃ W g, w.alloc (.cells cs t) = W ∧ w.heap.size = g ∧ Below w.heap.size w W ∧ W.heap.size = g + 1 := ⟨_, _, rfl, rfl, bz1 w _, by simp⟩

theorem drop_hd {ts : List Tk} {k : Nat} {q : Tk → Bool} (h : hd q (ts.drop k) = true) : ts.drop k = pk (ts.drop k) :: ts.drop (k + 1) := (drop_pk h).2
theorem hd_of_pk {ts : List Tk} {k : Nat} {q : Tk → Bool} (h0 : q tk0 = false) (h : hd q (ts.drop k) = true) : q (pk (ts.drop k)) = true := by rw [← hd_pk h0]; exact h
theorem lB0 {L : Int} (h : L ≠ 0) : lB L tk0 = false := by simp [lB, sgl, tk0]; omega
theorem sgl_of_hd {ts : List Tk} {k : Nat} {L : Int} (hL : L ≠ 0) (h : hd (lB L) (ts.drop k) = true) : sgl (pk (ts.drop k)) = L := by
  have := hd_of_pk (lB0 hL) h
  simpa [lB] using this

/-- A part of the reader at a place, wherever it stands. -/
def Pt (E : Int) (m : Mo) (F : Nat) (b : Nat) (ao : Option Addr) (n c : Nat) (ts : List Tk) (k : Nat) : Prop := ∀ u, Rst u b ao n c ts k → Calls Tryz.prog F #[.pointer (some ⟨b, 0, none⟩)] u (Rp E m b ao n c ts k u)

end Go.Proofs.YtijchmcajhdcoaaGreatDoor

/-!
  The reader's row by a contract, over that of its parts. No condition.
-/
namespace Go.Proofs.YtijchmcajhdcoaaGreatDoor
open Go.RowKit

section
variable {w : World} {B : Nat} {t : TypeId} {a b c d e f : Value}
theorem Box6.sixed (h : Box6 w B t a b c d e f) (x0 x1 x2 x3 x4 x5 : Value) : Box6 ((((((w.setCell ⟨B, 0, none⟩ x0).setCell ⟨B, 1, none⟩ x1).setCell ⟨B, 2, none⟩ x2).setCell ⟨B, 3, none⟩ x3).setCell ⟨B, 4, none⟩ x4).setCell ⟨B, 5, none⟩ x5) B t x0 x1 x2 x3 x4 x5 := by
  unfold Box6 at h ⊢
  simp [World.setCell, Array.getElem?_modify, h]
theorem Box6.put2 (h : Box6 w B t a b c d e f) (x : Value) : Box6 (w.setCell ⟨B, 2, none⟩ x) B t a b x d e f := by
  unfold Box6 at h ⊢
  simp [World.setCell, Array.getElem?_modify, h]
theorem Box6.one (h : Box6 w B t a b c d e f) {g : Nat} (hg : ¬ B = g) (j : Nat) (x : Value) : Box6 (w.setCell ⟨g, j, none⟩ x) B t a b c d e f :=
  h.turned (S := fun q => q = g) ((Turned.refl (fun q => q = g) w).setCell (p := ⟨g, j, none⟩) (.inl rfl) x) hg
theorem Box6.six (h : Box6 w B t a b c d e f) {g : Nat} (hg : ¬ B = g) (x0 x1 x2 x3 x4 x5 : Value) : Box6 ((((((w.setCell ⟨g, 0, none⟩ x0).setCell ⟨g, 1, none⟩ x1).setCell ⟨g, 2, none⟩ x2).setCell ⟨g, 3, none⟩ x3).setCell ⟨g, 4, none⟩ x4).setCell ⟨g, 5, none⟩ x5) B t a b c d e f :=
  h.turned (sixT w g x0 x1 x2 x3 x4 x5) hg
end
theorem six_size (w : World) (g : Nat) (x0 x1 x2 x3 x4 x5 : Value) : ((((((w.setCell ⟨g, 0, none⟩ x0).setCell ⟨g, 1, none⟩ x1).setCell ⟨g, 2, none⟩ x2).setCell ⟨g, 3, none⟩ x3).setCell ⟨g, 4, none⟩ x4).setCell ⟨g, 5, none⟩ x5).heap.size = w.heap.size := by simp [World.size_setCell]

/-- What stands at the head of a round of row: the tree so far, in a block of its own. -/
structure RwI (E L : Int) (b : Nat) (ao : Option Addr) (n c : Nat) (ts : List Tk) (k m0 m8 : Nat) (w wr : World) (k2 : Nat) (f : Bool) (o : Int) (y : ByteArray) (i j : Int) (a : Option Addr) (l q : Nat) (p : Int) : Prop where
  box : Box6 wr m8 28 (.int .i64 o) (.string y) (.int .i64 i) (.int .u64 j) (.slice a l q) (.int .i64 p)
  res : Box6 wr m0 28 (.int .i64 0) (.string ⟨#[]⟩) (.int .i64 0) (.int .u64 0) (.slice none 0 0) (.int .i64 0)
  rst : Rst wr b ao n c ts k2
  tn : Tn b w wr
  le : k ≤ k2
  lt : m8 < wr.heap.size
  oc : (∃ nd, f = true ∧ (∀ o, Gm E (.rows L nd) (ts.drop k2) o → Gm E (.row L) (ts.drop k) o) ∧ NdIn (fun g => m0 < g ∧ g ≠ m8 ∧ g < wr.heap.size) wr ⟨o, y.data.toList, i, j, a, l, q, p⟩ nd) ∨ (Gm E (.row L) (ts.drop k) (.err (nextP E (ts.drop k2))) ∧ (f = true → hd (kB 2) (ts.drop k2) = true))

set_option maxHeartbeats 3200000 in
set_option maxRecDepth 100000 in
theorem prow_any {E L : Int} {F b : Nat} {ao : Option Addr} {n c k : Nat} {ts : List Tk} (hL : L = 1 ∨ L = 2) (eg : ∀ args w, (callFunc F args).run Tryz.prog w = .ok (.enter F args) w) (hU : ∀ k', k ≤ k' → Pt E (lowM L) F b ao n c ts k')
    (w : World) (h : Rst w b ao n c ts k) : Calls Tryz.prog 31 #[.pointer (some ⟨b, 0, none⟩), .int .i64 L, .func (.func F) #[.pointer (some ⟨b, 0, none⟩)] #[]] w (Rp E (.row L) b ao n c ts k w) := by
  have HU : Hid (∀ k', k ≤ k' → Pt E (lowM L) F b ao n c ts k') := hU
  have HL : Hid (L = 1 ∨ L = 2) := hL
  have hL0 : L ≠ 0 := by omega
  have HL0 : Hid (L ≠ 0) := hL0
  obtain ⟨W0, m0, hW0, hm0, hx0, bW0, _, hB0, hlt0⟩ := lay6 (Below.refl _ w) (Nat.le_refl _) 28 (.int .i64 0) (.string ⟨#[]⟩) (.int .i64 0) (.int .u64 0) (.slice none 0 0) (.int .i64 0)
  have hlb := h.box.lt
  have H : Hid (Rst W0 b ao n c ts k ∧ Below w.heap.size w W0) := ⟨h.below bW0, bW0⟩
  have HX : Hid (Box6 W0 m0 28 (.int .i64 0) (.string ⟨#[]⟩) (.int .i64 0) (.int .u64 0) (.slice none 0 0) (.int .i64 0)) := hx0
  have hm0b : ¬ m0 = b := by omega
  have hm00 : w.heap.size = m0 := hm0
  have HZ : Hid (w.heap.size = m0) := hm00
  have hfew : n ≤ 1024 := h.few
  clear h hU bW0 hx0 hm00 hL hL0
  go_enter Tryz.func31, Tryz.ntmps31
  go_upto_region 1 with fail
  clear hW0 hm0
  go_wp2_with (go_at_fn F; refine (HU.out k (Nat.le_refl _) W0 H.out.1).mono ?_)
  rintro e w2 ⟨o, y, i, j, a, l, q, p, f, k2, rfl, hk2, hR2, hT2, hO2⟩
  obtain ⟨W8, m8, hW8, hm8, hx8, bW8, b8, hB8, hlt8⟩ := lay6 (Below.refl _ w2) (Nat.le_refl _) 28 (.int .i64 o) (.string y) (.int .i64 i) (.int .u64 j) (.slice a l q) (.int .i64 p)
  have hs2 := hT2.size
  have hm8b : ¬ m8 = b := by omega
  have hm08 : ¬ m0 = m8 := by omega
  have hm80 : ¬ m8 = m0 := by omega
  have h08 : m0 < m8 := by omega
  have HI : Hid (RwI E L b ao n c ts k m0 m8 w W8 k2 f o y i j a l q p) := by
    refine ⟨hx8, (HX.out.turned hT2 hm0b).below bW8, hR2.below bW8, ((Tn.of H.out.2).trans hT2).trans (Tn.of bW8), hk2, hlt8, ?_⟩
    rcases hO2 with ⟨nd, rfl, h1, h2⟩ | ⟨h1, h2⟩
    · exact .inl ⟨nd, rfl, fun o ho => .row HL.out h1 ho, (h2.below bW8).mono (fun g hg => by have := hg.1; have := hg.2; exact ⟨by omega, by omega, by omega⟩)⟩
    · exact .inr ⟨.rowE HL.out h1, h2⟩
  clear hR2 hT2 hO2 hx8 b8 bW8
  go_upto_region 2 with fail
  clear hW8 hm8
  go_loopg [9] (n - k2) (fun g v wr => ∃ (k2 : Nat) (f : Bool) (o : Int) (y : ByteArray) (i j : Int) (a : Option Addr) (l q : Nat) (p : Int), v = .bool f ∧ g = n - k2 ∧ Hid (RwI E L b ao n c ts k m0 m8 w wr k2 f o y i j a l q p))
  case atStart => exact ⟨k2, f, o, y, i, j, a, l, q, p, rfl, rfl, HI.out⟩
  case round =>
    clear HI hk2 hs2
    obtain ⟨k2, f, o, y, i, j, a, l, q, p, rfl, hgk, HI⟩ := hrel
    cases f with
    | false =>
      obtain ⟨p0, p1, p2, p3, p4, p5⟩ := HI.out.res.cells
      obtain ⟨q0, q1, q2, q3, q4, q5⟩ := HI.out.res.thaw
      go_wp2_with fail
      refine bodyPost_ret (v := .tuple #[.agg #[.int .i64 0, .string ⟨#[]⟩, .int .i64 0, .int .u64 0, .slice none 0 0, .int .i64 0], .bool false]) ?_ rfl ⟨0, ByteArray.empty, 0, 0, none, 0, 0, 0, false, k2, rfl, HI.out.le, ?_, ?_, ?_⟩
      · simp [results, Tryz.f31]
        go_simp
      · exact HI.out.rst.six (by omega) _ _ _ _ _ _
      · exact HI.out.tn.six (by omega) _ _ _ _ _ _
      · rcases HI.out.oc with ⟨nd, q, _⟩ | ⟨h1, h2⟩
        · cases q
        · exact .inr ⟨h1, fun q => by cases q⟩
    | true =>
      by_cases h3 : hd (lB L) (ts.drop k2) = true
      · obtain ⟨nd, hch, hn1⟩ : ∃ nd, (∀ o, Gm E (.rows L nd) (ts.drop k2) o → Gm E (.row L) (ts.drop k) o) ∧ NdIn (fun g => m0 < g ∧ g ≠ m8 ∧ g < wr.heap.size) wr ⟨o, y.data.toList, i, j, a, l, q, p⟩ nd := by
          rcases HI.out.oc with ⟨nd, _, h1, h2⟩ | ⟨_, h2⟩
          · exact ⟨nd, h1, h2⟩
          · rw [num_no HL0.out (h2 rfl)] at h3
            cases h3
        have hjy := joined_yes L HL0.out wr HI.out.rst h3
        have HG : Hid ((∀ o, Gm E (.rows L nd) (ts.drop k2) o → Gm E (.row L) (ts.drop k) o) ∧ NdIn (fun g => m0 < g ∧ g ≠ m8 ∧ g < wr.heap.size) wr ⟨o, y.data.toList, i, j, a, l, q, p⟩ nd ∧ hd (lB L) (ts.drop k2) = true) := ⟨hch, hn1, h3⟩
        have hkn : k2 < n := by have := (drop_pk h3).1; have := HI.out.rst.len; omega
        have hltw := HI.out.lt
        clear hch hn1 h3
        generalize hop : opOf (pk (ts.drop k2)).text = po at hjy
        generalize hpp : (pk (ts.drop k2)).pos = pp at hjy
        have HP : Hid (opOf (pk (ts.drop k2)).text = po ∧ (pk (ts.drop k2)).pos = pp) := ⟨hop, hpp⟩
        clear hop hpp
        go_wp2_with fail
        refine hjy.mono ?_
        rintro e w5 ⟨rfl, h5, t5⟩
        obtain ⟨W6, m6, hW6, hm6, hx6, bW6, b6, hB6, hlt6⟩ := lay6 (Below.refl _ w5) (Nat.le_refl _) 28 (.int .i64 po) (.string ⟨#[]⟩) (.int .i64 0) (.int .u64 0) (.slice none 0 0) (.int .i64 pp)
        obtain ⟨W7, m7, hW7, hm7, hx7, bW7, b7, hB7, hlt7⟩ := lay6 (Below.refl _ W6) (Nat.le_refl _) 28 (.int .i64 0) (.string ⟨#[]⟩) (.int .i64 0) (.int .u64 0) (.slice none 0 0) (.int .i64 0)
        have hs5 := t5.size
        have hm6b : ¬ m6 = b := by omega
        have hm7b : ¬ m7 = b := by omega
        have HX7 : Hid (Box6 W7 m7 28 (.int .i64 0) (.string ⟨#[]⟩) (.int .i64 0) (.int .u64 0) (.slice none 0 0) (.int .i64 0) ∧ Box6 W7 m6 28 (.int .i64 po) (.string ⟨#[]⟩) (.int .i64 0) (.int .u64 0) (.slice none 0 0) (.int .i64 pp) ∧ Box6 W7 m8 28 (.int .i64 o) (.string y) (.int .i64 i) (.int .u64 j) (.slice a l q) (.int .i64 p) ∧ Box6 W7 m0 28 (.int .i64 0) (.string ⟨#[]⟩) (.int .i64 0) (.int .u64 0) (.slice none 0 0) (.int .i64 0)) :=
          ⟨hx7, hx6.below bW7, ((HI.out.box.turned t5 hm8b).below bW6).below bW7, ((HI.out.res.turned t5 hm0b).below bW6).below bW7⟩
        have H7 : Hid (Rst W7 b ao n c ts (k2 + 1) ∧ Tn b w W7 ∧ NdIn (fun g => m0 < g ∧ g ≠ m8 ∧ g < wr.heap.size) W7 ⟨o, y.data.toList, i, j, a, l, q, p⟩ nd ∧ wr.heap.size ≤ m6 ∧ m6 < m7 ∧ m7 < W7.heap.size) :=
          ⟨(h5.below bW6).below bW7, ((HI.out.tn.trans t5).trans (Tn.of bW6)).trans (Tn.of bW7), ((HG.out.2.1.turned t5 (fun g hg e => by have := hg.1; omega)).below bW6).below bW7, by omega, by omega, hlt7⟩
        clear h5 t5 hx6 b6 bW6 hx7 b7 bW7 hjy
        go_upto_region 7 with fail
        clear hW6 hm6 hW7 hm7
        go_wp2_with (go_at_fn F; refine (HU.out (k2 + 1) (by have := HI.out.le; omega) W7 H7.out.1).mono ?_)
        rintro e w8 ⟨o2, y2, i2, j2, a2, l2, q2, p2, f2, k3, rfl, hk3, hR3, hT3, hO3⟩
        have hs8 := hT3.size
        have x7 := HX7.out.1.turned hT3 hm7b
        obtain ⟨e0, e1, e2, e3, e4, e5⟩ := x7.cells
        obtain ⟨z0, z1, z2, z3, z4, z5⟩ := x7.thaw
        have hz7 := H7.out.2.2.2
        have h67 : ¬ m6 = m7 := by omega
        have h87 : ¬ m8 = m7 := by omega
        have h07 : ¬ m0 = m7 := by omega
        have x9 := And.intro (x7.sixed (.int .i64 o2) (.string y2) (.int .i64 i2) (.int .u64 j2) (.slice a2 l2 q2) (.int .i64 p2)) (And.intro ((HX7.out.2.1.turned hT3 hm6b).six h67 (.int .i64 o2) (.string y2) (.int .i64 i2) (.int .u64 j2) (.slice a2 l2 q2) (.int .i64 p2)) (And.intro ((HX7.out.2.2.1.turned hT3 hm8b).six h87 (.int .i64 o2) (.string y2) (.int .i64 i2) (.int .u64 j2) (.slice a2 l2 q2) (.int .i64 p2)) ((HX7.out.2.2.2.turned hT3 hm0b).six h07 (.int .i64 o2) (.string y2) (.int .i64 i2) (.int .u64 j2) (.slice a2 l2 q2) (.int .i64 p2))))
        have h9 := And.intro (hR3.six (g := m7) (by omega) (.int .i64 o2) (.string y2) (.int .i64 i2) (.int .u64 j2) (.slice a2 l2 q2) (.int .i64 p2)) (And.intro ((H7.out.2.1.trans hT3).six (g := m7) (by omega) (.int .i64 o2) (.string y2) (.int .i64 i2) (.int .u64 j2) (.slice a2 l2 q2) (.int .i64 p2)) (And.intro ((H7.out.2.2.1.turned hT3 (fun g hg e => by have := hg.1; omega)).six (g := m7) (fun q => by have := q.2.2; omega) (.int .i64 o2) (.string y2) (.int .i64 i2) (.int .u64 j2) (.slice a2 l2 q2) (.int .i64 p2)) (six_size w8 m7 (.int .i64 o2) (.string y2) (.int .i64 i2) (.int .u64 j2) (.slice a2 l2 q2) (.int .i64 p2))))
        have hO9 : ∀ nd2, NdIn (Bt W7.heap.size w8.heap.size) w8 ⟨o2, y2.data.toList, i2, j2, a2, l2, q2, p2⟩ nd2 → NdIn (Bt W7.heap.size w8.heap.size) _ ⟨o2, y2.data.toList, i2, j2, a2, l2, q2, p2⟩ nd2 := fun nd2 hn => hn.six (g := m7) (fun q => by have := q.1; omega) (.int .i64 o2) (.string y2) (.int .i64 i2) (.int .u64 j2) (.slice a2 l2 q2) (.int .i64 p2)
        obtain ⟨W9, hW9⟩ : ∃ W9, ((((((w8.setCell ⟨m7, 0, none⟩ (.int .i64 o2)).setCell ⟨m7, 1, none⟩ (.string y2)).setCell ⟨m7, 2, none⟩ (.int .i64 i2)).setCell ⟨m7, 3, none⟩ (.int .u64 j2)).setCell ⟨m7, 4, none⟩ (.slice a2 l2 q2)).setCell ⟨m7, 5, none⟩ (.int .i64 p2)) = W9 := ⟨_, rfl⟩
        rw [hW9] at x9 h9 hO9
        have HX9 : Hid (_ ∧ _ ∧ _ ∧ _) := x9
        have H9 : Hid (Rst W9 b ao n c ts k3 ∧ Tn b w W9 ∧ NdIn (fun g => m0 < g ∧ g ≠ m8 ∧ g < wr.heap.size) W9 ⟨o, y.data.toList, i, j, a, l, q, p⟩ nd ∧ W9.heap.size = w8.heap.size ∧ k2 + 1 ≤ k3 ∧ Oc E (lowM L) ts (k2 + 1) (Bt W7.heap.size w8.heap.size) ⟨o2, y2.data.toList, i2, j2, a2, l2, q2, p2⟩ f2 k3 w8 ∧ (∀ nd2, NdIn (Bt W7.heap.size w8.heap.size) w8 ⟨o2, y2.data.toList, i2, j2, a2, l2, q2, p2⟩ nd2 → NdIn (Bt W7.heap.size w8.heap.size) W9 ⟨o2, y2.data.toList, i2, j2, a2, l2, q2, p2⟩ nd2)) := ⟨h9.1, h9.2.1, h9.2.2.1, h9.2.2.2, hk3, hO3, hO9⟩
        clear hR3 hT3 hO3 x7 x9 h9 hO9
        go_upto_region 8 with fail
        clear hW9
        obtain ⟨d0, d1, d2, d3, d4, d5⟩ := HX9.out.1.cells
        obtain ⟨s0, s1, s2, s3, s4, s5⟩ := HX9.out.2.2.1.cells
        obtain ⟨WA, mA, hWA, hmA, bWA, hsA⟩ := layR W9 28 #[.int .i64 o, .string y, .int .i64 i, .int .u64 j, .slice a l q, .int .i64 p, .int .i64 o2, .string y2, .int .i64 i2, .int .u64 j2, .slice a2 l2 q2, .int .i64 p2]
        have hxA := HX9.out.2.1.below bWA
        have hyA := HX9.out.2.2.1.below bWA
        obtain ⟨g0, g1, g2, g3, g4, g5⟩ := hxA.cells
        obtain ⟨v0, v1, v2, v3, v4, v5⟩ := hxA.thaw
        obtain ⟨p0, p1, p2', p3, p4, p5⟩ := hyA.cells
        obtain ⟨r0, r1, r2, r3, r4, r5⟩ := hyA.thaw
        have h68 : ¬ m6 = m8 := by omega
        have h86 : ¬ m8 = m6 := by omega
        have h06 : ¬ m0 = m6 := by omega
        have HS9 : Hid (W9.heap.size = w8.heap.size) := H9.out.2.2.2.1
        have KID : Hid (∀ x2, NdIn (Bt W7.heap.size w8.heap.size) w8 ⟨o2, y2.data.toList, i2, j2, a2, l2, q2, p2⟩ x2 → NdIn (fun g => m0 < g ∧ g ≠ m8 ∧ g ≠ m6 ∧ g < mA + 1) WA ⟨po, [], 0, 0, some ⟨mA, 0, none⟩, 2, 2, pp⟩ ⟨po, [], 0, 0, foOf [nd, x2], pp⟩) := by
          intro x2 hx2
          rw [← hWA, ← hmA]
          have e9 := HS9.out
          exact H9.out.2.2.1.kid2 (H9.out.2.2.2.2.2.2 x2 hx2) _ _ (by simp [encN]) ⟨by omega, by omega, by omega, by omega⟩ (fun g hg => by have := hg.1; have := hg.2.1; have := hg.2.2; exact ⟨by omega, by omega, by omega, by omega⟩) (fun g hg => by have := hg.1; have := hg.2; exact ⟨by omega, by omega, by omega, by omega⟩)
        have HA : Hid (Rst WA b ao n c ts k3 ∧ Tn b w WA ∧ Box6 WA m8 28 (.int .i64 o) (.string y) (.int .i64 i) (.int .u64 j) (.slice a l q) (.int .i64 p) ∧ Box6 WA m0 28 (.int .i64 0) (.string ⟨#[]⟩) (.int .i64 0) (.int .u64 0) (.slice none 0 0) (.int .i64 0) ∧ WA.heap.size = mA + 1 ∧ m8 < mA) := ⟨H9.out.1.below bWA, H9.out.2.1.trans (Tn.of bWA), hyA, HX9.out.2.2.2.below bWA, hsA, by have := HS9.out; omega⟩
        clear hxA hyA bWA hsA
        go_wp2_with fail
        clear hWA hmA
        go_roundg (n - k3)
        case measure => have := H9.out.2.2.2.2.1; omega
        case rel =>
          refine ⟨k3, f2, po, ByteArray.empty, 0, 0, some ⟨mA, 0, none⟩, 2, 2, pp, rfl, rfl, ?_⟩
          refine ⟨(HA.out.2.2.1.one h86 4 _).sixed _ _ _ _ _ _, (HA.out.2.2.2.1.one h06 4 _).six hm08 _ _ _ _ _ _, (HA.out.1.one (by omega) 4 _).six (by omega) _ _ _ _ _ _, (HA.out.2.1.one (by have := HZ.out; omega) 4 _).six (by have := HZ.out; omega) _ _ _ _ _ _, by have := H9.out.2.2.2.2.1; have := HI.out.le; omega, ?_, ?_⟩
          · rw [six_size]
            have := HA.out.2.2.2.2
            simp [World.size_setCell]
            omega
          · have hs3 := sgl_of_hd HL0.out HG.out.2.2
            have hdr := drop_hd HG.out.2.2
            rcases H9.out.2.2.2.2.2.1 with ⟨x2, rfl, g2, n2⟩ | ⟨g2, n2⟩
            · refine .inl ⟨binN (pk (ts.drop k2)) nd x2, rfl, fun o ho => HG.out.1 _ (by rw [hdr]; exact .more hs3 g2 ho), ?_⟩
              have hk := ((KID.out x2 n2).one (g := m6) (fun q => q.2.2.1 rfl) 4 (.slice (some ⟨mA, 0, none⟩) 2 2)).six (g := m8) (fun q => q.2.1 rfl) (.int .i64 po) (.string ⟨#[]⟩) (.int .i64 0) (.int .u64 0) (.slice (some ⟨mA, 0, none⟩) 2 2) (.int .i64 pp)
              unfold binN
              rw [HP.out.1, HP.out.2]
              refine hk.mono (fun g hg => ⟨hg.1, hg.2.1, ?_⟩)
              have := HA.out.2.2.2.2
              rw [six_size]
              have := hg.2.2.2
              simp [World.size_setCell]
              omega
            · exact .inr ⟨HG.out.1 _ (by rw [hdr]; exact .moreE hs3 g2), n2⟩
      · have h3' : hd (lB L) (ts.drop k2) = false := by simpa using h3
        have hjn := joined_no L HL0.out wr HI.out.rst h3'
        have H3 : Hid (hd (lB L) (ts.drop k2) = false) := h3'
        clear h3 h3'
        go_wp2_with fail
        refine hjn.mono ?_
        rintro e w5 ⟨rfl, b5⟩
        clear hjn
        go_upto_region 4 with fail
        obtain ⟨W6, m6, hW6, hm6, hx6, bW6, b6, hB6, hlt6⟩ := lay6 (Below.refl _ w5) (Nat.le_refl _) 28 (.int .i64 0) (.string ⟨#[]⟩) (.int .i64 0) (.int .u64 0) (.slice none 0 0) (.int .i64 0)
        rw [hW6, hm6]
        have b7 := b5.trans (bW6.mono b5.size)
        have hx4' := HI.out.box.below b7
        have hy4' := HI.out.res.below b7
        obtain ⟨s0, s1, s2, s3, s4, s5⟩ := hx4'.cells
        obtain ⟨p0, p1, p2', p3, p4, p5⟩ := hy4'.cells
        obtain ⟨r0, r1, r2, r3, r4, r5⟩ := hy4'.thaw
        have H6 : Hid (Rst W6 b ao n c ts k2 ∧ Tn b w W6 ∧ Below wr.heap.size wr W6) := ⟨HI.out.rst.below b7, HI.out.tn.trans (Tn.of b7), b7⟩
        clear hx4' hy4' hx6 bW6 b6 b5 b7
        clear hW6 hm6
        go_wp2_with fail
        refine bodyPost_ret (v := .tuple #[.agg #[.int .i64 o, .string y, .int .i64 i, .int .u64 j, .slice a l q, .int .i64 p], .bool true]) ?_ rfl ⟨o, y, i, j, a, l, q, p, true, k2, rfl, HI.out.le, ?_, ?_, ?_⟩
        · simp [results, Tryz.f31]
          go_simp
        · exact H6.out.1.six (by omega) _ _ _ _ _ _
        · exact H6.out.2.1.six (by omega) _ _ _ _ _ _
        · rcases HI.out.oc with ⟨nd, _, h1, h2⟩ | ⟨h1, h2⟩
          · refine .inl ⟨nd, rfl, h1 _ (.done H3.out), ?_⟩
            refine ((h2.below H6.out.2.2).six (g := m0) (fun q => by have := q.1; omega) _ _ _ _ _ _).mono (fun g hg => ⟨?_, ?_⟩)
            · have := HZ.out; have := hg.1; omega
            · rw [six_size]
              have := H6.out.2.2.size; have := hg.2.2; omega
          · exact .inr ⟨h1, h2⟩

end Go.Proofs.YtijchmcajhdcoaaGreatDoor
