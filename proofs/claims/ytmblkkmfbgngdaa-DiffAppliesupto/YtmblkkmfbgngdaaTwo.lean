/-
  Two lists of hunks that grow side by side, each in a row of the call's own, the texts of the second in rows of their own too; append of a list of texts within a region whose order is drawn. No condition.
-/
import Derived.Test.YtmblkkmfbgngdaaAll
import Derived.Test.YtmblkkmfbgngdaaHSame
import Derived.Test.YtmblkkmfbgngdaaAwake
namespace Go.Proofs.Ytmblkkmfbgngdaa
open Go.RowKit

/-- Two lists of hunks: the first one's texts lie in old memory, the second one's apart from both rows. -/
structure AJ (w1 wr : World) (us ws : List HV) (Hl Hi : List Hk) (lv iv : Value) : Prop where
  ol : OwnG encH 47 wr w1.heap.size lv us
  oi : OwnG encH 46 wr w1.heap.size iv ws
  kl : Hks wr us Hl
  ki : Hks wr ws Hi
  fl : Far (fun k => w1.heap.size ≤ k) us Hl
  fi : Far (fun k => lv.ownBlock = some k ∨ iv.ownBlock = some k) ws Hi
  ne : ∀ k, lv.ownBlock = some k → iv.ownBlock = some k → False
  bel : Below w1.heap.size w1 wr

theorem AJ.start (w1 : World) : AJ w1 w1 [] [] [] [] (.slice none 0 0) (.slice none 0 0) :=
  ⟨OwnG.nil _ _ _ _, OwnG.nil _ _ _ _, Hks.nil _, Hks.nil _, Far.nil _, Far.nil _, fun k h => (by cases h), Below.refl _ _⟩

theorem AJ.below {w1 wr w' : World} {us ws : List HV} {Hl Hi : List Hk} {lv iv : Value} (h : AJ w1 wr us ws Hl Hi lv iv) (hb : Below wr.heap.size wr w') : AJ w1 w' us ws Hl Hi lv iv :=
  ⟨h.ol.below hb, h.oi.below hb, h.kl.below hb, h.ki.below hb, h.fl, h.fi, h.ne, h.bel.trans (hb.mono h.bel.size)⟩

/-- One hunk more of the first list. -/
theorem AJ.addl {w1 wr w8 : World} {us ws : List HV} {Hl Hi : List Hk} {lv lv' iv : Value} {v : HV} {g : Hk} (h : AJ w1 wr us ws Hl Hi lv iv) (hk : HkAt wr v g)
    (n1 : 0 < g.gone.length → ∀ a, v.ga = some a → ¬ w1.heap.size ≤ a.block) (n2 : 0 < g.new.length → ∀ a, v.na = some a → ¬ w1.heap.size ≤ a.block)
    (ho : OwnG encH 47 w8 w1.heap.size lv' (us ++ [v])) (hm : Moved wr lv lv') (ht : Turned (fun k => lv.ownBlock = some k) wr w8) : AJ w1 w8 (us ++ [v]) ws (Hl ++ [g]) Hi lv' iv := by
  have fs : Far (fun k => w1.heap.size ≤ k) (us ++ [v]) (Hl ++ [g]) := Far.add h.kl.len h.fl n1 n2
  refine ⟨ho, ownsRow_turned h.oi ht (fun k hk q => h.ne k q hk), (h.kl.add hk).turned (fs.mono (fun k q => (h.ol.lt k q).1)) ht, h.ki.turned (h.fi.mono (fun _ q => .inl q)) ht, fs, ?_, ?_, ?_⟩
  · rcases hm with e | e
    · rw [e]; exact h.fi
    · intro i u q e1 e2
      have f1 := h.fi i u q e1 e2
      have f2 := h.ki.far i u q e1 e2
      refine ⟨fun h0 a ha r => ?_, fun h0 a ha r => ?_⟩
      · rcases r with r | r
        · exact f2.1 h0 a ha (e _ r)
        · exact f1.1 h0 a ha (.inr r)
      · rcases r with r | r
        · exact f2.2 h0 a ha (e _ r)
        · exact f1.2 h0 a ha (.inr r)
  · intro k h1 h2
    rcases hm with e | e
    · rw [e] at h1; exact h.ne k h1 h2
    · have := e k h1
      have := (h.oi.lt k h2).2
      omega
  · exact h.bel.trans (ht.below h.bel.size (fun k hk q => by have := (h.ol.lt k q).1; omega))

/-- One hunk more of the second list. -/
theorem AJ.addi {w1 wr w8 : World} {us ws : List HV} {Hl Hi : List Hk} {lv iv iv' : Value} {v : HV} {g : Hk} (h : AJ w1 wr us ws Hl Hi lv iv) (hk : HkAt wr v g)
    (n1 : 0 < g.gone.length → ∀ a, v.ga = some a → ¬ (lv.ownBlock = some a.block ∨ iv.ownBlock = some a.block)) (n2 : 0 < g.new.length → ∀ a, v.na = some a → ¬ (lv.ownBlock = some a.block ∨ iv.ownBlock = some a.block))
    (ho : OwnG encH 46 w8 w1.heap.size iv' (ws ++ [v])) (hm : Moved wr iv iv') (ht : Turned (fun k => iv.ownBlock = some k) wr w8) : AJ w1 w8 us (ws ++ [v]) Hl (Hi ++ [g]) lv iv' := by
  have fs : Far (fun k => lv.ownBlock = some k ∨ iv.ownBlock = some k) (ws ++ [v]) (Hi ++ [g]) := Far.add h.ki.len h.fi n1 n2
  have ks := h.ki.add hk
  refine ⟨ownsRow_turned h.ol ht (fun k hk q => h.ne k hk q), ho, h.kl.turned (h.fl.mono (fun k q => (h.oi.lt k q).1)) ht, ks.turned (fs.mono (fun _ q => .inr q)) ht, h.fl, ?_, ?_, ?_⟩
  · rcases hm with e | e
    · rw [e]; exact fs
    · intro i u q e1 e2
      have f1 := fs i u q e1 e2
      have f2 := ks.far i u q e1 e2
      refine ⟨fun h0 a ha r => ?_, fun h0 a ha r => ?_⟩
      · rcases r with r | r
        · exact f1.1 h0 a ha (.inl r)
        · exact f2.1 h0 a ha (e _ r)
      · rcases r with r | r
        · exact f1.2 h0 a ha (.inl r)
        · exact f2.2 h0 a ha (e _ r)
  · intro k h1 h2
    rcases hm with e | e
    · rw [e] at h2; exact h.ne k h1 h2
    · have := e k h2
      have := (h.ol.lt k h1).2
      omega
  · exact h.bel.trans (ht.below h.bel.size (fun k hk q => by have := (h.oi.lt k q).1; omega))

/-- A whole list of texts more behind a row of the call's own, within a region whose order is drawn. -/
theorem stepL_at {ops : Array Oper} {o : Oper} {a : Act} {w : World} {K : Act → World → Prop} {Q : Exit → Act → World → Prop} {X : Prop} (hgd : o.guard = none) (s x : Operand)
    (hop : o.op = .call { callee := .builtin .append, args := #[s, x], argTypes := #[22, 22] }) (base : Nat) (v : Value) (ss xs : List Bs) (ao : Option Addr) (n c : Nat) (hs : a.eval s = v) (hown : Own w base v ss)
    (hx : a.eval x = .slice ao n c) (hr : Rd w ao xs) (hl : xs.length = n) (hlen : ss.length + n ≤ 8796093022208) (hb : base ≤ w.heap.size)
    (h : ∀ v' w', Own w' base v' (ss ++ xs) → Below base w w' → Moved w v v' → Turned (fun k => v.ownBlock = some k) w w' → K (a.put o.dst v') w') :
    if Region.wanted o (yielded ops a.tmps) = true then Oper.wp Try.prog o a w K Q else X := by
  obtain ⟨i0, hi0, hz0, hz1, hz2⟩ := info_parts Try.info9
  by_cases h0 : 0 < xs.length
  · obtain ⟨b, off, rfl, hlt, hc⟩ := hr h0
    refine step_append_moved hgd s x 22 hop base 9 i0 _ 1 16 Try.underlying22 hi0 hz0 hz1 hz2 rfl (by decide) v ss.length (ss.map encStr) hs hown ⟨b, off, none⟩ n c (xs.map encStr) hx (by simp [hl]) (by
      intro j u hu
      rw [List.getElem?_map] at hu
      have hj : j < xs.length := by
        rcases Nat.lt_or_ge j xs.length with q | q
        · exact q
        · rw [List.getElem?_eq_none q] at hu; simp at hu
      rw [List.getElem?_eq_getElem hj] at hu
      rw [addr_plus, hc j hj, el_get hj, ← hu]
      rfl) (by intro u hu; obtain ⟨y, _, rfl⟩ := List.mem_map.1 hu; rfl) (by simp only [maxLen]; omega) (by omega) hb ?_
    intro v' w' h1 h2 h3
    have ht : Turned (fun k => v.ownBlock = some k) w w' := (Turned.refl _ _).grown h2 (fun k _ e => e)
    refine h v' w' ?_ (Own.turn hown hb ht) h3 ht
    unfold Own
    rw [List.length_append, List.map_append, hl]
    exact h1
  · obtain rfl : xs = [] := List.eq_nil_of_length_eq_zero (by omega)
    obtain rfl : n = 0 := hl.symm
    obtain ⟨ao2, cap, rfl, hle, _, _⟩ := hown.form
    have hw : Region.wanted o (yielded ops a.tmps) = true := by simp [Region.wanted, hgd]
    rw [if_pos hw]
    have hrun := run_append_none 22 o.type 9 i0 Try.underlying22 hi0 ao2 ss.length cap hle ao c w
    unfold Oper.wp
    simp [execOp, hop, resolve, invoke, builtin, hs, hx, hrun, Result.andThen]
    exact h _ w (by rw [List.append_nil]; exact hown) (Below.refl _ _) (.inl rfl) (Turned.refl _ _)

theorem bz1 (u : World) (o : Obj) : Below u.heap.size u (u.alloc o) := (Below.refl _ u).alloc (Nat.le_refl _) o
theorem bz2 (u : World) (o o' : Obj) : Below u.heap.size u ((u.alloc o).alloc o') := (bz1 u o).trans ((bz1 (u.alloc o) o').mono (bz1 u o).size)
theorem oz1 (u : World) : Own (u.alloc (.cells #[] 9)) u.heap.size (.slice (some ⟨u.heap.size, 0, none⟩) 0 0) [] := own_zero u _ (Nat.le_refl _)
theorem oz2 (u : World) (o : Obj) : Own ((u.alloc (.cells #[] 9)).alloc o) u.heap.size (.slice (some ⟨u.heap.size, 0, none⟩) 0 0) [] := (oz1 u).below (bz1 _ _)
theorem oz3 (u : World) (o : Obj) : Own ((u.alloc o).alloc (.cells #[] 9)) u.heap.size (.slice (some ⟨u.heap.size + 1, 0, none⟩) 0 0) [] := by
  have := own_zero (u.alloc o) u.heap.size (by simp)
  have e : (u.alloc o).heap.size = u.heap.size + 1 := by simp
  rw [e] at this
  exact this

/-- A row that a step did not turn. -/
theorem Own.stays {S : Nat → Prop} {w w' : World} {base : Nat} {v : Value} {ss : List Bs} (h : Own w base v ss) (ht : Turned S w w') (hS : ∀ g, v.ownBlock = some g → ¬ S g) : Own w' base v ss := ownsRow_turned h ht hS

theorem own_at {w : World} {base g n cap : Nat} {ss : List Bs} (h : Own w base (.slice (some ⟨g, 0, none⟩) n cap) ss) {i : Nat} (hi : i < ss.length) :
    w.cell? ⟨g, i, none⟩ = some (.string ⟨(el ss i).toArray⟩) ∧ w.frozen? ⟨g, i, none⟩ = false := by
  have hn : ss.length = n := own_len h
  subst hn
  have h' : w.ownsRow base 9 1 (.slice (some ⟨g, 0, none⟩) ss.length cap) ss.length (ss.map encStr) := h
  refine ⟨?_, h'.frozenAt _⟩
  rw [h'.cellAt _ (by omega), List.getElem?_map, List.getElem?_eq_getElem hi, el_get hi]
  rfl

theorem own_put {w : World} {base g n cap : Nat} {ss : List Bs} (h : Own w base (.slice (some ⟨g, 0, none⟩) n cap) ss) (i : Nat) (y : Bs) :
    Own (w.setCell ⟨g, i, none⟩ (.string ⟨y.toArray⟩)) base (.slice (some ⟨g, 0, none⟩) n cap) (ss.set i y) := by
  have hn : ss.length = n := own_len h
  subst hn
  have h' : w.ownsRow base 9 1 (.slice (some ⟨g, 0, none⟩) ss.length cap) ss.length (ss.map encStr) := h
  unfold Own
  rw [List.length_set, List.map_set]
  exact (h'.stored i _).1

end Go.Proofs.Ytmblkkmfbgngdaa
