/-
  A struct stored into the midst of a block.
-/
import Derived.Test.YtikgbjjgpgjmfaaGreatM36
import Derived.Deep.MidRow
namespace Go.Proofs.YtikgbjjgpgjmfaaGreat
open Go.RowKit

theorem BoxA.there {w : World} {Q : Nat} {t : TypeId} {cs : Array Value} (h : BoxA w Q t cs) {o n : Nat} (hn : o + n ≤ cs.size) : w.there Q o n := by
  intro j hj
  refine ⟨?_, h.thaw _⟩
  rw [h.cell (j := o + j) (v := cs[o + j]) (Array.getElem?_eq_getElem (by omega))]
  rfl
theorem setCells_lay (Q : Nat) : ∀ (vs : List Value) (o : Nat) (w : World), w.setCells Q o vs = layL w Q vs o
  | [], _, _ => rfl
  | v :: t, o, w => setCells_lay Q t (o + 1) (w.setCell ⟨Q, o, none⟩ v)

/-- The document's store into the world's block. -/
theorem store_ref {w : World} {R : Nat} {cs : Array Value} (h : BoxA w R 35 cs) (hc : cs.size = 14) (d : Dk) (fa oa ra ta : Option Addr) (fl fc on oc rn rc tn tc : Nat) :
    (Instr.storeAt 32 (.pointer (some ⟨R, 2, none⟩)) (rm d (.slice fa fl fc) (.slice oa on oc) (.slice ra rn rc) (.slice ta tn tc))).run Tryz.prog w = .ok () (layL w R [.slice fa fl fc, .int .i64 (d.writes : Int), .bool d.armed, .bool d.dead, .int .i64 (d.after : Int), .int .i64 (d.keep : Int), .slice oa on oc, .slice ra rn rc, .slice ta tn tc] 2) := by
  rw [← setCells_lay]
  exact run_storeAt_mid (P := Tryz.prog) w R 2 32 #[.slice fa fl fc, .int .i64 (d.writes : Int), .bool d.armed, .bool d.dead, .int .i64 (d.after : Int), .int .i64 (d.keep : Int), .slice oa on oc, .slice ra rn rc, .slice ta tn tc] (h.there (by rw [hc]; simp)) (by kernel_rfl) (by simp [Value.oneCell'])

/-- The same, of 'storeVar'. -/
theorem store_var {w : World} {R : Nat} {cs : Array Value} (h : BoxA w R 35 cs) (hc : cs.size = 14) (d : Dk) (fa oa ra ta : Option Addr) (fl fc on oc rn rc tn tc : Nat) :
    (storeVar 32 ⟨R, 2, none⟩ (rm d (.slice fa fl fc) (.slice oa on oc) (.slice ra rn rc) (.slice ta tn tc))).run Tryz.prog w = .ok () (layL w R [.slice fa fl fc, .int .i64 (d.writes : Int), .bool d.armed, .bool d.dead, .int .i64 (d.after : Int), .int .i64 (d.keep : Int), .slice oa on oc, .slice ra rn rc, .slice ta tn tc] 2) := by
  rw [← setCells_lay]
  exact run_storeVar_mid (P := Tryz.prog) w R 2 32 #[.slice fa fl fc, .int .i64 (d.writes : Int), .bool d.armed, .bool d.dead, .int .i64 (d.after : Int), .int .i64 (d.keep : Int), .slice oa on oc, .slice ra rn rc, .slice ta tn tc] (h.there (by rw [hc]; simp)) (by kernel_rfl) (by simp [Value.oneCell'])

/-- A struct stored, as the walk meets it: the operation behind a letter, and what it does. -/
theorem store_sem (w : World) (b o : Nat) (ty : TypeId) (cells : Array Value) (ht : w.there b o cells.size) (hi : (Tryz.prog.info? ty).map (·.size) = some cells.size) (h1 : cells.all (·.oneCell') = true) :
    ∃ S w', Instr.storeAt ty (.pointer (some ⟨b, o, none⟩)) (.agg cells) = S ∧ S.run Tryz.prog w = .ok () w' ∧ w' = layL w b cells.toList o :=
  ⟨_, _, rfl, run_storeAt_mid (P := Tryz.prog) w b o ty cells ht hi h1, setCells_lay _ _ _ _⟩

/-- A struct stored, as one step of a region that draws. -/
theorem step_store {ops : Array Oper} {op : Oper} {a : Act} {w : World} {K : Act → World → Prop} {Q : Exit → Act → World → Prop} {X : Prop} (hg : op.guard = none) (ty : TypeId) (x y : Operand) (ho : op.op = .store ty x y)
    (b o : Nat) (cells : Array Value) (hx : a.eval x = .pointer (some ⟨b, o, none⟩)) (hy : a.eval y = .agg cells) (ht : w.there b o cells.size) (hi : (Tryz.prog.info? ty).map (·.size) = some cells.size) (h1 : cells.all (·.oneCell') = true)
    (h : ∀ w', w' = layL w b cells.toList o → K (a.put op.dst undef) w') : if Region.wanted op (yielded ops a.tmps) = true then Oper.wp Tryz.prog op a w K Q else X := by
  have hw : Region.wanted op (yielded ops a.tmps) = true := by simp [Region.wanted, hg]
  rw [if_pos hw]
  exact wp_store_mid ty x y ho b o cells hx hy ht hi h1 (by rw [setCells_lay]; exact h _ rfl)

/-- A struct stored, in a region in the text's order. -/
theorem wpList_store_to {ops : Array Oper} {rest : List Oper} {op : Oper} {a : Act} {w : World} {Q : Exit → Act → World → Prop} (hgd : op.guard = none) (ty : TypeId) (x y : Operand) (ho : op.op = .store ty x y)
    (b o : Nat) (cells : Array Value) (hx : a.eval x = .pointer (some ⟨b, o, none⟩)) (hy : a.eval y = .agg cells) (ht : w.there b o cells.size) (hi : (Tryz.prog.info? ty).map (·.size) = some cells.size) (h1 : cells.all (·.oneCell') = true)
    (h : ∀ w', w' = layL w b cells.toList o → wpList Tryz.prog ops Q rest (a.put op.dst undef) w') : wpList Tryz.prog ops Q (op :: rest) a w :=
  wpList_store_mid hgd ty x y ho b o cells hx hy ht hi h1 (by rw [setCells_lay]; exact h _ rfl)

/-- A call within a region whose order is drawn. -/
theorem step_call1 {ops : Array Oper} {o : Oper} {a : Act} {w : World} {K : Act → World → Prop} {Q : Exit → Act → World → Prop} {X : Prop} (hg : o.guard = none) (x : Operand) (f : Nat) (ts : Array TypeId)
    (hop : o.op = .call { callee := .value (.func f), args := #[x], argTypes := ts }) (en : ∀ args w, (callFunc f args).run Tryz.prog w = .ok (.enter f args) w) (u1 : Value) (hx : a.eval x = u1) (R : Value → World → Prop)
    (hc : Calls Tryz.prog f #[u1] w fun e w' => ∃ v, e = .returned v ∧ R v w') (h : ∀ v w', R v w' → K (a.put o.dst v) w') :
    if Region.wanted o (yielded ops a.tmps) = true then Oper.wp Tryz.prog o a w K Q else X := by
  have hw : Region.wanted o (yielded ops a.tmps) = true := by simp [Region.wanted, hg]
  rw [if_pos hw]
  unfold Oper.wp
  have e : (execOp a.eval o).run Tryz.prog w = .ok (.enter f #[u1]) w := by
    have hf : a.eval (.func f) = .func (.func f) #[] #[] := rfl
    simp [execOp, hop, resolve, invoke, hx, hf, Deferred.ofValue, en]
  rw [e, Oper.upon_enter]
  refine hc.mono ?_
  rintro e w' ⟨v, rfl, hr⟩
  exact h v w' hr
theorem step_call2 {ops : Array Oper} {o : Oper} {a : Act} {w : World} {K : Act → World → Prop} {Q : Exit → Act → World → Prop} {X : Prop} (hg : o.guard = none) (x y : Operand) (f : Nat) (ts : Array TypeId)
    (hop : o.op = .call { callee := .value (.func f), args := #[x, y], argTypes := ts }) (en : ∀ args w, (callFunc f args).run Tryz.prog w = .ok (.enter f args) w) (u1 u2 : Value) (hx : a.eval x = u1) (hy : a.eval y = u2) (R : Value → World → Prop)
    (hc : Calls Tryz.prog f #[u1, u2] w fun e w' => ∃ v, e = .returned v ∧ R v w') (h : ∀ v w', R v w' → K (a.put o.dst v) w') :
    if Region.wanted o (yielded ops a.tmps) = true then Oper.wp Tryz.prog o a w K Q else X := by
  have hw : Region.wanted o (yielded ops a.tmps) = true := by simp [Region.wanted, hg]
  rw [if_pos hw]
  unfold Oper.wp
  have e : (execOp a.eval o).run Tryz.prog w = .ok (.enter f #[u1, u2]) w := by
    have hf : a.eval (.func f) = .func (.func f) #[] #[] := rfl
    simp [execOp, hop, resolve, invoke, hx, hy, hf, Deferred.ofValue, en]
  rw [e, Oper.upon_enter]
  refine hc.mono ?_
  rintro e w' ⟨v, rfl, hr⟩
  exact h v w' hr

theorem step_call3 {ops : Array Oper} {o : Oper} {a : Act} {w : World} {K : Act → World → Prop} {Q : Exit → Act → World → Prop} {X : Prop} (hg : o.guard = none) (x y z : Operand) (f : Nat) (ts : Array TypeId)
    (hop : o.op = .call { callee := .value (.func f), args := #[x, y, z], argTypes := ts }) (en : ∀ args w, (callFunc f args).run Tryz.prog w = .ok (.enter f args) w) (u1 u2 u3 : Value) (hx : a.eval x = u1) (hy : a.eval y = u2) (hz : a.eval z = u3) (R : Value → World → Prop)
    (hc : Calls Tryz.prog f #[u1, u2, u3] w fun e w' => ∃ v, e = .returned v ∧ R v w') (h : ∀ v w', R v w' → K (a.put o.dst v) w') :
    if Region.wanted o (yielded ops a.tmps) = true then Oper.wp Tryz.prog o a w K Q else X := by
  have hw : Region.wanted o (yielded ops a.tmps) = true := by simp [Region.wanted, hg]
  rw [if_pos hw]
  unfold Oper.wp
  have e : (execOp a.eval o).run Tryz.prog w = .ok (.enter f #[u1, u2, u3]) w := by
    have hf : a.eval (.func f) = .func (.func f) #[] #[] := rfl
    simp [execOp, hop, resolve, invoke, hx, hy, hz, hf, Deferred.ofValue, en]
  rw [e, Oper.upon_enter]
  refine hc.mono ?_
  rintro e w' ⟨v, rfl, hr⟩
  exact h v w' hr

end Go.Proofs.YtikgbjjgpgjmfaaGreat
