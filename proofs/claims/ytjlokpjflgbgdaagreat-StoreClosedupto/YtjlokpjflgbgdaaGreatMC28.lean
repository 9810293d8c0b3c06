/-
  A struct stored into the midst of a block.
-/
import Derived.Test.YtjlokpjflgbgdaaGreatMC26
import Derived.Deep.MidRow
set_option maxHeartbeats 6400000
set_option maxRecDepth 100000
namespace Go.Proofs.YtjlokpjflgbgdaaGreat
open Go.RowKit
theorem BoxA.there {w:World} {Q:Nat} {t:TypeId} {cs:Array Value} (h:BoxA w Q t cs) {o n:Nat} (hn:o+n<=cs.size):w.there Q o n:=by
 intro j hj;refine ⟨?_,h.thaw _⟩;rw [h.cell (j:=o+j) (v:=cs[o+j]) (Array.getElem?_eq_getElem (by omega))]
 rfl
theorem setCells_lay (Q:Nat):∀ (vs:List Value) (o:Nat) (w:World),w.setCells Q o vs=layL w Q vs o
 | [],_,_=>rfl
 | v::t,o,w=>setCells_lay Q t (o+1) (w.setCell ⟨Q,o,none⟩ v)
theorem wpList_store_to {ops:Array Oper} {rest:List Oper} {op:Oper} {a:Act} {w:World} {Q:Exit->Act->World->Prop} (hgd:op.guard=none) (ty:TypeId) (x y:Operand) (ho:op.op=.store ty x y)
  (b o:Nat) (cells:Array Value) (hx:a.eval x=.pointer (some ⟨b,o,none⟩)) (hy:a.eval y=.agg cells) (ht:w.there b o cells.size) (hi:(Tryz.prog.info? ty).map (·.size)=some cells.size) (h1:cells.all (·.oneCell')=true)
  (h:∀ w',w'=layL w b cells.toList o->wpList Tryz.prog ops Q rest (a.put op.dst undef) w'):wpList Tryz.prog ops Q (op::rest) a w :=
 wpList_store_mid hgd ty x y ho b o cells hx hy ht hi h1 (by rw [setCells_lay]; exact h _ rfl)
theorem step_call1 {ops:Array Oper} {o:Oper} {a:Act} {w:World} {K:Act->World->Prop} {Q:Exit->Act->World->Prop} {X:Prop} (hg:o.guard=none) (x:Operand) (f:Nat) (ts:Array TypeId)
  (hop:o.op=.call { callee:=.value (.func f),args:=#[x],argTypes:=ts }) (en:∀ args w,(callFunc f args).run Tryz.prog w=.ok (.enter f args) w) (u1:Value) (hx:a.eval x=u1) (R:Value->World->Prop)
  (hc:Calls Tryz.prog f #[u1] w λ e w'=>∃ v,e=.returned v/\R v w') (h:∀ v w',R v w'->K (a.put o.dst v) w') :
  if Region.wanted o (yielded ops a.tmps)=true then Oper.wp Tryz.prog o a w K Q else X:=by
 have hw:Region.wanted o (yielded ops a.tmps)=true:=by simp [Region.wanted,hg]
 rw [if_pos hw];unfold Oper.wp
 have e:(execOp a.eval o).run Tryz.prog w=.ok (.enter f #[u1]) w:=by
  have hf:a.eval (.func f)=.func (.func f) #[] #[]:=rfl;simp [execOp,hop,resolve,invoke,hx,hf,Deferred.ofValue,en]
 rw [e,Oper.upon_enter];refine hc.mono ?_;rintro e w' ⟨v,rfl,hr⟩;exact h v w' hr
theorem step_call2 {ops:Array Oper} {o:Oper} {a:Act} {w:World} {K:Act->World->Prop} {Q:Exit->Act->World->Prop} {X:Prop} (hg:o.guard=none) (x y:Operand) (f:Nat) (ts:Array TypeId)
  (hop:o.op=.call { callee:=.value (.func f),args:=#[x,y],argTypes:=ts }) (en:∀ args w,(callFunc f args).run Tryz.prog w=.ok (.enter f args) w) (u1 u2:Value) (hx:a.eval x=u1) (hy:a.eval y=u2) (R:Value->World->Prop)
  (hc:Calls Tryz.prog f #[u1,u2] w λ e w'=>∃ v,e=.returned v/\R v w') (h:∀ v w',R v w'->K (a.put o.dst v) w') :
  if Region.wanted o (yielded ops a.tmps)=true then Oper.wp Tryz.prog o a w K Q else X:=by
 have hw:Region.wanted o (yielded ops a.tmps)=true:=by simp [Region.wanted,hg]
 rw [if_pos hw];unfold Oper.wp
 have e:(execOp a.eval o).run Tryz.prog w=.ok (.enter f #[u1,u2]) w:=by
  have hf:a.eval (.func f)=.func (.func f) #[] #[]:=rfl;simp [execOp,hop,resolve,invoke,hx,hy,hf,Deferred.ofValue,en]
 rw [e,Oper.upon_enter];refine hc.mono ?_;rintro e w' ⟨v,rfl,hr⟩;exact h v w' hr
theorem step_call3 {ops:Array Oper} {o:Oper} {a:Act} {w:World} {K:Act->World->Prop} {Q:Exit->Act->World->Prop} {X:Prop} (hg:o.guard=none) (x y z:Operand) (f:Nat) (ts:Array TypeId)
  (hop:o.op=.call { callee:=.value (.func f),args:=#[x,y,z],argTypes:=ts }) (en:∀ args w,(callFunc f args).run Tryz.prog w=.ok (.enter f args) w) (u1 u2 u3:Value) (hx:a.eval x=u1) (hy:a.eval y=u2) (hz:a.eval z=u3) (R:Value->World->Prop)
  (hc:Calls Tryz.prog f #[u1,u2,u3] w λ e w'=>∃ v,e=.returned v/\R v w') (h:∀ v w',R v w'->K (a.put o.dst v) w') :
  if Region.wanted o (yielded ops a.tmps)=true then Oper.wp Tryz.prog o a w K Q else X:=by
 have hw:Region.wanted o (yielded ops a.tmps)=true:=by simp [Region.wanted,hg]
 rw [if_pos hw];unfold Oper.wp
 have e:(execOp a.eval o).run Tryz.prog w=.ok (.enter f #[u1,u2,u3]) w:=by
  have hf:a.eval (.func f)=.func (.func f) #[] #[]:=rfl;simp [execOp,hop,resolve,invoke,hx,hy,hz,hf,Deferred.ofValue,en]
 rw [e,Oper.upon_enter];refine hc.mono ?_;rintro e w' ⟨v,rfl,hr⟩;exact h v w' hr
end Go.Proofs.YtjlokpjflgbgdaaGreat
