/-
  Within a call of Play: a row is appended to, cells are laid, the answer.
-/
import Derived.Test.YtjlokpjflgbgdaaGreatMC25
set_option maxHeartbeats 6400000
set_option maxRecDepth 100000
namespace Go.Proofs.YtjlokpjflgbgdaaGreat
open Go.RowKit
def setL (cs:Array Value):List Value->Nat->Array Value
 | [],_=>cs
 | v::t,j=>setL (cs.setIfInBounds j v) t (j+1)
theorem BoxA.lays {w:World} {Q:Nat} {t:TypeId} {cs:Array Value} (h:BoxA w Q t cs) (vs:List Value) (j:Nat):BoxA (layL w Q vs j) Q t (setL cs vs j):=by
 induction vs generalizing w cs j with
 | nil=>exact h
 | cons v t ih=>exact ih (h.put j v) (j+1)
theorem set9 (a0 a1 a2 a3 a4 a5 a6 a7 a8 a9 a10 a11 a12 a13 n2 n3 n4 n5 n6 n7 n8 n9 n10:Value):setL #[a0,a1,a2,a3,a4,a5,a6,a7,a8,a9,a10,a11,a12,a13] [n2,n3,n4,n5,n6,n7,n8,n9,n10] 2=#[a0,a1,n2,n3,n4,n5,n6,n7,n8,n9,n10,a11,a12,a13]:=by simp [setL]
theorem set11 (a0 a1 a2 a3 a4 a5 a6 a7 a8 a9 a10 a11 a12 a13 n11:Value):setL #[a0,a1,a2,a3,a4,a5,a6,a7,a8,a9,a10,a11,a12,a13] [n11] 11=#[a0,a1,a2,a3,a4,a5,a6,a7,a8,a9,a10,n11,a12,a13]:=by simp [setL]
theorem set12 (a0 a1 a2 a3 a4 a5 a6 a7 a8 a9 a10 a11 a12 a13 n12:Value):setL #[a0,a1,a2,a3,a4,a5,a6,a7,a8,a9,a10,a11,a12,a13] [n12] 12=#[a0,a1,a2,a3,a4,a5,a6,a7,a8,a9,a10,a11,n12,a13]:=by simp [setL]
theorem set13 (a0 a1 a2 a3 a4 a5 a6 a7 a8 a9 a10 a11 a12 a13 n13:Value):setL #[a0,a1,a2,a3,a4,a5,a6,a7,a8,a9,a10,a11,a12,a13] [n13] 13=#[a0,a1,a2,a3,a4,a5,a6,a7,a8,a9,a10,a11,a12,n13]:=by simp [setL]
section
variable {B H:Nat} {E F:Nat->Prop} {w0 wS u u':World} {s b:Nat} {vf vo vr vt xb xt xc v':Value} {U:Nat->Prop} {st:St} {d:Dk} {bl tl cl:List UInt64} {cs ac:Array Value} {i:UInt64}
theorem rows_new (hm:Moved u xb v') (Z:Nat->Prop) (hz:∀ g,xb.ownBlock=some g->Z g):∀ g,g<u.heap.size->v'.ownBlock=some g->Z g:=by
 intro g hg q
 rcases hm with e | e
 ·exact hz g (e.symm.trans q)
 ·have:=e g q;omega
theorem Md.rowB (h:Md B H E F w0 wS u s b vf vo vr vt xb xt xc U st d bl tl cl cs ac) (ho:OwnG encU 56 u' B v' (bl++[i])) (hm:Moved u xb v') (ht:Turned (λ k=>xb.ownBlock=some k) u u'):Md B H E F w0 wS u' s b vf vo vr vt v' xt xc U st d (bl++[i]) tl cl cs ac:=by
 have l3:=h.bx.lt;have hh:=h.hH
 have far:∀ j,Rows U v' xt xc j->¬ F j:=by
  rintro j (q | q | q) r
  ·exact h.far j (.inl q) r
  ·exact h.far j (.inr (.inl (rows_new hm (λ g=>xb.ownBlock=some g) (λ g q=>q) j (h.flt j r) q))) r
  ·exact h.far j (.inr (.inr q)) r
 have apart:∀ {P:Nat->Prop},(∀ g,P g->g<u.heap.size)->(∀ g,xb.ownBlock=some g->¬ P g)->∀ g,v'.ownBlock=some g->¬ P g:=by
  intro P q1 q2 g hg p;exact q2 g (rows_new hm (λ g=>xb.ownBlock=some g) (λ g q=>q) g (q1 g p) hg) p
 have rz:RMS (Zb F (Rows U v' xt xc)) u' (rm d vf vo vr vt) st d:=by
  have r1:=h.refz.into (Z':=λ j=>Zb F (Rows U xb xt xc) j∨Zb F (Rows U v' xt xc) j) (λ j hj q=>by
   rcases q with q | (q | q | q) | q
   ·exact q
   ·exact .inl (.inl q)
   ·exact .inl (.inr (.inl (rows_new hm (λ g=>xb.ownBlock=some g) (λ g q=>q) j hj q)))
   ·exact .inl (.inr (.inr q))
   ·exact .inr q)
  exact (r1.turned ht (λ j q=>.inl (.inl (.inr (.inl q))))).mono (λ j q=>.inr q)
 refine ⟨⟨h.inv.duo.stays ht (λ j q r=>h.inv.fb j r q),h.inv.low,rz.mono (λ j q=>q.imp id (λ q=>(h.esub j q).1)),λ j q r=>far j q (h.esub j r).1,λ j q=>Nat.lt_of_lt_of_le (h.inv.elt j q) ht.size,ho,h.inv.ot.stays ht (λ g q r=>h.inv.bt g r q),h.inv.oc.stays ht (λ g q r=>h.inv.bc g r q),apart (λ g q=>h.inv.duo.lt g q) h.inv.fb,h.inv.ft,h.inv.fc,apart (λ g q=>(h.inv.ot.lt g q).2) h.inv.bt,apart (λ g q=>(h.inv.oc.lt g q).2) h.inv.bc,h.inv.tc⟩,rz,h.bx.turned ht (λ j q r=>h.far j (.inr (.inl q)) (h.box j r)),far,h.box,λ j q=>Nat.lt_of_lt_of_le (h.flt j q) ht.size,h.bel.trans (ht.below (Nat.le_trans hh (by omega)) (λ j hj q=>by have:=(h.inv.ob.lt j q).1; omega)),hh,h.esub,λ j q=>(ht.block j (h.flt j (h.esub j q).1) (λ r=>h.far j (.inr (.inl r)) (h.esub j q).1)).trans (h.keep j q)⟩
theorem Md.rowT (h:Md B H E F w0 wS u s b vf vo vr vt xb xt xc U st d bl tl cl cs ac) (ho:OwnG encU 56 u' B v' (tl++[i])) (hm:Moved u xt v') (ht:Turned (λ k=>xt.ownBlock=some k) u u'):Md B H E F w0 wS u' s b vf vo vr vt xb v' xc U st d bl (tl++[i]) cl cs ac:=by
 have l3:=h.bx.lt;have hh:=h.hH
 have far:∀ j,Rows U xb v' xc j->¬ F j:=by
  rintro j (q | q | q | q) r
  ·exact h.far j (.inl q) r
  ·exact h.far j (.inr (.inl q)) r
  ·exact h.far j (.inr (.inr (.inl (rows_new hm (λ g=>xt.ownBlock=some g) (λ g q=>q) j (h.flt j r) q)))) r
  ·exact h.far j (.inr (.inr (.inr q))) r
 have apart:∀ {P:Nat->Prop},(∀ g,P g->g<u.heap.size)->(∀ g,xt.ownBlock=some g->¬ P g)->∀ g,v'.ownBlock=some g->¬ P g:=by
  intro P q1 q2 g hg p;exact q2 g (rows_new hm (λ g=>xt.ownBlock=some g) (λ g q=>q) g (q1 g p) hg) p
 have rz:RMS (Zb F (Rows U xb v' xc)) u' (rm d vf vo vr vt) st d:=by
  have r1:=h.refz.into (Z':=λ j=>Zb F (Rows U xb xt xc) j∨Zb F (Rows U xb v' xc) j) (λ j hj q=>by
   rcases q with q | (q | q | q | q) | q
   ·exact q
   ·exact .inl (.inl q)
   ·exact .inl (.inr (.inl q))
   ·exact .inl (.inr (.inr (.inl (rows_new hm (λ g=>xt.ownBlock=some g) (λ g q=>q) j hj q))))
   ·exact .inl (.inr (.inr (.inr q)))
   ·exact .inr q)
  exact (r1.turned ht (λ j q=>.inl (.inl (.inr (.inr (.inl q)))))).mono (λ j q=>.inr q)
 refine ⟨⟨h.inv.duo.stays ht (λ j q r=>h.inv.ft j r q),h.inv.low,rz.mono (λ j q=>q.imp id (λ q=>(h.esub j q).1)),λ j q r=>far j q (h.esub j r).1,λ j q=>Nat.lt_of_lt_of_le (h.inv.elt j q) ht.size,h.inv.ob.stays ht (λ g q r=>h.inv.bt g q r),ho,h.inv.oc.stays ht (λ g q r=>h.inv.tc g r q),h.inv.fb,apart (λ g q=>h.inv.duo.lt g q) h.inv.ft,h.inv.fc,λ g q r=>apart (P:=λ g=>xb.ownBlock=some g) (λ g q=>(h.inv.ob.lt g q).2) (λ g q r=>h.inv.bt g r q) g r q,h.inv.bc,apart (λ g q=>(h.inv.oc.lt g q).2) h.inv.tc⟩,rz,h.bx.turned ht (λ j q r=>h.far j (.inr (.inr (.inl q))) (h.box j r)),far,h.box,λ j q=>Nat.lt_of_lt_of_le (h.flt j q) ht.size,h.bel.trans (ht.below (Nat.le_trans hh (by omega)) (λ j hj q=>by have:=(h.inv.ot.lt j q).1; omega)),hh,h.esub,λ j q=>(ht.block j (h.flt j (h.esub j q).1) (λ r=>h.far j (.inr (.inr (.inl r))) (h.esub j q).1)).trans (h.keep j q)⟩
theorem Md.rowC (h:Md B H E F w0 wS u s b vf vo vr vt xb xt xc U st d bl tl cl cs ac) (ho:OwnG encU 56 u' B v' (cl++[i])) (hm:Moved u xc v') (ht:Turned (λ k=>xc.ownBlock=some k) u u'):Md B H E F w0 wS u' s b vf vo vr vt xb xt v' U st d bl tl (cl++[i]) cs ac:=by
 have l3:=h.bx.lt;have hh:=h.hH
 have far:∀ j,Rows U xb xt v' j->¬ F j:=by
  rintro j (q | q | q | q) r
  ·exact h.far j (.inl q) r
  ·exact h.far j (.inr (.inl q)) r
  ·exact h.far j (.inr (.inr (.inl q))) r
  ·exact h.far j (.inr (.inr (.inr (rows_new hm (λ g=>xc.ownBlock=some g) (λ g q=>q) j (h.flt j r) q)))) r
 have apart:∀ {P:Nat->Prop},(∀ g,P g->g<u.heap.size)->(∀ g,xc.ownBlock=some g->¬ P g)->∀ g,v'.ownBlock=some g->¬ P g:=by
  intro P q1 q2 g hg p;exact q2 g (rows_new hm (λ g=>xc.ownBlock=some g) (λ g q=>q) g (q1 g p) hg) p
 have rz:RMS (Zb F (Rows U xb xt v')) u' (rm d vf vo vr vt) st d:=by
  have r1:=h.refz.into (Z':=λ j=>Zb F (Rows U xb xt xc) j∨Zb F (Rows U xb xt v') j) (λ j hj q=>by
   rcases q with q | (q | q | q | q) | q
   ·exact q
   ·exact .inl (.inl q)
   ·exact .inl (.inr (.inl q))
   ·exact .inl (.inr (.inr (.inl q)))
   ·exact .inl (.inr (.inr (.inr (rows_new hm (λ g=>xc.ownBlock=some g) (λ g q=>q) j hj q))))
   ·exact .inr q)
  exact (r1.turned ht (λ j q=>.inl (.inl (.inr (.inr (.inr q)))))).mono (λ j q=>.inr q)
 refine ⟨⟨h.inv.duo.stays ht (λ j q r=>h.inv.fc j r q),h.inv.low,rz.mono (λ j q=>q.imp id (λ q=>(h.esub j q).1)),λ j q r=>far j q (h.esub j r).1,λ j q=>Nat.lt_of_lt_of_le (h.inv.elt j q) ht.size,h.inv.ob.stays ht (λ g q r=>h.inv.bc g q r),h.inv.ot.stays ht (λ g q r=>h.inv.tc g q r),ho,h.inv.fb,h.inv.ft,apart (λ g q=>h.inv.duo.lt g q) h.inv.fc,h.inv.bt,λ g q r=>apart (P:=λ g=>xb.ownBlock=some g) (λ g q=>(h.inv.ob.lt g q).2) (λ g q r=>h.inv.bc g r q) g r q,λ g q r=>apart (P:=λ g=>xt.ownBlock=some g) (λ g q=>(h.inv.ot.lt g q).2) (λ g q r=>h.inv.tc g r q) g r q⟩,rz,h.bx.turned ht (λ j q r=>h.far j (.inr (.inr (.inr q))) (h.box j r)),far,h.box,λ j q=>Nat.lt_of_lt_of_le (h.flt j q) ht.size,h.bel.trans (ht.below (Nat.le_trans hh (by omega)) (λ j hj q=>by have:=(h.inv.oc.lt j q).1; omega)),hh,h.esub,λ j q=>(ht.block j (h.flt j (h.esub j q).1) (λ r=>h.far j (.inr (.inr (.inr r))) (h.esub j q).1)).trans (h.keep j q)⟩
theorem Md.done (h:Md B H E F w0 wS u s b vf vo vr vt xb xt xc U st d bl tl cl cs ac) (ht:Turned (λ i=>i=H+2) u u'):WI B E u' s b vf vo vr vt xb xt xc U st d bl tl cl/\Below B w0 u'/\∀ i,E i->u'.heap[i]? = wS.heap[i]? := by
 have l3:=h.bx.lt;have hh:=h.hH
 have ne:∀ i,Rows U xb xt xc i->¬ (i=H+2):=λ i q e=>h.far i q (h.box i ⟨by omega,by omega⟩)
 exact ⟨⟨h.inv.duo.stays ht (λ i q=>ne i (.inl q)),h.inv.low,(h.refz.turned ht (λ i q=>.inr (by have q':i=H+2:=q; exact h.box i ⟨by omega,by omega⟩))).mono (λ i q=>q.imp id (λ q=>(h.esub i q).1)),h.inv.fe,λ i q=>Nat.lt_of_lt_of_le (h.inv.elt i q) ht.size,h.inv.ob.stays ht (λ g q=>ne g (.inr (.inl q))),h.inv.ot.stays ht (λ g q=>ne g (.inr (.inr (.inl q)))),h.inv.oc.stays ht (λ g q=>ne g (.inr (.inr (.inr q)))),h.inv.fb,h.inv.ft,h.inv.fc,h.inv.bt,h.inv.bc,h.inv.tc⟩,h.bel.trans (ht.below (Nat.le_trans hh (by omega)) (λ i hi q=>by have q':i=H+2:=q; omega)),λ i q=>(ht.block i (h.flt i (h.esub i q).1) (λ r=>by have r':i=H+2:=r; have:=(h.esub i q).2; omega)).trans (h.keep i q)⟩
end
end Go.Proofs.YtjlokpjflgbgdaaGreat
