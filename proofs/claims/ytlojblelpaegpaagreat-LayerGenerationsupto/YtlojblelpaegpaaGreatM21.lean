/-
  Several texts, laid together.
-/
import Derived.Test.YtlojblelpaegpaaGreatM20
import Derived.Deep.MidRow
set_option maxHeartbeats 6400000
set_option maxRecDepth 100000
open Go renaming World->Ap,TypeId->AP,Value->Ar,bytes->Bt,Operand->CJ,wpList->CG,execOp->Do,resolve->Dz,invoke->DS,callFunc->Cq,yielded->Dg
open Nat renaming le_refl->Az,lt_of_lt_of_le->AI,le_trans->AZ
open Go.Oper renaming wp->CB,upon_enter->Eb
open Go.Region renaming wanted->Br
open Go.Deferred renaming ofValue->D1
open List renaming ext_getElem?->Cu,getElem?_eq_none->AL,contains_iff_mem->DP,mem_append->AK,mem_singleton->A2
open Go.Value renaming slice->Aa,pointer->Ah
open Go.Proofs.Tryz renaming prog->Am
namespace Go.Proofs.YtlojblelpaegpaaGreat
open Go.RowKit
variable{F G:Nat->Prop}{H n:Nat}{K:Act->Ap->Prop}{Q:Exit->Act->Ap->Prop}{W u u' w w0 wS:Ap}{X:Prop}{a:Act}{b:Array Oper}{cs:Array Ar}{d':Dk}{m:Int}{p:Bs}{rest:List Oper}{t:AP}{α:Type}
theorem ZmN{base:Nat}{e:AP}{size g m cap:Nat}{xs a:List Ar}(j:xs.length=n*size)(h:w.ownsRow base e size (Aa (some ⟨g,0,none⟩) (n+m) cap) (n+m) (xs++a)):w.ownsRow base e size (Aa (some ⟨g,0,none⟩) n cap) n xs:=by
 refine⟨j,?_⟩
 rcases h.2 with⟨e,_⟩ | ⟨p,i,c,e,k,l,o,d,f,b⟩
 ·cases e
 ·cases e;refine .inr ⟨g,cap,c,rfl,k,l,by omega,d,f,?_⟩
  have:(c.toList.take ((n+m)*size)).take (n*size)=(xs++a).take (n*size):=by rw[b]
  rw[List.take_take,Nat.min_eq_left (Nat.mul_le_mul_right _ (by omega)),List.take_left' j]at this;exact this
section
variable{P:Program}(w:World)
theorem Zee(base:Nat)(t ty e:AP)(i:TypeInfo)(z:Ar)(size f:Nat)(M:P.underlying t=some (.slice e))(hi:P.info? e=some i)(O:i.zero=some z)
  (o:i.size=size) (C:i.bytes=f) (E:z.cells.size=size) (D:0<size)
  (v:Ar) (n:Nat) (xs:List Ar) (d:w.ownsRow base e size v n xs)
  (a:Addr) (m c:Nat) (b:List Ar) (K:b.length=m*size) (l:∀j u,b[j]? = some u->w.cell? (a.add j)=some u) (N:∀u∈b,u.oneCell'=true)
  (B:n+m<=maxLen) (p:(n+m)*f<=140737488355328) (r:base<=w.heap.size) :
  ∃v' w',(Builtin.append_ #[t,t] ty #[v,Aa (some a) m c]).run P w=.ok v' w'/\w'.ownsRow base e size v' (n+m) (xs++b)/\w.grownBy w' v.ownBlock/\ZaP w v v'/\w'.ownsRow base e size v n xs:=by
 have q:∀{v':Ar} {w':Ap},w'.ownsRow w.heap.size e size v' (n+m) (xs++b)->ZaP w v v':=λ h=>.inr (λ g G=>(h.lt g G).1)
 rcases d.2 with⟨rfl,rfl⟩ | ⟨g,cap,H,rfl,Q,G,L,I,J,A⟩
 ·have S:xs=[]:=List.eq_nil_of_length_eq_zero (by simpa using d.1);subst S;obtain⟨v',w',F,x,s,_⟩:=run_append_own (P:=P) w w.heap.size t ty e i z size f M hi O o C E D (Aa none 0 0) 0 [] (World.ownsRow_nil w _ e size) a m c b K l N B p (Az _);exact⟨v',w',F,Zbm x r,s,q x,World.ownsRow_nil w' _ e size⟩
 ·by_cases y:n+m<=cap
  ·obtain⟨w',F,x,s⟩:=run_append_fits (P:=P) w base t ty e i size M hi o g n cap xs d a m c b K l N y;exact⟨_,w',F,x,s,.inl rfl,ZmN d.1 x⟩
  ·obtain⟨v',w',F,x,s⟩:=run_append_arg_grows (P:=P) w t ty e i z size f M hi O o C E D ⟨g,0,none⟩ n cap xs d.1 (d.cells rfl) a m c b K l (by omega) B p;refine⟨v',w',F,Zbm x r,⟨s.os,s.tape,s.output,s.size,λ k R _=>s.block k R (by simp)⟩,q x,d.1,.inr ⟨g,cap,H,rfl,Q,?_,L,I,J,A⟩⟩;rw[s.block g (Array.getElem?_eq_some_iff.1 G).1 (by simp)];exact G
end
theorem ZcG{P:Program}{k:Array Oper}{o:Oper}(q:o.guard=none)(s x:CJ)(t:AP)
  (r:o.op=.call { callee:=.builtin .append,args:=#[s,x],argTypes:=#[t,t] })
  (base:Nat) (e:AP) (i:TypeInfo) (z:Ar) (size d:Nat) (A:P.underlying t=some (.slice e)) (B:P.info? e=some i) (C:i.zero=some z) (D:i.size=size) (E:i.bytes=d) (F:z.cells.size=size) (G:0<size)
  (v:Ar) (n:Nat) (xs:List Ar) (L:a.eval s=v) (f:w.ownsRow base e size v n xs)
  (l:Addr) (m c:Nat) (b:List Ar) (M:a.eval x=Aa (some l) m c) (J:b.length=m*size) (I:∀j u,b[j]? = some u->w.cell? (l.add j)=some u) (p:∀u∈b,u.oneCell'=true)
  (b1:n+m<=maxLen) (b2:(n+m)*d<=140737488355328) (y:base<=w.heap.size)
  (h:∀v' w',w'.ownsRow base e size v' (n+m) (xs++b)->w.grownBy w' v.ownBlock->ZaP w v v'->w'.ownsRow base e size v n xs->CG P k Q rest (a.put o.dst v') w'):CG P k Q (o::rest) a w:=by
 refine wpList_plain q λ K H=>?_
 obtain⟨v',w',g,N,O,R,S⟩:=Zee (P:=P) w base t o.type e i z size d A B C D E F G v n xs f l m c b J I p b1 b2 y;unfold CB;simp[Do,r,Dz,DS,builtin,L,M,g,Result.andThen];exact H _ _ (h v' w' N O R S)
theorem ZfE{n:Array Oper}{o:Oper}(E:Enc α)(e t:AP)(b:Nat)(z:Ar)(P:z.cells.size=E.size)
  (d:(Am.info? e).map (λ i=>(i.zero,i.size,i.bytes))=some (some z,E.size,b)) (N:Am.underlying t=some (.slice e)) (p:o.guard=none) (s x:CJ)
  (u:o.op=.call { callee:=.builtin .append,args:=#[s,x],argTypes:=#[t,t] }) (base:Nat) (v:Ar) (f:List α) (y:α) (ty:AP) (L:a.eval s=v) (m:OwnG E e w base v f)
  (O:a.eval x=Aa (some ⟨w.heap.size,0,none⟩) 1 1) (j:(f.length+1)*b<=140737488355328) (l:f.length+1<=maxLen) (R:base<=w.heap.size) (c:Array Ar) (J:c=(E.cells y).toArray)
  (h:∀v' w',OwnG E e w' base v' (f++[y])->OwnG E e w' base v f->ZaP w v v'->Zaa (λ k=>v.ownBlock=some k) w w'->CG Am n Q rest (a.put o.dst v') w') :
  CG Am n Q (o::rest) a (w.alloc (.cells c ty)):=by
 subst J;obtain⟨i0,r,A,B,C⟩:=info_parts d
 refine ZcG p s x t u base e i0 _ E.size b N r A B C P E.pos v f.length (E.all f) L (m.below ((Below.refl _ w).alloc (Az _) _)) ⟨w.heap.size,0,none⟩ 1 1 (E.cells y) O (by rw[E.len,Nat.one_mul]) (Zau E w y ty)
  (E.one y) l j (by simp;omega) ?_
 intro v' w' D F G H;have I:Zaa (λ k=>v.ownBlock=some k) w (w.alloc (.cells (E.cells y).toArray ty)):=(Zaa.refl _ _).alloc _;have M:Zaa (λ k=>v.ownBlock=some k) (w.alloc (.cells (E.cells y).toArray ty)) w':=(Zaa.refl _ _).grown F (λ k _ e=>e);refine h v' w' ?_ H ?_ (I.trans M (λ _ _ q=>q))
 ·unfold OwnG;rw[List.length_append,E.all_append];simpa[Enc.all]using D
 ·refine G.imp id (λ q g K=>?_);have:=q g K;simp at this;omega
def Rows(U:Nat->Prop)(xb xt xc:Ar):Nat->Prop:=λ i=>U i∨xb.ownBlock=some i∨xt.ownBlock=some i∨xc.ownBlock=some i
def Zb(F:Nat->Prop)(Z:Nat->Prop):Nat->Prop:=λ i=>Z i∨F i
def Fb(H:Nat):Nat->Prop:=λ i=>H<=i/\i<H+3
structure WI(B:Nat)(E:Nat->Prop)(w:Ap)(s b:Nat)(vf vo vr vt xb xt xc:Ar)(U:Nat->Prop)(st:St)(d:Dk)(bl tl cl:List UInt64):Prop where
 duo:Duo w s b st d U
 low:∀i,U i->B<=i
 ref:RMS (Zb E (Rows U xb xt xc)) w (rm d vf vo vr vt) st d
 fe:∀i,Rows U xb xt xc i->¬E i
 elt:∀i,E i->i<w.heap.size
 ob:OwnG encU 44 w B xb bl
 ot:OwnG encU 44 w B xt tl
 oc:OwnG encU 44 w B xc cl
 fb:∀g,xb.ownBlock=some g->¬U g
 ft:∀g,xt.ownBlock=some g->¬U g
 fc:∀g,xc.ownBlock=some g->¬U g
 bt:∀g,xb.ownBlock=some g->xt.ownBlock≠some g
 bc:∀g,xb.ownBlock=some g->xc.ownBlock≠some g
 tc:∀g,xt.ownBlock=some g->xc.ownBlock≠some g
section
variable{B:Nat}{E:Nat->Prop}{w w':World}{s b:Nat}{vf vo vr vt xb xt xc:Value}{U:Nat->Prop}{st:St}{d:Dk}{bl tl cl:List UInt64}
theorem WI.lt(h:WI B E w s b vf vo vr vt xb xt xc U st d bl tl cl):∀i,Rows U xb xt xc i->B<=i/\i<w.heap.size:=by
 rintro i (q|q|q|q)
 ·exact⟨h.low i q,h.duo.lt i q⟩
 ·exact h.ob.lt i q
 ·exact h.ot.lt i q
 ·exact h.oc.lt i q
theorem WI.below(h:WI B E w s b vf vo vr vt xb xt xc U st d bl tl cl)(a:Below w.heap.size w w'):WI B E w' s b vf vo vr vt xb xt xc U st d bl tl cl :=
 ⟨h.duo.below a,h.low,h.ref.below a,h.fe,λ i q=>AI (h.elt i q) a.size,h.ob.below a,h.ot.below a,h.oc.below a,h.fb,h.ft,h.fc,h.bt,h.bc,h.tc⟩
def Aft(W u:Ap)(s b:Nat)(st:St)(d:Dk)(U U':Nat->Prop):Prop:=Duo u s b st d U'/\(∀i,U' i->U i∨W.heap.size<=i)/\(∀i,U i->U' i)/\Zaa U W u
theorem Aft.of{X:Ap}{a:St}(c:Below W.heap.size W X)(hd:Duo u s b a d' (ZaA U X u))(d:Zaa U X u):Aft W u s b a d' U (ZaA U X u) :=
 ⟨hd,λ i q=>q.imp id (λ q=>by have:=c.size;have:=q.1;omega),λ i q=>.inl q,(Zaa.ofBelow c).trans d (λ _ _ q=>q)⟩
abbrev zeroW:Array Ar:=#[Ah none,Ah none,nilV,.int .i64 0,.bool false,.bool false,.int .i64 0,.int .i64 0,nilV,nilV,nilV,nilV,nilV,nilV]
structure Bx(H:Nat)(u:Ap)(cs ac:Array Ar):Prop where
 box:BoxA u H 36 cs
 act:BoxA u (H+1) 81 ac
 res:BoxA u (H+2) 36 zeroW
theorem Bx.lt{ac:Array Ar}(h:Bx H u cs ac):H+3<=u.heap.size:=by have:=h.res.lt;omega
theorem Bx.turned{ac:Array Ar}{S:Nat->Prop}(h:Bx H u cs ac)(b:Zaa S u u')(a:∀i,S i->¬(H<=i/\i<H+3)):Bx H u' cs ac :=
 ⟨h.box.turned b (λ q=>a _ q (by omega)),h.act.turned b (λ q=>a _ q (by omega)),h.res.turned b (λ q=>a _ q (by omega))⟩
theorem Bx.below{ac:Array Ar}(h:Bx H u cs ac)(a:Below u.heap.size u u'):Bx H u' cs ac :=
 ⟨h.box.below a h.box.lt,h.act.below a h.act.lt,h.res.below a h.res.lt⟩
theorem Bx.new(w:Ap)(cs ac:Array Ar):Bx w.heap.size (((w.alloc (.cells cs 36)).alloc (.cells ac 81)).alloc (.cells zeroW 36)) cs ac:=by
 have h:=Zcl w cs ac zeroW 36 81 36;exact⟨h.1,h.2.1,h.2.2.1⟩
structure Md(B H:Nat)(E F:Nat->Prop)(w0 wS u:Ap)(s b:Nat)(vf vo vr vt xb xt xc:Ar)(U:Nat->Prop)(st:St)(d:Dk)(bl tl cl:List UInt64)(cs ac:Array Ar):Prop where
 inv:WI B E u s b vf vo vr vt xb xt xc U st d bl tl cl
 refz:RMS (Zb F (Rows U xb xt xc)) u (rm d vf vo vr vt) st d
 bx:Bx H u cs ac
 far:∀i,Rows U xb xt xc i->¬F i
 box:∀i,Fb H i->F i
 flt:∀i,F i->i<u.heap.size
 bel:Below B w0 u
 hH:B<=H
 esub:∀i,E i->F i/\i<H
 keep:∀i,E i->u.heap[i]? = wS.heap[i]?
theorem Md.start(h:WI B E w s b vf vo vr vt xb xt xc U st d bl tl cl)(f:Below B w0 w)(c:B<=w.heap.size){ac:Array Ar}(e:Bx w.heap.size W cs ac)(a:Below w.heap.size w W):Md B w.heap.size E (λ i=>Fb w.heap.size i∨E i) w0 w W s b vf vo vr vt xb xt xc U st d bl tl cl cs ac :=
 ⟨h.below a,(h.ref.into (λ i hi q=>by
  rcases q with q|q|q
  ·exact .inl q
  ·have:=q.1;omega
  ·exact .inr q)).below a,e,λ i q r=>r.elim (λ r=>by have:=(h.lt i q).2;have:=r.1;omega) (h.fe i q),λ i q=>.inl q,λ i q=>q.elim (λ q=>by have:=e.lt;have:=q.2;omega) (λ q=>AI (h.elt i q) a.size),f.trans (a.mono c),c,λ i q=>⟨.inr q,h.elt i q⟩,λ i q=>a.block i (h.elt i q)⟩
theorem Md.below{ac:Array Ar}(h:Md B H E F w0 wS u s b vf vo vr vt xb xt xc U st d bl tl cl cs ac)(a:Below u.heap.size u u'):Md B H E F w0 wS u' s b vf vo vr vt xb xt xc U st d bl tl cl cs ac :=
 ⟨h.inv.below a,h.refz.below a,h.bx.below a,h.far,h.box,λ i q=>AI (h.flt i q) a.size,h.bel.trans (a.mono (AZ h.hH (by have:=h.bx.lt;omega))),h.hH,h.esub,λ i q=>(a.block i (h.flt i (h.esub i q).1)).trans (h.keep i q)⟩
theorem Md.more{ac:Array Ar}(h:Md B H E F w0 wS u s b vf vo vr vt xb xt xc U st d bl tl cl cs ac)(e:Below u.heap.size u u')(c:∀i,G i->u.heap.size<=i/\i<u'.heap.size):Md B H E (λ i=>F i∨G i) w0 wS u' s b vf vo vr vt xb xt xc U st d bl tl cl cs ac:=by
 have a:=h.below e;refine⟨a.inv,(h.refz.into (λ i hi q=>?_)).below e,a.bx,λ i q r=>?_,λ i q=>.inl (h.box i q),λ i q=>q.elim (a.flt i) (λ q=>(c i q).2),a.bel,h.hH,λ i q=>⟨.inl (h.esub i q).1,(h.esub i q).2⟩,a.keep⟩
 ·rcases q with q|q|q
  ·exact .inl q
  ·exact .inr q
  ·have:=(c i q).1;omega
 ·rcases r with r|r
  ·exact h.far i q r
  ·have:=(c i r).1;have:=(h.inv.lt i q).2;omega
theorem Md.move{w0 wS W u1:Ap}{H:Nat}{F:Nat->Prop}{cs ac:Array Ar}{U':Nat->Prop}{st':St}{d':Dk}{m:Ar}{st2:St}{d2:Dk}(_h:Md B H E F w0 wS W s b vf vo vr vt xb xt xc U st d bl tl cl cs ac)(ha:Aft W u1 s b st' d' U U')(hr:RMS (Zb F (Rows U xb xt xc)) W m st2 d2):RMS (Zb F (Rows U' xb xt xc)) u1 m st2 d2:=by
 obtain⟨a1,a2,a3,a4⟩:=ha;refine(hr.into (λ i hi q=>?_)).turned a4 (λ i q=>.inl (.inl (a3 i q)))
 rcases q with(q|q) | q
 ·rcases a2 i q with r|r
  ·exact .inl (.inl r)
  ·omega
 ·exact .inl (.inr q)
 ·exact .inr q
theorem Md.call{f u2:Ap}{ac:Array Ar}{j:Nat->Prop}{k:St}(h:Md B H E F w0 wS W s b vf vo vr vt xb xt xc U st d bl tl cl cs ac)(v:Aft W f s b k d' U j):
  RMS (Zb F (Rows j xb xt xc)) f (rm d vf vo vr vt) st d/\(∀i,Zb F (Rows j xb xt xc) i->i<f.heap.size)/\Bx H f cs ac/\Below B w0 f /\
  ∀l m n o,Below f.heap.size f u2->RMS (Zb F (Rows j xb xt xc)) u2 (rm d' l m n o) k d'->Md B H E F w0 wS u2 s b l m n o xb xt xc j k d' bl tl cl cs ac:=by
 have y:=h.move v h.refz;obtain⟨a1,a2,a3,a4⟩:=v;have t:=a4.size;have I:=h.bx.lt;have p:=h.bx.turned a4 (λ i q r=>h.far i (.inl q) (h.box i r));have b1:Below B w0 f:=h.bel.trans (a4.below (AZ h.hH (by omega)) (λ i hi q=>by have:=h.inv.low i q;omega));refine⟨y,λ i q=>?_,p,b1,λ l m n o a w=>?_⟩
 ·rcases q with(q|q) | q
  ·exact a1.lt i q
  ·exact AI (h.inv.lt i (.inr q)).2 t
  ·exact AI (h.flt i q) t
 ·have u:∀{x:Ar},(∀g,x.ownBlock=some g->¬U g)->(∀g,x.ownBlock=some g->g<W.heap.size)->∀g,x.ownBlock=some g->¬j g:=by
   intro x z A g e r
   rcases a2 g r with r|r
   ·exact z g e r
   ·have:=A g e;omega
  have C:=λ g e=>(h.inv.ob.lt g e).2
  have G:=λ g e=>(h.inv.ot.lt g e).2
  have D:=λ g e=>(h.inv.oc.lt g e).2
  have c:∀i,Rows j xb xt xc i->¬F i:=by
   rintro i (q|q) r
   ·rcases a2 i q with q|q
    ·exact h.far i (.inl q) r
    ·have:=h.flt i r;omega
   ·exact h.far i (.inr q) r
  refine⟨⟨a1.below a,λ i q=>?_,w.mono (λ i q=>q.imp id (λ q=>(h.esub i q).1)),λ i q r=>c i q (h.esub i r).1,λ i q=>AI (h.inv.elt i q) (AZ t a.size),(h.inv.ob.stays a4 h.inv.fb).below a,(h.inv.ot.stays a4 h.inv.ft).below a,(h.inv.oc.stays a4 h.inv.fc).below a,u h.inv.fb C,u h.inv.ft G,u h.inv.fc D,h.inv.bt,h.inv.bc,h.inv.tc⟩,w,p.below a,c,h.box,λ i q=>AI (h.flt i q) (AZ t a.size),b1.trans (a.mono (AZ h.hH (by omega))),h.hH,h.esub,λ i q=>((a.block i (AI (h.flt i (h.esub i q).1) t)).trans (a4.block i (h.flt i (h.esub i q).1) (λ r=>h.far i (.inl r) (h.esub i q).1))).trans (h.keep i q)⟩
  rcases a2 i q with r|r
  ·exact h.inv.low i r
  ·have:=h.hH;omega
theorem Md.turn{c ac:Array Ar}(h:Md B H E F w0 wS u s b vf vo vr vt xb xt xc U st d bl tl cl cs ac)(a:Zaa G u u')(f:∀i,G i->F i/\H<=i)(m:Bx H u' c ac):Md B H E F w0 wS u' s b vf vo vr vt xb xt xc U st d bl tl cl c ac:=by
 have n:=h.bx.lt;have k:=h.hH
 have j:∀i,Rows U xb xt xc i->¬G i:=λ i q e=>h.far i q (f i e).1
 have l:=h.refz.turned a (λ i q=>.inr (f i q).1);exact⟨⟨h.inv.duo.stays a (λ i q=>j i (.inl q)),h.inv.low,l.mono (λ i q=>q.imp id (λ q=>(h.esub i q).1)),h.inv.fe,λ i q=>AI (h.inv.elt i q) a.size,h.inv.ob.stays a (λ g q=>j g (.inr (.inl q))),h.inv.ot.stays a (λ g q=>j g (.inr (.inr (.inl q)))),h.inv.oc.stays a (λ g q=>j g (.inr (.inr (.inr q)))),h.inv.fb,h.inv.ft,h.inv.fc,h.inv.bt,h.inv.bc,h.inv.tc⟩,l,m,h.far,h.box,λ i q=>AI (h.flt i q) a.size,h.bel.trans (a.below (AZ k (by omega)) (λ i hi q=>by have:=(f i q).2;omega)),k,h.esub,λ i q=>(a.block i (h.flt i (h.esub i q).1) (λ r=>by have:=(f i r).2;have:=(h.esub i q).2;omega)).trans (h.keep i q)⟩
theorem Md.lay{a ac:Array Ar}(h:Md B H E F w0 wS u s b vf vo vr vt xb xt xc U st d bl tl cl cs ac)(c:Zaa (λ i=>i=H) u u')(e:BoxA u' H 36 a):Md B H E F w0 wS u' s b vf vo vr vt xb xt xc U st d bl tl cl a ac :=
 h.turn c (λ i q=>by have f:i=H:=q;exact⟨h.box i ⟨by omega,by omega⟩,by omega⟩) ⟨e,h.bx.act.turned c (by show ¬H+1=H;omega),h.bx.res.turned c (by show ¬H+2=H;omega)⟩
theorem Md.other{ac:Array Ar}(h:Md B H E F w0 wS u s b vf vo vr vt xb xt xc U st d bl tl cl cs ac)(c:Zaa G u u')(a:∀i,G i->F i/\H+3<=i):Md B H E F w0 wS u' s b vf vo vr vt xb xt xc U st d bl tl cl cs ac :=
 h.turn c (λ i q=>⟨(a i q).1,by have:=(a i q).2;omega⟩) (h.bx.turned c (λ i q r=>by have:=(a i q).2;omega))
end
def setL(cs:Array Ar):List Ar->Nat->Array Ar
 | [],_=>cs
 | v::t,j=>setL (cs.setIfInBounds j v) t (j+1)
theorem BoxA.lays{Q:Nat}(h:BoxA w Q t cs)(vs:List Ar)(j:Nat):BoxA (layL w Q vs j) Q t (setL cs vs j):=by
 induction vs generalizing w cs j with
 | nil=>exact h
 | cons v t a=>exact a (h.put j v) (j+1)
theorem set9(a0 a1 a2 a3 a4 a5 a6 a7 a8 a9 e a b c n2 f g h i j k l d:Ar):setL #[a0,a1,a2,a3,a4,a5,a6,a7,a8,a9,e,a,b,c] [n2,f,g,h,i,j,k,l,d] 2=#[a0,a1,n2,f,g,h,i,j,k,l,d,a,b,c]:=by simp[setL]
theorem set11(a0 a1 a2 a3 a4 a5 a6 a7 a8 a9 a e b c d:Ar):setL #[a0,a1,a2,a3,a4,a5,a6,a7,a8,a9,a,e,b,c] [d] 11=#[a0,a1,a2,a3,a4,a5,a6,a7,a8,a9,a,d,b,c]:=by simp[setL]
theorem set12(a0 a1 a2 a3 a4 a5 a6 a7 a8 a9 a b e c d:Ar):setL #[a0,a1,a2,a3,a4,a5,a6,a7,a8,a9,a,b,e,c] [d] 12=#[a0,a1,a2,a3,a4,a5,a6,a7,a8,a9,a,b,d,c]:=by simp[setL]
theorem set13(a0 a1 a2 a3 a4 a5 a6 a7 a8 a9 a b c e d:Ar):setL #[a0,a1,a2,a3,a4,a5,a6,a7,a8,a9,a,b,c,e] [d] 13=#[a0,a1,a2,a3,a4,a5,a6,a7,a8,a9,a,b,c,d]:=by simp[setL]
section
variable{B H:Nat}{E F:Nat->Prop}{w0 wS u u':World}{s b:Nat}{vf vo vr vt xb xt xc v':Value}{U:Nat->Prop}{st:St}{d:Dk}{bl tl cl:List UInt64}{cs ac:Array Value}{i:UInt64}
theorem Zbb(a:ZaP u xb v')(Z:Nat->Prop)(b:∀g,xb.ownBlock=some g->Z g):∀g,g<u.heap.size->v'.ownBlock=some g->Z g:=by
 intro g c q
 rcases a with e|e
 ·exact b g (e.symm.trans q)
 ·have:=e g q;omega
theorem Md.rowB(h:Md B H E F w0 wS u s b vf vo vr vt xb xt xc U st d bl tl cl cs ac)(n:OwnG encU 44 u' B v' (bl++[i]))(c:ZaP u xb v')(a:Zaa (λ k=>xb.ownBlock=some k) u u'):Md B H E F w0 wS u' s b vf vo vr vt v' xt xc U st d (bl++[i]) tl cl cs ac:=by
 have w:=h.bx.lt;have e:=h.hH
 have far:∀j,Rows U v' xt xc j->¬F j:=by
  rintro j (q|q|q) r
  ·exact h.far j (.inl q) r
  ·exact h.far j (.inr (.inl (Zbb c (λ g=>xb.ownBlock=some g) (λ g q=>q) j (h.flt j r) q))) r
  ·exact h.far j (.inr (.inr q)) r
 have apart:∀{P:Nat->Prop},(∀g,P g->g<u.heap.size)->(∀g,xb.ownBlock=some g->¬P g)->∀g,v'.ownBlock=some g->¬P g:=by
  intro P o t g m p;exact t g (Zbb c (λ g=>xb.ownBlock=some g) (λ g q=>q) g (o g p) m) p
 have l:RMS (Zb F (Rows U v' xt xc)) u' (rm d vf vo vr vt) st d:=by
  have v:=h.refz.into (Z':=λ j=>Zb F (Rows U xb xt xc) j∨Zb F (Rows U v' xt xc) j) (λ j f q=>by
   rcases q with q|(q|q|q) | q
   ·exact q
   ·exact .inl (.inl q)
   ·exact .inl (.inr (.inl (Zbb c (λ g=>xb.ownBlock=some g) (λ g q=>q) j f q)))
   ·exact .inl (.inr (.inr q))
   ·exact .inr q)
  exact(v.turned a (λ j q=>.inl (.inl (.inr (.inl q))))).mono (λ j q=>.inr q)
 refine⟨⟨h.inv.duo.stays a (λ j q r=>h.inv.fb j r q),h.inv.low,l.mono (λ j q=>q.imp id (λ q=>(h.esub j q).1)),λ j q r=>far j q (h.esub j r).1,λ j q=>AI (h.inv.elt j q) a.size,n,h.inv.ot.stays a (λ g q r=>h.inv.bt g r q),h.inv.oc.stays a (λ g q r=>h.inv.bc g r q),apart (λ g q=>h.inv.duo.lt g q) h.inv.fb,h.inv.ft,h.inv.fc,apart (λ g q=>(h.inv.ot.lt g q).2) h.inv.bt,apart (λ g q=>(h.inv.oc.lt g q).2) h.inv.bc,h.inv.tc⟩,l,h.bx.turned a (λ j q r=>h.far j (.inr (.inl q)) (h.box j r)),far,h.box,λ j q=>AI (h.flt j q) a.size,h.bel.trans (a.below (AZ e (by omega)) (λ j f q=>by have:=(h.inv.ob.lt j q).1;omega)),e,h.esub,λ j q=>(a.block j (h.flt j (h.esub j q).1) (λ r=>h.far j (.inr (.inl r)) (h.esub j q).1)).trans (h.keep j q)⟩
theorem Md.rowT(h:Md B H E F w0 wS u s b vf vo vr vt xb xt xc U st d bl tl cl cs ac)(n:OwnG encU 44 u' B v' (tl++[i]))(c:ZaP u xt v')(a:Zaa (λ k=>xt.ownBlock=some k) u u'):Md B H E F w0 wS u' s b vf vo vr vt xb v' xc U st d bl (tl++[i]) cl cs ac:=by
 have w:=h.bx.lt;have e:=h.hH
 have far:∀j,Rows U xb v' xc j->¬F j:=by
  rintro j (q|q|q|q) r
  ·exact h.far j (.inl q) r
  ·exact h.far j (.inr (.inl q)) r
  ·exact h.far j (.inr (.inr (.inl (Zbb c (λ g=>xt.ownBlock=some g) (λ g q=>q) j (h.flt j r) q)))) r
  ·exact h.far j (.inr (.inr (.inr q))) r
 have apart:∀{P:Nat->Prop},(∀g,P g->g<u.heap.size)->(∀g,xt.ownBlock=some g->¬P g)->∀g,v'.ownBlock=some g->¬P g:=by
  intro P o t g m p;exact t g (Zbb c (λ g=>xt.ownBlock=some g) (λ g q=>q) g (o g p) m) p
 have l:RMS (Zb F (Rows U xb v' xc)) u' (rm d vf vo vr vt) st d:=by
  have v:=h.refz.into (Z':=λ j=>Zb F (Rows U xb xt xc) j∨Zb F (Rows U xb v' xc) j) (λ j f q=>by
   rcases q with q|(q|q|q|q) | q
   ·exact q
   ·exact .inl (.inl q)
   ·exact .inl (.inr (.inl q))
   ·exact .inl (.inr (.inr (.inl (Zbb c (λ g=>xt.ownBlock=some g) (λ g q=>q) j f q))))
   ·exact .inl (.inr (.inr (.inr q)))
   ·exact .inr q)
  exact(v.turned a (λ j q=>.inl (.inl (.inr (.inr (.inl q)))))).mono (λ j q=>.inr q)
 refine⟨⟨h.inv.duo.stays a (λ j q r=>h.inv.ft j r q),h.inv.low,l.mono (λ j q=>q.imp id (λ q=>(h.esub j q).1)),λ j q r=>far j q (h.esub j r).1,λ j q=>AI (h.inv.elt j q) a.size,h.inv.ob.stays a (λ g q r=>h.inv.bt g q r),n,h.inv.oc.stays a (λ g q r=>h.inv.tc g r q),h.inv.fb,apart (λ g q=>h.inv.duo.lt g q) h.inv.ft,h.inv.fc,λ g q r=>apart (P:=λ g=>xb.ownBlock=some g) (λ g q=>(h.inv.ob.lt g q).2) (λ g q r=>h.inv.bt g r q) g r q,h.inv.bc,apart (λ g q=>(h.inv.oc.lt g q).2) h.inv.tc⟩,l,h.bx.turned a (λ j q r=>h.far j (.inr (.inr (.inl q))) (h.box j r)),far,h.box,λ j q=>AI (h.flt j q) a.size,h.bel.trans (a.below (AZ e (by omega)) (λ j f q=>by have:=(h.inv.ot.lt j q).1;omega)),e,h.esub,λ j q=>(a.block j (h.flt j (h.esub j q).1) (λ r=>h.far j (.inr (.inr (.inl r))) (h.esub j q).1)).trans (h.keep j q)⟩
theorem Md.rowC(h:Md B H E F w0 wS u s b vf vo vr vt xb xt xc U st d bl tl cl cs ac)(n:OwnG encU 44 u' B v' (cl++[i]))(c:ZaP u xc v')(a:Zaa (λ k=>xc.ownBlock=some k) u u'):Md B H E F w0 wS u' s b vf vo vr vt xb xt v' U st d bl tl (cl++[i]) cs ac:=by
 have w:=h.bx.lt;have e:=h.hH
 have far:∀j,Rows U xb xt v' j->¬F j:=by
  rintro j (q|q|q|q) r
  ·exact h.far j (.inl q) r
  ·exact h.far j (.inr (.inl q)) r
  ·exact h.far j (.inr (.inr (.inl q))) r
  ·exact h.far j (.inr (.inr (.inr (Zbb c (λ g=>xc.ownBlock=some g) (λ g q=>q) j (h.flt j r) q)))) r
 have apart:∀{P:Nat->Prop},(∀g,P g->g<u.heap.size)->(∀g,xc.ownBlock=some g->¬P g)->∀g,v'.ownBlock=some g->¬P g:=by
  intro P o t g m p;exact t g (Zbb c (λ g=>xc.ownBlock=some g) (λ g q=>q) g (o g p) m) p
 have l:RMS (Zb F (Rows U xb xt v')) u' (rm d vf vo vr vt) st d:=by
  have v:=h.refz.into (Z':=λ j=>Zb F (Rows U xb xt xc) j∨Zb F (Rows U xb xt v') j) (λ j f q=>by
   rcases q with q|(q|q|q|q) | q
   ·exact q
   ·exact .inl (.inl q)
   ·exact .inl (.inr (.inl q))
   ·exact .inl (.inr (.inr (.inl q)))
   ·exact .inl (.inr (.inr (.inr (Zbb c (λ g=>xc.ownBlock=some g) (λ g q=>q) j f q))))
   ·exact .inr q)
  exact(v.turned a (λ j q=>.inl (.inl (.inr (.inr (.inr q)))))).mono (λ j q=>.inr q)
 refine⟨⟨h.inv.duo.stays a (λ j q r=>h.inv.fc j r q),h.inv.low,l.mono (λ j q=>q.imp id (λ q=>(h.esub j q).1)),λ j q r=>far j q (h.esub j r).1,λ j q=>AI (h.inv.elt j q) a.size,h.inv.ob.stays a (λ g q r=>h.inv.bc g q r),h.inv.ot.stays a (λ g q r=>h.inv.tc g q r),n,h.inv.fb,h.inv.ft,apart (λ g q=>h.inv.duo.lt g q) h.inv.fc,h.inv.bt,λ g q r=>apart (P:=λ g=>xb.ownBlock=some g) (λ g q=>(h.inv.ob.lt g q).2) (λ g q r=>h.inv.bc g r q) g r q,λ g q r=>apart (P:=λ g=>xt.ownBlock=some g) (λ g q=>(h.inv.ot.lt g q).2) (λ g q r=>h.inv.tc g r q) g r q⟩,l,h.bx.turned a (λ j q r=>h.far j (.inr (.inr (.inr q))) (h.box j r)),far,h.box,λ j q=>AI (h.flt j q) a.size,h.bel.trans (a.below (AZ e (by omega)) (λ j f q=>by have:=(h.inv.oc.lt j q).1;omega)),e,h.esub,λ j q=>(a.block j (h.flt j (h.esub j q).1) (λ r=>h.far j (.inr (.inr (.inr r))) (h.esub j q).1)).trans (h.keep j q)⟩
theorem Md.done(h:Md B H E F w0 wS u s b vf vo vr vt xb xt xc U st d bl tl cl cs ac)(a:Zaa (λ i=>i=H+2) u u'):WI B E u' s b vf vo vr vt xb xt xc U st d bl tl cl/\Below B w0 u'/\∀i,E i->u'.heap[i]? = wS.heap[i]? := by
 have k:=h.bx.lt;have f:=h.hH
 have c:∀i,Rows U xb xt xc i->¬(i=H+2):=λ i q e=>h.far i q (h.box i ⟨by omega,by omega⟩)
 exact⟨⟨h.inv.duo.stays a (λ i q=>c i (.inl q)),h.inv.low,(h.refz.turned a (λ i q=>.inr (by have j:i=H+2:=q;exact h.box i ⟨by omega,by omega⟩))).mono (λ i q=>q.imp id (λ q=>(h.esub i q).1)),h.inv.fe,λ i q=>AI (h.inv.elt i q) a.size,h.inv.ob.stays a (λ g q=>c g (.inr (.inl q))),h.inv.ot.stays a (λ g q=>c g (.inr (.inr (.inl q)))),h.inv.oc.stays a (λ g q=>c g (.inr (.inr (.inr q)))),h.inv.fb,h.inv.ft,h.inv.fc,h.inv.bt,h.inv.bc,h.inv.tc⟩,h.bel.trans (a.below (AZ f (by omega)) (λ i hi q=>by have j:i=H+2:=q;omega)),λ i q=>(a.block i (h.flt i (h.esub i q).1) (λ r=>by have l:i=H+2:=r;have:=(h.esub i q).2;omega)).trans (h.keep i q)⟩
end
theorem BoxA.there{Q:Nat}(h:BoxA w Q t cs){o:Nat}(b:o+n<=cs.size):w.there Q o n:=by
 intro j a;refine⟨?_,h.thaw _⟩;rw[h.cell (j:=o+j) (v:=cs[o+j]) (Array.getElem?_eq_getElem (by omega))]
 rfl
theorem Zdj(Q:Nat):∀(vs:List Ar) (o:Nat) (w:Ap),w.setCells Q o vs=layL w Q vs o
 | [],_,_=>rfl
 | v::t,o,w=>Zdj Q t (o+1) (w.setCell ⟨Q,o,none⟩ v)
theorem Zaj{c:Array Oper}{op:Oper}(d:op.guard=none)(ty:AP)(x y:CJ)(f:op.op=.store ty x y)
  (b o:Nat) (cells:Array Ar) (i:a.eval x=Ah (some ⟨b,o,none⟩)) (j:a.eval y=.agg cells) (g:w.there b o cells.size) (hi:(Am.info? ty).map (·.size)=some cells.size) (e:cells.all (·.oneCell')=true)
  (h:∀w',w'=layL w b cells.toList o->CG Am c Q rest (a.put op.dst undef) w'):CG Am c Q (op::rest) a w :=
 wpList_store_mid d ty x y f b o cells i j g hi e (by rw[Zdj];exact h _ rfl)
theorem ZeY{o:Oper}(k:o.guard=none)(x:CJ)(f:Nat)(ts:Array AP)
  (c:o.op=.call { callee:=.value (.func f),args:=#[x],argTypes:=ts }) (g:∀args w,(Cq f args).run Am w=.ok (.enter f args) w) (d:Ar) (n:a.eval x=d) (R:Ar->Ap->Prop)
  (i:Calls Am f #[d] w λ e w'=>∃v,e=.returned v/\R v w') (h:∀v w',R v w'->K (a.put o.dst v) w') :
  if Br o (Dg b a.tmps)=true then CB Am o a w K Q else X:=by
 have m:Br o (Dg b a.tmps)=true:=by simp[Br,k]
 rw[AE m];unfold CB
 have e:(Do a.eval o).run Am w=.ok (.enter f #[d]) w:=by
  have j:a.eval (.func f)=.func (.func f) #[] #[]:=rfl;simp[Do,c,Dz,DS,n,j,D1,g]
 rw[e,Eb];refine i.mono ?_;rintro e w' ⟨v,rfl,l⟩;exact h v w' l
theorem Zbd{o:Oper}(k:o.guard=none)(x y:CJ)(f:Nat)(ts:Array AP)
  (c:o.op=.call { callee:=.value (.func f),args:=#[x,y],argTypes:=ts }) (g:∀args w,(Cq f args).run Am w=.ok (.enter f args) w) (d u2:Ar) (n:a.eval x=d) (p:a.eval y=u2) (R:Ar->Ap->Prop)
  (i:Calls Am f #[d,u2] w λ e w'=>∃v,e=.returned v/\R v w') (h:∀v w',R v w'->K (a.put o.dst v) w') :
  if Br o (Dg b a.tmps)=true then CB Am o a w K Q else X:=by
 have m:Br o (Dg b a.tmps)=true:=by simp[Br,k]
 rw[AE m];unfold CB
 have e:(Do a.eval o).run Am w=.ok (.enter f #[d,u2]) w:=by
  have j:a.eval (.func f)=.func (.func f) #[] #[]:=rfl;simp[Do,c,Dz,DS,n,p,j,D1,g]
 rw[e,Eb];refine i.mono ?_;rintro e w' ⟨v,rfl,l⟩;exact h v w' l
theorem ZcX{o:Oper}(l:o.guard=none)(x y z:CJ)(f:Nat)(ts:Array AP)
  (c:o.op=.call { callee:=.value (.func f),args:=#[x,y,z],argTypes:=ts }) (i:∀args w,(Cq f args).run Am w=.ok (.enter f args) w) (d u2 g:Ar) (p:a.eval x=d) (q:a.eval y=u2) (r:a.eval z=g) (R:Ar->Ap->Prop)
  (j:Calls Am f #[d,u2,g] w λ e w'=>∃v,e=.returned v/\R v w') (h:∀v w',R v w'->K (a.put o.dst v) w') :
  if Br o (Dg b a.tmps)=true then CB Am o a w K Q else X:=by
 have n:Br o (Dg b a.tmps)=true:=by simp[Br,l]
 rw[AE n];unfold CB
 have e:(Do a.eval o).run Am w=.ok (.enter f #[d,u2,g]) w:=by
  have k:a.eval (.func f)=.func (.func f) #[] #[]:=rfl;simp[Do,c,Dz,DS,p,q,r,k,D1,i]
 rw[e,Eb];refine j.mono ?_;rintro e w' ⟨v,rfl,m⟩;exact h v w' m
def pid(p:Bs):Int:=idFold (idStep 14695981039346656037 9) (p.map λ b=>(b.toNat:Int))
def pos1(p:Bs)(m:Int)(i:Nat):Int:=spread (pid p) i % m
def poss(p:Bs)(m:Int):List Int:=if m<1 then[]else[pos1 p m 0,pos1 p m 1,pos1 p m 2]
theorem Zdo(a b:Int):0<=spread a b/\spread a b<18446744073709551616:=by
 show 0<=IntKind.u64.wrap _/\IntKind.u64.wrap _<_;rw[IntKind.wrap_u64];omega
theorem Zkv(p:Bs)(a:1<=m)(i:Nat):0<=pos1 p m i/\pos1 p m i<m :=
 ⟨Int.emod_nonneg _ (by omega),Int.emod_lt_of_pos _ (by omega)⟩
theorem Zdx(a:1<=m):(poss p m).length=3:=by
 have h:¬m<1:=by omega
 simp[poss,h]
theorem ZgL(a:m<1):poss p m=[]:=by simp[poss,a]
theorem ZfJ(p:Bs)(m:Int):(poss p m).length<=3:=by unfold poss;split <;> simp
theorem ZnE{z:Int}(h:z∈poss p m):0<=z/\z<m:=by
 unfold poss at h
 split at h
 ·cases h
 ·rename_i q
  simp only[List.mem_cons,List.not_mem_nil,or_false]at h
  rcases h with rfl|rfl|rfl <;> exact Zkv p (by omega) _
def bitsOf(f:Nat->Bool):Nat:=(f 0).toNat+2*(f 1).toNat+4*(f 2).toNat+8*(f 3).toNat+16*(f 4).toNat+32*(f 5).toNat+64*(f 6).toNat+128*(f 7).toNat
theorem ZgS(f:Nat->Bool):bitsOf f<256:=by
 unfold bitsOf
 have h:∀b:Bool,b.toNat<=1:=by decide
 have:=h (f 0);have:=h (f 1);have:=h (f 2);have:=h (f 3);have:=h (f 4);have:=h (f 5);have:=h (f 6);have:=h (f 7);omega
theorem ZnR:∀(a b1 b2 b b4 c d e:Bool) (k:Fin 8),bits BinOp.or IntKind.u8 ((a.toNat+2*b1.toNat+4*b2.toNat+8*b.toNat+16*b4.toNat+32*c.toNat+64*d.toNat+128*e.toNat:Nat):Int) ((2 ^ k.val:Nat):Int) =
  (((a||k.val==0).toNat+2*(b1||k.val==1).toNat+4*(b2||k.val==2).toNat+8*(b||k.val==3).toNat+16*(b4||k.val==4).toNat+32*(c||k.val==5).toNat+64*(d||k.val==6).toNat+128*(e||k.val==7).toNat:Nat):Int):=by decide +kernel
theorem Zlg(f:Nat->Bool){k:Nat}(a:k<8):bits BinOp.or IntKind.u8 (bitsOf f:Int) ((2 ^ k:Nat):Int)=(bitsOf (λ i=>f i||k==i):Int) :=
 ZnR (f 0) (f 1) (f 2) (f 3) (f 4) (f 5) (f 6) (f 7) ⟨k,a⟩
def fbyte(ones:List Int)(j:Nat):UInt8:=UInt8.ofNat (bitsOf λ k=>ones.contains ((8*j+k:Nat):Int))
def fbytes(ones:List Int)(n:Nat):Bs:=(List.range n).map (fbyte ones)
theorem ZbD(a:List Int)(j:Nat):(fbyte a j).toNat=bitsOf λ k=>a.contains ((8*j+k:Nat):Int):=by
 rw[fbyte,UInt8.toNat_ofNat'];exact Nat.mod_eq_of_lt (ZgS _)
theorem ZaB(a:List Int)(n:Nat):(fbytes a n).length=n:=by simp[fbytes]
theorem Zbt(a:List Int){j:Nat}(h:j<n):(fbytes a n)[j]? = some (fbyte a j):=by simp[fbytes,h]
theorem ZjZ(j:Nat):fbyte [] j=0:=by
 apply UInt8.toNat_inj.1;rw[ZbD]
 rfl
theorem Zin(n:Nat):fbytes [] n=List.replicate n 0:=by
 apply Cu;intro j;by_cases h:j<n
 ·rw[Zbt _ h,ZjZ,List.getElem?_replicate,AE h]
 ·rw[AL (by rw[ZaB];omega),AL (by simp;omega)]
theorem Zoc(a:List Int)(z:Nat):bits BinOp.or IntKind.u8 ((fbyte a (z / 8)).toNat:Int) ((2 ^ (z % 8):Nat):Int)=((fbyte (a++[(z:Int)]) (z / 8)).toNat:Int):=by
 rw[ZbD,ZbD,Zlg _ (Nat.mod_lt _ (by decide))]
 congr 2
 funext k
 by_cases h:z % 8=k
 ·have e:(8*(z / 8)+k:Nat)=z:=by omega
  rw[e];simp[h]
 ·have e:((8*(z / 8)+k:Nat):Int)≠(z:Int):=by omega
  have b:(z % 8==k)=false:=by simpa using h
  rw[b,Bool.or_false,Bool.eq_iff_iff,DP,DP,AK,A2];exact⟨.inl,λ q=>q.resolve_right e⟩
theorem ZhU(a:List Int)(z j:Nat)(h:j≠z / 8):fbyte (a++[(z:Int)]) j=fbyte a j:=by
 apply UInt8.toNat_inj.1;rw[ZbD,ZbD]
 have key:∀k,k<8->(a++[(z:Int)]).contains ((8*j+k:Nat):Int)=a.contains ((8*j+k:Nat):Int):=by
  intro k b
  have e:((8*j+k:Nat):Int)≠(z:Int):=by omega
  rw[Bool.eq_iff_iff,DP,DP,AK,A2];exact⟨λ q=>q.resolve_right e,.inl⟩
 simp only[bitsOf];rw[key 0 (by decide),key 1 (by decide),key 2 (by decide),key 3 (by decide),key 4 (by decide),key 5 (by decide),key 6 (by decide),key 7 (by decide)]
theorem Zj3(a:List Int)(n z:Nat)(h:z / 8<n):(fbytes a n).set (z / 8) (fbyte (a++[(z:Int)]) (z / 8))=fbytes (a++[(z:Int)]) n:=by
 apply Cu;intro j;by_cases b:j<n
 ·rw[Zbt _ b,List.getElem?_set,ZaB];by_cases e:z / 8=j
  ·rw[AE e,AE h,e]
  ·rw[Aw e,Zbt _ b,ZhU _ _ _ (λ q=>e q.symm)]
 ·rw[AL (by simp[ZaB];omega),AL (by rw[ZaB];omega)]
def fbits(f:Bs):Int:=if f.length=0∨f[0]? ≠ some 1 then 0 else 8*((f.length:Int) - 1)
theorem Zkl(a:List Int)(n:Nat):fbits (1::fbytes a n)=8*(n:Int):=by
 simp[fbits,ZaB]
theorem ZcZ{l:List α}{i:Nat}{x:α}(h:l[i]? = some x):l.take (i+1)=l.take i++[x]:=by
 rw[List.take_add_one,h]
 rfl
end Go.Proofs.YtlojblelpaegpaaGreat
