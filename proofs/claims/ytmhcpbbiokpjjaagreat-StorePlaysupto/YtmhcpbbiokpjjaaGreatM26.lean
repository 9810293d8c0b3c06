/-
  Several texts, laid together.
-/
import Derived.Test.YtmhcpbbiokpjjaaGreatM25
import Derived.Deep.MidRow
set_option maxHeartbeats 6400000
set_option maxRecDepth 100000
namespace Go.Proofs.YtmhcpbbiokpjjaaGreat
open Go.RowKit
theorem Zjn {w:World} {base:Nat} {e:TypeId} {size g n m cap:Nat} {xs news:List Value} (hx:xs.length=n*size) (h:w.ownsRow base e size (.slice (some ⟨g,0,none⟩) (n+m) cap) (n+m) (xs++news)):w.ownsRow base e size (.slice (some ⟨g,0,none⟩) n cap) n xs:=by
 refine ⟨hx,?_⟩
 rcases h.2 with ⟨e,_⟩ | ⟨g',cap',cur,e,hb,hg,hnc,hcm,hcs,htake⟩
 ·cases e
 ·cases e;refine .inr ⟨g,cap,cur,rfl,hb,hg,by omega,hcm,hcs,?_⟩
  have:(cur.toList.take ((n+m)*size)).take (n*size)=(xs++news).take (n*size):=by rw [htake]
  rw [List.take_take,Nat.min_eq_left (Nat.mul_le_mul_right _ (by omega)),List.take_left' hx] at this;exact this
section
variable {P:Program} (w:World)
theorem ZdV (base:Nat) (t ty e:TypeId) (i:TypeInfo) (z:Value) (size bytes:Nat) (ht:P.underlying t=some (.slice e)) (hi:P.info? e=some i) (hz:i.zero=some z)
  (hsize:i.size=size) (hby:i.bytes=bytes) (hzs:z.cells.size=size) (hsz:0<size)
  (v:Value) (n:Nat) (xs:List Value) (hown:w.ownsRow base e size v n xs)
  (a:Addr) (m c:Nat) (news:List Value) (hl:news.length=m*size) (hnews:∀ j u,news[j]? = some u->w.cell? (a.add j)=some u) (h1:∀ u∈news,u.oneCell'=true)
  (h63:n+m<=maxLen) (hbytes:(n+m)*bytes<=140737488355328) (hbase:base<=w.heap.size) :
  ∃ v' w',(Builtin.append_ #[t,t] ty #[v,.slice (some a) m c]).run P w=.ok v' w'/\w'.ownsRow base e size v' (n+m) (xs++news)/\w.grownBy w' v.ownBlock/\ZaS w v v'/\w'.ownsRow base e size v n xs:=by
 have fresh:∀ {v':Value} {w':World},w'.ownsRow w.heap.size e size v' (n+m) (xs++news)->ZaS w v v':=λ h=>.inr (λ g hg=>(h.lt g hg).1)
 rcases hown.2 with ⟨rfl,rfl⟩ | ⟨g,cap,cur,rfl,hb,hg,hnc,hcm,hcs,htake⟩
 ·have hx:xs=[]:=List.eq_nil_of_length_eq_zero (by simpa using hown.1);subst hx;obtain ⟨v',w',r1,r2,r3,_⟩:=run_append_own (P:=P) w w.heap.size t ty e i z size bytes ht hi hz hsize hby hzs hsz (.slice none 0 0) 0 [] (World.ownsRow_nil w _ e size) a m c news hl hnews h1 h63 hbytes (Nat.le_refl _);exact ⟨v',w',r1,ZbA r2 hbase,r3,fresh r2,World.ownsRow_nil w' _ e size⟩
 ·by_cases hroom:n+m<=cap
  ·obtain ⟨w',r1,r2,r3⟩:=run_append_fits (P:=P) w base t ty e i size ht hi hsize g n cap xs hown a m c news hl hnews h1 hroom;exact ⟨_,w',r1,r2,r3,.inl rfl,Zjn hown.1 r2⟩
  ·obtain ⟨v',w',r1,r2,r3⟩:=run_append_arg_grows (P:=P) w t ty e i z size bytes ht hi hz hsize hby hzs hsz ⟨g,0,none⟩ n cap xs hown.1 (hown.cells rfl) a m c news hl hnews (by omega) h63 hbytes;refine ⟨v',w',r1,ZbA r2 hbase,⟨r3.os,r3.tape,r3.output,r3.size,λ k hk _=>r3.block k hk (by simp)⟩,fresh r2,hown.1,.inr ⟨g,cap,cur,rfl,hb,?_,hnc,hcm,hcs,htake⟩⟩;rw [r3.block g (Array.getElem?_eq_some_iff.1 hg).1 (by simp)];exact hg
end
theorem Zcu {P:Program} {w:World} {ops:Array Oper} {rest:List Oper} {o:Oper} {a:Act} {Q:Exit->Act->World->Prop} (hgd:o.guard=none) (s x:Operand) (t:TypeId)
  (hop:o.op=.call { callee:=.builtin .append,args:=#[s,x],argTypes:=#[t,t] })
  (base:Nat) (e:TypeId) (i:TypeInfo) (z:Value) (size bytes:Nat) (h1:P.underlying t=some (.slice e)) (h2:P.info? e=some i) (h3:i.zero=some z) (h4:i.size=size) (h5:i.bytes=bytes) (h6:z.cells.size=size) (h7:0<size)
  (v:Value) (n:Nat) (xs:List Value) (hs:a.eval s=v) (hown:w.ownsRow base e size v n xs)
  (ad:Addr) (m c:Nat) (news:List Value) (hx:a.eval x=.slice (some ad) m c) (hn:news.length=m*size) (hc:∀ j u,news[j]? = some u->w.cell? (ad.add j)=some u) (h1c:∀ u∈news,u.oneCell'=true)
  (b1:n+m<=maxLen) (b2:(n+m)*bytes<=140737488355328) (b3:base<=w.heap.size)
  (h:∀ v' w',w'.ownsRow base e size v' (n+m) (xs++news)->w.grownBy w' v.ownBlock->ZaS w v v'->w'.ownsRow base e size v n xs->wpList P ops Q rest (a.put o.dst v') w'):wpList P ops Q (o::rest) a w:=by
 refine wpList_plain hgd λ K hK=>?_
 obtain ⟨v',w',hrun,r1,r2,r3,r4⟩:=ZdV (P:=P) w base t o.type e i z size bytes h1 h2 h3 h4 h5 h6 h7 v n xs hown ad m c news hn hc h1c b1 b2 b3;unfold Oper.wp;simp [execOp,hop,resolve,invoke,builtin,hs,hx,hrun,Result.andThen];exact hK _ _ (h v' w' r1 r2 r3 r4)
theorem Ze7 {α:Type} {ops:Array Oper} {rest:List Oper} {o:Oper} {a:Act} {w:World} {Q:Exit->Act->World->Prop} (E:Enc α) (e t:TypeId) (bytes:Nat) (z:Value) (hz:z.cells.size=E.size)
  (hinfo:(Tryz.prog.info? e).map (λ i=>(i.zero,i.size,i.bytes))=some (some z,E.size,bytes)) (hu:Tryz.prog.underlying t=some (.slice e)) (hgd:o.guard=none) (s x:Operand)
  (hop:o.op=.call { callee:=.builtin .append,args:=#[s,x],argTypes:=#[t,t] }) (base:Nat) (v:Value) (ss:List α) (y:α) (ty:TypeId) (hs:a.eval s=v) (hown:OwnG E e w base v ss)
  (hx:a.eval x=.slice (some ⟨w.heap.size,0,none⟩) 1 1) (hlen:(ss.length+1)*bytes<=140737488355328) (hmax:ss.length+1<=maxLen) (hb:base<=w.heap.size) (c:Array Value) (hc:c=(E.cells y).toArray)
  (h:∀ v' w',OwnG E e w' base v' (ss++[y])->OwnG E e w' base v ss->ZaS w v v'->Zaa (λ k=>v.ownBlock=some k) w w'->wpList Tryz.prog ops Q rest (a.put o.dst v') w') :
  wpList Tryz.prog ops Q (o::rest) a (w.alloc (.cells c ty)):=by
 subst hc;obtain ⟨i0,hi0,hz0,hz1,hz2⟩:=info_parts hinfo
 refine Zcu hgd s x t hop base e i0 _ E.size bytes hu hi0 hz0 hz1 hz2 hz E.pos v ss.length (E.all ss) hs (hown.below ((Below.refl _ w).alloc (Nat.le_refl _) _)) ⟨w.heap.size,0,none⟩ 1 1 (E.cells y) hx (by rw [E.len,Nat.one_mul]) (ZaC E w y ty)
  (E.one y) hmax hlen (by simp; omega) ?_
 intro v' w' h1 h2 h3 h4;have ha:Zaa (λ k=>v.ownBlock=some k) w (w.alloc (.cells (E.cells y).toArray ty)):=(Zaa.refl _ _).alloc _;have ht:Zaa (λ k=>v.ownBlock=some k) (w.alloc (.cells (E.cells y).toArray ty)) w':=(Zaa.refl _ _).grown h2 (λ k _ e=>e);refine h v' w' ?_ h4 ?_ (ha.trans ht (λ _ _ q=>q))
 ·unfold OwnG;rw [List.length_append,E.all_append];simpa [Enc.all] using h1
 ·refine h3.imp id (λ q g hg=>?_);have:=q g hg;simp at this;omega
def Rows (U:Nat->Prop) (xb xt xc:Value):Nat->Prop:=λ i=>U i∨xb.ownBlock=some i∨xt.ownBlock=some i∨xc.ownBlock=some i
def Zb (F:Nat->Prop) (Z:Nat->Prop):Nat->Prop:=λ i=>Z i∨F i
def Fb (H:Nat):Nat->Prop:=λ i=>H<=i/\i<H+3
structure WI (B:Nat) (E:Nat->Prop) (w:World) (s b:Nat) (vf vo vr vt xb xt xc:Value) (U:Nat->Prop) (st:St) (d:Dk) (bl tl cl:List UInt64):Prop where
 duo:Duo w s b st d U
 low:∀ i,U i->B<=i
 ref:RMS (Zb E (Rows U xb xt xc)) w (rm d vf vo vr vt) st d
 fe:∀ i,Rows U xb xt xc i->¬ E i
 elt:∀ i,E i->i<w.heap.size
 ob:OwnG encU 53 w B xb bl
 ot:OwnG encU 53 w B xt tl
 oc:OwnG encU 53 w B xc cl
 fb:∀ g,xb.ownBlock=some g->¬ U g
 ft:∀ g,xt.ownBlock=some g->¬ U g
 fc:∀ g,xc.ownBlock=some g->¬ U g
 bt:∀ g,xb.ownBlock=some g->xt.ownBlock≠some g
 bc:∀ g,xb.ownBlock=some g->xc.ownBlock≠some g
 tc:∀ g,xt.ownBlock=some g->xc.ownBlock≠some g
section
variable {B:Nat} {E:Nat->Prop} {w w':World} {s b:Nat} {vf vo vr vt xb xt xc:Value} {U:Nat->Prop} {st:St} {d:Dk} {bl tl cl:List UInt64}
theorem WI.lt (h:WI B E w s b vf vo vr vt xb xt xc U st d bl tl cl):∀ i,Rows U xb xt xc i->B<=i/\i<w.heap.size:=by
 rintro i (q | q | q | q)
 ·exact ⟨h.low i q,h.duo.lt i q⟩
 ·exact h.ob.lt i q
 ·exact h.ot.lt i q
 ·exact h.oc.lt i q
theorem WI.below (h:WI B E w s b vf vo vr vt xb xt xc U st d bl tl cl) (hb:Below w.heap.size w w'):WI B E w' s b vf vo vr vt xb xt xc U st d bl tl cl :=
 ⟨h.duo.below hb,h.low,h.ref.below hb,h.fe,λ i q=>Nat.lt_of_lt_of_le (h.elt i q) hb.size,h.ob.below hb,h.ot.below hb,h.oc.below hb,h.fb,h.ft,h.fc,h.bt,h.bc,h.tc⟩
def Aft (W u:World) (s b:Nat) (st:St) (d:Dk) (U U':Nat->Prop):Prop:=Duo u s b st d U'/\(∀ i,U' i->U i∨W.heap.size<=i)/\(∀ i,U i->U' i)/\Zaa U W u
theorem Aft.of {W X u:World} {st':St} {d':Dk} (hb:Below W.heap.size W X) (hd:Duo u s b st' d' (Zaj U X u)) (ht:Zaa U X u):Aft W u s b st' d' U (Zaj U X u) :=
 ⟨hd,λ i q=>q.imp id (λ q=>by have:=hb.size; have:=q.1; omega),λ i q=>.inl q,(Zaa.ofBelow hb).trans ht (λ _ _ q=>q)⟩
abbrev zeroW:Array Value:=#[.pointer none,.pointer none,nilV,.int .i64 0,.bool false,.bool false,.int .i64 0,.int .i64 0,nilV,nilV,nilV,nilV,nilV,nilV]
structure Bx (H:Nat) (u:World) (cs ac:Array Value):Prop where
 box:BoxA u H 35 cs
 act:BoxA u (H+1) 43 ac
 res:BoxA u (H+2) 35 zeroW
theorem Bx.lt {H:Nat} {u:World} {cs ac:Array Value} (h:Bx H u cs ac):H+3<=u.heap.size:=by have:=h.res.lt; omega
theorem Bx.turned {H:Nat} {u u':World} {cs ac:Array Value} {S:Nat->Prop} (h:Bx H u cs ac) (ht:Zaa S u u') (hS:∀ i,S i->¬ (H<=i/\i<H+3)):Bx H u' cs ac :=
 ⟨h.box.turned ht (λ q=>hS _ q (by omega)),h.act.turned ht (λ q=>hS _ q (by omega)),h.res.turned ht (λ q=>hS _ q (by omega))⟩
theorem Bx.below {H:Nat} {u u':World} {cs ac:Array Value} (h:Bx H u cs ac) (hb:Below u.heap.size u u'):Bx H u' cs ac :=
 ⟨h.box.below hb h.box.lt,h.act.below hb h.act.lt,h.res.below hb h.res.lt⟩
theorem Bx.new (w:World) (cs ac:Array Value):Bx w.heap.size (((w.alloc (.cells cs 35)).alloc (.cells ac 43)).alloc (.cells zeroW 35)) cs ac:=by
 have h:=ZbE w cs ac zeroW 35 43 35;exact ⟨h.1,h.2.1,h.2.2.1⟩
structure Md (B H:Nat) (E F:Nat->Prop) (w0 wS u:World) (s b:Nat) (vf vo vr vt xb xt xc:Value) (U:Nat->Prop) (st:St) (d:Dk) (bl tl cl:List UInt64) (cs ac:Array Value):Prop where
 inv:WI B E u s b vf vo vr vt xb xt xc U st d bl tl cl
 refz:RMS (Zb F (Rows U xb xt xc)) u (rm d vf vo vr vt) st d
 bx:Bx H u cs ac
 far:∀ i,Rows U xb xt xc i->¬ F i
 box:∀ i,Fb H i->F i
 flt:∀ i,F i->i<u.heap.size
 bel:Below B w0 u
 hH:B<=H
 esub:∀ i,E i->F i/\i<H
 keep:∀ i,E i->u.heap[i]? = wS.heap[i]?
theorem Md.start {w0:World} (h:WI B E w s b vf vo vr vt xb xt xc U st d bl tl cl) (h0:Below B w0 w) (hB:B<=w.heap.size) {W:World} {cs ac:Array Value} (hx:Bx w.heap.size W cs ac) (hb:Below w.heap.size w W):Md B w.heap.size E (λ i=>Fb w.heap.size i∨E i) w0 w W s b vf vo vr vt xb xt xc U st d bl tl cl cs ac :=
 ⟨h.below hb,(h.ref.into (λ i hi q=>by
  rcases q with q | q | q
  ·exact .inl q
  ·have:=q.1; omega
  ·exact .inr q)).below hb,hx,λ i q r=>r.elim (λ r=>by have:=(h.lt i q).2; have:=r.1; omega) (h.fe i q),λ i q=>.inl q,λ i q=>q.elim (λ q=>by have:=hx.lt; have:=q.2; omega) (λ q=>Nat.lt_of_lt_of_le (h.elt i q) hb.size),h0.trans (hb.mono hB),hB,λ i q=>⟨.inr q,h.elt i q⟩,λ i q=>hb.block i (h.elt i q)⟩
theorem Md.below {w0 wS u u':World} {H:Nat} {F:Nat->Prop} {cs ac:Array Value} (h:Md B H E F w0 wS u s b vf vo vr vt xb xt xc U st d bl tl cl cs ac) (hb:Below u.heap.size u u'):Md B H E F w0 wS u' s b vf vo vr vt xb xt xc U st d bl tl cl cs ac :=
 ⟨h.inv.below hb,h.refz.below hb,h.bx.below hb,h.far,h.box,λ i q=>Nat.lt_of_lt_of_le (h.flt i q) hb.size,h.bel.trans (hb.mono (Nat.le_trans h.hH (by have:=h.bx.lt; omega))),h.hH,h.esub,λ i q=>(hb.block i (h.flt i (h.esub i q).1)).trans (h.keep i q)⟩
theorem Md.more {w0 wS u u':World} {H:Nat} {F G:Nat->Prop} {cs ac:Array Value} (h:Md B H E F w0 wS u s b vf vo vr vt xb xt xc U st d bl tl cl cs ac) (hb:Below u.heap.size u u') (hG:∀ i,G i->u.heap.size<=i/\i<u'.heap.size):Md B H E (λ i=>F i∨G i) w0 wS u' s b vf vo vr vt xb xt xc U st d bl tl cl cs ac:=by
 have h':=h.below hb;refine ⟨h'.inv,(h.refz.into (λ i hi q=>?_)).below hb,h'.bx,λ i q r=>?_,λ i q=>.inl (h.box i q),λ i q=>q.elim (h'.flt i) (λ q=>(hG i q).2),h'.bel,h.hH,λ i q=>⟨.inl (h.esub i q).1,(h.esub i q).2⟩,h'.keep⟩
 ·rcases q with q | q | q
  ·exact .inl q
  ·exact .inr q
  ·have:=(hG i q).1;omega
 ·rcases r with r | r
  ·exact h.far i q r
  ·have:=(hG i r).1;have:=(h.inv.lt i q).2;omega
theorem Md.move {w0 wS W u1:World} {H:Nat} {F:Nat->Prop} {cs ac:Array Value} {U':Nat->Prop} {st':St} {d':Dk} {m:Value} {st2:St} {d2:Dk} (_h:Md B H E F w0 wS W s b vf vo vr vt xb xt xc U st d bl tl cl cs ac) (ha:Aft W u1 s b st' d' U U') (hr:RMS (Zb F (Rows U xb xt xc)) W m st2 d2):RMS (Zb F (Rows U' xb xt xc)) u1 m st2 d2:=by
 obtain ⟨a1,a2,a3,a4⟩:=ha;refine (hr.into (λ i hi q=>?_)).turned a4 (λ i q=>.inl (.inl (a3 i q)))
 rcases q with (q | q) | q
 ·rcases a2 i q with r | r
  ·exact .inl (.inl r)
  ·omega
 ·exact .inl (.inr q)
 ·exact .inr q
theorem Md.call {w0 wS W u1 u2:World} {H:Nat} {F:Nat->Prop} {cs ac:Array Value} {U':Nat->Prop} {st':St} {d':Dk} (h:Md B H E F w0 wS W s b vf vo vr vt xb xt xc U st d bl tl cl cs ac) (ha:Aft W u1 s b st' d' U U') :
  RMS (Zb F (Rows U' xb xt xc)) u1 (rm d vf vo vr vt) st d/\(∀ i,Zb F (Rows U' xb xt xc) i->i<u1.heap.size)/\Bx H u1 cs ac/\Below B w0 u1 /\
  ∀ vf' vo' vr' vt',Below u1.heap.size u1 u2->RMS (Zb F (Rows U' xb xt xc)) u2 (rm d' vf' vo' vr' vt') st' d'->Md B H E F w0 wS u2 s b vf' vo' vr' vt' xb xt xc U' st' d' bl tl cl cs ac:=by
 have mv:=h.move ha h.refz;obtain ⟨a1,a2,a3,a4⟩:=ha;have sW:=a4.size;have l3:=h.bx.lt;have bx1:=h.bx.turned a4 (λ i q r=>h.far i (.inl q) (h.box i r));have b1:Below B w0 u1:=h.bel.trans (a4.below (Nat.le_trans h.hH (by omega)) (λ i hi q=>by have:=h.inv.low i q; omega));refine ⟨mv,λ i q=>?_,bx1,b1,λ vf' vo' vr' vt' hb hr=>?_⟩
 ·rcases q with (q | q) | q
  ·exact a1.lt i q
  ·exact Nat.lt_of_lt_of_le (h.inv.lt i (.inr q)).2 sW
  ·exact Nat.lt_of_lt_of_le (h.flt i q) sW
 ·have nb:∀ {x:Value},(∀ g,x.ownBlock=some g->¬ U g)->(∀ g,x.ownBlock=some g->g<W.heap.size)->∀ g,x.ownBlock=some g->¬ U' g:=by
   intro x q1 q2 g hg r
   rcases a2 g r with r | r
   ·exact q1 g hg r
   ·have:=q2 g hg;omega
  have tB:=λ g hg=>(h.inv.ob.lt g hg).2
  have tT:=λ g hg=>(h.inv.ot.lt g hg).2
  have tC:=λ g hg=>(h.inv.oc.lt g hg).2
  have far':∀ i,Rows U' xb xt xc i->¬ F i:=by
   rintro i (q | q) r
   ·rcases a2 i q with q | q
    ·exact h.far i (.inl q) r
    ·have:=h.flt i r;omega
   ·exact h.far i (.inr q) r
  refine ⟨⟨a1.below hb,λ i q=>?_,hr.mono (λ i q=>q.imp id (λ q=>(h.esub i q).1)),λ i q r=>far' i q (h.esub i r).1,λ i q=>Nat.lt_of_lt_of_le (h.inv.elt i q) (Nat.le_trans sW hb.size),(h.inv.ob.stays a4 h.inv.fb).below hb,(h.inv.ot.stays a4 h.inv.ft).below hb,(h.inv.oc.stays a4 h.inv.fc).below hb,nb h.inv.fb tB,nb h.inv.ft tT,nb h.inv.fc tC,h.inv.bt,h.inv.bc,h.inv.tc⟩,hr,bx1.below hb,far',h.box,λ i q=>Nat.lt_of_lt_of_le (h.flt i q) (Nat.le_trans sW hb.size),b1.trans (hb.mono (Nat.le_trans h.hH (by omega))),h.hH,h.esub,λ i q=>((hb.block i (Nat.lt_of_lt_of_le (h.flt i (h.esub i q).1) sW)).trans (a4.block i (h.flt i (h.esub i q).1) (λ r=>h.far i (.inl r) (h.esub i q).1))).trans (h.keep i q)⟩
  rcases a2 i q with r | r
  ·exact h.inv.low i r
  ·have:=h.hH;omega
theorem Md.turn {w0 wS u u':World} {H:Nat} {F G:Nat->Prop} {cs cs' ac:Array Value} (h:Md B H E F w0 wS u s b vf vo vr vt xb xt xc U st d bl tl cl cs ac) (ht:Zaa G u u') (hG:∀ i,G i->F i/\H<=i) (hx:Bx H u' cs' ac):Md B H E F w0 wS u' s b vf vo vr vt xb xt xc U st d bl tl cl cs' ac:=by
 have l3:=h.bx.lt;have hh:=h.hH
 have ne:∀ i,Rows U xb xt xc i->¬ G i:=λ i q e=>h.far i q (hG i e).1
 have rz:=h.refz.turned ht (λ i q=>.inr (hG i q).1);exact ⟨⟨h.inv.duo.stays ht (λ i q=>ne i (.inl q)),h.inv.low,rz.mono (λ i q=>q.imp id (λ q=>(h.esub i q).1)),h.inv.fe,λ i q=>Nat.lt_of_lt_of_le (h.inv.elt i q) ht.size,h.inv.ob.stays ht (λ g q=>ne g (.inr (.inl q))),h.inv.ot.stays ht (λ g q=>ne g (.inr (.inr (.inl q)))),h.inv.oc.stays ht (λ g q=>ne g (.inr (.inr (.inr q)))),h.inv.fb,h.inv.ft,h.inv.fc,h.inv.bt,h.inv.bc,h.inv.tc⟩,rz,hx,h.far,h.box,λ i q=>Nat.lt_of_lt_of_le (h.flt i q) ht.size,h.bel.trans (ht.below (Nat.le_trans hh (by omega)) (λ i hi q=>by have:=(hG i q).2; omega)),hh,h.esub,λ i q=>(ht.block i (h.flt i (h.esub i q).1) (λ r=>by have:=(hG i r).2; have:=(h.esub i q).2; omega)).trans (h.keep i q)⟩
theorem Md.lay {w0 wS u u':World} {H:Nat} {F:Nat->Prop} {cs cs' ac:Array Value} (h:Md B H E F w0 wS u s b vf vo vr vt xb xt xc U st d bl tl cl cs ac) (ht:Zaa (λ i=>i=H) u u') (hc:BoxA u' H 35 cs'):Md B H E F w0 wS u' s b vf vo vr vt xb xt xc U st d bl tl cl cs' ac :=
 h.turn ht (λ i q=>by have q':i=H:=q; exact ⟨h.box i ⟨by omega,by omega⟩,by omega⟩) ⟨hc,h.bx.act.turned ht (by show ¬ H+1=H; omega),h.bx.res.turned ht (by show ¬ H+2=H; omega)⟩
theorem Md.other {w0 wS u u':World} {H:Nat} {F G:Nat->Prop} {cs ac:Array Value} (h:Md B H E F w0 wS u s b vf vo vr vt xb xt xc U st d bl tl cl cs ac) (ht:Zaa G u u') (hG:∀ i,G i->F i/\H+3<=i):Md B H E F w0 wS u' s b vf vo vr vt xb xt xc U st d bl tl cl cs ac :=
 h.turn ht (λ i q=>⟨(hG i q).1,by have:=(hG i q).2; omega⟩) (h.bx.turned ht (λ i q r=>by have:=(hG i q).2; omega))
end
def setL (cs:Array Value):List Value->Nat->Array Value
 | [],_=>cs
 | v::t,j=>setL (cs.setIfInBounds j v) t (j+1)
theorem BoxA.lays {w:World} {Q:Nat} {t:TypeId} {cs:Array Value} (h:BoxA w Q t cs) (vs:List Value) (j:Nat):BoxA (layL w Q vs j) Q t (setL cs vs j):=by
 induction vs generalizing w cs j with
 | nil=>exact h
 | cons v t ih=>exact ih (h.put j v) (j+1)
theorem set9 (a0 a1 a2 a3 a4 a5 a6 a7 a8 a9 a10 a11 a12 a13 n2 n3 n4 n5 n6 n7 n8 n9 n10:Value):setL #[a0,a1,a2,a3,a4,a5,a6,a7,a8,a9,a10,a11,a12,a13] [n2,n3,n4,n5,n6,n7,n8,n9,n10] 2=#[a0,a1,n2,n3,n4,n5,n6,n7,n8,n9,n10,a11,a12,a13]:=by simp [setL]
theorem set11 (a0 a1 a2 a3 a4 a5 a6 a7 a8 a9 a10 a11 a12 a13 n11:Value):setL #[a0,a1,a2,a3,a4,a5,a6,a7,a8,a9,a10,a11,a12,a13] [n11] 11=#[a0,a1,a2,a3,a4,a5,a6,a7,a8,a9,a10,n11,a12,a13]:=by simp [setL]
theorem set12 (a0 a1 a2 a3 a4 a5 a6 a7 a8 a9 a10 a11 a12 a13 n12:Value):setL #[a0,a1,a2,a3,a4,a5,a6,a7,a8,a9,a10,a11,a12,a13] [n12] 12=#[a0,a1,a2,a3,a4,a5,a6,a7,a8,a9,a10,a11,n12,a13]:=by simp [setL]
theorem set13 (a0 a1 a2 a3 a4 a5 a6 a7 a8 a9 a10 a11 a12 a13 n13:Value):setL #[a0,a1,a2,a3,a4,a5,a6,a7,a8,a9,a10,a11,a12,a13] [n13] 13=#[a0,a1,a2,a3,a4,a5,a6,a7,a8,a9,a10,a11,a12,n13]:=by simp [setL]
section
variable {B H:Nat} {E F:Nat->Prop} {w0 wS u u':World} {s b:Nat} {vf vo vr vt xb xt xc v':Value} {U:Nat->Prop} {st:St} {d:Dk} {bl tl cl:List UInt64} {cs ac:Array Value} {i:UInt64}
theorem Za9 (hm:ZaS u xb v') (Z:Nat->Prop) (hz:∀ g,xb.ownBlock=some g->Z g):∀ g,g<u.heap.size->v'.ownBlock=some g->Z g:=by
 intro g hg q
 rcases hm with e | e
 ·exact hz g (e.symm.trans q)
 ·have:=e g q;omega
theorem Md.rowB (h:Md B H E F w0 wS u s b vf vo vr vt xb xt xc U st d bl tl cl cs ac) (ho:OwnG encU 53 u' B v' (bl++[i])) (hm:ZaS u xb v') (ht:Zaa (λ k=>xb.ownBlock=some k) u u'):Md B H E F w0 wS u' s b vf vo vr vt v' xt xc U st d (bl++[i]) tl cl cs ac:=by
 have l3:=h.bx.lt;have hh:=h.hH
 have far:∀ j,Rows U v' xt xc j->¬ F j:=by
  rintro j (q | q | q) r
  ·exact h.far j (.inl q) r
  ·exact h.far j (.inr (.inl (Za9 hm (λ g=>xb.ownBlock=some g) (λ g q=>q) j (h.flt j r) q))) r
  ·exact h.far j (.inr (.inr q)) r
 have apart:∀ {P:Nat->Prop},(∀ g,P g->g<u.heap.size)->(∀ g,xb.ownBlock=some g->¬ P g)->∀ g,v'.ownBlock=some g->¬ P g:=by
  intro P q1 q2 g hg p;exact q2 g (Za9 hm (λ g=>xb.ownBlock=some g) (λ g q=>q) g (q1 g p) hg) p
 have rz:RMS (Zb F (Rows U v' xt xc)) u' (rm d vf vo vr vt) st d:=by
  have r1:=h.refz.into (Z':=λ j=>Zb F (Rows U xb xt xc) j∨Zb F (Rows U v' xt xc) j) (λ j hj q=>by
   rcases q with q | (q | q | q) | q
   ·exact q
   ·exact .inl (.inl q)
   ·exact .inl (.inr (.inl (Za9 hm (λ g=>xb.ownBlock=some g) (λ g q=>q) j hj q)))
   ·exact .inl (.inr (.inr q))
   ·exact .inr q)
  exact (r1.turned ht (λ j q=>.inl (.inl (.inr (.inl q))))).mono (λ j q=>.inr q)
 refine ⟨⟨h.inv.duo.stays ht (λ j q r=>h.inv.fb j r q),h.inv.low,rz.mono (λ j q=>q.imp id (λ q=>(h.esub j q).1)),λ j q r=>far j q (h.esub j r).1,λ j q=>Nat.lt_of_lt_of_le (h.inv.elt j q) ht.size,ho,h.inv.ot.stays ht (λ g q r=>h.inv.bt g r q),h.inv.oc.stays ht (λ g q r=>h.inv.bc g r q),apart (λ g q=>h.inv.duo.lt g q) h.inv.fb,h.inv.ft,h.inv.fc,apart (λ g q=>(h.inv.ot.lt g q).2) h.inv.bt,apart (λ g q=>(h.inv.oc.lt g q).2) h.inv.bc,h.inv.tc⟩,rz,h.bx.turned ht (λ j q r=>h.far j (.inr (.inl q)) (h.box j r)),far,h.box,λ j q=>Nat.lt_of_lt_of_le (h.flt j q) ht.size,h.bel.trans (ht.below (Nat.le_trans hh (by omega)) (λ j hj q=>by have:=(h.inv.ob.lt j q).1; omega)),hh,h.esub,λ j q=>(ht.block j (h.flt j (h.esub j q).1) (λ r=>h.far j (.inr (.inl r)) (h.esub j q).1)).trans (h.keep j q)⟩
theorem Md.rowT (h:Md B H E F w0 wS u s b vf vo vr vt xb xt xc U st d bl tl cl cs ac) (ho:OwnG encU 53 u' B v' (tl++[i])) (hm:ZaS u xt v') (ht:Zaa (λ k=>xt.ownBlock=some k) u u'):Md B H E F w0 wS u' s b vf vo vr vt xb v' xc U st d bl (tl++[i]) cl cs ac:=by
 have l3:=h.bx.lt;have hh:=h.hH
 have far:∀ j,Rows U xb v' xc j->¬ F j:=by
  rintro j (q | q | q | q) r
  ·exact h.far j (.inl q) r
  ·exact h.far j (.inr (.inl q)) r
  ·exact h.far j (.inr (.inr (.inl (Za9 hm (λ g=>xt.ownBlock=some g) (λ g q=>q) j (h.flt j r) q)))) r
  ·exact h.far j (.inr (.inr (.inr q))) r
 have apart:∀ {P:Nat->Prop},(∀ g,P g->g<u.heap.size)->(∀ g,xt.ownBlock=some g->¬ P g)->∀ g,v'.ownBlock=some g->¬ P g:=by
  intro P q1 q2 g hg p;exact q2 g (Za9 hm (λ g=>xt.ownBlock=some g) (λ g q=>q) g (q1 g p) hg) p
 have rz:RMS (Zb F (Rows U xb v' xc)) u' (rm d vf vo vr vt) st d:=by
  have r1:=h.refz.into (Z':=λ j=>Zb F (Rows U xb xt xc) j∨Zb F (Rows U xb v' xc) j) (λ j hj q=>by
   rcases q with q | (q | q | q | q) | q
   ·exact q
   ·exact .inl (.inl q)
   ·exact .inl (.inr (.inl q))
   ·exact .inl (.inr (.inr (.inl (Za9 hm (λ g=>xt.ownBlock=some g) (λ g q=>q) j hj q))))
   ·exact .inl (.inr (.inr (.inr q)))
   ·exact .inr q)
  exact (r1.turned ht (λ j q=>.inl (.inl (.inr (.inr (.inl q)))))).mono (λ j q=>.inr q)
 refine ⟨⟨h.inv.duo.stays ht (λ j q r=>h.inv.ft j r q),h.inv.low,rz.mono (λ j q=>q.imp id (λ q=>(h.esub j q).1)),λ j q r=>far j q (h.esub j r).1,λ j q=>Nat.lt_of_lt_of_le (h.inv.elt j q) ht.size,h.inv.ob.stays ht (λ g q r=>h.inv.bt g q r),ho,h.inv.oc.stays ht (λ g q r=>h.inv.tc g r q),h.inv.fb,apart (λ g q=>h.inv.duo.lt g q) h.inv.ft,h.inv.fc,λ g q r=>apart (P:=λ g=>xb.ownBlock=some g) (λ g q=>(h.inv.ob.lt g q).2) (λ g q r=>h.inv.bt g r q) g r q,h.inv.bc,apart (λ g q=>(h.inv.oc.lt g q).2) h.inv.tc⟩,rz,h.bx.turned ht (λ j q r=>h.far j (.inr (.inr (.inl q))) (h.box j r)),far,h.box,λ j q=>Nat.lt_of_lt_of_le (h.flt j q) ht.size,h.bel.trans (ht.below (Nat.le_trans hh (by omega)) (λ j hj q=>by have:=(h.inv.ot.lt j q).1; omega)),hh,h.esub,λ j q=>(ht.block j (h.flt j (h.esub j q).1) (λ r=>h.far j (.inr (.inr (.inl r))) (h.esub j q).1)).trans (h.keep j q)⟩
theorem Md.rowC (h:Md B H E F w0 wS u s b vf vo vr vt xb xt xc U st d bl tl cl cs ac) (ho:OwnG encU 53 u' B v' (cl++[i])) (hm:ZaS u xc v') (ht:Zaa (λ k=>xc.ownBlock=some k) u u'):Md B H E F w0 wS u' s b vf vo vr vt xb xt v' U st d bl tl (cl++[i]) cs ac:=by
 have l3:=h.bx.lt;have hh:=h.hH
 have far:∀ j,Rows U xb xt v' j->¬ F j:=by
  rintro j (q | q | q | q) r
  ·exact h.far j (.inl q) r
  ·exact h.far j (.inr (.inl q)) r
  ·exact h.far j (.inr (.inr (.inl q))) r
  ·exact h.far j (.inr (.inr (.inr (Za9 hm (λ g=>xc.ownBlock=some g) (λ g q=>q) j (h.flt j r) q)))) r
 have apart:∀ {P:Nat->Prop},(∀ g,P g->g<u.heap.size)->(∀ g,xc.ownBlock=some g->¬ P g)->∀ g,v'.ownBlock=some g->¬ P g:=by
  intro P q1 q2 g hg p;exact q2 g (Za9 hm (λ g=>xc.ownBlock=some g) (λ g q=>q) g (q1 g p) hg) p
 have rz:RMS (Zb F (Rows U xb xt v')) u' (rm d vf vo vr vt) st d:=by
  have r1:=h.refz.into (Z':=λ j=>Zb F (Rows U xb xt xc) j∨Zb F (Rows U xb xt v') j) (λ j hj q=>by
   rcases q with q | (q | q | q | q) | q
   ·exact q
   ·exact .inl (.inl q)
   ·exact .inl (.inr (.inl q))
   ·exact .inl (.inr (.inr (.inl q)))
   ·exact .inl (.inr (.inr (.inr (Za9 hm (λ g=>xc.ownBlock=some g) (λ g q=>q) j hj q))))
   ·exact .inr q)
  exact (r1.turned ht (λ j q=>.inl (.inl (.inr (.inr (.inr q)))))).mono (λ j q=>.inr q)
 refine ⟨⟨h.inv.duo.stays ht (λ j q r=>h.inv.fc j r q),h.inv.low,rz.mono (λ j q=>q.imp id (λ q=>(h.esub j q).1)),λ j q r=>far j q (h.esub j r).1,λ j q=>Nat.lt_of_lt_of_le (h.inv.elt j q) ht.size,h.inv.ob.stays ht (λ g q r=>h.inv.bc g q r),h.inv.ot.stays ht (λ g q r=>h.inv.tc g q r),ho,h.inv.fb,h.inv.ft,apart (λ g q=>h.inv.duo.lt g q) h.inv.fc,h.inv.bt,λ g q r=>apart (P:=λ g=>xb.ownBlock=some g) (λ g q=>(h.inv.ob.lt g q).2) (λ g q r=>h.inv.bc g r q) g r q,λ g q r=>apart (P:=λ g=>xt.ownBlock=some g) (λ g q=>(h.inv.ot.lt g q).2) (λ g q r=>h.inv.tc g r q) g r q⟩,rz,h.bx.turned ht (λ j q r=>h.far j (.inr (.inr (.inr q))) (h.box j r)),far,h.box,λ j q=>Nat.lt_of_lt_of_le (h.flt j q) ht.size,h.bel.trans (ht.below (Nat.le_trans hh (by omega)) (λ j hj q=>by have:=(h.inv.oc.lt j q).1; omega)),hh,h.esub,λ j q=>(ht.block j (h.flt j (h.esub j q).1) (λ r=>h.far j (.inr (.inr (.inr r))) (h.esub j q).1)).trans (h.keep j q)⟩
theorem Md.done (h:Md B H E F w0 wS u s b vf vo vr vt xb xt xc U st d bl tl cl cs ac) (ht:Zaa (λ i=>i=H+2) u u'):WI B E u' s b vf vo vr vt xb xt xc U st d bl tl cl/\Below B w0 u'/\∀ i,E i->u'.heap[i]? = wS.heap[i]? := by
 have l3:=h.bx.lt;have hh:=h.hH
 have ne:∀ i,Rows U xb xt xc i->¬ (i=H+2):=λ i q e=>h.far i q (h.box i ⟨by omega,by omega⟩)
 exact ⟨⟨h.inv.duo.stays ht (λ i q=>ne i (.inl q)),h.inv.low,(h.refz.turned ht (λ i q=>.inr (by have q':i=H+2:=q; exact h.box i ⟨by omega,by omega⟩))).mono (λ i q=>q.imp id (λ q=>(h.esub i q).1)),h.inv.fe,λ i q=>Nat.lt_of_lt_of_le (h.inv.elt i q) ht.size,h.inv.ob.stays ht (λ g q=>ne g (.inr (.inl q))),h.inv.ot.stays ht (λ g q=>ne g (.inr (.inr (.inl q)))),h.inv.oc.stays ht (λ g q=>ne g (.inr (.inr (.inr q)))),h.inv.fb,h.inv.ft,h.inv.fc,h.inv.bt,h.inv.bc,h.inv.tc⟩,h.bel.trans (ht.below (Nat.le_trans hh (by omega)) (λ i hi q=>by have q':i=H+2:=q; omega)),λ i q=>(ht.block i (h.flt i (h.esub i q).1) (λ r=>by have r':i=H+2:=r; have:=(h.esub i q).2; omega)).trans (h.keep i q)⟩
end
theorem BoxA.there {w:World} {Q:Nat} {t:TypeId} {cs:Array Value} (h:BoxA w Q t cs) {o n:Nat} (hn:o+n<=cs.size):w.there Q o n:=by
 intro j hj;refine ⟨?_,h.thaw _⟩;rw [h.cell (j:=o+j) (v:=cs[o+j]) (Array.getElem?_eq_getElem (by omega))]
 rfl
theorem ZcZ (Q:Nat):∀ (vs:List Value) (o:Nat) (w:World),w.setCells Q o vs=layL w Q vs o
 | [],_,_=>rfl
 | v::t,o,w=>ZcZ Q t (o+1) (w.setCell ⟨Q,o,none⟩ v)
theorem Zah {ops:Array Oper} {rest:List Oper} {op:Oper} {a:Act} {w:World} {Q:Exit->Act->World->Prop} (hgd:op.guard=none) (ty:TypeId) (x y:Operand) (ho:op.op=.store ty x y)
  (b o:Nat) (cells:Array Value) (hx:a.eval x=.pointer (some ⟨b,o,none⟩)) (hy:a.eval y=.agg cells) (ht:w.there b o cells.size) (hi:(Tryz.prog.info? ty).map (·.size)=some cells.size) (h1:cells.all (·.oneCell')=true)
  (h:∀ w',w'=layL w b cells.toList o->wpList Tryz.prog ops Q rest (a.put op.dst undef) w'):wpList Tryz.prog ops Q (op::rest) a w :=
 wpList_store_mid hgd ty x y ho b o cells hx hy ht hi h1 (by rw [ZcZ]; exact h _ rfl)
theorem Zer {ops:Array Oper} {o:Oper} {a:Act} {w:World} {K:Act->World->Prop} {Q:Exit->Act->World->Prop} {X:Prop} (hg:o.guard=none) (x:Operand) (f:Nat) (ts:Array TypeId)
  (hop:o.op=.call { callee:=.value (.func f),args:=#[x],argTypes:=ts }) (en:∀ args w,(callFunc f args).run Tryz.prog w=.ok (.enter f args) w) (u1:Value) (hx:a.eval x=u1) (R:Value->World->Prop)
  (hc:Calls Tryz.prog f #[u1] w λ e w'=>∃ v,e=.returned v/\R v w') (h:∀ v w',R v w'->K (a.put o.dst v) w') :
  if Region.wanted o (yielded ops a.tmps)=true then Oper.wp Tryz.prog o a w K Q else X:=by
 have hw:Region.wanted o (yielded ops a.tmps)=true:=by simp [Region.wanted,hg]
 rw [if_pos hw];unfold Oper.wp
 have e:(execOp a.eval o).run Tryz.prog w=.ok (.enter f #[u1]) w:=by
  have hf:a.eval (.func f)=.func (.func f) #[] #[]:=rfl;simp [execOp,hop,resolve,invoke,hx,hf,Deferred.ofValue,en]
 rw [e,Oper.upon_enter];refine hc.mono ?_;rintro e w' ⟨v,rfl,hr⟩;exact h v w' hr
theorem Zbc {ops:Array Oper} {o:Oper} {a:Act} {w:World} {K:Act->World->Prop} {Q:Exit->Act->World->Prop} {X:Prop} (hg:o.guard=none) (x y:Operand) (f:Nat) (ts:Array TypeId)
  (hop:o.op=.call { callee:=.value (.func f),args:=#[x,y],argTypes:=ts }) (en:∀ args w,(callFunc f args).run Tryz.prog w=.ok (.enter f args) w) (u1 u2:Value) (hx:a.eval x=u1) (hy:a.eval y=u2) (R:Value->World->Prop)
  (hc:Calls Tryz.prog f #[u1,u2] w λ e w'=>∃ v,e=.returned v/\R v w') (h:∀ v w',R v w'->K (a.put o.dst v) w') :
  if Region.wanted o (yielded ops a.tmps)=true then Oper.wp Tryz.prog o a w K Q else X:=by
 have hw:Region.wanted o (yielded ops a.tmps)=true:=by simp [Region.wanted,hg]
 rw [if_pos hw];unfold Oper.wp
 have e:(execOp a.eval o).run Tryz.prog w=.ok (.enter f #[u1,u2]) w:=by
  have hf:a.eval (.func f)=.func (.func f) #[] #[]:=rfl;simp [execOp,hop,resolve,invoke,hx,hy,hf,Deferred.ofValue,en]
 rw [e,Oper.upon_enter];refine hc.mono ?_;rintro e w' ⟨v,rfl,hr⟩;exact h v w' hr
theorem ZcJ {ops:Array Oper} {o:Oper} {a:Act} {w:World} {K:Act->World->Prop} {Q:Exit->Act->World->Prop} {X:Prop} (hg:o.guard=none) (x y z:Operand) (f:Nat) (ts:Array TypeId)
  (hop:o.op=.call { callee:=.value (.func f),args:=#[x,y,z],argTypes:=ts }) (en:∀ args w,(callFunc f args).run Tryz.prog w=.ok (.enter f args) w) (u1 u2 u3:Value) (hx:a.eval x=u1) (hy:a.eval y=u2) (hz:a.eval z=u3) (R:Value->World->Prop)
  (hc:Calls Tryz.prog f #[u1,u2,u3] w λ e w'=>∃ v,e=.returned v/\R v w') (h:∀ v w',R v w'->K (a.put o.dst v) w') :
  if Region.wanted o (yielded ops a.tmps)=true then Oper.wp Tryz.prog o a w K Q else X:=by
 have hw:Region.wanted o (yielded ops a.tmps)=true:=by simp [Region.wanted,hg]
 rw [if_pos hw];unfold Oper.wp
 have e:(execOp a.eval o).run Tryz.prog w=.ok (.enter f #[u1,u2,u3]) w:=by
  have hf:a.eval (.func f)=.func (.func f) #[] #[]:=rfl;simp [execOp,hop,resolve,invoke,hx,hy,hz,hf,Deferred.ofValue,en]
 rw [e,Oper.upon_enter];refine hc.mono ?_;rintro e w' ⟨v,rfl,hr⟩;exact h v w' hr
end Go.Proofs.YtmhcpbbiokpjjaaGreat
