/-
  Several texts, laid together.
-/
import Derived.Test.YtlojblelpaegpaaGreatM29
import Derived.Shelf.SlIter.Collect
import Derived.RangeFuncBound
import Derived.Test.YtlojblelpaegpaaGreatM24
set_option maxHeartbeats 6400000
set_option maxRecDepth 100000
open Go renaming Value->Ar,DataW->Di,Fence->Gz,World->Ap,KeepsWalks->F7,CallsIn->GM,callsIn_of_wp->Gg,SeqGives->G7,FuncId->GY,undef->DM,grownBy_keeps->Gh,maxLen->AG,Calls->At
open UInt64 renaming toNat_inj->Bz,le_iff_toNat_le->BM
open List renaming size_toArray->C3,length_cons->A3,length_nil->Cj,push_toArray->Fj,append_toArray->EJ,nil_append->Cr,cons_append->Cs,pairwise_mergeSort->E6,mergeSort_perm->DE,eq_nil_of_length_eq_zero->AT,getElem?_eq_none->AL,mem_filter->Ej,getElem?_append_left->BN,getElem?_append_right->BQ,getElem?_set_self->Cl,getElem?_set_ne->CA,getElem?_eq_some_iff->AC,getElem?_eq_getElem->Aq
open Nat renaming reduceAdd->BT,reduceSub->Fx,le_refl->Az,eq_zero_or_pos->B9,le_of_lt->CD
open Array renaming replicate_succ->Eu,replicate_zero->Ev,getElem?_eq_some_iff->AX
open Go.Operand renaming tmp->DO
open Go.Ground renaming data->FZ,phase->FK
open Go.RowKit renaming Below->An
open Go.Proofs renaming grownBy_putObj_a->CT,ownsRow_ne_a->Dn,cell_of_box_a->E8
open Go.KeepsWalks renaming putObj->GA,alloc->Hv,of_grownBy->Hj,setCell->Hm
open Go.World renaming putObj_heap_other->CU,putObj_heap_same->F4,alloc_heap_new->E9
open Go.Obj.cells renaming inj->Ds
open Go.RowKit.Below renaming heap_alloc->Cy,refl->Ao
open Go.Sort renaming sort->Gm
open Go.Value renaming ownBlock->BY,slice->Aa,int->Ab,bool->Ad,pointer->Ah
open Go.Obj renaming cells->Ai
open Go.Ending renaming returned->Aj
open Go.Proofs.Tryz renaming prog->Am
open Go.Proofs.Tryz
namespace Go.Proofs.YtlojblelpaegpaaGreat
open Go.RowKit
open Go.Maps
variable{B b base c i n s:Nat}{G:List Int}{H α:Type}{Q l xs:List UInt64}{S:Nat->Prop}{a:List Rw}{left:Lit->Bool}{r:Rw}{st:St}{t:TypeId}{u w w' wA:Ap}{v:LV}{vs:List LV}{x:UInt64}
abbrev encK(x:UInt64):Ar:=Ab .u64 (x.toNat:Int)
def litU (x:UInt64):Lit:=.int .u64 (x.toNat:Int)
theorem Znf{y:UInt64}(h:encK x=encK y):x=y:=by
 unfold encK at h;simp only[Value.int.injEq,true_and]at h;exact Bz.1 (by omega)
theorem ZgN (x y:UInt64):(litU y).sameKey (litU x)=decide (y=x):=by
 by_cases e:y=x
 ·subst e;simp [litU,Lit.sameKey]
 ·have h:¬ (y.toNat:Int)=(x.toNat:Int):=λ q=>e (UInt64.toNat_inj.1 (by omega))
  simp only [litU,Lit.sameKey,e,decide_false];simp [h]
theorem ZlE {key:Value} {kl:Lit} (h:keyOf Tryz.prog 44 key=some kl):∃ x:UInt64,key=encK x/\kl=litU x:=by
 cases key <;> simp [keyOf,Tryz.underlying44,mapKey] at h
 rename_i q a
 obtain ⟨⟨rfl,hw⟩,rfl⟩:=h
 have hw':0<=a/\a<=18446744073709551615:=by simpa [Lit.wf,IntKind.min,IntKind.max,IntKind.signed,IntKind.bits] using hw
 refine ⟨UInt64.ofNat a.toNat,?_,?_⟩
 ·unfold encK;rw [UInt64.toNat_ofNat']
  congr 1
  omega
 ·unfold litU;rw [UInt64.toNat_ofNat']
  congr 1
  omega
def Zfv{H:Type}(D0:Di H)(left:Lit->Bool)(ss:List UInt64):Prop:=ss.Nodup/\∀x,x∈ss↔(has D0 (litU x)=true/\left (litU x)=false)
def AllU{H:Type}(D0:Di H)(ss:List UInt64):Prop:=ss.Nodup/\∀x,x∈ss↔has D0 (litU x)=true
theorem Zfv.start(a:Di H):Zfv a (has a) []:=⟨List.nodup_nil,λ x=>by cases has a (litU x) <;> simp⟩
theorem Zfv.step{f:Di H}{j:List UInt64}(h:Zfv f left j){y:Di H}(i:left (litU x)=true)(g:∀zd,f.atKey (litU x) zd=y):Zfv f (λ z=>left z&&!z.sameKey (litU x)) (j++[x]):=by
 have c:has f (litU x)=true:=has_true_of_atKey g
 have d:x ∉ j:=λ n=>by have:=((h.2 x).1 n).2;rw[i]at this;cases this
 refine⟨List.nodup_append.2 ⟨h.1,by simp,λ a m b k=>by simp at k;subst k;exact λ e=>d (e ▸ m)⟩,λ y=>?_⟩;by_cases l:y=x
 ·subst l;simp[c,ZgN]
 ·simp[h.2 y,l,ZgN]
theorem Zfv.all{a:Di H}{b:List UInt64}(h:Zfv a left b)(c:∀d,left d=false):AllU a b:=⟨h.1,λ x=>by rw[h.2 x,c];simp⟩
theorem Zna(F:Gz)(n:Nat)(p:F.fn 100)(C:F.round=none)(hn:1<=n)(l Bm b nn:Nat)(f:Di H){R:Ar->Option (Di H×List MemPlace)}(J:List UInt64->Ap->Prop)
  (N:∀pre x W,J pre W->pre.length<Maps.size f->YieldAt F (n - 1) Am l #[encK x] W λ e W'=>e=Aj (Ad true)/\J (pre++[x]) W'/\F7 W W')
  (W:Ap) (I:AbidesFrom W.heap.size J) (Z:W.cell? ⟨Bm,0,none⟩=some (.map (some b))) (k:W.ownsMap Am 44 R b nn f) (L:J [] W) :
  GM F n Am 100 #[.func (.yield l) #[] #[],Ah (some ⟨Bm,0,none⟩)] W λ e W'=>(∃v,e=Aj v)/\∃a:List UInt64,AllU f a/\J a W':=by
 refine Gg func100 rfl p ?_ C;simp only[ntmps100,C3,A3,Cj,BT,Fx,Eu,Ev,Fj,EJ,Cr,Cs]
 gi_wp2_with (first
  | (gi_at_range;refine wpListIn_range_own _ rfl _ 113 rfl 44 61 kU.keyed underlying113 _ b nn _ rfl k ?_;intro w0 m u T)
  | gi_in)
 go_frame
 gi_loopw [3] (λ _ wr=>∃(left:Lit->Bool) (cnt:Nat) (a:List UInt64),wr.ranges Am 44 R b W.heap.size nn f left cnt/\a.length+cnt<=Maps.size f/\Zfv f left a/\J a wr)
  (λ _ wr=>wr.rangeLeft b W.heap.size)
 case atStart =>
  exact⟨_,_,[],m,by simp,Zfv.start f,I [] W w0 none L u (λ r e=>by cases e)⟩
 case round =>
  obtain⟨left,cnt,a,g,P,G,i⟩:=hrel
  gi_wp2_with (first
   | (gi_at_next;refine wpListIn_next_ranges _ rfl _ rfl 44 kU.keyed R encK id (λ key V S=>by obtain⟨x,U,_⟩:=ZlE S;exact⟨x,U⟩) (λ v _ _=>⟨v,rfl⟩) b W.heap.size nn _ _ _ rfl g ?_ ?_)
   | gi_in)
  ·intro O z
   gi_wp2
   go_end0;exact⟨⟨_,rfl⟩,a,G.all z,i⟩
  ·intro x c V yd yp E h j A hv t o B w D Q;obtain⟨X,K,rfl⟩:=ZlE j;obtain rfl:x=X:=Znf K;have q:J a E:=I a wr E (some W.heap.size) i w (λ r e=>by cases e;exact⟨Az _,g.iter_walk⟩);obtain⟨fn,tmps,assign,body,hy,M⟩:=N a x E q (by omega);clear D
   gi_wp2
   refine M.mono ?_;rintro e Y ⟨rfl,s,y⟩
   gi_wp2
   have d:=o.of_walks y;go_roundw
   case rel=>exact⟨_,h,a++[x],d,by simp;omega,G.step A t,s⟩
   case measure=>rw[d.left_eq,g.left_eq];exact B
theorem ZhV(F:Gz)(n:Nat)(f:F.fn 100)(i:F.round=none)(u:1<=n)(Bm b nn:Nat)(e:Di H){R:Ar->Option (Di H×List MemPlace)}(w:Ap)(g:Bm<w.heap.size)
  (t:w.cell? ⟨Bm,0,none⟩=some (.map (some b))) (a:w.ownsMap Am 44 R b nn e) :
  G7 F n Am 100 #[Ah (some ⟨Bm,0,none⟩)] encK (AllU e) (Maps.size e) w:=λ l J W j q r m=>by
 have d:W.ownsMap Am 44 R b nn e:=by
  have h:=a.lt;obtain⟨es,c,s,k,v,o⟩:=a;exact⟨es,c,(j.block b h).trans s,k,v,o⟩
 exact Zna F n f i u l Bm b nn e J r W q ((j.cell (p:=⟨Bm,0,none⟩) g).trans t) d m
theorem Zny(F:Gz)(n:Nat)(c:F.fn 44)(a:F.round=none)(b:Option Nat)(w:Ap):
  GM F n Am 44 #[.map b] w λ e w'=>e=Aj (.func (.func 100) #[] #[Ah (some ⟨w.heap.size,0,none⟩)])/\w'=w.alloc (Ai #[.map b] 113):=by
 refine Gg func44 rfl c ?_ a;simp only[ntmps44,C3,A3,Cj,BT,Fx,Eu,Ev,Fj,EJ,Cr,Cs]
 gi_wp2
 go_ret;exact⟨rfl,rfl⟩
def uapAssign : Code := (Code.region 2 #[{ dst := some 5, op := Op.assign (DO 7), type := 44, pos := "iter.go:51", after := #[], guard := none }] false)
def uapBody : Code := (Code.block 1 (Code.region 3 #[{ dst := some 8, op := Op.load 34 (DO 2), type := 34, pos := "iter.go:52", after := #[], guard := none }, { dst := some 9, op := Op.move (DO 5), type := 44, pos := "iter.go:52", after := #[], guard := none }, { dst := some 10, op := Op.buildSlice 34 1 #[(0, DO 9)], type := 34, pos := "iter.go:52", after := #[{ on := 1, ground := FZ }], guard := none }, { dst := some 11, op := Op.call { callee := Callee.builtin Builtin.append, args := #[DO 8, DO 10], argTypes := #[34, 34] }, type := 34, pos := "iter.go:52", after := #[{ on := 0, ground := FZ }, { on := 2, ground := FZ }], guard := none }, { dst := none, op := Op.store 34 (DO 2) (DO 11), type := 0, pos := "iter.go:52", after := #[{ on := 3, ground := FZ }, { on := 3, ground := Ground.chain }, { on := 0, ground := FK }, { on := 1, ground := FK }, { on := 2, ground := FK }, { on := 3, ground := FK }], guard := none }] false))
def uapRec(fn:GY)(sv:Ar)(Bs D:Nat)(st:LoopState)(pend:Option Code):Loop :=
 { state:=st,pending:=pend,fn,tmps:=#[Aa none 0 0,sv,Ah (some ⟨Bs,0,none⟩),DM,Aa none 0 0,DM,sv,DM,DM,DM,DM,DM,DM],params:=#[7],assign:=uapAssign,body:=uapBody,defers:=D }
structure ZkV(w0:Ap)(fn:GY)(sv:Ar)(Bs l D:Nat)(ss:List UInt64)(W:Ap):Prop where
 box:∃v,W.heap[Bs]? = some (Ai #[v] 34 (0,0))/\W.ownsRow w0.heap.size 44 1 v ss.length (ss.map encK)/\(v=Aa none 0 0↔ss=[])
 L:W.heap[l]? = some (.loop (uapRec fn sv Bs D .ready none))
 K:W.heap[D]? = some (.deferred (some []))
 below:An w0.heap.size w0 W
theorem ZjU(w0:Ap)(fn:GY)(j:Ar)(Bs l D B:Nat)(f:w0.heap.size<=B):AbidesFrom B (ZkV w0 fn j Bs l D):=λ s W W' row h c b=>by
 have a:∀r,row=some r->∃o:Obj,W.heap[r]? = some o/\o.isWalk=true:=λ r e=>(b r e).2
 obtain⟨v,d,i,g⟩:=h.box
 exact⟨⟨v,(Gh c a d rfl).trans d,ownsRow_abides_a i c a,g⟩,(Gh c a h.L rfl).trans h.L,(Gh c a h.K rfl).trans h.K,
  h.below.grown c h.below.size (λ k e=>Nat.le_trans f (b k e).1)⟩
theorem uapYield(F:Gz)(m:Nat)(w0:Ap)(fn:GY)(af:F.fn fn)(A:Ar)(Bs l D:Nat)(G:Bs≠l)(R:D≠l)(ac:D≠Bs)(ab:w0.heap.size<=Bs)(O:w0.heap.size<=l)
  (N:Nat) (hN:N<=AG) (au:N*8<=140737488355328) (t:List UInt64) (x:UInt64) (W:Ap) (h:ZkV w0 fn A Bs l D t W) (ar:t.length<N) :
  YieldAt F m Am l #[encK x] W λ e W'=>e=Aj (Ad true)/\ZkV w0 fn A Bs l D (t++[x]) W'/\F7 W W':=by
 obtain⟨i0,hi,an,ao,ap⟩:=info_parts (P:=Am) (e:=44) Tryz.info44;obtain⟨v,hv,B,_⟩:=h.box
 have q:¬(34=44):=by decide
 refine⟨fn,#[Aa none 0 0,A,Ah (some ⟨Bs,0,none⟩),DM,Aa none 0 0,DM,A,encK x,DM,DM,DM,DM,DM],uapAssign,uapBody,by simpa[uapRec]using run_yield (P:=Am) (args:=#[encK x]) h.L rfl,roundIn_of_wpIn af ?_⟩;have hl:l<W.heap.size:=(AX.1 h.L).1;have ae:=run_beginRound (P:=Am) h.L rfl
 obtain⟨p,d⟩:=Xa (W.putObj l (.loop { uapRec fn A Bs D .ready none with state:=.busy }))
 rw[d]at ae
 have Y:W.grownBy p (some l):=by rw[<- d];exact CT _ _ _
 have ag:F7 W p:=by rw[<- d];exact GA _ h.L rfl
 have z:p.heap[Bs]? = some (Ai #[v] 34 (0,0)):=by rw[<- d];exact(CU G).trans hv
 have H:p.heap[D]? = some (.deferred (some [])):=by rw[<- d];exact(CU R).trans h.K
 have I:p.heap[l]? = some (.loop { uapRec fn A Bs D .ready none with state:=.busy }):=by rw[<- d];exact F4 hl
 have b:p.ownsRow w0.heap.size 44 1 v t.length (t.map encK):=B.kept Y (Dn B h.L (λ c e=>by first|cases e|exact q (Ds e).2.1));have w:An w0.heap.size w0 p:=h.below.grown Y h.below.size (λ k e=>by cases e;exact O);obtain⟨av,ax⟩:=E8 z;have Q:Bs<p.heap.size:=(AX.1 z).1;have ai:l<p.heap.size:=(AX.1 I).1;have S:D<p.heap.size:=(AX.1 H).1
 have g:∀{j:Nat} {o:Obj},p.heap[j]? = some o->(∀c,o≠Ai c 44 (0,0))->some j≠v.ownBlock:=λ hj al=>by
  rcases Dn b hj al with e|e
  ·rw[e];simp
  ·exact λ e'=>e e'.symm
 clear d;unfold uapAssign
 gi_wp2_with gi_round_op_a
 unfold uapBody
 gi_wp2_with (first
  | (gi_at_builtin;refine wpListIn_append_own _ rfl _ _ 34 rfl w0.heap.size 44 i0 (Ab .u64 0) 1 8 underlying34 hi an ao ap rfl (by decide) _ _ _ rfl (b.alloc _) ⟨p.heap.size,0,none⟩ 1 1 [encK x] rfl rfl (Zdm _ _ _) (by simp[Value.oneCell',encK]) (by omega) (by omega) (by have:=w.size;simp;omega) ?_;intro v' C f Z ak
     have J:C.heap[Bs]? = some (Ai #[v] 34 (0,0)):=(Z.block Bs (by simp;omega) (g z (λ c e=>by first|cases e|exact q (Ds e).2.1))).trans ((Cy _ _ Bs Q).trans z);obtain⟨aw,ay⟩:=E8 J
     obtain⟨M,a,i,rfl,aa,aq,az,aA,aB,aC⟩:∃M a i,v'=Aa (some ⟨M,0,none⟩) (t.length+1) a/\w0.heap.size<=M/\C.heap[M]? = some (Ai i 44 (0,0))/\t.length+1<=a/\a<=AG/\i.size=a*1/\i.toList.take ((t.length+1)*1)=t.map encK++[encK x]:=by
       rcases f.2 with⟨_,h0⟩ | h'
       · exact absurd h0 (by omega)
       · exact h'
     go_frame)
  | gi_round_op_a)
 have n:(p.alloc (Ai #[encK x] 44)).grownBy C v.ownBlock:=Z;have U:C.heap[l]? = some (.loop { uapRec fn A Bs D .ready none with state:=.busy }):=(n.block l (by simp;omega) (g I (λ c e=>by first | cases e | exact q (Ds e).2.1))).trans ((Cy _ _ l ai).trans I);have T:C.heap[D]? = some (.deferred (some [])):=(n.block D (by simp;omega) (g H (λ c e=>by first | cases e | exact q (Ds e).2.1))).trans ((Cy _ _ D S).trans H)
 obtain⟨E,s⟩:=Xa (C.setCell ⟨Bs,0,none⟩ (Aa (some ⟨M,0,none⟩) (t.length+1) a))
 rw[s]
 have y:C.grownBy E (some Bs):=by rw[<- s];exact grownBy_setCell0_a _ _ _
 have am:E.heap[Bs]? = some (Ai #[Aa (some ⟨M,0,none⟩) (t.length+1) a] 34 (0,0)):=by rw[<- s];exact heap_setCell_box_a _ J
 have u:E.heap[l]? = some (.loop { uapRec fn A Bs D .ready none with state:=.busy }):=(y.block l (AX.1 U).1 (λ e=>G (by cases e;rfl))).trans U;have ad:E.heap[D]? = some (.deferred (some [])):=(y.block D (AX.1 T).1 (λ e=>ac (by cases e;rfl))).trans T;have r:=f.kept y (Dn f J (λ c e=>by first | cases e | exact q (Ds e).2.1));have aj:l<E.heap.size:=(AX.1 u).1;have V:An w0.heap.size w0 C:=(w.alloc w.size _).grown n (by have:=w.size;simp;omega) (λ k e=>(b.lt k e).1);have X:An w0.heap.size w0 E:=V.grown y V.size (λ k e=>by cases e;exact ab);have ah:F7 W E:=((ag.trans (Hv _ _)).trans (Hj n (ownsRow_not_walk_a (b.alloc _)))).trans (by rw[<- s];exact Hm _ _ _);clear s;refine⟨_,_,run_endRound none u,rfl,⟨⟨_,(CU G).trans am,?_,by simp⟩,F4 aj,(CU R).trans ad,X.grown (CT _ _ _) X.size (λ k e=>by cases e;exact O)⟩,ah.trans (GA _ u rfl)⟩;have:=r.kept (CT E l (.loop { { uapRec fn A Bs D .ready none with state:=.busy }with state:=if(none:Option Code).isNone then .ready else .done,pending:=none })) (Dn r u (λ c e=>by first | cases e | exact q (Ds e).2.1));simpa using this
theorem Zf8(F:Gz)(n:Nat)(G:F.fn 163)(C:F.round=none)(hn:2<=n)(g:Nat)(h:Array Ar)(H:F.fn g)(T:∀args w,(callFunc g args).run Am w=.ok (.enter g args) w)
  (S:List UInt64->Prop) (N:Nat) (Y:N<=AG) (I:N*8<=140737488355328) (w:Ap) (D:G7 F (n - 1) Am g h encK S N w) :
  GM F n Am 163 #[Aa none 0 0,.func (.func g) #[] h] w λ e w'=>∃(v:Ar) (q:List UInt64),e=Aj v/\S q/\w'.ownsRow w.heap.size 44 1 v q.length (q.map encK)/\(v=Aa none 0 0↔q=[])/\An w.heap.size w w':=by
 have U:1<=n:=by omega
 have z:¬(34=44):=by decide
 refine callsIn_of_wp_marks func163 rfl G ?_ C;simp only[ntmps163,C3,A3,Cj,BT,Fx,Eu,Ev,Fj,EJ,Cr,Cs]
 gi_wp2
 refine wpIn_rangeFunc ?_;intro fn J;rw[C]
 obtain⟨a,f⟩:=Xa (w.alloc (Ai #[Aa none 0 0] 34))
 have M:a.heap.size=w.heap.size+1:=by rw[<- f];simp
 have O:a.heap[w.heap.size]? = some (Ai #[Aa none 0 0] 34 (0,0)):=by rw[<- f];exact E9 w _
 have m:An w.heap.size w a:=by rw[<- f];exact(Ao _ w).alloc (Az _) _
 rw[f]
 obtain⟨i,b⟩:=Xa ((a.alloc (.deferred (some []))).alloc (.loop (uapRec fn (.func (.func g) #[] h) w.heap.size a.heap.size .ready none)))
 have B:∀k,k<a.heap.size->i.heap[k]? = a.heap[k]? := λ k hk=>by
  rw[<- b];exact(Cy _ _ k (by simp;omega)).trans (Cy _ _ k hk)
 have o:An w.heap.size w i:=by rw[<- b];exact(m.alloc m.size _).alloc (by have:=m.size;simp;omega) _
 have ac:i.heap.size=a.heap.size+2:=by rw[<- b];simp
 have X:ZkV w fn (.func (.func g) #[] h) w.heap.size (a.heap.size+1) a.heap.size [] i :=
  ⟨⟨_,(B w.heap.size (by omega)).trans O,⟨rfl,.inl ⟨rfl,rfl⟩⟩,by simp⟩,
   by rw[<- b];have:=E9 (a.alloc (.deferred (some []))) (.loop (uapRec fn (.func (.func g) #[] h) w.heap.size a.heap.size .ready none));rwa [World.size_alloc]at this,
   by rw[<- b];exact(Cy _ _ _ (by simp)).trans (E9 a _),o⟩
 refine⟨a.heap.size+1,[{ target:=.collected a.heap.size,args:=#[] }],i,{ target:=.fn (.func g) h,args:=#[.func (.yield (a.heap.size+1)) #[] #[]] },i,g,
  #[.func (.yield (a.heap.size+1)) #[] #[]]++h,i,?_,?_,?_,?_,λ _=>U,?_⟩
 ·rw[<- b];exact run_enterLoop_outer _ _ _ _ _
 ·simp[resolve,go_sem]
 ·intro f' u;simp[Target.leads]at u;subst u;exact H
 ·simp[invoke,go_sem,T]
 ·refine(D (a.heap.size+1) (ZkV w fn (.func (.func g) #[] h) w.heap.size (a.heap.size+1) a.heap.size) i o (ZjU _ _ _ _ _ _ _ o.size)
   (λ pre x W V hl=>uapYield F (n - 1 - 1) w fn J _ w.heap.size (a.heap.size+1) a.heap.size (by omega) (by omega) (by omega) (Az _) (by omega) N Y I pre x W V hl) X).mono ?_
  rintro e R ⟨⟨v0,rfl⟩,q,Z,p⟩;obtain⟨v,hv,l,A⟩:=p.box;have j:=run_endLoop (P:=Am) p.L (by simp[uapRec])
  obtain⟨r,c⟩:=Xa (R.putObj (a.heap.size+1) (.loop { uapRec fn (.func (.func g) #[] h) w.heap.size a.heap.size .ready none with state:=.exhausted }))
  rw[c]at j
  have y:R.grownBy r (some (a.heap.size+1)):=by rw[<- c];exact CT _ _ _
  have Q:r.heap[w.heap.size]? = some (Ai #[v] 34 (0,0)):=by rw[<- c];exact(CU (by omega)).trans hv
  have s:r.heap[a.heap.size]? = some (.deferred (some [])):=by rw[<- c];exact(CU (by omega)).trans p.K
  have d:=l.kept y (Dn l p.L (λ E e=>by first|cases e|exact z (Ds e).2.1));have t:An w.heap.size w r:=p.below.grown y p.below.size (λ k e=>by cases e;omega);obtain⟨aa,ab⟩:=E8 Q;clear c;refine⟨none,r,j,?_⟩
  gi_wp2
  rw[<- M];refine⟨by simp,.inl ⟨_,_,rfl,run_takeDeferred s,?_⟩⟩;exact⟨_,results_tmp rfl _ _ _,v,q,rfl,Z,d.kept (CT _ _ _) (Dn d s (λ E e=>by first | cases e | exact z (Ds e).2.1)),A,t.grown (CT _ _ _) t.size (λ k e=>by cases e;omega)⟩
theorem ZhW(F:Gz)(n:Nat)(m:F.fn 99)(h:F.fn 163)(c:F.round=none)(s:3<=n)(g:Nat)(k:Array Ar)(i:F.fn g)(l:∀args w,(callFunc g args).run Am w=.ok (.enter g args) w)
  (S:List UInt64->Prop) (N:Nat) (o:N<=AG) (j:N*8<=140737488355328) (w:Ap) (f:G7 F (n - 1 - 1) Am g k encK S N w) :
  GM F n Am 99 #[.func (.func g) #[] k] w λ e w'=>∃(v:Ar) (a:List UInt64),e=Aj v/\S a/\w'.ownsRow w.heap.size 44 1 v a.length (a.map encK)/\(v=Aa none 0 0↔a=[])/\An w.heap.size w w':=by
 have r:1<=n:=by omega
 refine Gg func99 rfl m ?_ c;simp only[ntmps99,C3,A3,Cj,BT,Fx,Eu,Ev,Fj,EJ,Cr,Cs]
 gi_wp2_with (gi_at_call 163;refine(Zf8 F (n - 1) h c (by omega) g k i l S N o j _ f).mono ?_;rintro e w' ⟨v,a,rfl,p,d,b,q⟩)
 go_ret;exact⟨v,a,rfl,p,d,b,q⟩
theorem ZgW{e:List UInt64}(h:l.Perm e):risU l=risU e:=by
 have i:∀a b c:UInt64,decide (a<=b)=true->decide (b<=c)=true->decide (a<=c)=true:=λ a b c f g=>by
  simp only[A5,BM]at *;omega
 have d:∀a b:UInt64,(decide (a<=b)||decide (b<=a))=true:=λ a b=>by
  simp only[Bool.or_eq_true,A5,BM];omega
 refine List.Perm.eq_of_pairwise (le:=λ a b=>decide (a<=b)=true) (λ a b _ _ f g=>?_) (E6 i d l) (E6 i d e) (((DE l _).trans h).trans (DE e _).symm);simp only[A5,BM]at f g;exact Bz.1 (by omega)
theorem ZaJ:x∈risU l↔x∈l:=(DE l _).mem_iff
theorem Zb7(l:List UInt64):(risU l).length=l.length:=(DE l _).length_eq
theorem ZiK{v:Ar}(h:OwnG encU 44 w base v xs)(A:xs.length<=1000000000000):
  At Am 29 #[v] w λ e w'=>e=Aj (.tuple #[])/\Hid (∃a c,v=Aa a xs.length c/\xs.length<=c/\RdG encU w' a (risU xs)/\Zaa (λ k=>v.ownBlock=some k) w w'):=by
 rcases h.2 with⟨rfl,m⟩ | ⟨g,cap,s,rfl,D,E,t,F,G,H⟩
 ·have e0:xs=[]:=AT m;subst e0;refine(Zl7 w).mono ?_;rintro e w' ⟨rfl,rfl⟩;exact⟨rfl,none,0,rfl,Az _,by simpa[risU]using RdG.nil encU w' none,Zaa.refl _ _⟩
 ·have B:=h.sr;refine(ZlL B.1 (n:=xs.length) (c:=cap) (by simp) A).mono ?_;rintro e w' ⟨rfl,J⟩;refine⟨rfl,some ⟨g,0,none⟩,cap,rfl,t,?_,J.o.2.mono (λ k _ q=>by have C:k=g:=q;rw[C];rfl)⟩;intro m;refine⟨g,0,rfl,J.o.1.lt,λ i x f j u d=>?_⟩
  have hi:i<(risU xs).length:=by
   rcases Nat.lt_or_ge i (risU xs).length with q|q
   ·exact q
   ·rw[AL q]at f;cases f
  have b:i<(Gm ltU xs.toArray).size:=by
   rw[Zkz];rw[Zb7]at hi;simpa using hi
  have r:=J.o.1.cell b
  have y:j=0:=by
   rcases B9 j with q|q
   ·exact q
   ·rw[AL (by show 1<=j;omega)]at d;cases d
  subst y;cases d;have z:(Gm ltU xs.toArray).toList=risU xs:=sortU xs.toArray
  have l:(Gm ltU xs.toArray)[i]! = x:=by
   rw[EF _ i b]
   have p:(Gm ltU xs.toArray).toList[i]? = some x:=by rw[z];exact f
   rw[Array.getElem?_toList,Array.getElem?_eq_getElem b]at p;exact Option.some.inj p
  rw[l]at r;simpa[encU]using r
theorem ZpX(a:List UInt64):a.map encK=encU.all a:=by
 induction a with
 | nil=>rfl
 | cons x t b =>
  show encK x::t.map encK=encU.cells x++encU.all t;rw[b]
  rfl
theorem ZhF {w:World} {Bm b nn:Nat} {f:UInt64->Option Value} (hBm:Bm<w.heap.size) (hm:w.cell? ⟨Bm,0,none⟩=some (.map (some b))) (hown:MapG kU w b f nn) (hn:nn<=1000000000000) :
  Calls Tryz.prog 43 #[.func (.func 100) #[] #[.pointer (some ⟨Bm,0,none⟩)]] w λ e w'=>∃ (a:Option Addr) (n c:Nat) (ss:List UInt64),e=.returned (.slice a n c)/\Hid (n<=c/\ss.length=n/\ss.Nodup/\(∀ x,x∈ss↔(f x).isSome=true)/\RdG encU w' a (risU ss)/\Below w.heap.size w w'):=by
 obtain ⟨D,hD,hsz,hh,_⟩:=hown
 have hC:Calls Tryz.prog 99 #[.func (.func 100) #[] #[.pointer (some ⟨Bm,0,none⟩)]] w λ e w'=>∃ (v:Value) (ss:List UInt64),e=.returned v/\(AllU D ss/\ss.length<=Maps.size D)/\w'.ownsRow w.heap.size 44 1 v ss.length (ss.map encK)/\(v=.slice none 0 0↔ss=[])/\Below w.heap.size w w' :=
  callsIn_wide.1 (ZhW Fence.wide 3 trivial trivial rfl (Nat.le_refl _) 100 #[.pointer (some ⟨Bm,0,none⟩)] trivial (enters_of Tryz.func100 (by kernel_rfl) rfl) _ (Maps.size D) (by simp only [maxLen]; omega) (by omega) w
   (ZhV Fence.wide 1 trivial rfl (Nat.le_refl _) Bm b nn D w hBm hm hD).bounded)
 have HB:Hid (Maps.size D=nn/\∀ x,Maps.has D (litU x)=(f x).isSome):=⟨hsz,hh⟩
 clear hD hsz hh hm;go_enter Tryz.func43,Tryz.ntmps43;go_wp2_with fail;refine hC.mono ?_;rintro e w1 ⟨v,ss,rfl,hS,hrow,_,hb⟩
 have ho:OwnG encU 44 w1 w.heap.size v ss:=by
  unfold OwnG;rw [<- ZpX];exact hrow
 have hs:=ZiK ho (by have:=hS.2; have:=HB.o.1; omega)
 have H1:Hid (OwnG encU 44 w1 w.heap.size v ss/\AllU D ss/\Below w.heap.size w w1):=⟨ho,hS.1,hb⟩
 clear hC hrow ho hS hb;go_wp2_with fail;refine hs.mono ?_;rintro e w2 ⟨rfl,J⟩;clear hs;obtain ⟨a,c,hv,j1,j2,j3⟩:=J.o
 have FIN:Hid (ss.length<=c/\ss.Nodup/\(∀ x,x∈ss↔(f x).isSome=true)/\RdG encU w2 a (risU ss)/\Below w.heap.size w w2):=by
  refine ⟨j1,H1.o.2.1.1,λ x=>?_,j2,H1.o.2.2.trans (j3.below H1.o.2.2.size (λ k hk q=>?_))⟩
  ·rw [H1.o.2.1.2 x,HB.o.2]
  ·have:=(H1.o.1.lt k q).1;omega
 subst hv;clear j1 j2 j3 J H1 HB;go_wp2;go_ret;exact ⟨a,_,c,ss,rfl,FIN.o.1,rfl,FIN.o.2⟩
def St.coms(st:St):List UInt64:=risU ((st.objs.filter (λ o=>decide (o.kind=3))).map (·.id))
theorem Zob:x∈st.coms↔st.has 3 x=true:=by
 unfold St.coms;rw[ZaJ,List.mem_map];unfold St.has
 cases e:oget st.objs 3 x with
 | none =>
  constructor
  ·rintro⟨o,a,rfl⟩;rw[Ej]at a;exact absurd ⟨by simpa using a.2,rfl⟩ (Zd8.1 e o a.1)
  ·intro q;cases q
 | some b =>
  simp only[Option.isSome_some,iff_true];exact⟨⟨3,x,b⟩,Ej.2 ⟨Zb4 e,by simp⟩,rfl⟩
theorem ZkE(h:st.objs.Pairwise (λ a b=>¬(a.kind=b.kind/\a.id=b.id))):((st.objs.filter (λ o=>decide (o.kind=3))).map (·.id)).Nodup:=by
 refine List.pairwise_map.2 ?_;refine(h.filter _).imp_of_mem ?_;intro a b c d q e;rw[Ej]at c d;have c:=c.2;have d:=d.2;simp only[A5]at c d;exact q ⟨by rw[c,d],e⟩
theorem Zmu(h:st.objs.Pairwise (λ a b=>¬(a.kind=b.kind/\a.id=b.id))){c:List UInt64}(e:c.Nodup)(d:∀x,x∈c↔st.has 3 x=true):risU c=st.coms:=by
 unfold St.coms;apply ZgW;refine(List.perm_ext_iff_of_nodup e (ZkE h)).2 (λ x=>?_);rw[d,<- Zob];unfold St.coms;rw[ZaJ]
theorem ZhJ(h:Zac w s b st S)(l:st.objs.Pairwise (λ a b=>¬(a.kind=b.kind/\a.id=b.id)))(Q:st.objs.length<=1000000000000):
  At Am 17 #[Ah (some ⟨s,0,none⟩)] w λ e w'=>∃(a:Option Addr) (n c:Nat),e=Aj (Aa a n c)/\Hid (n<=c/\st.coms.length=n/\RdG encU w' a st.coms/\An w.heap.size w w'):=by
 obtain⟨M,r,t,F,h⟩:=h;obtain⟨G,k,d⟩:=h.objs 3 (by omega);obtain⟨H,I,K,L,N,O,P⟩:=h.cell
 have m:At Am 44 #[.map (some (M 3))] w λ e w'=>e=Aj (.func (.func 100) #[] #[Ah (some ⟨w.heap.size,0,none⟩)])/\w'=w.alloc (Ai #[.map (some (M 3))] 113) :=
  callsIn_wide.1 (Zny Fence.wide 1 trivial rfl (some (M 3)) w)
 have p:=ZhF (w:=w.alloc (Ai #[.map (some (M 3))] 113)) (Bm:=w.heap.size) (b:=M 3) (f:=F 3) (nn:=G) (by simp) (by simp) (d.turned (S:=λ _=>False) (Zaa.ofBelow (bz1 w _)) (λ q=>q)) (by omega)
 have j:Hid (st.objs.Pairwise (λ a b=>¬(a.kind=b.kind/\a.id=b.id))/\∀x,(F 3 x).isSome=st.has 3 x):=by
  refine⟨l,λ x=>?_⟩;unfold St.has
  cases e:oget st.objs 3 x with
  | none=>rw[h.gone 3 (by omega) x e];rfl
  | some bs =>
   obtain⟨v,y,_⟩:=h.there 3 (by omega) x bs e;rw[y];rfl
 clear h l k d;go_enter func17,ntmps17;go_wp2_with fail;refine m.mono ?_;rintro e w1 ⟨rfl,g⟩;rw[g];clear m g;go_wp2_with fail;refine p.mono ?_;rintro e u ⟨a,n,c,R,rfl,J⟩;clear p
 have i:Hid (n<=c/\st.coms.length=n/\RdG encU u a st.coms/\An w.heap.size w u):=by
  obtain⟨z,A,B,C,D,E⟩:=J.o;have e:=Zmu j.o.1 B (λ x=>by rw[C,j.o.2]);rw[<- e];exact⟨z,by rw[Zb7];exact A,D,(bz1 w _).trans (E.mono (by simp))⟩
 clear J j;go_wp2;go_ret;exact⟨a,n,c,rfl,i⟩
end Go.Proofs.YtlojblelpaegpaaGreat
namespace Go.Proofs.YtlojblelpaegpaaGreat
open Go.RowKit
variable{B b base c i n s:Nat}{G:List Int}{H α:Type}{Q l xs:List UInt64}{S:Nat->Prop}{a:List Rw}{left:Lit->Bool}{r:Rw}{st:St}{t:TypeId}{u w w' wA:Ap}{v:LV}{vs:List LV}{x:UInt64}
theorem ZmD(w:Ap):OwnG encU 44 (w.alloc (Ai #[] 44)) w.heap.size (Aa (some ⟨w.heap.size,0,none⟩) 0 0) [] :=
 World.ownsRow_made w #[] 0 (Az _) (Nat.zero_le _) rfl
theorem Zit(w:Ap):
  At Am 28 #[Aa none n c] w λ e w'=>e=Aj (Aa none 0 0)/\w'=w:=by
 have q:∀(w:Ap) (a:Option Addr) (n c b c':Nat),(binOp .eql 34 (Aa a n c) (Aa none b c')).run Am w=.ok (Ad a.isNone) w:=λ w a n c b c'=>Lib.run_eql_slice_nil w _ _ a n c b c' underlying34
 go_enter func28,ntmps28;go_wp2;go_ret;exact⟨rfl,rfl⟩
theorem ZhK{p:Addr}(w:Ap)(g:RdG encU w (some p) xs)(h:xs.length=n)(j:n<=1000000):
  At Am 28 #[Aa (some p) n c] w λ e w'=>∃v',e=Aj v'/\OwnG encU 44 w' w.heap.size v' xs/\An w.heap.size w w':=by
 have H:Hid (RdG encU w (some p) xs/\xs.length=n):=⟨g,h⟩
 clear g h
 have q:∀(w:Ap) (a:Option Addr) (n c f c':Nat),(binOp .eql 34 (Aa a n c) (Aa none f c')).run Am w=.ok (Ad a.isNone) w:=λ w a n c f c'=>Lib.run_eql_slice_nil w _ _ a n c f c' underlying34
 go_enter func28,ntmps28;go_wp2_with(at_builtin;(refine Za7 encU 44 34 8 _ rfl Tryz.info44 underlying34 rfl (.tmp 5) (.tmp 6) rfl w.heap.size _ [] xs (some p) n c rfl (ZmD w) rfl (H.o.1.below (bz1 w _)) H.o.2 (by simp;omega) (by simp[AG];omega) (by simp) ?_;intro i k b d _ _));go_wp2;go_ret;rw[Cr]at b;exact⟨i,rfl,b,(bz1 w _).trans d⟩
theorem Zka{ao:Option Addr}(w:Ap)(a:RdG encU w ao xs)(f:xs.length=n)(g:n<=1000000):
  At Am 28 #[Aa ao n c] w λ e w'=>∃v',e=Aj v'/\OwnG encU 44 w' w.heap.size v' xs/\An w.heap.size w w':=by
 cases ao with
 | none =>
  have d:xs=[]:=by
   rcases B9 xs.length with q|q
   ·exact AT q
   ·obtain⟨b,off,e,_⟩:=a q;cases e
  subst d;refine(Zit w).mono ?_;rintro e w' ⟨rfl,rfl⟩;exact⟨_,rfl,OwnG.nil _ _ _ _,Ao _ _⟩
 | some p=>exact ZhK w a f g
structure LvO(w:Ap)(B:Nat)(v:LV)(r:Rw):Prop where
 id:v.id=r.id
 tree:v.tree=r.tree
 date:v.date=r.date
 gen:v.gen=r.gen
 ps:OwnG encI 3 w B (Aa v.pa v.pn v.pc) r.ps
 fb:OwnG encB 5 w B (Aa v.fa v.fn v.fc) r.fb
def NoIB(w:Ap)(S:Nat->Prop):Prop:=∀k,S k->∀C,w.heap[k]? ≠ some (Ai C 3 (0,0))/\w.heap[k]? ≠ some (Ai C 5 (0,0))
theorem OwnG.type{E:Enc α}{v:Ar}{xs:List α}(h:OwnG E t w base v xs){g:Nat}(a:v.ownBlock=some g):∃C,w.heap[g]? = some (Ai C t (0,0)):=by
 rcases h.2 with⟨rfl,_⟩ | ⟨g2,cap,b,rfl,_,c,_⟩
 ·simp[BY]at a
 ·have e:g2=g:=by simpa[BY]using a
  subst e;exact⟨_,c⟩
theorem OwnG.noIB{E:Enc α}{v:Ar}{xs:List α}(h:OwnG E t w base v xs)(a:t≠3)(b:t≠5):NoIB w (λ k=>v.ownBlock=some k):=by
 intro k c C;obtain⟨d,e⟩:=h.type c;rw[e]
 constructor
 ·intro q;cases q;exact a rfl
 ·intro q;cases q;exact b rfl
theorem LvO.stays(h:LvO w B v r)(c:Zaa S w w')(b:NoIB w S):LvO w' B v r :=
 ⟨h.id,h.tree,h.date,h.gen,h.ps.stays c (λ g a q=>by obtain⟨C,e⟩:=h.ps.type a;exact(b g q C).1 e),h.fb.stays c (λ g a q=>by obtain⟨C,e⟩:=h.fb.type a;exact(b g q C).2 e)⟩
theorem LvO.below(h:LvO w B v r)(a:An w.heap.size w w'):LvO w' B v r :=
 ⟨h.id,h.tree,h.date,h.gen,h.ps.below a,h.fb.below a⟩
theorem LvO.low{a:Nat}(h:LvO w B v r)(b:a<=B):LvO w a v r:=⟨h.id,h.tree,h.date,h.gen,h.ps.low b,h.fb.low b⟩
theorem LvO.at(h:LvO w B v r):LvAt w v r:=by
 have d:r.ps.length=v.pn:=Zam h.ps;have b:r.fb.length=v.fn:=Zam h.fb;refine⟨h.id,h.tree,h.date,h.gen,h.ps.rdc.1,d,?_,b⟩;obtain⟨a,c,q,e,f,g,_⟩:=h.fb.form;rw[b]at q;cases q;exact⟨v.fa,v.fc,by rw[b],e,f,g⟩
theorem LvO.regen(h:LvO w B v r)(g:Int):LvO w B (v.wg g) { r with gen:=g }:=⟨h.id,h.tree,h.date,rfl,h.ps,h.fb⟩
structure LvsO(w:Ap)(B:Nat)(vs:List LV)(rs:List Rw):Prop where
 len:vs.length=rs.length
 at_:∀(i:Nat) (v:LV) (r:Rw),vs[i]? = some v->rs[i]? = some r->LvO w B v r
theorem LvsO.stays(h:LvsO w B vs a)(e:Zaa S w w')(d:NoIB w S):LvsO w' B vs a:=⟨h.len,λ i v r b c=>(h.at_ i v r b c).stays e d⟩
theorem LvsO.below(h:LvsO w B vs a)(d:An w.heap.size w w'):LvsO w' B vs a:=⟨h.len,λ i v r b c=>(h.at_ i v r b c).below d⟩
theorem LvsO.low{a:Nat}{b:List Rw}(h:LvsO w B vs b)(e:a<=B):LvsO w a vs b:=⟨h.len,λ i v r c d=>(h.at_ i v r c d).low e⟩
theorem LvsO.nil(w:Ap)(B:Nat):LvsO w B [] []:=⟨rfl,λ i v r h=>by simp at h⟩
theorem LvsO.app{b:List LV}{f:List Rw}(h:LvsO w B vs f)(e:LvsO w B b a):LvsO w B (vs++b) (f++a):=by
 refine⟨by simp[h.len,e.len],λ i v r c d=>?_⟩;by_cases hi:i<vs.length
 ·rw[BN hi]at c;rw[BN (by rw[<- h.len];exact hi)]at d;exact h.at_ i v r c d
 ·rw[BQ (by omega)]at c;rw[BQ (by rw[<- h.len];omega),<- h.len]at d;exact e.at_ _ v r c d
def St.row(st:St)(Q:List UInt64)(x:UInt64)(g:Int):Rw:=⟨x,(st.com x).tree,(st.com x).date,pps Q (st.com x).ps,g,st.fil (st.com x)⟩
def St.rows(st:St)(Q xs:List UInt64)(G:List Int):List Rw:=List.zipWith (st.row Q) xs G
def St.pss(st:St)(Q xs:List UInt64):List (List Int):=xs.map (λ x=>pps Q (st.com x).ps)
structure St.free(st:St)(Bi ids:List UInt64):Prop where
 nd:(Bi++ids).Nodup
 has:∀x∈ids,st.has 3 x=true
 shut:∀x∈ids,∀p∈(st.com x).ps,p∈Bi++ids
inductive St.told (st:St) (Bi:List UInt64) (G:List Int) (ids:List UInt64):Int->List Rw->Prop
 | twice:¬(Bi++ids).Nodup->St.told st Bi G ids 6 []
 | missing:(Bi++ids).Nodup->¬(∀x∈ids,st.has 3 x=true)->St.told st Bi G ids 5 []
 | open_:(Bi++ids).Nodup->(∀x∈ids,st.has 3 x=true)->¬(∀x∈ids,∀p∈(st.com x).ps,p∈Bi++ids)->St.told st Bi G ids 14 []
 | rows:st.free Bi ids->St.told st Bi G ids 0 (st.rows (Bi++risU ids) (risU ids) G)
theorem St.told.uniq{f:List UInt64}{ids:List UInt64}{c c':Int}{g d:List Rw}(h:st.told f G ids c g)(e:st.told f G ids c' d):c=c'/\g=d:=by
 cases h with
 | twice a=>cases e with
  | twice=>exact⟨rfl,rfl⟩
  | missing b=>exact absurd b a
  | open_ b=>exact absurd b a
  | rows b=>exact absurd b.nd a
 | missing a1 a2=>cases e with
  | twice b=>exact absurd a1 b
  | missing=>exact⟨rfl,rfl⟩
  | open_ _ b=>exact absurd b a2
  | rows b=>exact absurd b.has a2
 | open_ a1 a2 a3=>cases e with
  | twice b=>exact absurd a1 b
  | missing _ b=>exact absurd a2 b
  | open_=>exact⟨rfl,rfl⟩
  | rows b=>exact absurd b.shut a3
 | rows a=>cases e with
  | twice b=>exact absurd a.nd b
  | missing _ b=>exact absurd a.has b
  | open_ _ _ b=>exact absurd a.shut b
  | rows=>exact⟨rfl,rfl⟩
theorem Zg3(st:St)(x:UInt64):(st.com x).ps.length<=8:=by
 unfold St.com
 cases e:oget st.objs 3 x with
 | none=>simp[zcm]
 | some b =>
  simp only[Option.bind_some]
  cases a:rdcom b with
  | none=>simp[zcm]
  | some c =>
   have:=(Zbj (Zb9 a).1).1;simpa using this
def lv0:LV:=⟨0,0,0,none,0,0,0,none,0,0⟩
def rw0:Rw:=⟨0,0,0,[],0,[]⟩
theorem infoL:(Am.info? 63).map (λ i=>(i.zero,i.size,i.bytes))=some (some (.agg #[Ab .u64 0,Ab .u64 0,Ab .i64 0,Aa none 0 0,Ab .i64 0,Aa none 0 0]),6,80):=by kernel_rfl
theorem sliceL:Am.underlying 39=some (.slice 63):=by kernel_rfl
structure RL(rg:Nat)(wA u:Ap)(n:Nat)(xs:List UInt64)(vs:List LV)(F:Nat->UInt64->Rw):Prop where
 own:OwnG encL 63 u rg (Aa (some ⟨rg,0,none⟩) n n) vs
 bel:An rg wA u
 size:wA.heap.size=rg
 at_:∀(j:Nat) (v:LV) (x:UInt64),vs[j]? = some v->xs[j]? = some x->LvO u rg v (F j x)
section
variable{rg:Nat}{wA u u':World}{n:Nat}{xs:List UInt64}{vs:List LV}{F:Nat->UInt64->Rw}
theorem RL.len(h:RL rg wA u n xs vs F):vs.length=n:=Zam h.own
theorem RL.lt(h:RL rg wA u n xs vs F):rg<u.heap.size:=(World.ownsRow.lt h.own rg rfl).2
theorem RL.below(h:RL rg wA u n xs vs F)(a:An u.heap.size u u'):RL rg wA u' n xs vs F :=
 ⟨h.own.below a,h.bel.trans (a.mono (CD h.lt)),h.size,λ j v x b c=>(h.at_ j v x b c).below a⟩
theorem RL.noIB(h:RL rg wA u n xs vs F):NoIB u (λ k=>k=rg):=λ k a=>h.own.noIB (by decide) (by decide) k (by rw[a];rfl)
theorem RL.put(h:RL rg wA u n xs vs F)(hi:i<n)(d:LvO u rg v r):RL rg wA (layL u rg v.cells (i*6)) n xs (vs.set i v) (λ j x=>if j=i then r else F j x):=by
 have b:Zaa (λ k=>k=rg) u (layL u rg v.cells (i*6)):=Zal _ _ _;have l:=h.len;refine⟨h.own.lay (i:=i) (by omega) v,h.bel.trans (b.below (CD h.lt) (λ k g e=>by have f:k=rg:=e;omega)),h.size,λ j v' x a c=>?_⟩;by_cases e:j=i
 ·subst e;rw[AE rfl];rw[Cl (by omega)]at a;cases a;exact d.stays b h.noIB
 ·rw[Aw e];rw[CA (λ q=>e q.symm)]at a;exact(h.at_ j v' x a c).stays b h.noIB
theorem RL.fil(h:RL rg wA u n xs vs F)(d:vs[i]? = some v)(m:xs[i]? = some x){fa:Option Addr}{fn fc:Nat}{fb:Bs}(l:OwnG encB 5 u rg (Aa fa fn fc) fb):
  (∃z,u.cell? ⟨rg,i*6+5,none⟩=some z)/\u.frozen? ⟨rg,i*6+5,none⟩=false/\∃f,RL rg wA (u.setCell ⟨rg,i*6+5,none⟩ (Aa fa fn fc)) n xs f (λ j y=>if j=i then { F i x with fb:=fb }else F j y):=by
 have s:=h.len
 have hi:i<n:=by
  have:=(AC.1 d).1;omega
 have a:=h.own.there (i:=i) (by omega) 6 rfl (i*6) rfl 5 (by decide);have c:Zaa (λ k=>k=rg) u (u.setCell ⟨rg,i*6+5,none⟩ (Aa fa fn fc)):=Zad _ _;refine⟨Option.isSome_iff_exists.1 a.1,a.2,vs.set i { v with fa:=fa,fn:=fn,fc:=fc },OwnG.put h.own (i:=i) (j:=5) d (by decide) { v with fa:=fa,fn:=fn,fc:=fc } (Aa fa fn fc) (by simp[encL,LV.cells]),h.bel.trans (c.below (CD h.lt) (λ k r e=>by have p:k=rg:=e;omega)),h.size,λ j v' y b g=>?_⟩;by_cases e:j=i
 ·subst e;rw[AE rfl];rw[Cl (by omega)]at b;cases b;have q:=h.at_ j v x d m
  have o:LvO u rg { v with fa:=fa,fn:=fn,fc:=fc } { F j x with fb:=fb }:=⟨q.id,q.tree,q.date,q.gen,q.ps,l⟩
  exact o.stays c h.noIB
 ·rw[Aw e];rw[CA (λ q=>e q.symm)]at b;exact(h.at_ j v' y b g).stays c h.noIB
theorem RL.cast(h:RL rg wA u n xs vs F){a:Nat->UInt64->Rw}(hF:∀j x,j<n->xs[j]? = some x->F j x=a j x):RL rg wA u n xs vs a :=
 ⟨h.own,h.bel,h.size,λ j v x b c=>by
  have d:j<n:=by
   have:=(AC.1 b).1;rw[h.len]at this;exact this
  rw[<- hF j x d c]
  exact h.at_ j v x b c⟩
theorem Zqj(w:Ap)(B:Nat):LvO w B lv0 rw0:=⟨rfl,rfl,rfl,rfl,OwnG.nil _ _ _ _,OwnG.nil _ _ _ _⟩
end
structure RB(wA u:Ap)(s b:Nat)(st:St)(S:Nat->Prop)(m:Nat)(Q:List UInt64)(ra:Option Addr)(xs:List UInt64)(gc:Nat)(cvs:List CV)(ba:Option Addr)(bvs:List LV):Prop where
 sto:Zac u s b st S
 map:MapG kU u m (mpv Q) Q.length
 ids:RdG encU u ra xs
 com:RdG encCv u (some ⟨gc,0,none⟩) cvs
 at_:∀(i:Nat) (v:CV) (x:UInt64),cvs[i]? = some v->xs[i]? = some x->CvAt u gc v (st.com x)
 bel:RdG encL u ba bvs
theorem RB.below{u':Ap}{m:Nat}{e:Option Addr}{d:Nat}{c:List CV}{ba:Option Addr}{bvs:List LV}(h:RB wA u s b st S m Q e xs d c ba bvs)(a:An u.heap.size u u'):RB wA u' s b st S m Q e xs d c ba bvs :=
 ⟨h.sto.below a,h.map.turned (S:=λ _=>False) (Zaa.ofBelow a) (λ q=>q),h.ids.below a,h.com.below a,λ i v x f g=>(h.at_ i v x f g).below a,h.bel.below a⟩
def rowO(st:St)(Q:List UInt64)(x:UInt64):Rw:={ st.row Q x 0 with fb:=[] }
def F1(st:St)(Q:List UInt64)(i j:Nat)(x:UInt64):Rw:=if j<i then rowO st Q x else rw0
def F2(st:St)(Q:List UInt64)(G:List Int)(i j:Nat)(x:UInt64):Rw:=if j<i then st.row Q x (G.getD j 0)else { st.row Q x (G.getD j 0)with fb:=[] }
theorem RL.done{rg:Nat}(h:RL rg wA u n xs vs (F2 st Q G n))(f:xs.length=n)(e:G.length=n):LvsO u rg vs (st.rows Q xs G):=by
 refine⟨?_,λ i v r d c=>?_⟩
 ·unfold St.rows;rw[List.length_zipWith,h.len,f,e,Nat.min_self]
 ·have hi:i<n:=by
   have:=(AC.1 d).1;rw[h.len]at this;exact this
  have b:xs[i]? = some xs[i]:=Aq (by omega);have a:G[i]? = some G[i]:=Aq (by omega);unfold St.rows at c;rw[List.getElem?_zipWith,b,a]at c;cases c;have:=h.at_ i v _ d b;unfold F2 at this;rw[AE hi,List.getD,a]at this;exact this
end Go.Proofs.YtlojblelpaegpaaGreat
