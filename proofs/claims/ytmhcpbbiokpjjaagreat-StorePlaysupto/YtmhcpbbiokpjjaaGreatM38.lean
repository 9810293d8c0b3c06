/-
  Several texts, laid together.
-/
import Derived.Test.YtmhcpbbiokpjjaaGreatM37
import Derived.Shelf.SlIter.Collect
import Derived.RangeFuncBound
set_option maxHeartbeats 6400000
set_option maxRecDepth 100000
namespace Go.Proofs.YtmhcpbbiokpjjaaGreat
open Go.RowKit
open Go.Sort hiding Below
theorem ZmR (w:World):Calls Tryz.prog 189 #[.slice none 0 0,.int .i64 0,.int .i64 0] w λ e w'=>e=.returned (.tuple #[])/\w'=w:=by
 go_enter Tryz.func189,Tryz.ntmps189;go_wp2_with fail;go_loopg [6] 0 (λ _ v wr=>v=.int .i64 1/\wr=w)
 case atStart=>exact ⟨rfl,rfl⟩
 case round =>
  obtain ⟨rfl,rfl⟩:=hrel;go_wp2;refine bodyPost_end (v:=.tuple #[]) (results_none rfl _ _ _) rfl ?_;exact ⟨rfl,rfl⟩
theorem Zmy (w:World):Calls Tryz.prog 139 #[.slice none 0 0,.int .i64 0,.int .i64 0,.int .i64 0] w λ e w'=>e=.returned (.tuple #[])/\w'=w:=by
 have hc:=ZmR w;go_enter Tryz.func139,Tryz.ntmps139;go_wp2_with fail;go_loopg [1,2,3,8,9] 0 (λ _ s1 s2 s3 s8 s9 wr=>s1=.int .i64 0/\s2=.int .i64 0/\s3=.int .i64 0/\s8=.bool true/\s9=.bool true/\wr=w)
 case atStart=>exact ⟨rfl,rfl,rfl,rfl,rfl,rfl⟩
 case round =>
  obtain ⟨rfl,rfl,rfl,rfl,rfl,hwr⟩:=hrel;subst hwr;go_wp2_with fail;refine hc.mono ?_;rintro e w1 ⟨rfl,rfl⟩;go_wp2
  (try simp only [Exit.inBlock,Exit.then])
  refine bodyPost_ret (v:=.tuple #[]) (results_none rfl _ _ _) rfl ?_;exact ⟨rfl,rfl⟩
theorem Zj1 (w:World):Calls Tryz.prog 78 #[.slice none 0 0] w λ e w'=>e=.returned (.tuple #[])/\w'=w:=by
 have c1:=ZjV 0 (by omega) w;have c2:=Zmy w;rw [show bitsLen 0=0 from rfl] at c1;rw [show ((0:Nat):Int)=0 from rfl] at c1;go_enter Tryz.func78,Tryz.ntmps78;go_wp2_with fail;refine c1.mono ?_;rintro e w3 ⟨rfl,hw3⟩;rw [hw3];clear c1 hw3;go_wp2_with fail;refine c2.mono ?_;rintro e w4 ⟨rfl,hw4⟩;rw [hw4];clear c2 hw4;go_wp2;refine bodyPost_end (v:=.tuple #[]) (results_none rfl _ _ _) rfl ?_;exact ⟨rfl,rfl⟩
end Go.Proofs.YtmhcpbbiokpjjaaGreat
namespace Go.Proofs.YtmhcpbbiokpjjaaGreat
open Go.RowKit
open Go.Maps
abbrev encK (x:UInt64):Value:=.int .u64 (x.toNat:Int)
def litU (x:UInt64):Lit:=.int .u64 (x.toNat:Int)
theorem Zl9 {x y:UInt64} (h:encK x=encK y):x=y:=by
 unfold encK at h;simp only [Value.int.injEq,true_and] at h;exact UInt64.toNat_inj.1 (by omega)
theorem Zgc (x y:UInt64):(litU y).sameKey (litU x)=decide (y=x):=by
 by_cases e:y=x
 ·subst e;simp [litU,Lit.sameKey]
 ·have h:¬ (y.toNat:Int)=(x.toNat:Int):=λ q=>e (UInt64.toNat_inj.1 (by omega))
  simp only [litU,Lit.sameKey,e,decide_false];simp [h]
theorem ZjN {key:Value} {kl:Lit} (h:keyOf Tryz.prog 53 key=some kl):∃ x:UInt64,key=encK x/\kl=litU x:=by
 cases key <;> simp [keyOf,Tryz.underlying53,mapKey] at h
 rename_i q a
 obtain ⟨⟨rfl,hw⟩,rfl⟩:=h
 have hw':0<=a/\a<=18446744073709551615:=by simpa [Lit.wf,IntKind.min,IntKind.max,IntKind.signed,IntKind.bits] using hw
 refine ⟨UInt64.ofNat a.toNat,?_,?_⟩
 ·unfold encK;rw [UInt64.toNat_ofNat']
  congr 1
  omega
 ·unfold litU;rw [UInt64.toNat_ofNat']
  congr 1
  omega
def ZeJ {H:Type} (D0:DataW H) (left:Lit->Bool) (ss:List UInt64):Prop:=ss.Nodup/\∀ x,x∈ss↔(has D0 (litU x)=true/\left (litU x)=false)
def AllU {H:Type} (D0:DataW H) (ss:List UInt64):Prop:=ss.Nodup/\∀ x,x∈ss↔has D0 (litU x)=true
theorem ZeJ.start {H:Type} (D0:DataW H):ZeJ D0 (has D0) []:=⟨List.nodup_nil,λ x=>by cases has D0 (litU x) <;> simp⟩
theorem ZeJ.step {H:Type} {D0:DataW H} {left:Lit->Bool} {ss:List UInt64} (h:ZeJ D0 left ss) {x:UInt64} {y:DataW H} (hlk:left (litU x)=true) (hat:∀ zd,D0.atKey (litU x) zd=y):ZeJ D0 (λ z=>left z&&!z.sameKey (litU x)) (ss++[x]):=by
 have hhas:has D0 (litU x)=true:=has_true_of_atKey hat
 have hnew:x ∉ ss:=λ hx=>by have:=((h.2 x).1 hx).2; rw [hlk] at this; cases this
 refine ⟨List.nodup_append.2 ⟨h.1,by simp,λ a ha b hb=>by simp at hb; subst hb; exact λ e=>hnew (e ▸ ha)⟩,λ y=>?_⟩;by_cases hy:y=x
 ·subst hy;simp [hhas,Zgc]
 ·simp [h.2 y,hy,Zgc]
theorem ZeJ.all {H:Type} {D0:DataW H} {left:Lit->Bool} {ss:List UInt64} (h:ZeJ D0 left ss) (hl:∀ kl,left kl=false):AllU D0 ss:=⟨h.1,λ x=>by rw [h.2 x,hl]; simp⟩
theorem Zjl {H:Type} (F:Fence) (n:Nat) (h10:F.fn 150) (hro:F.round=none) (hn:1<=n) (l Bm b nn:Nat) (D0:DataW H) {R:Value->Option (DataW H×List MemPlace)} (J:List UInt64->World->Prop)
  (hY:∀ pre x W,J pre W->pre.length<Maps.size D0->YieldAt F (n - 1) Tryz.prog l #[encK x] W λ e W'=>e=.returned (.bool true)/\J (pre++[x]) W'/\KeepsWalks W W')
  (W:World) (hJ:AbidesFrom W.heap.size J) (hm:W.cell? ⟨Bm,0,none⟩=some (.map (some b))) (hown:W.ownsMap Tryz.prog 53 R b nn D0) (h0:J [] W) :
  CallsIn F n Tryz.prog 150 #[.func (.yield l) #[] #[],.pointer (some ⟨Bm,0,none⟩)] W λ e W'=>(∃ v,e=.returned v)/\∃ ss:List UInt64,AllU D0 ss/\J ss W':=by
 refine callsIn_of_wp Tryz.func150 rfl h10 ?_ hro;simp only [Tryz.ntmps150,List.size_toArray,List.length_cons,List.length_nil,Nat.reduceAdd,Nat.reduceSub,Array.replicate_succ,Array.replicate_zero,List.push_toArray,List.append_toArray,List.nil_append,List.cons_append]
 gi_wp2_with (first
  | (gi_at_range; refine wpListIn_range_own _ rfl _ 172 rfl 53 39 kU.keyed Tryz.underlying172 _ b nn _ rfl hown ?_; intro w0 hrg0 hg0 hs0)
  | gi_in)
 go_frame
 gi_loopw [3] (λ _ wr=>∃ (left:Lit->Bool) (cnt:Nat) (ss:List UInt64),wr.ranges Tryz.prog 53 R b W.heap.size nn D0 left cnt/\ss.length+cnt<=Maps.size D0/\ZeJ D0 left ss/\J ss wr)
  (λ _ wr=>wr.rangeLeft b W.heap.size)
 case atStart =>
  exact ⟨_,_,[],hrg0,by simp,ZeJ.start D0,hJ [] W w0 none h0 hg0 (λ r e=>by cases e)⟩
 case round =>
  obtain ⟨left,cnt,ss,hrg,hcs,hC,hJs⟩:=hrel
  gi_wp2_with (first
   | (gi_at_next; refine wpListIn_next_ranges _ rfl _ rfl 53 kU.keyed R encK id (λ key kl hk=>by obtain ⟨x,hx,_⟩:=ZjN hk; exact ⟨x,hx⟩) (λ v _ _=>⟨v,rfl⟩) b W.heap.size nn _ _ _ rfl hrg ?_ ?_)
   | gi_in)
  ·intro hc0 hl0
   gi_wp2
   go_end0;exact ⟨⟨_,rfl⟩,ss,hC.all hl0,hJs⟩
  ·intro x c kl yd yp w2 cnt2 hkey hlk hv hat hrg2 hlt hg2 hs2 hen;obtain ⟨x',ex,rfl⟩:=ZjN hkey;obtain rfl:x=x':=Zl9 ex;have hJ2:J ss w2:=hJ ss wr w2 (some W.heap.size) hJs hg2 (λ r e=>by cases e; exact ⟨Nat.le_refl _,hrg.iter_walk⟩);obtain ⟨fn,tmps,assign,body,hy,hR⟩:=hY ss x w2 hJ2 (by omega);clear hs2
   gi_wp2
   refine hR.mono ?_;rintro e W3 ⟨rfl,hJ3,hk3⟩
   gi_wp2
   have hrg3:=hrg2.of_walks hk3;go_roundw
   case rel=>exact ⟨_,cnt2,ss++[x],hrg3,by simp; omega,hC.step hlk hat,hJ3⟩
   case measure=>rw [hrg3.left_eq,hrg.left_eq]; exact hlt
theorem Zgl {H:Type} (F:Fence) (n:Nat) (h10:F.fn 150) (hro:F.round=none) (hn:1<=n) (Bm b nn:Nat) (D0:DataW H) {R:Value->Option (DataW H×List MemPlace)} (w:World) (hBm:Bm<w.heap.size)
  (hm:w.cell? ⟨Bm,0,none⟩=some (.map (some b))) (hown:w.ownsMap Tryz.prog 53 R b nn D0) :
  SeqGives F n Tryz.prog 150 #[.pointer (some ⟨Bm,0,none⟩)] encK (AllU D0) (Maps.size D0) w:=λ l J W hW hJ hY h0=>by
 have hown':W.ownsMap Tryz.prog 53 R b nn D0:=by
  have hbl:=hown.lt;obtain ⟨es,clock,hb,Ft,hs,hD⟩:=hown;exact ⟨es,clock,(hW.block b hbl).trans hb,Ft,hs,hD⟩
 exact Zjl F n h10 hro hn l Bm b nn D0 J hY W hJ ((hW.cell (p:=⟨Bm,0,none⟩) hBm).trans hm) hown' h0
theorem Zld (F:Fence) (n:Nat) (h7:F.fn 91) (hro:F.round=none) (mb:Option Nat) (w:World) :
  CallsIn F n Tryz.prog 91 #[.map mb] w λ e w'=>e=.returned (.func (.func 150) #[] #[.pointer (some ⟨w.heap.size,0,none⟩)])/\w'=w.alloc (.cells #[.map mb] 172):=by
 refine callsIn_of_wp Tryz.func91 rfl h7 ?_ hro;simp only [Tryz.ntmps91,List.size_toArray,List.length_cons,List.length_nil,Nat.reduceAdd,Nat.reduceSub,Array.replicate_succ,Array.replicate_zero,List.push_toArray,List.append_toArray,List.nil_append,List.cons_append]
 gi_wp2
 go_ret;exact ⟨rfl,rfl⟩
def uapAssign : Code := (Code.region 2 #[{ dst := some 5, op := Op.assign (Operand.tmp 7), type := 53, pos := "iter.go:51", after := #[], guard := none }] false)
def uapBody : Code := (Code.block 1 (Code.region 3 #[{ dst := some 8, op := Op.load 33 (Operand.tmp 2), type := 33, pos := "iter.go:52", after := #[], guard := none }, { dst := some 9, op := Op.move (Operand.tmp 5), type := 53, pos := "iter.go:52", after := #[], guard := none }, { dst := some 10, op := Op.buildSlice 33 1 #[(0, Operand.tmp 9)], type := 33, pos := "iter.go:52", after := #[{ on := 1, ground := Ground.data }], guard := none }, { dst := some 11, op := Op.call { callee := Callee.builtin Builtin.append, args := #[Operand.tmp 8, Operand.tmp 10], argTypes := #[33, 33] }, type := 33, pos := "iter.go:52", after := #[{ on := 0, ground := Ground.data }, { on := 2, ground := Ground.data }], guard := none }, { dst := none, op := Op.store 33 (Operand.tmp 2) (Operand.tmp 11), type := 0, pos := "iter.go:52", after := #[{ on := 3, ground := Ground.data }, { on := 3, ground := Ground.chain }, { on := 0, ground := Ground.phase }, { on := 1, ground := Ground.phase }, { on := 2, ground := Ground.phase }, { on := 3, ground := Ground.phase }], guard := none }] false))
def uapRec (fn:FuncId) (sv:Value) (Bs D:Nat) (st:LoopState) (pend:Option Code):Loop :=
 { state:=st,pending:=pend,fn,tmps:=#[.slice none 0 0,sv,.pointer (some ⟨Bs,0,none⟩),undef,.slice none 0 0,undef,sv,undef,undef,undef,undef,undef,undef],params:=#[7],assign:=uapAssign,body:=uapBody,defers:=D }
structure ZkM (w0:World) (fn:FuncId) (sv:Value) (Bs l D:Nat) (ss:List UInt64) (W:World):Prop where
 box:∃ v,W.heap[Bs]? = some (.cells #[v] 33 (0,0))/\W.ownsRow w0.heap.size 53 1 v ss.length (ss.map encK)/\(v=.slice none 0 0↔ss=[])
 L:W.heap[l]? = some (.loop (uapRec fn sv Bs D .ready none))
 K:W.heap[D]? = some (.deferred (some []))
 below:Below w0.heap.size w0 W
theorem Zis (w0:World) (fn:FuncId) (sv:Value) (Bs l D B:Nat) (hB:w0.heap.size<=B):AbidesFrom B (ZkM w0 fn sv Bs l D):=λ s W W' row h hg hrow=>by
 have hrow':∀ r,row=some r->∃ o:Obj,W.heap[r]? = some o/\o.isWalk=true:=λ r e=>(hrow r e).2
 obtain ⟨v,hv,hr,hn⟩:=h.box
 exact ⟨⟨v,(grownBy_keeps hg hrow' hv rfl).trans hv,ownsRow_abides_a hr hg hrow',hn⟩,(grownBy_keeps hg hrow' h.L rfl).trans h.L,(grownBy_keeps hg hrow' h.K rfl).trans h.K,
  h.below.grown hg h.below.size (λ k e=>Nat.le_trans hB (hrow k e).1)⟩
theorem uapYield (F:Fence) (m:Nat) (w0:World) (fn:FuncId) (hfn:F.fn fn) (sv:Value) (Bs l D:Nat) (hBl:Bs≠l) (hDl:D≠l) (hDB:D≠Bs) (h0B:w0.heap.size<=Bs) (h0l:w0.heap.size<=l)
  (N:Nat) (hN:N<=maxLen) (hNb:N*8<=140737488355328) (ss:List UInt64) (x:UInt64) (W:World) (h:ZkM w0 fn sv Bs l D ss W) (hlen:ss.length<N) :
  YieldAt F m Tryz.prog l #[encK x] W λ e W'=>e=.returned (.bool true)/\ZkM w0 fn sv Bs l D (ss++[x]) W'/\KeepsWalks W W':=by
 obtain ⟨i0,hi,hz0,hz1,hz2⟩:=info_parts (P:=Tryz.prog) (e:=53) Tryz.info53;obtain ⟨v,hv,hrow,_⟩:=h.box
 have hne:¬ (33=53):=by decide
 refine ⟨fn,#[.slice none 0 0,sv,.pointer (some ⟨Bs,0,none⟩),undef,.slice none 0 0,undef,sv,encK x,undef,undef,undef,undef,undef],uapAssign,uapBody,by simpa [uapRec] using run_yield (P:=Tryz.prog) (args:=#[encK x]) h.L rfl,roundIn_of_wpIn hfn ?_⟩;have hl:l<W.heap.size:=(Array.getElem?_eq_some_iff.1 h.L).1;have hbr:=run_beginRound (P:=Tryz.prog) h.L rfl
 obtain ⟨W2,hW2⟩:∃ W2,W.putObj l (.loop { uapRec fn sv Bs D .ready none with state:=.busy })=W2:=⟨_,rfl⟩
 rw [hW2] at hbr
 have hg2:W.grownBy W2 (some l):=by rw [<- hW2]; exact grownBy_putObj_a _ _ _
 have hk2:KeepsWalks W W2:=by rw [<- hW2]; exact KeepsWalks.putObj _ h.L rfl
 have hv2:W2.heap[Bs]? = some (.cells #[v] 33 (0,0)):=by rw [<- hW2]; exact (World.putObj_heap_other hBl).trans hv
 have hK2:W2.heap[D]? = some (.deferred (some [])):=by rw [<- hW2]; exact (World.putObj_heap_other hDl).trans h.K
 have hL2:W2.heap[l]? = some (.loop { uapRec fn sv Bs D .ready none with state:=.busy }):=by rw [<- hW2]; exact World.putObj_heap_same hl
 have hrow2:W2.ownsRow w0.heap.size 53 1 v ss.length (ss.map encK):=hrow.kept hg2 (ownsRow_ne_a hrow h.L (λ cur e=>by first | cases e | exact hne (Obj.cells.inj e).2.1));have hb2:Below w0.heap.size w0 W2:=h.below.grown hg2 h.below.size (λ k e=>by cases e; exact h0l);obtain ⟨hc2,hf2⟩:=cell_of_box_a hv2;have hBlt:Bs<W2.heap.size:=(Array.getElem?_eq_some_iff.1 hv2).1;have hl2:l<W2.heap.size:=(Array.getElem?_eq_some_iff.1 hL2).1;have hDlt:D<W2.heap.size:=(Array.getElem?_eq_some_iff.1 hK2).1
 have ne_of:∀ {j:Nat} {o:Obj},W2.heap[j]? = some o->(∀ cur,o≠.cells cur 53 (0,0))->some j≠v.ownBlock:=λ hj hno=>by
  rcases ownsRow_ne_a hrow2 hj hno with e | e
  ·rw [e]; simp
  ·exact λ e'=>e e'.symm
 clear hW2;unfold uapAssign
 gi_wp2_with gi_round_op_a
 unfold uapBody
 gi_wp2_with (first
  | (gi_at_builtin; refine wpListIn_append_own _ rfl _ _ 33 rfl w0.heap.size 53 i0 (.int .u64 0) 1 8 Tryz.underlying33 hi hz0 hz1 hz2 rfl (by decide) _ _ _ rfl (hrow2.alloc _) ⟨W2.heap.size,0,none⟩ 1 1 [encK x] rfl rfl (Zc8 _ _ _) (by simp [Value.oneCell',encK]) (by omega) (by omega) (by have:=hb2.size; simp; omega) ?_; intro v' w3 hown' hg3 hnil3
     have hv3:w3.heap[Bs]? = some (.cells #[v] 33 (0,0)):=(hg3.block Bs (by simp; omega) (ne_of hv2 (λ cur e=>by first | cases e | exact hne (Obj.cells.inj e).2.1))).trans ((Below.heap_alloc _ _ Bs hBlt).trans hv2);obtain ⟨hc3,hf3⟩:=cell_of_box_a hv3
     obtain ⟨g',cap',cur',rfl,hbase',hgb',hr1,hr2,hr3,hr4⟩:∃ g' cap' cur',v'=.slice (some ⟨g',0,none⟩) (ss.length+1) cap'/\w0.heap.size<=g'/\w3.heap[g']? = some (.cells cur' 53 (0,0))/\ss.length+1<=cap'/\cap'<=maxLen/\cur'.size=cap'*1/\cur'.toList.take ((ss.length+1)*1)=ss.map encK++[encK x]:=by
       rcases hown'.2 with ⟨_,h0⟩ | h'
       · exact absurd h0 (by omega)
       · exact h'
     go_frame)
  | gi_round_op_a)
 have hg3':(W2.alloc (.cells #[encK x] 53)).grownBy w3 v.ownBlock:=hg3;have hL3:w3.heap[l]? = some (.loop { uapRec fn sv Bs D .ready none with state:=.busy }):=(hg3'.block l (by simp; omega) (ne_of hL2 (λ cur e=>by first | cases e | exact hne (Obj.cells.inj e).2.1))).trans ((Below.heap_alloc _ _ l hl2).trans hL2);have hK3:w3.heap[D]? = some (.deferred (some [])):=(hg3'.block D (by simp; omega) (ne_of hK2 (λ cur e=>by first | cases e | exact hne (Obj.cells.inj e).2.1))).trans ((Below.heap_alloc _ _ D hDlt).trans hK2)
 obtain ⟨w4,hw4⟩:∃ w4,w3.setCell ⟨Bs,0,none⟩ (.slice (some ⟨g',0,none⟩) (ss.length+1) cap')=w4:=⟨_,rfl⟩
 rw [hw4]
 have hg4:w3.grownBy w4 (some Bs):=by rw [<- hw4]; exact grownBy_setCell0_a _ _ _
 have hv4:w4.heap[Bs]? = some (.cells #[.slice (some ⟨g',0,none⟩) (ss.length+1) cap'] 33 (0,0)):=by rw [<- hw4]; exact heap_setCell_box_a _ hv3
 have hL4:w4.heap[l]? = some (.loop { uapRec fn sv Bs D .ready none with state:=.busy }):=(hg4.block l (Array.getElem?_eq_some_iff.1 hL3).1 (λ e=>hBl (by cases e; rfl))).trans hL3;have hK4:w4.heap[D]? = some (.deferred (some [])):=(hg4.block D (Array.getElem?_eq_some_iff.1 hK3).1 (λ e=>hDB (by cases e; rfl))).trans hK3;have hrow4:=hown'.kept hg4 (ownsRow_ne_a hown' hv3 (λ cur e=>by first | cases e | exact hne (Obj.cells.inj e).2.1));have hl4:l<w4.heap.size:=(Array.getElem?_eq_some_iff.1 hL4).1;have hb3:Below w0.heap.size w0 w3:=(hb2.alloc hb2.size _).grown hg3' (by have:=hb2.size; simp; omega) (λ k e=>(hrow2.lt k e).1);have hb4:Below w0.heap.size w0 w4:=hb3.grown hg4 hb3.size (λ k e=>by cases e; exact h0B);have hk4:KeepsWalks W w4:=((hk2.trans (KeepsWalks.alloc _ _)).trans (KeepsWalks.of_grownBy hg3' (ownsRow_not_walk_a (hrow2.alloc _)))).trans (by rw [<- hw4]; exact KeepsWalks.setCell _ _ _);clear hw4;refine ⟨_,_,run_endRound none hL4,rfl,⟨⟨_,(World.putObj_heap_other hBl).trans hv4,?_,by simp⟩,World.putObj_heap_same hl4,(World.putObj_heap_other hDl).trans hK4,hb4.grown (grownBy_putObj_a _ _ _) hb4.size (λ k e=>by cases e; exact h0l)⟩,hk4.trans (KeepsWalks.putObj _ hL4 rfl)⟩;have:=hrow4.kept (grownBy_putObj_a w4 l (.loop { { uapRec fn sv Bs D .ready none with state:=.busy } with state:=if (none:Option Code).isNone then .ready else .done,pending:=none })) (ownsRow_ne_a hrow4 hL4 (λ cur e=>by first | cases e | exact hne (Obj.cells.inj e).2.1));simpa using this
theorem ZeZ (F:Fence) (n:Nat) (h11:F.fn 215) (hro:F.round=none) (hn:2<=n) (g:Nat) (lb:Array Value) (hFg:F.fn g) (eg:∀ args w,(callFunc g args).run Tryz.prog w=.ok (.enter g args) w)
  (S:List UInt64->Prop) (N:Nat) (hN:N<=maxLen) (hNb:N*8<=140737488355328) (w:World) (hseq:SeqGives F (n - 1) Tryz.prog g lb encK S N w) :
  CallsIn F n Tryz.prog 215 #[.slice none 0 0,.func (.func g) #[] lb] w λ e w'=>∃ (v:Value) (ss:List UInt64),e=.returned v/\S ss/\w'.ownsRow w.heap.size 53 1 v ss.length (ss.map encK)/\(v=.slice none 0 0↔ss=[])/\Below w.heap.size w w':=by
 have h1:1<=n:=by omega
 have hne:¬ (33=53):=by decide
 refine callsIn_of_wp_marks Tryz.func215 rfl h11 ?_ hro;simp only [Tryz.ntmps215,List.size_toArray,List.length_cons,List.length_nil,Nat.reduceAdd,Nat.reduceSub,Array.replicate_succ,Array.replicate_zero,List.push_toArray,List.append_toArray,List.nil_append,List.cons_append]
 gi_wp2
 refine wpIn_rangeFunc ?_;intro fn hfn;rw [hro]
 obtain ⟨W0,hW0⟩:∃ W0,w.alloc (.cells #[.slice none 0 0] 33)=W0:=⟨_,rfl⟩
 have hs0:W0.heap.size=w.heap.size+1:=by rw [<- hW0]; simp
 have hv0:W0.heap[w.heap.size]? = some (.cells #[.slice none 0 0] 33 (0,0)):=by rw [<- hW0]; exact World.alloc_heap_new w _
 have hb0:Below w.heap.size w W0:=by rw [<- hW0]; exact (Below.refl _ w).alloc (Nat.le_refl _) _
 rw [hW0]
 obtain ⟨W1,hW1⟩:∃ W1,(W0.alloc (.deferred (some []))).alloc (.loop (uapRec fn (.func (.func g) #[] lb) w.heap.size W0.heap.size .ready none))=W1:=⟨_,rfl⟩
 have hold:∀ k,k<W0.heap.size->W1.heap[k]? = W0.heap[k]? := λ k hk=>by
  rw [<- hW1]; exact (Below.heap_alloc _ _ k (by simp; omega)).trans (Below.heap_alloc _ _ k hk)
 have hb1:Below w.heap.size w W1:=by rw [<- hW1]; exact (hb0.alloc hb0.size _).alloc (by have:=hb0.size; simp; omega) _
 have hs1:W1.heap.size=W0.heap.size+2:=by rw [<- hW1]; simp
 have hM:ZkM w fn (.func (.func g) #[] lb) w.heap.size (W0.heap.size+1) W0.heap.size [] W1 :=
  ⟨⟨_,(hold w.heap.size (by omega)).trans hv0,⟨rfl,.inl ⟨rfl,rfl⟩⟩,by simp⟩,
   by rw [<- hW1]; have:=World.alloc_heap_new (W0.alloc (.deferred (some []))) (.loop (uapRec fn (.func (.func g) #[] lb) w.heap.size W0.heap.size .ready none)); rwa [World.size_alloc] at this,
   by rw [<- hW1]; exact (Below.heap_alloc _ _ _ (by simp)).trans (World.alloc_heap_new W0 _),hb1⟩
 refine ⟨W0.heap.size+1,[{ target:=.collected W0.heap.size,args:=#[] }],W1,{ target:=.fn (.func g) lb,args:=#[.func (.yield (W0.heap.size+1)) #[] #[]] },W1,g,
  #[.func (.yield (W0.heap.size+1)) #[] #[]]++lb,W1,?_,?_,?_,?_,λ _=>h1,?_⟩
 ·rw [<- hW1]; exact run_enterLoop_outer _ _ _ _ _
 ·simp [resolve,go_sem]
 ·intro f' hf'; simp [Target.leads] at hf'; subst hf'; exact hFg
 ·simp [invoke,go_sem,eg]
 ·refine (hseq (W0.heap.size+1) (ZkM w fn (.func (.func g) #[] lb) w.heap.size (W0.heap.size+1) W0.heap.size) W1 hb1 (Zis _ _ _ _ _ _ _ hb1.size)
   (λ pre x W hJ hl=>uapYield F (n - 1 - 1) w fn hfn _ w.heap.size (W0.heap.size+1) W0.heap.size (by omega) (by omega) (by omega) (Nat.le_refl _) (by omega) N hN hNb pre x W hJ hl) hM).mono ?_
  rintro e W2 ⟨⟨v0,rfl⟩,ss,hS,h2⟩;obtain ⟨v,hv,hrow,hnil⟩:=h2.box;have hend:=run_endLoop (P:=Tryz.prog) h2.L (by simp [uapRec])
  obtain ⟨W3,hW3⟩:∃ W3,W2.putObj (W0.heap.size+1) (.loop { uapRec fn (.func (.func g) #[] lb) w.heap.size W0.heap.size .ready none with state:=.exhausted })=W3:=⟨_,rfl⟩
  rw [hW3] at hend
  have hg3:W2.grownBy W3 (some (W0.heap.size+1)):=by rw [<- hW3]; exact grownBy_putObj_a _ _ _
  have hv3:W3.heap[w.heap.size]? = some (.cells #[v] 33 (0,0)):=by rw [<- hW3]; exact (World.putObj_heap_other (by omega)).trans hv
  have hK3:W3.heap[W0.heap.size]? = some (.deferred (some [])):=by rw [<- hW3]; exact (World.putObj_heap_other (by omega)).trans h2.K
  have hrow3:=hrow.kept hg3 (ownsRow_ne_a hrow h2.L (λ cur e=>by first | cases e | exact hne (Obj.cells.inj e).2.1));have hb3:Below w.heap.size w W3:=h2.below.grown hg3 h2.below.size (λ k e=>by cases e; omega);obtain ⟨hc3,hf3⟩:=cell_of_box_a hv3;clear hW3;refine ⟨none,W3,hend,?_⟩
  gi_wp2
  rw [<- hs0];refine ⟨by simp,.inl ⟨_,_,rfl,run_takeDeferred hK3,?_⟩⟩;exact ⟨_,results_tmp rfl _ _ _,v,ss,rfl,hS,hrow3.kept (grownBy_putObj_a _ _ _) (ownsRow_ne_a hrow3 hK3 (λ cur e=>by first | cases e | exact hne (Obj.cells.inj e).2.1)),hnil,hb3.grown (grownBy_putObj_a _ _ _) hb3.size (λ k e=>by cases e; omega)⟩
theorem Zgf (F:Fence) (n:Nat) (h8:F.fn 149) (h11:F.fn 215) (hro:F.round=none) (hn:3<=n) (g:Nat) (lb:Array Value) (hFg:F.fn g) (eg:∀ args w,(callFunc g args).run Tryz.prog w=.ok (.enter g args) w)
  (S:List UInt64->Prop) (N:Nat) (hN:N<=maxLen) (hNb:N*8<=140737488355328) (w:World) (hseq:SeqGives F (n - 1 - 1) Tryz.prog g lb encK S N w) :
  CallsIn F n Tryz.prog 149 #[.func (.func g) #[] lb] w λ e w'=>∃ (v:Value) (ss:List UInt64),e=.returned v/\S ss/\w'.ownsRow w.heap.size 53 1 v ss.length (ss.map encK)/\(v=.slice none 0 0↔ss=[])/\Below w.heap.size w w':=by
 have h1:1<=n:=by omega
 refine callsIn_of_wp Tryz.func149 rfl h8 ?_ hro;simp only [Tryz.ntmps149,List.size_toArray,List.length_cons,List.length_nil,Nat.reduceAdd,Nat.reduceSub,Array.replicate_succ,Array.replicate_zero,List.push_toArray,List.append_toArray,List.nil_append,List.cons_append]
 gi_wp2_with (gi_at_call 215; refine (ZeZ F (n - 1) h11 hro (by omega) g lb hFg eg S N hN hNb _ hseq).mono ?_; rintro e w' ⟨v,ss,rfl,hS,hrow,hnil,hb⟩)
 go_ret;exact ⟨v,ss,rfl,hS,hrow,hnil,hb⟩
theorem ZjZ {l l':List UInt64} (h:l.Perm l'):risU l=risU l':=by
 have tr:∀ a b c:UInt64,decide (a<=b)=true->decide (b<=c)=true->decide (a<=c)=true:=λ a b c h1 h2=>by
  simp only [decide_eq_true_eq,UInt64.le_iff_toNat_le] at *;omega
 have tot:∀ a b:UInt64,(decide (a<=b)||decide (b<=a))=true:=λ a b=>by
  simp only [Bool.or_eq_true,decide_eq_true_eq,UInt64.le_iff_toNat_le];omega
 refine List.Perm.eq_of_pairwise (le:=λ a b=>decide (a<=b)=true) (λ a b _ _ h1 h2=>?_) (List.pairwise_mergeSort tr tot l) (List.pairwise_mergeSort tr tot l') (((List.mergeSort_perm l _).trans h).trans (List.mergeSort_perm l' _).symm);simp only [decide_eq_true_eq,UInt64.le_iff_toNat_le] at h1 h2;exact UInt64.toNat_inj.1 (by omega)
theorem Zfb {l:List UInt64} {x:UInt64}:x∈risU l↔x∈l:=(List.mergeSort_perm l _).mem_iff
theorem ZeC (l:List UInt64):(risU l).length=l.length:=(List.mergeSort_perm l _).length_eq
theorem Zl8 {w:World} {base:Nat} {v:Value} {xs:List UInt64} (h:OwnG encU 53 w base v xs) (hn:xs.length<=1000000000000) :
  Calls Tryz.prog 78 #[v] w λ e w'=>e=.returned (.tuple #[])/\Hid (∃ a c,v=.slice a xs.length c/\xs.length<=c/\RdG encU w' a (risU xs)/\Zaa (λ k=>v.ownBlock=some k) w w'):=by
 rcases h.2 with ⟨rfl,h0⟩ | ⟨g,cap,cur,rfl,h1,h2,h3,h4,h5,h6⟩
 ·have e0:xs=[]:=List.eq_nil_of_length_eq_zero h0;subst e0;refine (Zj1 w).mono ?_;rintro e w' ⟨rfl,rfl⟩;exact ⟨rfl,none,0,rfl,Nat.le_refl _,by simpa [risU] using RdG.nil encU w' none,Zaa.refl _ _⟩
 ·have hs:=h.sr;refine (Zkh hs.1 (n:=xs.length) (c:=cap) (by simp) hn).mono ?_;rintro e w' ⟨rfl,J⟩;refine ⟨rfl,some ⟨g,0,none⟩,cap,rfl,h3,?_,J.out.2.mono (λ k _ q=>by have q':k=g:=q; rw [q']; rfl)⟩;intro h0;refine ⟨g,0,rfl,J.out.1.lt,λ i x hx j u hu=>?_⟩
  have hi:i<(risU xs).length:=by
   rcases Nat.lt_or_ge i (risU xs).length with q | q
   ·exact q
   ·rw [List.getElem?_eq_none q] at hx; cases hx
  have hsz:i<(Go.Sort.sort ltU xs.toArray).size:=by
   rw [Zh1];rw [ZeC] at hi;simpa using hi
  have hc:=J.out.1.cell hsz
  have hj:j=0:=by
   rcases Nat.eq_zero_or_pos j with q | q
   ·exact q
   ·rw [List.getElem?_eq_none (by show 1<=j; omega)] at hu; cases hu
  subst hj;cases hu;have hl:(Go.Sort.sort ltU xs.toArray).toList=risU xs:=sortU xs.toArray
  have hx2:(Go.Sort.sort ltU xs.toArray)[i]! = x:=by
   rw [getElem!_pos _ i hsz]
   have h7:(Go.Sort.sort ltU xs.toArray).toList[i]? = some x:=by rw [hl]; exact hx
   rw [Array.getElem?_toList,Array.getElem?_eq_getElem hsz] at h7;exact Option.some.inj h7
  rw [hx2] at hc;simpa [encU] using hc
theorem ZmY (ss:List UInt64):ss.map encK=encU.all ss:=by
 induction ss with
 | nil=>rfl
 | cons x t ih =>
  show encK x::t.map encK=encU.cells x++encU.all t;rw [ih]
  rfl
theorem Zgw {w:World} {Bm b nn:Nat} {f:UInt64->Option Value} (hBm:Bm<w.heap.size) (hm:w.cell? ⟨Bm,0,none⟩=some (.map (some b))) (hown:MapG kU w b f nn) (hn:nn<=1000000000000) :
  Calls Tryz.prog 90 #[.func (.func 150) #[] #[.pointer (some ⟨Bm,0,none⟩)]] w λ e w'=>∃ (a:Option Addr) (n c:Nat) (ss:List UInt64),e=.returned (.slice a n c)/\Hid (n<=c/\ss.length=n/\ss.Nodup/\(∀ x,x∈ss↔(f x).isSome=true)/\RdG encU w' a (risU ss)/\Below w.heap.size w w'):=by
 obtain ⟨D,hD,hsz,hh,_⟩:=hown
 have hC:Calls Tryz.prog 149 #[.func (.func 150) #[] #[.pointer (some ⟨Bm,0,none⟩)]] w λ e w'=>∃ (v:Value) (ss:List UInt64),e=.returned v/\(AllU D ss/\ss.length<=Maps.size D)/\w'.ownsRow w.heap.size 53 1 v ss.length (ss.map encK)/\(v=.slice none 0 0↔ss=[])/\Below w.heap.size w w' :=
  callsIn_wide.1 (Zgf Fence.wide 3 trivial trivial rfl (Nat.le_refl _) 150 #[.pointer (some ⟨Bm,0,none⟩)] trivial (enters_of Tryz.func150 (by kernel_rfl) rfl) _ (Maps.size D) (by simp only [maxLen]; omega) (by omega) w
   (Zgl Fence.wide 1 trivial rfl (Nat.le_refl _) Bm b nn D w hBm hm hD).bounded)
 have HB:Hid (Maps.size D=nn/\∀ x,Maps.has D (litU x)=(f x).isSome):=⟨hsz,hh⟩
 clear hD hsz hh hm;go_enter Tryz.func90,Tryz.ntmps90;go_wp2_with fail;refine hC.mono ?_;rintro e w1 ⟨v,ss,rfl,hS,hrow,_,hb⟩
 have ho:OwnG encU 53 w1 w.heap.size v ss:=by
  unfold OwnG;rw [<- ZmY];exact hrow
 have hs:=Zl8 ho (by have:=hS.2; have:=HB.out.1; omega)
 have H1:Hid (OwnG encU 53 w1 w.heap.size v ss/\AllU D ss/\Below w.heap.size w w1):=⟨ho,hS.1,hb⟩
 clear hC hrow ho hS hb;go_wp2_with fail;refine hs.mono ?_;rintro e w2 ⟨rfl,J⟩;clear hs;obtain ⟨a,c,hv,j1,j2,j3⟩:=J.out
 have FIN:Hid (ss.length<=c/\ss.Nodup/\(∀ x,x∈ss↔(f x).isSome=true)/\RdG encU w2 a (risU ss)/\Below w.heap.size w w2):=by
  refine ⟨j1,H1.out.2.1.1,λ x=>?_,j2,H1.out.2.2.trans (j3.below H1.out.2.2.size (λ k hk q=>?_))⟩
  ·rw [H1.out.2.1.2 x,HB.out.2]
  ·have:=(H1.out.1.lt k q).1;omega
 subst hv;clear j1 j2 j3 J H1 HB;go_wp2;go_ret;exact ⟨a,_,c,ss,rfl,FIN.out.1,rfl,FIN.out.2⟩
def St.coms (st:St):List UInt64:=risU ((st.objs.filter (λ o=>decide (o.kind=3))).map (·.id))
theorem ZhO {st:St} {x:UInt64}:x∈st.coms↔st.has 3 x=true:=by
 unfold St.coms;rw [Zfb,List.mem_map];unfold St.has
 cases e:oget st.objs 3 x with
 | none =>
  constructor
  ·rintro ⟨o,ho,rfl⟩;rw [List.mem_filter] at ho;exact absurd ⟨by simpa using ho.2,rfl⟩ (ZdQ.1 e o ho.1)
  ·intro q;cases q
 | some b =>
  simp only [Option.isSome_some,iff_true];exact ⟨⟨3,x,b⟩,List.mem_filter.2 ⟨Za6 e,by simp⟩,rfl⟩
theorem ZiL {st:St} (h:st.objs.Pairwise (λ a b=>¬ (a.kind=b.kind/\a.id=b.id))):((st.objs.filter (λ o=>decide (o.kind=3))).map (·.id)).Nodup:=by
 refine List.pairwise_map.2 ?_;refine (h.filter _).imp_of_mem ?_;intro a b ha hb q e;rw [List.mem_filter] at ha hb;have ha:=ha.2;have hb:=hb.2;simp only [decide_eq_true_eq] at ha hb;exact q ⟨by rw [ha,hb],e⟩
theorem Zje {st:St} (h:st.objs.Pairwise (λ a b=>¬ (a.kind=b.kind/\a.id=b.id))) {ss:List UInt64} (hn:ss.Nodup) (hm:∀ x,x∈ss↔st.has 3 x=true):risU ss=st.coms:=by
 unfold St.coms;apply ZjZ;refine (List.perm_ext_iff_of_nodup hn (ZiL h)).2 (λ x=>?_);rw [hm,<- ZhO];unfold St.coms;rw [Zfb]
theorem ZgL {w:World} {s b:Nat} {st:St} {S:Nat->Prop} (h:Zac w s b st S) (h1:st.objs.Pairwise (λ a b=>¬ (a.kind=b.kind/\a.id=b.id))) (hn:st.objs.length<=1000000000000) :
  Calls Tryz.prog 23 #[.pointer (some ⟨s,0,none⟩)] w λ e w'=>∃ (a:Option Addr) (n c:Nat),e=.returned (.slice a n c)/\Hid (n<=c/\st.coms.length=n/\RdG encU w' a st.coms/\Below w.heap.size w w'):=by
 obtain ⟨M,r,t,F,h⟩:=h;obtain ⟨n3,hn3,hm3⟩:=h.objs 3 (by omega);obtain ⟨c0,c1,c2,c3,c4,c5,c6⟩:=h.cell
 have hk:Calls Tryz.prog 91 #[.map (some (M 3))] w λ e w'=>e=.returned (.func (.func 150) #[] #[.pointer (some ⟨w.heap.size,0,none⟩)])/\w'=w.alloc (.cells #[.map (some (M 3))] 172) :=
  callsIn_wide.1 (Zld Fence.wide 1 trivial rfl (some (M 3)) w)
 have hs:=Zgw (w:=w.alloc (.cells #[.map (some (M 3))] 172)) (Bm:=w.heap.size) (b:=M 3) (f:=F 3) (nn:=n3) (by simp) (by simp) (hm3.turned (S:=λ _=>False) (Zaa.ofBelow (bz1 w _)) (λ q=>q)) (by omega)
 have HF:Hid (st.objs.Pairwise (λ a b=>¬ (a.kind=b.kind/\a.id=b.id))/\∀ x,(F 3 x).isSome=st.has 3 x):=by
  refine ⟨h1,λ x=>?_⟩;unfold St.has
  cases e:oget st.objs 3 x with
  | none=>rw [h.gone 3 (by omega) x e]; rfl
  | some bs =>
   obtain ⟨v,hv,_⟩:=h.there 3 (by omega) x bs e;rw [hv]; rfl
 clear h h1 hn3 hm3;go_enter Tryz.func23,Tryz.ntmps23;go_wp2_with fail;refine hk.mono ?_;rintro e w1 ⟨rfl,hw1⟩;rw [hw1];clear hk hw1;go_wp2_with fail;refine hs.mono ?_;rintro e w2 ⟨a,n,c,ss,rfl,J⟩;clear hs
 have FIN:Hid (n<=c/\st.coms.length=n/\RdG encU w2 a st.coms/\Below w.heap.size w w2):=by
  obtain ⟨j1,j2,j3,j4,j5,j6⟩:=J.out;have e:=Zje HF.out.1 j3 (λ x=>by rw [j4,HF.out.2]);rw [<- e];exact ⟨j1,by rw [ZeC]; exact j2,j5,(bz1 w _).trans (j6.mono (by simp))⟩
 clear J HF;go_wp2;go_ret;exact ⟨a,n,c,rfl,FIN⟩
theorem ZjF {α:Type} {E:Enc α} {e:TypeId} {w w':World} {base:Nat} {v:Value} {xs:List α} (h:OwnG E e w base v xs) (ht:Zaa (λ k=>v.ownBlock=some k) w w'):KeepsWalks w w':=by
 refine ⟨ht.size,λ k o ho hw=>(ht.block k (Array.getElem?_eq_some_iff.1 ho).1 (λ q=>?_)).trans ho⟩;have:=ownsRow_not_walk_a h k o q ho;rw [hw] at this;cases this
theorem Zgn {l:List (Nm UInt64)} (h:(l.map (·.1)).Nodup):∀ {n:Bs} {i:UInt64},(n,i)∈l->nget l n=some i:=by
 induction l with
 | nil=>intro n i q; cases q
 | cons f t ih =>
  intro n i q;rw [List.map_cons,List.nodup_cons] at h
  rcases List.mem_cons.1 q with e | e
  ·rw [<- e];simp [nget]
  ·have hne:f.1≠n:=λ r=>h.1 (by rw [r]; exact List.mem_map.2 ⟨(n,i),e,rfl⟩)
   simp only [nget,if_neg hne];exact ih h.2 e
theorem Zfm {l ss ts:List (Nm UInt64)} (hl:Zbk l) (hn:(ss.map (·.1)).Nodup) (hv:∀ e∈ss,nget l e.1=some e.2) (hm:∀ n,(nget l n).isSome=true->n∈ss.map (·.1)) (hp:ts.Perm ss) (hs:ts.Pairwise (λ a b=>¬ b.1<a.1)):ts=l:=by
 have hnt:(ts.map (·.1)).Nodup:=(hp.map (·.1)).nodup_iff.2 hn
 have hr:Zbk ts:=by
  have h1:ts.Pairwise (λ a b=>a.1≠b.1):=List.pairwise_map.1 hnt;refine (hs.and h1).imp ?_;intro a b q
  rcases Zeu a.1 b.1 with r | r | r
  ·exact r
  ·exact absurd r q.2
  ·exact absurd r q.1
 refine ZnH hr hl (λ n=>?_)
 cases e:nget l n with
 | none =>
  rw [ZaD];intro f hf q;have:=hv f (hp.mem_iff.1 hf);rw [q,e] at this;cases this
 | some i =>
  have h2:=hm n (by rw [e]; rfl);obtain ⟨f,hf,rfl⟩:=List.mem_map.1 h2;have h3:=hv f hf;rw [e] at h3;obtain rfl:i=f.2:=Option.some.inj h3;exact Zgn hnt (hp.mem_iff.2 hf)
theorem infoN:(Tryz.prog.info? 241).map (λ i=>(i.zero,i.size,i.bytes))=some (some (.agg #[.string ⟨#[]⟩,.int .u64 0]),2,24):=by kernel_rfl
theorem Zjt {w:World} {base:Nat} {v:Value} {es:List En} (h:OwnG encE 241 w base v es) (hn:es.length<=1000000) :
  Calls Tryz.prog 186 #[v,.func (.func 187) #[] #[]] w λ e w'=>e=.returned (.tuple #[])/\∃ ts:List En,ts.Perm es/\ts.Pairwise (λ a b=>¬ b.1<a.1)/\OwnG encE 241 w' base v ts/\Zaa (λ k=>v.ownBlock=some k) w w':=by
 rcases h.2 with ⟨rfl,h0⟩ | ⟨g,cap,cur,rfl,h1,h2,h3,h4,h5,h6⟩
 ·have e0:es=[]:=List.eq_nil_of_length_eq_zero h0;subst e0;have hcon:=AnyF.slices_SortFunc_none laySortN none 0 (.func (.func 187) #[] #[]) w;refine (show Calls Tryz.prog 186 _ _ _ from hcon).mono ?_;rintro e w' ⟨rfl,rfl⟩;exact ⟨rfl,[],List.Perm.refl _,List.Pairwise.nil,OwnG.nil _ _ _ _,Zaa.refl _ _⟩
 ·refine (Zjf h (by omega)).mono ?_;rintro e w' ⟨rfl,ts,k1,k2,k3,k4⟩;exact ⟨rfl,ts,k1,k2,k3,(ZbT k4).mono (λ k _ q=>by have q':k=g:=q; rw [q']; rfl)⟩
theorem Zef {w:World} {m:Nat} {l:List (Nm UInt64)} (h:MapG kS w m (nview l) l.length) (hr:Zbk l) (hn:l.length<=1000000) :
  Calls Tryz.prog 134 #[.map (some m)] w λ e w'=>∃ (a:Option Addr) (n c:Nat),e=.returned (.slice a n c)/\Hid (n<=c/\l.length=n/\OwnG encE 241 w' w.heap.size (.slice a n c) l/\Below w.heap.size w w'):=by
 obtain ⟨D,O3,hsz,hh,ha⟩:=h
 have K:Hid (Zbk l/\Maps.size D=l.length/\l.length<=1000000/\(∀ x,Maps.has D (.string x)=(nview l x).isSome)/\∀ x v,nview l x=some v->∀ zd,D.atKey (.string x) zd=.held v):=⟨hr,hsz,hn,hh,ha⟩
 obtain ⟨L,hL⟩:∃ L,l.length=L:=⟨_,rfl⟩
 rw [hL] at O3;have HL:Hid (l.length=L):=hL;clear hL;clear hr hn hsz hh ha;go_enter Tryz.func134,Tryz.ntmps134;go_wp2_with (at_range; (refine wpList_range_own _ rfl _ 174 rfl 9 53 keyedS Tryz.underlying174 heldR m _ D rfl O3 ?_; intro w4 hrg hg4 hs4));go_frame
 have S0:Hid (w4.ranges Tryz.prog 9 heldR m w.heap.size L D (Maps.has D) (Maps.size D)/\Below w.heap.size w w4):=⟨hrg,(Below.refl _ w).grown hg4 (Nat.le_refl _) (λ k e=>by cases e)⟩
 clear hrg hg4 hs4 O3;go_loopw [3,4,5] (λ lv _ _ wr=>∃ (left:Lit->Bool) (cnt:Nat) (ss:List En) (va:Option Addr) (vn vc:Nat),lv=.slice va vn vc/\Hid (wr.ranges Tryz.prog 9 heldR m w.heap.size L D left cnt/\ss.length+cnt<=Maps.size D/\Collected D left (ss.map (·.1))/\(∀ e∈ss,nget l e.1=some e.2)/\OwnG encE 241 wr w.heap.size (.slice va vn vc) ss/\Below w.heap.size w wr)) (λ _ _ _ wr=>wr.rangeLeft m w.heap.size)
 case atStart=>exact ⟨_,_,[],none,0,0,rfl,S0.out.1,by simp,Collected.start D,λ _ q=>(by cases q),OwnG.nil _ _ _ _,S0.out.2⟩
 case round =>
  obtain ⟨left,cnt,ss,va,vn,vc,rfl,HR⟩:=hrel;have hrg:=HR.out.1
  go_wp2_with (first
   | (at_next; refine wpList_next_ranges _ rfl _ rfl 9 keyedS heldR encStr id (λ key kl hk=>by obtain ⟨x,hx,_⟩:=Maps.keyOf_str Tryz.underlying9 hk; exact ⟨x,hx⟩) (λ v _ _=>⟨v,rfl⟩) m w.heap.size _ _ _ _ rfl hrg ?_ ?_)
   | go_in)
  ·intro hc0 hl0
   have hcn:Hid (∀ n,(nget l n).isSome=true->n∈ss.map (·.1)):=by
    intro n q;refine ((HR.out.2.2.1.2 n).2 ⟨?_,hl0 _⟩);rw [K.out.2.2.2.1];unfold nview;rw [Option.isSome_map];exact q
   have hs:=Zjt HR.out.2.2.2.2.1 (by have:=HR.out.2.1; have:=K.out.2.1; have:=K.out.2.2.1; omega);clear hrg hc0 hl0;go_wp2_with fail;refine hs.mono ?_;rintro e w5 ⟨rfl,ts,k1,k2,k3,k4⟩;have e5:=Zfm K.out.1 HR.out.2.2.1.1 HR.out.2.2.2.1 hcn.out k1 k2;subst e5;obtain ⟨a,c,e6,j1,j2⟩:=k3.whole rfl
   obtain ⟨rfl,rfl,rfl⟩:va=a/\vn=ts.length/\vc=c:=by simpa using e6
   clear e6
   have FIN:Hid (ts.length<=vc/\OwnG encE 241 w5 w.heap.size (.slice va ts.length vc) ts/\Below w.heap.size w w5):=⟨j1,k3,HR.out.2.2.2.2.2.trans (k4.below HR.out.2.2.2.2.2.size (λ k hk q=>by have:=(HR.out.2.2.2.2.1.lt k q).1; omega))⟩
   clear hs k1 k2 k3 k4 j1 j2 HR hcn K S0;go_wp2;go_ret;exact ⟨va,_,vc,rfl,FIN.out.1,rfl,FIN.out.2.1,FIN.out.2.2⟩
  ·intro x c kl yd yp w2 cnt2 hkey hlk hv hat hrg2 hlt hg2 hs2 hen;obtain ⟨x',ex,rfl,hxl⟩:=Maps.keyOf_str Tryz.underlying9 hkey;obtain rfl:x=x':=encStr_inj ex
   obtain ⟨i,hi,rfl⟩:∃ i,nget l x=some i/\c=idv i:=by
    have h1:Maps.has D (.string x)=true:=has_true_of_atKey hat;rw [K.out.2.2.2.1] at h1;obtain ⟨v,hv1⟩:=Option.isSome_iff_exists.1 h1;have h2:=K.out.2.2.2.2 x v hv1 (.held v);rw [hat] at h2;have h3:DataW.held c=yd:=congrArg Prod.fst (Option.some.inj hv);rw [h2] at h3
    have h4:c=v:=by simpa using h3
    unfold nview at hv1
    cases q:nget l x with
    | none=>rw [q] at hv1; cases hv1
    | some i=>rw [q] at hv1; exact ⟨i,rfl,by rw [h4]; exact (Option.some.inj hv1).symm⟩
   have O2:Hid (OwnG encE 241 w2 w.heap.size (.slice va vn vc) ss):=ownsRow_abides_a HR.out.2.2.2.2.1 hg2 (λ r e=>by cases e; exact hrg.iter_walk);have B2:Hid (Below w.heap.size w w2):=HR.out.2.2.2.2.2.grown hg2 HR.out.2.2.2.2.2.size (λ k e=>by cases e; exact Nat.le_refl _)
   have Z:Hid (nget l x=some i/\ss.length<Maps.size D/\w2.ranges Tryz.prog 9 heldR m w.heap.size L D (λ z=>left z&&!z.sameKey (.string x)) cnt2/\cnt2<cnt/\ss.length+1+cnt2<=Maps.size D/\Collected D (λ z=>left z&&!z.sameKey (.string x)) ((ss++[(x,i)]).map (·.1))):=⟨hi,by have:=HR.out.2.1; omega,hrg2,hlt,by have:=HR.out.2.1; omega,by simpa using HR.out.2.2.1.step hlk hat⟩
   have hl6:(ss.length+1)*24<=140737488355328:=by have:=Z.out.2.1; have:=K.out.2.1; have:=K.out.2.2.1; omega
   have hlm:ss.length+1<=maxLen:=by simp only [maxLen]; omega
   obtain ⟨zi,hzi⟩:∃ zi:Int,(i.toNat:Int)=zi:=⟨_,rfl⟩
   clear hkey hlk hv hat hrg2 hlt hg2 hs2 ex hxl hi hrg;go_wp2_with (at_builtin; refine Zak encE 241 130 24 _ rfl infoN Tryz.underlying130 rfl (.tmp 13) (.tmp 17) rfl w.heap.size (.slice va vn vc) ss (x,i) _ rfl O2.out rfl hl6 hlm B2.out.size _ rfl ?_; intro v4 w4' ho4 hb4 hm4 ht4);obtain ⟨va4,vc4,rfl,_,_⟩:=ho4.whole rfl;have R4:Hid (w4'.ranges Tryz.prog 9 heldR m w.heap.size L D (λ z=>left z&&!z.sameKey (.string x)) cnt2):=Z.out.2.2.1.of_walks (ZjF O2.out ht4);go_wp2;go_roundw
   case rel=>exact ⟨_,cnt2,ss++[(x,i)],_,_,_,rfl,R4.out,by rw [List.length_append]; exact Z.out.2.2.2.2.1,Z.out.2.2.2.2.2,λ e he=>by
    rcases List.mem_append.1 he with q | q
    ·exact HR.out.2.2.2.1 e q
    ·rw [List.mem_singleton] at q;rw [q]
     exact Z.out.1,ho4,B2.out.trans hb4⟩
   case measure=>rw [R4.out.left_eq,HR.out.1.left_eq]; exact Z.out.2.2.2.1
section
variable {w:World} {s b:Nat} {st:St} {S:Nat->Prop}
theorem ZlX (h:Zac w s b st S) (hok:st.ok) (hn:st.size<=1000000) :
  Calls Tryz.prog 64 #[.pointer (some ⟨s,0,none⟩)] w λ e w'=>∃ (a:Option Addr) (n c:Nat),e=.returned (.slice a n c)/\Hid (n<=c/\st.refs.length=n/\OwnG encE 241 w' w.heap.size (.slice a n c) st.refs/\Below w.heap.size w w'):=by
 obtain ⟨M,r,t,F,h⟩:=h;obtain ⟨c0,c1,c2,c3,c4,c5,c6⟩:=h.cell;have hc:=Zef h.refs hok.refs (by unfold St.size at hn; omega);clear h;go_enter Tryz.func64,Tryz.ntmps64;go_wp2_with fail;refine hc.mono ?_;rintro e w1 ⟨a,n,c,rfl,J⟩;clear hc;go_wp2;go_ret;exact ⟨a,n,c,rfl,J⟩
theorem ZlY (h:Zac w s b st S) (hok:st.ok) (hn:st.size<=1000000) :
  Calls Tryz.prog 65 #[.pointer (some ⟨s,0,none⟩)] w λ e w'=>∃ (a:Option Addr) (n c:Nat),e=.returned (.slice a n c)/\Hid (n<=c/\st.tags.length=n/\OwnG encE 241 w' w.heap.size (.slice a n c) st.tags/\Below w.heap.size w w'):=by
 obtain ⟨M,r,t,F,h⟩:=h;obtain ⟨c0,c1,c2,c3,c4,c5,c6⟩:=h.cell;have hc:=Zef h.tags hok.tags (by unfold St.size at hn; omega);clear h;go_enter Tryz.func65,Tryz.ntmps65;go_wp2_with fail;refine hc.mono ?_;rintro e w1 ⟨a,n,c,rfl,J⟩;clear hc;go_wp2;go_ret;exact ⟨a,n,c,rfl,J⟩
end
end Go.Proofs.YtmhcpbbiokpjjaaGreat
