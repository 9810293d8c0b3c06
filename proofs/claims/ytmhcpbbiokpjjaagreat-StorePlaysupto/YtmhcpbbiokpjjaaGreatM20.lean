/-
  Several texts, laid together.
-/
import Derived.Test.YtmhcpbbiokpjjaaGreatM19
set_option maxHeartbeats 6400000
set_option maxRecDepth 100000
namespace Go.Proofs.YtmhcpbbiokpjjaaGreat
open Go.RowKit
theorem ZiB (l:List (Nm UInt64)) (n:Bs) (i:UInt64):gput (nview l) n (idv i)=nview (nwith l n i):=by
 funext m
 unfold gput nview;rw [Zdy];by_cases e:m=n
 ·rw [if_pos e,if_pos e.symm]; rfl
 ·rw [if_neg e,if_neg (λ q=>e q.symm)]
theorem Zkc (l:List (Nm UInt64)) (n:Bs) (v:Value):gdel (gput (nview l) n v) n=nview (nout l n):=by
 funext m
 unfold gdel gput nview;rw [ZbY];by_cases e:m=n
 ·rw [if_pos e,if_pos e.symm]; rfl
 ·rw [if_neg e,if_neg e,if_neg (λ q=>e q.symm)]
theorem Zep (l:List (Nm UInt64)) (n:Bs):(nview l n).isSome=(nget l n).isSome:=by
 unfold nview
 cases nget l n <;> rfl
theorem zeroU (w:World):(zeroValue 53).run Tryz.prog w=.ok (.int .u64 0) w:=by
 obtain ⟨i0,hi0,hz0,_,_⟩:=info_parts Tryz.info53;simp [zeroValue,typeInfo,hi0,hz0]
theorem ZjE {α:Type} [DecidableEq α] {K:KeyK α} {ops:Array Oper} {rest:List Oper} {o:Oper} {a:Act} {w:World} {Q:Exit->Act->World->Prop} (hgd:o.guard=none) (mo x:Operand) (t k2 e:TypeId) (ht:Tryz.prog.underlying t=some (.map K.ty e))
  (hop:o.op=.call { callee:=.builtin .delete,args:=#[mo,x],argTypes:=#[t,k2] }) (m c:Nat) (f:α->Option Value) (hm:a.eval mo=.map (some m)) (h:MapG K w m f c) (n:α) (hn:K.fit n) (hx:a.eval x=K.val n) (hi:(f n).isSome=true)
  (hK:∀ w',MapG K w' m (gdel f n) (c - 1)->w.grownBy w' (some m)->wpList Tryz.prog ops Q rest (a.put o.dst (.tuple #[])) w'):wpList Tryz.prog ops Q (o::rest) a w:=by
 refine wpList_plain hgd λ K' hK'=>?_
 obtain ⟨w',hrun,r1,r2⟩:=h.del ht n hn hi k2 o.type;unfold Oper.wp;simp [execOp,hop,resolve,invoke,builtin,hm,hx,hrun,Result.andThen];exact hK' _ _ (hK w' r1 r2)
section
variable {w w':World} {s b:Nat} {M:Nat->Nat} {r t:Nat} {F:Nat->UInt64->Option Value} {st:St} {S:Nat->Prop}
theorem Zaq.refs' (h:Zaq w s b M r t F st S) {l:List (Nm UInt64)} (hm:MapG kS w' r (nview l) l.length) (ht:Zaa (λ i=>i=r) w w'):Zaq w' s b M r t F { st with refs:=l } S:=by
 obtain ⟨es,cl,hblk⟩:=h.refs.block;refine ⟨(ht.block s h.lt_s (λ e=>h.map_ne.1 e.symm)).trans h.cells,?_,hm,h.tags.turned ht (λ q=>h.apart.2 q.symm),h.gone,?_,h.inj,h.apart,h.own,λ i hi=>Nat.lt_of_lt_of_le (h.lt i hi) ht.size⟩
 ·intro k hk;obtain ⟨n,h1,h2⟩:=h.objs k hk;exact ⟨n,h1,h2.turned ht (λ q=>(h.apart.1 k hk).1 q)⟩
 ·intro k hk i bs hx;obtain ⟨v,h1,h2,h3⟩:=h.there k hk i bs hx;exact ⟨v,h1,ZeD h2 hblk ht,h3⟩
theorem Zaq.tags' (h:Zaq w s b M r t F st S) {l:List (Nm UInt64)} (hm:MapG kS w' t (nview l) l.length) (ht:Zaa (λ i=>i=t) w w'):Zaq w' s b M r t F { st with tags:=l } S:=by
 obtain ⟨es,cl,hblk⟩:=h.tags.block;refine ⟨(ht.block s h.lt_s (λ e=>h.map_ne.2.1 e.symm)).trans h.cells,?_,h.refs.turned ht (λ q=>h.apart.2 q),hm,h.gone,?_,h.inj,h.apart,h.own,λ i hi=>Nat.lt_of_lt_of_le (h.lt i hi) ht.size⟩
 ·intro k hk;obtain ⟨n,h1,h2⟩:=h.objs k hk;exact ⟨n,h1,h2.turned ht (λ q=>(h.apart.1 k hk).2 q)⟩
 ·intro k hk i bs hx;obtain ⟨v,h1,h2,h3⟩:=h.there k hk i bs hx;exact ⟨v,h1,ZeD h2 hblk ht,h3⟩
theorem Zc0 {m:Nat} {l:List (Nm UInt64)} (h:MapG kS w m (nview l) l.length) (hr:Zbk l) (hl:l.length<=1000000) (n:Bs) (hn:n.length<=1000000) (i:UInt64) :
  ∃ w2,(Instr.mapUpdate 174 (.map (some m)) (.string ⟨n.toArray⟩) (.int .u64 (i.toNat:Int))).run Tryz.prog w=.ok () w2/\MapG kS w2 m (nview (nwith l n i)) (nwith l n i).length/\Zaa (λ x=>x=m) w w2/\MapG kS w2 m (gput (nview l) n (idv i)) (nwith l n i).length:=by
 obtain ⟨w2,h1,h2,h3⟩:=h.put Tryz.underlying174 n (by show n.length<=maxLen; simp only [maxLen]; omega) (by simp only [maxLen]; omega) (idv i);rw [Zep,<- Zch n i hr] at h2;exact ⟨w2,h1,by rw [<- ZiB]; exact h2,Zbw h3,h2⟩
theorem Zbb {m:Nat} {l:List (Nm UInt64)} (h:MapG kS w m (nview l) l.length) (n:Bs) (hn:n.length<=140737488355328) :
  (Instr.lookup 174 (.map (some m)) (.string ⟨n.toArray⟩) true).run Tryz.prog w=.ok (.tuple #[.int .u64 (((nget l n).getD 0).toNat:Int),.bool (nget l n).isSome]) w:=by
 have:=h.look Tryz.underlying174 (zeroU w) n (by show n.length<=maxLen; simp only [maxLen]; omega);rw [Zep] at this
 have e:(nview l n).getD (.int .u64 0)=.int .u64 (((nget l n).getD 0).toNat:Int):=by
  unfold nview
  cases nget l n <;> rfl
 rw [e] at this;exact this
theorem Zhk (h:Zac w s b st S) (hr:Zbk st.tags) (hl:st.tags.length<=1000000) {a:Option Addr} {L c:Nat} {bs:Bs} (hv:BAt w (.slice a L c) bs) (hL:bs.length=L) (h8:8<=L) (hb:L<=100000) :
  Calls Tryz.prog 166 #[.pointer (some ⟨s,0,none⟩),.agg #[.int .i64 5,.slice a L c]] w λ e w'=>e=.returned (.tuple #[])/\Zac w' s b (st.take (5,bs)) S/\Zaa S w w':=by
 obtain ⟨M,r,t,F,h⟩:=h
 obtain ⟨W,hW⟩:∃ W,w.alloc (.cells #[.int .i64 5,.slice a L c] 228)=W:=⟨_,rfl⟩
 have bW:Below w.heap.size w W:=by rw [<- hW]; exact bz1 _ _
 have bx:Box W w.heap.size 228 (.int .i64 5) (.slice a L c):=by rw [<- hW]; exact Box.new _ _ _ _
 obtain ⟨x0,x1⟩:=bx.cells;have hX:=h.below bW;obtain ⟨c0,c1,c2,c3,c4,c5,c6⟩:=hX.cell;have hrl:=ZbF (hv.below bW) hL h8;obtain ⟨w2,hrun,hm2,ht2,_⟩:=Zc0 hX.tags hr hl (labN bs) (by unfold labN; rw [List.length_drop]; omega) (labI bs)
 have fin:Zac w2 s b (st.take (5,bs)) S/\Zaa S w w2:=by
  refine ⟨⟨M,r,t,F,?_⟩,(Zaa.ofBelow (S:=S) bW).trans ht2 (λ j _ e=>by have e:j=t:=e; rw [e]; exact h.own.2.2.1)⟩;have:=hX.tags' hm2 ht2;unfold St.take;rw [if_neg (by show ¬ (5:Int)=4; omega),if_pos rfl];exact this
 have FIN:Hid (Zac w2 s b (st.take (5,bs)) S/\Zaa S w w2):=fin
 obtain ⟨nm,hnm⟩:∃ nm:ByteArray,(⟨(labN bs).toArray⟩:ByteArray)=nm:=⟨_,rfl⟩
 obtain ⟨i,hi⟩:∃ i:Int,((labI bs).toNat:Int)=i:=⟨_,rfl⟩
 rw [hnm,hi] at hrun;rw [show tx (labN bs)=.string nm by rw [<- hnm],hi] at hrl;clear h hX hv hL hr hl bW bx fin hm2 ht2 hnm hi;go_enter Tryz.func166,Tryz.ntmps166;go_wp2_with fail;refine hrl.mono ?_;rintro e w1 ⟨rfl,hw1⟩;rw [hw1];clear hw1 w1;go_wp2;go_end0;exact ⟨rfl,FIN.out⟩
theorem Zht (h:Zac w s b st S) (hr:Zbk st.refs) (hl:st.refs.length<=1000000) {a:Option Addr} {L c:Nat} {bs:Bs} (hv:BAt w (.slice a L c) bs) (hL:bs.length=L) (h8:8<=L) (hb:L<=100000) (hz:labI bs=0->(nget st.refs (labN bs)).isSome=true) :
  Calls Tryz.prog 166 #[.pointer (some ⟨s,0,none⟩),.agg #[.int .i64 4,.slice a L c]] w λ e w'=>e=.returned (.tuple #[])/\Zac w' s b (st.take (4,bs)) S/\Zaa S w w':=by
 obtain ⟨M,r,t,F,h⟩:=h
 obtain ⟨W,hW⟩:∃ W,w.alloc (.cells #[.int .i64 4,.slice a L c] 228)=W:=⟨_,rfl⟩
 have bW:Below w.heap.size w W:=by rw [<- hW]; exact bz1 _ _
 have bx:Box W w.heap.size 228 (.int .i64 4) (.slice a L c):=by rw [<- hW]; exact Box.new _ _ _ _
 obtain ⟨x0,x1⟩:=bx.cells;have hX:=h.below bW;obtain ⟨c0,c1,c2,c3,c4,c5,c6⟩:=hX.cell;have hrl:=ZbF (hv.below bW) hL h8
 have hnl:(labN bs).length<=1000000:=by unfold labN; rw [List.length_drop]; omega
 obtain ⟨w2,hrun,hm2,ht2,hm3⟩:=Zc0 hX.refs hr hl (labN bs) hnl (labI bs);have own:=h.own.2.1;have ts:Zaa S w w2:=(Zaa.ofBelow (S:=S) bW).trans ht2 (λ j _ e=>by have e:j=r:=e; rw [e]; exact own);have e5:w2.cell? ⟨s,5,none⟩=some (.map (some r)):=(ht2.cell (p:=⟨s,5,none⟩) hX.lt_s (λ e=>hX.map_ne.1 e.symm)).trans c5;by_cases h0:labI bs=0
 ·have hi:((labI bs).toNat:Int)=0:=by rw [h0]; rfl
  have FIN:Hid (∀ w3,MapG kS w3 r (gdel (gput (nview st.refs) (labN bs) (idv (labI bs))) (labN bs)) ((nwith st.refs (labN bs) (labI bs)).length - 1)->w2.grownBy w3 (some r)->Zac w3 s b (st.take (4,bs)) S/\Zaa S w w3):=by
   intro w3 q1 q2;have t3:=Zbw q2;refine ⟨⟨M,r,t,F,?_⟩,ts.trans t3 (λ j _ e=>by have e:j=r:=e; rw [e]; exact own)⟩
   have len:(nwith st.refs (labN bs) (labI bs)).length - 1=(nout st.refs (labN bs)).length:=by
    rw [Zch _ _ hr,if_pos (hz h0)];have:=Ze4 hr (hz h0);omega
   rw [Zkc,len] at q1;have:=hX.refs' q1 (ht2.trans t3 (λ _ _ q=>q));unfold St.take;rw [if_pos rfl,if_pos h0];exact this
  have G:Hid (MapG kS w2 r (gput (nview st.refs) (labN bs) (idv (labI bs))) (nwith st.refs (labN bs) (labI bs)).length/\(labN bs).length<=1000000):=⟨hm3,hnl⟩
  obtain ⟨nm,hnm⟩:∃ nm:ByteArray,(⟨(labN bs).toArray⟩:ByteArray)=nm:=⟨_,rfl⟩
  rw [hnm,hi] at hrun;rw [show tx (labN bs)=.string nm by rw [<- hnm],hi] at hrl;have HN:Hid ((⟨(labN bs).toArray⟩:ByteArray)=nm):=hnm;clear h hX hv hL hr hl bW bx hm2 ht2 hm3 hnm hi own ts hnl hz h0;go_enter Tryz.func166,Tryz.ntmps166;go_wp2_with fail;refine hrl.mono ?_;rintro e w1 ⟨rfl,hw1⟩;rw [hw1];clear hw1 w1;go_wp2_with (at_delete; (refine ZjE (K:=kS) rfl (.tmp 44) (.tmp 45) 174 9 _ Tryz.underlying174 rfl r _ _ rfl G.out.1 (labN bs) (by show _<=maxLen; have:=G.out.2; simp only [maxLen]; omega) (by show Value.string nm=Value.string _; rw [HN.out]) (by simp [gput]) ?_; intro w3 hm3 hg3; have FF:Hid (Zac w3 s b (st.take (4,bs)) S/\Zaa S w w3):=FIN.out w3 hm3 hg3; clear hm3 hg3));go_wp2;go_end0;exact ⟨rfl,FF.out⟩
 ·have fin:Zac w2 s b (st.take (4,bs)) S/\Zaa S w w2:=by
   refine ⟨⟨M,r,t,F,?_⟩,ts⟩;have:=hX.refs' hm2 ht2;unfold St.take;rw [if_pos rfl,if_neg h0];exact this
  have FIN:Hid (Zac w2 s b (st.take (4,bs)) S/\Zaa S w w2):=fin
  obtain ⟨nm,hnm⟩:∃ nm:ByteArray,(⟨(labN bs).toArray⟩:ByteArray)=nm:=⟨_,rfl⟩
  obtain ⟨i,hi⟩:∃ i:Int,((labI bs).toNat:Int)=i:=⟨_,rfl⟩
  have m0:(i==0)=false:=by
   rw [<- hi]
   have:¬ (labI bs).toNat=0:=λ q=>h0 (UInt64.toNat_inj.1 (by rw [q]; rfl))
   simpa using this
  rw [hnm,hi] at hrun;rw [show tx (labN bs)=.string nm by rw [<- hnm],hi] at hrl;clear h hX hv hL hr hl bW bx fin hm2 ht2 hm3 hnm hi own ts hnl hz h0;go_enter Tryz.func166,Tryz.ntmps166;go_wp2_with fail;refine hrl.mono ?_;rintro e w1 ⟨rfl,hw1⟩;rw [hw1];clear hw1 w1;go_wp2;go_end0;exact ⟨rfl,FIN.out⟩
end
theorem Za7 {n:Bs} (h:isName n=true):n.length<=16:=by
 unfold isName at h;simp at h;omega
section
variable {w:World} {s b:Nat} {st:St} {d:Dk} {U:Nat->Prop}
theorem ZgC {W0 W:World} {a:Option Addr} {c L:Nat} {body:Bs} (hD:Duo W0 s b st d U) (hb:Below W0.heap.size W0 W) (hv:BAt W (.slice a L c) body) (hL:body.length=L) (h8:8<=L) (hn:L<=8192) (hnew:∀ j,Blk a L j->W0.heap.size<=j) (k:Int) (hk:k=4∨k=5) (hok:d.ok) (hw:d.writes<=1000000)
  (hr:Zbk st.refs) (ht:Zbk st.tags) (hrl:st.refs.length<=1000000) (htl:st.tags.length<=1000000) (hz:k=4->labI body=0->(nget st.refs (labN body)).isSome=true) :
  Calls Tryz.prog 123 #[.pointer (some ⟨s,0,none⟩),.agg #[.int .i64 k,.slice a L c]] W λ e w'=>∃ r,e=.returned (.int .i64 r)/\Hid (r=(sapp st d (k,body)).2.2/\Duo w' s b (sapp st d (k,body)).1 (sapp st d (k,body)).2.1 (Zaj U W0 w')/\Zaa U W0 w'):=by
 have hlow:=hD.lt
 have hfar:∀ i,Blk a L i->¬ U i:=λ i q r=>by
  have:=hnew i q;have:=hlow i r;omega
 refine (Zmj (hD.below hb) hv hfar hL hn k (by omega) (by omega) hok hw ?_).mono ?_
 ·intro w2 S hSU hS hv2 hl2
  have fin:∀ w',Zac w' s b (st.take (k,body)) S->Zaa S w2 w'->Zac w' s b (st.take (k,body)) (λ i=>S i∨Blk a L i)/\Zaa S w2 w' :=
   λ w' q1 q2=>⟨q1.mono (λ _ q=>.inl q) (λ i q=>Nat.lt_of_lt_of_le (hl2 i q) q2.size),q2⟩
  rcases hk with rfl | rfl
  ·refine (Zht hS hr hrl hv2 hL h8 (by omega) (hz rfl)).mono ?_;rintro e w' ⟨rfl,q1,q2⟩;exact ⟨rfl,fin w' q1 q2⟩
  ·refine (Zhk hS ht htl hv2 hL h8 (by omega)).mono ?_;rintro e w' ⟨rfl,q1,q2⟩;exact ⟨rfl,fin w' q1 q2⟩
 ·rintro e w' ⟨r,rfl,R⟩;refine ⟨r,rfl,R.out.1,R.out.2.1.mono ?_ ?_,(Zaa.ofBelow (S:=U) hb).trans R.out.2.2 (λ _ _ q=>q)⟩
  ·intro i hi
   rcases hi with (q | q) | q
   ·exact .inl q
   ·exact .inr ⟨by have:=hb.size; omega,q.2⟩
   ·exact .inr ⟨hnew i q,Nat.lt_of_lt_of_le (hv.blk i q) R.out.2.2.size⟩
  ·intro i hi
   rcases hi with q | q
   ·exact Nat.lt_of_lt_of_le (hlow i q) (Nat.le_trans hb.size R.out.2.2.size)
   ·exact q.2
def clab (st:St) (n:Bs) (i:UInt64):Int:=if isName n=false then 2 else if st.has 3 i=false then 5 else 0
theorem Zhf {S:Nat->Prop} (h:Zac w s b st S) (n:Bs) (i:UInt64) (x:Int) (hx:(i.toNat:Int)=x) (cd:Int) (hc:clab st n i=cd) :
  Calls Tryz.prog 122 #[.pointer (some ⟨s,0,none⟩),tx n,.int .u64 x] w λ e w'=>e=.returned (.int .i64 cd)/\w'=w:=by
 have hs:=λ g hg=>Zco h (k:=3) (by omega) i g hg
 rw [hx] at hs
 have hnm:=λ g hg=>ZaW n g hg w
 unfold clab at hc
 cases e1:isName n with
 | false =>
  rw [e1] at hc;have hnm:=hnm false e1;rw [show err false=2 from rfl] at hnm;simp at hc;subst hc;clear h hs;go_enter Tryz.func122,Tryz.ntmps122;go_wp2_with fail;refine hnm.mono ?_;rintro e w1 ⟨rfl,hw1⟩;rw [hw1];clear hw1 w1;go_wp2;go_ret;exact ⟨rfl,rfl⟩
 | true =>
  rw [e1] at hc;have hnm:=hnm true e1;rw [show err true=0 from rfl] at hnm
  cases e2:st.has 3 i with
  | false =>
   rw [e2] at hc;simp at hc;subst hc;have hs:=hs false e2;clear h;go_enter Tryz.func122,Tryz.ntmps122;go_wp2_with fail;refine hnm.mono ?_;rintro e w1 ⟨rfl,hw1⟩;rw [hw1];clear hw1 w1;go_wp2_with fail;refine hs.mono ?_;rintro e w1 ⟨rfl,hw1⟩;rw [hw1];clear hw1 w1;go_wp2;go_ret;exact ⟨rfl,rfl⟩
  | true =>
   rw [e2] at hc;simp at hc;subst hc;have hs:=hs true e2;clear h;go_enter Tryz.func122,Tryz.ntmps122;go_wp2_with fail;refine hnm.mono ?_;rintro e w1 ⟨rfl,hw1⟩;rw [hw1];clear hw1 w1;go_wp2_with fail;refine hs.mono ?_;rintro e w1 ⟨rfl,hw1⟩;rw [hw1];clear hw1 w1;go_wp2;go_ret;exact ⟨rfl,rfl⟩
theorem Zih (hD:Duo w s b st d U) (hst:st.ok) (n:Bs) (i:UInt64) (hok:d.ok) (hw:d.writes<=1000000) (hrl:st.refs.length<=1000000) (htl:st.tags.length<=1000000) :
  Calls Tryz.prog 46 #[.pointer (some ⟨s,0,none⟩),tx n,.int .u64 (i.toNat:Int)] w λ e w'=>∃ r,e=.returned (.int .i64 r)/\Hid (r=(sref st d n i).2.2/\Duo w' s b (sref st d n i).1 (sref st d n i).2.1 (Zaj U w w')/\Zaa U w w'):=by
 obtain ⟨Z,hZ⟩:∃ Z,sref st d n i=Z:=⟨_,rfl⟩
 rw [hZ];obtain ⟨S,T,hS,hT,hap,hU,hUl⟩:=hD
 have hD:Duo w s b st d U:=⟨S,T,hS,hT,hap,hU,hUl⟩
 obtain ⟨cd,hcd⟩:∃ cd,clab st n i=cd:=⟨_,rfl⟩
 obtain ⟨x,hx⟩:∃ x,(i.toNat:Int)=x:=⟨_,rfl⟩
 have hc:=Zhf hS n i x hx cd hcd;by_cases h0:cd=0
 ·subst h0
  have hnm:isName n=true:=by
   unfold clab at hcd
   split at hcd
   ·cases hcd
   ·simpa using ‹¬ isName n=false›
  have hh:st.has 3 i=true:=by
   unfold clab at hcd;rw [hnm] at hcd;simp at hcd;exact hcd
  have ez:Z=sapp st d (4,labB i n):=by
   rw [<- hZ];unfold sref;rw [if_neg (by simp [hnm]),if_neg (by simp [hh])]
  have hlen:=Za7 hnm;have hla:=ZdT 4 n (by omega) i w
  have hi0:labI (labB i n)=0->(nget st.refs (labN (labB i n))).isSome=true:=by
   rw [Zbz];intro q;rw [q,Zdc hst] at hh;cases hh
  rw [hx] at hla ⊢
  have H:Hid (Duo w s b st d U/\st.ok/\d.ok/\d.writes<=1000000/\st.refs.length<=1000000/\st.tags.length<=1000000/\n.length<=16/\(labI (labB i n)=0->(nget st.refs (labN (labB i n))).isSome=true)/\Z=sapp st d (4,labB i n)):=⟨hD,hst,hok,hw,hrl,htl,hlen,hi0,ez⟩
  obtain ⟨L,hL⟩:∃ L,8+n.length=L:=⟨_,rfl⟩
  rw [hL] at hla;have HL:Hid (8+n.length=L):=hL;clear hD hst hok hw hrl htl hlen hi0 ez hS hT hap hU hUl hcd hx hnm hh hZ hL;go_enter Tryz.func46,Tryz.ntmps46;go_wp2_with fail;refine hc.mono ?_;rintro e w1 ⟨rfl,hw1⟩;rw [hw1];clear hw1 w1;go_wp2_with fail;refine hla.mono ?_;rintro e w2 ⟨a2,c2,rfl,R2⟩;have had:=ZgC H.out.1 R2.out.2.2 R2.out.1 (by rw [Zaz]; exact HL.out) (by have:=HL.out; omega) (by have:=HL.out; have:=H.out.2.2.2.2.2.2.1; omega) R2.out.2.1 4 (.inl rfl) H.out.2.2.1 H.out.2.2.2.1 H.out.2.1.refs H.out.2.1.tags H.out.2.2.2.2.1 H.out.2.2.2.2.2.1 (λ _=>H.out.2.2.2.2.2.2.2.1);rw [<- H.out.2.2.2.2.2.2.2.2] at had;clear hla R2;go_wp2_with fail;refine had.mono ?_;rintro e w3 ⟨r3,rfl,R3⟩;go_wp2;go_ret;exact ⟨_,rfl,R3.out⟩
 ·have ez:Z=(st,d,cd):=by
   rw [<- hZ];unfold sref;unfold clab at hcd
   split at hcd
   ·rename_i q
    rw [if_pos q,<- hcd]
   ·rename_i q
    rw [if_neg q]
    split at hcd
    ·rename_i q2
     rw [if_pos q2,<- hcd]
    ·exact absurd hcd.symm h0
  have m0:(cd != 0)=true:=by simpa using h0
  have H:Hid (Duo w s b st d U):=hD;rw [hx];subst ez;clear hD hst hok hw hrl htl hS hT hap hU hUl hcd hx hZ;go_enter Tryz.func46,Tryz.ntmps46;go_wp2_with fail;refine hc.mono ?_;rintro e w1 ⟨rfl,hw1⟩;rw [hw1];clear hw1 w1;go_wp2;go_ret;exact ⟨_,rfl,rfl,H.out.since (Below.refl _ _),Zaa.refl _ _⟩
theorem ZiJ (hD:Duo w s b st d U) (hst:st.ok) (n:Bs) (hn:n.length<=140737488355328) (i:UInt64) (hok:d.ok) (hw:d.writes<=1000000) (hrl:st.refs.length<=1000000) (htl:st.tags.length<=1000000) :
  Calls Tryz.prog 48 #[.pointer (some ⟨s,0,none⟩),tx n,.int .u64 (i.toNat:Int)] w λ e w'=>∃ r,e=.returned (.int .i64 r)/\Hid (r=(stag st d n i).2.2/\Duo w' s b (stag st d n i).1 (stag st d n i).2.1 (Zaj U w w')/\Zaa U w w'):=by
 obtain ⟨Z,hZ⟩:∃ Z,stag st d n i=Z:=⟨_,rfl⟩
 rw [hZ];obtain ⟨S,T,hS,hT,hap,hU,hUl⟩:=hD
 have hD:Duo w s b st d U:=⟨S,T,hS,hT,hap,hU,hUl⟩
 obtain ⟨cd,hcd⟩:∃ cd,clab st n i=cd:=⟨_,rfl⟩
 obtain ⟨x,hx⟩:∃ x,(i.toNat:Int)=x:=⟨_,rfl⟩
 have hc:=Zhf hS n i x hx cd hcd;by_cases h0:cd=0
 ·subst h0
  have hnm:isName n=true:=by
   unfold clab at hcd
   split at hcd
   ·cases hcd
   ·simpa using ‹¬ isName n=false›
  have hh:st.has 3 i=true:=by
   unfold clab at hcd;rw [hnm] at hcd;simp at hcd;exact hcd
  obtain ⟨M,r,t,F,hX⟩:=hS;have hlk:=Zbb hX.tags n hn;obtain ⟨c0,c1,c2,c3,c4,c5,c6⟩:=hX.cell
  obtain ⟨y,hy⟩:∃ y:Int,(((nget st.tags n).getD 0).toNat:Int)=y:=⟨_,rfl⟩
  rw [hy] at hlk
  cases ht:(nget st.tags n).isSome with
  | true =>
   rw [ht] at hlk
   have ez:Z=(st,d,6):=by
    rw [<- hZ];unfold stag;rw [if_neg (by simp [hnm]),if_neg (by simp [hh]),if_pos ht]
   have H:Hid (Duo w s b st d U):=hD;rw [hx];subst ez;clear hD hst hok hw hrl htl hT hap hU hUl hcd hx hZ hX hnm hh hy ht;go_enter Tryz.func48,Tryz.ntmps48;go_wp2_with fail;refine hc.mono ?_;rintro e w1 ⟨rfl,hw1⟩;rw [hw1];clear hw1 w1;go_wp2;go_ret;exact ⟨_,rfl,rfl,H.out.since (Below.refl _ _),Zaa.refl _ _⟩
  | false =>
   rw [ht] at hlk
   have ez:Z=sapp st d (5,labB i n):=by
    rw [<- hZ];unfold stag;rw [if_neg (by simp [hnm]),if_neg (by simp [hh]),if_neg (by simp [ht])]
   have hlen:=Za7 hnm;have hla:=ZdT 5 n (by omega) i w;rw [hx] at hla ⊢
   have H:Hid (Duo w s b st d U/\st.ok/\d.ok/\d.writes<=1000000/\st.refs.length<=1000000/\st.tags.length<=1000000/\n.length<=16/\Z=sapp st d (5,labB i n)):=⟨hD,hst,hok,hw,hrl,htl,hlen,ez⟩
   obtain ⟨L,hL⟩:∃ L,8+n.length=L:=⟨_,rfl⟩
   rw [hL] at hla;have HL:Hid (8+n.length=L):=hL;clear hD hst hok hw hrl htl hlen ez hT hap hU hUl hcd hx hnm hh hZ hX hy ht hL;go_enter Tryz.func48,Tryz.ntmps48;go_wp2_with fail;refine hc.mono ?_;rintro e w1 ⟨rfl,hw1⟩;rw [hw1];clear hw1 w1;go_wp2_with fail;refine hla.mono ?_;rintro e w2 ⟨a2,c2,rfl,R2⟩;have had:=ZgC H.out.1 R2.out.2.2 R2.out.1 (by rw [Zaz]; exact HL.out) (by have:=HL.out; omega) (by have:=HL.out; have:=H.out.2.2.2.2.2.2.1; omega) R2.out.2.1 5 (.inr rfl) H.out.2.2.1 H.out.2.2.2.1 H.out.2.1.refs H.out.2.1.tags H.out.2.2.2.2.1 H.out.2.2.2.2.2.1 (λ q=>by omega);rw [<- H.out.2.2.2.2.2.2.2] at had;clear hla R2;go_wp2_with fail;refine had.mono ?_;rintro e w3 ⟨r3,rfl,R3⟩;go_wp2;go_ret;exact ⟨_,rfl,R3.out⟩
 ·have ez:Z=(st,d,cd):=by
   rw [<- hZ];unfold stag;unfold clab at hcd
   split at hcd
   ·rename_i q
    rw [if_pos q,<- hcd]
   ·rename_i q
    rw [if_neg q]
    split at hcd
    ·rename_i q2
     rw [if_pos q2,<- hcd]
    ·exact absurd hcd.symm h0
  have m0:(cd != 0)=true:=by simpa using h0
  have H:Hid (Duo w s b st d U):=hD;rw [hx];subst ez;clear hD hst hok hw hrl htl hS hT hap hU hUl hcd hx hZ;go_enter Tryz.func48,Tryz.ntmps48;go_wp2_with fail;refine hc.mono ?_;rintro e w1 ⟨rfl,hw1⟩;rw [hw1];clear hw1 w1;go_wp2;go_ret;exact ⟨_,rfl,rfl,H.out.since (Below.refl _ _),Zaa.refl _ _⟩
theorem Zgt (hD:Duo w s b st d U) (hst:st.ok) (n:Bs) (hn:n.length<=140737488355328) (hok:d.ok) (hw:d.writes<=1000000) (hrl:st.refs.length<=1000000) (htl:st.tags.length<=1000000) :
  Calls Tryz.prog 50 #[.pointer (some ⟨s,0,none⟩),tx n] w λ e w'=>∃ r,e=.returned (.int .i64 r)/\Hid (r=(sdrop st d n).2.2/\Duo w' s b (sdrop st d n).1 (sdrop st d n).2.1 (Zaj U w w')/\Zaa U w w'):=by
 obtain ⟨Z,hZ⟩:∃ Z,sdrop st d n=Z:=⟨_,rfl⟩
 rw [hZ];obtain ⟨S,T,hS,hT,hap,hU,hUl⟩:=hD
 have hD:Duo w s b st d U:=⟨S,T,hS,hT,hap,hU,hUl⟩
 have H0:Hid (Duo w s b st d U):=hD
 cases hnm:isName n with
 | false =>
  have hc:=ZaW n false hnm w;rw [show err false=2 from rfl] at hc
  have ez:Z=(st,d,2):=by
   rw [<- hZ];unfold sdrop;rw [if_pos hnm]
  subst ez;clear hD hst hok hw hrl htl hT hap hU hUl hZ hnm hS;go_enter Tryz.func50,Tryz.ntmps50;go_wp2_with fail;refine hc.mono ?_;rintro e w1 ⟨rfl,hw1⟩;rw [hw1];clear hw1 w1;go_wp2;go_ret;exact ⟨_,rfl,rfl,H0.out.since (Below.refl _ _),Zaa.refl _ _⟩
 | true =>
  have hc:=ZaW n true hnm w;rw [show err true=0 from rfl] at hc;obtain ⟨M,r,t,F,hX⟩:=hS;have hlk:=Zbb hX.refs n hn;obtain ⟨c0,c1,c2,c3,c4,c5,c6⟩:=hX.cell
  obtain ⟨y,hy⟩:∃ y:Int,(((nget st.refs n).getD 0).toNat:Int)=y:=⟨_,rfl⟩
  rw [hy] at hlk
  cases ht:(nget st.refs n).isSome with
  | false =>
   rw [ht] at hlk
   have ez:Z=(st,d,5):=by
    rw [<- hZ];unfold sdrop;rw [if_neg (by simp [hnm]),if_pos ht]
   subst ez;clear hD hst hok hw hrl htl hT hap hU hUl hZ hX hnm hy ht;go_enter Tryz.func50,Tryz.ntmps50;go_wp2_with fail;refine hc.mono ?_;rintro e w1 ⟨rfl,hw1⟩;rw [hw1];clear hw1 w1;go_wp2;go_ret;exact ⟨_,rfl,rfl,H0.out.since (Below.refl _ _),Zaa.refl _ _⟩
  | true =>
   rw [ht] at hlk
   have ez:Z=sapp st d (4,labB 0 n):=by
    rw [<- hZ];unfold sdrop;rw [if_neg (by simp [hnm]),if_neg (by simp [ht])]
   have hlen:=Za7 hnm;have hla:=ZdT 4 n (by omega) 0 w;rw [show ((0:UInt64).toNat:Int)=0 from rfl] at hla
   have H:Hid (Duo w s b st d U/\st.ok/\d.ok/\d.writes<=1000000/\st.refs.length<=1000000/\st.tags.length<=1000000/\n.length<=16/\Z=sapp st d (4,labB 0 n)/\(nget st.refs (labN (labB 0 n))).isSome=true):=⟨hD,hst,hok,hw,hrl,htl,hlen,ez,by rw [ZbC]; exact ht⟩
   obtain ⟨L,hL⟩:∃ L,8+n.length=L:=⟨_,rfl⟩
   rw [hL] at hla;have HL:Hid (8+n.length=L):=hL;clear hD hst hok hw hrl htl hlen ez hT hap hU hUl hnm hZ hX hy ht hL H0;go_enter Tryz.func50,Tryz.ntmps50;go_wp2_with fail;refine hc.mono ?_;rintro e w1 ⟨rfl,hw1⟩;rw [hw1];clear hw1 w1;go_wp2_with fail;refine hla.mono ?_;rintro e w2 ⟨a2,c2,rfl,R2⟩;have had:=ZgC H.out.1 R2.out.2.2 R2.out.1 (by rw [Zaz]; exact HL.out) (by have:=HL.out; omega) (by have:=HL.out; have:=H.out.2.2.2.2.2.2.1; omega) R2.out.2.1 4 (.inl rfl) H.out.2.2.1 H.out.2.2.2.1 H.out.2.1.refs H.out.2.1.tags H.out.2.2.2.2.1 H.out.2.2.2.2.2.1 (λ _ _=>H.out.2.2.2.2.2.2.2.2);rw [<- H.out.2.2.2.2.2.2.2.1] at had;clear hla R2;go_wp2_with fail;refine had.mono ?_;rintro e w3 ⟨r3,rfl,R3⟩;go_wp2;go_ret;exact ⟨_,rfl,R3.out⟩
end
def St.data (st:St) (i:UInt64):Bs:=(oget st.objs 1 i).getD []
def St.files (st:St) (i:UInt64):List En:=((oget st.objs 2 i).bind rdtree).getD []
def St.com (st:St) (i:UInt64):Cm:=((oget st.objs 3 i).bind rdcom).getD zcm
theorem RT.files {b:Bs} {es:List En} {e:Int} (h:RT b es e):(rdtree b).getD []=es:=by
 rcases h.rd with ⟨_,q⟩ | ⟨_,rfl,q⟩ <;> rw [q] <;> rfl
theorem RC.com {b:Bs} {c:Cm} {e:Int} (h:RC b c e):(rdcom b).getD zcm=c:=by
 rcases h.rd with ⟨_,q⟩ | ⟨_,rfl,q⟩ <;> rw [q] <;> rfl
section
variable {w:World} {s b:Nat} {st:St} {S:Nat->Prop}
theorem ZlA (h:Zac w s b st S) (hlen:∀ o∈st.objs,o.body.length<=8192) (i:UInt64) (g:Bool) (hg:st.has 1 i=g) :
  Calls Tryz.prog 66 #[.pointer (some ⟨s,0,none⟩),.int .u64 (i.toNat:Int)] w λ e w'=>∃ v,e=.returned (.tuple #[v,.bool g])/\Hid (OwnG encB 5 w' w.heap.size v (st.data i)/\Below w.heap.size w w'):=by
 obtain ⟨M,r,t,F,h⟩:=h;obtain ⟨v,hl,hth,hgo⟩:=h.look (k:=1) (by omega) i;rw [show ((1:Nat):Int)=1 from rfl] at hl hth hgo;rw [hg] at hl
 have hb:BAt w v (st.data i)/\(st.data i).length<=8192:=by
  unfold St.data
  cases e:oget st.objs 1 i with
  | none =>
   rw [hgo e];exact ⟨⟨none,0,rfl,Nat.le_refl _,by omega,RdG.nil _ _ _⟩,by simp⟩
  | some bs=>exact ⟨(hth bs e).1,hlen _ (Za6 e)⟩
 have hcl:=Zb5 w hb.1 (by omega);obtain ⟨c0,c1,c2,c3,c4,c5,c6⟩:=h.cell
 obtain ⟨x,hx⟩:∃ x:Int,(i.toNat:Int)=x:=⟨_,rfl⟩
 rw [hx] at hl ⊢;clear h hth hgo hg hb hx;go_enter Tryz.func66,Tryz.ntmps66;go_wp2_with fail;refine hcl.mono ?_;rintro e w1 ⟨v1,rfl,O1,B1⟩
 have HH:Hid (OwnG encB 5 w1 w.heap.size v1 (st.data i)/\Below w.heap.size w w1):=⟨O1,B1⟩
 clear O1 B1 hcl;go_wp2;refine bodyPost_ret (results_tmp2 rfl _ _ _) rfl ?_;exact ⟨_,rfl,HH.out⟩
theorem Zjo (h:Zac w s b st S) (i:UInt64) (g:Bool) (hg:st.has 2 i=g) :
  Calls Tryz.prog 67 #[.pointer (some ⟨s,0,none⟩),.int .u64 (i.toNat:Int)] w λ e w'=>∃ v,e=.returned (.tuple #[v,.bool g])/\Hid (OwnG encE 91 w' w.heap.size v (st.files i)/\Below w.heap.size w w'):=by
 obtain ⟨M,r,t,F,h⟩:=h;obtain ⟨v,hl,hth,hgo⟩:=h.look (k:=2) (by omega) i;rw [show ((2:Nat):Int)=2 from rfl] at hl hth hgo;rw [hg] at hl;obtain ⟨c0,c1,c2,c3,c4,c5,c6⟩:=h.cell
 obtain ⟨x,hx⟩:∃ x:Int,(i.toNat:Int)=x:=⟨_,rfl⟩
 rw [hx] at hl ⊢;unfold St.files;unfold St.has at hg
 cases e:oget st.objs 2 i with
 | none =>
  rw [e] at hg;subst hg;have hv:=hgo e;subst hv;clear h hth hgo hx e;go_enter Tryz.func67,Tryz.ntmps67;go_wp2;refine bodyPost_ret (results_tmp2 rfl _ _ _) rfl ?_;exact ⟨_,rfl,OwnG.nil _ _ _ _,Below.refl _ _⟩
 | some bs =>
  rw [e] at hg;subst hg;obtain ⟨a1,c7,hv,_,_,_⟩:=(hth bs e).1;have hbv:=(hth bs e).1;rw [hv] at hbv hl;have hrd:=ZcY w hbv rfl;clear hbv
  obtain ⟨n,hn⟩:∃ n,bs.length=n:=⟨_,rfl⟩
  rw [hn] at hrd hl;clear h hth hgo hx e hv hn;go_enter Tryz.func67,Tryz.ntmps67;go_wp2_with fail;refine hrd.mono ?_;rintro e w1 ⟨es,er,v1,rfl,R1⟩;clear hrd;go_wp2;refine bodyPost_ret (results_tmp2 rfl _ _ _) rfl ?_;refine ⟨_,rfl,?_,R1.out.2.2⟩;rw [Option.bind_some,R1.out.1.files];exact R1.out.2.1
theorem Zkk (h:Zac w s b st S) (i:UInt64) (g:Bool) (hg:st.has 3 i=g) :
  Calls Tryz.prog 24 #[.pointer (some ⟨s,0,none⟩),.int .u64 (i.toNat:Int)] w λ e w'=>∃ (pa:Option Addr) (pc:Nat),e=.returned (.tuple #[.agg #[.int .u64 ((st.com i).tree.toNat:Int),.slice pa (st.com i).ps.length pc,.int .i64 (st.com i).date,tx (st.com i).note],.bool g])/\Hid (RdG encU w' pa (st.com i).ps/\(st.com i).ps.length<=pc/\Below w.heap.size w w'):=by
 obtain ⟨M,r,t,F,h⟩:=h
 obtain ⟨W,hW⟩:∃ W,w.alloc (.cells #[.int .u64 0,.slice none 0 0,.int .i64 0,.string ⟨#[]⟩] 67)=W:=⟨_,rfl⟩
 have bW:Below w.heap.size w W:=by rw [<- hW]; exact bz1 _ _
 have bx:Box4 W w.heap.size 67 (.int .u64 0) (.slice none 0 0) (.int .i64 0) (.string ⟨#[]⟩):=by rw [<- hW]; exact Box4.new _ _ _ _ _ _
 obtain ⟨v,hl,hth,hgo⟩:=(h.below bW).look (k:=3) (by omega) i;rw [show ((3:Nat):Int)=3 from rfl] at hl hth hgo;rw [hg] at hl;obtain ⟨c0,c1,c2,c3,c4,c5,c6⟩:=(h.below bW).cell
 obtain ⟨x,hx⟩:∃ x:Int,(i.toNat:Int)=x:=⟨_,rfl⟩
 rw [hx] at hl ⊢
 obtain ⟨cm,hcm⟩:∃ cm,st.com i=cm:=⟨_,rfl⟩
 rw [hcm];unfold St.com at hcm;unfold St.has at hg
 cases e:oget st.objs 3 i with
 | none =>
  rw [e] at hg hcm;subst hg;have hcm:cm=zcm:=hcm.symm;subst hcm;have hv:=hgo e;subst hv;obtain ⟨x0,x1,x2,x3⟩:=bx.cells;obtain ⟨f0,f1,f2,f3⟩:=bx.thaw;have lt:=bx.lt;have HW:Hid (Below w.heap.size w W):=bW;clear h hth hgo hx e bx bW;go_enter Tryz.func24,Tryz.ntmps24;go_wp2;refine bodyPost_ret (v:=.tuple #[.agg #[.int .u64 0,.slice none 0 0,.int .i64 0,.string ⟨#[]⟩],.bool false]) ?_ rfl ⟨none,0,rfl,RdG.nil _ _ _,Nat.le_refl _,?_⟩
  ·simp [results,Tryz.f24];go_simp
  ·exact HW.out.trans ((ZaI W w.heap.size _ _ _ _).below HW.out.size (λ k hk q=>by have q':k=w.heap.size:=q; omega))
 | some bs =>
  rw [e] at hg hcm;subst hg;obtain ⟨a1,c7,hv,_,_,_⟩:=(hth bs e).1;have hbv:=(hth bs e).1;rw [hv] at hbv hl;have hrd:=ZdG W hbv rfl
  obtain ⟨n,hn⟩:∃ n,bs.length=n:=⟨_,rfl⟩
  rw [hn] at hrd hl
  have HW:Hid (Below w.heap.size w W/\Box4 W w.heap.size 67 (.int .u64 0) (.slice none 0 0) (.int .i64 0) (.string ⟨#[]⟩)):=⟨bW,bx⟩
  rw [Option.bind_some] at hcm;have HC:Hid ((rdcom bs).getD zcm=cm):=hcm;clear h hth hgo hx e hv hn hbv bW bx hcm;go_enter Tryz.func24,Tryz.ntmps24;go_wp2_with fail;refine hrd.mono ?_;rintro e w1 ⟨c2,er,pa,pc,rfl,R1⟩
  have ec:cm=c2:=by rw [<- HC.out]; exact R1.out.1.com
  subst ec
  obtain ⟨tr,htr⟩:∃ tr:Int,(cm.tree.toNat:Int)=tr:=⟨_,rfl⟩
  obtain ⟨pn,hpn⟩:∃ pn,cm.ps.length=pn:=⟨_,rfl⟩
  obtain ⟨dt,hdt⟩:∃ dt,cm.date=dt:=⟨_,rfl⟩
  obtain ⟨nt,hnt⟩:∃ nt:ByteArray,(⟨cm.note.toArray⟩:ByteArray)=nt:=⟨_,rfl⟩
  rw [htr,hpn,hdt,show tx cm.note=.string nt by rw [<- hnt]]
  have HE:Hid ((cm.tree.toNat:Int)=tr/\cm.ps.length=pn/\cm.date=dt/\(⟨cm.note.toArray⟩:ByteArray)=nt):=⟨htr,hpn,hdt,hnt⟩
  obtain ⟨wA,hwA⟩:∃ wA,w1.alloc (.cells #[.int .u64 tr,.slice pa pn pc,.int .i64 dt,.string nt] 67)=wA:=⟨_,rfl⟩
  have bA:Below w1.heap.size w1 wA:=by rw [<- hwA]; exact bz1 _ _
  have bxA:Box4 wA w1.heap.size 67 (.int .u64 tr) (.slice pa pn pc) (.int .i64 dt) (.string nt):=by rw [<- hwA]; exact Box4.new _ _ _ _ _ _
  have bx0:=(HW.out.2.below R1.out.2.2.2.1 HW.out.2.lt).below bA (HW.out.2.below R1.out.2.2.2.1 HW.out.2.lt).lt;obtain ⟨y0,y1,y2,y3⟩:=bxA.cells;obtain ⟨x0,x1,x2,x3⟩:=bx0.cells;obtain ⟨f0,f1,f2,f3⟩:=bx0.thaw;have lt:=bx0.lt;have BA:Hid (Below w1.heap.size w1 wA):=bA;clear hrd htr hpn hdt hnt bA bxA bx0;go_wp2;refine bodyPost_ret (v:=.tuple #[.agg #[.int .u64 tr,.slice pa pn pc,.int .i64 dt,.string nt],.bool true]) ?_ rfl ?_
  ·simp [results,Tryz.f24];go_simp
  ·have ht:=ZaI wA w.heap.size (.int .u64 tr) (.slice pa pn pc) (.int .i64 dt) (.string nt);have bel:Below w.heap.size w wA:=(HW.out.1.trans (R1.out.2.2.2.1.mono HW.out.1.size)).trans (BA.out.mono (Nat.le_trans HW.out.1.size R1.out.2.2.2.1.size))
   have hrow:=(R1.out.2.1.below BA.out).turned ht (λ h0 p hp q=>by
    have h1:=R1.out.2.2.2.2 h0 p hp;have h2:=HW.out.2.lt;have q':p.block=w.heap.size:=q
    omega)
   refine ⟨pa,pc,?_,hrow,R1.out.2.2.1,bel.trans (ht.below bel.size (λ k hk q=>by have q':k=w.heap.size:=q; omega))⟩;rw [HE.out.1,HE.out.2.1,HE.out.2.2.1,<- HE.out.2.2.2]
   rfl
end
section
variable {w:World} {s b:Nat} {st:St} {S:Nat->Prop} {a:Option Addr} {n c:Nat} {body:Bs}
def St.isNew (st:St) (f:Fr):Bool:=!(decide (oid f.1 f.2=0))&&!(st.has f.1 (oid f.1 f.2))
theorem ZaP (x:UInt64):(x.toNat:Int)=0↔x=0:=by
 constructor
 ·intro q;exact UInt64.toNat_inj.1 (by simpa using q)
 ·rintro rfl; rfl
theorem Zkf (h:Zac w s b st S) (hv:BAt w (.slice a n c) body) {k:Nat} (hk:k<4) (kI:Int) (hkI:(k:Int)=kI) (g:Bool) (hg:st.isNew (kI,body)=g) :
  Calls Tryz.prog 223 #[.pointer (some ⟨s,0,none⟩),.agg #[.int .i64 kI,.slice a n c]] w λ e w'=>e=.returned (.bool g)/\Below w.heap.size w w':=by
 obtain ⟨W,hW⟩:∃ W,w.alloc (.cells #[.int .i64 kI,.slice a n c] 228)=W:=⟨_,rfl⟩
 have bW:Below w.heap.size w W:=by rw [<- hW]; exact bz1 _ _
 have bx:Box W w.heap.size 228 (.int .i64 kI) (.slice a n c):=by rw [<- hW]; exact Box.new _ _ _ _
 obtain ⟨W2,hW2⟩:∃ W2,W.alloc (.cells #[.slice a n c] 39)=W2:=⟨_,rfl⟩
 have bW2:Below W.heap.size W W2:=by rw [<- hW2]; exact bz1 _ _
 obtain ⟨x0,x1⟩:=bx.cells;obtain ⟨y0,y1⟩:=(bx.below bW2).cells
 obtain ⟨x,hx⟩:∃ x,oid kI body=x:=⟨_,rfl⟩
 have sid:=Zj4 kI W2 (by rw [<- hW2]; exact ZaB (hv.below bW) 39) (by simp) x (by simpa using hx)
 have hs:=λ q hq=>Zco ((h.below bW).below bW2) hk x q hq
 rw [hkI] at hs;have HB:Hid (Below w.heap.size w W2):=bW.trans (bW2.mono bW.size);unfold St.isNew at hg;rw [show oid (kI,body).1 (kI,body).2=x from hx] at hg;by_cases h0:x=0
 ·have eg:g=false:=by rw [<- hg,h0]; rfl
  subst eg;rw [(ZaP x).2 h0] at sid;clear h hv bW bx bW2 hx hs h0 hg;go_enter Tryz.func223,Tryz.ntmps223;go_wp2_with fail;refine sid.mono ?_;rintro e w1 ⟨rfl,hw1⟩;rw [hw1];clear hw1 w1;go_wp2;go_ret;exact ⟨rfl,HB.out⟩
 ·have eg:g=!(st.has kI x):=by rw [<- hg]; simp [h0]
  have hs:=hs _ rfl
  obtain ⟨q,hq⟩:∃ q,st.has kI x=q:=⟨_,rfl⟩
  rw [hq] at hs eg;subst eg
  obtain ⟨xi,hxi⟩:∃ xi,(x.toNat:Int)=xi:=⟨_,rfl⟩
  have m1:(xi != 0)=true:=by
   rw [<- hxi]
   have:=λ z=>h0 ((ZaP x).1 z)
   simpa using this
  rw [hxi] at sid hs;clear h hv bW bx bW2 hx h0 hg hxi hq;go_enter Tryz.func223,Tryz.ntmps223;go_wp2_with fail;refine sid.mono ?_;rintro e w1 ⟨rfl,hw1⟩;rw [hw1];clear hw1 w1;go_wp2_with fail;refine hs.mono ?_;rintro e w1 ⟨rfl,hw1⟩;rw [hw1];clear hw1 w1;go_wp2;go_ret;exact ⟨rfl,HB.out⟩
theorem ZeI (h:Zac w s b st S) (hv:BAt w (.slice a n c) body) (hl:body.length=n) (hn:n<=8192) (kI:Int) (hk:kI=4∨kI=5) (g:Bool) (hg:st.fits (kI,body)=g) :
  Calls Tryz.prog 224 #[.pointer (some ⟨s,0,none⟩),.agg #[.int .i64 kI,.slice a n c]] w λ e w'=>e=.returned (.bool g)/\Below w.heap.size w w':=by
 obtain ⟨W,hW⟩:∃ W,w.alloc (.cells #[.int .i64 kI,.slice a n c] 228)=W:=⟨_,rfl⟩
 have bW:Below w.heap.size w W:=by rw [<- hW]; exact bz1 _ _
 have bx:Box W w.heap.size 228 (.int .i64 kI) (.slice a n c):=by rw [<- hW]; exact Box.new _ _ _ _
 obtain ⟨x0,x1⟩:=bx.cells;have HB:Hid (Below w.heap.size w W):=bW;unfold St.fits at hg;rw [if_pos hk] at hg;simp only at hg;by_cases h8:n<8
 ·have t8:(n:Int)<8:=by omega
  have eg:g=false:=by rw [<- hg,show decide (8<=body.length)=false by simp; omega]; rfl
  subst eg;clear h hv bW bx hg hk;go_enter Tryz.func224,Tryz.ntmps224;go_wp2;go_ret;exact ⟨rfl,HB.out⟩
 have t8:decide ((n:Int)<8)=false:=by rw [decide_eq_false_iff_not]; omega
 rw [show decide (8<=body.length)=true by simp; omega,Bool.true_and] at hg;have hrl:=ZbF (hv.below bW) hl (by omega)
 have hnl:(labN body).length<=8192:=by unfold labN; rw [List.length_drop]; omega
 obtain ⟨nm,hnm⟩:∃ nm,labN body=nm:=⟨_,rfl⟩
 obtain ⟨i,hi⟩:∃ i,labI body=i:=⟨_,rfl⟩
 rw [hnm,hi] at hrl hg;rw [hnm] at hnl
 obtain ⟨xi,hxi⟩:∃ xi,(i.toNat:Int)=xi:=⟨_,rfl⟩
 obtain ⟨M,r,t,F,hX⟩:=h;have lr:=Zbb (hX.below bW).refs nm (by omega);have lt:=Zbb (hX.below bW).tags nm (by omega)
 have hs:=λ q hq=>ZnE (hX.below bW) (k:=3) (by omega) i q hq
 rw [show ((3:Nat):Int)=3 from rfl] at hs;obtain ⟨c0,c1,c2,c3,c4,c5,c6⟩:=(hX.below bW).cell;rw [hxi] at hs hrl
 have hna:=λ q hq=>ZaW nm q hq W
 cases e1:isName nm with
 | false =>
  have hna:=hna false e1;rw [show err false=2 from rfl] at hna
  have eg:g=false:=by rw [<- hg,e1]; rfl
  subst eg;clear hX hv bW bx hg hk lr lt hs hnm hi hnl hxi;go_enter Tryz.func224,Tryz.ntmps224;go_wp2_with fail;refine hrl.mono ?_;rintro e w1 ⟨rfl,hw1⟩;rw [hw1];clear hw1 w1;go_wp2_with fail;refine hna.mono ?_;rintro e w1 ⟨rfl,hw1⟩;rw [hw1];clear hw1 w1;go_wp2;go_ret;exact ⟨rfl,HB.out⟩
 | true =>
  have hna:=hna true e1;rw [show err true=0 from rfl] at hna;rw [e1,Bool.true_and] at hg
  obtain ⟨rg,hrg⟩:∃ rg,(nget st.refs nm).isSome=rg:=⟨_,rfl⟩
  obtain ⟨ri,hri⟩:∃ ri:Int,(((nget st.refs nm).getD 0).toNat:Int)=ri:=⟨_,rfl⟩
  obtain ⟨tg,htg⟩:∃ tg,(nget st.tags nm).isSome=tg:=⟨_,rfl⟩
  obtain ⟨ti,hti⟩:∃ ti:Int,(((nget st.tags nm).getD 0).toNat:Int)=ti:=⟨_,rfl⟩
  obtain ⟨q,hq⟩:∃ q,st.has 3 i=q:=⟨_,rfl⟩
  have hs:=hs q hq;rw [hrg,hri] at lr;rw [htg,hti] at lt;rw [hq,hrg,htg] at hg
  rcases hk with rfl | rfl
  ·by_cases h0:i=0
   ·have eg:g=rg:=by rw [<- hg]; simp [h0]
    subst eg
    have z0:xi=0:=by rw [<- hxi]; exact (ZaP i).2 h0
    subst z0;clear hX hv bW bx hg lt hs hnm hi hnl hxi hq hrg hri htg hti h0 e1;go_enter Tryz.func224,Tryz.ntmps224;go_wp2_with fail;refine hrl.mono ?_;rintro e w1 ⟨rfl,hw1⟩;rw [hw1];clear hw1 w1;go_wp2_with fail;refine hna.mono ?_;rintro e w1 ⟨rfl,hw1⟩;rw [hw1];clear hw1 w1;go_wp2;go_ret;exact ⟨rfl,HB.out⟩
   ·have eg:g=q:=by rw [<- hg]; simp [h0]
    subst eg
    have m1:(xi==0)=false:=by
     rw [<- hxi]
     have:=λ z=>h0 ((ZaP i).1 z)
     simpa using this
    clear hX hv bW bx hg hnm hi hnl hxi hq hrg hri htg hti h0 e1 lr;go_enter Tryz.func224,Tryz.ntmps224;go_wp2_with fail;refine hrl.mono ?_;rintro e w1 ⟨rfl,hw1⟩;rw [hw1];clear hw1 w1;go_wp2_with fail;refine hna.mono ?_;rintro e w1 ⟨rfl,hw1⟩;rw [hw1];clear hw1 w1;go_wp2_with fail;refine hs.mono ?_;rintro e w1 ⟨rfl,hw1⟩;rw [hw1];clear hw1 w1
    cases g with
    | true =>
     go_wp2;go_ret;exact ⟨rfl,HB.out⟩
    | false =>
     go_wp2;go_ret;exact ⟨rfl,HB.out⟩
  ·have eg:g=(q&&!tg):=by rw [<- hg]; simp
   subst eg;clear hX hv bW bx hg hnm hi hnl hxi hq hrg hri htg hti e1 lr;go_enter Tryz.func224,Tryz.ntmps224;go_wp2_with fail;refine hrl.mono ?_;rintro e w1 ⟨rfl,hw1⟩;rw [hw1];clear hw1 w1;go_wp2_with fail;refine hna.mono ?_;rintro e w1 ⟨rfl,hw1⟩;rw [hw1];clear hw1 w1;go_wp2_with fail;refine hs.mono ?_;rintro e w1 ⟨rfl,hw1⟩;rw [hw1];clear hw1 w1
   cases q with
   | true =>
    cases tg with
    | true =>
     go_wp2;go_ret;exact ⟨rfl,HB.out⟩
    | false =>
     go_wp2;go_ret;exact ⟨rfl,HB.out⟩
   | false =>
    go_wp2;go_ret;exact ⟨rfl,HB.out⟩
theorem ZjC (h:Zac w s b st S) (hv:BAt w (.slice a n c) body) (hl:body.length=n) (hn:n<=8192) (kI:Int) (g:Bool) (hg:st.fits (kI,body)=g) :
  Calls Tryz.prog 165 #[.pointer (some ⟨s,0,none⟩),.agg #[.int .i64 kI,.slice a n c]] w λ e w'=>e=.returned (.bool g)/\Below w.heap.size w w':=by
 obtain ⟨W,hW⟩:∃ W,w.alloc (.cells #[.int .i64 kI,.slice a n c] 228)=W:=⟨_,rfl⟩
 have bW:Below w.heap.size w W:=by rw [<- hW]; exact bz1 _ _
 have bx:Box W w.heap.size 228 (.int .i64 kI) (.slice a n c):=by rw [<- hW]; exact Box.new _ _ _ _
 obtain ⟨x0,x1⟩:=bx.cells
 have H:Hid (Zac W s b st S/\BAt W (.slice a n c) body/\body.length=n/\Below w.heap.size w W/\Box W w.heap.size 228 (.int .i64 kI) (.slice a n c)):=⟨h.below bW,hv.below bW,hl,bW,bx⟩
 have hin:=λ (W2:World) (B2:Below W.heap.size W W2) (k:Nat) (hk:k<4) (hkI:(k:Int)=kI) (g:Bool) (hg:st.isNew (kI,body)=g)=>Zkf (n:=n) (c:=c) (H.out.1.below B2) (H.out.2.1.below B2) hk kI hkI g hg
 have hnew:∀ (q:Bool),kI≠4->kI≠5->st.right (kI,body)=q->(q&&st.isNew (kI,body))=g:=by
  intro q h4 h5 hr;rw [<- hg];unfold St.fits St.isNew;rw [if_neg (by show ¬ (kI=4∨kI=5); omega),hr,Bool.and_assoc]
 obtain ⟨nw,hnw⟩:∃ nw,st.isNew (kI,body)=nw:=⟨_,rfl⟩
 rw [hnw] at hnew
 have hlf:=λ (hk:kI=4∨kI=5)=>ZeI H.out.1 H.out.2.1 H.out.2.2.1 hn kI hk g hg
 have HN:Hid (st.isNew (kI,body)=nw):=hnw;have HQ:Hid (∀ (q:Bool),kI≠4->kI≠5->st.right (kI,body)=q->(q&&nw)=g):=hnew;clear h hv bW bx hg hnw hnew;by_cases k1:kI=1
 ·subst k1;clear hlf;by_cases h4:n<=4096
  ·have t4:(n:Int)<=4096:=by omega
   have eg:nw=g:=by
    have:=HQ.out true (by omega) (by omega) (by unfold St.right; rw [if_pos rfl]; simp; rw [H.out.2.2.1]; exact h4);simpa using this
   subst eg;have hc:=hin W (Below.refl _ _) 1 (by omega) rfl _ HN.out;clear hin HQ;go_enter Tryz.func165,Tryz.ntmps165;go_wp2_with fail;refine hc.mono ?_;rintro e w1 ⟨rfl,B1⟩;have B2:Hid (Below w.heap.size w w1):=H.out.2.2.2.1.trans (B1.mono H.out.2.2.2.1.size);clear B1;go_wp2;go_ret;exact ⟨rfl,B2.out⟩
  ·have t4:decide ((n:Int)<=4096)=false:=by rw [decide_eq_false_iff_not]; omega
   have eg:g=false:=by
    have:=HQ.out false (by omega) (by omega) (by unfold St.right; rw [if_pos rfl]; simp; rw [H.out.2.2.1]; omega);simpa using this.symm
   subst eg;clear hin HQ;go_enter Tryz.func165,Tryz.ntmps165;go_wp2;go_ret;exact ⟨rfl,H.out.2.2.2.1⟩
 by_cases k2:kI=2
 ·subst k2;have hrd:=ZcY W H.out.2.1 H.out.2.2.1;clear hlf k1;go_enter Tryz.func165,Tryz.ntmps165;go_wp2_with fail;refine hrd.mono ?_;rintro e w1 ⟨es,er,v1,rfl,R1⟩;clear hrd;obtain ⟨y0,y1⟩:=(H.out.2.2.2.2.below R1.out.2.2).cells;have B1:Hid (Below w.heap.size w w1):=H.out.2.2.2.1.trans (R1.out.2.2.mono H.out.2.2.2.1.size)
  rcases R1.out.1.rd with ⟨rfl,hr⟩ | ⟨rfl,rfl,hr⟩
  ·have hri:st.right (2,body)=st.blobs es:=by unfold St.right; rw [if_neg (by show ¬ (2:Int)=1; omega),if_pos rfl]; simp only [hr]
   obtain ⟨q,hq⟩:∃ q,st.blobs es=q:=⟨_,rfl⟩
   have eg:=HQ.out q (by omega) (by omega) (by rw [hri]; exact hq);obtain ⟨a1,c1,hv1,_,_,r1,_⟩:=OwnG.form R1.out.2.1;have h64:=(ZaQ (Zbf hr).1).1;have hbl:=ZcW (c:=c1) (H.out.1.below R1.out.2.2) r1 rfl (by omega) q hq
   obtain ⟨en,hen⟩:∃ en,es.length=en:=⟨_,rfl⟩
   rw [hen] at hv1 hbl;subst hv1;clear hri hq r1 h64 hen hr
   cases q with
   | false =>
    have eg:g=false:=by simpa using eg.symm
    subst eg;go_wp2_with fail;refine hbl.mono ?_;rintro e w2 ⟨rfl,B2⟩;have B3:Hid (Below w.heap.size w w2):=B1.out.trans (B2.mono B1.out.size);clear B2;go_wp2;go_ret;exact ⟨rfl,B3.out⟩
   | true =>
    have eg:nw=g:=by simpa using eg
    subst eg;go_wp2_with fail;refine hbl.mono ?_;rintro e w2 ⟨rfl,B2⟩
    have B3:Hid (Below w.heap.size w w2/\Below W.heap.size W w2):=⟨B1.out.trans (B2.mono B1.out.size),R1.out.2.2.trans (B2.mono R1.out.2.2.size)⟩
    have hc:=hin w2 B3.out.2 2 (by omega) rfl _ HN.out;clear y0 y1;obtain ⟨y0,y1⟩:=(H.out.2.2.2.2.below B3.out.2).cells;clear B2;go_wp2_with fail;refine hc.mono ?_;rintro e w3 ⟨rfl,B4⟩;have B5:Hid (Below w.heap.size w w3):=B3.out.1.trans (B4.mono B3.out.1.size);clear B4;go_wp2;go_ret;exact ⟨rfl,B5.out⟩
  ·have eg:g=false:=by
    have:=HQ.out false (by omega) (by omega) (by unfold St.right; rw [if_neg (by show ¬ (2:Int)=1; omega),if_pos rfl]; simp only [hr]);simpa using this.symm
   subst eg;clear hr;go_wp2;go_ret;exact ⟨rfl,B1.out⟩
 by_cases k3:kI=3
 ·subst k3;have hrd:=ZdG W H.out.2.1 H.out.2.2.1;clear hlf k1 k2;go_enter Tryz.func165,Tryz.ntmps165;go_wp2_with fail;refine hrd.mono ?_;rintro e w1 ⟨cm,er,pa,pc,rfl,R1⟩;clear hrd
  have hba:=λ (W2:World) (B2:Below w1.heap.size w1 W2) (g:Bool) (hg:st.above cm=g) (hn:cm.ps.length<=4000000000000000000)=>ZdJ (pc:=pc) (cm:=cm) ((H.out.1.below R1.out.2.2.2.1).below B2) (R1.out.2.1.below B2) rfl hn cm.date ⟨cm.note.toArray⟩ g hg
  obtain ⟨tr,htr⟩:∃ tr:Int,(cm.tree.toNat:Int)=tr:=⟨_,rfl⟩
  obtain ⟨pn,hpn⟩:∃ pn,cm.ps.length=pn:=⟨_,rfl⟩
  obtain ⟨dt,hdt⟩:∃ dt,cm.date=dt:=⟨_,rfl⟩
  obtain ⟨nt,hnt⟩:∃ nt:ByteArray,(⟨cm.note.toArray⟩:ByteArray)=nt:=⟨_,rfl⟩
  rw [htr,hpn,hdt,show tx cm.note=.string nt by rw [<- hnt]];rw [htr,hpn,hdt,hnt] at hba
  obtain ⟨wA,hwA⟩:∃ wA,w1.alloc (.cells #[.int .u64 tr,.slice pa pn pc,.int .i64 dt,.string nt] 67)=wA:=⟨_,rfl⟩
  have bA:Below w1.heap.size w1 wA:=by rw [<- hwA]; exact bz1 _ _
  have bxA:Box4 wA w1.heap.size 67 (.int .u64 tr) (.slice pa pn pc) (.int .i64 dt) (.string nt):=by rw [<- hwA]; exact Box4.new _ _ _ _ _ _
  obtain ⟨z0,z1,z2,z3⟩:=bxA.cells;have bx1:=(H.out.2.2.2.2.below R1.out.2.2.2.1).below bA;obtain ⟨y0,y1⟩:=bx1.cells
  have B1:Hid (Below w.heap.size w wA/\Below W.heap.size W wA):=⟨(H.out.2.2.2.1.trans (R1.out.2.2.2.1.mono H.out.2.2.2.1.size)).trans (bA.mono (Nat.le_trans H.out.2.2.2.1.size R1.out.2.2.2.1.size)),R1.out.2.2.2.1.trans (bA.mono R1.out.2.2.2.1.size)⟩
  have hba:=hba wA bA;clear bA bxA bx1 htr hdt hnt
  rcases R1.out.1.rd with ⟨rfl,hr⟩ | ⟨rfl,rfl,hr⟩
  ·have hri:st.right (3,body)=st.above cm:=by unfold St.right; rw [if_neg (by show ¬ (3:Int)=1; omega),if_neg (by show ¬ (3:Int)=2; omega),if_pos rfl]; simp only [hr]
   obtain ⟨q,hq⟩:∃ q,st.above cm=q:=⟨_,rfl⟩
   have eg:=HQ.out q (by omega) (by omega) (by rw [hri]; exact hq);have h8:=(Za3 (Zbr hr).1).1;have hba:=hba q hq (by omega);clear hri hq h8 hr hpn
   cases q with
   | false =>
    have eg:g=false:=by simpa using eg.symm
    subst eg;go_wp2_with fail;refine hba.mono ?_;rintro e w2 ⟨rfl,B2⟩;have B3:Hid (Below w.heap.size w w2):=B1.out.1.trans (B2.mono B1.out.1.size);clear B2;go_wp2;go_ret;exact ⟨rfl,B3.out⟩
   | true =>
    have eg:nw=g:=by simpa using eg
    subst eg;go_wp2_with fail;refine hba.mono ?_;rintro e w2 ⟨rfl,B2⟩
    have B3:Hid (Below w.heap.size w w2/\Below W.heap.size W w2):=⟨B1.out.1.trans (B2.mono B1.out.1.size),B1.out.2.trans (B2.mono B1.out.2.size)⟩
    have hc:=hin w2 B3.out.2 3 (by omega) rfl _ HN.out;clear y0 y1;obtain ⟨y0,y1⟩:=(H.out.2.2.2.2.below B3.out.2).cells;clear B2;go_wp2_with fail;refine hc.mono ?_;rintro e w3 ⟨rfl,B4⟩;have B5:Hid (Below w.heap.size w w3):=B3.out.1.trans (B4.mono B3.out.1.size);clear B4;go_wp2;go_ret;exact ⟨rfl,B5.out⟩
  ·have eg:g=false:=by
    have:=HQ.out false (by omega) (by omega) (by unfold St.right; rw [if_neg (by show ¬ (3:Int)=1; omega),if_neg (by show ¬ (3:Int)=2; omega),if_pos rfl]; simp only [hr]);simpa using this.symm
   subst eg;clear hr hba;go_wp2;go_ret;exact ⟨rfl,B1.out.1⟩
 by_cases k4:kI=4∨kI=5
 ·have hc:=hlf k4;clear hin HQ hlf
  rcases k4 with rfl | rfl
  ·go_enter Tryz.func165,Tryz.ntmps165;go_wp2_with fail;refine hc.mono ?_;rintro e w1 ⟨rfl,B1⟩;have B2:Hid (Below w.heap.size w w1):=H.out.2.2.2.1.trans (B1.mono H.out.2.2.2.1.size);clear B1;go_wp2;go_ret;exact ⟨rfl,B2.out⟩
  ·go_enter Tryz.func165,Tryz.ntmps165;go_wp2_with fail;refine hc.mono ?_;rintro e w1 ⟨rfl,B1⟩;have B2:Hid (Below w.heap.size w w1):=H.out.2.2.2.1.trans (B1.mono H.out.2.2.2.1.size);clear B1;go_wp2;go_ret;exact ⟨rfl,B2.out⟩
 ·have eg:g=false:=by
   have:=HQ.out false (λ q=>k4 (.inl q)) (λ q=>k4 (.inr q)) (by unfold St.right; rw [if_neg (by show ¬ kI=1; exact k1),if_neg (by show ¬ kI=2; exact k2),if_neg (by show ¬ kI=3; exact k3)]);simpa using this.symm
  subst eg
  have m1:(kI==1)=false:=by simpa using k1
  have m2:(kI==2)=false:=by simpa using k2
  have m3:(kI==3)=false:=by simpa using k3
  have m4:(kI==4)=false:=by simpa using λ q=>k4 (.inl q)
  have m5:(kI==5)=false:=by simpa using λ q=>k4 (.inr q)
  clear hin HQ hlf;go_enter Tryz.func165,Tryz.ntmps165;go_wp2;go_ret;exact ⟨rfl,H.out.2.2.2.1⟩
end
end Go.Proofs.YtmhcpbbiokpjjaaGreat
