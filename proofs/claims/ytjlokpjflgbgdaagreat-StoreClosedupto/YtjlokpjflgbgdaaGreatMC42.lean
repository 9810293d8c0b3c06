/-
  Several texts, laid together.
-/
import Derived.Test.YtjlokpjflgbgdaaGreatMC41
set_option maxHeartbeats 6400000
set_option maxRecDepth 100000
namespace Go.Proofs.YtjlokpjflgbgdaaGreat
open Go.RowKit
def keep (kept:List Bs) (p:Bs):List Bs:=if kept.any (under p) then kept else kept++[p]
end Go.Proofs.YtjlokpjflgbgdaaGreat

namespace Go.Proofs.YtjlokpjflgbgdaaGreat
open Go.RowKit
def pre (p:Bs):Nat->List Bs
 | 0=>[]
 | i+1=>if p[i]? = some 47 then pre p i++[p.take i] else pre p i
end Go.Proofs.YtjlokpjflgbgdaaGreat

namespace Go.Proofs.YtjlokpjflgbgdaaGreat
open Go.RowKit
end Go.Proofs.YtjlokpjflgbgdaaGreat

namespace Go.Proofs.YtjlokpjflgbgdaaGreat
open Go.RowKit Go.Shelf Go.Sort
theorem nanN_any (s:ByteArray) (w:World):Calls Tryz.prog 203 #[.string s] w λ e w'=>e=.returned (.bool false)/\w'=w:=by
 go_enter Tryz.func203,Tryz.ntmps203;go_wp2;go_ret;exact ⟨by simp,rfl⟩
def cmpN (x y:Bs):Int:=if x<y then -1 else if y<x then 1 else 0
theorem compareN_any (x y:Bs) (w:World):Calls Tryz.prog 157 #[tx x,tx y] w λ e w'=>e=.returned (.int .i64 (cmpN x y))/\w'=w:=by
 have h1:=nanN_any ⟨x.toArray⟩;have h2:=nanN_any ⟨y.toArray⟩
 obtain ⟨r,hr⟩:∃ r,cmpN x y=r:=⟨_,rfl⟩
 have R:Hid (cmpN x y=r):=hr;rw [hr];clear hr
 cases l1:Op.bytesLess x y with
 | true =>
  have q:x<y:=by have:=less_eq x y; rw [l1] at this; simpa using this.symm
  have R2:Hid (r = -1):=by show _=_; rw [<- R.out,cmpN,if_pos q]
  clear R q;go_enter Tryz.func157,Tryz.ntmps157;go_wp2_with fail;refine (h1 _).mono ?_;rintro e w1 ⟨rfl,rfl⟩;go_wp2_with fail;refine (h2 _).mono ?_;rintro e w1 ⟨rfl,rfl⟩;go_wp2;go_ret;exact ⟨by rw [R2.out]; rfl,rfl⟩
 | false =>
  have q:¬ x<y:=by have:=less_eq x y; rw [l1] at this; simpa using this.symm
  cases l2:Op.bytesLess y x with
  | true =>
   have q2:y<x:=by have:=less_eq y x; rw [l2] at this; simpa using this.symm
   have R2:Hid (r=1):=by show _=_; rw [<- R.out,cmpN,if_neg q,if_pos q2]
   have hxy:(x==y)=false:=by
    rw [beq_eq_false_iff_ne];intro e;rw [e] at q2;exact bl_irrefl _ q2
   clear R q q2;go_enter Tryz.func157,Tryz.ntmps157;go_wp2_with fail;refine (h1 _).mono ?_;rintro e w1 ⟨rfl,rfl⟩;go_wp2_with fail;refine (h2 _).mono ?_;rintro e w1 ⟨rfl,rfl⟩;go_wp2;go_ret;exact ⟨by rw [R2.out]; rfl,rfl⟩
  | false =>
   have q2:¬ y<x:=by have:=less_eq y x; rw [l2] at this; simpa using this.symm
   have R2:Hid (r=0):=by show _=_; rw [<- R.out,cmpN,if_neg q,if_neg q2]
   have hxy:(x==y)=true:=by
    rw [beq_iff_eq]
    rcases bl_tri x y with k | k | k
    ·exact absurd k q
    ·exact k
    ·exact absurd k q2
   clear R q q2;go_enter Tryz.func157,Tryz.ntmps157;go_wp2_with fail;refine (h1 _).mono ?_;rintro e w1 ⟨rfl,rfl⟩;go_wp2_with fail;refine (h2 _).mono ?_;rintro e w1 ⟨rfl,rfl⟩;go_wp2;go_ret;exact ⟨by rw [R2.out]; rfl,rfl⟩
def cmpNE (x y:En):Int:=cmpN x.1 y.1
theorem closureN (x y:En) (W:World):Calls Tryz.prog 156 #[.agg (encE.cells x).toArray,.agg (encE.cells y).toArray] W λ e w'=>e=.returned (.int .i64 (cmpNE x y))/\∃ q os',w'=grow (W.drewN q) os':=by
 obtain ⟨p,u⟩:=x;obtain ⟨p',u'⟩:=y
 have hcon:=λ W'=>compareN_any p p' W'
 show Calls Tryz.prog 156 #[.agg #[tx p,.int .u64 (u.toNat:Int)],.agg #[tx p',.int .u64 (u'.toNat:Int)]] W λ e w'=>e=.returned (.int .i64 (cmpN p p'))/\∃ q os',w'=grow (W.drewN q) os'
 generalize cmpN p p'=r at hcon ⊢;generalize (u.toNat:Int)=z;generalize (u'.toNat:Int)=z';go_enter Tryz.func156,Tryz.ntmps156;go_wp2_with (go_at_call 157; refine (hcon _).mono ?_; rintro e w' ⟨rfl,rfl⟩);go_ret;exact ⟨rfl,0,_,by rw [alloc_eq_grow,alloc_eq_grow,grow_grow]; rfl⟩
theorem ltNE (x y:En):ltOf cmpNE x y=decide (x.1<y.1):=by
 unfold ltOf cmpNE cmpN;by_cases h1:x.1<y.1
 ·simp [h1]
 ·by_cases h2:y.1<x.1 <;> simp [h1,h2]
theorem swoNE:SWO (ltOf cmpNE) where
 irrefl x:=by rw [ltNE]; simp [bl_irrefl]
 trans x y z h1 h2:=by
  rw [ltNE] at *;simp only [decide_eq_true_eq] at *;exact bl_trans h1 h2
 ntrans x y z h1 h2:=by
  rw [ltNE] at *;simp only [decide_eq_false_iff_not] at *;intro h
  rcases bl_tri y.1 z.1 with k | k | k
  ·exact h2 k
  ·rw [<- k] at h; exact h1 h
  ·exact h1 (bl_trans h k)
instance inhNm:Inhabited En:=⟨([],0)⟩
theorem entersN:∀ args w,(callFunc 156 args).run Tryz.prog w=.ok (.enter 156 args) w:=enters_of Tryz.func156 (by kernel_rfl) rfl
theorem flat_allN (es:List En):flatK encE.cells 2 es.toArray=(encE.all es).toArray:=by
 refine ext_get! (by rw [size_flatK]; simp [encE.all_length]; rfl) (λ t ht=>?_)
 have ht':t<es.toArray.size*2:=by simpa using ht
 rw [get_flatK _ _ _ t ht']
 have hi:t / 2<es.length:=by simp at ht'; omega
 have hj:t % 2<2:=Nat.mod_lt _ (by decide);have h1:=encE.all_get es (t / 2) (t % 2) es[t / 2] (List.getElem?_eq_getElem hi) hj
 have e:t / 2*encE.size+t % 2=t:=by show t / 2*2+t % 2=t; omega
 rw [e] at h1
 have h2:es.toArray[t / 2]! = es[t / 2]:=by rw [getElem!_pos es.toArray _ (by simpa using hi)]; simp
 have hl:(encE.cells es[t / 2]).length=2:=rfl;rw [h2,getElem!_pos (encE.cells es[t / 2]) _ (by rw [hl]; exact hj)];rw [List.getElem?_eq_getElem (l:=encE.cells es[t / 2]) (by rw [hl]; exact hj)] at h1;obtain ⟨hlt,h3⟩:=List.getElem?_eq_some_iff.1 h1;rw [getElem!_pos _ _ (by simpa using hlt)];simpa using h3.symm
theorem holdsN {w:World} {base g n cap:Nat} {es:List En} (h:OwnG encE 73 w base (.slice (some ⟨g,0,none⟩) n cap) es):HoldsK encE.cells 2 w g 0 es.toArray:=by
 unfold HoldsK;rw [flat_allN];have hn:es.length=n:=own_len h;subst hn;have h':w.ownsRow base 73 2 (.slice (some ⟨g,0,none⟩) es.length cap) es.length (encE.all es):=h;intro j hj
 have hj':j<(encE.all es).length:=by simpa using hj
 rw [Nat.zero_add];refine ⟨?_,h'.frozenAt _⟩;rw [h'.cellAt _ (by rw [<- h'.1]; exact hj'),List.getElem?_eq_getElem hj']
 congr 1
 rw [getElem!_pos _ _ (by simpa using hj')];simp
theorem ownsN_sorted {w:World} {base g n cap q:Nat} {es ts:List En} {os:Array Obj} (h:OwnG encE 73 w base (.slice (some ⟨g,0,none⟩) n cap) es) (hl:ts.length=es.length) :
  OwnG encE 73 (sortWorldK encE.cells 2 w g 0 q ts.toArray os) base (.slice (some ⟨g,0,none⟩) n cap) ts/\w.grownBy (sortWorldK encE.cells 2 w g 0 q ts.toArray os) (some g):=by
 have hn:es.length=n:=own_len h;subst hn;have h':w.ownsRow base 73 2 (.slice (some ⟨g,0,none⟩) es.length cap) es.length (encE.all es):=h
 rcases h'.2 with ⟨h0,_⟩ | ⟨g',cap',cur,e1,h1,h2,h3,h4,h5,h6⟩
 ·cases h0
 cases e1;have hg:g<w.heap.size:=(Array.getElem?_eq_some_iff.1 h2).1;unfold sortWorldK putRowK;rw [flat_allN]
 have hh:(grow (putRow id (Sort.ahead w q) g 0 (encE.all ts).toArray) os).heap[g]? = some (.cells (putCells id 0 (encE.all ts).toArray cur) 73 (0,0)):=by
  rw [heap_grow_old _ _ (by simpa using hg)];simp [putRow,mapBlock,Sort.ahead,Array.getElem?_modify,h2,onCells]
 have hal:(encE.all ts).length=es.length*2:=by rw [encE.all_length,hl]; rfl
 refine ⟨?_,⟨rfl,rfl,rfl,by simp,λ k hk hne=>?_⟩⟩
 ·unfold OwnG;rw [hl];refine ⟨hal,.inr ⟨g,cap,_,rfl,h1,hh,h3,h4,by simp [putCells]; exact h5,?_⟩⟩;apply List.ext_getElem?;intro j
  have hc2:es.length*2<=cur.size:=by rw [h5]; exact Nat.mul_le_mul_right 2 h3
  by_cases hj:j<es.length*2
  ·show (List.take (es.length*2) (putCells id 0 (encE.all ts).toArray cur).toList)[j]? = _;rw [List.getElem?_take_of_lt hj,Array.getElem?_toList]
   have hj2:j<(encE.all ts).length:=by omega
   simp [putCells,hj2,show j<cur.size by omega]
  ·rw [List.getElem?_take_eq_none (by show es.length*2<=j; omega),List.getElem?_eq_none (by omega)]
 ·rw [heap_grow_old _ _ (by simpa using hk)]
  have:g≠k:=λ e=>hne (by rw [e])
  simp [putRow,mapBlock,Sort.ahead,Array.getElem?_modify,this]
theorem sortN_row {w:World} {base g n cap:Nat} {es:List En} (h:OwnG encE 73 w base (.slice (some ⟨g,0,none⟩) n cap) es) (hn:n<=1000000) :
  Calls Tryz.prog 155 #[.slice (some ⟨g,0,none⟩) n cap,.func (.func 156) #[] #[]] w λ e w'=>e=.returned (.tuple #[])/\∃ ts:List En,ts.Perm es/\ts.Pairwise (λ a b=>¬ b.1<a.1)/\OwnG encE 73 w' base (.slice (some ⟨g,0,none⟩) n cap) ts/\w.grownBy w' (some g):=by
 have hl:es.length=n:=own_len h;have hcon:=AnyQ.slices_SortFunc laySortN 2 Tryz.isAgg73 Tryz.sizeOf73 encE.cells (λ _=>rfl) encE.one cmpNE swoNE 156 #[] g 0 cap es.toArray w entersN (λ _ _ _ _ x y=>closureN x y _) (holdsN h) (h.lt g rfl).2 (by simp; omega)
 have hsz:es.toArray.size=n:=by simpa using hl
 rw [hsz] at hcon;refine (show Calls Tryz.prog 155 _ _ _ from hcon).mono ?_;rintro e w' ⟨rfl,d',q,os,hp,hs,rfl⟩
 obtain ⟨ts,rfl⟩:∃ ts:List En,d'=ts.toArray:=⟨d'.toList,by simp⟩
 have hts:ts.length=es.length:=by simpa using hp.1
 have hown:=ownsN_sorted (q:=q) (os:=os) h hts;refine ⟨rfl,ts,?_,?_,hown.1,hown.2⟩
 ·have:=hp.2.2;rw [Array.toList_extract,Array.toList_extract] at this;have e1:ts.take n=ts:=List.take_of_length_le (by omega);have e2:es.take n=es:=List.take_of_length_le (by omega);simpa [hts,hl,List.extract_eq_take_drop,e1,e2] using this
 ·rw [List.pairwise_iff_getElem];intro i j hi hj hij;have:=hs i j (Nat.zero_le _) hij (by omega);rw [ltNE,getElem!_pos ts.toArray j (by simpa using hj),getElem!_pos ts.toArray i (by simpa using hi)] at this;simpa using this
end Go.Proofs.YtjlokpjflgbgdaaGreat

namespace Go.Proofs.YtjlokpjflgbgdaaGreat
open Go.RowKit
open Go.Maps
theorem keeps_own {α:Type} {E:Enc α} {e:TypeId} {w w':World} {base:Nat} {v:Value} {xs:List α} (h:OwnG E e w base v xs) (ht:Turned (λ k=>v.ownBlock=some k) w w'):KeepsWalks w w':=by
 refine ⟨ht.size,λ k o ho hw=>(ht.block k (Array.getElem?_eq_some_iff.1 ho).1 (λ q=>?_)).trans ho⟩;have:=ownsRow_not_walk_a h k o q ho;rw [hw] at this;cases this
theorem nget_of {l:List (Nm UInt64)} (h:(l.map (·.1)).Nodup):∀ {n:Bs} {i:UInt64},(n,i)∈l->nget l n=some i:=by
 induction l with
 | nil=>intro n i q; cases q
 | cons f t ih =>
  intro n i q;rw [List.map_cons,List.nodup_cons] at h
  rcases List.mem_cons.1 q with e | e
  ·rw [<- e];simp [nget]
  ·have hne:f.1≠n:=λ r=>h.1 (by rw [r]; exact List.mem_map.2 ⟨(n,i),e,rfl⟩)
   simp only [nget,if_neg hne];exact ih h.2 e
theorem ranks_sorted {l ss ts:List (Nm UInt64)} (hl:NRise l) (hn:(ss.map (·.1)).Nodup) (hv:∀ e∈ss,nget l e.1=some e.2) (hm:∀ n,(nget l n).isSome=true->n∈ss.map (·.1)) (hp:ts.Perm ss) (hs:ts.Pairwise (λ a b=>¬ b.1<a.1)):ts=l:=by
 have hnt:(ts.map (·.1)).Nodup:=(hp.map (·.1)).nodup_iff.2 hn
 have hr:NRise ts:=by
  have h1:ts.Pairwise (λ a b=>a.1≠b.1):=List.pairwise_map.1 hnt;refine (hs.and h1).imp ?_;intro a b q
  rcases fs_tri a.1 b.1 with r | r | r
  ·exact r
  ·exact absurd r q.2
  ·exact absurd r q.1
 refine n_ext hr hl (λ n=>?_)
 cases e:nget l n with
 | none =>
  rw [nget_none];intro f hf q;have:=hv f (hp.mem_iff.1 hf);rw [q,e] at this;cases this
 | some i =>
  have h2:=hm n (by rw [e]; rfl);obtain ⟨f,hf,rfl⟩:=List.mem_map.1 h2;have h3:=hv f hf;rw [e] at h3;obtain rfl:i=f.2:=Option.some.inj h3;exact nget_of hnt (hp.mem_iff.2 hf)
theorem infoN:(Tryz.prog.info? 73).map (λ i=>(i.zero,i.size,i.bytes))=some (some (.agg #[.string ⟨#[]⟩,.int .u64 0]),2,24):=by kernel_rfl
theorem sortN_any {w:World} {base:Nat} {v:Value} {es:List En} (h:OwnG encE 73 w base v es) (hn:es.length<=1000000) :
  Calls Tryz.prog 155 #[v,.func (.func 156) #[] #[]] w λ e w'=>e=.returned (.tuple #[])/\∃ ts:List En,ts.Perm es/\ts.Pairwise (λ a b=>¬ b.1<a.1)/\OwnG encE 73 w' base v ts/\Turned (λ k=>v.ownBlock=some k) w w':=by
 rcases h.2 with ⟨rfl,h0⟩ | ⟨g,cap,cur,rfl,h1,h2,h3,h4,h5,h6⟩
 ·have e0:es=[]:=List.eq_nil_of_length_eq_zero h0;subst e0;have hcon:=AnyF.slices_SortFunc_none laySortN none 0 (.func (.func 156) #[] #[]) w;refine (show Calls Tryz.prog 155 _ _ _ from hcon).mono ?_;rintro e w' ⟨rfl,rfl⟩;exact ⟨rfl,[],List.Perm.refl _,List.Pairwise.nil,OwnG.nil _ _ _ _,Turned.refl _ _⟩
 ·refine (sortN_row h (by omega)).mono ?_;rintro e w' ⟨rfl,ts,k1,k2,k3,k4⟩;exact ⟨rfl,ts,k1,k2,k3,(grown_turned k4).mono (λ k _ q=>by have q':k=g:=q; rw [q']; rfl)⟩
theorem rising_any {w:World} {m:Nat} {l:List (Nm UInt64)} (h:MapG kS w m (nview l) l.length) (hr:NRise l) (hn:l.length<=1000000) :
  Calls Tryz.prog 86 #[.map (some m)] w λ e w'=>∃ (a:Option Addr) (n c:Nat),e=.returned (.slice a n c)/\Hid (n<=c/\l.length=n/\OwnG encE 73 w' w.heap.size (.slice a n c) l/\Below w.heap.size w w'):=by
 obtain ⟨D,O3,hsz,hh,ha⟩:=h
 have K:Hid (NRise l/\Maps.size D=l.length/\l.length<=1000000/\(∀ x,Maps.has D (.string x)=(nview l x).isSome)/\∀ x v,nview l x=some v->∀ zd,D.atKey (.string x) zd=.held v):=⟨hr,hsz,hn,hh,ha⟩
 obtain ⟨L,hL⟩:∃ L,l.length=L:=⟨_,rfl⟩
 rw [hL] at O3;have HL:Hid (l.length=L):=hL;clear hL;clear hr hn hsz hh ha;go_enter Tryz.func86,Tryz.ntmps86;go_wp2_with (at_range; (refine wpList_range_own _ rfl _ 156 rfl 9 56 keyedS Tryz.underlying156 heldR m _ D rfl O3 ?_; intro w4 hrg hg4 hs4));go_frame
 have S0:Hid (w4.ranges Tryz.prog 9 heldR m w.heap.size L D (Maps.has D) (Maps.size D)/\Below w.heap.size w w4):=⟨hrg,(Below.refl _ w).grown hg4 (Nat.le_refl _) (λ k e=>by cases e)⟩
 clear hrg hg4 hs4 O3;go_loopw [3,4,5] (λ lv _ _ wr=>∃ (left:Lit->Bool) (cnt:Nat) (ss:List En) (va:Option Addr) (vn vc:Nat),lv=.slice va vn vc/\Hid (wr.ranges Tryz.prog 9 heldR m w.heap.size L D left cnt/\ss.length+cnt<=Maps.size D/\Collected D left (ss.map (·.1))/\(∀ e∈ss,nget l e.1=some e.2)/\OwnG encE 73 wr w.heap.size (.slice va vn vc) ss/\Below w.heap.size w wr)) (λ _ _ _ wr=>wr.rangeLeft m w.heap.size)
 case atStart=>exact ⟨_,_,[],none,0,0,rfl,S0.out.1,by simp,Collected.start D,λ _ q=>(by cases q),OwnG.nil _ _ _ _,S0.out.2⟩
 case round =>
  obtain ⟨left,cnt,ss,va,vn,vc,rfl,HR⟩:=hrel;have hrg:=HR.out.1
  go_wp2_with (first
   | (at_next; refine wpList_next_ranges _ rfl _ rfl 9 keyedS heldR encStr id (λ key kl hk=>by obtain ⟨x,hx,_⟩:=Maps.keyOf_str Tryz.underlying9 hk; exact ⟨x,hx⟩) (λ v _ _=>⟨v,rfl⟩) m w.heap.size _ _ _ _ rfl hrg ?_ ?_)
   | go_in)
  ·intro hc0 hl0
   have hcn:Hid (∀ n,(nget l n).isSome=true->n∈ss.map (·.1)):=by
    intro n q;refine ((HR.out.2.2.1.2 n).2 ⟨?_,hl0 _⟩);rw [K.out.2.2.2.1];unfold nview;rw [Option.isSome_map];exact q
   have hs:=sortN_any HR.out.2.2.2.2.1 (by have:=HR.out.2.1; have:=K.out.2.1; have:=K.out.2.2.1; omega);clear hrg hc0 hl0;go_wp2_with fail;refine hs.mono ?_;rintro e w5 ⟨rfl,ts,k1,k2,k3,k4⟩;have e5:=ranks_sorted K.out.1 HR.out.2.2.1.1 HR.out.2.2.2.1 hcn.out k1 k2;subst e5;obtain ⟨a,c,e6,j1,j2⟩:=k3.whole rfl
   obtain ⟨rfl,rfl,rfl⟩:va=a/\vn=ts.length/\vc=c:=by simpa using e6
   clear e6
   have FIN:Hid (ts.length<=vc/\OwnG encE 73 w5 w.heap.size (.slice va ts.length vc) ts/\Below w.heap.size w w5):=⟨j1,k3,HR.out.2.2.2.2.2.trans (k4.below HR.out.2.2.2.2.2.size (λ k hk q=>by have:=(HR.out.2.2.2.2.1.lt k q).1; omega))⟩
   clear hs k1 k2 k3 k4 j1 j2 HR hcn K S0;go_wp2;go_ret;exact ⟨va,_,vc,rfl,FIN.out.1,rfl,FIN.out.2.1,FIN.out.2.2⟩
  ·intro x c kl yd yp w2 cnt2 hkey hlk hv hat hrg2 hlt hg2 hs2 hen;obtain ⟨x',ex,rfl,hxl⟩:=Maps.keyOf_str Tryz.underlying9 hkey;obtain rfl:x=x':=encStr_inj ex
   obtain ⟨i,hi,rfl⟩:∃ i,nget l x=some i/\c=idv i:=by
    have h1:Maps.has D (.string x)=true:=has_true_of_atKey hat;rw [K.out.2.2.2.1] at h1;obtain ⟨v,hv1⟩:=Option.isSome_iff_exists.1 h1;have h2:=K.out.2.2.2.2 x v hv1 (.held v);rw [hat] at h2;have h3:DataW.held c=yd:=congrArg Prod.fst (Option.some.inj hv);rw [h2] at h3
    have h4:c=v:=by simpa using h3
    unfold nview at hv1
    cases q:nget l x with
    | none=>rw [q] at hv1; cases hv1
    | some i=>rw [q] at hv1; exact ⟨i,rfl,by rw [h4]; exact (Option.some.inj hv1).symm⟩
   have O2:Hid (OwnG encE 73 w2 w.heap.size (.slice va vn vc) ss):=ownsRow_abides_a HR.out.2.2.2.2.1 hg2 (λ r e=>by cases e; exact hrg.iter_walk);have B2:Hid (Below w.heap.size w w2):=HR.out.2.2.2.2.2.grown hg2 HR.out.2.2.2.2.2.size (λ k e=>by cases e; exact Nat.le_refl _)
   have Z:Hid (nget l x=some i/\ss.length<Maps.size D/\w2.ranges Tryz.prog 9 heldR m w.heap.size L D (λ z=>left z&&!z.sameKey (.string x)) cnt2/\cnt2<cnt/\ss.length+1+cnt2<=Maps.size D/\Collected D (λ z=>left z&&!z.sameKey (.string x)) ((ss++[(x,i)]).map (·.1))):=⟨hi,by have:=HR.out.2.1; omega,hrg2,hlt,by have:=HR.out.2.1; omega,by simpa using HR.out.2.2.1.step hlk hat⟩
   have hl6:(ss.length+1)*24<=140737488355328:=by have:=Z.out.2.1; have:=K.out.2.1; have:=K.out.2.2.1; omega
   have hlm:ss.length+1<=maxLen:=by simp only [maxLen]; omega
   obtain ⟨zi,hzi⟩:∃ zi:Int,(i.toNat:Int)=zi:=⟨_,rfl⟩
   clear hkey hlk hv hat hrg2 hlt hg2 hs2 ex hxl hi hrg;go_wp2_with (at_builtin; refine appG_one encE 73 70 24 _ rfl infoN Tryz.underlying70 rfl (.tmp 13) (.tmp 17) rfl w.heap.size (.slice va vn vc) ss (x,i) _ rfl O2.out rfl hl6 hlm B2.out.size _ rfl ?_; intro v4 w4' ho4 hb4 hm4 ht4);obtain ⟨va4,vc4,rfl,_,_⟩:=ho4.whole rfl;have R4:Hid (w4'.ranges Tryz.prog 9 heldR m w.heap.size L D (λ z=>left z&&!z.sameKey (.string x)) cnt2):=Z.out.2.2.1.of_walks (keeps_own O2.out ht4);go_wp2;go_roundw
   case rel=>exact ⟨_,cnt2,ss++[(x,i)],_,_,_,rfl,R4.out,by rw [List.length_append]; exact Z.out.2.2.2.2.1,Z.out.2.2.2.2.2,λ e he=>by
    rcases List.mem_append.1 he with q | q
    ·exact HR.out.2.2.2.1 e q
    ·rw [List.mem_singleton] at q;rw [q]
     exact Z.out.1,ho4,B2.out.trans hb4⟩
   case measure=>rw [R4.out.left_eq,HR.out.1.left_eq]; exact Z.out.2.2.2.1
section
variable {w:World} {s b:Nat} {st:St} {S:Nat->Prop}
theorem refs_any (h:StoreAt w s b st S) (hok:st.ok) (hn:st.size<=1000000) :
  Calls Tryz.prog 27 #[.pointer (some ⟨s,0,none⟩)] w λ e w'=>∃ (a:Option Addr) (n c:Nat),e=.returned (.slice a n c)/\Hid (n<=c/\st.refs.length=n/\OwnG encE 73 w' w.heap.size (.slice a n c) st.refs/\Below w.heap.size w w'):=by
 obtain ⟨M,r,t,F,h⟩:=h;obtain ⟨c0,c1,c2,c3,c4,c5,c6⟩:=h.cell;have hc:=rising_any h.refs hok.refs (by unfold St.size at hn; omega);clear h;go_enter Tryz.func27,Tryz.ntmps27;go_wp2_with fail;refine hc.mono ?_;rintro e w1 ⟨a,n,c,rfl,J⟩;clear hc;go_wp2;go_ret;exact ⟨a,n,c,rfl,J⟩
theorem tags_any (h:StoreAt w s b st S) (hok:st.ok) (hn:st.size<=1000000) :
  Calls Tryz.prog 28 #[.pointer (some ⟨s,0,none⟩)] w λ e w'=>∃ (a:Option Addr) (n c:Nat),e=.returned (.slice a n c)/\Hid (n<=c/\st.tags.length=n/\OwnG encE 73 w' w.heap.size (.slice a n c) st.tags/\Below w.heap.size w w'):=by
 obtain ⟨M,r,t,F,h⟩:=h;obtain ⟨c0,c1,c2,c3,c4,c5,c6⟩:=h.cell;have hc:=rising_any h.tags hok.tags (by unfold St.size at hn; omega);clear h;go_enter Tryz.func28,Tryz.ntmps28;go_wp2_with fail;refine hc.mono ?_;rintro e w1 ⟨a,n,c,rfl,J⟩;clear hc;go_wp2;go_ret;exact ⟨a,n,c,rfl,J⟩
end
end Go.Proofs.YtjlokpjflgbgdaaGreat
