/-
  Several texts, laid together.
-/
import Derived.Test.YtmhcpbbiokpjjaaGreatM33
import Derived.Sort.Defs
set_option maxHeartbeats 6400000
set_option maxRecDepth 100000
namespace Go.Proofs.YtmhcpbbiokpjjaaGreat
open Go.RowKit Go.Shelf Go.Sort
theorem Zhw (s:ByteArray) (w:World):Calls Tryz.prog 232 #[.string s] w λ e w'=>e=.returned (.bool false)/\w'=w:=by
 go_enter Tryz.func232,Tryz.ntmps232;go_wp2;go_ret;exact ⟨by simp,rfl⟩
def cmpN (x y:Bs):Int:=if x<y then -1 else if y<x then 1 else 0
theorem ZfT (x y:Bs) (w:World):Calls Tryz.prog 188 #[tx x,tx y] w λ e w'=>e=.returned (.int .i64 (cmpN x y))/\w'=w:=by
 have h1:=Zhw ⟨x.toArray⟩;have h2:=Zhw ⟨y.toArray⟩
 obtain ⟨r,hr⟩:∃ r,cmpN x y=r:=⟨_,rfl⟩
 have R:Hid (cmpN x y=r):=hr;rw [hr];clear hr
 cases l1:Op.bytesLess x y with
 | true =>
  have q:x<y:=by have:=ZaJ x y; rw [l1] at this; simpa using this.symm
  have R2:Hid (r = -1):=by show _=_; rw [<- R.out,cmpN,if_pos q]
  clear R q;go_enter Tryz.func188,Tryz.ntmps188;go_wp2_with fail;refine (h1 _).mono ?_;rintro e w1 ⟨rfl,rfl⟩;go_wp2_with fail;refine (h2 _).mono ?_;rintro e w1 ⟨rfl,rfl⟩;go_wp2;go_ret;exact ⟨by rw [R2.out]; rfl,rfl⟩
 | false =>
  have q:¬ x<y:=by have:=ZaJ x y; rw [l1] at this; simpa using this.symm
  cases l2:Op.bytesLess y x with
  | true =>
   have q2:y<x:=by have:=ZaJ y x; rw [l2] at this; simpa using this.symm
   have R2:Hid (r=1):=by show _=_; rw [<- R.out,cmpN,if_neg q,if_pos q2]
   have hxy:(x==y)=false:=by
    rw [beq_eq_false_iff_ne];intro e;rw [e] at q2;exact Zga _ q2
   clear R q q2;go_enter Tryz.func188,Tryz.ntmps188;go_wp2_with fail;refine (h1 _).mono ?_;rintro e w1 ⟨rfl,rfl⟩;go_wp2_with fail;refine (h2 _).mono ?_;rintro e w1 ⟨rfl,rfl⟩;go_wp2;go_ret;exact ⟨by rw [R2.out]; rfl,rfl⟩
  | false =>
   have q2:¬ y<x:=by have:=ZaJ y x; rw [l2] at this; simpa using this.symm
   have R2:Hid (r=0):=by show _=_; rw [<- R.out,cmpN,if_neg q,if_neg q2]
   have hxy:(x==y)=true:=by
    rw [beq_iff_eq]
    rcases Zmk x y with k | k | k
    ·exact absurd k q
    ·exact k
    ·exact absurd k q2
   clear R q q2;go_enter Tryz.func188,Tryz.ntmps188;go_wp2_with fail;refine (h1 _).mono ?_;rintro e w1 ⟨rfl,rfl⟩;go_wp2_with fail;refine (h2 _).mono ?_;rintro e w1 ⟨rfl,rfl⟩;go_wp2;go_ret;exact ⟨by rw [R2.out]; rfl,rfl⟩
def cmpNE (x y:En):Int:=cmpN x.1 y.1
theorem closureN (x y:En) (W:World):Calls Tryz.prog 187 #[.agg (encE.cells x).toArray,.agg (encE.cells y).toArray] W λ e w'=>e=.returned (.int .i64 (cmpNE x y))/\∃ q os',w'=grow (W.drewN q) os':=by
 obtain ⟨p,u⟩:=x;obtain ⟨p',u'⟩:=y
 have hcon:=λ W'=>ZfT p p' W'
 show Calls Tryz.prog 187 #[.agg #[tx p,.int .u64 (u.toNat:Int)],.agg #[tx p',.int .u64 (u'.toNat:Int)]] W λ e w'=>e=.returned (.int .i64 (cmpN p p'))/\∃ q os',w'=grow (W.drewN q) os'
 generalize cmpN p p'=r at hcon ⊢;generalize (u.toNat:Int)=z;generalize (u'.toNat:Int)=z';go_enter Tryz.func187,Tryz.ntmps187;go_wp2_with (go_at_call 188; refine (hcon _).mono ?_; rintro e w' ⟨rfl,rfl⟩);go_ret;exact ⟨rfl,0,_,by rw [alloc_eq_grow,alloc_eq_grow,grow_grow]; rfl⟩
theorem ltNE (x y:En):ltOf cmpNE x y=decide (x.1<y.1):=by
 unfold ltOf cmpNE cmpN;by_cases h1:x.1<y.1
 ·simp [h1]
 ·by_cases h2:y.1<x.1 <;> simp [h1,h2]
theorem swoNE:SWO (ltOf cmpNE) where
 irrefl x:=by rw [ltNE]; simp [Zga]
 trans x y z h1 h2:=by
  rw [ltNE] at *;simp only [decide_eq_true_eq] at *;exact Zhn h1 h2
 ntrans x y z h1 h2:=by
  rw [ltNE] at *;simp only [decide_eq_false_iff_not] at *;intro h
  rcases Zmk y.1 z.1 with k | k | k
  ·exact h2 k
  ·rw [<- k] at h; exact h1 h
  ·exact h1 (Zhn h k)
instance inhNm:Inhabited En:=⟨([],0)⟩
theorem entersN:∀ args w,(callFunc 187 args).run Tryz.prog w=.ok (.enter 187 args) w:=enters_of Tryz.func187 (by kernel_rfl) rfl
theorem Zfw (es:List En):flatK encE.cells 2 es.toArray=(encE.all es).toArray:=by
 refine ext_get! (by rw [size_flatK]; simp [encE.all_length]; rfl) (λ t ht=>?_)
 have ht':t<es.toArray.size*2:=by simpa using ht
 rw [get_flatK _ _ _ t ht']
 have hi:t / 2<es.length:=by simp at ht'; omega
 have hj:t % 2<2:=Nat.mod_lt _ (by decide);have h1:=encE.all_get es (t / 2) (t % 2) es[t / 2] (List.getElem?_eq_getElem hi) hj
 have e:t / 2*encE.size+t % 2=t:=by show t / 2*2+t % 2=t; omega
 rw [e] at h1
 have h2:es.toArray[t / 2]! = es[t / 2]:=by rw [getElem!_pos es.toArray _ (by simpa using hi)]; simp
 have hl:(encE.cells es[t / 2]).length=2:=rfl;rw [h2,getElem!_pos (encE.cells es[t / 2]) _ (by rw [hl]; exact hj)];rw [List.getElem?_eq_getElem (l:=encE.cells es[t / 2]) (by rw [hl]; exact hj)] at h1;obtain ⟨hlt,h3⟩:=List.getElem?_eq_some_iff.1 h1;rw [getElem!_pos _ _ (by simpa using hlt)];simpa using h3.symm
theorem holdsN {w:World} {base g n cap:Nat} {es:List En} (h:OwnG encE 241 w base (.slice (some ⟨g,0,none⟩) n cap) es):HoldsK encE.cells 2 w g 0 es.toArray:=by
 unfold HoldsK;rw [Zfw];have hn:es.length=n:=ZaF h;subst hn;have h':w.ownsRow base 241 2 (.slice (some ⟨g,0,none⟩) es.length cap) es.length (encE.all es):=h;intro j hj
 have hj':j<(encE.all es).length:=by simpa using hj
 rw [Nat.zero_add];refine ⟨?_,h'.frozenAt _⟩;rw [h'.cellAt _ (by rw [<- h'.1]; exact hj'),List.getElem?_eq_getElem hj']
 congr 1
 rw [getElem!_pos _ _ (by simpa using hj')];simp
theorem Zfy {w:World} {base g n cap q:Nat} {es ts:List En} {os:Array Obj} (h:OwnG encE 241 w base (.slice (some ⟨g,0,none⟩) n cap) es) (hl:ts.length=es.length) :
  OwnG encE 241 (sortWorldK encE.cells 2 w g 0 q ts.toArray os) base (.slice (some ⟨g,0,none⟩) n cap) ts/\w.grownBy (sortWorldK encE.cells 2 w g 0 q ts.toArray os) (some g):=by
 have hn:es.length=n:=ZaF h;subst hn;have h':w.ownsRow base 241 2 (.slice (some ⟨g,0,none⟩) es.length cap) es.length (encE.all es):=h
 rcases h'.2 with ⟨h0,_⟩ | ⟨g',cap',cur,e1,h1,h2,h3,h4,h5,h6⟩
 ·cases h0
 cases e1;have hg:g<w.heap.size:=(Array.getElem?_eq_some_iff.1 h2).1;unfold sortWorldK putRowK;rw [Zfw]
 have hh:(grow (putRow id (Sort.ahead w q) g 0 (encE.all ts).toArray) os).heap[g]? = some (.cells (putCells id 0 (encE.all ts).toArray cur) 241 (0,0)):=by
  rw [heap_grow_old _ _ (by simpa using hg)];simp [putRow,mapBlock,Sort.ahead,Array.getElem?_modify,h2,onCells]
 have hal:(encE.all ts).length=es.length*2:=by rw [encE.all_length,hl]; rfl
 refine ⟨?_,⟨rfl,rfl,rfl,by simp,λ k hk hne=>?_⟩⟩
 ·unfold OwnG;rw [hl];refine ⟨hal,.inr ⟨g,cap,_,rfl,h1,hh,h3,h4,by simp [putCells]; exact h5,?_⟩⟩;apply List.ext_getElem?;intro j
  have hc2:es.length*2<=cur.size:=by rw [h5]; exact Nat.mul_le_mul_right 2 h3
  by_cases hj:j<es.length*2
  ·show (List.take (es.length*2) (putCells id 0 (encE.all ts).toArray cur).toList)[j]? = _;rw [List.getElem?_take_of_lt hj,Array.getElem?_toList]
   have hj2:j<(encE.all ts).length:=by omega
   simp [putCells,hj2,show j<cur.size by omega]
  ·rw [List.getElem?_take_eq_none (by show es.length*2<=j; omega),List.getElem?_eq_none (by omega)]
 ·rw [heap_grow_old _ _ (by simpa using hk)]
  have:g≠k:=λ e=>hne (by rw [e])
  simp [putRow,mapBlock,Sort.ahead,Array.getElem?_modify,this]
theorem Zjf {w:World} {base g n cap:Nat} {es:List En} (h:OwnG encE 241 w base (.slice (some ⟨g,0,none⟩) n cap) es) (hn:n<=1000000) :
  Calls Tryz.prog 186 #[.slice (some ⟨g,0,none⟩) n cap,.func (.func 187) #[] #[]] w λ e w'=>e=.returned (.tuple #[])/\∃ ts:List En,ts.Perm es/\ts.Pairwise (λ a b=>¬ b.1<a.1)/\OwnG encE 241 w' base (.slice (some ⟨g,0,none⟩) n cap) ts/\w.grownBy w' (some g):=by
 have hl:es.length=n:=ZaF h;have hcon:=AnyQ.slices_SortFunc laySortN 2 Tryz.isAgg241 Tryz.sizeOf241 encE.cells (λ _=>rfl) encE.one cmpNE swoNE 187 #[] g 0 cap es.toArray w entersN (λ _ _ _ _ x y=>closureN x y _) (holdsN h) (h.lt g rfl).2 (by simp; omega)
 have hsz:es.toArray.size=n:=by simpa using hl
 rw [hsz] at hcon;refine (show Calls Tryz.prog 186 _ _ _ from hcon).mono ?_;rintro e w' ⟨rfl,d',q,os,hp,hs,rfl⟩
 obtain ⟨ts,rfl⟩:∃ ts:List En,d'=ts.toArray:=⟨d'.toList,by simp⟩
 have hts:ts.length=es.length:=by simpa using hp.1
 have hown:=Zfy (q:=q) (os:=os) h hts;refine ⟨rfl,ts,?_,?_,hown.1,hown.2⟩
 ·have:=hp.2.2;rw [Array.toList_extract,Array.toList_extract] at this;have e1:ts.take n=ts:=List.take_of_length_le (by omega);have e2:es.take n=es:=List.take_of_length_le (by omega);simpa [hts,hl,List.extract_eq_take_drop,e1,e2] using this
 ·rw [List.pairwise_iff_getElem];intro i j hi hj hij;have:=hs i j (Nat.zero_le _) hij (by omega);rw [ltNE,getElem!_pos ts.toArray j (by simpa using hj),getElem!_pos ts.toArray i (by simpa using hi)] at this;simpa using this
end Go.Proofs.YtmhcpbbiokpjjaaGreat
namespace Go.Proofs.YtmhcpbbiokpjjaaGreat
open Go.RowKit Go.Sort
abbrev uv (x:UInt64):Value:=.int .u64 (x.toNat:Int)
def ltU (x y:UInt64):Bool:=decide (x<y)
def SR (w:World) (g:Nat) (d:Array UInt64):Prop:=∃ cur:Array Value,w.heap[g]? = some (.cells cur 53 (0,0))/\∀ i,i<d.size->cur[i]? = some (uv d[i]!)
section
variable {w w':World} {g:Nat} {d:Array UInt64}
theorem SR.lt (h:SR w g d):g<w.heap.size:=by
 obtain ⟨cur,h,_⟩:=h;exact (Array.getElem?_eq_some_iff.1 h).1
theorem SR.cell (h:SR w g d) {i:Nat} (hi:i<d.size):w.cell? ⟨g,i,none⟩=some (uv d[i]!):=by
 obtain ⟨cur,h1,h2⟩:=h;simp [World.cell?,h1,h2 i hi]
theorem SR.thaw (h:SR w g d) (i:Nat):w.frozen? ⟨g,i,none⟩=false:=by
 obtain ⟨cur,h1,h2⟩:=h;simp [World.frozen?,h1]
theorem SR.below (h:SR w g d) (hb:Below w.heap.size w w'):SR w' g d:=by
 have hl:=h.lt;obtain ⟨cur,h1,h2⟩:=h;exact ⟨cur,(hb.block g hl).trans h1,h2⟩
theorem SR.turned {S:Nat->Prop} (h:SR w g d) (ht:Zaa S w w') (hS:¬ S g):SR w' g d:=by
 have hl:=h.lt;obtain ⟨cur,h1,h2⟩:=h;exact ⟨cur,(ht.block g hl hS).trans h1,h2⟩
theorem SR.set (h:SR w g d) (i:Nat) (x:UInt64):SR (w.setCell ⟨g,i,none⟩ (uv x)) g (d.setIfInBounds i x):=by
 obtain ⟨cur,h1,h2⟩:=h;refine ⟨cur.setIfInBounds i (uv x),?_,?_⟩
 ·simp [World.setCell,Array.getElem?_modify,h1]
 ·intro j hj
  have hj':j<d.size:=by simpa using hj
  have h3:=h2 j hj';have hjc:j<cur.size:=(Array.getElem?_eq_some_iff.1 h3).1;by_cases e:j=i
  ·subst e;simp [hjc,hj',getElem!_pos]
  ·rw [Array.getElem?_setIfInBounds_ne (Ne.symm e),h3]
   congr 2
   simp [getElem!_pos,hj',Ne.symm e]
theorem SR.swap (h:SR w g d) (i j:Nat):SR ((w.setCell ⟨g,i,none⟩ (uv d[j]!)).setCell ⟨g,j,none⟩ (uv d[i]!)) g (swp d i j):=(h.set i d[j]!).set j d[i]!
theorem Zar (d:Array UInt64) (i j:Nat):(swp d i j).size=d.size:=by simp [swp]
theorem Znv {S:Nat->Prop} {a:World} (h:Zaa S a w) (hg:S g) (i j:Nat) (p q:Value):Zaa S a ((w.setCell ⟨g,i,none⟩ p).setCell ⟨g,j,none⟩ q):=(h.setCell (.inl hg) p).setCell (.inl hg) q
end
theorem OwnG.sr {w:World} {base g n cap:Nat} {xs:List UInt64} (h:OwnG encU 53 w base (.slice (some ⟨g,0,none⟩) n cap) xs):SR w g xs.toArray/\xs.length=n:=by
 rcases h.2 with ⟨e,_⟩ | ⟨g',cap',cur,e,h1,h2,h3,h4,h5,h6⟩
 ·cases e
 ·cases e;refine ⟨⟨cur,h2,λ i hi=>?_⟩,rfl⟩
  have hi':i<xs.length:=by simpa using hi
  obtain ⟨b',off',e',_,hc⟩:=h.rdc.1 (by omega);cases e';have h7:=hc i xs[i] (List.getElem?_eq_getElem hi') 0 _ rfl
  have h8:w.cell? ⟨g,i,none⟩=some (uv xs[i]):=by simpa [encU] using h7
  have h9:w.cell? ⟨g,i,none⟩=cur[i]? := by simp [World.cell?,h2]
  rw [<- h9,h8]
  congr 2
  simp [getElem!_pos,hi']
theorem ZkF (x:Int) (w:World):Calls Tryz.prog 238 #[.int .u64 x] w λ e w'=>e=.returned (.bool false)/\w'=w:=by
 go_enter Tryz.func238,Tryz.ntmps238;go_wp2;go_ret;exact ⟨by simp,rfl⟩
theorem Zli (x y:UInt64) (f:Bool) (hf:ltU x y=f) (w:World):Calls Tryz.prog 195 #[uv x,uv y] w λ e w'=>e=.returned (.bool f)/\w'=w:=by
 have e:decide (x.toNat<y.toNat)=f:=by
  rw [<- hf];unfold ltU;rw [decide_eq_decide,UInt64.lt_iff_toNat_lt]
 have hx:=ZkF (x.toNat:Int) w;clear hf;go_enter Tryz.func195,Tryz.ntmps195;go_wp2_with fail;refine hx.mono ?_;rintro e1 w1 ⟨rfl,rfl⟩;clear hx;go_wp2;go_ret;exact ⟨by rw [<- e]; rfl,rfl⟩
theorem Ze2 {a j:Nat} {d:Array UInt64} (h:¬ a<j):insInner ltU a j d=d:=by
 cases j with
 | zero=>rfl
 | succ j =>
  unfold insInner;rw [if_neg];simp;omega
theorem Ze9 {a t:Nat} {d:Array UInt64} (h:a<t+1) (f:Bool) (hf:ltU d[t+1]! d[t]! = f):insInner ltU a (t+1) d=if f=true then insInner ltU a t (swp d (t+1) t) else d:=by
 rw [insInner,hf]
 have:(decide (t+1>a)&&f)=f:=by simp; omega
 cases f with
 | true=>simp [h]
 | false=>simp
theorem Ze0 {a b i:Nat} {d:Array UInt64} (h:i<b):insOuter ltU a b i d=insOuter ltU a b (i+1) (insInner ltU a i d):=by
 rw [insOuter,if_pos h]
theorem Ze5 {a b i:Nat} {d:Array UInt64} (h:¬ i<b):insOuter ltU a b i d=d:=by
 rw [insOuter,if_neg h]
theorem Zax {wr:World} (x y:UInt64) (f:Bool) (hf:ltU x y=f) (u:SW (Grew wr)):Calls Tryz.prog 195 #[uv x,uv y] u.w λ e w'=>e=.returned (.bool f)/\∃ u':SW (Grew wr),w'=u'.w:=by
 refine (Zli x y f hf u.w).mono ?_;rintro e w' ⟨rfl,rfl⟩;exact ⟨rfl,u,rfl⟩
theorem ZmZ {w:World} {g n c a b:Nat} {d:Array UInt64} (h:SR w g d) (hd:d.size=n) (hab:a<=b) (hb:b<=n) (hn:n<=4000000000000000000) :
  Calls Tryz.prog 189 #[.slice (some ⟨g,0,none⟩) n c,.int .i64 (a:Int),.int .i64 (b:Int)] w λ e w'=>e=.returned (.tuple #[])/\Hid (SR w' g (insertionSort ltU d a b)/\Zaa (λ k=>k=g) w w'):=by
 obtain ⟨D,hD⟩:∃ D,insertionSort ltU d a b=D:=⟨_,rfl⟩
 rw [hD]
 have H:Hid (SR w g d/\d.size=n/\insOuter ltU a b (a+1) d=D):=⟨h,hd,hD⟩
 clear h hd hD;go_enter Tryz.func189,Tryz.ntmps189;go_wp2_with fail;go_loopg [6] (b - a) (λ k v wr=>∃ (i:Nat),v=.int .i64 i/\i+k=b+1/\a+1<=i/\Hid (∃ e:Array UInt64,e.size=n/\insOuter ltU a b i e=D/\SR wr g e/\Zaa (λ k=>k=g) w wr))
 case atStart=>exact ⟨a+1,by go_num,by omega,Nat.le_refl _,d,H.out.2.1,H.out.2.2,H.out.1,Zaa.refl _ _⟩
 case round =>
  obtain ⟨i,rfl,hi,hai,HR⟩:=hrel;obtain ⟨e0,s0,o0,r0,t0⟩:=HR.out;by_cases hin:i<b
  ·have id:(i:Int)<(b:Int):=by omega
   obtain ⟨go,hgo⟩:∃ go,go=gk:=⟨_,rfl⟩
   have GO:Hid (i+go=b+1/\go=gk):=⟨by rw [hgo]; exact hi,hgo⟩
   have G0:Hid (insOuter ltU a b (i+1) (insInner ltU a i e0)=D):=by
    show _=D;rw [<- Ze0 hin];exact o0
   have W0:Hid (SR wr g e0/\e0.size=n/\Zaa (λ k=>k=g) w wr):=⟨r0,s0,t0⟩
   clear HR r0 s0 t0 o0 hgo;go_wp2_with fail;go_loopg [7] i (λ k v wr=>v=.int .i64 (k:Int)/\k<=i/\Hid (∃ e:Array UInt64,e.size=n/\insInner ltU a k e=insInner ltU a i e0/\SR wr g e/\Zaa (λ k=>k=g) w wr))
   case atStart=>exact ⟨rfl,Nat.le_refl _,e0,W0.out.2.1,rfl,W0.out.1,W0.out.2.2⟩
   case round =>
    obtain ⟨rfl,hki,HJ⟩:=hrel;obtain ⟨e1,s1,o1,r1,t1⟩:=HJ.out;by_cases haj:a<gk
    ·obtain ⟨t,ht⟩:∃ t,t+1=gk:=⟨gk - 1,by omega⟩
     obtain ⟨x,hx⟩:∃ x,e1[gk]! = x:=⟨_,rfl⟩
     obtain ⟨y,hy⟩:∃ y,e1[t]! = y:=⟨_,rfl⟩
     obtain ⟨f,hf⟩:∃ f,ltU x y=f:=⟨_,rfl⟩
     have hst:insInner ltU a gk e1=if f=true then insInner ltU a t (swp e1 gk t) else e1:=by
      subst ht;exact Ze9 haj f (by rw [hx,hy]; exact hf)
     have q0:∀ u:SW (Grew wr),u.w.cell? ⟨g,gk,none⟩=some (uv x):=λ u=>by rw [<- hx]; exact (r1.below u.ok).cell (by omega)
     have q1:∀ u:SW (Grew wr),u.w.cell? ⟨g,t,none⟩=some (uv y):=λ u=>by rw [<- hy]; exact (r1.below u.ok).cell (by omega)
     have hL:=λ u=>Zax (wr:=wr) x y f hf u
     have NE:Nonempty (SW (Grew wr)):=⟨⟨wr,Below.refl _ wr⟩⟩
     have ja:(a:Int)<(gk:Int):=by omega
     have jd:decide ((a:Int)<(gk:Int))=true:=by simpa using ja
     have jd2:decide (a<gk)=true:=by simpa using haj
     have jn:(gk:Int)<(n:Int):=by omega
     have j0:(0:Int)<=(gk:Int):=by omega
     have jn2:(t:Int)<(n:Int):=by omega
     have js:(gk:Int) - 1=(t:Int):=by omega
     have jw:IntKind.i64.wrap (t:Int)=(t:Int):=by rw [IntKind.wrap_i64]; omega
     have J0:Hid (SR wr g e1/\e1.size=n/\Zaa (λ k=>k=g) w wr/\e1[gk]! = x/\e1[t]! = y/\(if f=true then insInner ltU a t (swp e1 gk t) else e1)=insInner ltU a i e0/\t+1=gk/\gk<n):=⟨r1,s1,t1,hx,hy,by rw [<- hst]; exact o1,ht,by omega⟩
     clear HJ s1 o1 r1 t1 hst hx hy hf ht
     cases f with
     | true =>
      go_upto_region 4 with fail
      refine Zab (S:=Grew wr) (by kernel_rfl) (by kernel_rfl) (Below.refl _ wr).drew ?_
      repeat (go_big_quiet_step (with_reducible exact hL _))
      refine wpQuiet_nil ?_;intro _ hw';obtain ⟨u,hw''⟩:=hw';subst hw''
      obtain ⟨w4,hw4⟩:∃ w4,w4=u.w:=⟨_,rfl⟩
      have BU:Hid (SR w4 g e1/\Zaa (λ k=>k=g) w w4):=by
       rw [hw4];exact ⟨J0.out.1.below u.ok,J0.out.2.2.1.trans (Zaa.ofBelow u.ok) (λ _ _ q=>q)⟩
      rw [<- hw4];clear hL q0 q1 NE hw4 u
      have c0:w4.cell? ⟨g,gk,none⟩=some (uv x):=by rw [<- J0.out.2.2.2.1]; exact BU.out.1.cell (by have:=J0.out.2.1; have:=J0.out.2.2.2.2.2.2; omega)
      have c1:w4.cell? ⟨g,t,none⟩=some (uv y):=by rw [<- J0.out.2.2.2.2.1]; exact BU.out.1.cell (by have:=J0.out.2.1; have:=J0.out.2.2.2.2.2.2; omega)
      have f0:=BU.out.1.thaw gk;have f1:=BU.out.1.thaw t
      have nt:¬ gk=t:=by have:=J0.out.2.2.2.2.2.2.1; omega
      go_wp2_with fail;go_region;go_wp2;go_roundg t
      case measure=>omega
      case rel =>
       have hs:=(BU.out.1.below (Below.refl _ w4).drew).swap gk t;rw [J0.out.2.2.2.1,J0.out.2.2.2.2.1] at hs;exact ⟨by go_num,by have:=J0.out.2.2.2.2.2.2.1; omega,swp e1 gk t,by rw [Zar]; exact J0.out.2.1,by have:=J0.out.2.2.2.2.2.1; simpa using this,hs,Znv (BU.out.2.trans (Zaa.ofBelow (S:=λ _=>False) (Below.refl _ w4).drew) (λ _ _ q=>q.elim)) rfl _ _ _ _⟩
     | false =>
      go_upto_region 4 with fail
      refine Zab (S:=Grew wr) (by kernel_rfl) (by kernel_rfl) (Below.refl _ wr).drew ?_
      repeat (go_big_quiet_step (with_reducible exact hL _))
      refine wpQuiet_nil ?_;intro _ hw';obtain ⟨u,hw''⟩:=hw';subst hw''
      obtain ⟨w4,hw4⟩:∃ w4,w4=u.w:=⟨_,rfl⟩
      have BU:Hid (SR w4 g e1/\Zaa (λ k=>k=g) w w4):=by
       rw [hw4];exact ⟨J0.out.1.below u.ok,J0.out.2.2.1.trans (Zaa.ofBelow u.ok) (λ _ _ q=>q)⟩
      rw [<- hw4];clear hL q0 q1 NE hw4 u
      have FIN:Hid (∃ e:Array UInt64,e.size=n/\insOuter ltU a b (i+1) e=D/\SR w4 g e/\Zaa (λ k=>k=g) w w4):=by
       have q:=J0.out.2.2.2.2.2.1
       have q':e1=insInner ltU a i e0:=by simpa using q
       exact ⟨e1,J0.out.2.1,by rw [q']; exact G0.out,BU.out.1,BU.out.2⟩
      go_wp2;go_roundg (go - 1)
      case measure=>have:=GO.out; omega
      case rel=>exact ⟨i+1,by go_num,by have:=GO.out; omega,by omega,FIN.out⟩
    ·have q':e1=insInner ltU a i e0:=by rw [<- o1,Ze2 haj]
     have FIN:Hid (∃ e:Array UInt64,e.size=n/\insOuter ltU a b (i+1) e=D/\SR wr g e/\Zaa (λ k=>k=g) w wr):=⟨e1,s1,by rw [q']; exact G0.out,r1,t1⟩
     have ja:¬ (a:Int)<(gk:Int):=by omega
     have jd:decide ((a:Int)<(gk:Int))=false:=by simpa using ja
     clear HJ s1 o1 r1 t1 q';go_wp2_with fail;go_quiet (fail);go_wp2;go_roundg (go - 1)
     case measure=>have:=GO.out; omega
     case rel =>
      obtain ⟨e,q1,q2,q3,q4⟩:=FIN.out;have hq:=below_drewN (Below.refl wr.heap.size wr) nq;exact ⟨i+1,by go_num,by have:=GO.out; omega,by omega,e,q1,q2,q3.below hq,q4.trans (Zaa.ofBelow (S:=λ _=>False) hq) (λ _ _ q=>q.elim)⟩
  ·have FIN:Hid (SR wr g D/\Zaa (λ k=>k=g) w wr):=by
    have q:=Ze5 (a:=a) (d:=e0) hin;rw [q] at o0;rw [<- o0];exact ⟨r0,t0⟩
   clear HR r0 s0 t0 o0;go_wp2;refine bodyPost_end (v:=.tuple #[]) (results_none rfl _ _ _) rfl ?_;exact ⟨rfl,FIN⟩
theorem Zlp {i j:Nat} {d:Array UInt64} (h:i<j):reverseLoop i j d=reverseLoop (i+1) (j - 1) (swp d i j):=by
 rw [reverseLoop,if_pos h]
theorem Zle {i j:Nat} {d:Array UInt64} (h:¬ i<j):reverseLoop i j d=d:=by
 rw [reverseLoop,if_neg h]
theorem SR.drewSwap {w:World} {g:Nat} {d:Array UInt64} (h:SR w g d) {i j:Nat} {x y:UInt64} (hx:d[i]! = x) (hy:d[j]! = y):SR ((w.drew.setCell ⟨g,i,none⟩ (uv y)).setCell ⟨g,j,none⟩ (uv x)) g (swp d i j):=by
 have hs:=(h.below (Below.refl _ w).drew).swap i j;rw [hx,hy] at hs;exact hs
theorem turnSwap {a w:World} {g:Nat} (h:Zaa (λ k=>k=g) a w) (i j:Nat) (p q:Value):Zaa (λ k=>k=g) a ((w.drew.setCell ⟨g,i,none⟩ p).setCell ⟨g,j,none⟩ q) :=
 Znv (h.trans (Zaa.ofBelow (S:=λ _=>False) (Below.refl _ w).drew) (λ _ _ q=>q.elim)) rfl _ _ _ _
theorem Zm7 {w:World} {g n c a b:Nat} {d:Array UInt64} (h:SR w g d) (hd:d.size=n) (hab:a<b) (hb:b<=n) (hn:n<=4000000000000000000) :
  Calls Tryz.prog 193 #[.slice (some ⟨g,0,none⟩) n c,.int .i64 (a:Int),.int .i64 (b:Int)] w λ e w'=>e=.returned (.tuple #[])/\Hid (SR w' g (reverseRange d a b)/\Zaa (λ k=>k=g) w w'):=by
 obtain ⟨D,hD⟩:∃ D,reverseRange d a b=D:=⟨_,rfl⟩
 rw [hD]
 have H:Hid (SR w g d/\d.size=n/\reverseLoop a (b - 1) d=D):=⟨h,hd,hD⟩
 have b1:(b:Int) - 1=((b - 1:Nat):Int):=by omega
 obtain ⟨bb,hbb⟩:∃ bb,b - 1=bb:=⟨_,rfl⟩
 rw [hbb] at b1 H
 have B1:Hid (bb+1=b):=by show _=b; omega
 have bw:IntKind.i64.wrap (bb:Int)=(bb:Int):=by rw [IntKind.wrap_i64]; omega
 clear h hd hD hbb;go_enter Tryz.func193,Tryz.ntmps193;go_wp2_with fail;go_loopg [6,7] b (λ k v6 v7 wr=>∃ i j:Nat,v6=.int .i64 i/\v7=.int .i64 j/\j<b/\j - i<=k/\i<=b/\Hid (∃ e:Array UInt64,e.size=n/\reverseLoop i j e=D/\SR wr g e/\Zaa (λ k=>k=g) w wr))
 case atStart=>exact ⟨a,bb,rfl,rfl,by have:=B1.out; omega,by have:=B1.out; omega,by omega,d,H.out.2.1,H.out.2.2,H.out.1,Zaa.refl _ _⟩
 case round =>
  obtain ⟨i,j,rfl,rfl,hjb,hk,hib,HR⟩:=hrel;obtain ⟨e1,s1,o1,r1,t1⟩:=HR.out;by_cases hij:i<j
  ·have id:(i:Int)<(j:Int):=by omega
   have id0:(0:Int)<=(i:Int):=by omega
   have jd0:(0:Int)<=(j:Int):=by omega
   have idn:(i:Int)<(n:Int):=by omega
   have jdn:(j:Int)<(n:Int):=by omega
   obtain ⟨x,hx⟩:∃ x,e1[i]! = x:=⟨_,rfl⟩
   obtain ⟨y,hy⟩:∃ y,e1[j]! = y:=⟨_,rfl⟩
   have c0:wr.cell? ⟨g,i,none⟩=some (uv x):=by rw [<- hx]; exact r1.cell (by omega)
   have c1:wr.cell? ⟨g,j,none⟩=some (uv y):=by rw [<- hy]; exact r1.cell (by omega)
   have f0:=r1.thaw i;have f1:=r1.thaw j
   have nt:¬ i=j:=by omega
   have nt2:¬ j=i:=by omega
   have js:(j:Int) - 1=((j - 1:Nat):Int):=by omega
   obtain ⟨jj,hjj⟩:∃ jj,j - 1=jj:=⟨_,rfl⟩
   rw [hjj] at js
   have jw:IntKind.i64.wrap (jj:Int)=(jj:Int):=by rw [IntKind.wrap_i64]; omega
   have J0:Hid (SR wr g e1/\e1.size=n/\Zaa (λ k=>k=g) w wr/\e1[i]! = x/\e1[j]! = y/\reverseLoop (i+1) jj (swp e1 i j)=D/\jj+1=j):=⟨r1,s1,t1,hx,hy,by rw [<- hjj,<- Zlp hij]; exact o1,by omega⟩
   clear HR s1 o1 r1 t1 hx hy hjj;go_wp2_with fail;go_region;go_wp2;go_roundg (gk - 1)
   case measure=>omega
   case rel=>exact ⟨i+1,jj,by go_num,by go_num,by have:=J0.out.2.2.2.2.2.2; omega,by have:=J0.out.2.2.2.2.2.2; omega,by omega,swp e1 i j,by rw [Zar]; exact J0.out.2.1,J0.out.2.2.2.2.2.1,J0.out.1.drewSwap J0.out.2.2.2.1 J0.out.2.2.2.2.1,turnSwap J0.out.2.2.1 _ _ _ _⟩
  ·have id:¬ (i:Int)<(j:Int):=by omega
   have FIN:Hid (SR wr g D/\Zaa (λ k=>k=g) w wr):=by
    rw [Zle hij] at o1;rw [<- o1];exact ⟨r1,t1⟩
   clear HR r1 s1 t1 o1;go_wp2;refine bodyPost_end (v:=.tuple #[]) (results_none rfl _ _ _) rfl ?_;exact ⟨rfl,FIN⟩
end Go.Proofs.YtmhcpbbiokpjjaaGreat
