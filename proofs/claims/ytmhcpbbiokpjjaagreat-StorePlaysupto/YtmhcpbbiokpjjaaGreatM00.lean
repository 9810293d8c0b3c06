/-
  Several texts, laid together.
-/
import Derived.Test.YtmhcpbbiokpjjaaGreatRows
import Derived.WalkKit
import Derived.WalkSpells
import Derived.WalkLawsBesides
import Derived.WalkSmall
import Derived.Lib.Bytealg
import Derived.Lib.IndexLaws
import Derived.Sort.EncStr
import Derived.ArgAppend
import Derived.Deep.RegionLaw
import Derived.Shelf.Abstract
set_option maxHeartbeats 6400000
set_option maxRecDepth 100000
namespace Go.Proofs.YtmhcpbbiokpjjaaGreat
open Go.RowKit
abbrev Bs:=List UInt8
def okI (c:Int):Bool:=decide ((97<=c/\c<=122)∨(48<=c/\c<=57)∨c=95∨c=46)
def okB (b:UInt8):Bool:=okI b.toNat
def isName (l:Bs):Bool:=decide (1<=l.length)&&decide (l.length<=16)&&l.all okB
def cutB:Bs->Bs×Bs×Bool
 | []=>([],[],false)
 | b::t=>if b=47 then ([],t,true) else (b::(cutB t).1,(cutB t).2.1,(cutB t).2.2)
theorem Zg2:∀ l:Bs,Lib.indexByte l 47 = -1->cutB l=(l,[],false)
 | [],_=>rfl
 | b::t,h=>by
  unfold Lib.indexByte at h;by_cases hb:b=47
  ·subst hb; simp at h
  ·have hb':(b==47)=false:=by simpa using hb
   rw [hb'] at h
   have ht:Lib.indexByte t 47 = -1:=by
    by_cases e:Lib.indexByte t 47 = -1
    ·exact e
    ·have:=Lib.indexByte_ge t 47;simp [e] at h;omega
   simp [cutB,hb,Zg2 t ht]
theorem ZhG:∀ (l:Bs) (o:Nat),Lib.indexByte l 47=o->o<l.length/\cutB l=(l.take o,l.drop (o+1),true)
 | [],o,h=>by simp [Lib.indexByte] at h
 | b::t,o,h=>by
  unfold Lib.indexByte at h;by_cases hb:b=47
  ·subst hb;simp at h
   obtain rfl:o=0:=by omega
   simp [cutB]
  ·have hb':(b==47)=false:=by simpa using hb
   rw [hb'] at h;by_cases e:Lib.indexByte t 47 = -1
   ·simp [e] at h
   ·have hge:=Lib.indexByte_ge t 47;simp [e] at h
    obtain ⟨o',rfl⟩:∃ o',o=o'+1:=⟨o - 1,by omega⟩
    obtain ⟨q1,q2⟩:=ZhG t o' (by omega);simp [cutB,hb,q2,q1]
def chk:Nat->Bs->Bool
 | 0,_=>false
 | n+1,l=>isName (cutB l).1&&(if (cutB l).2.2 then chk n (cutB l).2.1 else true)
def isPath (l:Bs):Bool:=chk 6 l
def err (b:Bool):Int:=if b then 0 else 2
def names:Bs->List Bs
 | []=>[[]]
 | b::t=>if b=47 then []::names t else (b::(names t).headD [])::(names t).tail
theorem Zdr (l:Bs):names l≠[]:=by
 cases l with
 | nil=>simp [names]
 | cons b t=>by_cases h:b=47 <;> simp [names,h]
theorem Zff:∀ l:Bs,names l=if (cutB l).2.2 then (cutB l).1::names (cutB l).2.1 else [(cutB l).1]
 | []=>rfl
 | b::t=>by
  by_cases h:b=47
  ·simp [names,cutB,h]
  ·have:=Zff t;by_cases f:(cutB t).2.2
   ·simp [names,cutB,h,f,this]
   ·simp [names,cutB,h,f,this]
theorem ZdC:∀ (n:Nat) (l:Bs),chk n l=((names l).all isName&&decide ((names l).length<=n))
 | 0,l=>by
  have:¬ (names l).length<=0:=by have:=Zdr l; cases h:names l <;> simp_all
  simp [chk,this]
 | n+1,l=>by
  rw [Zff l];by_cases f:(cutB l).2.2
  ·simp only [chk,f,if_true,List.all_cons,List.length_cons,ZdC n,Nat.add_le_add_iff_right,Bool.and_assoc]
  ·simp [chk,f]
theorem ZbX:∀ l:Bs,(names l).flatten.length+(names l).length=l.length+1
 | []=>rfl
 | b::t=>by
  have:=ZbX t;by_cases h:b=47
  ·simp only [names,h,if_true,List.flatten_cons,List.length_append,List.length_cons,List.length_nil]; omega
  ·cases hn:names t with
   | nil=>exact absurd hn (Zdr t)
   | cons x y =>
    rw [hn] at this;simp only [names,h,if_false,hn,List.headD_cons,List.tail_cons,List.flatten_cons,List.length_append,List.length_cons] at this ⊢;omega
theorem Zi3:∀ ns:List Bs,ns.all isName=true->ns.flatten.length<=16*ns.length
 | [],_=>by simp
 | a::t,h=>by
  simp only [List.all_cons,Bool.and_eq_true] at h;have:=Zi3 t h.2;have h1:=h.1;simp only [isName,Bool.and_eq_true,decide_eq_true_eq] at h1;simp only [List.flatten_cons,List.length_append,List.length_cons];omega
def refIs (l:Bs):Bool:=decide (l.length<=102)&&((names l).all isName&&decide ((names l).length<=6))
theorem ZhC (l:Bs):refIs l=isPath l:=by
 rw [isPath,ZdC,refIs]
 cases h:((names l).all isName&&decide ((names l).length<=6)) with
 | false=>simp
 | true =>
  simp only [Bool.and_eq_true,decide_eq_true_eq] at h;have a:=Zi3 _ h.1;have b:=ZbX l
  have:l.length<=102:=by omega
  simp [this]
def under (p d:Bs):Bool:=p==d||(d++[47]).isPrefixOf p
theorem Ziz (p d:Bs):(d.isPrefixOf p&&((p.drop d.length)==[]||[47].isPrefixOf (p.drop d.length)))=under p d:=by
 rw [Bool.eq_iff_iff];simp only [under,Bool.and_eq_true,Bool.or_eq_true,List.isPrefixOf_iff_prefix,beq_iff_eq]
 constructor
 ·rintro ⟨⟨t,rfl⟩,h⟩;rw [List.drop_left] at h
  rcases h with rfl | ⟨u,rfl⟩
  ·left; simp
  ·right; exact ⟨u,by simp⟩
 ·rintro (rfl | ⟨u,rfl⟩)
  ·exact ⟨List.prefix_rfl,by simp⟩
  ·refine ⟨⟨[47]++u,by simp⟩,?_⟩
   right
   rw [List.append_assoc,List.drop_left];exact ⟨u,rfl⟩
structure Zaa (S:Nat->Prop) (w w':World):Prop where
 os:w'.os=w.os
 tape:w'.tape=w.tape
 output:w'.output=w.output
 size:w.heap.size<=w'.heap.size
 block:∀ k,k<w.heap.size->¬ S k->w'.heap[k]? = w.heap[k]?
theorem Zaa.refl (S:Nat->Prop) (w:World):Zaa S w w:=⟨rfl,rfl,rfl,Nat.le_refl _,λ _ _ _=>rfl⟩
theorem Zaa.trans {S T:Nat->Prop} {a b c:World} (h:Zaa S a b) (k:Zaa T b c) (hT:∀ i,i<a.heap.size->T i->S i):Zaa S a c :=
 ⟨k.os.trans h.os,k.tape.trans h.tape,k.output.trans h.output,Nat.le_trans h.size k.size,
  λ i hi hS=>(k.block i (Nat.lt_of_lt_of_le hi h.size) (λ q=>hS (hT i hi q))).trans (h.block i hi hS)⟩
theorem Zaa.mono {S T:Nat->Prop} {a b:World} (h:Zaa S a b) (hT:∀ i,i<a.heap.size->S i->T i):Zaa T a b :=
 ⟨h.os,h.tape,h.output,h.size,λ i hi hn=>h.block i hi (λ q=>hn (hT i hi q))⟩
theorem Zaa.ofBelow {S:Nat->Prop} {w w':World} (h:Below w.heap.size w w'):Zaa S w w' :=
 ⟨h.os,h.tape,h.output,h.size,λ k hk _=>h.block k hk⟩
theorem Zaa.below {S:Nat->Prop} {w w':World} (h:Zaa S w w') {B:Nat} (hB:B<=w.heap.size) (hS:∀ k,k<B->¬ S k):Below B w w' :=
 ⟨h.os,h.tape,h.output,h.size,λ k hk=>h.block k (by omega) (hS k hk)⟩
theorem Zaa.alloc {S:Nat->Prop} {a w:World} (h:Zaa S a w) (o:Obj):Zaa S a (w.alloc o) :=
 h.trans (Zaa.ofBelow (S:=S) ((Below.refl _ w).alloc (Nat.le_refl _) o)) (λ _ _ q=>q)
theorem Zaa.setCell {S:Nat->Prop} {a w:World} (h:Zaa S a w) {p:Addr} (hp:S p.block∨a.heap.size<=p.block) (u:Value):Zaa S a (w.setCell p u) :=
 h.trans (T := fun k => k = p.block) ⟨rfl, rfl, rfl, by simp [World.setCell], fun k _ hk => Below.heap_setCell _ _ _ _ hk⟩ (fun i hi e => by rcases hp with hp | hp
                                                                                                                                             · rw [e]; exact hp
                                                                                                                                             · omega)
theorem Zaa.drew {S:Nat->Prop} {a w:World} (h:Zaa S a w):Zaa S a w.drew:=⟨h.os,h.tape,h.output,h.size,h.block⟩
theorem Zaa.grown {S:Nat->Prop} {a w w':World} {row:Option Nat} (h:Zaa S a w) (hg:w.grownBy w' row) (hr:∀ k,k<a.heap.size->row=some k->S k):Zaa S a w' :=
 h.trans (T:=λ k=>row=some k) ⟨hg.os,hg.tape,hg.output,hg.size,λ k hk hn=>hg.block k hk (λ e=>hn e.symm)⟩ (λ i hi e=>hr i hi e)
theorem ZaX {S:Nat->Prop} {w w':World} {base:Nat} {e:TypeId} {size:Nat} {v:Value} {n:Nat} {xs:List Value} (h:w.ownsRow base e size v n xs) (ht:Zaa S w w') (hS:∀ g,v.ownBlock=some g->¬ S g) :
  w'.ownsRow base e size v n xs:=by
 refine ⟨h.1,?_⟩
 rcases h.2 with hn | ⟨g,cap,cur,rfl,hb,hg,rest⟩
 ·exact .inl hn
 ·refine .inr ⟨g,cap,cur,rfl,hb,?_,rest⟩;rw [ht.block g (Array.getElem?_eq_some_iff.1 hg).1 (hS g rfl)];exact hg
theorem Zdl {w:World} {base:Nat} {e:TypeId} {size:Nat} {v:Value} {n:Nat} {xs:List Value} (h:w.ownsRow base e size v n xs) :
  ∃ ao cap,v=.slice ao n cap/\n<=cap/\cap<=9223372036854775807/\(0<n->∃ g,ao=some ⟨g,0,none⟩):=by
 rcases h.2 with ⟨rfl,rfl⟩ | ⟨g,cap,cur,rfl,hb,hg,h1,h2,h3,h4⟩
 ·exact ⟨none,0,rfl,by omega,by omega,λ h=>absurd h (by omega)⟩
 ·exact ⟨some ⟨g,0,none⟩,cap,rfl,h1,by simpa [maxLen] using h2,λ _=>⟨g,rfl⟩⟩
theorem ZaF {w:World} {base:Nat} {e:TypeId} {size m n cap:Nat} {ao:Option Addr} {xs:List Value} (h:w.ownsRow base e size (.slice ao n cap) m xs):m=n:=by
 rcases h.2 with ⟨e,h0⟩ | ⟨_,_,_,e,_⟩
 ·cases e; exact h0
 ·cases e; rfl
theorem ZbA {w:World} {base base':Nat} {e:TypeId} {size:Nat} {v:Value} {n:Nat} {xs:List Value} (h:w.ownsRow base e size v n xs) (hb:base'<=base):w.ownsRow base' e size v n xs:=by
 refine ⟨h.1,h.2.imp id ?_⟩;rintro ⟨g,cap,cur,h1,h2,h3⟩;exact ⟨g,cap,cur,h1,Nat.le_trans hb h2,h3⟩
def ZaS (w:World) (v v':Value):Prop:=v'.ownBlock=v.ownBlock∨∀ g,v'.ownBlock=some g->w.heap.size<=g
section
variable {P:Program} (w:World)
theorem ZbG (base:Nat) (t ty e:TypeId) (i:TypeInfo) (z:Value) (size bytes:Nat) (ht:P.underlying t=some (.slice e)) (hi:P.info? e=some i) (hz:i.zero=some z)
  (hsize:i.size=size) (hby:i.bytes=bytes) (hzs:z.cells.size=size) (hsz:0<size)
  (v:Value) (n:Nat) (xs:List Value) (hown:w.ownsRow base e size v n xs)
  (a:Addr) (m c:Nat) (news:List Value) (hl:news.length=m*size) (hnews:∀ j u,news[j]? = some u->w.cell? (a.add j)=some u) (h1:∀ u∈news,u.oneCell'=true)
  (h63:n+m<=maxLen) (hbytes:(n+m)*bytes<=140737488355328) (hbase:base<=w.heap.size) :
  ∃ v' w',(Builtin.append_ #[t,t] ty #[v,.slice (some a) m c]).run P w=.ok v' w'/\w'.ownsRow base e size v' (n+m) (xs++news)/\w.grownBy w' v.ownBlock/\ZaS w v v':=by
 have fresh:∀ {v':Value} {w':World},w'.ownsRow w.heap.size e size v' (n+m) (xs++news)->ZaS w v v':=λ h=>.inr (λ g hg=>(h.lt g hg).1)
 rcases hown.2 with ⟨rfl,rfl⟩ | ⟨g,cap,cur,rfl,hb,hg,hnc,hcm,hcs,htake⟩
 ·have hx:xs=[]:=List.eq_nil_of_length_eq_zero (by simpa using hown.1);subst hx;obtain ⟨v',w',r1,r2,r3,_⟩:=run_append_own (P:=P) w w.heap.size t ty e i z size bytes ht hi hz hsize hby hzs hsz (.slice none 0 0) 0 [] (World.ownsRow_nil w _ e size) a m c news hl hnews h1 h63 hbytes (Nat.le_refl _);exact ⟨v',w',r1,ZbA r2 hbase,r3,fresh r2⟩
 ·by_cases hroom:n+m<=cap
  ·obtain ⟨w',r1,r2,r3⟩:=run_append_fits (P:=P) w base t ty e i size ht hi hsize g n cap xs hown a m c news hl hnews h1 hroom;exact ⟨_,w',r1,r2,r3,.inl rfl⟩
  ·obtain ⟨v',w',r1,r2,r3⟩:=run_append_arg_grows (P:=P) w t ty e i z size bytes ht hi hz hsize hby hzs hsz ⟨g,0,none⟩ n cap xs hown.1 (hown.cells rfl) a m c news hl hnews (by omega) h63 hbytes;exact ⟨v',w',r1,ZbA r2 hbase,⟨r3.os,r3.tape,r3.output,r3.size,λ k hk _=>r3.block k hk (by simp)⟩,fresh r2⟩
end
theorem Zbq {P:Program} {ops:Array Oper} {o:Oper} {a:Act} {w:World} {K:Act->World->Prop} {Q:Exit->Act->World->Prop} {E:Prop}
  (hg:o.guard=none) (s x:Operand) (t:TypeId) (hop:o.op=Op.call { callee:=Callee.builtin Builtin.append,args:=#[s,x],argTypes:=#[t,t] })
  (base:Nat) (e:TypeId) (i:TypeInfo) (z:Value) (size bytes:Nat) (h1:P.underlying t=some (.slice e)) (h2:P.info? e=some i) (h3:i.zero=some z) (h4:i.size=size) (h5:i.bytes=bytes) (h6:z.cells.size=size) (h7:0<size)
  (v:Value) (n:Nat) (xs:List Value) (hs:a.eval s=v) (hown:w.ownsRow base e size v n xs)
  (ad:Addr) (m c:Nat) (news:List Value) (hx:a.eval x=.slice (some ad) m c) (hn:news.length=m*size) (hc:∀ j u,news[j]? = some u->w.cell? (ad.add j)=some u) (h1c:∀ u∈news,u.oneCell'=true)
  (b1:n+m<=maxLen) (b2:(n+m)*bytes<=140737488355328) (b3:base<=w.heap.size)
  (hK:∀ v' w',w'.ownsRow base e size v' (n+m) (xs++news)->w.grownBy w' v.ownBlock->ZaS w v v'->K (a.put o.dst v') w') :
  if Region.wanted o (yielded ops a.tmps)=true then Oper.wp P o a w K Q else E:=by
 have hw:Region.wanted o (yielded ops a.tmps)=true:=by simp [Region.wanted,hg]
 rw [if_pos hw];obtain ⟨v',w',hrun,r1,r2,r3⟩:=ZbG (P:=P) w base t o.type e i z size bytes h1 h2 h3 h4 h5 h6 h7 v n xs hown ad m c news hn hc h1c b1 b2 b3;unfold Oper.wp;simp [execOp,hop,resolve,invoke,builtin,hs,hx,hrun,Result.andThen];exact hK v' w' r1 r2 r3
theorem ZaK {P:Program} {w:World} {ops:Array Oper} {rest:List Oper} {o:Oper} {a:Act} {Q:Exit->Act->World->Prop} (hgd:o.guard=none) (s x:Operand) (t:TypeId)
  (hop:o.op=.call { callee:=.builtin .append,args:=#[s,x],argTypes:=#[t,t] })
  (base:Nat) (e:TypeId) (i:TypeInfo) (z:Value) (size bytes:Nat) (h1:P.underlying t=some (.slice e)) (h2:P.info? e=some i) (h3:i.zero=some z) (h4:i.size=size) (h5:i.bytes=bytes) (h6:z.cells.size=size) (h7:0<size)
  (v:Value) (n:Nat) (xs:List Value) (hs:a.eval s=v) (hown:w.ownsRow base e size v n xs)
  (ad:Addr) (m c:Nat) (news:List Value) (hx:a.eval x=.slice (some ad) m c) (hn:news.length=m*size) (hc:∀ j u,news[j]? = some u->w.cell? (ad.add j)=some u) (h1c:∀ u∈news,u.oneCell'=true)
  (b1:n+m<=maxLen) (b2:(n+m)*bytes<=140737488355328) (b3:base<=w.heap.size)
  (h:∀ v' w',w'.ownsRow base e size v' (n+m) (xs++news)->w.grownBy w' v.ownBlock->ZaS w v v'->wpList P ops Q rest (a.put o.dst v') w'):wpList P ops Q (o::rest) a w:=by
 refine wpList_plain hgd λ K hK=>?_
 obtain ⟨v',w',hrun,r1,r2,r3⟩:=ZbG (P:=P) w base t o.type e i z size bytes h1 h2 h3 h4 h5 h6 h7 v n xs hown ad m c news hn hc h1c b1 b2 b3;unfold Oper.wp;simp [execOp,hop,resolve,invoke,builtin,hs,hx,hrun,Result.andThen];exact hK _ _ (h v' w' r1 r2 r3)
theorem ZcP (b j:Nat):(⟨b,0,none⟩:Addr).add j=⟨b,j,none⟩:=by
 unfold Addr.add
 split <;> simp_all
def el (ss:List Bs) (i:Nat):Bs:=ss.getD i []
theorem Zdx {ss:List Bs} {i:Nat} (h:i<ss.length):el ss i=ss[i]:=by simp [el,h]
theorem ZhA {ss:List Bs} {i:Nat} (h:i<ss.length):el ss i∈ss:=by rw [Zdx h]; exact List.getElem_mem h
def Rd (w:World) (ao:Option Addr) (ss:List Bs):Prop:=0<ss.length->∃ b off,ao=some ⟨b,off,none⟩/\b<w.heap.size/\∀ i,i<ss.length->w.cell? ⟨b,off+i,none⟩=some (.string ⟨(el ss i).toArray⟩)
def Own (w:World) (base:Nat) (v:Value) (ss:List Bs):Prop:=w.ownsRow base 9 1 v ss.length (ss.map encStr)
theorem Own.form {w:World} {base:Nat} {v:Value} {ss:List Bs} (h:Own w base v ss):∃ ao cap,v=.slice ao ss.length cap/\ss.length<=cap/\cap<=9223372036854775807/\Rd w ao ss:=by
 obtain ⟨ao,cap,rfl,h1,h2,h3⟩:=Zdl h;refine ⟨ao,cap,rfl,h1,h2,?_⟩;intro h0;obtain ⟨g,rfl⟩:=h3 h0;refine ⟨g,0,rfl,(h.lt g rfl).2,?_⟩;intro i hi;have:=h.cells rfl i (encStr (el ss i)) (by rw [List.getElem?_map,List.getElem?_eq_getElem hi,Zdx hi]; rfl);rw [Nat.zero_add,<- ZcP];exact this
theorem Own.below {w w':World} {base:Nat} {v:Value} {ss:List Bs} (h:Own w base v ss) (hb:Below w.heap.size w w'):Own w' base v ss :=
 ZaX (S:=λ _=>False) h (Zaa.ofBelow hb) (λ _ _ q=>q)
theorem Tryz.info9:(Tryz.prog.info? 9).map (λ i=>(i.zero,i.size,i.bytes))=some (some (.string ⟨#[]⟩),1,16):=by kernel_rfl
theorem Own.turn {w w':World} {base:Nat} {v:Value} {ss:List Bs} (h:Own w base v ss) (hb:base<=w.heap.size) (ht:Zaa (λ k=>v.ownBlock=some k) w w'):Below base w w' :=
 ht.below hb (λ k hk q=>by have:=(h.lt k q).1; omega)
theorem Zc8 (w:World) (y:Value) (t:TypeId):∀ j u,[y][j]? = some u->(w.alloc (.cells #[y] t)).cell? ((⟨w.heap.size,0,none⟩:Addr).add j)=some u:=by
 intro j u h
 match j,h with
 | 0,h =>
  rw [ZcP,World.cell?_alloc_new];simpa using h
 | j+1,h=>simp at h
theorem ZmE {ops:Array Oper} {rest:List Oper} {o:Oper} {a:Act} {w:World} {Q:Exit->Act->World->Prop} (hgd:o.guard=none) (s x:Operand)
  (hop:o.op=.call { callee:=.builtin .append,args:=#[s,x],argTypes:=#[40,40] }) (base:Nat) (v:Value) (ss:List Bs) (y:Bs) (ty:TypeId) (hs:a.eval s=v) (hown:Own w base v ss)
  (hx:a.eval x=.slice (some ⟨w.heap.size,0,none⟩) 1 1) (hlen:ss.length<=4000000) (hb:base<=w.heap.size)
  (h:∀ v' w',Own w' base v' (ss++[y])->Below base w w'->wpList Tryz.prog ops Q rest (a.put o.dst v') w') :
  wpList Tryz.prog ops Q (o::rest) a (w.alloc (.cells #[.string ⟨y.toArray⟩] ty)):=by
 obtain ⟨i0,hi0,hz0,hz1,hz2⟩:=info_parts Tryz.info9
 refine ZaK hgd s x 40 hop base 9 i0 _ 1 16 Tryz.underlying40 hi0 hz0 hz1 hz2 rfl (by decide) v ss.length (ss.map encStr) hs (hown.below ((Below.refl _ w).alloc (Nat.le_refl _) _)) ⟨w.heap.size,0,none⟩ 1 1 [encStr y] hx rfl (Zc8 w _ ty)
  (by simp [Value.oneCell']) (by simp only [maxLen]; omega) (by omega) (by simp; omega) ?_
 intro v' w' h1 h2 _;refine h v' w' ?_ ?_
 ·unfold Own;rw [List.length_append,List.map_append];exact h1
 ·have hb0:Below base w (w.alloc (.cells #[.string ⟨y.toArray⟩] ty)):=(Below.refl _ w).alloc (by omega) _;have ht:Zaa (λ k=>v.ownBlock=some k) (w.alloc (.cells #[.string ⟨y.toArray⟩] ty)) w':=(Zaa.refl _ _).grown h2 (λ k _ e=>e);exact hb0.trans (Own.turn (hown.below ((Below.refl _ w).alloc (Nat.le_refl _) _)) (by simp; omega) ht)
theorem ZbI (t ty e:TypeId) (i:TypeInfo) (ht:Tryz.prog.underlying t=some (.slice e)) (hi:Tryz.prog.info? e=some i) (base:Option Addr) (sLen sCap:Nat) (hle:sLen<=sCap) (ao:Option Addr) (c:Nat) (w:World) :
  (Builtin.append_ #[t,t] ty #[.slice base sLen sCap,.slice ao 0 c]).run Tryz.prog w=.ok (.slice base sLen sCap) w:=by
 have hfc:(Builtin.firstCells i.size 0 (.slice ao 0 c)).run Tryz.prog w=.ok #[] w:=by
  cases ao with
  | none=>exact run_firstCells_none (P:=Tryz.prog) w i.size 0 0 c
  | some a=>exact run_firstCells_some (P:=Tryz.prog) w i.size 0 a 0 c [] (by simp) (by simp)
 cases base <;> simp [Builtin.append_,run_underlying ht,sizeOf,typeInfo,hi,Builtin.lenOf,hle,hfc,storeCells]
structure Enc (α:Type) where
 cells:α->List Value
 size:Nat
 len:∀ x,(cells x).length=size
 pos:0<size
 one:∀ x,∀ u∈cells x,u.oneCell'=true
variable {α:Type} {E:Enc α}
def Enc.all (E:Enc α) (xs:List α):List Value:=xs.flatMap E.cells
theorem Enc.all_length (E:Enc α):∀ xs:List α,(E.all xs).length=xs.length*E.size
 | []=>by simp [Enc.all]
 | x::t=>by
  have:=Enc.all_length E t;simp only [Enc.all,List.flatMap_cons,List.length_append,E.len,List.length_cons] at this ⊢;rw [this,Nat.add_mul,Nat.one_mul,Nat.add_comm]
theorem Enc.all_append (E:Enc α) (xs ys:List α):E.all (xs++ys)=E.all xs++E.all ys:=by simp [Enc.all]
theorem Enc.all_one (E:Enc α) (xs:List α):∀ u∈E.all xs,u.oneCell'=true:=by
 intro u h;simp only [Enc.all,List.mem_flatMap] at h;obtain ⟨x,_,hx⟩:=h;exact E.one x u hx
theorem Enc.all_get (E:Enc α):∀ (xs:List α) (i j:Nat) (x:α),xs[i]? = some x->j<E.size->(E.all xs)[i*E.size+j]? = (E.cells x)[j]?
 | [],i,j,x,h,_=>by simp at h
 | y::t,0,j,x,h,hj=>by
  have e:y=x:=by simpa using h
  subst e;simp only [Enc.all,List.flatMap_cons,Nat.zero_mul,Nat.zero_add];rw [List.getElem?_append_left (by rw [E.len]; exact hj)]
 | y::t,i+1,j,x,h,hj=>by
  have:=Enc.all_get E t i j x (by simpa using h) hj;simp only [Enc.all,List.flatMap_cons] at this ⊢;rw [List.getElem?_append_right (by rw [E.len,Nat.add_mul,Nat.one_mul]; omega),E.len,<- this]
  congr 1
  rw [Nat.add_mul,Nat.one_mul];omega
theorem Enc.all_split (E:Enc α) (xs:List α) (k:Nat) (u:Value) (h:(E.all xs)[k]? = some u):∃ i j x,k=i*E.size+j/\j<E.size/\xs[i]? = some x/\(E.cells x)[j]? = some u:=by
 have hk:k<xs.length*E.size:=by
  rcases Nat.lt_or_ge k (E.all xs).length with q | q
  ·rw [E.all_length] at q; exact q
  ·rw [List.getElem?_eq_none q] at h; cases h
 have hi:k / E.size<xs.length:=Nat.div_lt_of_lt_mul (by rw [Nat.mul_comm]; exact hk);have hj:k % E.size<E.size:=Nat.mod_lt _ E.pos;have hx:xs[k / E.size]? = some xs[k / E.size]:=List.getElem?_eq_getElem hi
 have e:k=k / E.size*E.size+k % E.size:=by rw [Nat.mul_comm]; exact (Nat.div_add_mod k E.size).symm
 refine ⟨k / E.size,k % E.size,xs[k / E.size],e,hj,hx,?_⟩;rw [<- E.all_get xs _ _ _ hx hj,<- e];exact h
theorem Enc.all_set (E:Enc α):∀ (xs:List α) (i j:Nat) (x y:α) (u:Value),xs[i]? = some x->j<E.size->E.cells y=(E.cells x).set j u->(E.all xs).set (i*E.size+j) u=E.all (xs.set i y)
 | [],i,j,x,y,u,h,_,_=>by simp at h
 | z::t,0,j,x,y,u,h,hj,hy=>by
  have e:z=x:=by simpa using h
  subst e;simp only [Enc.all,List.flatMap_cons,Nat.zero_mul,Nat.zero_add,List.set_cons_zero];rw [List.set_append_left _ _ (by rw [E.len]; exact hj),hy]
 | z::t,i+1,j,x,y,u,h,hj,hy=>by
  have:=Enc.all_set E t i j x y u (by simpa using h) hj hy;simp only [Enc.all,List.flatMap_cons,List.set_cons_succ] at this ⊢;rw [List.set_append_right _ _ (by rw [E.len,Nat.add_mul,Nat.one_mul]; omega),E.len,<- this]
  congr 2
  rw [Nat.add_mul,Nat.one_mul];omega
def RdG (E:Enc α) (w:World) (ao:Option Addr) (xs:List α):Prop:=0<xs.length->∃ b off,ao=some ⟨b,off,none⟩/\b<w.heap.size /\
 ∀ i x,xs[i]? = some x->∀ j u,(E.cells x)[j]? = some u->w.cell? ⟨b,off+(i*E.size+j),none⟩=some u
theorem RdG.below {w w':World} {ao:Option Addr} {xs:List α} (h:RdG E w ao xs) (hb:Below w.heap.size w w'):RdG E w' ao xs:=by
 intro h0;obtain ⟨b,off,rfl,hlt,hc⟩:=h h0;exact ⟨b,off,rfl,Nat.lt_of_lt_of_le hlt hb.size,λ i x hx j u hu=>(hb.cell hlt).trans (hc i x hx j u hu)⟩
theorem RdG.nil (E:Enc α) (w:World) (ao:Option Addr):RdG E w ao []:=λ h=>absurd h (by simp)
theorem RdG.take {w:World} {ao:Option Addr} {xs:List α} (h:RdG E w ao xs) (n:Nat):RdG E w ao (xs.take n):=by
 intro h0;obtain ⟨b,off,rfl,hlt,hc⟩:=h (by simp at h0; omega);refine ⟨b,off,rfl,hlt,λ i x hx=>hc i x ?_⟩;rw [List.getElem?_take] at hx
 split at hx
 ·exact hx
 ·cases hx
theorem RdG.drop {w:World} {b off:Nat} {xs:List α} (h:RdG E w (some ⟨b,off,none⟩) xs) (n:Nat):RdG E w (some ⟨b,off+n*E.size,none⟩) (xs.drop n):=by
 intro h0;obtain ⟨b',off',e,hlt,hc⟩:=h (by simp at h0; omega)
 obtain ⟨rfl,rfl⟩:b=b'/\off=off':=by simpa using e
 refine ⟨b,off+n*E.size,rfl,hlt,λ i x hx j u hu=>?_⟩;rw [List.getElem?_drop] at hx;have:=hc (n+i) x hx j u hu;rw [Nat.add_mul] at this;rw [<- this]
 congr 2
 omega
def OwnG (E:Enc α) (e:TypeId) (w:World) (base:Nat) (v:Value) (xs:List α):Prop:=w.ownsRow base e E.size v xs.length (E.all xs)
theorem OwnG.nil (E:Enc α) (e:TypeId) (w:World) (base:Nat):OwnG E e w base (.slice none 0 0) []:=World.ownsRow_nil w _ _ _
theorem OwnG.form {e:TypeId} {w:World} {base:Nat} {v:Value} {xs:List α} (h:OwnG E e w base v xs) :
  ∃ ao cap,v=.slice ao xs.length cap/\xs.length<=cap/\cap<=9223372036854775807/\RdG E w ao xs/\(0<xs.length->∃ g,ao=some ⟨g,0,none⟩):=by
 obtain ⟨ao,cap,rfl,h1,h2,h3⟩:=Zdl h;refine ⟨ao,cap,rfl,h1,h2,?_,h3⟩;intro h0;obtain ⟨g,rfl⟩:=h3 h0;refine ⟨g,0,rfl,(h.lt g rfl).2,?_⟩;intro i x hx j u hu
 have hj:j<E.size:=by
  rw [<- E.len x]
  rcases Nat.lt_or_ge j (E.cells x).length with q | q
  ·exact q
  ·rw [List.getElem?_eq_none q] at hu; cases hu
 have:=h.cells rfl (i*E.size+j) u (by rw [E.all_get xs i j x hx hj]; exact hu);rw [Nat.zero_add,<- ZcP];exact this
theorem OwnG.below {e:TypeId} {w w':World} {base:Nat} {v:Value} {xs:List α} (h:OwnG E e w base v xs) (hb:Below w.heap.size w w'):OwnG E e w' base v xs :=
 ZaX (S:=λ _=>False) h (Zaa.ofBelow hb) (λ _ _ q=>q)
theorem OwnG.low {e:TypeId} {w:World} {B B':Nat} {v:Value} {xs:List α} (h:OwnG E e w B v xs) (hb:B'<=B):OwnG E e w B' v xs:=ZbA h hb
theorem OwnG.turn {e:TypeId} {w w':World} {base:Nat} {v:Value} {xs:List α} (h:OwnG E e w base v xs) (hb:base<=w.heap.size) (ht:Zaa (λ k=>v.ownBlock=some k) w w'):Below base w w' :=
 ht.below hb (λ k hk q=>by have:=(h.lt k q).1; omega)
theorem OwnG.put {e:TypeId} {w:World} {base g n cap:Nat} {xs:List α} (h:OwnG E e w base (.slice (some ⟨g,0,none⟩) n cap) xs) {i j:Nat} {x:α} (hx:xs[i]? = some x) (hj:j<E.size) (y:α) (u:Value) (hy:E.cells y=(E.cells x).set j u) :
  OwnG E e (w.setCell ⟨g,i*E.size+j,none⟩ u) base (.slice (some ⟨g,0,none⟩) n cap) (xs.set i y):=by
 have hn:xs.length=n:=ZaF h;subst hn;unfold OwnG;rw [List.length_set,<- E.all_set xs i j x y u hx hj hy];exact (h.stored (i*E.size+j) u).1
theorem Zas (b off j:Nat):(⟨b,off,none⟩:Addr).add j=⟨b,off+j,none⟩:=by
 unfold Addr.add
 split <;> simp_all
theorem ZaC (E:Enc α) (w:World) (y:α) (t:TypeId):∀ j u,(E.cells y)[j]? = some u->(w.alloc (.cells (E.cells y).toArray t)).cell? ((⟨w.heap.size,0,none⟩:Addr).add j)=some u:=by
 intro j u h;rw [ZcP,World.cell?_alloc_new];simpa using h
theorem Zak {ops:Array Oper} {rest:List Oper} {o:Oper} {a:Act} {w:World} {Q:Exit->Act->World->Prop} (E:Enc α) (e t:TypeId) (bytes:Nat) (z:Value) (hz:z.cells.size=E.size)
  (hinfo:(Tryz.prog.info? e).map (λ i=>(i.zero,i.size,i.bytes))=some (some z,E.size,bytes)) (hu:Tryz.prog.underlying t=some (.slice e)) (hgd:o.guard=none) (s x:Operand)
  (hop:o.op=.call { callee:=.builtin .append,args:=#[s,x],argTypes:=#[t,t] }) (base:Nat) (v:Value) (ss:List α) (y:α) (ty:TypeId) (hs:a.eval s=v) (hown:OwnG E e w base v ss)
  (hx:a.eval x=.slice (some ⟨w.heap.size,0,none⟩) 1 1) (hlen:(ss.length+1)*bytes<=140737488355328) (hmax:ss.length+1<=maxLen) (hb:base<=w.heap.size) (c:Array Value) (hc:c=(E.cells y).toArray)
  (h:∀ v' w',OwnG E e w' base v' (ss++[y])->Below base w w'->ZaS w v v'->Zaa (λ k=>v.ownBlock=some k) w w'->wpList Tryz.prog ops Q rest (a.put o.dst v') w') :
  wpList Tryz.prog ops Q (o::rest) a (w.alloc (.cells c ty)):=by
 subst hc;obtain ⟨i0,hi0,hz0,hz1,hz2⟩:=info_parts hinfo
 refine ZaK hgd s x t hop base e i0 _ E.size bytes hu hi0 hz0 hz1 hz2 hz E.pos v ss.length (E.all ss) hs (hown.below ((Below.refl _ w).alloc (Nat.le_refl _) _)) ⟨w.heap.size,0,none⟩ 1 1 (E.cells y) hx (by rw [E.len,Nat.one_mul]) (ZaC E w y ty)
  (E.one y) hmax hlen (by simp; omega) ?_
 intro v' w' h1 h2 h3;have ha:Zaa (λ k=>v.ownBlock=some k) w (w.alloc (.cells (E.cells y).toArray ty)):=(Zaa.refl _ _).alloc _;have ht:Zaa (λ k=>v.ownBlock=some k) (w.alloc (.cells (E.cells y).toArray ty)) w':=(Zaa.refl _ _).grown h2 (λ k _ e=>e);refine h v' w' ?_ ?_ ?_ (ha.trans ht (λ _ _ q=>q))
 ·unfold OwnG;rw [List.length_append,E.all_append];simpa [Enc.all] using h1
 ·exact OwnG.turn hown hb (ha.trans ht (λ _ _ q=>q))
 ·refine h3.imp id (λ q g hg=>?_);have:=q g hg;simp at this;omega
theorem Zcj {ops:Array Oper} {rest:List Oper} {o:Oper} {a:Act} {w:World} {Q:Exit->Act->World->Prop} (E:Enc α) (e t:TypeId) (bytes:Nat) (z:Value) (hz:z.cells.size=E.size)
  (hinfo:(Tryz.prog.info? e).map (λ i=>(i.zero,i.size,i.bytes))=some (some z,E.size,bytes)) (hu:Tryz.prog.underlying t=some (.slice e)) (hgd:o.guard=none) (s x:Operand)
  (hop:o.op=.call { callee:=.builtin .append,args:=#[s,x],argTypes:=#[t,t] }) (base:Nat) (v:Value) (ss xs:List α) (ao:Option Addr) (n c:Nat) (hs:a.eval s=v) (hown:OwnG E e w base v ss)
  (hx:a.eval x=.slice ao n c) (hr:RdG E w ao xs) (hl:xs.length=n) (hlen:(ss.length+n)*bytes<=140737488355328) (hmax:ss.length+n<=maxLen) (hb:base<=w.heap.size)
  (h:∀ v' w',OwnG E e w' base v' (ss++xs)->Below base w w'->ZaS w v v'->Zaa (λ k=>v.ownBlock=some k) w w'->wpList Tryz.prog ops Q rest (a.put o.dst v') w') :
  wpList Tryz.prog ops Q (o::rest) a w:=by
 obtain ⟨i0,hi0,hz0,hz1,hz2⟩:=info_parts hinfo;by_cases h0:0<xs.length
 ·obtain ⟨b,off,rfl,hlt,hc⟩:=hr h0
  refine ZaK hgd s x t hop base e i0 _ E.size bytes hu hi0 hz0 hz1 hz2 hz E.pos v ss.length (E.all ss) hs hown ⟨b,off,none⟩ n c (E.all xs) hx (by rw [E.all_length,hl]) (by
   intro k u hk;obtain ⟨i,j,y,rfl,hj,hy,hu⟩:=E.all_split xs k u hk;rw [Zas]
   exact hc i y hy j u hu) (E.all_one xs) hmax hlen hb ?_
  intro v' w' h1 h2 h3;have ht:Zaa (λ k=>v.ownBlock=some k) w w':=(Zaa.refl _ _).grown h2 (λ k _ e=>e);refine h v' w' ?_ (OwnG.turn hown hb ht) h3 ht;unfold OwnG;rw [List.length_append,E.all_append,hl];exact h1
 ·obtain rfl:xs=[]:=List.eq_nil_of_length_eq_zero (by omega);obtain rfl:n=0:=hl.symm;obtain ⟨ao2,cap,rfl,hle,_,_⟩:=hown.form
  refine wpList_plain hgd λ K hK=>?_
  have hrun:=ZbI t o.type e i0 hu hi0 ao2 ss.length cap hle ao c w;unfold Oper.wp;simp [execOp,hop,resolve,invoke,builtin,hs,hx,hrun,Result.andThen];exact hK _ _ (h _ w (by rw [List.append_nil]; exact hown) (Below.refl _ _) (.inl rfl) (Zaa.refl _ _))
def encI:Enc Int:=⟨λ z=>[.int .i64 z],1,λ _=>rfl,by decide,by intro x u h; simp at h; subst h; rfl⟩
theorem RdG.ints {w:World} {b off:Nat} {xs:List Int} (h:RdG encI w (some ⟨b,off,none⟩) xs) {i:Nat} {x:Int} (hx:xs[i]? = some x):w.cell? ⟨b,off+i,none⟩=some (.int .i64 x):=by
 obtain ⟨b', off', e, hlt, hc⟩ := h (by rcases Nat.lt_or_ge i xs.length with q | q
                                        · omega
                                        · rw [List.getElem?_eq_none q] at hx; cases hx)
 obtain ⟨rfl,rfl⟩:b=b'/\off=off':=by simpa using e
 have:=hc i x hx 0 _ rfl;simpa [encI] using this
theorem RdG.some_of {w:World} {ao:Option Addr} {xs:List α} (h:RdG E w ao xs) {i:Nat} {x:α} (hx:xs[i]? = some x):∃ b off,ao=some ⟨b,off,none⟩/\b<w.heap.size:=by
 obtain ⟨b, off, e, hlt, _⟩ := h (by rcases Nat.lt_or_ge i xs.length with q | q
                                     · omega
                                     · rw [List.getElem?_eq_none q] at hx; cases hx)
 exact ⟨b,off,e,hlt⟩
end Go.Proofs.YtmhcpbbiokpjjaaGreat
