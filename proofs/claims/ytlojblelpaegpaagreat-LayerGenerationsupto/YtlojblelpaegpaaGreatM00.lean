/-
  Several texts, laid together.
-/
import Derived.Test.YtlojblelpaegpaaGreatRows
import Derived.WalkKit
import Derived.WalkSpells
import Derived.WalkLawsBesides
import Derived.WalkSmall
import Derived.Lib.Bytealg
import Derived.Lib.IndexLaws
import Derived.Sort.EncStr
import Derived.ArgAppend
import Derived.Deep.RegionLaw
import Derived.Shelf.Abstract
import Derived.Laws.Strings3
import Derived.Laws.DeepStrings4
import Derived.Deep.LoopGhost
import Derived.Deep.RegionHeld3
import Derived.Deep.DeepCutAuto
import Derived.BigRegion
import Derived.BigQuiet
set_option maxHeartbeats 6400000
set_option maxRecDepth 100000
open Go.Lib renaming indexByte->Cw,indexByte_ge->FN
open List renaming all_cons->Hg,length_cons->A3,flatten_cons->Fe,length_append->AD,drop_left->DJ,eq_nil_of_length_eq_zero->AT,getElem?_map->Bc,getElem?_eq_getElem->Aq,map_append->BS,getElem?_eq_none->AL,append_nil->Bp,flatMap_cons->CM
open Bool renaming and_eq_true->Bf
open Go renaming World->Ap,TypeId->AP,Value->Ar,maxLen->AG,TypeInfo->Fy,bytes->Bt,Operand->CJ,execOp->Do,resolve->Dz,invoke->DS,builtin->Fp,wpList->CG,wpList_plain->EO,info_parts->Cd
open Nat renaming le_refl->Az,le_trans->AZ,lt_of_lt_of_le->AI,zero_add->C9,lt_or_ge->Cp,add_mul->EX,one_mul->Er,zero_mul->Ff,mul_comm->DV
open Go.RowKit renaming Below->An
open Go.RowKit.Below renaming refl->Ao
open Go.World renaming ownsRow_nil->DU,cell?_alloc_new->EM
open Go.Result renaming andThen->Ct
open Go.Value renaming slice->Aa,string->Ae
open Go.Proofs.Tryz renaming prog->Am
namespace Go.Proofs.YtlojblelpaegpaaGreat
open Go.RowKit
variable{B base cap i n:Nat}{P:Program}{Q:Exit->Act->Ap->Prop}{S T:Nat->Prop}{a:Act}{ao:Option Addr}{b w w':Ap}{e:AP}{rest:List Oper}{v:Ar}{α:Sort _}
abbrev Aw:=@if_neg
abbrev Ax:=@decide_eq_false_iff_not
abbrev AE:=@if_pos
abbrev A4:=@congrArg
abbrev A5:=@decide_eq_true_eq
abbrev A7:=@beq_eq_false_iff_ne
abbrev CN:=@of_decide_eq_true
abbrev CR:=@decide_eq_true_iff
abbrev CW:=@decide_eq_false
abbrev D8:=@decide_eq_decide
abbrev Eg:=@if_false
abbrev Ep:=@beq_iff_eq
abbrev EF:=@getElem!_pos
abbrev Fa:=@if_true
abbrev FW:=@decide_eq_true
abbrev FY:=@bne_iff_ne
theorem Xa(a:α):∃x,a=x:=⟨a,rfl⟩
theorem Xb(a:α):∃x,x=a:=⟨a,rfl⟩
theorem _root_.Go.RowKit.Hid.o{p:Prop}(h:Hid p):p:=h
abbrev Bs:=List UInt8
def okI(c:Int):Bool:=decide ((97<=c/\c<=122)∨(48<=c/\c<=57)∨c=95∨c=46)
def okB(b:UInt8):Bool:=okI b.toNat
def isName(l:Bs):Bool:=decide (1<=l.length)&&decide (l.length<=16)&&l.all okB
def cutB:Bs->Bs×Bs×Bool
 | []=>([],[],false)
 | b::t=>if b=47 then([],t,true)else(b::(cutB t).1,(cutB t).2.1,(cutB t).2.2)
theorem ZiH:∀l:Bs,Cw l 47 = -1->cutB l=(l,[],false)
 | [],_=>rfl
 | b::t,h=>by
  unfold Cw at h;by_cases a:b=47
  ·subst a;simp at h
  ·have c:(b==47)=false:=by simpa using a
   rw[c]at h
   have d:Cw t 47 = -1:=by
    by_cases e:Cw t 47 = -1
    ·exact e
    ·have:=FN t 47;simp[e]at h;omega
   simp[cutB,a,ZiH t d]
theorem ZiU:∀(l:Bs) (o:Nat),Cw l 47=o->o<l.length/\cutB l=(l.take o,l.drop (o+1),true)
 | [],o,h=>by simp[Cw]at h
 | b::t,o,h=>by
  unfold Cw at h;by_cases a:b=47
  ·subst a;simp at h
   obtain rfl:o=0:=by omega
   simp[cutB]
  ·have c:(b==47)=false:=by simpa using a
   rw[c]at h;by_cases e:Cw t 47 = -1
   ·simp[e]at h
   ·have f:=FN t 47;simp[e]at h
    obtain⟨d,rfl⟩:∃d,o=d+1:=⟨o - 1,by omega⟩
    obtain⟨g,i⟩:=ZiU t d (by omega);simp[cutB,a,i,g]
def chk:Nat->Bs->Bool
 | 0,_=>false
 | n+1,l=>isName (cutB l).1&&(if(cutB l).2.2 then chk n (cutB l).2.1 else true)
def isPath(l:Bs):Bool:=chk 6 l
def err(b:Bool):Int:=if b then 0 else 2
def names:Bs->List Bs
 | []=>[[]]
 | b::t=>if b=47 then[]::names t else(b::(names t).headD [])::(names t).tail
theorem ZcS(l:Bs):names l≠[]:=by
 cases l with
 | nil=>simp[names]
 | cons b t=>by_cases h:b=47 <;> simp[names,h]
theorem Zgn:∀l:Bs,names l=if(cutB l).2.2 then(cutB l).1::names (cutB l).2.1 else[(cutB l).1]
 | []=>rfl
 | b::t=>by
  by_cases h:b=47
  ·simp[names,cutB,h]
  ·have:=Zgn t;by_cases f:(cutB t).2.2
   ·simp[names,cutB,h,f,this]
   ·simp[names,cutB,h,f,this]
theorem Zd7:∀(n:Nat) (l:Bs),chk n l=((names l).all isName&&decide ((names l).length<=n))
 | 0,l=>by
  have:¬(names l).length<=0:=by have:=ZcS l;cases h:names l <;> simp_all
  simp[chk,this]
 | n+1,l=>by
  rw[Zgn l];by_cases f:(cutB l).2.2
  ·simp only[chk,f,if_true,Hg,A3,Zd7 n,Nat.add_le_add_iff_right,Bool.and_assoc]
  ·simp[chk,f]
theorem Zcd:∀l:Bs,(names l).flatten.length+(names l).length=l.length+1
 | []=>rfl
 | b::t=>by
  have:=Zcd t;by_cases h:b=47
  ·simp only[names,h,if_true,Fe,AD,A3,List.length_nil];omega
  ·cases a:names t with
   | nil=>exact absurd a (ZcS t)
   | cons x y =>
    rw[a]at this;simp only[names,h,if_false,a,List.headD_cons,List.tail_cons,Fe,AD,A3]at this ⊢;omega
theorem Zmo:∀b:List Bs,b.all isName=true->b.flatten.length<=16*b.length
 | [],_=>by simp
 | a::t,h=>by
  simp only[Hg,Bf]at h;have:=Zmo t h.2;have c:=h.1;simp only[isName,Bf,decide_eq_true_eq]at c;simp only[Fe,AD,A3];omega
def refIs(l:Bs):Bool:=decide (l.length<=102)&&((names l).all isName&&decide ((names l).length<=6))
theorem ZfG(l:Bs):refIs l=isPath l:=by
 rw[isPath,Zd7,refIs]
 cases h:((names l).all isName&&decide ((names l).length<=6))with
 | false=>simp
 | true =>
  simp only[Bf,decide_eq_true_eq]at h;have a:=Zmo _ h.1;have b:=Zcd l
  have:l.length<=102:=by omega
  simp[this]
def under(p d:Bs):Bool:=p==d||(d++[47]).isPrefixOf p
theorem Zkq(p d:Bs):(d.isPrefixOf p&&((p.drop d.length)==[]||[47].isPrefixOf (p.drop d.length)))=under p d:=by
 rw[Bool.eq_iff_iff];simp only[under,Bf,Bool.or_eq_true,List.isPrefixOf_iff_prefix,beq_iff_eq]
 constructor
 ·rintro⟨⟨t,rfl⟩,h⟩;rw[DJ]at h
  rcases h with rfl|⟨u,rfl⟩
  ·left;simp
  ·right;exact⟨u,by simp⟩
 ·rintro(rfl|⟨u,rfl⟩)
  ·exact⟨List.prefix_rfl,by simp⟩
  ·refine⟨⟨[47]++u,by simp⟩,?_⟩
   right
   rw[List.append_assoc,DJ];exact⟨u,rfl⟩
structure Zaa(S:Nat->Prop)(w w':Ap):Prop where
 os:w'.os=w.os
 tape:w'.tape=w.tape
 output:w'.output=w.output
 size:w.heap.size<=w'.heap.size
 block:∀k,k<w.heap.size->¬S k->w'.heap[k]? = w.heap[k]?
theorem Zaa.refl(S:Nat->Prop)(w:Ap):Zaa S w w:=⟨rfl,rfl,rfl,Az _,λ _ _ _=>rfl⟩
theorem Zaa.trans{a c:Ap}(h:Zaa S a b)(k:Zaa T b c)(e:∀i,i<a.heap.size->T i->S i):Zaa S a c :=
 ⟨k.os.trans h.os,k.tape.trans h.tape,k.output.trans h.output,AZ h.size k.size,
  λ i hi d=>(k.block i (AI hi h.size) (λ q=>d (e i hi q))).trans (h.block i hi d)⟩
theorem Zaa.mono{a:Ap}(h:Zaa S a b)(c:∀i,i<a.heap.size->S i->T i):Zaa T a b :=
 ⟨h.os,h.tape,h.output,h.size,λ i hi d=>h.block i hi (λ q=>d (c i hi q))⟩
theorem Zaa.ofBelow(h:An w.heap.size w w'):Zaa S w w' :=
 ⟨h.os,h.tape,h.output,h.size,λ k a _=>h.block k a⟩
theorem Zaa.below(h:Zaa S w w')(c:B<=w.heap.size)(a:∀k,k<B->¬S k):An B w w' :=
 ⟨h.os,h.tape,h.output,h.size,λ k b=>h.block k (by omega) (a k b)⟩
theorem Zaa.alloc{a:Ap}(h:Zaa S a w)(o:Obj):Zaa S a (w.alloc o) :=
 h.trans (Zaa.ofBelow (S:=S) ((Ao _ w).alloc (Az _) o)) (λ _ _ q=>q)
theorem Zaa.setCell {S:Nat->Prop} {a w:World} (h:Zaa S a w) {p:Addr} (hp:S p.block∨a.heap.size<=p.block) (u:Value):Zaa S a (w.setCell p u) :=
 h.trans (T := fun k => k = p.block) ⟨rfl, rfl, rfl, by simp [World.setCell], fun k _ hk => Below.heap_setCell _ _ _ _ hk⟩ (fun i hi e => by rcases hp with hp | hp
                                                                                                                                             · rw [e]; exact hp
                                                                                                                                             · omega)
theorem Zaa.drew{a:Ap}(h:Zaa S a w):Zaa S a w.drew:=⟨h.os,h.tape,h.output,h.size,h.block⟩
theorem Zaa.grown{a:Ap}{row:Option Nat}(h:Zaa S a w)(b:w.grownBy w' row)(f:∀k,k<a.heap.size->row=some k->S k):Zaa S a w' :=
 h.trans (T:=λ k=>row=some k) ⟨b.os,b.tape,b.output,b.size,λ k c d=>b.block k c (λ e=>d e.symm)⟩ (λ i hi e=>f i hi e)
theorem Za3{size:Nat}{xs:List Ar}(h:w.ownsRow base e size v n xs)(i:Zaa S w w')(c:∀g,v.ownBlock=some g->¬S g):
  w'.ownsRow base e size v n xs:=by
 refine⟨h.1,?_⟩
 rcases h.2 with f|⟨g,cap,a,rfl,d,b,rest⟩
 ·exact .inl f
 ·refine .inr ⟨g,cap,a,rfl,d,?_,rest⟩;rw[i.block g (Array.getElem?_eq_some_iff.1 b).1 (c g rfl)];exact b
theorem ZfF{size:Nat}{xs:List Ar}(h:w.ownsRow base e size v n xs):
  ∃ao cap,v=Aa ao n cap/\n<=cap/\cap<=9223372036854775807/\(0<n->∃g,ao=some ⟨g,0,none⟩):=by
 rcases h.2 with⟨rfl,rfl⟩ | ⟨g,cap,a,rfl,i,j,b,c,d,f⟩
 ·exact⟨none,0,rfl,by omega,by omega,λ h=>absurd h (by omega)⟩
 ·exact⟨some ⟨g,0,none⟩,cap,rfl,b,by simpa[AG]using c,λ _=>⟨g,rfl⟩⟩
theorem Zam{size m:Nat}{xs:List Ar}(h:w.ownsRow base e size (Aa ao n cap) m xs):m=n:=by
 rcases h.2 with⟨e,a⟩ | ⟨_,_,_,e,_⟩
 ·cases e;exact a
 ·cases e;rfl
theorem Zbm{a:Nat}{size:Nat}{xs:List Ar}(h:w.ownsRow base e size v n xs)(i:a<=base):w.ownsRow a e size v n xs:=by
 refine⟨h.1,h.2.imp id ?_⟩;rintro⟨g,cap,b,c,d,f⟩;exact⟨g,cap,b,c,AZ i d,f⟩
def ZaP(w:Ap)(v v':Ar):Prop:=v'.ownBlock=v.ownBlock∨∀g,v'.ownBlock=some g->w.heap.size<=g
section
variable{P:Program}(w:World)
theorem ZbQ(base:Nat)(t ty e:AP)(i:Fy)(z:Ar)(size d:Nat)(G:P.underlying t=some (.slice e))(hi:P.info? e=some i)(K:i.zero=some z)
  (o:i.size=size) (B:i.bytes=d) (D:z.cells.size=size) (C:0<size)
  (v:Ar) (n:Nat) (xs:List Ar) (f:w.ownsRow base e size v n xs)
  (a:Addr) (m c:Nat) (b:List Ar) (F:b.length=m*size) (l:∀j u,b[j]? = some u->w.cell? (a.add j)=some u) (I:∀u∈b,u.oneCell'=true)
  (A:n+m<=AG) (p:(n+m)*d<=140737488355328) (r:base<=w.heap.size) :
  ∃v' w',(Builtin.append_ #[t,t] ty #[v,Aa (some a) m c]).run P w=.ok v' w'/\w'.ownsRow base e size v' (n+m) (xs++b)/\w.grownBy w' v.ownBlock/\ZaP w v v':=by
 have q:∀{v':Ar} {w':Ap},w'.ownsRow w.heap.size e size v' (n+m) (xs++b)->ZaP w v v':=λ h=>.inr (λ g J=>(h.lt g J).1)
 rcases f.2 with⟨rfl,rfl⟩ | ⟨g,cap,L,rfl,S,J,Q,M,N,H⟩
 ·have R:xs=[]:=AT (by simpa using f.1);subst R;obtain⟨v',w',E,y,s,_⟩:=run_append_own (P:=P) w w.heap.size t ty e i z size d G hi K o B D C (Aa none 0 0) 0 [] (DU w _ e size) a m c b F l I A p (Az _);exact⟨v',w',E,Zbm y r,s,q y⟩
 ·by_cases x:n+m<=cap
  ·obtain⟨w',E,y,s⟩:=run_append_fits (P:=P) w base t ty e i size G hi o g n cap xs f a m c b F l I x;exact⟨_,w',E,y,s,.inl rfl⟩
  ·obtain⟨v',w',E,y,s⟩:=run_append_arg_grows (P:=P) w t ty e i z size d G hi K o B D C ⟨g,0,none⟩ n cap xs f.1 (f.cells rfl) a m c b F l (by omega) A p;exact⟨v',w',E,Zbm y r,⟨s.os,s.tape,s.output,s.size,λ k O _=>s.block k O (by simp)⟩,q y⟩
end
theorem Zbq{h:Array Oper}{o:Oper}{K:Act->Ap->Prop}{E:Prop}
  (I:o.guard=none) (s x:CJ) (t:AP) (p:o.op=Op.call { callee:=Callee.builtin Builtin.append,args:=#[s,x],argTypes:=#[t,t] })
  (base:Nat) (e:AP) (i:Fy) (z:Ar) (size d:Nat) (r:P.underlying t=some (.slice e)) (y:P.info? e=some i) (A:i.zero=some z) (B:i.size=size) (C:i.bytes=d) (D:z.cells.size=size) (F:0<size)
  (v:Ar) (n:Nat) (xs:List Ar) (L:a.eval s=v) (f:w.ownsRow base e size v n xs)
  (k:Addr) (m c:Nat) (b:List Ar) (N:a.eval x=Aa (some k) m c) (J:b.length=m*size) (H:∀j u,b[j]? = some u->w.cell? (k.add j)=some u) (l:∀u∈b,u.oneCell'=true)
  (b1:n+m<=AG) (b2:(n+m)*d<=140737488355328) (q:base<=w.heap.size)
  (G:∀v' w',w'.ownsRow base e size v' (n+m) (xs++b)->w.grownBy w' v.ownBlock->ZaP w v v'->K (a.put o.dst v') w') :
  if Region.wanted o (yielded h a.tmps)=true then Oper.wp P o a w K Q else E:=by
 have M:Region.wanted o (yielded h a.tmps)=true:=by simp[Region.wanted,I]
 rw[if_pos M];obtain⟨v',w',g,O,R,S⟩:=ZbQ (P:=P) w base t o.type e i z size d r y A B C D F v n xs f k m c b J H l b1 b2 q;unfold Oper.wp;simp[Do,p,Dz,DS,Fp,L,N,g,Ct];exact G v' w' O R S
theorem Zay{k:Array Oper}{o:Oper}(q:o.guard=none)(s x:CJ)(t:AP)
  (r:o.op=.call { callee:=.builtin .append,args:=#[s,x],argTypes:=#[t,t] })
  (base:Nat) (e:AP) (i:Fy) (z:Ar) (size d:Nat) (A:P.underlying t=some (.slice e)) (B:P.info? e=some i) (C:i.zero=some z) (D:i.size=size) (E:i.bytes=d) (F:z.cells.size=size) (G:0<size)
  (v:Ar) (n:Nat) (xs:List Ar) (L:a.eval s=v) (f:w.ownsRow base e size v n xs)
  (l:Addr) (m c:Nat) (b:List Ar) (M:a.eval x=Aa (some l) m c) (J:b.length=m*size) (I:∀j u,b[j]? = some u->w.cell? (l.add j)=some u) (p:∀u∈b,u.oneCell'=true)
  (b1:n+m<=AG) (b2:(n+m)*d<=140737488355328) (y:base<=w.heap.size)
  (h:∀v' w',w'.ownsRow base e size v' (n+m) (xs++b)->w.grownBy w' v.ownBlock->ZaP w v v'->CG P k Q rest (a.put o.dst v') w'):CG P k Q (o::rest) a w:=by
 refine EO q λ K H=>?_
 obtain⟨v',w',g,N,O,R⟩:=ZbQ (P:=P) w base t o.type e i z size d A B C D E F G v n xs f l m c b J I p b1 b2 y;unfold Oper.wp;simp[Do,r,Dz,DS,Fp,L,M,g,Ct];exact H _ _ (h v' w' N O R)
theorem ZcU(b j:Nat):(⟨b,0,none⟩:Addr).add j=⟨b,j,none⟩:=by
 unfold Addr.add
 split <;> simp_all
def el(ss:List Bs)(i:Nat):Bs:=ss.getD i []
theorem Za9{a:List Bs}(h:i<a.length):el a i=a[i]:=by simp[el,h]
theorem Zcj{a:List Bs}(h:i<a.length):el a i∈a:=by rw[Za9 h];exact List.getElem_mem h
def Rd(w:Ap)(ao:Option Addr)(ss:List Bs):Prop:=0<ss.length->∃b off,ao=some ⟨b,off,none⟩/\b<w.heap.size/\∀i,i<ss.length->w.cell? ⟨b,off+i,none⟩=some (Ae ⟨(el ss i).toArray⟩)
theorem Rd.below{d:List Bs}(h:Rd w ao d)(c:An w.heap.size w w'):Rd w' ao d:=by
 intro e;obtain⟨b,off,rfl,a,f⟩:=h e;exact⟨b,off,rfl,AI a c.size,λ i hi=>(c.cell a).trans (f i hi)⟩
theorem Rd.nil(w:Ap)(ao:Option Addr):Rd w ao []:=λ h=>absurd h (by simp)
def Own(w:Ap)(base:Nat)(v:Ar)(ss:List Bs):Prop:=w.ownsRow base 9 1 v ss.length (ss.map encStr)
theorem Own.nil(w:Ap)(base:Nat):Own w base (Aa none 0 0) []:=DU w _ _ _
theorem Own.form{a:List Bs}(h:Own w base v a):∃ao cap,v=Aa ao a.length cap/\a.length<=cap/\cap<=9223372036854775807/\Rd w ao a:=by
 obtain⟨ao,cap,rfl,c,d,e⟩:=ZfF h;refine⟨ao,cap,rfl,c,d,?_⟩;intro b;obtain⟨g,rfl⟩:=e b;refine⟨g,0,rfl,(h.lt g rfl).2,?_⟩;intro i hi;have:=h.cells rfl i (encStr (el a i)) (by rw[Bc,Aq hi,Za9 hi];rfl);rw[C9,<- ZcU];exact this
theorem Own.below{a:List Bs}(h:Own w base v a)(b:An w.heap.size w w'):Own w' base v a :=
 Za3 (S:=λ _=>False) h (Zaa.ofBelow b) (λ _ _ q=>q)
theorem Tryz.info9:(Am.info? 9).map (λ i=>(i.zero,i.size,i.bytes))=some (some (Ae ⟨#[]⟩),1,16):=by kernel_rfl
theorem Own.turn{c:List Bs}(h:Own w base v c)(a:base<=w.heap.size)(b:Zaa (λ k=>v.ownBlock=some k) w w'):An base w w' :=
 b.below a (λ k d q=>by have:=(h.lt k q).1;omega)
theorem Zdm(w:Ap)(y:Ar)(t:AP):∀j u,[y][j]? = some u->(w.alloc (.cells #[y] t)).cell? ((⟨w.heap.size,0,none⟩:Addr).add j)=some u:=by
 intro j u h
 match j,h with
 | 0,h =>
  rw[ZcU,EM];simpa using h
 | j+1,h=>simp at h
theorem ZaZ{c:Array Oper}{o:Oper}(g:o.guard=none)(s x:CJ)
  (j:o.op=.call { callee:=.builtin .append,args:=#[s,x],argTypes:=#[79,79] }) (base:Nat) (v:Ar) (d:List Bs) (y:Bs) (ty:AP) (t:a.eval s=v) (b:Own w base v d)
  (z:a.eval x=Aa (some ⟨w.heap.size,0,none⟩) 1 1) (p:d.length<=4000000) (A:base<=w.heap.size)
  (h:∀v' w',Own w' base v' (d++[y])->An base w w'->CG Am c Q rest (a.put o.dst v') w') :
  CG Am c Q (o::rest) a (w.alloc (.cells #[Ae ⟨y.toArray⟩] ty)):=by
 obtain⟨i0,i,l,m,n⟩:=Cd Tryz.info9
 refine Zay g s x 79 j base 9 i0 _ 1 16 Tryz.underlying79 i l m n rfl (by decide) v d.length (d.map encStr) t (b.below ((Ao _ w).alloc (Az _) _)) ⟨w.heap.size,0,none⟩ 1 1 [encStr y] z rfl (Zdm w _ ty)
  (by simp[Value.oneCell']) (by simp only[AG];omega) (by omega) (by simp;omega) ?_
 intro v' w' q r _;refine h v' w' ?_ ?_
 ·unfold Own;rw[AD,BS];exact q
 ·have f:An base w (w.alloc (.cells #[Ae ⟨y.toArray⟩] ty)):=(Ao _ w).alloc (by omega) _;have u:Zaa (λ k=>v.ownBlock=some k) (w.alloc (.cells #[Ae ⟨y.toArray⟩] ty)) w':=(Zaa.refl _ _).grown r (λ k _ e=>e);exact f.trans (Own.turn (b.below ((Ao _ w).alloc (Az _) _)) (by simp;omega) u)
theorem Zbl(t ty e:AP)(i:Fy)(h:Am.underlying t=some (.slice e))(hi:Am.info? e=some i)(base:Option Addr)(d b:Nat)(g:d<=b)(ao:Option Addr)(c:Nat)(w:Ap):
  (Builtin.append_ #[t,t] ty #[Aa base d b,Aa ao 0 c]).run Am w=.ok (Aa base d b) w:=by
 have f:(Builtin.firstCells i.size 0 (Aa ao 0 c)).run Am w=.ok #[] w:=by
  cases ao with
  | none=>exact run_firstCells_none (P:=Am) w i.size 0 0 c
  | some a=>exact run_firstCells_some (P:=Am) w i.size 0 a 0 c [] (by simp) (by simp)
 cases base <;> simp[Builtin.append_,run_underlying h,sizeOf,typeInfo,hi,Builtin.lenOf,g,f,storeCells]
theorem ZnP{t:Array Oper}{o:Oper}(l:o.guard=none)(s x:CJ)
  (p:o.op=.call { callee:=.builtin .append,args:=#[s,x],argTypes:=#[79,79] }) (base:Nat) (v:Ar) (g xs:List Bs) (ao:Option Addr) (n c:Nat) (I:a.eval s=v) (d:Own w base v g)
  (J:a.eval x=Aa ao n c) (S:Rd w ao xs) (B:xs.length=n) (H:g.length+n<=8796093022208) (G:base<=w.heap.size)
  (h:∀v' w',Own w' base v' (g++xs)->An base w w'->CG Am t Q rest (a.put o.dst v') w') :
  CG Am t Q (o::rest) a w:=by
 obtain⟨i0,m,D,E,F⟩:=Cd Tryz.info9;by_cases L:0<xs.length
 ·obtain⟨b,off,rfl,R,P⟩:=S L
  have i:∀j,(⟨b,off,none⟩:Addr).add j=⟨b,off+j,none⟩:=by
   intro j;unfold Addr.add
   split <;> simp_all
  refine Zay l s x 79 p base 9 i0 _ 1 16 Tryz.underlying79 m D E F rfl (by decide) v g.length (g.map encStr) I d ⟨b,off,none⟩ n c (xs.map encStr) J (by simp[B]) (by
   intro j u f;rw[Bc]at f
   have A:j<xs.length:=by
    rcases Cp j xs.length with q|q
    ·exact q
    ·rw[AL q]at f;simp at f
   rw[Aq A]at f;rw[i,P j A,Za9 A,<- f]
   rfl) (by intro u f;obtain⟨y,_,rfl⟩:=List.mem_map.1 f;rfl) (by simp only[AG];omega) (by omega) G ?_
  intro v' w' M N _;refine h v' w' ?_ ?_
  ·unfold Own;rw[AD,BS,B];exact M
  ·exact Own.turn d G ((Zaa.refl _ _).grown N (λ k _ e=>e))
 ·obtain rfl:xs=[]:=AT (by omega);obtain rfl:n=0:=B.symm;obtain⟨z,cap,rfl,C,_,_⟩:=d.form
  refine EO l λ K O=>?_
  have r:=Zbl 79 o.type 9 i0 Tryz.underlying79 m z g.length cap C ao c w;unfold Oper.wp;simp[Do,p,Dz,DS,Fp,I,J,r,Ct];exact O _ _ (h _ w (by rw[Bp];exact d) (Ao _ _))
structure Enc(α:Type) where
 cells:α->List Ar
 size:Nat
 len:∀x,(cells x).length=size
 pos:0<size
 one:∀x,∀u∈cells x,u.oneCell'=true
variable{α:Type}{E:Enc α}
def Enc.all(E:Enc α)(xs:List α):List Ar:=xs.flatMap E.cells
theorem Enc.all_length(E:Enc α):∀xs:List α,(E.all xs).length=xs.length*E.size
 | []=>by simp[Enc.all]
 | x::t=>by
  have:=Enc.all_length E t;simp only[Enc.all,CM,AD,E.len,A3]at this ⊢;rw[this,EX,Er,Nat.add_comm]
theorem Enc.all_append(E:Enc α)(xs ys:List α):E.all (xs++ys)=E.all xs++E.all ys:=by simp[Enc.all]
theorem Enc.all_one(E:Enc α)(xs:List α):∀u∈E.all xs,u.oneCell'=true:=by
 intro u h;simp only[Enc.all,List.mem_flatMap]at h;obtain⟨x,_,a⟩:=h;exact E.one x u a
theorem Enc.all_get(E:Enc α):∀(xs:List α) (i j:Nat) (x:α),xs[i]? = some x->j<E.size->(E.all xs)[i*E.size+j]? = (E.cells x)[j]?
 | [],i,j,x,h,_=>by simp at h
 | y::t,0,j,x,h,hj=>by
  have e:y=x:=by simpa using h
  subst e;simp only[Enc.all,CM,Ff,C9];rw[List.getElem?_append_left (by rw[E.len];exact hj)]
 | y::t,i+1,j,x,h,hj=>by
  have:=Enc.all_get E t i j x (by simpa using h) hj;simp only[Enc.all,CM]at this ⊢;rw[List.getElem?_append_right (by rw[E.len,EX,Er];omega),E.len,<- this]
  congr 1
  rw[EX,Er];omega
theorem Enc.all_split(E:Enc α)(xs:List α)(k:Nat)(u:Ar)(h:(E.all xs)[k]? = some u):∃i j x,k=i*E.size+j/\j<E.size/\xs[i]? = some x/\(E.cells x)[j]? = some u:=by
 have c:k<xs.length*E.size:=by
  rcases Cp k (E.all xs).length with q|q
  ·rw[E.all_length]at q;exact q
  ·rw[AL q]at h;cases h
 have hi:k / E.size<xs.length:=Nat.div_lt_of_lt_mul (by rw[DV];exact c);have a:k % E.size<E.size:=Nat.mod_lt _ E.pos;have b:xs[k / E.size]? = some xs[k / E.size]:=Aq hi
 have e:k=k / E.size*E.size+k % E.size:=by rw[DV];exact(Nat.div_add_mod k E.size).symm
 refine⟨k / E.size,k % E.size,xs[k / E.size],e,a,b,?_⟩;rw[<- E.all_get xs _ _ _ b a,<- e];exact h
theorem Enc.all_set(E:Enc α):∀(xs:List α) (i j:Nat) (x y:α) (u:Ar),xs[i]? = some x->j<E.size->E.cells y=(E.cells x).set j u->(E.all xs).set (i*E.size+j) u=E.all (xs.set i y)
 | [],i,j,x,y,u,h,_,_=>by simp at h
 | z::t,0,j,x,y,u,h,hj,hy=>by
  have e:z=x:=by simpa using h
  subst e;simp only[Enc.all,CM,Ff,C9,List.set_cons_zero];rw[List.set_append_left _ _ (by rw[E.len];exact hj),hy]
 | z::t,i+1,j,x,y,u,h,hj,hy=>by
  have:=Enc.all_set E t i j x y u (by simpa using h) hj hy;simp only[Enc.all,CM,List.set_cons_succ]at this ⊢;rw[List.set_append_right _ _ (by rw[E.len,EX,Er];omega),E.len,<- this]
  congr 2
  rw[EX,Er];omega
def RdG(E:Enc α)(w:Ap)(ao:Option Addr)(xs:List α):Prop:=0<xs.length->∃b off,ao=some ⟨b,off,none⟩/\b<w.heap.size /\
 ∀i x,xs[i]? = some x->∀j u,(E.cells x)[j]? = some u->w.cell? ⟨b,off+(i*E.size+j),none⟩=some u
theorem RdG.below{xs:List α}(h:RdG E w ao xs)(c:An w.heap.size w w'):RdG E w' ao xs:=by
 intro d;obtain⟨b,off,rfl,a,e⟩:=h d;exact⟨b,off,rfl,AI a c.size,λ i x g j u f=>(c.cell a).trans (e i x g j u f)⟩
theorem RdG.nil(E:Enc α)(w:Ap)(ao:Option Addr):RdG E w ao []:=λ h=>absurd h (by simp)
theorem RdG.take{xs:List α}(h:RdG E w ao xs)(n:Nat):RdG E w ao (xs.take n):=by
 intro d;obtain⟨b,off,rfl,c,e⟩:=h (by simp at d;omega);refine⟨b,off,rfl,c,λ i x a=>e i x ?_⟩;rw[List.getElem?_take]at a
 split at a
 ·exact a
 ·cases a
theorem RdG.drop{b off:Nat}{xs:List α}(h:RdG E w (some ⟨b,off,none⟩) xs)(n:Nat):RdG E w (some ⟨b,off+n*E.size,none⟩) (xs.drop n):=by
 intro g;obtain⟨f,a,e,c,k⟩:=h (by simp at g;omega)
 obtain⟨rfl,rfl⟩:b=f/\off=a:=by simpa using e
 refine⟨b,off+n*E.size,rfl,c,λ i x d j u l=>?_⟩;rw[List.getElem?_drop]at d;have:=k (n+i) x d j u l;rw[EX]at this;rw[<- this]
 congr 2
 omega
def OwnG(E:Enc α)(e:AP)(w:Ap)(base:Nat)(v:Ar)(xs:List α):Prop:=w.ownsRow base e E.size v xs.length (E.all xs)
theorem OwnG.nil(E:Enc α)(e:AP)(w:Ap)(base:Nat):OwnG E e w base (Aa none 0 0) []:=DU w _ _ _
theorem OwnG.form{xs:List α}(h:OwnG E e w base v xs):
  ∃ao cap,v=Aa ao xs.length cap/\xs.length<=cap/\cap<=9223372036854775807/\RdG E w ao xs/\(0<xs.length->∃g,ao=some ⟨g,0,none⟩):=by
 obtain⟨ao,cap,rfl,d,f,b⟩:=ZfF h;refine⟨ao,cap,rfl,d,f,?_,b⟩;intro c;obtain⟨g,rfl⟩:=b c;refine⟨g,0,rfl,(h.lt g rfl).2,?_⟩;intro i x l j u a
 have k:j<E.size:=by
  rw[<- E.len x]
  rcases Cp j (E.cells x).length with q|q
  ·exact q
  ·rw[AL q]at a;cases a
 have:=h.cells rfl (i*E.size+j) u (by rw[E.all_get xs i j x l k];exact a);rw[C9,<- ZcU];exact this
theorem OwnG.below{xs:List α}(h:OwnG E e w base v xs)(a:An w.heap.size w w'):OwnG E e w' base v xs :=
 Za3 (S:=λ _=>False) h (Zaa.ofBelow a) (λ _ _ q=>q)
theorem OwnG.low{a:Nat}{xs:List α}(h:OwnG E e w B v xs)(b:a<=B):OwnG E e w a v xs:=Zbm h b
theorem OwnG.turn{xs:List α}(h:OwnG E e w base v xs)(a:base<=w.heap.size)(b:Zaa (λ k=>v.ownBlock=some k) w w'):An base w w' :=
 b.below a (λ k c q=>by have:=(h.lt k q).1;omega)
theorem OwnG.put{g:Nat}{xs:List α}(h:OwnG E e w base (Aa (some ⟨g,0,none⟩) n cap) xs){j:Nat}{x:α}(c:xs[i]? = some x)(a:j<E.size)(y:α)(u:Ar)(d:E.cells y=(E.cells x).set j u):
  OwnG E e (w.setCell ⟨g,i*E.size+j,none⟩ u) base (Aa (some ⟨g,0,none⟩) n cap) (xs.set i y):=by
 have b:xs.length=n:=Zam h;subst b;unfold OwnG;rw[List.length_set,<- E.all_set xs i j x y u c a d];exact(h.stored (i*E.size+j) u).1
theorem Zap(b off j:Nat):(⟨b,off,none⟩:Addr).add j=⟨b,off+j,none⟩:=by
 unfold Addr.add
 split <;> simp_all
theorem Zau(E:Enc α)(w:Ap)(y:α)(t:AP):∀j u,(E.cells y)[j]? = some u->(w.alloc (.cells (E.cells y).toArray t)).cell? ((⟨w.heap.size,0,none⟩:Addr).add j)=some u:=by
 intro j u h;rw[ZcU,EM];simpa using h
theorem Zag{n:Array Oper}{o:Oper}(E:Enc α)(e t:AP)(b:Nat)(z:Ar)(P:z.cells.size=E.size)
  (f:(Am.info? e).map (λ i=>(i.zero,i.size,i.bytes))=some (some z,E.size,b)) (N:Am.underlying t=some (.slice e)) (p:o.guard=none) (s x:CJ)
  (u:o.op=.call { callee:=.builtin .append,args:=#[s,x],argTypes:=#[t,t] }) (base:Nat) (v:Ar) (j:List α) (y:α) (ty:AP) (M:a.eval s=v) (d:OwnG E e w base v j)
  (O:a.eval x=Aa (some ⟨w.heap.size,0,none⟩) 1 1) (l:(j.length+1)*b<=140737488355328) (m:j.length+1<=AG) (J:base<=w.heap.size) (c:Array Ar) (K:c=(E.cells y).toArray)
  (h:∀v' w',OwnG E e w' base v' (j++[y])->An base w w'->ZaP w v v'->Zaa (λ k=>v.ownBlock=some k) w w'->CG Am n Q rest (a.put o.dst v') w') :
  CG Am n Q (o::rest) a (w.alloc (.cells c ty)):=by
 subst K;obtain⟨i0,r,A,B,C⟩:=Cd f
 refine Zay p s x t u base e i0 _ E.size b N r A B C P E.pos v j.length (E.all j) M (d.below ((Ao _ w).alloc (Az _) _)) ⟨w.heap.size,0,none⟩ 1 1 (E.cells y) O (by rw[E.len,Er]) (Zau E w y ty)
  (E.one y) m l (by simp;omega) ?_
 intro v' w' G H I;have D:Zaa (λ k=>v.ownBlock=some k) w (w.alloc (.cells (E.cells y).toArray ty)):=(Zaa.refl _ _).alloc _;have F:Zaa (λ k=>v.ownBlock=some k) (w.alloc (.cells (E.cells y).toArray ty)) w':=(Zaa.refl _ _).grown H (λ k _ e=>e);refine h v' w' ?_ ?_ ?_ (D.trans F (λ _ _ q=>q))
 ·unfold OwnG;rw[AD,E.all_append];simpa[Enc.all]using G
 ·exact OwnG.turn d J (D.trans F (λ _ _ q=>q))
 ·refine I.imp id (λ q g L=>?_);have:=q g L;simp at this;omega
theorem Za7{C:Array Oper}{o:Oper}(E:Enc α)(e t:AP)(d:Nat)(z:Ar)(hz:z.cells.size=E.size)
  (g:(Am.info? e).map (λ i=>(i.zero,i.size,i.bytes))=some (some z,E.size,d)) (D:Am.underlying t=some (.slice e)) (m:o.guard=none) (s x:CJ)
  (A:o.op=.call { callee:=.builtin .append,args:=#[s,x],argTypes:=#[t,t] }) (base:Nat) (v:Ar) (l xs:List α) (ao:Option Addr) (n c:Nat) (N:a.eval s=v) (f:OwnG E e w base v l)
  (P:a.eval x=Aa ao n c) (Z:RdG E w ao xs) (G:xs.length=n) (q:(l.length+n)*d<=140737488355328) (r:l.length+n<=AG) (M:base<=w.heap.size)
  (h:∀v' w',OwnG E e w' base v' (l++xs)->An base w w'->ZaP w v v'->Zaa (λ k=>v.ownBlock=some k) w w'->CG Am C Q rest (a.put o.dst v') w') :
  CG Am C Q (o::rest) a w:=by
 obtain⟨i0,p,I,J,L⟩:=Cd g;by_cases R:0<xs.length
 ·obtain⟨b,off,rfl,Y,W⟩:=Z R
  refine Zay m s x t A base e i0 _ E.size d D p I J L hz E.pos v l.length (E.all l) N f ⟨b,off,none⟩ n c (E.all xs) P (by rw[E.all_length,G]) (by
   intro k u X;obtain⟨i,j,y,rfl,hj,hy,D⟩:=E.all_split xs k u X;rw[Zap]
   exact W i y hy j u D) (E.all_one xs) r q M ?_
  intro v' w' S T U;have O:Zaa (λ k=>v.ownBlock=some k) w w':=(Zaa.refl _ _).grown T (λ k _ e=>e);refine h v' w' ?_ (OwnG.turn f M O) U O;unfold OwnG;rw[AD,E.all_append,G];exact S
 ·obtain rfl:xs=[]:=AT (by omega);obtain rfl:n=0:=G.symm;obtain⟨F,cap,rfl,H,_,_⟩:=f.form
  refine EO m λ K V=>?_
  have B:=Zbl t o.type e i0 D p F l.length cap H ao c w;unfold Oper.wp;simp[Do,A,Dz,DS,Fp,N,P,B,Ct];exact V _ _ (h _ w (by rw[Bp];exact f) (Ao _ _) (.inl rfl) (Zaa.refl _ _))
def encI:Enc Int:=⟨λ z=>[.int .i64 z],1,λ _=>rfl,by decide,by intro x u h;simp at h;subst h;rfl⟩
theorem RdG.ints {w:World} {b off:Nat} {xs:List Int} (h:RdG encI w (some ⟨b,off,none⟩) xs) {i:Nat} {x:Int} (hx:xs[i]? = some x):w.cell? ⟨b,off+i,none⟩=some (.int .i64 x):=by
 obtain ⟨b', off', e, hlt, hc⟩ := h (by rcases Nat.lt_or_ge i xs.length with q | q
                                        · omega
                                        · rw [List.getElem?_eq_none q] at hx; cases hx)
 obtain ⟨rfl,rfl⟩:b=b'/\off=off':=by simpa using e
 have:=hc i x hx 0 _ rfl;simpa [encI] using this
theorem RdG.some_of {w:World} {ao:Option Addr} {xs:List α} (h:RdG E w ao xs) {i:Nat} {x:α} (hx:xs[i]? = some x):∃ b off,ao=some ⟨b,off,none⟩/\b<w.heap.size:=by
 obtain ⟨b, off, e, hlt, _⟩ := h (by rcases Nat.lt_or_ge i xs.length with q | q
                                     · omega
                                     · rw [List.getElem?_eq_none q] at hx; cases hx)
 exact ⟨b,off,e,hlt⟩
end Go.Proofs.YtlojblelpaegpaaGreat
