import Derived.Test.YtakgkgmopmcecaaGreatRows
import Derived.WalkKit
import Derived.WalkSpells
import Derived.WalkLawsBesides
import Derived.WalkSmall
import Derived.Lib.Bytealg
import Derived.Lib.IndexLaws
import Derived.Sort.EncStr
import Derived.ArgAppend
import Derived.Deep.RegionLaw
import Derived.Shelf.Abstract
import Derived.Laws.Strings3
import Derived.Laws.DeepStrings4
import Derived.Deep.LoopGhost
import Derived.Deep.RegionHeld3
import Derived.Deep.DeepCutAuto
import Derived.BigRegion
import Derived.BigQuiet
import Derived.Lib.AppendZeros
import Derived.Lib.SlBytesConst
import Derived.Laws.IdiomStrings
set_option maxHeartbeats 6400000
set_option maxRecDepth 100000
open Go.Lib renaming indexByte->CF,indexByte_ge->FP,run_eql_slice_nil->D6
open List renaming all_cons->Ht,length_cons->A2,flatten_cons->Ep,length_append->Ax,drop_left->Dt,eq_nil_of_length_eq_zero->AQ,getElem?_map->Bo,getElem?_eq_getElem->Aq,map_append->BV,getElem?_eq_none->AM,append_nil->Bz,flatMap_cons->Ca,length_set->DB,take_add_one->AW,take_of_length_le->Av,foldl_append->CU,length_take->AE,getD->Cn,foldl_nil->Hn,length_drop->AO
open Bool renaming and_eq_true->Bn
open Go renaming World->Ap,TypeId->AP,Value->Ar,maxLen->AH,TypeInfo->FA,bytes->By,Operand->CG,yielded->Co,execOp->CP,resolve->DA,invoke->DS,builtin->Fq,wpList->CQ,wpList_plain->EP,info_parts->Ch,sizeOf->E6,typeInfo->Eu,Calls->At,grownCap->FE,grownCap_le_maxLen->Gz,wp_loop_rounds->Dx,rounds_succ->D9
open Nat renaming le_refl->AA,le_trans->AU,lt_of_lt_of_le->AK,zero_add->Dc,lt_or_ge->Ct,add_mul->E7,one_mul->Ev,zero_mul->Fg,mul_comm->DY,zero_le->Bw,eq_zero_or_pos->Cc,mul_one->Df,pow_succ->Eh,add_assoc->Hu,pow_le_pow_right->CB,and_two_pow_sub_one_eq_mod->Ea,mod_eq_of_lt->CR
open Go.RowKit renaming Below->An
open Go.RowKit.Below renaming refl->Ao
open Array renaming getElem?_eq_some_iff->Ba
open Go.Builtin renaming append_->ER,zeroCells->GE
open Go.World renaming ownsRow_nil->DX,cell?_alloc_new->EM,ownsRow_made->Fp,cell?_alloc_mark->F7
open Go.Region renaming wanted->Bd
open Go.Oper renaming wp->Cs
open Go.Result renaming andThen->Cz
open Go.Value renaming int->Ab,string->Ae,slice->Aa
open UInt8 renaming ofNat->AX,toNat_ofNat'->Bm
open Go.IntKind renaming u64->Al,wrap_u64->A5,u32->Cl,wrap_u32->FQ,i64->Ak
open Go.BinOp renaming xor->Ds
open BitVec renaming ofInt->Cu,toNat_and->Gd,toNat_ofInt->FX,toNat_ofNat->ES
open Go.Obj renaming cells->Ai
open Go.Ending renaming returned->Aj
open Go.Proofs.Tryz renaming prog->Am
open Go.Proofs.Tryz
namespace Go.Proofs.YtakgkgmopmcecaaGreat
open Go.RowKit
variable {B base c cap d g i j k m n:Nat}{K:Act->Ap->Prop}{P:Program}{Q:Exit->Act->Ap->Prop}{S T:Nat->Prop}{a:Act}{ao:Option Addr}{e:AP}{ops:Array Oper}{p:Addr}{rest:List Oper}{u v:Ar}{w w':Ap}
abbrev Ay:=@if_neg
abbrev Az:=@decide_eq_false_iff_not
abbrev AC:=@if_pos
abbrev A3:=@beq_eq_false_iff_ne
abbrev A7:=@congrArg
abbrev A9:=@decide_eq_true_eq
abbrev CZ:=@decide_eq_true_iff
abbrev Dd:=@decide_eq_false
abbrev Dy:=@of_decide_eq_true
abbrev Ed:=@decide_eq_decide
abbrev Eg:=@beq_iff_eq
abbrev Ek:=@if_false
abbrev Ex:=@bne_iff_ne
abbrev EJ:=@getElem!_pos
abbrev Ff:=@if_true
abbrev F0:=@decide_eq_true
theorem Xa{α:Sort _}(a:α):∃x,a=x:=⟨a,rfl⟩
theorem Xb{α:Sort _}(a:α):∃x,x=a:=⟨a,rfl⟩
theorem _root_.Go.RowKit.Hid.o{p:Prop}(h:Hid p):p:=h
abbrev Iz(w u:Go.World):=Go.RowKit.Below w.heap.size w u
theorem Ih{p:Prop}(h:p):Go.RowKit.Hid p:=h
theorem I2{a b:Prop}(aa:a)(bb:b):Go.RowKit.Hid (a/\b):=⟨aa,bb⟩
theorem I3{a b c:Prop}(aa:a)(bb:b)(cc:c):Go.RowKit.Hid (a/\b/\c):=⟨aa,bb,cc⟩
theorem I4{a b c d:Prop}(aa:a)(bb:b)(cc:c)(dd:d):Go.RowKit.Hid (a/\b/\c/\d):=⟨aa,bb,cc,dd⟩
theorem I5{a b c d e:Prop}(aa:a)(bb:b)(cc:c)(dd:d)(ee:e):Go.RowKit.Hid (a/\b/\c/\d/\e):=⟨aa,bb,cc,dd,ee⟩
theorem I6{a b c d e f:Prop}(aa:a)(bb:b)(cc:c)(dd:d)(ee:e)(ff:f):Go.RowKit.Hid (a/\b/\c/\d/\e/\f):=⟨aa,bb,cc,dd,ee,ff⟩
theorem I7{a b c d e f g:Prop}(aa:a)(bb:b)(cc:c)(dd:d)(ee:e)(ff:f)(gg:g):Go.RowKit.Hid (a/\b/\c/\d/\e/\f/\g):=⟨aa,bb,cc,dd,ee,ff,gg⟩
theorem I8{a b c d e f g h:Prop}(aa:a)(bb:b)(cc:c)(dd:d)(ee:e)(ff:f)(gg:g)(hh:h):Go.RowKit.Hid (a/\b/\c/\d/\e/\f/\g/\h):=⟨aa,bb,cc,dd,ee,ff,gg,hh⟩
theorem I9{a b c d e f g h i:Prop}(aa:a)(bb:b)(cc:c)(dd:d)(ee:e)(ff:f)(gg:g)(hh:h)(ii:i):Go.RowKit.Hid (a/\b/\c/\d/\e/\f/\g/\h/\i):=⟨aa,bb,cc,dd,ee,ff,gg,hh,ii⟩
abbrev Bs:=List UInt8
variable {b bs l x:Bs}{xss:List Bs}
def nJ(c:Int):Bool:=decide ((97<=c/\c<=122)∨(48<=c/\c<=57)∨c=95∨c=46)
def okB(b:UInt8):Bool:=nJ b.toNat
def gS(l:Bs):Bool:=decide (1<=l.length)&&decide (l.length<=16)&&l.all okB
def jD:Bs->Bs×Bs×Bool
 | []=>([],[],false)
 | b::t=>if b=47 then([],t,true)else(b::(jD t).1,(jD t).2.1,(jD t).2.2)
theorem Qn:∀l:Bs,CF l 47 = -1->jD l=(l,[],false)
 | [],_=>rfl
 | b::t,h=>by
  unfold CF at h;by_cases a:b=47;subst a;simp at h
  have c:(b==47)=false:=by simpa using a
  rw[c]at h
  have d:CF t 47 = -1:=by
   by_cases e:CF t 47 = -1;exact e;have:=FP t 47;simp[e]at h;omega
  simp[jD,a,Qn t d]
theorem Qv:∀(l:Bs) (o:Nat),CF l 47=o->o<l.length/\jD l=(l.take o,l.drop (o+1),true)
 | [],o,h=>by simp[CF]at h
 | b::t,o,h=>by
  unfold CF at h;by_cases a:b=47;subst a;simp at h
  obtain rfl:o=0:=by omega
  simp[jD]
  have c:(b==47)=false:=by simpa using a
  rw[c]at h;by_cases e:CF t 47 = -1;simp[e]at h;have f:=FP t 47;simp[e]at h
  obtain⟨d,rfl⟩:∃d,o=d+1:=⟨o - 1,by omega⟩
  obtain⟨g,i⟩:=Qv t d (by omega);simp[jD,a,i,g]
def nT:Nat->Bs->Bool
 | 0,_=>false
 | n+1,l=>gS (jD l).1&&(if(jD l).2.2 then nT n (jD l).2.1 else true)
def gV(l:Bs):Bool:=nT 6 l
def mP(b:Bool):Int:=if b then 0 else 2
def names:Bs->List Bs
 | []=>[[]]
 | b::t=>if b=47 then[]::names t else(b::(names t).headD [])::(names t).tail
theorem KL(l:Bs):names l≠[]:=by
 cases l with
 | nil=>simp[names]
 | cons b t=>by_cases h:b=47 <;> simp[names,h]
theorem Ri:∀l:Bs,names l=if(jD l).2.2 then(jD l).1::names (jD l).2.1 else[(jD l).1]
 | []=>rfl
 | b::t=>by
  by_cases h:b=47;simp[names,jD,h];have:=Ri t;by_cases f:(jD t).2.2;simp[names,jD,h,f,this];simp[names,jD,h,f,this]
theorem NQ:∀(n:Nat) (l:Bs),nT n l=((names l).all gS&&decide ((names l).length<=n))
 | 0,l=>by
  have:¬(names l).length<=0:=by have:=KL l;cases h:names l <;> simp_all
  simp[nT,this]
 | n+1,l=>by
  rw[Ri l];by_cases f:(jD l).2.2;simp only[nT,f,if_true,Ht,A2,NQ n,Nat.add_le_add_iff_right,Bool.and_assoc];simp[nT,f]
theorem Ln:∀l:Bs,(names l).flatten.length+(names l).length=l.length+1
 | []=>rfl
 | b::t=>by
  have:=Ln t;by_cases h:b=47;simp only[names,h,if_true,Ep,Ax,A2,List.length_nil];omega
  cases a:names t with
  | nil=>exact absurd a (KL t)
  | cons x y =>
   rw[a]at this;simp only[names,h,if_false,a,List.headD_cons,List.tail_cons,Ep,Ax,A2]at this ⊢;omega
theorem So:∀b:List Bs,b.all gS=true->b.flatten.length<=16*b.length
 | [],_=>by simp
 | a::t,h=>by
  simp only[Ht,Bn]at h;have:=So t h.2;have c:=h.1;simp only[gS,Bn,decide_eq_true_eq]at c;simp only[Ep,Ax,A2];omega
def mS(l:Bs):Bool:=decide (l.length<=102)&&((names l).all gS&&decide ((names l).length<=6))
theorem OH(l:Bs):mS l=gV l:=by
 rw[gV,NQ,mS]
 cases h:((names l).all gS&&decide ((names l).length<=6))with
 | false=>simp
 | true =>
  simp only[Bn,decide_eq_true_eq]at h;have a:=So _ h.1;have b:=Ln l
  have:l.length<=102:=by omega
  simp[this]
def under(p d:Bs):Bool:=p==d||(d++[47]).isPrefixOf p
theorem Yw(p d:Bs):(d.isPrefixOf p&&((p.drop d.length)==[]||[47].isPrefixOf (p.drop d.length)))=under p d:=by
 rw[Bool.eq_iff_iff];simp only[under,Bn,Bool.or_eq_true,List.isPrefixOf_iff_prefix,beq_iff_eq]
 constructor
 rintro⟨⟨t,rfl⟩,h⟩;rw[Dt]at h
 rcases h with rfl|⟨u,rfl⟩
 left;simp
 right;exact⟨u,by simp⟩
 rintro(rfl|⟨u,rfl⟩)
 exact⟨List.prefix_rfl,by simp⟩
 refine⟨⟨[47]++u,by simp⟩,?_⟩
 right
 rw[List.append_assoc,Dt];exact⟨u,rfl⟩
structure Aw(S:Nat->Prop)(w w':Ap):Prop where
 os:w'.os=w.os
 tape:w'.tape=w.tape
 output:w'.output=w.output
 size:w.heap.size<=w'.heap.size
 block:∀k,k<w.heap.size->¬S k->w'.heap[k]? = w.heap[k]?
theorem Aw.refl(S:Nat->Prop)(w:Ap):Aw S w w:=⟨rfl,rfl,rfl,AA _,λ _ _ _=>rfl⟩
theorem Aw.trans{a b c:Ap}(h:Aw S a b)(k:Aw T b c)(e:∀i,i<a.heap.size->T i->S i):Aw S a c :=
 ⟨k.os.trans h.os,k.tape.trans h.tape,k.output.trans h.output,AU h.size k.size,
  λ i hi d=>(k.block i (AK hi h.size) (λ q=>d (e i hi q))).trans (h.block i hi d)⟩
theorem Aw.mono{a b:Ap}(h:Aw S a b)(c:∀i,i<a.heap.size->S i->T i):Aw T a b :=
 ⟨h.os,h.tape,h.output,h.size,λ i hi d=>h.block i hi (λ q=>d (c i hi q))⟩
theorem Aw.ofBelow(h:An w.heap.size w w'):Aw S w w' :=
 ⟨h.os,h.tape,h.output,h.size,λ k a _=>h.block k a⟩
theorem Aw.below(h:Aw S w w')(c:B<=w.heap.size)(a:∀k,k<B->¬S k):An B w w' :=
 ⟨h.os,h.tape,h.output,h.size,λ k b=>h.block k (by omega) (a k b)⟩
theorem Aw.alloc{a:Ap}(h:Aw S a w)(o:Obj):Aw S a (w.alloc o) :=
 h.trans (Aw.ofBelow (S:=S) ((Ao _ w).alloc (AA _) o)) (λ _ _ q=>q)
theorem Aw.setCell {S:Nat->Prop} {a w:World} (h:Aw S a w) {p:Addr} (hp:S p.block∨a.heap.size<=p.block) (u:Value):Aw S a (w.setCell p u) :=
 h.trans (T := fun k => k = p.block) ⟨rfl, rfl, rfl, by simp [World.setCell], fun k _ hk => Below.heap_setCell _ _ _ _ hk⟩ (fun i hi e => by rcases hp with hp | hp
                                                                                                                                             rw [e]; exact hp
                                                                                                                                             omega)
theorem Aw.drew{a:Ap}(h:Aw S a w):Aw S a w.drew:=⟨h.os,h.tape,h.output,h.size,h.block⟩
theorem Aw.grown{a:Ap}{row:Option Nat}(h:Aw S a w)(b:w.grownBy w' row)(f:∀k,k<a.heap.size->row=some k->S k):Aw S a w' :=
 h.trans (T:=λ k=>row=some k) ⟨b.os,b.tape,b.output,b.size,λ k c d=>b.block k c (λ e=>d e.symm)⟩ (λ i hi e=>f i hi e)
theorem LM{size:Nat}{xs:List Ar}(h:w.ownsRow base e size v n xs)(i:Aw S w w')(c:∀g,v.ownBlock=some g->¬S g):
  w'.ownsRow base e size v n xs:=by
 refine⟨h.1,?_⟩
 rcases h.2 with f|⟨g,cap,a,rfl,d,b,rest⟩
 exact .inl f
 refine .inr ⟨g,cap,a,rfl,d,?_,rest⟩;rw[i.block g (Ba.1 b).1 (c g rfl)];exact b
theorem Nn{size:Nat}{xs:List Ar}(h:w.ownsRow base e size v n xs):
  ∃ao cap,v=Aa ao n cap/\n<=cap/\cap<=9223372036854775807/\(0<n->∃g,ao=some ⟨g,0,none⟩):=by
 rcases h.2 with⟨rfl,rfl⟩ | ⟨g,cap,a,rfl,i,j,b,c,d,f⟩
 exact⟨none,0,rfl,by omega,by omega,λ h=>absurd h (by omega)⟩
 exact⟨some ⟨g,0,none⟩,cap,rfl,b,by simpa[AH]using c,λ _=>⟨g,rfl⟩⟩
theorem DC{size:Nat}{xs:List Ar}(h:w.ownsRow base e size (Aa ao n cap) m xs):m=n:=by
 rcases h.2 with⟨e,a⟩ | ⟨_,_,_,e,_⟩
 cases e;exact a
 cases e;rfl
theorem Jb{a:Nat}{size:Nat}{xs:List Ar}(h:w.ownsRow base e size v n xs)(i:a<=base):w.ownsRow a e size v n xs:=by
 refine⟨h.1,h.2.imp id ?_⟩;rintro⟨g,cap,b,c,d,f⟩;exact⟨g,cap,b,c,AU i d,f⟩
def Dw(w:Ap)(v v':Ar):Prop:=v'.ownBlock=v.ownBlock∨∀g,v'.ownBlock=some g->w.heap.size<=g
section
variable {P:Program}(w:World)
theorem PW(base:Nat)(t ty e:AP)(i:FA)(z:Ar)(size d:Nat)(G:P.underlying t=some (.slice e))(hi:P.info? e=some i)(K:i.zero=some z)
  (o:i.size=size) (B:i.bytes=d) (D:z.cells.size=size) (C:0<size)
  (v:Ar) (n:Nat) (xs:List Ar) (f:w.ownsRow base e size v n xs)
  (a:Addr) (m c:Nat) (b:List Ar) (F:b.length=m*size) (l:∀j u,b[j]? = some u->w.cell? (a.add j)=some u) (I:∀u∈b,u.oneCell'=true)
  (A:n+m<=AH) (p:(n+m)*d<=140737488355328) (r:base<=w.heap.size) :
  ∃v' w',(ER #[t,t] ty #[v,Aa (some a) m c]).run P w=.ok v' w'/\w'.ownsRow base e size v' (n+m) (xs++b)/\w.grownBy w' v.ownBlock/\Dw w v v':=by
 have q:∀{v':Ar} {w':Ap},w'.ownsRow w.heap.size e size v' (n+m) (xs++b)->Dw w v v':=λ h=>.inr (λ g J=>(h.lt g J).1)
 rcases f.2 with⟨rfl,rfl⟩ | ⟨g,cap,L,rfl,S,J,Q,M,N,H⟩
 have R:xs=[]:=AQ (by simpa using f.1);subst R;obtain⟨v',w',E,y,s,_⟩:=run_append_own (P:=P) w w.heap.size t ty e i z size d G hi K o B D C (Aa none 0 0) 0 [] (DX w _ e size) a m c b F l I A p (AA _);exact⟨v',w',E,Jb y r,s,q y⟩
 by_cases x:n+m<=cap
 obtain⟨w',E,y,s⟩:=run_append_fits (P:=P) w base t ty e i size G hi o g n cap xs f a m c b F l I x;exact⟨_,w',E,y,s,.inl rfl⟩
 obtain⟨v',w',E,y,s⟩:=run_append_arg_grows (P:=P) w t ty e i z size d G hi K o B D C ⟨g,0,none⟩ n cap xs f.1 (f.cells rfl) a m c b F l (by omega) A p;exact⟨v',w',E,Jb y r,⟨s.os,s.tape,s.output,s.size,λ k O _=>s.block k O (by simp)⟩,q y⟩
end
theorem O8{o:Oper}{E:Prop}
  (H:o.guard=none) (s x:CG) (t:AP) (l:o.op=Op.call { callee:=Callee.builtin Builtin.append,args:=#[s,x],argTypes:=#[t,t] })
  (base:Nat) (e:AP) (i:FA) (z:Ar) (size d:Nat) (q:P.underlying t=some (.slice e)) (r:P.info? e=some i) (y:i.zero=some z) (A:i.size=size) (B:i.bytes=d) (C:z.cells.size=size) (D:0<size)
  (v:Ar) (n:Nat) (xs:List Ar) (J:a.eval s=v) (f:w.ownsRow base e size v n xs)
  (h:Addr) (m c:Nat) (b:List Ar) (M:a.eval x=Aa (some h) m c) (I:b.length=m*size) (G:∀j u,b[j]? = some u->w.cell? (h.add j)=some u) (k:∀u∈b,u.oneCell'=true)
  (b1:n+m<=AH) (b2:(n+m)*d<=140737488355328) (p:base<=w.heap.size)
  (F:∀v' w',w'.ownsRow base e size v' (n+m) (xs++b)->w.grownBy w' v.ownBlock->Dw w v v'->K (a.put o.dst v') w') :
  if Bd o (Co ops a.tmps)=true then Cs P o a w K Q else E:=by
 have L:Bd o (Co ops a.tmps)=true:=by simp[Bd,H]
 rw[if_pos L];obtain⟨v',w',g,N,O,R⟩:=PW (P:=P) w base t o.type e i z size d q r y A B C D v n xs f h m c b I G k b1 b2 p;unfold Cs;simp[CP,l,DA,DS,Fq,J,M,g,Cz];exact F v' w' N O R
theorem LA{o:Oper}(p:o.guard=none)(s x:CG)(t:AP)
  (q:o.op=.call { callee:=.builtin .append,args:=#[s,x],argTypes:=#[t,t] })
  (base:Nat) (e:AP) (i:FA) (z:Ar) (size d:Nat) (y:P.underlying t=some (.slice e)) (A:P.info? e=some i) (B:i.zero=some z) (C:i.size=size) (D:i.bytes=d) (E:z.cells.size=size) (F:0<size)
  (v:Ar) (n:Nat) (xs:List Ar) (J:a.eval s=v) (f:w.ownsRow base e size v n xs)
  (k:Addr) (m c:Nat) (b:List Ar) (L:a.eval x=Aa (some k) m c) (I:b.length=m*size) (H:∀j u,b[j]? = some u->w.cell? (k.add j)=some u) (l:∀u∈b,u.oneCell'=true)
  (b1:n+m<=AH) (b2:(n+m)*d<=140737488355328) (r:base<=w.heap.size)
  (h:∀v' w',w'.ownsRow base e size v' (n+m) (xs++b)->w.grownBy w' v.ownBlock->Dw w v v'->CQ P ops Q rest (a.put o.dst v') w'):CQ P ops Q (o::rest) a w:=by
 refine EP p λ K G=>?_
 obtain⟨v',w',g,M,N,O⟩:=PW (P:=P) w base t o.type e i z size d y A B C D E F v n xs f k m c b I H l b1 b2 r;unfold Cs;simp[CP,q,DA,DS,Fq,J,L,g,Cz];exact G _ _ (h v' w' M N O)
theorem JZ(b j:Nat):(⟨b,0,none⟩:Addr).add j=⟨b,j,none⟩:=by
 unfold Addr.add
 split <;> simp_all
def el(ss:List Bs)(i:Nat):Bs:=ss.getD i []
theorem F5{a:List Bs}(h:i<a.length):el a i=a[i]:=by simp[el,h]
theorem Iy{a:List Bs}(h:i<a.length):el a i∈a:=by rw[F5 h];exact List.getElem_mem h
def Rd(w:Ap)(ao:Option Addr)(ss:List Bs):Prop:=0<ss.length->∃b off,ao=some ⟨b,off,none⟩/\b<w.heap.size/\∀i,i<ss.length->w.cell? ⟨b,off+i,none⟩=some (Ae ⟨(el ss i).toArray⟩)
theorem Rd.below{d:List Bs}(h:Rd w ao d)(c:An w.heap.size w w'):Rd w' ao d:=by
 intro e;obtain⟨b,off,rfl,a,f⟩:=h e;exact⟨b,off,rfl,AK a c.size,λ i hi=>(c.cell a).trans (f i hi)⟩
theorem Rd.nil(w:Ap)(ao:Option Addr):Rd w ao []:=λ h=>absurd h (by simp)
def Own(w:Ap)(base:Nat)(v:Ar)(ss:List Bs):Prop:=w.ownsRow base 9 1 v ss.length (ss.map encStr)
theorem Own.nil(w:Ap)(base:Nat):Own w base (Aa none 0 0) []:=DX w _ _ _
theorem Own.form{a:List Bs}(h:Own w base v a):∃ao cap,v=Aa ao a.length cap/\a.length<=cap/\cap<=9223372036854775807/\Rd w ao a:=by
 obtain⟨ao,cap,rfl,c,d,e⟩:=Nn h;refine⟨ao,cap,rfl,c,d,?_⟩;intro b;obtain⟨g,rfl⟩:=e b;refine⟨g,0,rfl,(h.lt g rfl).2,?_⟩;intro i hi;have:=h.cells rfl i (encStr (el a i)) (by rw[Bo,Aq hi,F5 hi];rfl);rw[Dc,<- JZ];exact this
theorem Own.below{a:List Bs}(h:Own w base v a)(b:An w.heap.size w w'):Own w' base v a :=
 LM (S:=λ _=>False) h (Aw.ofBelow b) (λ _ _ q=>q)
theorem Tryz.info9:(Am.info? 9).map (λ i=>(i.zero,i.size,i.bytes))=some (some (Ae ⟨#[]⟩),1,16):=by kernel_rfl
theorem Own.turn{c:List Bs}(h:Own w base v c)(a:base<=w.heap.size)(b:Aw (λ k=>v.ownBlock=some k) w w'):An base w w' :=
 b.below a (λ k d q=>by have:=(h.lt k q).1;omega)
theorem Vw(w:Ap)(y:Ar)(t:AP):∀j u,[y][j]? = some u->(w.alloc (Ai #[y] t)).cell? ((⟨w.heap.size,0,none⟩:Addr).add j)=some u:=by
 intro j u h
 match j,h with
 | 0,h =>
  rw[JZ,EM];simpa using h
 | j+1,h=>simp at h
theorem Hl{o:Oper}(f:o.guard=none)(s x:CG)
  (i:o.op=.call { callee:=.builtin .append,args:=#[s,x],argTypes:=#[67,67] }) (base:Nat) (v:Ar) (c:List Bs) (y:Bs) (ty:AP) (r:a.eval s=v) (b:Own w base v c)
  (u:a.eval x=Aa (some ⟨w.heap.size,0,none⟩) 1 1) (n:c.length<=4000000) (z:base<=w.heap.size)
  (h:∀v' w',Own w' base v' (c++[y])->An base w w'->CQ Am ops Q rest (a.put o.dst v') w') :
  CQ Am ops Q (o::rest) a (w.alloc (Ai #[Ae ⟨y.toArray⟩] ty)):=by
 obtain⟨i0,g,j,l,m⟩:=Ch Tryz.info9
 refine LA f s x 67 i base 9 i0 _ 1 16 underlying67 g j l m rfl (by decide) v c.length (c.map encStr) r (b.below ((Ao _ w).alloc (AA _) _)) ⟨w.heap.size,0,none⟩ 1 1 [encStr y] u rfl (Vw w _ ty)
  (by simp[Value.oneCell']) (by simp only[AH];omega) (by omega) (by simp;omega) ?_
 intro v' w' p q _;refine h v' w' ?_ ?_
 unfold Own;rw[Ax,BV];exact p
 have d:An base w (w.alloc (Ai #[Ae ⟨y.toArray⟩] ty)):=(Ao _ w).alloc (by omega) _;have t:Aw (λ k=>v.ownBlock=some k) (w.alloc (Ai #[Ae ⟨y.toArray⟩] ty)) w':=(Aw.refl _ _).grown q (λ k _ e=>e);exact d.trans (Own.turn (b.below ((Ao _ w).alloc (AA _) _)) (by simp;omega) t)
theorem ME(t ty e:AP)(i:FA)(h:Am.underlying t=some (.slice e))(hi:Am.info? e=some i)(base:Option Addr)(d b:Nat)(g:d<=b)(ao:Option Addr)(c:Nat)(w:Ap):
  (ER #[t,t] ty #[Aa base d b,Aa ao 0 c]).run Am w=.ok (Aa base d b) w:=by
 have f:(Builtin.firstCells i.size 0 (Aa ao 0 c)).run Am w=.ok #[] w:=by
  cases ao with
  | none=>exact run_firstCells_none (P:=Am) w i.size 0 0 c
  | some a=>exact run_firstCells_some (P:=Am) w i.size 0 a 0 c [] (by simp) (by simp)
 cases base <;> simp[ER,run_underlying h,E6,Eu,hi,Builtin.lenOf,g,f,storeCells]
theorem Za{o:Oper}(l:o.guard=none)(s x:CG)
  (p:o.op=.call { callee:=.builtin .append,args:=#[s,x],argTypes:=#[67,67] }) (base:Nat) (v:Ar) (g xs:List Bs) (ao:Option Addr) (n c:Nat) (H:a.eval s=v) (d:Own w base v g)
  (I:a.eval x=Aa ao n c) (R:Rd w ao xs) (A:xs.length=n) (G:g.length+n<=8796093022208) (F:base<=w.heap.size)
  (h:∀v' w',Own w' base v' (g++xs)->An base w w'->CQ Am ops Q rest (a.put o.dst v') w') :
  CQ Am ops Q (o::rest) a w:=by
 obtain⟨i0,m,C,D,E⟩:=Ch Tryz.info9;by_cases J:0<xs.length
 ·obtain⟨b,off,rfl,P,O⟩:=R J
  have i:∀j,(⟨b,off,none⟩:Addr).add j=⟨b,off+j,none⟩:=by
   intro j;unfold Addr.add
   split <;> simp_all
  refine LA l s x 67 p base 9 i0 _ 1 16 underlying67 m C D E rfl (by decide) v g.length (g.map encStr) H d ⟨b,off,none⟩ n c (xs.map encStr) I (by simp[A]) (by
   intro j u f;rw[Bo]at f
   have z:j<xs.length:=by
    rcases Ct j xs.length with q|q
    exact q;rw[AM q]at f;simp at f
   rw[Aq z]at f;rw[i,O j z,F5 z,<- f]
   rfl) (by intro u f;obtain⟨y,_,rfl⟩:=List.mem_map.1 f;rfl) (by simp only[AH];omega) (by omega) F ?_
  intro v' w' L M _;refine h v' w' ?_ ?_
  unfold Own;rw[Ax,BV,A];exact L;exact Own.turn d F ((Aw.refl _ _).grown M (λ k _ e=>e))
 obtain rfl:xs=[]:=AQ (by omega);obtain rfl:n=0:=A.symm;obtain⟨t,cap,rfl,B,_,_⟩:=d.form
 refine EP l λ K N=>?_
 have r:=ME 67 o.type 9 i0 underlying67 m t g.length cap B ao c w;unfold Cs;simp[CP,p,DA,DS,Fq,H,I,r,Cz];exact N _ _ (h _ w (by rw[Bz];exact d) (Ao _ _))
structure ju(α:Type) where
 cells:α->List Ar
 size:Nat
 len:∀x,(cells x).length=size
 pos:0<size
 one:∀x,∀u∈cells x,u.oneCell'=true
variable {α:Type}{E:ju α}
def ju.all(E:ju α)(xs:List α):List Ar:=xs.flatMap E.cells
theorem ju.all_length(E:ju α):∀xs:List α,(E.all xs).length=xs.length*E.size
 | []=>by simp[ju.all]
 | x::t=>by
  have:=ju.all_length E t;simp only[ju.all,Ca,Ax,E.len,A2]at this ⊢;rw[this,E7,Ev,Nat.add_comm]
theorem ju.all_append(E:ju α)(xs ys:List α):E.all (xs++ys)=E.all xs++E.all ys:=by simp[ju.all]
theorem ju.all_one(E:ju α)(xs:List α):∀u∈E.all xs,u.oneCell'=true:=by
 intro u h;simp only[ju.all,List.mem_flatMap]at h;obtain⟨x,_,a⟩:=h;exact E.one x u a
theorem ju.all_get(E:ju α):∀(xs:List α) (i j:Nat) (x:α),xs[i]? = some x->j<E.size->(E.all xs)[i*E.size+j]? = (E.cells x)[j]?
 | [],i,j,x,h,_=>by simp at h
 | y::t,0,j,x,h,hj=>by
  have e:y=x:=by simpa using h
  subst e;simp only[ju.all,Ca,Fg,Dc];rw[List.getElem?_append_left (by rw[E.len];exact hj)]
 | y::t,i+1,j,x,h,hj=>by
  have:=ju.all_get E t i j x (by simpa using h) hj;simp only[ju.all,Ca]at this ⊢;rw[List.getElem?_append_right (by rw[E.len,E7,Ev];omega),E.len,<- this]
  congr 1
  rw[E7,Ev];omega
theorem ju.all_split(E:ju α)(xs:List α)(k:Nat)(u:Ar)(h:(E.all xs)[k]? = some u):∃i j x,k=i*E.size+j/\j<E.size/\xs[i]? = some x/\(E.cells x)[j]? = some u:=by
 have c:k<xs.length*E.size:=by
  rcases Ct k (E.all xs).length with q|q
  rw[E.all_length]at q;exact q;rw[AM q]at h;cases h
 have hi:k / E.size<xs.length:=Nat.div_lt_of_lt_mul (by rw[DY];exact c);have a:k % E.size<E.size:=Nat.mod_lt _ E.pos;have b:=Aq hi
 have e:k=k / E.size*E.size+k % E.size:=by rw[DY];exact(Nat.div_add_mod k E.size).symm
 refine⟨k / E.size,k % E.size,xs[k / E.size],e,a,b,?_⟩;rw[<- E.all_get xs _ _ _ b a,<- e];exact h
theorem ju.all_set(E:ju α):∀(xs:List α) (i j:Nat) (x y:α) (u:Ar),xs[i]? = some x->j<E.size->E.cells y=(E.cells x).set j u->(E.all xs).set (i*E.size+j) u=E.all (xs.set i y)
 | [],i,j,x,y,u,h,_,_=>by simp at h
 | z::t,0,j,x,y,u,h,hj,hy=>by
  have e:z=x:=by simpa using h
  subst e;simp only[ju.all,Ca,Fg,Dc,List.set_cons_zero];rw[List.set_append_left _ _ (by rw[E.len];exact hj),hy]
 | z::t,i+1,j,x,y,u,h,hj,hy=>by
  have:=ju.all_set E t i j x y u (by simpa using h) hj hy;simp only[ju.all,Ca,List.set_cons_succ]at this ⊢;rw[List.set_append_right _ _ (by rw[E.len,E7,Ev];omega),E.len,<- this]
  congr 2
  rw[E7,Ev];omega
def gQ(E:ju α)(w:Ap)(ao:Option Addr)(xs:List α):Prop:=0<xs.length->∃b off,ao=some ⟨b,off,none⟩/\b<w.heap.size /\
 ∀i x,xs[i]? = some x->∀j u,(E.cells x)[j]? = some u->w.cell? ⟨b,off+(i*E.size+j),none⟩=some u
theorem gQ.below{xs:List α}(h:gQ E w ao xs)(c:An w.heap.size w w'):gQ E w' ao xs:=by
 intro d;obtain⟨b,off,rfl,a,e⟩:=h d;exact⟨b,off,rfl,AK a c.size,λ i x g j u f=>(c.cell a).trans (e i x g j u f)⟩
theorem gQ.nil(E:ju α)(w:Ap)(ao:Option Addr):gQ E w ao []:=λ h=>absurd h (by simp)
theorem gQ.take{xs:List α}(h:gQ E w ao xs)(n:Nat):gQ E w ao (xs.take n):=by
 intro d;obtain⟨b,off,rfl,c,e⟩:=h (by simp at d;omega);refine⟨b,off,rfl,c,λ i x a=>e i x ?_⟩;rw[List.getElem?_take]at a
 split at a
 exact a
 cases a
theorem gQ.drop{b off:Nat}{xs:List α}(h:gQ E w (some ⟨b,off,none⟩) xs)(n:Nat):gQ E w (some ⟨b,off+n*E.size,none⟩) (xs.drop n):=by
 intro g;obtain⟨f,a,e,c,k⟩:=h (by simp at g;omega)
 obtain⟨rfl,rfl⟩:b=f/\off=a:=by simpa using e
 refine⟨b,off+n*E.size,rfl,c,λ i x d j u l=>?_⟩;rw[List.getElem?_drop]at d;have:=k (n+i) x d j u l;rw[E7]at this;rw[<- this]
 congr 2
 omega
def gM(E:ju α)(e:AP)(w:Ap)(base:Nat)(v:Ar)(xs:List α):Prop:=w.ownsRow base e E.size v xs.length (E.all xs)
theorem gM.nil(E:ju α)(e:AP)(w:Ap)(base:Nat):gM E e w base (Aa none 0 0) []:=DX w _ _ _
theorem gM.form{xs:List α}(h:gM E e w base v xs):
  ∃ao cap,v=Aa ao xs.length cap/\xs.length<=cap/\cap<=9223372036854775807/\gQ E w ao xs/\(0<xs.length->∃g,ao=some ⟨g,0,none⟩):=by
 obtain⟨ao,cap,rfl,d,f,b⟩:=Nn h;refine⟨ao,cap,rfl,d,f,?_,b⟩;intro c;obtain⟨g,rfl⟩:=b c;refine⟨g,0,rfl,(h.lt g rfl).2,?_⟩;intro i x l j u a
 have k:j<E.size:=by
  rw[<- E.len x]
  rcases Ct j (E.cells x).length with q|q
  exact q;rw[AM q]at a;cases a
 have:=h.cells rfl (i*E.size+j) u (by rw[E.all_get xs i j x l k];exact a);rw[Dc,<- JZ];exact this
theorem gM.below{xs:List α}(h:gM E e w base v xs)(a:An w.heap.size w w'):gM E e w' base v xs :=
 LM (S:=λ _=>False) h (Aw.ofBelow a) (λ _ _ q=>q)
theorem gM.low{B':Nat}{xs:List α}(h:gM E e w B v xs)(a:B'<=B):gM E e w B' v xs:=Jb h a
theorem gM.turn{xs:List α}(h:gM E e w base v xs)(a:base<=w.heap.size)(b:Aw (λ k=>v.ownBlock=some k) w w'):An base w w' :=
 b.below a (λ k c q=>by have:=(h.lt k q).1;omega)
theorem gM.put{xs:List α}(h:gM E e w base (Aa (some ⟨g,0,none⟩) n cap) xs){x:α}(c:xs[i]? = some x)(a:j<E.size)(y:α)(u:Ar)(d:E.cells y=(E.cells x).set j u):
  gM E e (w.setCell ⟨g,i*E.size+j,none⟩ u) base (Aa (some ⟨g,0,none⟩) n cap) (xs.set i y):=by
 have b:=DC h;subst b;unfold gM;rw[DB,<- E.all_set xs i j x y u c a d];exact(h.stored (i*E.size+j) u).1
theorem F8(b off j:Nat):(⟨b,off,none⟩:Addr).add j=⟨b,off+j,none⟩:=by
 unfold Addr.add
 split <;> simp_all
theorem GQ(E:ju α)(w:Ap)(y:α)(t:AP):∀j u,(E.cells y)[j]? = some u->(w.alloc (Ai (E.cells y).toArray t)).cell? ((⟨w.heap.size,0,none⟩:Addr).add j)=some u:=by
 intro j u h;rw[JZ,EM];simpa using h
theorem BA{o:Oper}(E:ju α)(e t:AP)(b:Nat)(z:Ar)(O:z.cells.size=E.size)
  (f:(Am.info? e).map (λ i=>(i.zero,i.size,i.bytes))=some (some z,E.size,b)) (M:Am.underlying t=some (.slice e)) (n:o.guard=none) (s x:CG)
  (r:o.op=.call { callee:=.builtin .append,args:=#[s,x],argTypes:=#[t,t] }) (base:Nat) (v:Ar) (j:List α) (y:α) (ty:AP) (L:a.eval s=v) (d:gM E e w base v j)
  (N:a.eval x=Aa (some ⟨w.heap.size,0,none⟩) 1 1) (l:(j.length+1)*b<=140737488355328) (m:j.length+1<=AH) (I:base<=w.heap.size) (c:Array Ar) (J:c=(E.cells y).toArray)
  (h:∀v' w',gM E e w' base v' (j++[y])->An base w w'->Dw w v v'->Aw (λ k=>v.ownBlock=some k) w w'->CQ Am ops Q rest (a.put o.dst v') w') :
  CQ Am ops Q (o::rest) a (w.alloc (Ai c ty)):=by
 subst J;obtain⟨i0,p,u,A,B⟩:=Ch f
 refine LA n s x t r base e i0 _ E.size b M p u A B O E.pos v j.length (E.all j) L (d.below ((Ao _ w).alloc (AA _) _)) ⟨w.heap.size,0,none⟩ 1 1 (E.cells y) N (by rw[E.len,Ev]) (GQ E w y ty)
  (E.one y) m l (by simp;omega) ?_
 intro v' w' F G H;have C:Aw (λ k=>v.ownBlock=some k) w (w.alloc (Ai (E.cells y).toArray ty)):=(Aw.refl _ _).alloc _;have D:Aw (λ k=>v.ownBlock=some k) (w.alloc (Ai (E.cells y).toArray ty)) w':=(Aw.refl _ _).grown G (λ k _ e=>e);refine h v' w' ?_ ?_ ?_ (C.trans D (λ _ _ q=>q))
 unfold gM;rw[Ax,E.all_append];simpa[ju.all]using F
 exact gM.turn d I (C.trans D (λ _ _ q=>q))
 refine H.imp id (λ q g K=>?_);have:=q g K;simp at this;omega
theorem IN{o:Oper}(E:ju α)(e t:AP)(d:Nat)(z:Ar)(hz:z.cells.size=E.size)
  (g:(Am.info? e).map (λ i=>(i.zero,i.size,i.bytes))=some (some z,E.size,d)) (C:Am.underlying t=some (.slice e)) (m:o.guard=none) (s x:CG)
  (A:o.op=.call { callee:=.builtin .append,args:=#[s,x],argTypes:=#[t,t] }) (base:Nat) (v:Ar) (l xs:List α) (ao:Option Addr) (n c:Nat) (M:a.eval s=v) (f:gM E e w base v l)
  (O:a.eval x=Aa ao n c) (Y:gQ E w ao xs) (F:xs.length=n) (q:(l.length+n)*d<=140737488355328) (r:l.length+n<=AH) (L:base<=w.heap.size)
  (h:∀v' w',gM E e w' base v' (l++xs)->An base w w'->Dw w v v'->Aw (λ k=>v.ownBlock=some k) w w'->CQ Am ops Q rest (a.put o.dst v') w') :
  CQ Am ops Q (o::rest) a w:=by
 obtain⟨i0,p,H,I,J⟩:=Ch g;by_cases P:0<xs.length
 obtain⟨b,off,rfl,X,V⟩:=Y P
 refine LA m s x t A base e i0 _ E.size d C p H I J hz E.pos v l.length (E.all l) M f ⟨b,off,none⟩ n c (E.all xs) O (by rw[E.all_length,F]) (by
  intro k u W;obtain⟨i,j,y,rfl,hj,Z,C⟩:=E.all_split xs k u W;rw[F8]
  exact V i y Z j u C) (E.all_one xs) r q L ?_
 intro v' w' R S T;have N:Aw (λ k=>v.ownBlock=some k) w w':=(Aw.refl _ _).grown S (λ k _ e=>e);refine h v' w' ?_ (gM.turn f L N) T N;unfold gM;rw[Ax,E.all_append,F];exact R
 obtain rfl:xs=[]:=AQ (by omega);obtain rfl:n=0:=F.symm;obtain⟨D,cap,rfl,G,_,_⟩:=f.form
 refine EP m λ K U=>?_
 have B:=ME t o.type e i0 C p D l.length cap G ao c w;unfold Cs;simp[CP,A,DA,DS,Fq,M,O,B,Cz];exact U _ _ (h _ w (by rw[Bz];exact f) (Ao _ _) (.inl rfl) (Aw.refl _ _))
def encI:ju Int:=⟨λ z=>[Ab Ak z],1,λ _=>rfl,by decide,by intro x u h;simp at h;subst h;rfl⟩
theorem gQ.ints {w:World} {b off:Nat} {xs:List Int} (h:gQ encI w (some ⟨b,off,none⟩) xs) {i:Nat} {x:Int} (hx:xs[i]? = some x):w.cell? ⟨b,off+i,none⟩=some (.int .i64 x):=by
 obtain ⟨b', off', e, hlt, hc⟩ := h (by rcases Nat.lt_or_ge i xs.length with q | q
                                        omega
                                        rw [List.getElem?_eq_none q] at hx; cases hx)
 obtain ⟨rfl,rfl⟩:b=b'/\off=off':=by simpa using e
 have:=hc i x hx 0 _ rfl;simpa [encI] using this
theorem gQ.some_of {w:World} {ao:Option Addr} {xs:List α} (h:gQ E w ao xs) {i:Nat} {x:α} (hx:xs[i]? = some x):∃ b off,ao=some ⟨b,off,none⟩/\b<w.heap.size:=by
 obtain ⟨b, off, e, hlt, _⟩ := h (by rcases Nat.lt_or_ge i xs.length with q | q
                                     omega
                                     rw [List.getElem?_eq_none q] at hx; cases hx)
 exact ⟨b,off,e,hlt⟩

theorem Y5{size:Nat}{xs:List Ar}(h:w.ownsRow base e size (Aa ao n cap) m xs){a:Addr}(b:ao=some a):(Aa (some a) n cap).ownBlock=some a.block:=by
 rcases h.2 with⟨e,_⟩ | ⟨g,c,d,e,_⟩
 cases e;cases b
 cases e;cases b;rfl
theorem Aw.cell(h:Aw S w w')(hp:p.block<w.heap.size)(a:¬S p.block):w'.cell? p=w.cell? p :=
 World.cell?_of_block (w:=w) (h.block _ hp a)
theorem Ix{α:Type}{ops:Array Oper}{o:Oper}{a:Act}{w:Ap}{K:Act->Ap->Prop}{Q:Exit->Act->Ap->Prop}{X:Prop}(E:ju α)(e t:AP)(c:Nat)(z:Ar)(N:z.cells.size=E.size)
  (f:(Am.info? e).map (λ i=>(i.zero,i.size,i.bytes))=some (some z,E.size,c)) (L:Am.underlying t=some (.slice e)) (n:o.guard=none) (s x:CG)
  (q:o.op=.call { callee:=.builtin .append,args:=#[s,x],argTypes:=#[t,t] }) (base:Nat) (v:Ar) (g:List α) (y:α) (J:a.eval s=v) (d:gM E e w base v g)
  (b:Nat) (M:a.eval x=Aa (some ⟨b,0,none⟩) 1 1) (I:∀j u,(E.cells y)[j]? = some u->w.cell? ((⟨b,0,none⟩:Addr).add j)=some u) (l:(g.length+1)*c<=140737488355328) (m:g.length+1<=AH) (C:base<=w.heap.size)
  (h:∀v' w',gM E e w' base v' (g++[y])->An base w w'->Dw w v v'->Aw (λ k=>v.ownBlock=some k) w w'->K (a.put o.dst v') w') :
  if Bd o (Co ops a.tmps)=true then Cs Am o a w K Q else X:=by
 obtain⟨i0,p,r,A,B⟩:=Ch f;refine O8 n s x t q base e i0 _ E.size c L p r A B N E.pos v g.length (E.all g) J d ⟨b,0,none⟩ 1 1 (E.cells y) M (by rw[E.len,Ev]) I (E.one y) m l C ?_;intro v' w' F G H;have D:Aw (λ k=>v.ownBlock=some k) w w':=(Aw.refl _ _).grown G (λ k _ e=>e);refine h v' w' ?_ (gM.turn d C D) H D;unfold gM;rw[Ax,E.all_append];simpa[ju.all]using F
theorem gW(u:Ap)(o:Obj):An u.heap.size u (u.alloc o):=(Ao _ u).alloc (AA _) o
theorem lE(u:Ap)(o a:Obj):An u.heap.size u ((u.alloc o).alloc a):=(gW u o).trans ((gW (u.alloc o) a).mono (gW u o).size)
theorem Vg{a:List Bs}(h:Own w base (Aa (some ⟨g,0,none⟩) n cap) a)(hi:i<a.length):
  w.cell? ⟨g,i,none⟩=some (Ae ⟨(el a i).toArray⟩)/\w.frozen? ⟨g,i,none⟩=false:=by
 have c:=DC h;subst c;have b:=h;refine⟨?_,b.frozenAt _⟩;rw[b.cellAt _ (by omega),Bo,Aq hi,F5 hi]
 rfl
theorem Vc{a:List Bs}(h:Own w base (Aa (some ⟨g,0,none⟩) n cap) a)(i:Nat)(y:Bs):
  Own (w.setCell ⟨g,i,none⟩ (Ae ⟨y.toArray⟩)) base (Aa (some ⟨g,0,none⟩) n cap) (a.set i y):=by
 have c:=DC h;subst c;have b:=h;unfold Own;rw[DB,List.map_set];exact(b.stored i _).1
structure SW(S:Ap->Prop) where
 w:Ap
 ok:S w
theorem Bb{S:Ap->Prop}{id:Nat}{l:List Oper}(e:P.follows .mixedOrders=true)(d:Region.lexB .any l.toArray=true)(c:S w.drew)
  (h:wpQuiet P l.toArray (λ w'=>∃u:SW S,w'=u.w) (λ b=>∀w',(∃u:SW S,w'=u.w)->Q .normal b w') l a):(Code.region id l.toArray true).wp P Q a w :=
 wp_region_quiet (C:=λ w'=>∃u:SW S,w'=u.w) e d ⟨⟨w.drew,c⟩,rfl⟩ (by simpa using h)
def gP:ju UInt8:=⟨λ b=>[Ab .u8 (b.toNat:Int)],1,λ _=>rfl,by decide,by intro x u h;simp at h;subst h;rfl⟩
def iE(w:Ap)(v:Ar)(bs:Bs):Prop:=∃ao c,v=Aa ao bs.length c/\bs.length<=c/\c<=9223372036854775807/\gQ gP w ao bs
abbrev iW(w:Ap)(v:Ar)(bs:Bs):Prop:=gM gP 5 w 0 v bs
theorem iW.at(h:iW w v bs):iE w v bs:=by
 obtain⟨ao,c,e,a,b,d,_⟩:=gM.form h;exact⟨ao,c,e,a,b,d⟩
theorem iE.below(h:iE w v bs)(f:An w.heap.size w w'):iE w' v bs:=by
 obtain⟨ao,c,e,a,b,d⟩:=h;exact⟨ao,c,e,a,b,d.below f⟩
theorem DU(h:An w.drew.heap.size w.drew w'):An w.heap.size w w':=⟨h.os,h.tape,h.output,h.size,h.block⟩
theorem Tryz.info5:(Am.info? 5).map (λ i=>(i.zero,i.size,i.bytes))=some (some (Ab .u8 0),1,1):=by kernel_rfl
theorem ZG(w:Ap):gM gP 5 (w.alloc (Ai #[] 5)) w.heap.size (Aa (some ⟨w.heap.size,0,none⟩) 0 0) [] :=
 Fp w #[] 0 (AA _) (Bw _) rfl
theorem nG{o:Oper}(e:o.guard=none)(s x:CG)
  (f:o.op=.call { callee:=.builtin .append,args:=#[s,x],argTypes:=#[24,24] }) (base:Nat) (v u:Ar) (d xs:Bs) (m:a.eval s=v) (b:gM gP 5 w base v d)
  (n:a.eval x=u) (l:iE w u xs) (g:d.length+xs.length<=140737488355328) (j:base<=w.heap.size)
  (h:∀v' w',gM gP 5 w' base v' (d++xs)->An base w w'->Dw w v v'->Aw (λ k=>v.ownBlock=some k) w w'->CQ Am ops Q rest (a.put o.dst v') w') :
  CQ Am ops Q (o::rest) a w:=by
 obtain⟨ao,c,rfl,p,q,i⟩:=l;exact IN gP 5 24 1 (Ab .u8 0) rfl Tryz.info5 underlying24 e s x f base v d xs ao _ c m b n i rfl (by omega) (by simp only[AH];omega) j h
theorem gI(w:Ap):
  At Am 145 #[Aa none n c] w λ e w'=>e=Aj (Aa none 0 0)/\w'=w:=by
 have q:∀(w:Ap) (a:Option Addr) (n c b c':Nat),(binOp .eql 24 (Aa a n c) (Aa none b c')).run Am w=.ok (.bool a.isNone) w:=λ w a n c b c'=>D6 w _ _ a n c b c' underlying24
 go_enter func145,ntmps145;go_wp2;go_ret;exact⟨rfl,rfl⟩
theorem Vz{xs:Bs}(w:Ap)(g:iE w (Aa (some p) n c) xs)(i:xs.length<=140737488355328):
  At Am 145 #[Aa (some p) n c] w λ e w'=>∃v',e=Aj v'/\gM gP 5 w' w.heap.size v' xs/\An w.heap.size w w':=by
 have H:=Ih g;clear g
 have q:∀(w:Ap) (a:Option Addr) (n c f c':Nat),(binOp .eql 24 (Aa a n c) (Aa none f c')).run Am w=.ok (.bool a.isNone) w:=λ w a n c f c'=>D6 w _ _ a n c f c' underlying24
 go_enter func145,ntmps145;go_wp2_with(at_builtin;(refine nG rfl (.tmp 5) (.tmp 6) rfl w.heap.size _ _ [] xs rfl (ZG w) rfl (H.o.below (gW w _)) (by simp;omega) (by simp) ?_;intro h j b d _ _));go_wp2;go_ret;rw[List.nil_append]at b;exact⟨h,rfl,b,(gW w _).trans d⟩
theorem Xg{xs:Bs}(w:Ap)(h:iE w v xs)(g:xs.length<=140737488355328):
  At Am 145 #[v] w λ e w'=>∃v',e=Aj v'/\gM gP 5 w' w.heap.size v' xs/\An w.heap.size w w':=by
 have a:=h;obtain⟨ao,c,rfl,i,j,f⟩:=h
 cases ao with
 | none =>
  have d:xs=[]:=by
   rcases Cc xs.length with q|q
   exact AQ q;obtain⟨b,off,e,_⟩:=f q;cases e
  subst d;refine(gI w).mono ?_;rintro e w' ⟨rfl,rfl⟩;exact⟨_,rfl,gM.nil _ _ _ _,Ao _ _⟩
 | some p=>exact Vz w a g
theorem UK(w:Ap):At Am 161 #[Aa none 0 0,Ab Ak 0] w λ e w'=>e=Aj (Aa none 0 0)/\w'=w:=by
 go_enter func161,ntmps161;go_wp2;go_ret;exact⟨rfl,rfl⟩
theorem UU(w:Ap)(n:Nat)(l:0<n)(s:n<=140737488355328):
  At Am 161 #[Aa none 0 0,Ab Ak (n:Int)] w λ e w'=>∃v',e=Aj v'/\gM gP 5 w' w.heap.size v' []/\An w.heap.size w w':=by
 obtain⟨i0,g,i,j,k⟩:=Ch Tryz.info5;have h:=Lib.run_append_nil_zeros (P:=Am) w 24 3 24 5 i0 (Ab .u8 0) Ak Ak underlying24 underlying3 g i n l (by rw[j];decide) (by omega) (by rw[k];omega)
 obtain⟨C,d⟩:=Xa (FE w n 0 5)
 obtain⟨Y,f⟩:=Xa (GE (Ab .u8 0).cells n++GE (Ab .u8 0).cells (FE w n 0 5 - n))
 have b:=grownCap_ge w n 0 5;have a:=Gz w n 0 5 (by simp only[AH];omega)
 have c:Y.size=C*1:=by
  rw[<- f,<- d];simp only[Array.size_append,size_zeroCells];simp[Value.cells];omega
 rw[f,d]at h;rw[d]at b a
 have K:=I3 c b a
 have m:C<=9223372036854775807:=by simpa[AH]using a
 have p:Hid _:=h;clear h d f c a
 have r:decide ((0:Int)<(n:Int))=true:=by simpa using l
 have t:decide ((n:Int)<0)=false:=by simp
 go_enter func161,ntmps161;go_wp2_with(at_builtin;refine Lib.wpList_append_run _ rfl (.tmp 20) (.tmp 21) 24 3 rfl _ _ rfl rfl _ _ p.o ?_);go_wp2;go_ret;refine⟨_,rfl,⟨rfl,.inr ⟨w.heap.size,C,Y,rfl,AA _,heap_alloc_new w _,Bw _,K.o.2.2,K.o.1,?_⟩⟩,((Aw.refl (λ _=>False) w).alloc _).drew.below (AA _) (λ _ _ q=>q)⟩;simp[ju.all]
theorem Xn(w:Ap)(n:Nat)(a:n<=140737488355328):
  At Am 161 #[Aa none 0 0,Ab Ak (n:Int)] w λ e w'=>∃v',e=Aj v'/\gM gP 5 w' w.heap.size v' []/\An w.heap.size w w':=by
 rcases Cc n with rfl|h
 refine(UK w).mono ?_;rintro e w' ⟨rfl,rfl⟩;exact⟨_,rfl,gM.nil _ _ _ _,Ao _ _⟩
 exact UU w n h a
def D4(w:Ap)(v:Ar)(xss:List Bs):Prop:=∃ao c,v=Aa ao xss.length c/\(0<xss.length->∃b off,ao=some ⟨b,off,none⟩/\b<w.heap.size) /\
 ∀j x b off,xss[j]? = some x->ao=some ⟨b,off,none⟩->∃u,w.cell? ⟨b,off+j,none⟩=some u/\iE w u x
theorem D4.below {w w':World} {v:Value} {xss:List Bs} (h:D4 w v xss) (hb:Below w.heap.size w w'):D4 w' v xss:=by
 obtain ⟨ao,c,e,h1,h2⟩:=h;refine ⟨ao,c,e,λ h0=>?_,λ j x b off hj ha=>?_⟩
 obtain ⟨b,off,e,hlt⟩:=h1 h0;exact ⟨b,off,e,Nat.lt_of_lt_of_le hlt hb.size⟩
 obtain ⟨u,hu,hx⟩:=h2 j x b off hj ha
 have hlt:b<w.heap.size:=by
  obtain ⟨b', off', e', hlt⟩ := h1 (by rcases Nat.lt_or_ge j xss.length with q | q
                                       omega
                                       rw [List.getElem?_eq_none q] at hj; cases hj)
  rw [ha] at e';cases e';exact hlt
 exact ⟨u,(hb.cell hlt).trans hu,hx.below hb⟩
theorem IW(h:xss[i]? = some x):(xss.take (i+1)).flatten=(xss.take i).flatten++x:=by
 rw[AW,h];simp
theorem LU(xss:List Bs)(i:Nat):(xss.take i).flatten.length<=xss.flatten.length:=by
 have:xss.flatten=(xss.take i).flatten++(xss.drop i).flatten:=by rw[<- List.flatten_append,List.take_append_drop]
 rw[this];simp
theorem BK{α:Type}{xs:List α}{i n:Nat}(a:xs.length=n)(hi:i<n):∃x,xs[i]? = some x:=⟨xs[i]'(by omega),Aq (by omega)⟩
theorem Le(w:Ap)(h:D4 w v xss)(W:xss.length<=1000000)(Y:xss.flatten.length<=262144):
  At Am 97 #[v] w λ e w'=>∃v',e=Aj v'/\gM gP 5 w' w.heap.size v' xss.flatten/\An w.heap.size w w':=by
 have O:=h;obtain⟨ao,c,rfl,E,P⟩:=h
 obtain⟨n,y⟩:=Xa xss.length
 obtain⟨N,D⟩:=Xa xss.flatten.length
 rw[y]at W E ⊢
 have H:=I3 (by rw[<- y];exact O:D4 w (Aa ao n c) xss) y D
 rw[D]at Y;have A:=Ih E;have B:=Ih P;clear O E P y D;go_enter func97,ntmps97;go_wp2;go_loopg[3,11] n (λ k sv I wr=>wr=w/\∃i:Nat,I=Ab Ak i/\i+k=n/\sv=Ab Ak ((xss.take i).flatten.length:Int))
 case atStart=>exact⟨rfl,0,rfl,by omega,rfl⟩
 case round =>
  obtain⟨S,i,rfl,hi,rfl⟩:=hrel;have G:=S.symm;subst G;clear S;by_cases l:i<n
  ·have id:(i:Int)<(n:Int):=by omega
   obtain⟨x,a⟩:=BK H.o.2.1 l;obtain⟨b1,C,rfl,t⟩:=A.o (by omega);obtain⟨u,z,a2,c2,rfl,_,_,_⟩:=B.o i x b1 C a rfl;have X:=Ih a;have r:=IW a;have f:=LU xss (i+1);rw[r,Ax,H.o.2.2]at f;obtain⟨s,F⟩:=Xa ((xss.take i).flatten.length);have SS:Hid (_=_):=F;rw[F]at f ⊢;obtain⟨T,q⟩:=Xa x.length;rw[q]at f z;have V:=Ih q;clear a r F q
   have nn:decide ((s:Int)+(T:Int)<0)=false:=by simp;omega
   go_wp2;go_roundg (gk - 1)
   all_goals first
    | omega
    | exact⟨rfl,i+1,by go_num,by omega,by rw[IW X.o,Ax,SS.o,V.o];go_num⟩
  ·obtain rfl:i=n:=by omega
   have e0:(xss.take i).flatten.length=N:=by rw[Av (by rw[H.o.2.1];exact AA _)];exact H.o.2.2
   rw[e0];have R:=Xn w N (by omega);go_wp2_with fail;refine R.mono ?_;rintro e w1 ⟨v1,rfl,L,K⟩;have U:=I2 L K
   clear L K R;go_wp2_with fail;go_loopg[6,27] i (λ k lv I J=>∃j:Nat,I=Ab Ak j/\j+k=i/\Hid (gM gP 5 J w.heap.size lv (xss.take j).flatten/\An w.heap.size w J))
   case atStart=>exact⟨0,rfl,by omega,U.o⟩
   case round =>
    obtain⟨j,rfl,hj,d⟩:=hrel;by_cases l:j<i
    ·have id:(j:Int)<(i:Int):=by omega
     obtain⟨x,a⟩:=BK H.o.2.1 l;obtain⟨b1,C,rfl,t⟩:=A.o (by omega);obtain⟨u,z,Q⟩:=B.o j x b1 C a rfl;have Z:=(d.o.2.cell (p:=⟨b1,C+j,none⟩) t).trans z;have X:=Ih a;have r:=IW a;have f:=LU xss (j+1);rw[r,Ax,H.o.2.2]at f;have M:=I2 (Q.below d.o.2) f
     clear a r f z Q;go_wp2_with(at_builtin;(refine nG rfl (.tmp 31) (.tmp 32) rfl w.heap.size _ _ (xss.take j).flatten x rfl d.o.1 rfl M.o.1 (by have:=M.o.2;omega) d.o.2.size ?_;intro v2 J m g _ _));go_wp2;go_roundg (gk - 1)
     all_goals first
      | omega
      | exact⟨j+1,by go_num,by omega,by rw[IW X.o];exact m,d.o.2.trans g⟩
    obtain rfl:j=i:=by omega
    have e0:(xss.take j).flatten=xss.flatten:=by rw[Av (by rw[H.o.2.1];exact AA _)]
    go_wp2;go_ret;exact⟨_,rfl,by rw[<- e0];exact d.o.1,d.o.2⟩
abbrev tx(n:Bs):Ar:=Ae ⟨n.toArray⟩
theorem Ga(h:iE w v bs):(convert 24 9 v).run Am w=.ok (tx bs) w:=by
 obtain⟨ao,c,rfl,k,l,d⟩:=h;by_cases a:0<bs.length
 obtain⟨b,off,rfl,i,f⟩:=d a;refine run_convert_bytes_back (P:=Am) w 24 9 5 ⟨b,off,none⟩ c bs underlying24 underlying5 underlying9 (λ j g=>?_);have:=f j bs[j] (Aq g) 0 _ rfl;rw[F8]
 have e:off+(j*gP.size+0)=off+j:=by show off+(j*1+0)=off+j;omega
 rw[e]at this;exact this
 ·obtain rfl:bs=[]:=AQ (by omega);have e0:([]:Bs).length=0:=rfl;rw[e0,run_convert_bytes_string (P:=Am) w 24 9 5 ao 0 c underlying24 underlying5 underlying9]
  cases ao <;> simp[Conv.bytesToString,loadCells]
  all_goals rfl
theorem Mg(w:Ap)(bs:Bs)(t:AP)(fr:Nat×Nat)(c:Array Ar)(d:c=(bs.map (λ x=>Ab .u8 (x.toNat:Int))).toArray)(n:Nat)(g:n=bs.length)(h:bs.length<=1000000):iE (w.alloc (Ai c t fr)) (Aa (some ⟨w.heap.size,0,none⟩) n n) bs:=by
 subst d;subst g;refine⟨_,_,rfl,AA _,by omega,λ _=>⟨w.heap.size,0,rfl,by simp,λ i x a j u b=>?_⟩⟩
 have f:j=0:=by
  rcases Cc j with q|q
  exact q;rw[AM (by show([_]:List Ar).length<=j;simp;omega)]at b;cases b
 subst f
 have hi:i<bs.length:=by
  rcases Ct i bs.length with q|q
  exact q;rw[AM q]at a;cases a
 have e:0+(i*gP.size+0)=i:=by show 0+(i*1+0)=i;omega
 rw[e,F7];rw[Aq hi]at a;cases a;simp[hi];simpa[gP]using b
theorem IT(h:iE w u x)(t:AP):D4 (w.alloc (Ai #[u] t)) (Aa (some ⟨w.heap.size,0,none⟩) 1 1) [x]:=by
 refine⟨_,1,rfl,λ _=>⟨w.heap.size,0,rfl,by simp⟩,λ j y b off a c=>?_⟩;cases c
 have d:j=0:=by
  rcases Cc j with q|q
  exact q;rw[AM (by simp;omega)]at a;cases a
 subst d;cases a;exact⟨u,by simp,h.below (gW w _)⟩
theorem Sc{y:Bs}(h:iE w u x)(k:iE w v y)(t:AP):D4 (w.alloc (Ai #[u,v] t)) (Aa (some ⟨w.heap.size,0,none⟩) 2 2) [x,y]:=by
 refine⟨_,2,rfl,λ _=>⟨w.heap.size,0,rfl,by simp⟩,λ j z b off a c=>?_⟩;cases c
 match j,a with
 | 0,a =>
  cases a;exact⟨u,by simp,h.below (gW w _)⟩
 | 1,a =>
  cases a;exact⟨v,by simp,k.below (gW w _)⟩
 | j+2,a=>simp at a
theorem OL(a b:Bs):Ae ((⟨a.toArray⟩:ByteArray)++(⟨b.toArray⟩:ByteArray))=tx (a++b):=by
 show Ae _=Ae _
 congr 1
theorem JH{b:Nat}{c:Array Ar}{t:AP}(h:w.heap[b]? = some (Ai c t (0,0)))(i:Nat)(u:Ar):(w.setCell ⟨b,i,none⟩ u).heap[b]? = some (Ai (c.setIfInBounds i u) t (0,0)):=by
 simp[World.setCell,Array.getElem?_modify,h]
theorem BR{b:Nat}(i:Nat)(u:Ar):Aw (λ k=>k=b) w (w.setCell ⟨b,i,none⟩ u):=(Aw.refl (λ k=>k=b) w).setCell (p:=⟨b,i,none⟩) (.inl (show b=b from rfl)) u
structure Raw(w:Ap)(g:Nat)(bs:Bs):Prop where
 lt:g<w.heap.size
 cell:∀j x,bs[j]? = some x->w.cell? ⟨g,j,none⟩=some (Ab .u8 (x.toNat:Int))
 thaw:∀j,j<bs.length->w.frozen? ⟨g,j,none⟩=false
theorem Raw.at(h:Raw w g bs)(b:bs.length<=c)(d:c<=9223372036854775807):iE w (Aa (some ⟨g,0,none⟩) bs.length c) bs:=by
 refine⟨_,c,rfl,b,d,λ _=>⟨g,0,rfl,h.lt,λ i x k j u a=>?_⟩⟩
 have f:j=0:=by
  rcases Cc j with q|q
  exact q;rw[AM (by show([_]:List Ar).length<=j;simp;omega)]at a;cases a
 subst f
 have e:0+(i*gP.size+0)=i:=by show 0+(i*1+0)=i;omega
 rw[e,h.cell i x k];exact a
theorem Hm(w:Ap)(bs:Bs):∃W' c,(convert 9 24 (tx bs)).run Am w=.ok (Aa (some ⟨w.heap.size,0,none⟩) bs.length c) W'/\An w.heap.size w W'/\W'.heap.size=w.heap.size+1/\Raw W' w.heap.size bs/\bs.length<=c/\(bs.length<=AH->c<=9223372036854775807):=by
 refine⟨_,_,run_bytes_of_string (P:=Am) w 9 24 5 ⟨bs.toArray⟩ underlying9 underlying24 underlying5,?_,?_,⟨?_,?_,?_⟩,?_,?_⟩
 exact DU (gW w.drew _)
 show(w.heap.push _).size=_;simp
 show w.heap.size<(w.heap.push _).size;simp
 intro j x b
 have a:j<bs.length:=by
  rcases Ct j bs.length with q|q
  exact q;rw[AM q]at b;cases b
 have d:=bytesRow_at ⟨bs.toArray⟩ (FE w (⟨bs.toArray⟩:ByteArray).size 0 5) j (by simpa using a);refine((F7 w.drew _ 5 _ j).trans d).trans ?_;rw[Aq a]at b;cases b;simp
 intro j a
 have g:j<(bytesRow ⟨bs.toArray⟩ (FE w (⟨bs.toArray⟩:ByteArray).size 0 5)).size:=by
  have d:=bytesRow_at ⟨bs.toArray⟩ (FE w (⟨bs.toArray⟩:ByteArray).size 0 5) j (by simpa using a);exact(Ba.1 d).1
 obtain⟨C,e⟩:=Xa (bytesRow ⟨bs.toArray⟩ (FE w (⟨bs.toArray⟩:ByteArray).size 0 5))
 rw[e]at g ⊢
 have f:(w.drew.alloc (Ai C 5 (C.size,C.size+1))).heap[w.heap.size]? = some (Ai C 5 (C.size,C.size+1)):=by
  show(w.heap.push _)[w.heap.size]? = _;simp
 simp only[World.frozen?,f];simp;omega
 exact grownCap_ge _ _ _ _
 intro h;have:=Gz w (⟨bs.toArray⟩:ByteArray).size 0 5 h;simp only[AH]at this;omega
theorem Kq(o:n<=c)(p:k<=n):
  ∃g c',(∀w,(Instr.slice 24 (Aa ao n c) none (some (Ab Ak (k:Int))) none).run Am w=.ok (Aa g k c') w)/\k<=c'/\c'<=c/\∀w (xs:Bs),gQ gP w ao xs->gQ gP w g (xs.take k):=by
 obtain⟨i0,d,l,f,m⟩:=Ch Tryz.info5;refine⟨if c=0 then ao else ao.map (·.add 0),c,λ w=>?_,by omega,AA _,?_⟩
 rw[run_slice_h w 24 ao n c underlying24 Ak (k:Int) (by omega) (by omega)]
 have:(E6 (Am.elem 24)).run Am w=.ok 1 w:=by
  have j:Am.elem 24=5:=by kernel_rfl
  rw[j];simp[E6,Eu,d,f]
 rw[this];simp only[Cz,sliced,Int.toNat_natCast,Df,Nat.sub_zero]
 intro w xs h
 split
 exact h.take k
 intro i;obtain⟨b,off,rfl,e,a⟩:=h (by simp at i;omega);simp only[Option.map_some,F8,Nat.add_zero];exact gQ.take (λ _=>⟨b,off,rfl,e,a⟩) k i
theorem Kl(o:n<=c)(p:k<=n):
  ∃i c',(∀w,(Instr.slice 24 (Aa ao n c) (some (Ab Ak (k:Int))) none none).run Am w=.ok (Aa i (n - k) c') w)/\n - k<=c'/\c'<=c/\∀w (xs:Bs),xs.length=n->gQ gP w ao xs->gQ gP w i (xs.drop k):=by
 obtain⟨i0,e,l,g,m⟩:=Ch Tryz.info5;refine⟨if c=k then ao else ao.map (·.add k),c - k,λ w=>?_,by omega,by omega,?_⟩
 rw[run_slice_l w 24 ao n c underlying24 Ak (k:Int) (by omega) (by omega)]
 have:(E6 (Am.elem 24)).run Am w=.ok 1 w:=by
  have j:Am.elem 24=5:=by kernel_rfl
  rw[j];simp[E6,Eu,e,g]
 rw[this];simp only[Cz,sliced,Int.toNat_natCast,Df]
 intro w xs q h
 split
 intro a;simp at a;omega
 intro a;obtain⟨b,off,rfl,f,d⟩:=h (by simp at a;omega);simp only[Option.map_some,F8];have:=gQ.drop (E:=gP) (b:=b) (off:=off) (xs:=xs) (λ _=>⟨b,off,rfl,f,d⟩) k a;rw[show k*gP.size=k from Df k]at this;exact this
theorem Jx{α:Type}{ops:Array Oper}{o:Oper}{a:Act}{w:Ap}{K:Act->Ap->Prop}{Q:Exit->Act->Ap->Prop}{X:Prop}(E:ju α)(e t:AP)(d:Nat)(z:Ar)(hz:z.cells.size=E.size)
  (g:(Am.info? e).map (λ i=>(i.zero,i.size,i.bytes))=some (some z,E.size,d)) (C:Am.underlying t=some (.slice e)) (m:o.guard=none) (s x:CG)
  (A:o.op=.call { callee:=.builtin .append,args:=#[s,x],argTypes:=#[t,t] }) (base:Nat) (v:Ar) (l xs:List α) (ao:Option Addr) (n c:Nat) (M:a.eval s=v) (f:gM E e w base v l)
  (O:a.eval x=Aa ao n c) (Y:gQ E w ao xs) (F:xs.length=n) (q:(l.length+n)*d<=140737488355328) (r:l.length+n<=AH) (L:base<=w.heap.size)
  (h:∀v' w',gM E e w' base v' (l++xs)->An base w w'->Dw w v v'->Aw (λ k=>v.ownBlock=some k) w w'->K (a.put o.dst v') w') :
  if Bd o (Co ops a.tmps)=true then Cs Am o a w K Q else X:=by
 obtain⟨i0,p,H,I,J⟩:=Ch g;by_cases P:0<xs.length
 obtain⟨b,off,rfl,W,U⟩:=Y P
 refine O8 m s x t A base e i0 _ E.size d C p H I J hz E.pos v l.length (E.all l) M f ⟨b,off,none⟩ n c (E.all xs) O (by rw[E.all_length,F]) (by
  intro k u V;obtain⟨i,j,y,rfl,hj,hy,C⟩:=E.all_split xs k u V;rw[F8]
  exact U i y hy j u C) (E.all_one xs) r q L ?_
 intro v' w' R S T;have N:Aw (λ k=>v.ownBlock=some k) w w':=(Aw.refl _ _).grown S (λ k _ e=>e);refine h v' w' ?_ (gM.turn f L N) T N;unfold gM;rw[Ax,E.all_append,F];exact R
 obtain rfl:xs=[]:=AQ (by omega);obtain rfl:n=0:=F.symm;obtain⟨D,cap,rfl,G,_,_⟩:=f.form
 have Z:Bd o (Co ops a.tmps)=true:=by simp[Bd,m]
 rw[if_pos Z];have B:=ME t o.type e i0 C p D l.length cap G ao c w;unfold Cs;simp[CP,A,DA,DS,Fq,M,O,B,Cz];exact h _ w (by rw[Bz];exact f) (Ao _ _) (.inl rfl) (Aw.refl _ _)
theorem oz(w:Ap)(base:Nat)(a:base<=w.heap.size):gM gP 5 (w.alloc (Ai #[] 5)) base (Aa (some ⟨w.heap.size,0,none⟩) 0 0) [] :=
 Jb (Fp w #[] 0 (AA _) (Bw _) rfl) a
theorem pB(u:Ap):gM gP 5 (u.alloc (Ai #[] 5)) u.heap.size (Aa (some ⟨u.heap.size,0,none⟩) 0 0) []:=oz u _ (AA _)
theorem pI(u:Ap)(o:Obj):gM gP 5 ((u.alloc (Ai #[] 5)).alloc o) u.heap.size (Aa (some ⟨u.heap.size,0,none⟩) 0 0) []:=(pB u).below (gW _ _)
theorem pJ(u:Ap)(o:Obj):gM gP 5 ((u.alloc o).alloc (Ai #[] 5)) u.heap.size (Aa (some ⟨u.heap.size+1,0,none⟩) 0 0) []:=by
 have:=oz (u.alloc o) u.heap.size (by simp)
 have e:(u.alloc o).heap.size=u.heap.size+1:=by simp
 rw[e]at this;exact this
theorem gM.stays{α:Type}{E:ju α}{S:Nat->Prop}{e:AP}{w w':Ap}{base:Nat}{v:Ar}{a:List α}(h:gM E e w base v a)(c:Aw S w w')(b:∀g,v.ownBlock=some g->¬S g):gM E e w' base v a:=LM h c b
theorem Sf(h:gM gP 5 w base (Aa (some ⟨g,0,none⟩) n cap) bs)(hi:i<bs.length):
  ∃y:UInt8,bs[i]? = some y/\w.cell? ⟨g,i,none⟩=some (Ab .u8 (y.toNat:Int))/\w.frozen? ⟨g,i,none⟩=false:=by
 have b:bs.length=n:=DC h;subst b;have a:w.ownsRow base 5 1 (Aa (some ⟨g,0,none⟩) bs.length cap) bs.length (gP.all bs):=h;refine⟨bs[i],Aq hi,?_,a.frozenAt _⟩;rw[a.cellAt _ (by rw[Df];exact hi)];have:=gP.all_get bs i 0 bs[i] (Aq hi) (by decide);rw[show i*gP.size+0=i from(by show i*1+0=i;omega)]at this;rw[this]
 rfl
theorem Td(h:gM gP 5 w base (Aa (some ⟨g,0,none⟩) n cap) bs)(hi:i<bs.length)(y:UInt8):
  gM gP 5 (w.setCell ⟨g,i,none⟩ (Ab .u8 (y.toNat:Int))) base (Aa (some ⟨g,0,none⟩) n cap) (bs.set i y):=by
 have:=gM.put h (i:=i) (j:=0) (Aq hi) (by decide) y (Ab .u8 (y.toNat:Int)) (by simp[gP]);rw[show i*gP.size+0=i from(by show i*1+0=i;omega)]at this;exact this
def gN(w u:Ap):Prop:=An w.heap.size w u
theorem gQ.turned{α:Type}{E:ju α}{T:Nat->Prop}{w w':Ap}{ao:Option Addr}{xs:List α}(h:gQ E w ao xs)(d:Aw T w w')(e:0<xs.length->∀p,ao=some p->¬T p.block):gQ E w' ao xs:=by
 intro c;obtain⟨b,off,rfl,a,f⟩:=h c;exact⟨b,off,rfl,AK a d.size,λ i x k j u g=>(d.cell (p:=⟨b,off+(i*E.size+j),none⟩) a (show ¬T b from e c ⟨b,off,none⟩ rfl)).trans (f i x k j u g)⟩
def val(bs:Bs):Nat:=bs.foldl (λ v b=>v*256+b.toNat) 0
theorem M6(a b:Bs):val (a++b)=val a*256 ^ b.length+val b:=by
 have key:∀(b:Bs) (v:Nat),b.foldl (λ v b=>v*256+b.toNat) v=v*256 ^ b.length+val b:=by
  intro b
  induction b with
  | nil=>intro v;simp[val]
  | cons x t c =>
   intro v
   have e:val (x::t)=x.toNat*256 ^ t.length+val t:=by
    show List.foldl _ (0*256+x.toNat) t=_;rw[c,Fg,Dc]
   rw[List.foldl_cons,c,e,A2,Eh,E7,Nat.mul_assoc v,DY 256,Hu]
 unfold val;rw[CU,key]
 rfl
theorem IP(a:Bs):val a<256 ^ a.length:=by
 induction a with
 | nil=>decide
 | cons x t c =>
  have e:val (x::t)=x.toNat*256 ^ t.length+val t:=by
   have:=M6 [x] t;rw[show[x]++t=x::t from rfl]at this;rw[this];simp[val]
  have b:=x.toNat_lt;rw[e,A2,Eh,DY _ 256];have:x.toNat*256 ^ t.length<=255*256 ^ t.length:=Nat.mul_le_mul_right _ (by omega);omega
theorem Lq(l:Bs)(i:Nat)(hi:i<l.length):val (l.take (i+1))=val (l.take i)*256+l[i].toNat:=by
 rw[AW,Aq hi];show val (_++[l[i]])=_;rw[M6];simp[val]
theorem Sk(l:Bs)(x:UInt8):val (l++[x])=val l*256+x.toNat:=by
 rw[M6];simp[val]
theorem JO(h:l.length<=8):val l<18446744073709551616:=by
 have a:=IP l;have b:=CB (n:=256) (by decide) h
 have e:256 ^ 8=18446744073709551616:=by decide
 omega
theorem NC(h:l.length<=1):val l<=255:=by
 have a:=IP l;have b:=CB (n:=256) (by decide) h
 have e:256 ^ 1=256:=by decide
 omega
def low:Nat->Nat->Bs
 | 0,_=>[]
 | k+1,n=>low k (n / 256)++[AX n]
theorem Bp:∀k n,(low k n).length=k
 | 0,_=>rfl
 | k+1,n=>by simp[low,Bp k]
theorem Jo:∀k n,val (low k n)=n % 256 ^ k
 | 0,n=>by simp[low,val,Nat.mod_one]
 | k+1,n=>by
  rw[low,Sk,Jo k,Eh,DY (256 ^ k),Nat.mod_mul,Bm];omega
theorem Ka(l:Bs):low l.length (val l)=l:=by
 have key:∀n (l:Bs),l.length=n->low n (val l)=l:=by
  intro n
  induction n with
  | zero=>intro l h;rw[AQ h];rfl
  | succ n b =>
   intro l h
   have a:l≠[]:=by intro e;rw[e]at h;simp at h
   obtain⟨t,x,rfl⟩:∃t x,l=t++[x]:=⟨l.dropLast,l.getLast a,(List.dropLast_concat_getLast a).symm⟩
   have c:=x.toNat_lt;rw[Sk,low,show(val t*256+x.toNat) / 256=val t by omega,b t (by simpa using h)]
   congr 2
   apply UInt8.toNat_inj.1;rw[Bm];omega
 exact key _ l rfl
def b8(x:UInt64):Bs:=low 8 x.toNat
theorem Iw(x:UInt64):(b8 x).length=8:=Bp _ _
theorem L9 (x:UInt64):val (b8 x)=x.toNat:=by
 rw [b8,Jo];have:=x.toNat_lt
 exact Nat.mod_eq_of_lt (by have e : 256 ^ 8 = 2 ^ 64 := by decide
                            omega)
theorem Jn(h:l.length<=8):(UInt64.ofNat (val l)).toNat=val l:=by
 have:=JO h;rw[UInt64.toNat_ofNat'];omega
theorem Sz(h:l.length=8):b8 (UInt64.ofNat (val l))=l:=by
 rw[b8,Jn (by omega)];have:=Ka l;rw[h]at this;exact this
theorem LP(x:UInt64):UInt64.ofNat (val (b8 x))=x:=by
 rw[L9];simp
theorem Ig(n k:Nat)(x:n<18446744073709551616)(D:k<=8)(w:Ap):
  At Am 26 #[Ab Al (n:Int),Ab Ak (k:Int)] w λ e w'=>e=Aj (tx (low k n))/\An w.heap.size w w':=by
 go_enter func26,ntmps26;go_wp2_with fail;go_loopg[0,5,6] k (λ m B C A wr=>∃(i p:Nat) (s:ByteArray),A=Ab Ak i/\i+m=k/\B=Ab Al (p:Int)/\C=Ae s/\p<18446744073709551616/\Hid (∃t:Bs,s=⟨t.toArray⟩/\t.length=i/\low k n=low m p++t/\An w.heap.size w wr))
 case atStart=>exact⟨0,n,_,rfl,by omega,rfl,rfl,x,[],rfl,rfl,by simp,Ao _ _⟩
 case round =>
  obtain⟨i,p,s,rfl,hi,rfl,rfl,hp,h⟩:=hrel;by_cases v:i<k
  have id:(i:Int)<(k:Int):=by omega
  have j:=Ga (Mg wr [AX p] 5 (0,0) #[Ab .u8 ((p:Int) % 256)] (by simp[Bm]) 1 rfl (by simp))
  obtain⟨z,f⟩:∃z:ByteArray,z=⟨[AX p].toArray⟩:=⟨_,rfl⟩
  rw[show tx [AX p]=Ae z by rw[f]]at j
  have y:¬(9223372036854775807<z.size+s.size):=by
   obtain⟨t,a,d,_⟩:=h.o;rw[f,a];show ¬(9223372036854775807<1+t.toArray.size);simp only[List.size_toArray];omega
  have u:=Ih f;clear f;go_wp2;go_roundg (gk - 1)
  case measure=>omega
  case rel =>
   obtain⟨t,a,d,b,c⟩:=h.o;refine⟨i+1,p / 256,z++s,by go_num,by omega,by go_num,rfl,by omega,AX p::t,?_,by simp[d],?_,c.trans ((gW wr _).mono c.size)⟩;rw[u.o,a]
   rfl
   obtain⟨g,rfl⟩:∃g,gk=g+1:=⟨gk - 1,by omega⟩
   rw[b,Nat.add_sub_cancel];simp[low]
  obtain rfl:i=k:=by omega
  obtain⟨t,a,d,b,c⟩:=h.o
  have r:gk=0:=by omega
  rw[r]at b
  have q:low i n=t:=by rw[b];rfl
  have l:=I2 (by rw[q];exact a:s=⟨(low i n).toArray⟩) c;clear a d b c q r;go_wp2;go_ret;exact⟨by rw[l.o.1];rfl,l.o.2⟩
theorem Ip(s:ByteArray)(A:s.size<=8)(w:Ap):
  At Am 33 #[Ae s] w λ e w'=>e=Aj (Ab Al (val s.data.toList:Int))/\w'=w:=by
 obtain⟨L,k⟩:=Xa s.size
 have l:s.data.toList.length=L:=by rw[<- k];rfl
 go_enter func33,ntmps33;go_wp2_with fail;go_loopg[3,4] L (λ m z x wr=>wr=w/\∃(i v:Nat),x=Ab Ak i/\i+m=L/\z=Ab Al (v:Int)/\v<18446744073709551616/\Hid (val (s.data.toList.take i)=v))
 case atStart=>exact⟨rfl,0,0,rfl,by omega,rfl,by omega,rfl⟩
 case round =>
  obtain⟨d,i,v,rfl,hi,rfl,B,f⟩:=hrel;subst d;by_cases q:i<L
  have id:(i:Int)<(L:Int):=by omega
  have b:i<s.data.toList.length:=by omega
  have a:=Lq s.data.toList i b;have c:=IP (s.data.toList.take i);rw[f.o]at a c
  have r:v<72057594037927936:=by
   have:(s.data.toList.take i).length<=7:=by rw[AE];omega
   have:=CB (n:=256) (by decide) this
   have e:256 ^ 7=72057594037927936:=by decide
   omega
  have p:i<s.size:=by omega
  have g:s.data.toList[i]=s[i]:=by simp[ByteArray.getElem_eq_getElem_data]
  rw[g]at a;obtain⟨y,t⟩:=Xa (s[i])
  have u:=y.toNat_lt;rw[t]at a;have j:=Ih a;clear a c g b;go_wp2;go_roundg (gk - 1)
  case measure=>omega
  case rel=>exact⟨rfl,i+1,v*256+y.toNat,by go_num,by omega,by go_num,by omega,j.o⟩
  obtain rfl:i=L:=by omega
  have e:s.data.toList.take i=s.data.toList:=Av (by omega)
  have h:Hid (val s.data.toList=v):=by rw[<- e];exact f.o
  clear e;go_wp2;go_ret;exact⟨by rw[h.o];rfl,rfl⟩
abbrev U(n:Int):Int:=Al.wrap n
abbrev nI(a b:Int):Int:=bits Ds Al a b
def pA(z:Int):Int:=U (nI z (z / 1073741824)*13787848793156543929)
def py(z:Int):Int:=U (nI z (z / 134217728)*10723151780598845931)
def pC(z:Int):Int:=nI z (z / 2147483648)
def spread(a b:Int):Int:=pC (py (pA (U (a+U (U (U b+1)*11400714819323198485)))))
def iV(a b:Int):Int:=U (nI a (U b)*1099511628211)
theorem OO(z k:Int)(e:1<=k):U ((U z).tdiv k)=U z / k:=by
 have a:=wrap_u64_nonneg z
 have b:U z<18446744073709551616:=by show Al.wrap z<_;rw[A5];omega
 rw[Int.tdiv_eq_ediv_of_nonneg a];have c:0<=U z / k:=Int.ediv_nonneg a (by omega);have d:U z / k<=U z:=Int.ediv_le_self _ a;show Al.wrap (U z / k)=_;rw[A5];omega
theorem ZW(a b:Int)(w:Ap):
  At Am 192 #[Ab Al a,Ab Ak b] w λ e w'=>e=Aj (Ab Al (spread a b))/\w'=w:=by
 go_enter func192,ntmps192;go_wp2;go_ret;exact⟨rfl,rfl⟩
theorem fW(a b:Int)(w:Ap):
  At Am 204 #[Ab Al a,Ab Ak b] w λ e w'=>e=Aj (Ab Al
   (nI (U (nI (U (nI (U (a+U (U (U b+1)*11400714819323198485))) (U ((U (a+U (U (U b+1)*11400714819323198485))).tdiv 1073741824))*13787848793156543929))
    (U ((U (nI (U (a+U (U (U b+1)*11400714819323198485))) (U ((U (a+U (U (U b+1)*11400714819323198485))).tdiv 1073741824))*13787848793156543929)).tdiv 134217728))*10723151780598845931))
    (U ((U (nI (U (nI (U (a+U (U (U b+1)*11400714819323198485))) (U ((U (a+U (U (U b+1)*11400714819323198485))).tdiv 1073741824))*13787848793156543929))
    (U ((U (nI (U (a+U (U (U b+1)*11400714819323198485))) (U ((U (a+U (U (U b+1)*11400714819323198485))).tdiv 1073741824))*13787848793156543929)).tdiv 134217728))*10723151780598845931)).tdiv 2147483648))))/\w'=w:=by
 go_enter func204,ntmps204;go_wp2;go_ret;exact⟨rfl,rfl⟩
theorem Uw(a b:Int)(w:Ap):
  At Am 204 #[Ab Al a,Ab Ak b] w λ e w'=>e=Aj (Ab Al (spread a b))/\w'=w:=by
 refine(fW a b w).mono ?_;rintro e w' ⟨rfl,c⟩;refine⟨?_,c⟩;rw[OO _ 1073741824 (by decide),OO _ 134217728 (by decide),OO _ 2147483648 (by decide)]
 rfl
theorem MW(a b:Int)(w:Ap):
  At Am 198 #[Ab Al a,Ab .u8 b] w λ e w'=>e=Aj (Ab Al (iV a b))/\w'=w:=by
 go_enter func198,ntmps198;go_wp2;go_ret;exact⟨rfl,rfl⟩
def Jv(w:Ap)(v:Ar)(zs:List Int):Prop :=
 ∃a cap,v=Aa a zs.length cap/\zs.length<=9223372036854775807/\(zs=[]∨∃b off,a=some ⟨b,off,none⟩/\∀j,j<zs.length->w.cell? ⟨b,off+j,none⟩=some (Ab .u8 (zs.getD j 0)))
def Kv(w:Ap)(v:Ar)(zss:List (List Int)):Prop :=
 ∃a cap,v=Aa a zss.length cap/\zss.length<=9223372036854775807/\(zss=[]∨∃b off,a=some ⟨b,off,none⟩/\∀j,j<zss.length->∃u,w.cell? ⟨b,off+j,none⟩=some u/\Jv w u (zss.getD j []))
def jl(h:Int)(zs:List Int):Int:=zs.foldl iV h
theorem TP(h:Int)(a:List Int)(k:Nat)(b:k<a.length):jl h (a.take (k+1))=iV (jl h (a.take k)) a[k]:=by
 unfold jl;rw[AW,CU];simp[Aq b]
def jO(h:Int)(zss:List (List Int)):Int:=zss.foldl jl h
theorem ds(h:Int)(a:List (List Int))(k:Nat)(b:k<a.length):jO h (a.take (k+1))=jl (jO h (a.take k)) (a.getD k []):=by
 unfold jO;rw[AW,CU];simp[Aq b,Cn]
theorem Wp(kind:Int)(b off cap:Nat)(c:List (List Int))(w:Ap)(D:c.length<=9223372036854775807)
  (x:∀j,j<c.length->∃u,w.cell? ⟨b,off+j,none⟩=some u/\Jv w u (c.getD j [])) :
  At Am 160 #[Ab Ak kind,Aa (some ⟨b,off,none⟩) c.length cap] w λ e w'=>e=Aj (Ab Al (jO (iV 14695981039346656037 (kind % 256)) c))/\w'=w:=by
 go_enter func160,ntmps160;go_wp2_with(go_at_call 198;refine(MW _ _ _).mono ?_;rintro e w' ⟨rfl,rfl⟩)
 go_loop [5,15] (λ h i=>∃k:Nat,k<=c.length/\i=Ab Ak k/\h=Ab Al (jO (iV 14695981039346656037 (kind % 256)) (c.take k)))
  (λ _ i=>c.length - (intOf i).toNat)
 case atStart=>exact⟨0,Bw _,rfl,rfl⟩
 case round =>
  obtain⟨k,B,rfl,rfl⟩:=hrel;by_cases l:k<c.length
  ·obtain⟨u,f,a,A,rfl,z,t⟩:=x k l;have d:=ds (iV 14695981039346656037 (kind % 256)) c k l;generalize c.getD k []=zs at z t f d;generalize jO (iV 14695981039346656037 (kind % 256)) (c.take k)=h at d ⊢;have s:Hid (_=_):=d;clear d
   rcases t with rfl|⟨v,p,rfl,q⟩
   ·go_wp2;refine Dx 1 ?_;rw[D9];go_wp2;go_round
    case rel=>exact⟨k+1,by omega,by go_num,by rw[s.o];rfl⟩
    case measure=>simp[intOf];omega
   ·go_wp2
    go_loop [5,21] (λ g i=>∃m:Nat,m<=zs.length/\i=Ab Ak m/\g=Ab Al (jl h (zs.take m)))
     (λ _ i=>zs.length - (intOf i).toNat)
    case atStart=>exact⟨0,Bw _,rfl,rfl⟩
    case round =>
     obtain⟨m,C,rfl,rfl⟩:=hrel
     have y:m<zs.length->w'.cell? ⟨v,p+m,none⟩=some (Ab .u8 (zs.getD m 0)):=λ r=>q m r
     go_wp2_with(go_at_call 198;refine(MW _ _ _).mono ?_;rintro e w' ⟨rfl,rfl⟩)
     ·have n:m<zs.length:=by assumption
      go_round
      case rel=>exact⟨m+1,by omega,by go_num,by rw[TP h zs m n]⟩
      case measure=>simp[intOf];omega
     ·have:m=zs.length:=by omega
      subst this;go_round
      case rel=>exact⟨k+1,by omega,by go_num,by rw[s.o];simp⟩
      case measure=>simp[intOf];omega
  ·have:k=c.length:=by omega
   subst this;go_wp2;go_ret;exact⟨by simp,rfl⟩
theorem TC(kind:Int)(v:Ar)(c:List (List Int))(w:Ap)(h:Kv w v c):
  At Am 160 #[Ab Ak kind,v] w λ e w'=>e=Aj (Ab Al (jO (iV 14695981039346656037 (kind % 256)) c))/\w'=w:=by
 obtain⟨a,cap,rfl,f,h⟩:=h
 rcases h with rfl|⟨b,off,rfl,d⟩
 ·go_enter func160,ntmps160;go_wp2_with(go_at_call 198;refine(MW _ _ _).mono ?_;rintro e w' ⟨rfl,rfl⟩);refine Dx 1 ?_;rw[D9];go_wp2;go_ret;exact⟨by simp[jO],rfl⟩
 ·exact Wp kind b off cap c w f d
theorem WP(n:Int):bits .and Ak n 255=n % 256:=by
 have a:(Cu 64 255).toNat=2 ^ 8 - 1:=by decide
 have key:(Cu 64 n &&& Cu 64 255).toNat=(n % ((2 ^ 64:Nat):Int)).toNat % 2 ^ 8:=by
  rw[Gd,FX,a,Ea]
 show Ak.wrap ((Cu 64 n &&& Cu 64 255).toNat:Nat)=n % 256;rw[key,IntKind.wrap_i64];omega
theorem Pr(a k:Int):iV a (k % 256)=Al.wrap (bits Ds Al a (k % 256)*1099511628211):=by
 have h:U (k % 256)=k % 256:=by show Al.wrap _=_;rw[A5];omega
 rw[iV,h]
theorem NG(kind:Int)(v:Ar)(c:List Int)(w:Ap)(h:Jv w v c):
  At Am 156 #[Ab Ak kind,v] w λ e w'=>e=Aj (Ab Al (jl (iV 14695981039346656037 (kind % 256)) c))/\w'=w:=by
 obtain⟨a,cap,rfl,o,h⟩:=h;have l:=WP kind
 rcases h with rfl|⟨b,off,rfl,g⟩
 ·go_enter func156,ntmps156;go_wp2;refine Dx 1 ?_;rw[D9];go_wp2;go_ret;refine⟨?_,rfl⟩;rw[jl,Hn,Pr]
  rfl
 ·go_enter func156,ntmps156;go_wp2
  go_loop [5,6] (λ h i=>∃k:Nat,k<=c.length/\i=Ab Ak k/\h=Ab Al (jl (iV 14695981039346656037 (kind % 256)) (c.take k)))
   (λ _ i=>c.length - (intOf i).toNat)
  case atStart=>exact⟨0,Bw _,rfl,by rw[List.take_zero,jl,Hn,Pr]⟩
  case round =>
   obtain⟨m,n,rfl,rfl⟩:=hrel
   have j:m<c.length->w.cell? ⟨b,off+m,none⟩=some (Ab .u8 (c.getD m 0)):=λ f=>g m f
   go_wp2
   ·have d:m<c.length:=by assumption
    go_round
    case rel=>exact⟨m+1,by omega,by go_num,by rw[TP _ c m d];rfl⟩
    case measure=>simp[intOf];omega
   ·have:m=c.length:=by omega
    subst this;go_ret;exact⟨by simp,rfl⟩
abbrev pD(a b:Int):Int:=bits Ds Cl a b
theorem JQ(a b:Int):0<=pD a b/\pD a b<4294967296:=by
 show 0<=Cl.wrap _/\Cl.wrap _<4294967296;rw[FQ];omega
def kP(c:Int):Int:=if c % 2=1 then pD (c / 2) 3988292384 else c / 2
def ir:Nat->Int->Int
 | 0,c=>c
 | n+1,c=>kP (ir n c)
theorem OJ(c:Int)(a:0<=c)(b:c<4294967296):0<=kP c/\kP c<4294967296:=by
 unfold kP
 split
 exact JQ _ _
 omega
def kW(c b:Int):Int:=ir 8 (bits Ds Cl c (b % 4294967296))
theorem ZS(c:Int)(b:0<=c)(d:c<4294967296):bits .and .u32 c 1=c % 2:=by
 have a:(Cu 32 1).toNat=2 ^ 1 - 1:=by decide
 have key:(Cu 32 c &&& Cu 32 1).toNat=(c % ((2 ^ 32:Nat):Int)).toNat % 2 ^ 1:=by
  rw[Gd,FX,a,Ea]
 show Cl.wrap ((Cu 32 c &&& Cu 32 1).toNat:Nat)=c % 2;rw[key,FQ];omega
theorem XQ(a b d:Int)(q:bits Ds Cl a (b % 4294967296)=d)(r:0<=d)(s:d<4294967296)(w:Ap):
  At Am 78 #[Ab .u32 a,Ab .u8 b] w λ e w'=>e=Aj (Ab .u32 (ir 8 d))/\w'=w:=by
 go_enter func78,ntmps78;go_wp2
 go_loop [0,10] (λ c i=>∃k:Nat,k<=8/\i=Ab Ak k/\c=Ab .u32 (ir k d)/\0<=ir k d/\ir k d<4294967296)
  (λ _ i=>8 - (intOf i).toNat)
 case atStart=>exact⟨0,by omega,rfl,rfl,r,s⟩
 case round =>
  obtain⟨k,u,rfl,rfl,n,p⟩:=hrel;have g:=OJ _ n p;have h:kP (ir k d)=ir (k+1) d:=rfl;have t:=ZS _ n p;rw[h]at g;have m:Hid (_=_):=h;clear h;go_wp2
  have j:(k:Int)<8:=by assumption
  have f:(ir k d % 2==1)=true:=by assumption
  have l:ir (k+1) d=bits Ds Cl (ir k d / 2) 3988292384:=by
   rw[<- m.o,kP,if_pos (by simpa using f)]
  go_round
  case rel=>exact⟨k+1,by omega,by go_num,by rw[l],g.1,g.2⟩
  case measure=>simp[intOf];omega
  have j:(k:Int)<8:=by assumption
  have f:(ir k d % 2==1)=false:=by assumption
  have l:ir (k+1) d=ir k d / 2:=by
   rw[<- m.o,kP,if_neg (by simpa using f)]
  go_round
  case rel=>exact⟨k+1,by omega,by go_num,by rw[l],g.1,g.2⟩
  case measure=>simp[intOf];omega
  have:k=8:=by omega
  subst this;go_ret;exact⟨rfl,rfl⟩
theorem eY(a b:Int)(w:Ap):
  At Am 78 #[Ab .u32 a,Ab .u8 b] w λ e w'=>e=Aj (Ab .u32 (kW a b))/\w'=w :=
 XQ a b _ rfl (JQ a _).1 (JQ a _).2 w
theorem fK(n:Nat)(c:Int)(b:0<=c)(d:c<4294967296):0<=ir n c/\ir n c<4294967296:=by
 induction n with
 | zero=>exact⟨b,d⟩
 | succ n a=>exact OJ _ a.1 a.2
theorem Pf(c b:Int):0<=kW c b/\kW c b<4294967296:=fK 8 _ (JQ c _).1 (JQ c _).2
def iZ(h:Int)(zs:List Int):Int:=zs.foldl kW h
theorem KX(a:List Int):∀(h:Int),0<=h->h<4294967296->0<=iZ h a/\iZ h a<4294967296:=by
 induction a with
 | nil=>intro h b c;exact⟨b,c⟩
 | cons z a d=>intro h _ _;exact d _ (Pf h z).1 (Pf h z).2
theorem Q2(h:Int)(a:List Int)(k:Nat)(b:k<a.length):iZ h (a.take (k+1))=kW (iZ h (a.take k)) a[k]:=by
 unfold iZ;rw[AW,CU];simp[Aq b]
def jA(h:Int)(zss:List (List Int)):Int:=zss.foldl iZ h
theorem Xz(a:List (List Int)):∀(h:Int),0<=h->h<4294967296->0<=jA h a/\jA h a<4294967296:=by
 induction a with
 | nil=>intro h b c;exact⟨b,c⟩
 | cons z e d=>intro h b c;exact d _ (KX z h b c).1 (KX z h b c).2
theorem Zu(c:Int)(d:0<=c)(f:c<4294967296):bits Ds Cl Cl.max c=4294967295 - c:=by
 obtain⟨n,rfl⟩:=Int.eq_ofNat_of_zero_le d
 have a:n<4294967296:=by omega
 have e:(Cl.max:Int)=((4294967295:Nat):Int):=by decide
 rw[e,u32_xor_nat _ _ (by decide) a]
 have h:(BitVec.allOnes 32 ^^^ BitVec.ofNat 32 n).toNat=4294967295 - n:=by
  rw[BitVec.allOnes_xor,BitVec.toNat_not,ES,CR a]
 rw[BitVec.toNat_xor,BitVec.toNat_allOnes,ES,CR a]at h;have b:=h;rw[b];omega
theorem Va(h:Int)(a:List (List Int))(k:Nat)(b:k<a.length):jA h (a.take (k+1))=iZ (jA h (a.take k)) (a.getD k []):=by
 unfold jA;rw[AW,CU];simp[Aq b,Cn]
theorem Vm(b off cap:Nat)(c:List (List Int))(w:Ap)(D:c.length<=9223372036854775807)
  (x:∀j,j<c.length->∃u,w.cell? ⟨b,off+j,none⟩=some u/\Jv w u (c.getD j [])) :
  At Am 25 #[Aa (some ⟨b,off,none⟩) c.length cap] w λ e w'=>e=Aj (Ab .u32 (bits Ds Cl Cl.max (jA 4294967295 c)))/\w'=w:=by
 go_enter func25,ntmps25;go_wp2
 go_loop [3,10] (λ h i=>∃k:Nat,k<=c.length/\i=Ab Ak k/\h=Ab .u32 (jA 4294967295 (c.take k)))
  (λ _ i=>c.length - (intOf i).toNat)
 case atStart=>exact⟨0,Bw _,rfl,rfl⟩
 case round =>
  obtain⟨k,B,rfl,rfl⟩:=hrel;by_cases l:k<c.length
  ·obtain⟨u,f,a,A,rfl,z,t⟩:=x k l;have d:=Va 4294967295 c k l;generalize c.getD k []=zs at z t f d;generalize jA 4294967295 (c.take k)=h at d ⊢;have s:Hid (_=_):=d;clear d
   rcases t with rfl|⟨v,p,rfl,q⟩
   ·go_wp2;refine Dx 1 ?_;rw[D9];go_wp2;go_round
    case rel=>exact⟨k+1,by omega,by go_num,by rw[s.o];rfl⟩
    case measure=>simp[intOf];omega
   ·go_wp2
    go_loop [3,16] (λ g i=>∃m:Nat,m<=zs.length/\i=Ab Ak m/\g=Ab .u32 (iZ h (zs.take m)))
     (λ _ i=>zs.length - (intOf i).toNat)
    case atStart=>exact⟨0,Bw _,rfl,rfl⟩
    case round =>
     obtain⟨m,C,rfl,rfl⟩:=hrel
     have y:m<zs.length->w.cell? ⟨v,p+m,none⟩=some (Ab .u8 (zs.getD m 0)):=λ r=>q m r
     go_wp2_with(go_at_call 78;refine(eY _ _ _).mono ?_;rintro e w' ⟨rfl,rfl⟩)
     ·have n:m<zs.length:=by assumption
      go_round
      case rel=>exact⟨m+1,by omega,by go_num,by rw[Q2 h zs m n]⟩
      case measure=>simp[intOf];omega
     ·have:m=zs.length:=by omega
      subst this;go_round
      case rel=>exact⟨k+1,by omega,by go_num,by rw[s.o];simp⟩
      case measure=>simp[intOf];omega
  ·have:k=c.length:=by omega
   subst this;go_wp2;go_ret;exact⟨by simp,rfl⟩
theorem fT(v:Ar)(c:List (List Int))(w:Ap)(h:Kv w v c):
  At Am 25 #[v] w λ e w'=>e=Aj (Ab .u32 (bits Ds Cl Cl.max (jA 4294967295 c)))/\w'=w:=by
 obtain⟨a,cap,rfl,f,h⟩:=h
 rcases h with rfl|⟨b,off,rfl,d⟩
 ·go_enter func25,ntmps25;go_wp2;refine Dx 1 ?_;rw[D9];go_wp2;go_ret;exact⟨rfl,rfl⟩
 ·exact Vm b off cap c w f d
theorem eO(v:Ar)(a:List (List Int))(w:Ap)(h:Kv w v a):
  At Am 25 #[v] w λ e w'=>e=Aj (Ab .u32 (4294967295 - jA 4294967295 a))/\w'=w:=by
 have b:=Xz a 4294967295 (by decide) (by decide);have c:=Zu _ b.1 b.2;rw[<- c];exact fT v a w h
theorem XT(v:Ar)(g:List Int)(w:Ap)(h:Jv w v g):
  At Am 27 #[v] w λ e w'=>e=Aj (Ab .u32 (4294967295 - iZ 4294967295 g))/\w'=w:=by
 obtain⟨a,cap,rfl,J,h⟩:=h
 rcases h with rfl|⟨b,off,rfl,A⟩
 ·go_enter func27,ntmps27;go_wp2;refine Dx 1 ?_;rw[D9];go_wp2;go_ret;exact⟨rfl,rfl⟩
 ·go_enter func27,ntmps27;go_wp2
  go_loop [3,4] (λ h i=>∃k:Nat,k<=g.length/\i=Ab Ak k/\h=Ab .u32 (iZ 4294967295 (g.take k)))
   (λ _ i=>g.length - (intOf i).toNat)
  case atStart=>exact⟨0,Bw _,rfl,rfl⟩
  case round =>
   obtain⟨m,I,rfl,rfl⟩:=hrel;by_cases n:m<g.length
   ·have q:=A m n;have l:=Q2 4294967295 g m n
    have B:g.getD m 0=g[m]:=by simp[Cn,Aq n]
    rw[B]at q;generalize g[m]=z at q l;generalize iZ 4294967295 (g.take m)=h at l ⊢;have D:Hid (_=_):=l;clear l B A;obtain⟨r,s⟩:=JQ h (z % 4294967296)
    have f:∃d,d=bits Ds Cl h (z % 4294967296):=⟨_,rfl⟩
    obtain⟨d,f⟩:=f
    have C:Hid (kW h z=ir 8 d):=by rw[f];exact show kW h z=_ from rfl
    replace r:0<=d:=by rw[f];exact r
    replace s:d<4294967296:=by rw[f];exact s
    have G:=f.symm;clear f;go_wp2
    go_loop [3,5] (λ c i=>∃k:Nat,k<=8/\i=Ab Ak k/\c=Ab .u32 (ir k d)/\0<=ir k d/\ir k d<4294967296)
     (λ _ i=>8 - (intOf i).toNat)
    case atStart=>exact⟨0,by omega,rfl,rfl,r,s⟩
    case round =>
     obtain⟨k,H,rfl,rfl,E,F⟩:=hrel;have p:=OJ _ E F;have t:kP (ir k d)=ir (k+1) d:=rfl;rw[t]at p;have y:Hid (_=_):=t;clear t;go_wp2
     ·have u:(k:Int)<8:=by assumption
      have j:(ir k d % 2==1)=true:=by assumption
      have x:ir (k+1) d=bits Ds Cl (ir k d / 2) 3988292384:=by
       rw[<- y.o,kP,if_pos (by simpa using j)]
      go_round
      case rel=>exact⟨k+1,by omega,by go_num,by rw[x],p.1,p.2⟩
      case measure=>simp[intOf];omega
     ·have u:(k:Int)<8:=by assumption
      have j:(ir k d % 2==1)=false:=by assumption
      have x:ir (k+1) d=ir k d / 2:=by
       rw[<- y.o,kP,if_neg (by simpa using j)]
      go_round
      case rel=>exact⟨k+1,by omega,by go_num,by rw[x],p.1,p.2⟩
      case measure=>simp[intOf];omega
     ·have:k=8:=by omega
      subst this;go_round
      case rel=>exact⟨m+1,by omega,by go_num,by rw[D.o,C.o]⟩
      case measure=>simp[intOf];omega
   ·have:m=g.length:=by omega
    subst this;go_wp2;go_ret;refine⟨?_,rfl⟩;obtain⟨r,s⟩:=KX g 4294967295 (by decide) (by decide)
    have hq:(4294967295 - iZ 4294967295 g) % 4294967296=4294967295 - iZ 4294967295 g:=by omega
    rw[hq]
    rfl
def b4(n:Nat):Bs:=[AX (n / 16777216),AX (n / 65536),AX (n / 256),AX n]
theorem Ge(n:Nat):(b4 n).length=4:=rfl
theorem Xo(n:Nat)(d:n<4294967296)(w:Ap):
  At Am 202 #[Ab .u32 (n:Int)] w λ e w'=>e=Aj (Aa (some ⟨w.heap.size,0,none⟩) 4 4)/\w'=w.alloc (Ai ((b4 n).map (λ x=>Ab .u8 (x.toNat:Int))).toArray 5):=by
 go_enter func202,ntmps202;go_wp2;go_ret;refine⟨rfl,?_⟩
 have e0:(AX (n / 16777216)).toNat=n / 16777216:=by rw[Bm];omega
 have a:(AX (n / 65536)).toNat=n / 65536 % 256:=Bm;have b:(AX (n / 256)).toNat=n / 256 % 256:=Bm;have c:(AX n).toNat=n % 256:=Bm;simp[b4,e0,a,b,c]
theorem mX(n:Nat):low 4 n=b4 n:=by
 simp[low,b4,Nat.div_div_eq_div_mul]
def ints(bs:Bs):List Int:=bs.map (λ b=>(b.toNat:Int))
theorem XK(a:j<bs.length):(ints bs).getD j 0=(bs[j].toNat:Int):=by
 simp[ints,Cn,Aq a]
theorem iE.bytes(h:iE w v bs):Jv w v (ints bs):=by
 obtain⟨ao,c,rfl,k,l,e⟩:=h;refine⟨ao,c,by simp[ints],by simp[ints];omega,?_⟩;by_cases d:0<bs.length
 obtain⟨b,off,rfl,i,f⟩:=e d;refine .inr ⟨b,off,rfl,λ j g=>?_⟩
 have a:j<bs.length:=by simpa[ints]using g
 rw[XK a];have:=f j bs[j] (Aq a) 0 _ rfl;rw[show off+(j*gP.size+0)=off+j from(by show off+(j*1+0)=off+j;omega)]at this;exact this
 obtain rfl:bs=[]:=AQ (by omega);exact .inl rfl
theorem D4.parts(h:D4 w v xss)(n:xss.length<=1000000):Kv w v (xss.map ints):=by
 obtain⟨ao,c,rfl,f,g⟩:=h;refine⟨ao,c,by simp,by simp;omega,?_⟩;by_cases d:0<xss.length
 obtain⟨b,off,rfl,l⟩:=f d;refine .inr ⟨b,off,rfl,λ j k=>?_⟩
 have a:j<xss.length:=by simpa using k
 obtain⟨u,m,i⟩:=g j xss[j] b off (Aq a) rfl;refine⟨u,m,?_⟩
 have e:(xss.map ints).getD j []=ints xss[j]:=by simp[Cn,Aq a]
 rw[e];exact i.bytes
 obtain rfl:xss=[]:=AQ (by omega);exact .inl rfl
theorem VS(xss:List Bs):∀h,jA h (xss.map ints)=iZ h (ints xss.flatten):=by
 induction xss with
 | nil=>intro h;rfl
 | cons x t a =>
  intro h;show jA (iZ h (ints x)) (t.map ints)=_;rw[a];simp[iZ,ints,CU]
def ls(bs:Bs):Nat:=(4294967295 - iZ 4294967295 (ints bs)).toNat
theorem PG(bs:Bs):4294967295 - iZ 4294967295 (ints bs)=(ls bs:Int):=by
 have:=KX (ints bs) 4294967295 (by decide) (by decide);unfold ls;omega
theorem IF(bs:Bs):ls bs<4294967296:=by
 have:=KX (ints bs) 4294967295 (by decide) (by decide);unfold ls;omega
theorem WJ(w:Ap)(h:D4 w v xss)(a:xss.length<=1000000):
  At Am 25 #[v] w λ e w'=>e=Aj (Ab .u32 (ls xss.flatten:Int))/\w'=w:=by
 have:=eO v _ w (h.parts a);rw[VS,PG]at this;exact this
theorem Km(w:Ap)(h:iE w v bs):
  At Am 27 #[v] w λ e w'=>e=Aj (Ab .u32 (ls bs:Int))/\w'=w:=by
 have:=XT v _ w h.bytes;rw[PG]at this;exact this
abbrev Fr:=Int×Bs
def ki(k:Int)(body:Bs):Bs:=b4 body.length++(AX k.toNat::body)
def lw(k:Int)(body:Bs):Bs:=ki k body++b4 (ls (ki k body))
theorem SY(k:Int)(body:Bs):(ki k body).length=5+body.length:=by simp[ki,Ge];omega
theorem RM(k:Int)(body:Bs):(lw k body).length=9+body.length:=by simp[lw,SY,Ge];omega
def jB(f:Fr):Bs×Int:=if f.1<0∨255<f.1 then([],3)else if 8192<f.2.length then([],4)else(lw f.1 f.2,0)
def iP(b:Bs):Fr×Nat×Int :=
 if b.length<4 then((0,[]),0,10)
 else if 8192<val (b.take 4)then((0,[]),0,4)
 else if b.length<9+val (b.take 4)then((0,[]),0,10)
 else if val ((b.drop (5+val (b.take 4))).take 4)≠ls (b.take (5+val (b.take 4)))then((0,[]),0,11)
 else((((b.getD 4 0).toNat:Int),(b.drop 5).take (val (b.take 4))),9+val (b.take 4),0)
theorem VL(h:(iP b).2.2=0):4<=b.length/\val (b.take 4)<=8192/\9+val (b.take 4)<=b.length/\val ((b.drop (5+val (b.take 4))).take 4)=ls (b.take (5+val (b.take 4)))/\iP b=((((b.getD 4 0).toNat:Int),(b.drop 5).take (val (b.take 4))),9+val (b.take 4),0):=by
 unfold iP at h ⊢
 split at h
 simp at h
 ·split at h
  simp at h
  ·split at h
   simp at h
   ·split at h
    simp at h
    ·rename_i c d e a
     rw[if_neg c,if_neg d,if_neg e,if_neg a];exact⟨by omega,by omega,by omega,by simpa using a,rfl⟩
theorem Mu(h:(iP b).2.2=0):9<=(iP b).2.1/\(iP b).2.1<=b.length/\(iP b).2.1=9+(iP b).1.2.length:=by
 obtain⟨c,d,a,_,e⟩:=VL h;rw[e];refine⟨by show 9<=9+_;omega,a,?_⟩;show 9+_=9+((b.drop 5).take _).length;rw[AE,AO];omega
def kJ(b:Bs):List Fr×Nat×Int :=
 if _h0:b=[]then([],0,0)
 else if _h:(iP b).2.2=0 then((iP b).1::(kJ (b.drop (iP b).2.1)).1,(iP b).2.1+(kJ (b.drop (iP b).2.1)).2.1,(kJ (b.drop (iP b).2.1)).2.2)
 else([],0,(iP b).2.2)
termination_by b.length
decreasing_by
 all_goals
  have:=Mu _h
  have:0<b.length:=by
   rcases b with _|_
   exact absurd rfl _h0;simp
  simp only[AO];omega
theorem fj:kJ []=([],0,0):=by rw[kJ];simp
theorem WD(a:0<b.length)(h:(iP b).2.2≠0):kJ b=([],0,(iP b).2.2):=by
 rw[kJ,dif_neg (by intro e;rw[e]at a;simp at a),dif_neg h]
theorem UD(a:0<b.length)(h:(iP b).2.2=0):kJ b=((iP b).1::(kJ (b.drop (iP b).2.1)).1,(iP b).2.1+(kJ (b.drop (iP b).2.1)).2.1,(kJ (b.drop (iP b).2.1)).2.2):=by
 rw[kJ,dif_neg (by intro e;rw[e]at a;simp at a),dif_pos h]
def Hp(b:Bs)(fs:List Fr)(d:Nat):Prop:=d<=b.length/\9*fs.length<=d/\kJ b=(fs++(kJ (b.drop d)).1,d+(kJ (b.drop d)).2.1,(kJ (b.drop d)).2.2)
theorem Hp.start(b:Bs):Hp b [] 0:=⟨Bw _,by simp,by simp⟩
theorem Hp.stop{a:List Fr}(h:Hp b a d)(hd:d<b.length)(c:(iP (b.drop d)).2.2≠0):kJ b=(a,d,(iP (b.drop d)).2.2):=by
 rw[h.2.2,WD (by rw[AO];omega) c];simp
theorem Hp.step{a:List Fr}(h:Hp b a d)(hd:d<b.length)(c:(iP (b.drop d)).2.2=0):Hp b (a++[(iP (b.drop d)).1]) (d+(iP (b.drop d)).2.1):=by
 have e:=Mu c;rw[AO]at e;refine⟨by omega,by have:=h.2.1;simp;omega,?_⟩;rw[h.2.2,UD (by rw[AO];omega) c,List.drop_drop];simp[Hu]
theorem Hp.done{a:List Fr}(h:Hp b a d)(hd:¬d<b.length):kJ b=(a,d,0):=by
 have:b.drop d=[]:=List.drop_eq_nil_of_le (by omega);rw[h.2.2,this,fj];simp
end Go.Proofs.YtakgkgmopmcecaaGreat
