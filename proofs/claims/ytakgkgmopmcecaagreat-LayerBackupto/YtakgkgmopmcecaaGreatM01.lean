import Derived.Test.YtakgkgmopmcecaaGreatM00
import Derived.Maps.Ext
import Derived.Maps.OwnSet
import Derived.Maps.RangeWalk
import Derived.Sort.KeysCollected
import Derived.Lib.AppendStr
import Derived.Shelf.Slices.Clone
import Derived.Shelf.Slices.CompactS
import Derived.Shelf.Small.Wraps
import Derived.Shelf.Sort.Plain
import Derived.Shelf.Strconv.Clone
import Derived.Shelf.Strings.Prefix
import Derived.Shelf.Slices.In.SortNone
set_option maxHeartbeats 6400000
set_option maxRecDepth 100000
open List renaming cons_append->Dh,cons_lt_cons_iff->GA,lt_irrefl->Eb,append_assoc->AT,pairwise_append->Di,mem_append->AN,lt_trans->GP,all_eq_true->Dj,take_left->DK,drop_left->Dt,length_append->Ax,length_take->AE,length_drop->AO,drop_drop->Be,take_append_drop->BC,append_nil->Bz,length_cons->A2,drop->Im,mem_cons_self->Bj,mem_cons_of_mem->Bl,mem_cons->Bv,pairwise_singleton->E8,pairwise_cons->Br,filter_cons->ED,take_of_length_le->Av
open Bool renaming and_eq_true->Bn,eq_iff_iff->Db
open UInt8 renaming ofNat->AX,toNat_ofNat'->Bm,toNat->Ib
open UInt64 renaming ofNat->AL,toNat_ofNat'->Cf
open Option.some renaming injEq->GY,inj->Dq
open Prod.mk renaming injEq->Fz
open Nat renaming le_trans->AU,le_refl->AA,zero_mul->Fg,lt_of_lt_of_le->AK,mod_eq_of_lt->CR
open List.Pairwise renaming filter->Ic,nil->Cq
open Go.IntKind renaming u64->Al,wrap_u64->A5,i64->Ak
open Go renaming World->Ap,TypeId->AP,Value->Ar,info_parts->Ch,Calls->At,DataW->Fk,length_sorted->Hd,zeroValue->EF,maxLen->AH,MapEntry->Hh,bodyPost_ret->As,results->AI
open Array renaming getElem?_eq_some_iff->Ba,getElem?_modify->BD
open Go.RowKit renaming Below->An
open Go.World renaming cell?->Bf,frozen?->Ce,alloc->Fj,setCell->Cd
open Go.Op renaming bytesLess->BM
open Go.Maps renaming Keyed->Hv,size->DZ,atKey_of_not_has->EO,size_put->He,has_put_same->GF,has_put_other->GB,atKey_put_same->Gn,atKey_put_other->Gf
open Go.Instr renaming lookup->CM,mapUpdate->DM
open Go.Value renaming ownBlock->BQ,slice->Aa,int->Ab,bool->Ad,string->Ae,tuple->Af
open BitVec renaming ofInt->Cu,ofInt_natCast->GG,toNat_ofNat->ES
open Go.Lib renaming strCells->Gv,indexByte->CF
open Go.Shelf renaming Ren->EI
open Go.Proofs.Lays renaming n103->Ii,n190->GM,n99->Il,n194->Ik
open Go.Obj renaming cells->Ai
open Go.Ending renaming returned->Aj
open Go.Proofs.Tryz renaming prog->Am
open Go.Proofs.Tryz
namespace Go.Proofs.YtakgkgmopmcecaaGreat
open Go.RowKit
variable {D:Fk Ar}{Q:Exit->Act->Ap->Prop}{S S' T:Nat->Prop}{X X':Bs->Prop}{a ao:Option Addr}{b bs r s x:Bs}{base cl g i k m n:Nat}{e t:AP}{f:Bs->Option Ar}{ops:Array Oper}{u w w' w1:Ap}{v:Ar}{α:Type}
abbrev En:=Bs×UInt64
variable {es:List En}
def my(a b:En):Prop:=a.1<b.1/\under b.1 a.1=false
def nH(a b:En):Decidable (my a b):=inferInstanceAs (Decidable (a.1<b.1/\under b.1 a.1=false))
def Tr(es:List En):Prop:=es.Pairwise my
def oS(es:List En):Decidable (Tr es) :=
 haveI:DecidableRel my:=nH
 inferInstanceAs (Decidable (es.Pairwise my))
theorem TS:∀(d t:Bs),¬(d++t<d)
 | [],t=>by simp
 | x::d,t=>by
  intro h;rw[Dh,GA]at h
  rcases h with h|⟨_,h⟩
  exact UInt8.lt_irrefl _ h;exact TS d t h
theorem fP{p d:Bs}(h:under p d=true):¬p<d:=by
 simp only[under,Bool.or_eq_true,Eg,List.isPrefixOf_iff_prefix]at h
 rcases h with rfl|⟨u,rfl⟩
 exact Eb _
 rw[AT];exact TS d _
def fits(p:Bs)(es:List En):Bool:=(match es.getLast? with | none=>true | some e=>decide (e.1<p))&&!(es.any (λ e=>under p e.1))
theorem Uu{x:En}(h:Tr es):fits x.1 es=true↔Tr (es++[x]):=by
 have hp:Tr (es++[x])↔∀a∈es,my a x:=by
  unfold Tr;rw[Di];simp[show es.Pairwise my from h]
 rw[hp];unfold fits
 rcases List.eq_nil_or_concat es with rfl|⟨t,y,rfl⟩
 simp
 rw[List.concat_eq_append]at h ⊢;rw[List.getLast?_concat];simp only[Bn,A9,Bool.not_eq_true',List.any_eq_false]
 constructor
 rintro⟨c,d⟩ a b;refine⟨?_,by simpa using d a b⟩
 rcases AN.1 b with q|q
 have:=(Di.1 h).2.2 a q y (by simp);exact GP this.1 c
 have:a=y:=by simpa using q
 rw[this];exact c
 intro hq;exact⟨(hq y (by simp)).1,λ a b=>by simpa using(hq a b).2⟩
def iM(es:List En):Int:=if 64<es.length then 4 else if(es.all λ e=>gV e.1)=false then 2 else @ite Int (Tr es) (oS es) 0 12
theorem It(h:iM es=0):es.length<=64/\(es.all λ e=>gV e.1)=true/\Tr es:=by
 unfold iM at h
 split at h
 cases h
 ·split at h
  cases h
  ·split at h
   ·rename_i c a b
    exact⟨by omega,by simpa using a,b⟩
   cases h
theorem SU(c:es.length<=64)(a:(es.all λ e=>gV e.1)=true)(b:Tr es):iM es=0:=by
 unfold iM;rw[Ay (by omega),Ay (by rw[a];decide),AC b]
theorem Ks{l:Bs}(h:gV l=true):l.length<=102:=by
 rw[<- OH,mS]at h;simp only[Bn,A9]at h;exact h.1
def lB(e:En):Bs:=AX e.1.length::(e.1++b8 e.2)
def gX(es:List En):Bs:=es.flatMap lB
def iC(es:List En):Bs×Int:=if iM es=0 then(gX es,0)else([],iM es)
theorem Lz(e:En):(lB e).length=e.1.length+9:=by simp[lB,Iw]
def Sm(es:List En):Prop:=∀e∈es,e.1.length<=255
theorem Jr(h:iM es=0):Sm es:=by
 intro e a;have:=(It h).2.1;rw[Dj]at this;have:=Ks (this e a);omega
def one:Bs->Option (En×Bs)
 | []=>none
 | n::t=>if t.length<n.toNat+8 then none else some ((t.take n.toNat,AL (val ((t.drop n.toNat).take 8))),t.drop (n.toNat+8))
theorem Mp{e:En}(h:e.1.length<=255)(r:Bs):one (lB e++r)=some (e,r):=by
 have c:(AX e.1.length).toNat=e.1.length:=by rw[Bm];omega
 obtain⟨p,b⟩:=e;simp only at c h;show one (AX p.length::((p++b8 b)++r))=_;have a:=Iw b;simp only[one];rw[c,Ay (by simp[a]),AT,DK,Dt]
 have d:(b8 b++r).take 8=b8 b:=by rw[<- a,DK]
 have f:(p++(b8 b++r)).drop (p.length+8)=r:=by
  rw[<- AT]
  have:p.length+8=(p++b8 b).length:=by rw[Ax,a]
  rw[this,Dt]
 rw[d,f,LP]
theorem L8{e:En}(h:one b=some (e,r)):b=lB e++r/\e.1.length<=255:=by
 cases b with
 | nil=>cases h
 | cons n t =>
  simp only[one]at h
  split at h
  cases h
  ·rename_i c
   have d:=n.toNat_lt;simp only[GY,Fz]at h;obtain⟨rfl,rfl⟩:=h
   have a:(t.take n.toNat).length=n.toNat:=by rw[AE];omega
   refine⟨?_,by show(t.take n.toNat).length<=255;omega⟩
   show n::t=AX (t.take n.toNat).length::((t.take n.toNat++b8 (AL (val ((t.drop n.toNat).take 8))))++t.drop (n.toNat+8))
   rw[a,Sz (by rw[AE,AO];omega),AT,<- Be,BC,BC]
   congr 1
   apply UInt8.toNat_inj.1;rw[Bm];omega
theorem K2:∀(es a:List En) (r:Bs),Sm es->Sm a->gX a=gX es++r->∃t,a=es++t/\gX t=r
 | [],a,r,_,_,h=>⟨a,rfl,h⟩
 | e::es,[],r,_,_,h=>by simp[gX,lB]at h
 | e::es,e'::a,r,h1,h2,h=>by
  have d:lB e'++gX a=lB e++(gX es++r):=by
   simpa[gX]using h
  have c:=Mp (h2 e' (by simp)) (gX a);rw[d,Mp (h1 e (by simp))]at c;simp only[GY,Fz]at c;obtain⟨rfl,g⟩:=c;obtain⟨t,rfl,f⟩:=K2 es a r (λ x b=>h1 x (by simp[b])) (λ x b=>h2 x (by simp[b])) g.symm;exact⟨t,rfl,f⟩
theorem Ox(es:List En)(e:En):gX (es++[e])=gX es++lB e:=by simp[gX]
theorem Sm.snoc{e:En}(h:Sm es)(k:e.1.length<=255):Sm (es++[e]):=by
 intro x a
 rcases AN.1 a with q|q
 exact h x q
 have:x=e:=by simpa using q
 rw[this];exact k
def RT(b:Bs)(es:List En)(e:Int):Prop:=(e=0/\iM es=0/\gX es=b)∨(e=9/\es=[]/\∀es',iM es'=0->gX es'≠b)
theorem SO(d:Sm es)(g:64<es.length)(e:b=gX es++r):RT b [] 9:=by
 refine .inr ⟨rfl,rfl,λ a c f=>?_⟩;obtain⟨t,rfl,_⟩:=K2 es a r d (Jr c) (by rw[f,e]);have:=(It c).1;simp at this;omega
theorem Q8(e:Sm es)(f:b=gX es++r)(g:r≠[])(h:one r=none):RT b [] 9:=by
 refine .inr ⟨rfl,rfl,λ a d i=>?_⟩;obtain⟨t,rfl,c⟩:=K2 es a r e (Jr d) (by rw[i,f])
 cases t with
 | nil=>exact g (by rw[<- c];rfl)
 | cons x t =>
  have:=Mp (Jr d x (by simp)) (gX t);rw[show lB x++gX t=gX (x::t) by simp[gX],c,h]at this;cases this
theorem OZ(d:Sm es)(e:gX es=b)(f:iM es≠0):RT b [] 9:=by
 refine .inr ⟨rfl,rfl,λ a c h=>?_⟩;obtain⟨t,rfl,g⟩:=K2 es a [] d (Jr c) (by rw[h,e,Bz])
 cases t with
 | nil=>exact f (by simpa using c)
 | cons x t=>simp[gX,lB]at g
theorem Up(h:(iC es).2=0):RT (iC es).1 es 0:=by
 unfold iC at h ⊢
 split at h
 ·rename_i q
  rw[AC q];exact .inl ⟨rfl,q,rfl⟩
 ·rename_i q
  exact absurd h q
theorem RT.back(h:RT b es 0):iC es=(b,0):=by
 rcases h with⟨_,a,c⟩ | ⟨h,_⟩
 unfold iC;rw[AC a,c]
 cases h
structure Cm where
 tree:UInt64
 ps:List UInt64
 date:Int
 note:Bs
variable {c:Cm}
def dw(d:Int):UInt64:=AL (d % 18446744073709551616).toNat
def lK(v:Nat):Int:=if v<9223372036854775808 then(v:Int)else(v:Int) - 18446744073709551616
theorem PJ(d:Int):((dw d).toNat:Int)=d % 18446744073709551616:=by
 unfold dw;rw[Cf];omega
theorem Vo{v:Nat}(h:v<18446744073709551616):dw (lK v)=AL v:=by
 unfold dw lK
 congr 1
 split <;> omega
theorem Po{d:Int}(a:0<=d)(b:d<=1099511627776):lK (val (b8 (dw d)))=d:=by
 have:=PJ d;rw[L9];unfold lK
 split <;> omega
def lA:Cm:=⟨0,[],0,[]⟩
def jm(c:Cm):Int:=if 8<c.ps.length∨64<c.note.length then 4 else if ¬c.ps.Nodup then 6 else if c.date<0∨1099511627776<c.date then 3 else 0
theorem GV(h:jm c=0):c.ps.length<=8/\c.note.length<=64/\c.ps.Nodup/\0<=c.date/\c.date<=1099511627776:=by
 unfold jm at h
 split at h
 cases h
 ·split at h
  cases h
  ·split at h
   cases h
   ·rename_i b a d
    exact⟨by omega,by omega,by simpa using a,by omega,by omega⟩
def kZ(ps:List UInt64):Bs:=ps.flatMap b8
def kl(c:Cm):Bs:=b8 c.tree++(AX c.ps.length::(kZ c.ps++(b8 (dw c.date)++(AX c.note.length::c.note))))
def je(c:Cm):Bs×Int:=if jm c=0 then(kl c,0)else([],jm c)
theorem LC(ps:List UInt64)(x:UInt64):kZ (ps++[x])=kZ ps++b8 x:=by simp[kZ]
theorem JB:∀ps:List UInt64,(kZ ps).length=8*ps.length
 | []=>rfl
 | x::t=>by
  have:=JB t;simp only[kZ,List.flatMap_cons,Ax,Iw,A2]at this ⊢;omega
abbrev Rs:=Bs×Bool
def ie(k:Nat)(r:Rs):Bs×Rs:=if r.1.length<k then([],([],true))else(r.1.take k,(r.1.drop k,r.2))
def iX(r:Rs):Nat×Rs:=(val (ie 8 r).1,(ie 8 r).2)
def jM(r:Rs):Nat×Rs:=(val (ie 1 r).1,(ie 1 r).2)
def jQ(r:Rs):Bs×Rs:=ie (jM r).1 (jM r).2
def iK:Nat->Rs->List UInt64×Rs
 | 0,r=>([],r)
 | k+1,r=>((iK k r).1++[AL (iX (iK k r).2).1],(iX (iK k r).2).2)
def kX(b:Bs):Cm×Rs :=
 (⟨AL (iX (b,false)).1,(iK (jM (iX (b,false)).2).1 (jM (iX (b,false)).2).2).1,lK (iX (iK (jM (iX (b,false)).2).1 (jM (iX (b,false)).2).2).2).1,
   (jQ (iX (iK (jM (iX (b,false)).2).1 (jM (iX (b,false)).2).2).2).2).1⟩,
  (jQ (iX (iK (jM (iX (b,false)).2).1 (jM (iX (b,false)).2).2).2).2).2)
theorem IV(k:Nat)(r:Rs):(ie k r).1.length<=k:=by
 unfold ie
 split
 simp
 rw[AE];omega
theorem KV(r:Rs):(iX r).1<18446744073709551616:=JO (IV 8 r)
theorem NM(r:Rs):(jM r).1<=255:=NC (IV 1 r)
theorem Z2(r:Rs):(jQ r).1.length<=255:=AU (IV _ _) (NM r)
theorem LW:∀(k:Nat) (r:Rs),(iK k r).1.length=k
 | 0,_=>rfl
 | k+1,r=>by simp[iK,LW k r]
theorem KQ{a t:Bs}(s:Bool)(h:a.length=k):ie k (a++t,s)=(a,(t,s)):=by
 subst h;unfold ie;rw[Ay (by simp)];simp
theorem Nv(x:UInt64)(t:Bs)(s:Bool):iX (b8 x++t,s)=(x.toNat,(t,s)):=by
 unfold iX;rw[KQ s (Iw x),L9]
theorem M9(n:Nat)(b:n<=255)(t:Bs)(s:Bool):jM (AX n::t,s)=(n,(t,s)):=by
 have:=KQ (a:=[AX n]) (t:=t) (k:=1) s rfl;rw[show[AX n]++t=AX n::t from rfl]at this;unfold jM;rw[this]
 have e:(AX n).toNat=n:=by rw[Bm];omega
 simp[val,e]
theorem Rb:∀(n:Nat) (ps:List UInt64) (t:Bs) (s:Bool),ps.length=n->iK n (kZ ps++t,s)=(ps,(t,s))
 | 0,ps,t,s,h=>by rw[List.eq_nil_of_length_eq_zero h];rfl
 | n+1,ps,t,s,h=>by
  have a:ps≠[]:=by intro e;rw[e]at h;simp at h
  obtain⟨q,x,rfl⟩:∃q x,ps=q++[x]:=⟨ps.dropLast,ps.getLast a,(List.dropLast_concat_getLast a).symm⟩
  have b:=Rb n q (b8 x++t) s (by simpa using h);rw[LC,AT,iK,b];simp only;rw[Nv];simp
theorem Ra(h:jm c=0):kX (kl c)=(c,([],false)):=by
 obtain⟨l,m,_,j,k⟩:=GV h;have d:iX (kl c,false)=(c.tree.toNat,(AX c.ps.length::(kZ c.ps++(b8 (dw c.date)++(AX c.note.length::c.note))),false)):=Nv _ _ _;have e:=M9 c.ps.length (by omega) (kZ c.ps++(b8 (dw c.date)++(AX c.note.length::c.note))) false;have f:=Rb _ c.ps (b8 (dw c.date)++(AX c.note.length::c.note)) false rfl;have g:=Nv (dw c.date) (AX c.note.length::c.note) false
 have i:jQ (AX c.note.length::c.note,false)=(c.note,([],false)):=by
  unfold jQ;rw[M9 _ (by omega)];have:=KQ (a:=c.note) (t:=[]) false rfl;rw[Bz]at this;exact this
 have b:=Po j k;rw[L9]at b;unfold kX;rw[d,e,f,g,i];simp[b]
theorem NI{r:Rs}(h:(ie k r).2.2=false):r.2=false/\r.1=(ie k r).1++(ie k r).2.1/\(ie k r).1.length=k:=by
 unfold ie at h ⊢
 split at h
 cases h
 ·rename_i q
  rw[Ay q];exact⟨h,by simp,by simp;omega⟩
theorem Nd{r:Rs}(h:(iX r).2.2=false):r.2=false/\r.1=b8 (AL (iX r).1)++(iX r).2.1:=by
 obtain⟨a,b,c⟩:=NI (k:=8) (r:=r) h;refine⟨a,?_⟩;unfold iX;simp only;rw[Sz c];exact b
theorem Tx{r:Rs}(h:(jM r).2.2=false):r.2=false/\r.1=AX (jM r).1::(jM r).2.1:=by
 obtain⟨b,a,c⟩:=NI (k:=1) (r:=r) h;refine⟨b,?_⟩;unfold jM;simp only;obtain⟨x,d⟩:=List.length_eq_one_iff.1 c;rw[d]at a ⊢;rw[a]
 have:AX (val [x])=x:=by simp[val]
 rw[this]
 rfl
theorem TE:∀{k:Nat} {r:Rs},(iK k r).2.2=false->r.2=false/\r.1=kZ (iK k r).1++(iK k r).2.1
 | 0,r,h=>⟨h,rfl⟩
 | k+1,r,h=>by
  obtain⟨a,b⟩:=Nd (r:=(iK k r).2) h;obtain⟨c,d⟩:=TE a;refine⟨c,?_⟩;rw[d,b];simp only[iK];rw[LC,AT]
theorem Se(h:(kX b).2=([],false)):kl (kX b).1=b:=by
 obtain⟨g,m⟩:=Xa (iX (b,false))
 obtain⟨e,n⟩:=Xa (jM g.2)
 obtain⟨d,i⟩:=Xa (iK e.1 e.2)
 obtain⟨a,j⟩:=Xa (iX d.2)
 obtain⟨c,l⟩:=Xa (jQ a.2)
 have hp:kX b=(⟨AL g.1,d.1,lK a.1,c.1⟩,c.2):=by
  unfold kX;rw[m,n,i,j,l]
 rw[hp]at h ⊢;simp only at h;have s:=NI (k:=(jM a.2).1) (r:=(jM a.2).2) (by show(jQ a.2).2.2=false;rw[l,h])
 have t:(jM a.2).2.1=c.1:=by
  have:=s.2.1;rw[show ie (jM a.2).1 (jM a.2).2=c from l,h,Bz]at this;exact this
 have u:c.1.length=(jM a.2).1:=by
  have:=s.2.2;rw[show ie (jM a.2).1 (jM a.2).2=c from l]at this;exact this
 have f:=Tx s.1;have q:=Nd (r:=d.2) (by rw[j];exact f.1);have p:=TE (k:=e.1) (r:=e.2) (by rw[i];exact q.1);have o:=Tx (r:=g.2) (by rw[n];exact p.1);have v:=Nd (r:=(b,false)) (by rw[m];exact o.1)
 have w:d.1.length=e.1:=by rw[<- i];exact LW _ _
 have hd:dw (lK a.1)=AL a.1:=Vo (by rw[<- j];exact KV _);rw[j,f.2,t,<- u]at q;rw[i,q.2]at p;rw[n,p.2]at o;rw[m,o.2]at v;show b8 (AL g.1)++(AX d.1.length::(kZ d.1++(b8 (dw (lK a.1))++(AX c.1.length::c.1))))=b;rw[w,hd];exact v.2.symm
def RC(b:Bs)(c:Cm)(e:Int):Prop:=(e=0/\jm c=0/\kl c=b)∨(e=9/\c=lA/\∀c',jm c'=0->kl c'≠b)
theorem Wt(h:(kX b).2=([],false))(k:jm (kX b).1=0):RC b (kX b).1 0:=.inl ⟨rfl,k,Se h⟩
theorem MC(h:(kX b).2≠([],false)∨jm (kX b).1≠0):RC b lA 9:=by
 refine .inr ⟨rfl,rfl,λ c' a c=>?_⟩;have:=Ra a;rw[c]at this;rw[this]at h
 rcases h with h|h
 exact h rfl
 exact h a
def kw(s:Bs)(i:Nat):UInt64:=AL (val ((s.drop (9+8*i)).take 8))
def kT(s:Bs)(n:Nat):Cm:=⟨AL (val (s.take 8)),(List.range n).map (kw s),lK (val ((s.drop (9+8*n)).take 8)),s.drop (18+8*n)⟩
theorem QL:∀(ps:List UInt64) (i:Nat),(kZ ps).drop (8*i)=kZ (ps.drop i)
 | ps,0=>by simp
 | [],i+1=>by simp[kZ]
 | x::t,i+1=>by
  have:=QL t i;rw[show 8*(i+1)=8+8*i by omega,<- Be];show Im (8*i) (Im 8 (b8 x++kZ t))=kZ (t.drop i)
  have e:(b8 x++kZ t).drop 8=kZ t:=by
   have l:=Iw x;rw[<- l,Dt]
  rw[e,this]
theorem JA(h:jm c=0):kT (kl c) c.ps.length=c/\(kl c).length=18+8*c.ps.length+c.note.length/\(kl c)[8]? = some (AX c.ps.length):=by
 obtain⟨v,w,_,q,r⟩:=GV h;have d:=Iw c.tree;have e:=Iw (dw c.date);have f:=JB c.ps
 have s:(kl c).take 8=b8 c.tree:=by unfold kl;rw[<- d,DK]
 have k:(kl c).drop 8=AX c.ps.length::(kZ c.ps++(b8 (dw c.date)++(AX c.note.length::c.note))):=by unfold kl;rw[<- d,Dt]
 have m:(kl c).drop 9=kZ c.ps++(b8 (dw c.date)++(AX c.note.length::c.note)):=by
  rw[show 9=8+1 from rfl,<- Be,k];rfl
 have dn:(kl c).drop (9+8*c.ps.length)=b8 (dw c.date)++(AX c.note.length::c.note):=by
  rw[<- Be,m,<- f,Dt]
 have n:(kl c).drop (18+8*c.ps.length)=c.note:=by
  rw[show 18+8*c.ps.length=(9+8*c.ps.length)+(8+1) by omega,<- Be,dn,<- Be]
  have:(b8 (dw c.date)++(AX c.note.length::c.note)).drop 8=AX c.note.length::c.note:=by rw[<- e,Dt]
  rw[this];rfl
 refine⟨?_,?_,?_⟩
 obtain⟨u,a,g,j⟩:=c;simp only at *;unfold kT;rw[s,dn,n,LP]
 have o:(b8 (dw g)++(AX j.length::j)).take 8=b8 (dw g):=by rw[<- e,DK]
 rw[o,Po q r]
 congr 1
 apply List.ext_getElem
 simp
 intro i hi b;simp only[List.getElem_map,List.getElem_range];unfold kw;rw[<- Be,m,List.drop_append_of_le_length (by rw[f];omega),QL,List.drop_eq_getElem_cons b]
 have p:∀t:Bs,(kZ (a[i]::a.drop (i+1))++t).take 8=b8 a[i]:=by
  intro t;show((b8 a[i]++kZ (a.drop (i+1)))++t).take 8=_;rw[AT,<- Iw a[i],DK]
 rw[p,LP]
 simp[kl,d,e,f];omega
 have:=A7 (λ l=>l[0]?) k;simpa[List.getElem?_drop]using this
theorem VJ(h:je (kT s n)=(s,0)):RC s (kT s n) 0:=by
 unfold je at h
 split at h
 ·rename_i q
  simp only[Fz]at h;exact .inl ⟨rfl,q,h.1⟩
 ·rename_i q
  simp only[Fz]at h;exact absurd h.2 q
theorem TO(i:s[8]? = some (AX n))(k:n<=8)(h:je (kT s n)≠(s,0)):RC s lA 9:=by
 refine .inr ⟨rfl,rfl,λ c' a c=>?_⟩;obtain⟨d,l,b⟩:=JA a;rw[c]at d b;rw[i]at b
 have e:n=c'.ps.length:=by
  have j:=(GV a).1
  have f:AX n=AX c'.ps.length:=by simpa using b
  have g:=A7 Ib f;rw[Bm,Bm]at g;omega
 rw[e,d]at h;apply h;unfold je;rw[AC a,c]
theorem RA(h:s.length<9∨(∃n:Nat,s[8]? = some (AX n)/\n<=255/\(8<n∨s.length<18+8*n))):RC s lA 9:=by
 refine .inr ⟨rfl,rfl,λ c' c g=>?_⟩;obtain⟨k,i,a⟩:=JA c;rw[g]at i a
 rcases h with h|⟨n,f,b,h⟩
 omega
 rw[f]at a;have j:=(GV c).1
 have d:AX n=AX c'.ps.length:=by simpa using a
 have e:=A7 Ib d;rw[Bm,Bm]at e;omega
end Go.Proofs.YtakgkgmopmcecaaGreat
namespace Go.Proofs.YtakgkgmopmcecaaGreat
variable {D:Fk Ar}{Q:Exit->Act->Ap->Prop}{S S' T:Nat->Prop}{X X':Bs->Prop}{a ao:Option Addr}{b bs r s x:Bs}{base cl g i k m n:Nat}{c:Cm}{e t:AP}{es:List En}{f:Bs->Option Ar}{ops:Array Oper}{u w w' w1:Ap}{v:Ar}{α:Type}
abbrev Fs:=List (Bs×Bs)
variable {F:Fs}
def Gg(l:Fs):Prop:=l.Pairwise (λ a b=>a.1<b.1)
def ip:Fs->Bs->Option Bs
 | [],_=>none
 | f::t,n=>if f.1=n then some f.2 else ip t n
def ig:Fs->Bs->Bs->Fs
 | [],n,v=>[(n,v)]
 | f::t,n,v=>if n<f.1 then(n,v)::f::t else if f.1=n then(n,v)::t else f::ig t n v
theorem IC(a:Bs):¬a<a:=Eb a
theorem Od{a:Bs}(h:a<b):¬b<a:=List.lt_asymm h
theorem LJ{a c:Bs}(h:a<b)(k:b<c):a<c:=GP h k
theorem Ki(a b:Bs):a<b∨a=b∨b<a:=by
 by_cases h:a<b
 exact .inl h
 by_cases k:b<a
 exact .inr (.inr k)
 exact .inr (.inl (List.le_antisymm k h))
theorem Pq:∀{l:Fs} {n v:Bs},ip l n=some v->(n,v)∈l
 | [],_,_,h=>by simp[ip]at h
 | f::t,n,v,h=>by
  unfold ip at h
  split at h
  ·rename_i e
   cases h;rw[<- e];exact Bj
  exact Bl _ (Pq h)
theorem QJ:∀{l:Fs} {n:Bs},ip l n=none↔∀f∈l,f.1≠n
 | [],n=>by simp[ip]
 | f::t,n=>by
  unfold ip;by_cases e:f.1=n;simp[e];rw[Ay e,QJ (l:=t)];simp[e]
theorem MP:∀(l:Fs) (n v:Bs) (f:Bs×Bs),f∈ig l n v->f=(n,v)∨f∈l
 | [],n,v,f,h=>by simp[ig]at h;exact .inl h
 | g::t,n,v,f,h=>by
  unfold ig at h
  split at h
  rcases Bv.1 h with e|e
  exact .inl e;exact .inr e
  split at h
  rcases Bv.1 h with e|e
  exact .inl e;exact .inr (Bl _ e)
  rcases Bv.1 h with e|e
  rw[e];exact .inr Bj
  rcases MP t n v f e with q|q
  exact .inl q;exact .inr (Bl _ q)
theorem Qj:∀{l:Fs} (n v:Bs),Gg l->Gg (ig l n v)
 | [],n,v,_=>E8 _ _
 | f::t,n,v,h=>by
  obtain⟨b,d⟩:=Br.1 h;unfold ig
  split
  ·rename_i lt
   refine Br.2 ⟨λ g a=>?_,h⟩
   rcases Bv.1 a with rfl|q
   exact lt;exact LJ lt (b g q)
  ·split
   ·rename_i e
    refine Br.2 ⟨λ g a=>?_,d⟩;show n<g.1;rw[<- e];exact b g a
   ·rename_i c ne
    refine Br.2 ⟨λ g a=>?_,Qj n v d⟩
    rcases MP t n v g a with rfl|q
    show f.1<n
    rcases Ki f.1 n with q|q|q
    exact q;exact absurd q ne;exact absurd q c;exact b g q
theorem MH:∀{l:Fs} (n v m:Bs),Gg l->ip (ig l n v) m=if n=m then some v else ip l m
 | [],n,v,m,_=>by simp[ig,ip]
 | f::t,n,v,m,h=>by
  obtain⟨b,a⟩:=Br.1 h;unfold ig
  split
  simp only[ip]
  ·split
   ·rename_i e
    simp only[ip];by_cases q:n=m;rw[AC q,AC q];rw[Ay q,Ay q,Ay (by rw[e];exact q)]
   ·rename_i ne
    simp only[ip,MH n v m a];by_cases q:f.1=m;rw[AC q,AC q,Ay (λ e=>ne (by rw[q,e]))];rw[Ay q,Ay q]
theorem NX:∀{l:Fs} (n v:Bs),Gg l->(ig l n v).length=l.length+(if(ip l n).isSome then 0 else 1)
 | [],n,v,_=>by simp[ig,ip]
 | f::t,n,v,h=>by
  obtain⟨a,b⟩:=Br.1 h;unfold ig
  split
  ·rename_i lt
   have nn:ip (f::t) n=none:=QJ.2 (λ x c e=>by
    rcases Bv.1 c with rfl|q
    rw[e]at lt;exact IC _ lt;have:=LJ lt (a x q);rw[e]at this
    exact IC _ this)
   rw[nn];simp
  ·split
   ·rename_i e
    simp[ip,e]
   ·rename_i ne
    have:=NX n v b;simp only[A2,ip,Ay ne,this];omega
structure Dk where
 files:Fs
 writes:Nat
 armed:Bool
 dead:Bool
 after:Nat
 keep:Nat
def lM:Dk:=⟨[],0,false,false,0,0⟩
def ij(d:Dk):Dk×Bool×Bool :=
 if d.dead then(d,false,false)
 else if d.armed&&d.after==0 then({ d with dead:=true,armed:=false },false,true)
 else({ d with after:=if d.armed then d.after - 1 else d.after,writes:=d.writes+1 },true,false)
def mz(d:Dk)(n own more:Bs):Dk×Int :=
 if gS n=false then(d,2)
 else if 262144<own.length+more.length∨(ip d.files n=none/\32<=d.files.length)then(d,7)
 else if(ij d).2.1 then({ (ij d).1 with files:=ig d.files n (own++more) },0)
 else if(ij d).2.2 then({ (ij d).1 with files:=ig d.files n (own++more.take d.keep) },8)
 else((ij d).1,8)
def kf(d:Dk)(n v:Bs):Dk×Int:=mz d n ((ip d.files n).getD []) v
theorem Ot(d:Dk):(ij d).1.files=d.files:=by
 unfold ij
 split
 rfl
 ·split <;> rfl
abbrev Nm(α:Type):=Bs×α
def GL{α:Type}(l:List (Nm α)):Prop:=l.Pairwise (λ a b=>a.1<b.1)
def iu{α:Type}:List (Nm α)->Bs->Option α
 | [],_=>none
 | f::t,n=>if f.1=n then some f.2 else iu t n
def kh{α:Type}(l:List (Nm α))(n:Bs):List (Nm α):=l.filter (λ f=>!(f.1==n))
def kK{α:Type}:List (Nm α)->Bs->α->List (Nm α)
 | [],n,v=>[(n,v)]
 | f::t,n,v=>if n<f.1 then(n,v)::f::t else f::kK t n v
def jp{α:Type}(l:List (Nm α))(n:Bs)(v:α):List (Nm α):=kK (kh l n) n v
section
variable {α:Type}
theorem IQ:∀{l:List (Nm α)} {n:Bs},iu l n=none↔∀f∈l,f.1≠n
 | [],n=>by simp[iu]
 | f::t,n=>by
  unfold iu;by_cases e:f.1=n;simp[e];rw[Ay e,IQ (l:=t)];simp[e]
theorem J0:∀(l:List (Nm α)) (n m:Bs),iu (kh l n) m=if n=m then none else iu l m
 | [],n,m=>by simp[kh,iu]
 | f::t,n,m=>by
  have a:=J0 t n m;unfold kh at a ⊢;rw[ED];by_cases e:f.1=n;simp only[e,beq_self_eq_true,Bool.not_true,Bool.false_eq_true,Ek,a,iu];by_cases q:n=m;rw[AC q,AC q];rw[Ay q,Ay q,Ay q]
  have b:(!(f.1==n))=true:=by simpa using e
  rw[AC b];simp only[iu,a];by_cases q:f.1=m;rw[AC q,AC q,Ay (λ r=>e (by rw[q,r]))];rw[Ay q,Ay q]
theorem RD:∀{l:List (Nm α)} (n:Bs) (v:α) (m:Bs),iu l n=none->iu (kK l n v) m=if n=m then some v else iu l m
 | [],n,v,m,_=>by simp[kK,iu]
 | f::t,n,v,m,h=>by
  have a:f.1≠n:=(IQ.1 h) f Bj;have b:iu t n=none:=IQ.2 (λ g c=>(IQ.1 h) g (Bl _ c));unfold kK
  split
  simp only[iu];simp only[iu,RD n v m b];by_cases q:f.1=m;rw[AC q,AC q,Ay (λ e=>a (by rw[q,e]))];rw[Ay q,Ay q]
theorem Om(l:List (Nm α))(n:Bs)(v:α)(m:Bs):iu (jp l n v) m=if n=m then some v else iu l m:=by
 unfold jp;rw[RD n v m (by rw[J0,AC rfl]),J0];by_cases q:n=m
 rw[AC q,AC q]
 rw[Ay q,Ay q,Ay q]
theorem TV{l:List (Nm α)}(n:Bs)(h:GL l):GL (kh l n):=Ic _ h
theorem Rq:∀(l:List (Nm α)) (n:Bs) (v:α) (f:Nm α),f∈kK l n v->f=(n,v)∨f∈l
 | [],n,v,f,h=>by simp[kK]at h;exact .inl h
 | g::t,n,v,f,h=>by
  unfold kK at h
  split at h
  rcases Bv.1 h with e|e
  exact .inl e;exact .inr e
  rcases Bv.1 h with e|e
  rw[e];exact .inr Bj
  rcases Rq t n v f e with q|q
  exact .inl q;exact .inr (Bl _ q)
theorem OY:∀{l:List (Nm α)} (n:Bs) (v:α),GL l->iu l n=none->GL (kK l n v)
 | [],n,v,_,_=>E8 _ _
 | f::t,n,v,h,hn=>by
  obtain⟨c,d⟩:=Br.1 h;have e:f.1≠n:=(IQ.1 hn) f Bj;have i:iu t n=none:=IQ.2 (λ g a=>(IQ.1 hn) g (Bl _ a));unfold kK
  split
  ·rename_i lt
   refine Br.2 ⟨λ g a=>?_,h⟩
   rcases Bv.1 a with rfl|q
   exact lt;exact LJ lt (c g q)
  ·rename_i b
   refine Br.2 ⟨λ g a=>?_,OY n v d i⟩
   rcases Rq t n v g a with rfl|q
   show f.1<n
   rcases Ki f.1 n with q|q|q
   exact q;exact absurd q e;exact absurd q b;exact c g q
theorem Pt{l:List (Nm α)}(n:Bs)(v:α)(h:GL l):GL (jp l n v):=OY n v (TV n h) (by rw[J0,AC rfl])
theorem OR:∀(l:List (Nm α)) (n:Bs) (v:α),(kK l n v).length=l.length+1
 | [],_,_=>rfl
 | f::t,n,v=>by
  unfold kK
  split
  rfl
  simp[OR t n v]
theorem Py{l:List (Nm α)}{n:Bs}(h:iu l n=none):kh l n=l:=by
 unfold kh;rw[List.filter_eq_self];intro f a;simpa using(IQ.1 h) f a
theorem Oj:∀{l:List (Nm α)} {n:Bs},GL l->(iu l n).isSome=true->(kh l n).length+1=l.length
 | [],_,_,h=>by simp[iu]at h
 | f::t,n,hr,h=>by
  obtain⟨b,c⟩:=Br.1 hr;by_cases e:f.1=n;have:iu t n=none:=IQ.2 (λ g d q=>IC n (by have:=b g d;rwa [e,q]at this));have q:=Py this;unfold kh at q ⊢;rw[ED];simp[e,q];have a:=Oj (l:=t) (n:=n) c (by simpa[iu,e]using h);unfold kh at a ⊢;rw[ED];simp[e];exact a
theorem Lk{l:List (Nm α)}(n:Bs)(v:α)(h:GL l):(jp l n v).length=if(iu l n).isSome then l.length else l.length+1:=by
 unfold jp;rw[OR]
 cases e:(iu l n).isSome with
 | true=>rw[AC rfl];exact Oj h e
 | false =>
  have:iu l n=none:=by simpa using e
  rw[Py this];simp
end
end Go.Proofs.YtakgkgmopmcecaaGreat
namespace Go.Proofs.YtakgkgmopmcecaaGreat
open Go.RowKit
variable {D:Fk Ar}{F:Fs}{Q:Exit->Act->Ap->Prop}{S S' T:Nat->Prop}{X X':Bs->Prop}{a ao:Option Addr}{b bs r s x:Bs}{base cl g i k m n:Nat}{c:Cm}{e t:AP}{es:List En}{f:Bs->Option Ar}{ops:Array Oper}{u w w' w1:Ap}{v:Ar}{α:Type}
def jC(k:Int)(b:Bs):UInt64:=AL (jl (iV 14695981039346656037 (k % 256)) (ints b)).toNat
theorem K8(a b:Int):0<=iV a b/\iV a b<18446744073709551616:=by
 unfold iV;refine⟨wrap_u64_nonneg _,?_⟩;show Al.wrap _<_;rw[A5];omega
theorem gJ(a:List Int):∀h:Int,0<=h->h<18446744073709551616->0<=jl h a/\jl h a<18446744073709551616:=by
 induction a with
 | nil=>intro h b c;exact⟨b,c⟩
 | cons z t d =>
  intro h _ _;exact d (iV h z) (K8 h z).1 (K8 h z).2
theorem Su(k:Int)(b:Bs):jl (iV 14695981039346656037 (k % 256)) (ints b)=((jC k b).toNat:Int):=by
 have:=gJ (ints b) (iV 14695981039346656037 (k % 256)) (K8 _ _).1 (K8 _ _).2;unfold jC;rw[Cf];omega
theorem Yn(xss:List Bs):∀h,jO h (xss.map ints)=jl h (ints xss.flatten):=by
 induction xss with
 | nil=>intro h;rfl
 | cons x t a =>
  intro h;show jO (jl h (ints x)) (t.map ints)=_;rw[a];simp[jl,ints,List.foldl_append]
def lF:Nat->Bs->Option (List En)
 | 0,b=>if b=[]then some []else none
 | k+1,b=>if b=[]then some []else match one b with
  | none=>none
  | some (e,r)=>(lF k r).map (e::·)
def jE(b:Bs):Option (List En):=match lF 64 b with
 | none=>none
 | some es=>if iM es=0 then some es else none
def jF(b:Bs):Option Cm:=if(kX b).2=([],false)/\jm (kX b).1=0 then some (kX b).1 else none
theorem Te:∀(k:Nat) (es:List En),es.length<=k->Sm es->lF k (gX es)=some es
 | 0,[],_,_=>by simp[lF,gX]
 | 0,e::t,h,_=>by simp at h
 | k+1,[],_,_=>by simp[lF,gX]
 | k+1,e::t,h,hs=>by
  have b:gX (e::t)=lB e++gX t:=by simp[gX]
  have a:¬gX (e::t)=[]:=by rw[b];simp[lB]
  have c:=hs e Bj;rw[lF,Ay a,b,Mp c];simp only[Te k t (by simp at h;omega) (λ x d=>hs x (Bl _ d)),Option.map_some]
theorem Ps:∀(k:Nat) (b:Bs) (es:List En),lF k b=some es->gX es=b
 | 0,b,es,h=>by
  unfold lF at h
  split at h
  ·rename_i e
   cases h;rw[e]
   rfl
  cases h
 | k+1,b,es,h=>by
  unfold lF at h
  split at h
  ·rename_i e
   cases h;rw[e]
   rfl
  ·split at h
   cases h
   ·rename_i e r a
    cases hp:lF k r with
    | none=>rw[hp]at h;cases h
    | some t =>
     rw[hp]at h;cases h;have:=Ps k r t hp;rw[(L8 a).1];simp[gX,<- this]
theorem JC(h:jE b=some es):iM es=0/\gX es=b:=by
 unfold jE at h
 split at h
 cases h
 ·rename_i t c
  split at h
  ·rename_i a
   cases h;exact⟨a,Ps _ _ _ c⟩
  cases h
theorem Lb(h:iM es=0):jE (gX es)=some es:=by
 unfold jE;rw[Te 64 es (It h).1 (Jr h)];simp[h]
theorem RT.rd{e:Int}(h:RT b es e):(e=0/\jE b=some es)∨(e=9/\es=[]/\jE b=none):=by
 rcases h with⟨rfl,a,rfl⟩ | ⟨rfl,rfl,a⟩
 exact .inl ⟨rfl,Lb a⟩
 refine .inr ⟨rfl,rfl,?_⟩
 cases e:jE b with
 | none=>rfl
 | some es=>exact absurd (JC e).2 (a es (JC e).1)
theorem JD(h:jF b=some c):jm c=0/\kl c=b:=by
 unfold jF at h
 split at h
 ·rename_i a
  cases h;exact⟨a.2,Se a.1⟩
 cases h
theorem KO(h:jm c=0):jF (kl c)=some c:=by
 unfold jF;rw[Ra h];simp[h]
theorem RC.rd{e:Int}(h:RC b c e):(e=0/\jF b=some c)∨(e=9/\c=lA/\jF b=none):=by
 rcases h with⟨rfl,a,rfl⟩ | ⟨rfl,rfl,a⟩
 exact .inl ⟨rfl,KO a⟩
 refine .inr ⟨rfl,rfl,?_⟩
 cases e:jF b with
 | none=>rfl
 | some c=>exact absurd (JD e).2 (a c (JD e).1)
structure Ob where
 kind:Int
 id:UInt64
 body:Bs
def iq:List Ob->Int->UInt64->Option Bs
 | [],_,_=>none
 | o::t,k,i=>if o.kind=k/\o.id=i then some o.body else iq t k i
theorem KA:∀{l:List Ob} {k:Int} {i:UInt64} {b:Bs},iq l k i=some b->(⟨k,i,b⟩:Ob)∈l
 | [],_,_,_,h=>by simp[iq]at h
 | o::t,k,i,b,h=>by
  unfold iq at h
  split at h
  ·rename_i e
   cases h;rw[<- e.1,<- e.2];exact Bj
  exact Bl _ (KA h)
theorem Je:∀(l:List Ob) (o:Ob) (k:Int) (i:UInt64),iq (l++[o]) k i=match iq l k i with
  | some b=>some b
  | none=>if o.kind=k/\o.id=i then some o.body else none
 | [],o,k,i=>by simp[iq]
 | p::t,o,k,i=>by
  rw[Dh];unfold iq
  split
  rfl
  exact Je t o k i
theorem OQ:∀{l:List Ob} {k:Int} {i:UInt64},iq l k i=none↔∀o∈l,¬(o.kind=k/\o.id=i)
 | [],k,i=>by simp[iq]
 | o::t,k,i=>by
  unfold iq;by_cases e:o.kind=k/\o.id=i;simp[e];rw[Ay e,OQ (l:=t)]
  constructor
  intro h x a
  rcases Bv.1 a with rfl|q
  exact e;exact h x q;intro h x a;exact h x (Bl _ a)
structure St where
 objs:List Ob
 refs:List (Nm UInt64)
 tags:List (Nm UInt64)
variable {st:St}
def mH:St:=⟨[],[],[]⟩
def St.has(st:St)(k:Int)(i:UInt64):Bool:=(iq st.objs k i).isSome
def St.blobs(st:St)(es:List En):Bool:=es.all (λ e=>st.has 1 e.2)
def St.above(st:St)(c:Cm):Bool:=c.ps.all (λ p=>st.has 3 p)&&st.has 2 c.tree
def jf(b:Bs):UInt64:=AL (val (b.take 8))
def iL(b:Bs):Bs:=b.drop 8
def ji(i:UInt64)(n:Bs):Bs:=b8 i++n
theorem IR(i:UInt64)(n:Bs):jf (ji i n)=i:=by
 unfold jf ji;rw[List.take_left' (Iw i),LP]
theorem IJ(i:UInt64)(n:Bs):iL (ji i n)=n:=by
 unfold iL ji;rw[List.drop_left' (Iw i)]
theorem Gq(i:UInt64)(n:Bs):(ji i n).length=8+n.length:=by simp[ji,Iw]
def St.take(st:St)(f:Fr):St :=
 if f.1=4 then { st with refs:=if jf f.2=0 then kh st.refs (iL f.2)else jp st.refs (iL f.2) (jf f.2) }
 else if f.1=5 then { st with tags:=jp st.tags (iL f.2) (jf f.2) }
 else { st with objs:=st.objs++[⟨f.1,jC f.1 f.2,f.2⟩] }
def St.right(st:St)(f:Fr):Bool :=
 if f.1=1 then decide (f.2.length<=4096)
 else if f.1=2 then(match jE f.2 with | none=>false | some es=>st.blobs es)
 else if f.1=3 then(match jF f.2 with | none=>false | some c=>st.above c)
 else false
def St.fits(st:St)(f:Fr):Bool :=
 if f.1=4∨f.1=5 then decide (8<=f.2.length)&&gS (iL f.2) &&
  (if f.1=5 then st.has 3 (jf f.2)&&!(iu st.tags (iL f.2)).isSome else if jf f.2=0 then(iu st.refs (iL f.2)).isSome else st.has 3 (jf f.2))
 else st.right f&&!(decide (jC f.1 f.2=0))&&!(st.has f.1 (jC f.1 f.2))
def jI:Bs:=[111,98,106,101,99,116,115]
def iB(st:St)(d:Dk)(f:Fr):St×Dk×Int :=
 (if(kf d jI (jB f).1).2=0 then st.take f else st,(kf d jI (jB f).1).1,(kf d jI (jB f).1).2)
def iy(st:St)(d:Dk)(k:Int)(b:Bs):(St×Dk)×UInt64×Int :=
 match iq st.objs k (jC k b)with
 | some old=>if old=b then((st,d),jC k b,0)else((st,d),0,13)
 | none=>if jC k b=0 then((st,d),0,13)else
   (((iB st d (k,b)).1,(iB st d (k,b)).2.1),if(iB st d (k,b)).2.2=0 then jC k b else 0,(iB st d (k,b)).2.2)
def jk(st:St)(d:Dk)(b:Bs):(St×Dk)×UInt64×Int:=if 4096<b.length then((st,d),0,4)else iy st d 1 b
def ja(st:St)(d:Dk)(es:List En):(St×Dk)×UInt64×Int :=
 if(iC es).2≠0 then((st,d),0,(iC es).2)else if st.blobs es=false then((st,d),0,5)else iy st d 2 (iC es).1
def jV(st:St)(d:Dk)(c:Cm):(St×Dk)×UInt64×Int :=
 if(je c).2≠0 then((st,d),0,(je c).2)else if st.above c=false then((st,d),0,5)else iy st d 3 (je c).1
def kH(st:St)(d:Dk)(n:Bs)(i:UInt64):St×Dk×Int :=
 if gS n=false then(st,d,2)else if st.has 3 i=false then(st,d,5)else iB st d (4,ji i n)
def jx(st:St)(d:Dk)(n:Bs):St×Dk×Int :=
 if gS n=false then(st,d,2)else if(iu st.refs n).isSome=false then(st,d,5)else iB st d (4,ji 0 n)
def kq(st:St)(d:Dk)(n:Bs)(i:UInt64):St×Dk×Int :=
 if gS n=false then(st,d,2)else if st.has 3 i=false then(st,d,5)else if(iu st.tags n).isSome then(st,d,6)else iB st d (5,ji i n)
structure St.ok(st:St):Prop where
 refs:GL st.refs
 tags:GL st.tags
 one:st.objs.Pairwise (λ a b=>¬(a.kind=b.kind/\a.id=b.id))
 ids:∀o∈st.objs,o.id=jC o.kind o.body/\o.id≠0/\1<=o.kind/\o.kind<=3/\o.body.length<=8192
 blob:∀o∈st.objs,o.kind=1->o.body.length<=4096
 tree:∀o∈st.objs,o.kind=2->∃es,jE o.body=some es/\st.blobs es=true
 com:∀o∈st.objs,o.kind=3->∃c,jF o.body=some c/\st.above c=true
 names:∀n i,iu st.refs n=some i∨iu st.tags n=some i->st.has 3 i=true
theorem St.ok0:mH.ok where
 refs:=Cq
 tags:=Cq
 one:=Cq
 ids:=λ _ h=>by cases h
 blob:=λ _ h=>by cases h
 tree:=λ _ h=>by cases h
 com:=λ _ h=>by cases h
 names:=λ n i h=>by rcases h with h|h <;> simp[mH,iu]at h
theorem LD{o:Ob}{k:Int}{i:UInt64}(h:st.has k i=true):St.has { st with objs:=st.objs++[o] } k i=true:=by
 unfold St.has at h ⊢;show(iq (st.objs++[o]) k i).isSome=true;rw[Je]
 cases e:iq st.objs k i with
 | none=>rw[e]at h;cases h
 | some b=>rfl
theorem LO(h:st.ok)(k:Int):st.has k 0=false:=by
 unfold St.has
 cases e:iq st.objs k 0 with
 | none=>rfl
 | some b=>exact absurd rfl (h.ids _ (KA e)).2.1
theorem QN{o:Ob}(h:st.blobs es=true):St.blobs { st with objs:=st.objs++[o] } es=true:=by
 unfold St.blobs at h ⊢;rw[Dj]at h ⊢
 exact λ e a=>LD (h e a)
theorem QT{o:Ob}(h:st.above c=true):St.above { st with objs:=st.objs++[o] } c=true:=by
 unfold St.above at h ⊢;rw[Bn,Dj]at h ⊢;exact⟨λ e a=>LD (h.1 e a),LD h.2⟩
def jo(w:Ap)(B:Nat)(t:AP)(x y:Ar):Prop:=w.heap[B]? = some (Ai #[x,y] t (0,0))
section
variable {w w':World}{B:Nat}{t:TypeId}{x y:Value}
theorem jo.lt(h:jo w B t x y):B<w.heap.size:=(Ba.1 h).1
theorem jo.below(h:jo w B t x y)(a:Iz w w'):jo w' B t x y:=(a.block B h.lt).trans h
theorem jo.turned(h:jo w B t x y)(b:Aw S w w')(a:¬S B):jo w' B t x y:=(b.block B h.lt a).trans h
theorem jo.cells(h:jo w B t x y):w.cell? ⟨B,0,none⟩=some x/\w.cell? ⟨B,1,none⟩=some y:=by
 unfold jo at h;simp[Bf,h]
theorem jo.thaw(h:jo w B t x y):w.frozen? ⟨B,0,none⟩=false/\w.frozen? ⟨B,1,none⟩=false:=by
 unfold jo at h;simp[Ce,h]
theorem jo.new(w:Ap)(t:AP)(x y:Ar):jo (w.alloc (Ai #[x,y] t)) w.heap.size t x y:=by
 unfold jo Fj;simp
theorem jo.put(h:jo w B t x y)(a b:Ar):jo ((w.setCell ⟨B,0,none⟩ a).setCell ⟨B,1,none⟩ b) B t a b:=by
 unfold jo at h ⊢;simp[Cd,BD,h]
theorem jo.put0(h:jo w B t x y)(a:Ar):jo (w.setCell ⟨B,0,none⟩ a) B t a y:=by
 unfold jo at h ⊢;simp[Cd,BD,h]
end
def ib(w:Ap)(B:Nat)(t:AP)(x y z v:Ar):Prop:=w.heap[B]? = some (Ai #[x,y,z,v] t (0,0))
section
variable {w w':World}{B:Nat}{t:TypeId}{x y z v:Value}
theorem ib.lt(h:ib w B t x y z v):B<w.heap.size:=(Ba.1 h).1
theorem ib.below{K:Nat}(h:ib w B t x y z v)(b:An K w w')(a:B<K):ib w' B t x y z v:=(b.block B a).trans h
theorem ib.turned(h:ib w B t x y z v)(b:Aw S w w')(a:¬S B):ib w' B t x y z v:=(b.block B h.lt a).trans h
theorem ib.cells(h:ib w B t x y z v):w.cell? ⟨B,0,none⟩=some x/\w.cell? ⟨B,1,none⟩=some y/\w.cell? ⟨B,2,none⟩=some z/\w.cell? ⟨B,3,none⟩=some v:=by
 unfold ib at h;simp[Bf,h]
theorem ib.thaw(h:ib w B t x y z v):w.frozen? ⟨B,0,none⟩=false/\w.frozen? ⟨B,1,none⟩=false/\w.frozen? ⟨B,2,none⟩=false/\w.frozen? ⟨B,3,none⟩=false:=by
 unfold ib at h;simp[Ce,h]
theorem ib.new(w:Ap)(t:AP)(x y z v:Ar):ib (w.alloc (Ai #[x,y,z,v] t)) w.heap.size t x y z v:=by
 unfold ib Fj;simp
theorem ib.put1(h:ib w B t x y z v)(a:Ar):ib (w.setCell ⟨B,1,none⟩ a) B t x a z v:=by
 unfold ib at h ⊢;simp[Cd,BD,h]
theorem ib.put2(h:ib w B t x y z v)(a:Ar):ib (w.setCell ⟨B,2,none⟩ a) B t x y a v:=by
 unfold ib at h ⊢;simp[Cd,BD,h]
theorem ib.put3(h:ib w B t x y z v)(v':Ar):ib (w.setCell ⟨B,3,none⟩ v') B t x y z v':=by
 unfold ib at h ⊢;simp[Cd,BD,h]
end
theorem Aw.chain{b:Ap}{a:Ar}(h:Aw (λ k=>v.ownBlock=some k) w w1)(m:Dw w v a)(k:Aw (λ k=>a.ownBlock=some k) w1 b):Aw (λ k=>v.ownBlock=some k) w b :=
 h.trans k (λ i hi q=>by
  rcases m with e|e
  rw[<- e];exact q;have:=e i q
  omega)
theorem Dw.refl(w:Ap)(v:Ar):Dw w v v:=.inl rfl
theorem Dw.chain{b c:Ar}(h:Dw w v b)(d:w.heap.size<=w1.heap.size)(k:Dw w1 b c):Dw w v c:=by
 rcases k with e|e
 rcases h with f|f
 exact .inl (e.trans f)
 exact .inr (λ g a=>f g (by rw[<- e];exact a))
 exact .inr (λ g a=>AU d (e g a))
theorem iE.turned{c:Nat}(h:iE w (Aa a n c) bs)(i:Aw S w w')(g:0<n->∀p,a=some p->¬S p.block):iE w' (Aa a n c) bs:=by
 obtain⟨ao,c',e,b,d,f⟩:=h;cases e;exact⟨a,c,rfl,b,d,f.turned i g⟩
theorem JR{R:Nat}(h:R<w.heap.size)(a:Aw (λ i=>i=R) w w'):An R w w':=a.below (Nat.le_of_lt h) (λ k b q=>by have c:=q;omega)
theorem Ho(x y:Bs):BM x y=decide (x<y):=by
 induction x generalizing y with
 | nil=>cases y <;> simp[BM]
 | cons a x f =>
  cases y with
  | nil=>simp[BM]
  | cons b y =>
   rw[BM,f y,Db]
   by_cases c:a<b <;> by_cases d:a=b <;> by_cases e:x<y <;> simp[GA,c,d,e]
def gR:ju UInt64:=⟨λ x=>[Ab Al (x.toNat:Int)],1,λ _=>rfl,by decide,by intro x u h;simp at h;subst h;rfl⟩
theorem gQ.nums {w:World} {b off:Nat} {xs:List UInt64} (h:gQ gR w (some ⟨b,off,none⟩) xs) {i:Nat} {x:UInt64} (hx:xs[i]? = some x):b<w.heap.size/\w.cell? ⟨b,off+i,none⟩=some (.int .u64 (x.toNat:Int)):=by
 obtain ⟨b', off', e', hlt, hc⟩ := h (by rcases Nat.lt_or_ge i xs.length with q | q
                                         omega
                                         rw [List.getElem?_eq_none q] at hx; cases hx)
 obtain ⟨rfl,rfl⟩:b=b'/\off=off':=by simpa using e'
 have h0:=hc i x hx 0 _ rfl;exact ⟨hlt,by simpa [gR] using h0⟩
theorem MB{es:List α}{p:α->Bool}{e:α}(h:es[i]? = some e)(a:(es.take i).any p=false)(b:p e=false):(es.take (i+1)).any p=false:=by
 rw[List.take_add_one,h,List.any_append,a];simp[b]
theorem Tq{es:List α}{p:α->Bool}{e:α}(h:es[i]? = some e)(a:p e=true):es.any p=true :=
 List.any_eq_true.2 ⟨e,List.mem_of_getElem? h,a⟩
theorem jq(w:Ap)(m:Nat):Iz w (w.drewN m):=⟨rfl,rfl,rfl,AA _,λ _ _=>rfl⟩
theorem Ni(E:ju α)(e t a:Nat)(z:Ar)(d:(Am.info? e).map (λ i=>(i.zero,i.size,i.bytes))=some (some z,E.size,a))(q:Am.underlying t=some (.slice e))(p:Am.elem t=e){c:Nat}(u:n<=c)(v:k<=n):
  ∃m c',(∀w,(Instr.slice t (Aa ao n c) none (some (Ab Ak (k:Int))) none).run Am w=.ok (Aa m k c') w)/\k<=c'/\c'<=c/\∀w (xs:List α),gQ E w ao xs->gQ E w m (xs.take k):=by
 obtain⟨i0,g,r,l,s⟩:=Ch d;refine⟨if c=0 then ao else ao.map (·.add 0),c,λ w=>?_,by omega,AA _,?_⟩
 rw[run_slice_h w t ao n c (by rw[p];exact q) Ak (k:Int) (by omega) (by omega)]
 have:(sizeOf (Am.elem t)).run Am w=.ok E.size w:=by
  rw[p];simp[sizeOf,typeInfo,g,l]
 rw[this];simp only[Result.andThen,sliced,Int.toNat_natCast,Fg,Nat.sub_zero]
 intro w xs h
 split
 exact h.take k
 intro o;obtain⟨b,off,rfl,j,f⟩:=h (by simp at o;omega);simp only[Option.map_some,F8,Nat.add_zero];exact gQ.take (λ _=>⟨b,off,rfl,j,f⟩) k o
theorem Z3(w:Ap)(x y z v g i j v' c d e b:Ar)(t f a:AP):
  ib (((w.alloc (Ai #[x,y,z,v] t)).alloc (Ai #[g,i,j,v'] f)).alloc (Ai #[c,d,e,b] a)) w.heap.size t x y z v /\
  ib (((w.alloc (Ai #[x,y,z,v] t)).alloc (Ai #[g,i,j,v'] f)).alloc (Ai #[c,d,e,b] a)) (w.heap.size+1) f g i j v' /\
  ib (((w.alloc (Ai #[x,y,z,v] t)).alloc (Ai #[g,i,j,v'] f)).alloc (Ai #[c,d,e,b] a)) (w.heap.size+2) a c d e b:=by
 have s1:(w.alloc (Ai #[x,y,z,v] t)).heap.size=w.heap.size+1:=by simp
 have s2:((w.alloc (Ai #[x,y,z,v] t)).alloc (Ai #[g,i,j,v'] f)).heap.size=w.heap.size+2:=by simp
 refine⟨?_,?_,?_⟩
 have h:=ib.new w t x y z v;exact(h.below (gW _ (Ai #[g,i,j,v'] f)) (by rw[s1];omega)).below (gW _ (Ai #[c,d,e,b] a)) (by rw[s2];omega)
 have h:=ib.new (w.alloc (Ai #[x,y,z,v] t)) f g i j v';rw[s1]at h;exact h.below (gW _ (Ai #[c,d,e,b] a)) (by rw[s2];omega)
 have h:=ib.new ((w.alloc (Ai #[x,y,z,v] t)).alloc (Ai #[g,i,j,v'] f)) a c d e b;rw[s2]at h;exact h
theorem gM.rdc{E:ju α}{cap:Nat}{xs:List α}(h:gM E e w base (Aa ao n cap) xs):gQ E w ao xs/\n<=cap:=by
 have d:=DC h;obtain⟨a,c,q,b,_,r,_⟩:=gM.form h;rw[d]at q b;cases q;exact⟨r,b⟩
theorem GR(w:Ap)(Q:Nat)(a b c d:Ar):Aw (λ i=>i=Q) w ((((w.setCell ⟨Q,0,none⟩ a).setCell ⟨Q,1,none⟩ b).setCell ⟨Q,2,none⟩ c).setCell ⟨Q,3,none⟩ d) :=
 ((((Aw.refl (λ i=>i=Q) w).setCell (p:=⟨Q,0,none⟩) (.inl (show Q=Q from rfl)) a).setCell (p:=⟨Q,1,none⟩) (.inl (show Q=Q from rfl)) b).setCell (p:=⟨Q,2,none⟩) (.inl (show Q=Q from rfl)) c).setCell (p:=⟨Q,3,none⟩) (.inl (show Q=Q from rfl)) d
theorem nC(u:Ap)(a b c:Obj):Iz u (((u.alloc a).alloc b).alloc c):=(lE u a b).trans ((gW _ c).mono (lE u a b).size)
theorem mi{o:Obj}(h:Hid (Iz w1 u)):Hid (Iz w1 (u.alloc o)):=h.o.trans ((gW u o).mono h.o.size)
theorem mI(h:Hid (Iz w1 u)):Hid (Iz w1 u.drew):=h.o.drew
theorem Pj{o:Oper}{a:Act}{K:Act->Ap->Prop}{X:Prop}(i:o.guard=none)(x:Operand)(f:Nat)(ts:Array AP)
  (b:o.op=.call { callee:=.value (.func f),args:=#[x],argTypes:=ts }) (c:∀args w,(callFunc f args).run Am w=.ok (.enter f args) w) (u v:Ar) (k:a.eval x=u)
  (d:At Am f #[u] w λ e w'=>e=Aj v/\w'=w) (h:K (a.put o.dst v) w) :
  if Region.wanted o (yielded ops a.tmps)=true then Oper.wp Am o a w K Q else X:=by
 have j:Region.wanted o (yielded ops a.tmps)=true:=by simp[Region.wanted,i]
 rw[AC j];unfold Oper.wp
 have e:(execOp a.eval o).run Am w=.ok (.enter f #[u]) w:=by
  have g:a.eval (.func f)=.func (.func f) #[] #[]:=rfl;simp[execOp,b,resolve,invoke,k,g,Deferred.ofValue,c]
 rw[e,Oper.upon_enter];refine d.mono ?_;rintro e w' ⟨rfl,rfl⟩;exact h
theorem ZV(w:Ap)(x y z v b c d v':Ar)(t a:AP):
  ib ((w.alloc (Ai #[x,y,z,v] t)).alloc (Ai #[b,c,d,v'] a)).drew w.heap.size t x y z v /\
  ib ((w.alloc (Ai #[x,y,z,v] t)).alloc (Ai #[b,c,d,v'] a)).drew (w.heap.size+1) a b c d v' /\
  Iz w ((w.alloc (Ai #[x,y,z,v] t)).alloc (Ai #[b,c,d,v'] a)).drew:=by
 have s1:(w.alloc (Ai #[x,y,z,v] t)).heap.size=w.heap.size+1:=by simp
 refine⟨?_,?_,(lE _ _ _).drew⟩
 exact(ib.new w t x y z v).below (gW _ (Ai #[b,c,d,v'] a)).drew (by rw[s1];omega)
 have h:=ib.new (w.alloc (Ai #[x,y,z,v] t)) a b c d v';rw[s1]at h;exact h
theorem Nh(E:ju α)(w:Ap)(y:α)(t:AP)(c:Array Ar)(b:c=(E.cells y).toArray):gQ E (w.alloc (Ai c t)) (some ⟨w.heap.size,0,none⟩) [y]:=by
 subst b;intro _;refine⟨w.heap.size,0,rfl,by simp,?_⟩;intro i x a j u d
 have hi:i=0:=by
  rcases Nat.eq_zero_or_pos i with q|q
  exact q;rw[List.getElem?_eq_none (by simp;omega)]at a;cases a
 subst hi;cases a;have:=GQ E w y t j u d;rw[F8]at this;rw[Fg,Nat.zero_add];exact this
theorem gM.whole{E:ju α}{xs:List α}(h:gM E e w base v xs)(d:xs.length=n):∃a c,v=Aa a n c/\n<=c/\gQ E w a xs:=by
 obtain⟨a,c,q,b,_,r,_⟩:=gM.form h;rw[d]at q b;exact⟨a,c,q,b,r⟩
theorem Ie(bs:Bs)(i j:Nat):((⟨bs.toArray⟩:ByteArray).extract i j).data.toList=(bs.drop i).take (j - i):=by
 simp[ByteArray.data_extract,List.extract_eq_take_drop]
theorem LX{a:Ap}{b2:Nat}(c:Iz w a)(d:w.heap.size<=b2)(v0 b:Ar):
  Iz w ((a.setCell ⟨b2,0,none⟩ v0).setCell ⟨b2,1,none⟩ b)/\Aw (λ i=>i=b2) a ((a.setCell ⟨b2,0,none⟩ v0).setCell ⟨b2,1,none⟩ b):=by
 have t:Aw (λ i=>i=b2) a ((a.setCell ⟨b2,0,none⟩ v0).setCell ⟨b2,1,none⟩ b) :=
  ((Aw.refl (λ i=>i=b2) a).setCell (p:=⟨b2,0,none⟩) (.inl (show b2=b2 from rfl)) v0).setCell (p:=⟨b2,1,none⟩) (.inl (show b2=b2 from rfl)) b
 exact⟨c.trans (t.below c.size (λ i hi q=>by have e:=q;omega)),t⟩
def E2(w:Ap)(pa:Option Addr)(n:Nat):Prop:=0<n->∀p,pa=some p->w.heap.size<=p.block
theorem E2.none(w:Ap)(n:Nat):E2 w none n:=λ _ _ h=>by cases h
theorem gM.newRow{E:ju α}{B c:Nat}{xs:List α}(h:gM E e w' B (Aa a n c) xs)(j:w.heap.size<=B):E2 w a n:=by
 intro m p hp;obtain⟨a1,l,b,_,_,_,i⟩:=gM.form h;simp only[Value.slice.injEq]at b;obtain⟨g,f⟩:=i (by omega);have d:=b.1.trans f;have k:=(h.lt g (by rw[d];rfl)).1;rw[d]at hp;cases hp;exact AU j k
def mG(v:Ar):Option (Fk Ar×List MemPlace):=some (.held v,[])
theorem lZ:Hv Am 9:=Maps.string_keyed underlying9
theorem KG (s:ByteArray) (h:s.size<=maxLen):keyOf Tryz.prog 9 (.string s)=some (.string s.data.toList):=WideMaps.keyOf_string_mk Tryz.underlying9 h
structure nv(α:Type) where
 ty:AP
 val:α->Ar
 lit:α->Lit
 fit:α->Prop
 keyed:Hv Am ty
 key:∀x,fit x->keyOf Am ty (val x)=some (lit x)
 inj:∀{x y},lit x=lit y->x=y
def kU:nv UInt64 where
 ty:=63
 val:=λ x=>.int .u64 (x.toNat:Int)
 lit:=λ x=>.int .u64 (x.toNat:Int)
 fit:=λ _=>True
 keyed:=Maps.int_keyed Tryz.underlying63
 key:=λ x _=>Maps.keyOf_int_mk Tryz.underlying63 (by
  have:=x.toNat_lt;simp [Lit.wf,IntKind.min,IntKind.max,IntKind.signed,IntKind.bits]
  omega)
 inj:=λ {x y} h=>by
  injection h with _ h
  exact UInt64.toNat_inj.1 (by omega)
def kS:nv Bs where
 ty:=9
 val:=λ x=>.string ⟨x.toArray⟩
 lit:=λ x=>.string x
 fit:=λ x=>x.length<=maxLen
 keyed:=lZ
 key:=λ x h=>KG ⟨x.toArray⟩ (by simpa [ByteArray.size] using h)
 inj:=λ h=>by cases h; rfl
section
variable {α:Type}(K:nv α)
def jb(w:Ap)(m:Nat)(f:α->Option Ar)(n:Nat):Prop :=
 ∃D:Fk Ar,w.ownsMap Am K.ty mG m n D/\DZ D=n/\(∀x,Maps.has D (K.lit x)=(f x).isSome)/\∀x v,f x=some v->∀zd,D.atKey (K.lit x) zd=.held v
variable {K}{w w':World}{m n:Nat}{f:α->Option Value}
theorem SQ(h:w.ownsMap Am K.ty mG m n D):w.ownsMap Am K.ty mG m (DZ D) D:=by
 obtain⟨es,a,b,F,_,rfl⟩:=h;refine⟨es,a,b,F,?_,rfl⟩;simp[DZ,Hd]
theorem jb.block(h:jb K w m f n):∃es a,w.heap[m]? = some (.map es a):=by
 obtain⟨D,⟨es,a,b,_⟩,_⟩:=h;exact⟨es,a,b⟩
theorem jb.lt(h:jb K w m f n):m<w.heap.size:=by
 obtain⟨D,a,_⟩:=h;exact a.lt
theorem jb.turned(h:jb K w m f n)(d:Aw S w w')(c:¬S m):jb K w' m f n:=by
 obtain⟨D,⟨es,a,b,r⟩,q⟩:=h;exact⟨D,⟨es,a,(d.block m (Ba.1 b).1 c).trans b,r⟩,q⟩
theorem jb.new(a:w.heap[m]? = some (.map #[] 0)):jb K w m (λ _=>none) 0 :=
 ⟨.map [],⟨#[],0,a,⟨by simp,MapKept.stamped_empty 0,by simp⟩,AA _,rfl⟩,rfl,λ _=>rfl,λ _ _ h=>by cases h⟩
theorem jb.look(h:jb K w m f n)(i:Am.underlying t=some (.map K.ty e)){z:Ar}(l:(EF e).run Am w=.ok z w)(x:α)(k:K.fit x):
  (CM t (.map (some m)) (K.val x) true).run Am w=.ok (Af #[(f x).getD z,Ad (f x).isSome]) w:=by
 obtain⟨D,g,_,c,d⟩:=h;obtain⟨v,ps,a,j⟩:=g.look_ok K.keyed i l (zd:=.held z) (zp:=[]) rfl (K.key x k);rw[a,c]
 have e:DataW.held v=D.atKey (K.lit x) (.held z):=by
  have:=Dq j;exact A7 Prod.fst this
 cases b:f x with
 | none =>
  rw[EO (by rw[c,b];rfl)]at e;cases e
  rfl
 | some u =>
  rw[d _ u b]at e;cases e
  rfl
def kM [DecidableEq α] (f:α->Option Ar) (x:α) (v:Ar):α->Option Ar:=λ y=>if y=x then some v else f y
def mY [DecidableEq α] (f:α->Option Ar) (x:α):α->Option Ar:=λ y=>if y=x then none else f y
theorem nv.ne(K:nv α){x y:α}(h:y≠x):K.lit y≠K.lit x:=λ e=>h (K.inj e)
theorem jb.put [DecidableEq α] (h:jb K w m f n) (s:Am.underlying t=some (.map K.ty e)) (x:α) (l:K.fit x) (r:n<AH) (v:Ar) :
  ∃w',(DM t (.map (some m)) (K.val x) v).run Am w=.ok () w'/\jb K w' m (kM f x v) (if(f x).isSome then n else n+1)/\w.grownBy w' (some m):=by
 obtain⟨D,i,j,k,q⟩:=h;obtain⟨w',c,o,p⟩:=i.update K.keyed s r (K.key x l) (d:=.held v) (ps:=[]) (val:=v) rfl;have b:=K.keyed.key (K.key x l)
 have a:DZ (D.put (K.lit x) (.held v))=if(f x).isSome then n else n+1:=by
  rw[He (i.tidy K.keyed),k,j]
 refine⟨w',c,⟨_,?_,a,?_,?_⟩,p⟩
 rw[<- a];exact SQ o
 intro y;unfold kM;by_cases e:y=x
 rw[AC e,e,GF i.isMap b]
 rfl
 rw[Ay e,GB (K.ne e),k]
 intro y u g zd;unfold kM at g;by_cases e:y=x
 rw[AC e]at g;cases g;rw[e,Gn i.isMap b]
 rw[Ay e]at g;rw[Gf (K.ne e),q y u g]
theorem jb.del [DecidableEq α] (h:jb K w m f n) (p:Am.underlying t=some (.map K.ty e)) (x:α) (q:K.fit x) (hi:(f x).isSome=true) (r ty:AP) :
  ∃w',(Builtin.delete_ #[t,r] ty #[.map (some m),K.val x]).run Am w=.ok (Af #[]) w'/\jb K w' m (mY f x) (n - 1)/\w.grownBy w' (some m):=by
 obtain⟨D,i,d,g,o⟩:=h;obtain⟨w',b,j,l⟩:=i.drop K.keyed p (K.key x q) ty
 have a:DZ (D.del (K.lit x))=n - 1:=by
  have:=Maps.size_del (k:=K.lit x) (i.tidy K.keyed);rw[g,hi,d]at this;simp at this;omega
 refine⟨w',b,⟨_,?_,a,?_,?_⟩,l.grown⟩
 rw[<- a];exact SQ j
 intro y;unfold mY;by_cases e:y=x
 rw[AC e,e,Maps.has_del_same]
 rfl
 rw[Ay e,Maps.has_del_other (K.ne e),g]
 intro y u c zd;unfold mY at c;by_cases e:y=x
 rw[AC e]at c;cases c
 rw[Ay e]at c;rw[Maps.atKey_del_other (K.ne e),o y u c]
end
def FF (w:World) (m:Nat) (f:Bs->Option Value) (n:Nat):Prop :=
 ∃ D:DataW Value,w.ownsMap Tryz.prog 9 mG m n D/\Maps.size D=n/\(∀ x,Maps.has D (.string x)=(f x).isSome)/\∀ x v,f x=some v->∀ zd,D.atKey (.string x) zd=.held v
theorem gL(h:w.ownsMap Am 9 mG m n D):w.ownsMap Am 9 mG m (DZ D) D:=by
 obtain⟨es,a,b,F,_,rfl⟩:=h;refine⟨es,a,b,F,?_,rfl⟩;simp[DZ,Hd]
theorem FF.block(h:FF w m f n):∃es a,w.heap[m]? = some (.map es a):=by
 obtain⟨D,⟨es,a,b,_⟩,_⟩:=h;exact⟨es,a,b⟩
theorem FF.turned(h:FF w m f n)(d:Aw S w w')(c:¬S m):FF w' m f n:=by
 obtain⟨D,⟨es,a,b,r⟩,q⟩:=h;exact⟨D,⟨es,a,(d.block m (Ba.1 b).1 c).trans b,r⟩,q⟩
theorem Tryz.info24:(Am.info? 24).map (λ i=>(i.zero,i.size,i.bytes))=some (some (Aa none 0 0),1,24):=by kernel_rfl
theorem nL(w:Ap):(EF 24).run Am w=.ok (Aa none 0 0) w:=by
 obtain⟨i0,a,b,_,_⟩:=Ch Tryz.info24;simp[EF,typeInfo,a,b]
theorem FF.look(h:FF w m f n)(s:ByteArray)(i:s.size<=AH):
  (CM 173 (.map (some m)) (Ae s) true).run Am w=.ok (Af #[(f s.data.toList).getD (Aa none 0 0),Ad (f s.data.toList).isSome]) w:=by
 obtain⟨D,g,_,c,d⟩:=h;obtain⟨v,ps,a,j⟩:=g.look_ok lZ underlying173 (nL w) (zd:=.held (Aa none 0 0)) (zp:=[]) rfl (KG s i);rw[a,c]
 have e:DataW.held v=D.atKey (.string s.data.toList) (.held (Aa none 0 0)):=by
  have:=Dq j;exact A7 Prod.fst this
 cases b:f s.data.toList with
 | none =>
  rw[EO (by rw[c,b];rfl)]at e;cases e
  rfl
 | some u =>
  rw[d _ u b]at e;cases e
  rfl
theorem FF.look1(h:FF w m f n)(s:ByteArray)(i:s.size<=AH):
  (CM 173 (.map (some m)) (Ae s) false).run Am w=.ok ((f s.data.toList).getD (Aa none 0 0)) w:=by
 obtain⟨D,g,_,d,c⟩:=h;obtain⟨v,ps,a,j⟩:=g.lookup lZ underlying173 (nL w) (zd:=.held (Aa none 0 0)) (zp:=[]) rfl (KG s i);rw[a]
 have e:DataW.held v=D.atKey (.string s.data.toList) (.held (Aa none 0 0)):=by
  have:=Dq j;exact A7 Prod.fst this
 cases b:f s.data.toList with
 | none =>
  rw[EO (by rw[d,b];rfl)]at e;cases e
  rfl
 | some u =>
  rw[c _ u b]at e;cases e
  rfl
theorem FF.len(h:FF w m f n)(ty:AP):(Builtin.len_ #[173] ty #[.map (some m)]).run Am w=.ok (Ab Ak n) w:=by
 obtain⟨D,b,a,_⟩:=h;rw[b.len underlying173 ty,a]
def mA(f:Bs->Option Ar)(x:Bs)(v:Ar):Bs->Option Ar:=λ y=>if y=x then some v else f y
theorem Sj{y:Bs}(h:y≠x):(Lit.string y)≠(Lit.string x):=λ e=>h (by cases e;rfl)
theorem FF.put(h:FF w m f n)(s:ByteArray)(l:s.size<=AH)(r:n<AH)(v:Ar):
  ∃w',(DM 173 (.map (some m)) (Ae s) v).run Am w=.ok () w'/\FF w' m (mA f s.data.toList v) (if(f s.data.toList).isSome then n else n+1)/\w.grownBy w' (some m):=by
 obtain⟨D,i,j,k,q⟩:=h;obtain⟨w',c,o,p⟩:=i.update lZ underlying173 r (KG s l) (d:=.held v) (ps:=[]) (val:=v) rfl;have b:=lZ.key (KG s l)
 have a:DZ (D.put (.string s.data.toList) (.held v))=if(f s.data.toList).isSome then n else n+1:=by
  rw[He (i.tidy lZ),k,j]
 refine⟨w',c,⟨_,?_,a,?_,?_⟩,p⟩
 rw[<- a];exact gL o
 intro x;unfold mA;by_cases e:x=s.data.toList
 rw[AC e,e,GF i.isMap b]
 rfl
 rw[Ay e,GB (Sj e),k]
 intro x u g zd;unfold mA at g;by_cases e:x=s.data.toList
 rw[AC e]at g;cases g;rw[e,Gn i.isMap b]
 rw[Ay e]at g;rw[Gf (Sj e),q x u g]

structure IK(w:Ap)(m:Nat)(S:Nat->Prop)(F:Fs)(f:Bs->Option Ar)(X:Bs->Prop):Prop where
 map:FF w m f F.length
 no:∀x,ip F x=none->f x=none
 yes:∀x bs,ip F x=some bs->∃v,f x=some v/\(X x∨iW w v bs)
 apart:∀x y u v g,x≠y->f x=some u->f y=some v->u.ownBlock=some g->v.ownBlock≠some g
 own:∀x v g,f x=some v->v.ownBlock=some g->S g
structure CK(w:Ap)(b m:Nat)(f:Bs->Option Ar)(a k:Int)(d:Dk)(S:Nat->Prop)(X:Bs->Prop):Prop where
 cells:w.heap[b]? = some (Ai #[.map (some m),Ab Ak (d.writes:Int),Ad d.dead,Ad d.armed,Ab Ak a,Ab Ak k] 177 (0,0))
 cut:d.armed=true->a=(d.after:Int)/\k=(d.keep:Int)
 files:IK w m S d.files f X
 mine:S b/\S m
 lt:∀i,S i->i<w.heap.size
abbrev Bq(w:Ap)(b m:Nat)(f:Bs->Option Ar)(a k:Int)(d:Dk)(S:Nat->Prop):Prop:=CK w b m f a k d S (λ _=>False)
def D7(w:Ap)(b:Nat)(d:Dk)(S:Nat->Prop):Prop:=∃m f a k,Bq w b m f a k d S
theorem iW.block(h:iW w v bs)(b:v.ownBlock=some g):∃a,w.heap[g]? = some (Ai a 5 (0,0)):=by
 rcases h.2 with⟨rfl,_⟩ | ⟨c,cap,a,rfl,_,d,_⟩
 simp[BQ]at b
 have:c=g:=by simpa[BQ]using b
 subst this;exact⟨a,d⟩
theorem iW.turned(h:iW w v bs)(b:Aw S w w')(a:∀g,v.ownBlock=some g->¬S g):iW w' v bs:=LM h b a
theorem IK.turned(h:IK w m S F f X)(b:Aw T w w')(i:¬T m)(d:∀x v g,f x=some v->¬X x->v.ownBlock=some g->¬T g):IK w' m S F f X where
 map:=h.map.turned b i
 no:=h.no
 yes:=λ x bs k=>by
  obtain⟨v,c,j⟩:=h.yes x bs k;refine⟨v,c,?_⟩
  rcases j with q|q
  exact .inl q;by_cases a:X x;exact .inl a;exact .inr (q.turned b (λ g e=>d x v g c a e))
 apart:=h.apart
 own:=h.own
theorem IK.mono(h:IK w m S F f X)(c:∀i,S i->S' i)(d:∀x,X x->X' x):IK w m S' F f X' where
 map:=h.map
 no:=h.no
 yes:=λ x bs k=>by
  obtain⟨v,j,e⟩:=h.yes x bs k;exact⟨v,j,e.imp (d x) id⟩
 apart:=h.apart
 own:=λ x v g a b=>c g (h.own x v g a b)
theorem CK.mono{b:Nat}{a k:Int}{d:Dk}(h:CK w b m f a k d S X)(c:∀i,S i->S' i)(e:∀x,X x->X' x)(g:∀i,S' i->i<w.heap.size):CK w b m f a k d S' X' :=
 ⟨h.cells,h.cut,h.files.mono c e,⟨c _ h.mine.1,c _ h.mine.2⟩,g⟩
section
variable {S:Nat->Prop}{X:Bs->Prop}{w w':World}{b m:Nat}{f:Bs->Option Value}{a k:Int}{d:Dk}
theorem CK.lt_b(h:CK w b m f a k d S X):b<w.heap.size:=(Ba.1 h.cells).1
theorem CK.m_ne(h:CK w b m f a k d S X):m≠b:=by
 obtain⟨es,c,g⟩:=h.files.map.block;intro e;rw[e,h.cells]at g;cases g
theorem CK.file(h:CK w b m f a k d S X)(x:Bs):(ip d.files x=none/\f x=none)∨∃bs v,ip d.files x=some bs/\f x=some v/\(X x∨iW w v bs):=by
 cases e:ip d.files x with
 | none=>exact .inl ⟨rfl,h.files.no x e⟩
 | some bs =>
  obtain⟨v,c,g⟩:=h.files.yes x bs e;exact .inr ⟨bs,v,rfl,c,g⟩
theorem CK.some_iff(h:CK w b m f a k d S X)(x:Bs):(f x).isSome=(ip d.files x).isSome:=by
 rcases h.file x with⟨c,e⟩ | ⟨bs,v,c,e,_⟩ <;> rw[c,e] <;> rfl
theorem Bq.row_ne(h:Bq w b m f a k d S)(j:f x=some v)(p:v.ownBlock=some g):g≠b/\g≠m:=by
 rcases h.file x with⟨_,l⟩ | ⟨bs,u,_,l,n⟩
 rw[l]at j;cases j
 rw[l]at j;cases j;have n:=n.elim False.elim id;obtain⟨o,i⟩:=n.block p;refine⟨λ e=>?_,λ e=>?_⟩
 rw[e,h.cells]at i;cases i
 obtain⟨es,c,q⟩:=h.files.map.block;rw[e,q]at i;cases i
theorem CK.cell(h:CK w b m f a k d S X):
  w.cell? ⟨b,0,none⟩=some (.map (some m))/\w.cell? ⟨b,1,none⟩=some (Ab Ak (d.writes:Int))/\w.cell? ⟨b,2,none⟩=some (Ad d.dead)/\w.cell? ⟨b,3,none⟩=some (Ad d.armed) /\
  w.cell? ⟨b,4,none⟩=some (Ab Ak a)/\w.cell? ⟨b,5,none⟩=some (Ab Ak k)/\∀i,w.frozen? ⟨b,i,none⟩=false:=by
 simp[Bf,Ce,h.cells]
theorem Bq.wrote(h:Bq w b m f a k d S)(j:Aw (λ i=>i=b) w w'){d':Dk}{c e:Int}(p:d'.files=d.files)
  (o:w'.heap[b]? = some (Ai #[.map (some m),Ab Ak (d'.writes:Int),Ad d'.dead,Ad d'.armed,Ab Ak c,Ab Ak e] 177 (0,0))) (hcut:d'.armed=true->c=(d'.after:Int)/\e=(d'.keep:Int)):Bq w' b m f c e d' S :=
 ⟨o,hcut,by rw[p];exact h.files.turned j h.m_ne (λ x v g l _ n=>(h.row_ne l n).1),h.mine,λ i hi=>AK (h.lt i hi) j.size⟩
theorem CK.stays(h:CK w b m f a k d S X)(e:Aw T w w')(c:∀i,S i->¬T i):CK w' b m f a k d S X :=
 ⟨(e.block b h.lt_b (c b h.mine.1)).trans h.cells,h.cut,h.files.turned e (c m h.mine.2) (λ x v g j _ l=>c g (h.files.own x v g j l)),h.mine,λ i hi=>AK (h.lt i hi) e.size⟩
theorem CK.below(h:CK w b m f a k d S X)(c:Iz w w'):CK w' b m f a k d S X:=h.stays (T:=λ _=>False) (Aw.ofBelow c) (λ _ _ q=>q)
theorem D7.stays(h:D7 w b d S)(e:Aw T w w')(c:∀i,S i->¬T i):D7 w' b d S:=by
 obtain⟨m,f,a,k,h⟩:=h;exact⟨m,f,a,k,CK.stays h e c⟩
theorem D7.below(h:D7 w b d S)(a:Iz w w'):D7 w' b d S:=h.stays (T:=λ _=>False) (Aw.ofBelow a) (λ _ _ q=>q)
theorem D7.lt(h:D7 w b d S):∀i,S i->i<w.heap.size:=by
 obtain⟨m,f,a,k,h⟩:=h;exact CK.lt h
end
def B9(S:Nat->Prop)(w w':Ap):Nat->Prop:=λ i=>S i∨(w.heap.size<=i/\i<w'.heap.size)
abbrev oi(i:UInt64):Ar:=Ab Al (i.toNat:Int)
def jU(l:List (Nm UInt64)):Bs->Option Ar:=λ n=>(iu l n).map oi
def Jq(S:Nat->Prop)(v:Ar):Prop:=∀p n c,v=Aa (some p) n c->0<n->S p.block
structure CI(w:Ap)(s b:Nat)(M:Nat->Nat)(r t:Nat)(F:Nat->UInt64->Option Ar)(st:St)(S:Nat->Prop):Prop where
 cells:w.heap[s]? = some (Ai #[.pointer (some ⟨b,0,none⟩),.map (some (M 0)),.map (some (M 1)),.map (some (M 2)),.map (some (M 3)),.map (some r),.map (some t)] 182 (0,0))
 objs:∀k,k<4->∃n,n<=st.objs.length/\jb kU w (M k) (F k) n
 refs:jb kS w r (jU st.refs) st.refs.length
 tags:jb kS w t (jU st.tags) st.tags.length
 gone:∀k:Nat,k<4->∀i,iq st.objs (k:Int) i=none->F k i=none
 there:∀k:Nat,k<4->∀i bs,iq st.objs (k:Int) i=some bs->∃v,F k i=some v/\iE w v bs/\Jq S v
 inj:∀j k,j<4->k<4->M j=M k->j=k
 apart:(∀k,k<4->M k≠r/\M k≠t)/\r≠t
 own:S s/\S r/\S t/\∀k,k<4->S (M k)
 lt:∀i,S i->i<w.heap.size
def A1(w:Ap)(s b:Nat)(st:St)(S:Nat->Prop):Prop:=∃M r t F,CI w s b M r t F st S
theorem fw{es:Array Hh}{c:Nat}(h:w.heap[m]? = some (.map es c))(o:Nat):w.cell? ⟨m,o,none⟩=none:=by
 simp[Bf,h]
theorem iE.no_map{c:Nat}{es:Array Hh}(h:iE w (Aa a n c) bs)(l:w.heap[m]? = some (.map es cl)):0<n->∀p,a=some p->p.block≠m:=by
 intro d p hp e;obtain⟨ao,c',f,q,r,i⟩:=h;cases f;obtain⟨g,off,b,k,j⟩:=i d;rw[hp]at b;cases b;obtain⟨x,o⟩:=BK (xs:=bs) rfl d;have:=j 0 x o 0 (Ab .u8 (x.toNat:Int)) rfl;have e:g=m:=e;rw[e,fw l]at this;cases this
section
variable {w w':World}{s b:Nat}{M:Nat->Nat}{r t:Nat}{F:Nat->UInt64->Option Value}{st:St}{S:Nat->Prop}
theorem CI.lt_s(h:CI w s b M r t F st S):s<w.heap.size:=(Ba.1 h.cells).1
theorem CI.map_ne(h:CI w s b M r t F st S):r≠s/\t≠s/\∀k,k<4->M k≠s:=by
 refine⟨λ e=>?_,λ e=>?_,λ k d e=>?_⟩
 obtain⟨es,c,a⟩:=h.refs.block;rw[e,h.cells]at a;cases a
 obtain⟨es,c,a⟩:=h.tags.block;rw[e,h.cells]at a;cases a
 obtain⟨n,_,f⟩:=h.objs k d;obtain⟨es,c,a⟩:=f.block;rw[e,h.cells]at a;cases a
theorem CI.cell(h:CI w s b M r t F st S):
  w.cell? ⟨s,0,none⟩=some (.pointer (some ⟨b,0,none⟩))/\w.cell? ⟨s,1,none⟩=some (.map (some (M 0)))/\w.cell? ⟨s,2,none⟩=some (.map (some (M 1)))/\w.cell? ⟨s,3,none⟩=some (.map (some (M 2))) /\
  w.cell? ⟨s,4,none⟩=some (.map (some (M 3)))/\w.cell? ⟨s,5,none⟩=some (.map (some r))/\w.cell? ⟨s,6,none⟩=some (.map (some t)):=by
 simp[Bf,h.cells]
theorem CI.mono(h:CI w s b M r t F st S)(a:∀i,S i->S' i)(m:∀i,S' i->i<w.heap.size):CI w s b M r t F st S' where
 cells:=h.cells
 objs:=h.objs
 refs:=h.refs
 tags:=h.tags
 gone:=h.gone
 there:=λ k d i bs o=>by
  obtain⟨v,g,j,l⟩:=h.there k d i bs o;exact⟨v,g,j,λ p n c e f=>a _ (l p n c e f)⟩
 inj:=h.inj
 apart:=h.apart
 own:=⟨a _ h.own.1,a _ h.own.2.1,a _ h.own.2.2.1,λ k d=>a _ (h.own.2.2.2 k d)⟩
 lt:=m
theorem U4(h:iE w v bs)(j:Jq S v)(g:Aw T w w')(f:∀i,S i->¬T i):iE w' v bs:=by
 obtain⟨ao,c,rfl,b,d,e⟩:=h;exact⟨ao,c,rfl,b,d,e.turned g (λ a p hp=>f _ (j p _ c (by rw[hp]) a))⟩
theorem CI.stays(h:CI w s b M r t F st S)(a:Aw T w w')(c:∀i,S i->¬T i):CI w' s b M r t F st S where
 cells:=(a.block s h.lt_s (c s h.own.1)).trans h.cells
 objs:=λ k d=>by
  obtain⟨n,e,f⟩:=h.objs k d;exact⟨n,e,f.turned a (c _ (h.own.2.2.2 k d))⟩
 refs:=h.refs.turned a (c _ h.own.2.1)
 tags:=h.tags.turned a (c _ h.own.2.2.1)
 gone:=h.gone
 there:=λ k d i bs j=>by
  obtain⟨v,e,f,g⟩:=h.there k d i bs j;exact⟨v,e,U4 f g a c,g⟩
 inj:=h.inj
 apart:=h.apart
 own:=h.own
 lt:=λ i hi=>AK (h.lt i hi) a.size
theorem CI.below(h:CI w s b M r t F st S)(a:Iz w w'):CI w' s b M r t F st S:=h.stays (T:=λ _=>False) (Aw.ofBelow a) (λ _ _ q=>q)
theorem Lp{es:Array Hh}(h:iE w v bs)(f:w.heap[m]? = some (.map es cl))(j:Aw (λ i=>i=m) w w'):iE w' v bs:=by
 obtain⟨ao,c,rfl,a,b,d⟩:=h;have g:=iE.no_map ⟨ao,c,rfl,a,b,d⟩ f;exact⟨ao,c,rfl,a,b,d.turned j (λ e p hp q=>g e p hp q)⟩
theorem CI.add(h:CI w s b M r t F st S)(l:k<4){i:UInt64}(hi:iq st.objs (k:Int) i=none)(D:iE w v bs)(E:Jq S v)(B:jb kU w' (M k) (kM (F k) i v) n)(C:n<=st.objs.length+1)(g:Aw (λ x=>x=M k) w w'):
  CI w' s b M r t (λ j=>if j=k then kM (F k) i v else F j) { st with objs:=st.objs++[⟨(k:Int),i,bs⟩] } S:=by
 obtain⟨nk,_,p⟩:=h.objs k l;obtain⟨es,cl,c⟩:=p.block;refine⟨?_,?_,?_,?_,?_,?_,h.inj,h.apart,h.own,λ i hi=>AK (h.lt i hi) g.size⟩
 exact(g.block s h.lt_s (λ e=>h.map_ne.2.2 k l e.symm)).trans h.cells
 intro j d;by_cases e:j=k
 subst e;exact⟨n,by simpa using C,by simpa using B⟩
 obtain⟨G,m,o⟩:=h.objs j d;refine⟨G,by simp;omega,?_⟩;simp only[Ay e];exact o.turned g (λ q=>e (h.inj j k d l q))
 exact h.refs.turned g (λ q=>(h.apart.1 k l).1 q.symm)
 exact h.tags.turned g (λ q=>(h.apart.1 k l).2 q.symm)
 intro j d x a;have a:=a;rw[Je]at a
 cases e:iq st.objs (j:Int) x with
 | some y=>rw[e]at a;cases a
 | none =>
  rw[e]at a;by_cases q:j=k;subst q
  have f:x≠i:=λ q=>by
   subst q;simp at a
  simp only[Ff,kM,Ay f];exact h.gone j d x e;simp only[Ay q];exact h.gone j d x e
 intro j d x y a;have a:=a;rw[Je]at a
 cases e:iq st.objs (j:Int) x with
 | some z =>
  rw[e]at a;cases a;obtain⟨u,m,o,A⟩:=h.there j d x y e;refine⟨u,?_,Lp o c g,A⟩;by_cases q:j=k;subst q
  have f:x≠i:=λ q=>by
   subst q;rw[hi]at e;cases e
  simp only[Ff,kM,Ay f];exact m;simp only[Ay q];exact m
 | none =>
  rw[e]at a;by_cases q:(k:Int)=(j:Int)/\i=x;simp only[q,and_self,Ff]at a;cases a;obtain⟨H,rfl⟩:=q
  obtain rfl:k=j:=by omega
  exact⟨v,by simp[kM],Lp D c g,E⟩;simp only[q,Ek]at a;cases a
theorem A1.stays(h:A1 w s b st S)(c:Aw T w w')(a:∀i,S i->¬T i):A1 w' s b st S:=by
 obtain⟨M,r,t,F,h⟩:=h;exact⟨M,r,t,F,h.stays c a⟩
theorem A1.below(h:A1 w s b st S)(a:Iz w w'):A1 w' s b st S:=h.stays (T:=λ _=>False) (Aw.ofBelow a) (λ _ _ q=>q)
theorem A1.mono(h:A1 w s b st S)(a:∀i,S i->S' i)(c:∀i,S' i->i<w.heap.size):A1 w s b st S':=by
 obtain⟨M,r,t,F,h⟩:=h;exact⟨M,r,t,F,h.mono a c⟩
theorem A1.lt(h:A1 w s b st S):∀i,S i->i<w.heap.size:=by
 obtain⟨M,r,t,F,h⟩:=h;exact h.lt
end
def jK(w:Ap)(s b:Nat)(st:St)(d:Dk)(U:Nat->Prop):Prop:=∃S T,A1 w s b st S/\D7 w b d T/\(∀i,S i->¬T i)/\(∀i,S i∨T i->U i)/\∀i,U i->i<w.heap.size
section
variable {w w':World}{s b:Nat}{st:St}{d:Dk}{U:Nat->Prop}
theorem jK.stays(h:jK w s b st d U)(c:Aw T w w')(e:∀i,U i->¬T i):jK w' s b st d U:=by
 obtain⟨S,D,f,g,j,a,k⟩:=h;exact⟨S,D,f.stays c (λ i hi=>e i (a i (.inl hi))),g.stays c (λ i hi=>e i (a i (.inr hi))),j,a,λ i hi=>AK (k i hi) c.size⟩
theorem jK.below(h:jK w s b st d U)(a:Iz w w'):jK w' s b st d U:=h.stays (T:=λ _=>False) (Aw.ofBelow a) (λ _ _ q=>q)
theorem jK.mono{a:Nat->Prop}(h:jK w s b st d U)(j:∀i,U i->a i)(k:∀i,a i->i<w.heap.size):jK w s b st d a:=by
 obtain⟨S,D,c,e,f,g,l⟩:=h;exact⟨S,D,c,e,f,λ i hi=>j i (g i hi),k⟩
theorem jK.lt(h:jK w s b st d U):∀i,U i->i<w.heap.size:=by
 obtain⟨S,D,_,_,_,_,a⟩:=h;exact a
end
theorem YL(a b:Nat)(e:a<18446744073709551616)(f:b<18446744073709551616):bits BinOp.or Al (a:Int) (b:Int)=((a ||| b:Nat):Int):=by
 have g:a ||| b<2 ^ 64:=Nat.or_lt_two_pow e f
 have c:(Cu 64 (a:Int)).toNat=a:=by
  rw[GG,ES];exact CR (by omega)
 have d:(Cu 64 (b:Int)).toNat=b:=by
  rw[GG,ES];exact CR (by omega)
 show Al.wrap ((Cu 64 (a:Int) ||| Cu 64 (b:Int)).toNat:Int)=_;rw[BitVec.toNat_or,c,d,A5];omega
theorem Nj{v:Nat}(y:UInt8)(c:v<72057594037927936):bits BinOp.or Al ((v:Int)*256) (Al.wrap (y.toNat:Int))=((v*256+y.toNat:Nat):Int):=by
 have d:=y.toNat_lt
 have a:(v:Int)*256=((2 ^ 8*v:Nat):Int):=by omega
 have b:Al.wrap (y.toNat:Int)=((y.toNat:Nat):Int):=by rw[A5];omega
 rw[a,b,YL _ _ (by omega) (by omega),<- Nat.two_pow_add_eq_or_of_lt (by omega) _];omega
theorem QB{L c:Nat}(h:iE w (Aa a L c) bs)(s:bs.length=L)(D:L<=8):
  At Am 207 #[Aa a L c] w λ e w'=>e=Aj (Ab Al (val bs:Int))/\w'=w:=by
 have H:Hid (gQ gP w a bs/\bs.length=L):=by
  obtain⟨ao,c',e,_,_,x⟩:=h;cases e;exact⟨x,s⟩
 clear h s;go_enter func207,ntmps207;go_wp2_with fail;go_loopg[3,8] L (λ m B A wr=>wr=w/\∃(i v:Nat),A=Ab Ak i/\i+m=L/\B=Ab Al (v:Int)/\Hid (val (bs.take i)=v))
 case atStart=>exact⟨rfl,0,0,rfl,by omega,rfl,rfl⟩
 case round =>
  obtain⟨l,i,v,rfl,hi,rfl,q⟩:=hrel;subst l;by_cases j:i<L
  have id:(i:Int)<(L:Int):=by omega
  obtain⟨b,off,rfl,z,r⟩:=H.o.1 (by rw[H.o.2];omega)
  have g:i<bs.length:=by rw[H.o.2];exact j
  obtain⟨y,p⟩:=Xa (bs[i])
  have C:wr.cell? ⟨b,off+i,none⟩=some (Ab .u8 (y.toNat:Int)):=by
   have:=r i y (by rw[List.getElem?_eq_getElem g,p]) 0 _ rfl;rw[show i*gP.size+0=i from(by show i*1+0=i;omega)]at this;exact this
  have d:=Lq bs i g;have f:=IP (bs.take i);rw[q.o]at d f;rw[p]at d
  have k:v<72057594037927936:=by
   have:(bs.take i).length<=7:=by rw[AE];omega
   have:=Nat.pow_le_pow_right (n:=256) (by decide) this
   have e:256 ^ 7=72057594037927936:=by decide
   omega
  have mO:=Nj y k;have u:=Ih d;clear d f g r p;go_wp2;go_roundg (gk - 1)
  case measure=>omega
  case rel=>exact⟨rfl,i+1,v*256+y.toNat,by go_num,by omega,by go_num,u.o⟩
  obtain rfl:i=L:=by omega
  have e:bs.take i=bs:=Av (by rw[H.o.2];omega)
  have t:Hid (val bs=v):=by rw[<- e];exact q.o
  clear e;go_wp2;go_ret;exact⟨by rw[t.o];rfl,rfl⟩
theorem Lv(n:Nat)(l:gM gP 5 w base v bs)(i:base<=w.heap.size)(j:bs.length<=100000000000000):
  At Am 166 #[v,Ab Al (n:Int)] w λ e w'=>∃v',e=Aj v'/\Hid (gM gP 5 w' base v' (bs++low 8 n)/\An base w w'/\Aw (λ k=>v.ownBlock=some k) w w'):=by
 have H:=I3 l i j
 clear l i j;go_enter func166,ntmps166;go_wp2_with fail;go_loopg[0,5] 8 (λ m h u wr=>u=Ab Ak (8*(m:Int) - 8)/\m<=8/\Hid (gM gP 5 wr base h (bs++low (8 - m) (n / 256 ^ m))/\An base w wr/\Aw (λ k=>v.ownBlock=some k) w wr/\Dw w v h))
 case atStart=>exact⟨rfl,AA _,by simpa[low]using H.o.1,Below.refl _ _,Aw.refl _ _,Dw.refl _ _⟩
 case round =>
  obtain⟨rfl,x,a⟩:=hrel
  cases gk with
  | zero =>
   go_wp2;go_ret;exact⟨_,rfl,by simpa using a.o.1,a.o.2.1,a.o.2.2.1⟩
  | succ gk =>
   obtain⟨y,g⟩:∃y:UInt8,AX (n / 256 ^ gk)=y:=⟨_,rfl⟩
   have s:(n:Int) / 2 ^ (8*(gk+1) - 8) % 256=(y.toNat:Int):=by
    have r:((2:Int) ^ (8*gk))=((256 ^ gk:Nat):Int):=by
     rw[show(256:Nat) ^ gk=2 ^ (8*gk) by rw[Nat.pow_mul]];exact(Int.natCast_pow 2 (8*gk)).symm
    rw[<- g,Bm,show 8*(gk+1) - 8=8*gk by omega,r,<- Int.natCast_ediv];omega
   have p:low (8 - gk) (n / 256 ^ gk)=low (8 - (gk+1)) (n / 256 ^ (gk+1))++[y]:=by
    rw[show 8 - gk=(8 - (gk+1))+1 by omega,low,g,Nat.div_div_eq_div_mul,<- Nat.pow_succ]
   have q:Hid _:=p
   have t:(bs++low (8 - (gk+1)) (n / 256 ^ (gk+1))).length<=100000000000008:=by
    rw[Ax,Bp];have:=H.o.2.2;omega
   clear p g;go_wp2_with(at_builtin;refine BA gP 5 24 1 (Ab .u8 0) rfl Tryz.info5 underlying24 rfl (.tmp 10) (.tmp 15) rfl base _ _ y _ rfl a.o.1 rfl (by omega) (by simp only[AH];omega) (AU H.o.2.1 a.o.2.1.size) _ (by first | rfl | (rw[s];rfl)) ?_;intro v4 z d b c f);go_wp2;go_roundg gk
   case measure=>omega
   case rel=>exact⟨by go_num,by omega,by rw[q.o,<- AT];exact d,a.o.2.1.trans b,a.o.2.2.1.chain a.o.2.2.2 f,a.o.2.2.2.chain a.o.2.1.size c⟩
theorem Qc:∀xs:Bs,Gv ⟨xs.toArray⟩=gP.all xs
 | []=>rfl
 | x::t=>by
  have a:=Qc t;show Gv ⟨(x::t).toArray⟩=gP.cells x++gP.all t;rw[<- a];simp[Gv,gP]
theorem ow{rest:List Oper}{o:Oper}{a:Act}(g:o.guard=none)(s x:Operand)
  (j:o.op=.call { callee:=.builtin .append,args:=#[s,x],argTypes:=#[24,9] }) (base:Nat) (v:Ar) (f xs:Bs) (u:a.eval s=v) (b:gM gP 5 w base v f)
  (y:a.eval x=tx xs) (d:f.length+xs.length<=140737488355328) (q:base<=w.heap.size)
  (h:∀v' w',gM gP 5 w' base v' (f++xs)->An base w w'->Aw (λ k=>v.ownBlock=some k) w w'->wpList Am ops Q rest (a.put o.dst v') w') :
  wpList Am ops Q (o::rest) a w:=by
 obtain⟨i0,i,l,m,n⟩:=Ch Tryz.info5
 have c:(⟨xs.toArray⟩:ByteArray).size=xs.length:=by show xs.toArray.size=_;simp
 refine Lib.wpList_append_own_string w g s x 24 9 j base 5 i0 underlying24 underlying9 i l m n v f.length (gP.all f) u b ⟨xs.toArray⟩ y (by rw[c];simp only[AH];omega) (by rw[c];exact d) q ?_;intro v' w' p t _;have r:Aw (λ k=>v.ownBlock=some k) w w':=(Aw.refl _ _).grown t (λ k _ e=>e);refine h v' w' ?_ (gM.turn b q r) r;unfold gM;rw[Ax,gP.all_append];rw[c,Qc]at p;exact p
theorem Qw(s:Bs)(x:s.length<=255)(u:gM gP 5 w base v bs)(p:base<=w.heap.size)(r:bs.length<=100000000000000):
  At Am 165 #[v,tx s] w λ e w'=>∃v',e=Aj v'/\Hid (gM gP 5 w' base v' (bs++AX s.length::s)/\An base w w'/\Aw (λ k=>v.ownBlock=some k) w w'):=by
 have H:=I4 u p r x
 obtain⟨y,m⟩:∃y:UInt8,AX s.length=y:=⟨_,rfl⟩
 have q:(s.length:Int) % 256=(y.toNat:Int):=by
  rw[<- m,Bm];omega
 rw[m]
 obtain⟨t,i⟩:∃t:ByteArray,t=⟨s.toArray⟩:=⟨_,rfl⟩
 have h:t.size=s.length:=by rw[i];show s.toArray.size=_;simp
 rw[<- h]at q;have z:=Ih i;rw[show tx s=Ae t by rw[i]];clear u p r m i x h;go_enter func165,ntmps165
 go_wp2_with(first
  | (at_builtin;refine BA gP 5 24 1 (Ab .u8 0) rfl Tryz.info5 underlying24 rfl (.tmp 5) (.tmp 9) rfl base _ bs y _ rfl H.o.1 rfl (by have:=H.o.2.2.1;omega) (by have:=H.o.2.2.1;simp only[AH];omega) H.o.2.1 _ (by first | rfl | (rw[q];rfl)) ?_;intro v4 n d b c g;have a:=I4 d b g c;clear d b c g)
  | (at_builtin;refine ow rfl (.tmp 10) (.tmp 11) rfl base _ (bs++[y]) s rfl a.o.1 (by show Ae t=_;rw[z.o]) (by have:=H.o.2.2.1;have:=H.o.2.2.2;rw[Ax];simp;omega) (AU H.o.2.1 a.o.2.1.size) ?_;intro v5 A f j l))
 go_wp2;go_ret;exact⟨_,rfl,by rw[AT]at f;exact f,a.o.2.1.trans j,a.o.2.2.1.chain a.o.2.2.2 l⟩
theorem jz(s:ByteArray):s.size=s.data.toList.length:=Lib.size_eq s
theorem Xp(c:Int)(w:Ap):
  At Am 171 #[Ab .u8 c] w λ e w'=>e=Aj (Ad (nJ c))/\w'=w:=by
 go_enter func171,ntmps171;go_wp2
 all_goals go_ret
 all_goals refine⟨A7 (λ b=>Aj (Ad b)) ?_,rfl⟩
 all_goals(rw[Db];simp[nJ];try omega)
theorem eG(s:ByteArray)(c:Int)(w:Ap):
  At Am 238 #[Ae s,Ab .u8 c] w λ e w'=>e=Aj (Ab Ak (CF s.data.toList c.toNat.toUInt8))/\w'=w:=by
 go_enter func238,ntmps238;go_wp2;rw[run_callFunc_extern func246 (by kernel_rfl) (by kernel_rfl) (by kernel_rfl) (e:=Extern.BytealgIndexByte.indexByte) (by kernel_rfl),Lib.run_indexByteString];simp only[Result.andThen];rw[Oper.upon_value];go_wp2;go_ret;exact⟨rfl,rfl⟩
theorem U7{s:ByteArray}(h:([47]==s.toList)=true):CF s.data.toList 47=0:=by
 have e:[47]=s.toList:=by simpa using h
 rw[<- ByteArray.toList_eq,<- e]
 rfl
theorem eQ(s:ByteArray)(w:Ap):
  At Am 226 #[Ae s,Ae ⟨#[47]⟩] w λ e w'=>e=Aj (Ab Ak (CF s.data.toList 47))/\w'=w:=by
 go_enter func226,ntmps226;go_wp2_with fail
 have h:([47]==s.toList)=true:=by assumption
 go_ret;exact⟨by rw[U7 h];rfl,rfl⟩
 refine(eG s 47 _).mono ?_;rintro e w' ⟨rfl,rfl⟩;go_wp2;go_ret;exact⟨rfl,rfl⟩
theorem JT(s:ByteArray)(o:Nat):s.extract 0 o=⟨(s.data.toList.take o).toArray⟩:=by
 have:=ByteArray.extract_mk s.data.toList 0 o;simpa using this
theorem Oi(s:ByteArray)(o:Nat):s.extract o s.size=⟨(s.data.toList.drop o).toArray⟩:=by
 have:=ByteArray.extract_mk s.data.toList o s.size;rw[Av (by rw[AO,jz];omega)]at this;simpa using this
theorem PL:∀l:Bs,(jD l).2.1.length<=l.length
 | []=>by simp[jD]
 | b::t=>by
  have:=PL t;by_cases h:b=47;simp[jD,h];simp only[jD,h,Ek,A2];omega
theorem U8(s:ByteArray)(g:s.size<=9223372036854775807)(w:Ap):
  At Am 220 #[Ae s,Ae ⟨#[47]⟩] w λ e w'=>e=Aj (Af #[Ae ⟨(jD s.data.toList).1.toArray⟩,Ae ⟨(jD s.data.toList).2.1.toArray⟩,Ad (jD s.data.toList).2.2])/\∃m,w'=w.drewN m:=by
 have a:=Lib.indexByte_ge s.data.toList 47
 obtain⟨o,b⟩:=Xa (CF s.data.toList 47)
 have d:=eQ s;rw[b]at d a;by_cases c:o = -1
 ·have q:=Qn _ (b.trans c);rw[q];subst c;go_enter func220,ntmps220;go_wp2_with fail;refine(d _).mono ?_;rintro e w' ⟨rfl,rfl⟩;go_wp2;refine As (v:=Af #[Ae s,Ae ⟨#[]⟩,Ad false]) ?_ rfl ⟨rfl,0,rfl⟩;simp[AI,Tryz.f220]
 ·obtain⟨k,rfl⟩:∃k:Nat,o=k:=⟨o.toNat,by omega⟩
  obtain⟨f,q⟩:=Qv _ k b;rw[q,<- JT,<- Oi];rw[<- jz]at f;have Q:Hid (jD s.data.toList=_):=q;clear a c q b;go_enter func220,ntmps220;go_wp2_with fail;refine(d _).mono ?_;rintro e w' ⟨rfl,rfl⟩;go_wp2_with fail;go_quiet (fail);go_wp2;refine As (v:=Af #[Ae (s.extract 0 k),Ae (s.extract (k+1) s.size),Ad true]) ?_ rfl ⟨rfl,_,rfl⟩;simp[AI,Tryz.f220]
theorem ZZ(s:ByteArray)(i:s.size<=9223372036854775807)(w:Ap):
  At Am 209 #[Ae s,Ae ⟨#[47]⟩] w λ e w'=>e=Aj (Af #[Ae ⟨(jD s.data.toList).1.toArray⟩,Ae ⟨(jD s.data.toList).2.1.toArray⟩,Ad (jD s.data.toList).2.2])/\∃m,w'=w.drewN m:=by
 obtain⟨a,d⟩:=Xa ((jD s.data.toList).1)
 obtain⟨b,g⟩:=Xa ((jD s.data.toList).2.1)
 obtain⟨f,h⟩:=Xa ((jD s.data.toList).2.2)
 have c:=U8 s i w;rw[d,g,h]at c ⊢;go_enter func209,ntmps209;go_wp2_with fail;refine c.mono ?_;rintro e w' ⟨rfl,m,rfl⟩;go_wp2;refine As (v:=Af #[Ae ⟨a.toArray⟩,Ae ⟨b.toArray⟩,Ad f]) ?_ rfl ⟨rfl,m,rfl⟩;simp[AI,Tryz.f209]
theorem Tb{s:ByteArray}(h:i<s.data.toList.length)(a:nJ ((s.data.toList[i]).toNat:Int)=false):gS s.data.toList=false:=by
 have:s.data.toList.all okB=false:=by
  rw[List.all_eq_false];exact⟨_,List.getElem_mem h,by simpa[okB]using a⟩
 simp[gS,this]
theorem Qi{l:Bs}(h:i<l.length)(a:(l.take i).all okB=true)(b:nJ ((l[i]).toNat:Int)=true):Hid ((l.take (i+1)).all okB=true):=by
 show _=_;rw[List.take_succ_eq_append_getElem h,List.all_append,a];simpa[okB]using b
theorem gg{l:Bs}(b:1<=l.length)(c:l.length<=16)(a:(l.take l.length).all okB=true):gS l=true:=by
 rw[List.take_length]at a;simp[gS,a,b,c]
theorem W7(s:ByteArray)(w:Ap):
  At Am 113 #[Ae s] w λ e w'=>e=Aj (Ab Ak (mP (gS s.data.toList)))/\w'=w:=by
 have b:=jz s;by_cases g:1<=s.size
 ·by_cases h:s.size<=16
  ·have E:=Ih b;clear b;go_enter func113,ntmps113;go_wp2_with fail;go_loopg[14] s.size (λ k v wr=>∃i:Nat,v=Ab Ak i/\i+k=s.size/\wr=w/\Hid ((s.data.toList.take i).all okB=true))
   case atStart=>exact⟨0,rfl,by omega,rfl,by simp[Hid]⟩
   case round =>
    obtain⟨i,rfl,hi,rfl,c⟩:=hrel;by_cases a:i<s.size
    ·go_wp2_with fail;refine(Xp _ _).mono ?_;rintro e w' ⟨rfl,rfl⟩
     obtain⟨f,d⟩:=Xa (nJ (s[i].toNat:Int))
     have F:=Ih d;rw[d];clear d;cases f
     ·go_wp2;go_ret;exact⟨by rw[Tb (E.o ▸ a) F.o];rfl,rfl⟩
     ·go_wp2;go_roundg (gk - 1)
      case measure=>omega
      case rel=>exact⟨i+1,by go_num,by omega,rfl,Qi (E.o ▸ a) c.o F.o⟩
    ·obtain rfl:i=s.size:=by omega
     go_wp2;go_ret;exact⟨by rw[gg (by rw[<- E.o];exact g) (by rw[<- E.o];exact h) (by rw[E.o]at c;exact c.o)];rfl,rfl⟩
  ·have:gS s.data.toList=false:=by simp[gS];omega
   rw[this];clear this b;go_enter func113,ntmps113;go_wp2;go_ret;exact⟨rfl,rfl⟩
 ·have:gS s.data.toList=false:=by simp[gS];omega
  rw[this];clear this b;go_enter func113,ntmps113;go_wp2;go_ret;exact⟨rfl,rfl⟩
theorem IM(l:Bs)(g:Bool)(a:gS l=g)(w:Ap):
  At Am 113 #[Ae ⟨l.toArray⟩] w λ e w'=>e=Aj (Ab Ak (mP g))/\w'=w:=by
 subst a;exact W7 ⟨l.toArray⟩ w
theorem TY(s:ByteArray)(z:s.size<=9223372036854775807)(w:Ap):
  At Am 188 #[Ae s] w λ e w'=>e=Aj (Ab Ak (mP (gV s.data.toList)))/\∃m,w'=w.drewN m:=by
 go_enter func188,ntmps188;go_wp2_with fail;go_loopg[0,7] 6 (λ k p c wr=>∃(i:Nat) (u:ByteArray) (m:Nat),p=Ae u/\c=Ab Ak i/\i+k=6/\u.size<=9223372036854775807/\wr=w.drewN m/\Hid (nT k u.data.toList=gV s.data.toList))
 case atStart=>exact⟨0,s,0,rfl,rfl,by omega,z,rfl,rfl⟩
 case round =>
  obtain⟨i,u,m,rfl,rfl,hi,A,rfl,j⟩:=hrel;by_cases y:i<6
  ·obtain⟨k,rfl⟩:∃k,gk=k+1:=⟨gk - 1,by omega⟩
   obtain⟨a,q⟩:=Xa ((jD u.data.toList).1)
   obtain⟨b,h⟩:=Xa ((jD u.data.toList).2.1)
   obtain⟨f,t⟩:=Xa ((jD u.data.toList).2.2)
   have d:=j.o;rw[nT,q,h,t]at d;have l:Hid _:=d
   have r:b.length<=9223372036854775807:=by rw[<- h];have:=PL u.data.toList;rw[<- jz]at this;omega
   have x:=ZZ u A;rw[q,h,t]at x;clear q h t d j;go_wp2_with fail;refine(x _).mono ?_;rintro e w' ⟨rfl,B,rfl⟩;go_wp2_with fail
   obtain⟨g,v⟩:=Xa (gS a)
   have n:=Ih v;refine(IM a g v _).mono ?_;rintro e w' ⟨rfl,rfl⟩;clear v;cases g
   ·rw[show mP false=2 from rfl];go_wp2;go_ret;exact⟨by rw[<- l.o,n.o];rfl,_,rfl⟩
   ·rw[show mP true=0 from rfl];cases f
    ·go_wp2;go_ret;exact⟨by rw[<- l.o,n.o];rfl,_,rfl⟩
    ·go_wp2;go_roundg k
     case measure=>omega
     case rel=>exact⟨i+1,⟨b.toArray⟩,_,rfl,by go_num,by omega,by rw[jz];exact r,rfl,by have:=l.o;rw[n.o]at this;exact this⟩
  ·obtain rfl:i=6:=by omega
   obtain rfl:gk=0:=by omega
   go_wp2;go_ret;exact⟨by rw[<- j.o];rfl,m,rfl⟩
theorem Kj(s:ByteArray)(b:s.size<=9223372036854775807)(g:Bool)(a:gV s.data.toList=g)(w:Ap):
  At Am 188 #[Ae s] w λ e w'=>e=Aj (Ab Ak (mP g))/\∃m,w'=w.drewN m:=by
 subst a;exact TY s b w
def Yd:EI:=⟨λ | 103=>222 | 210=>227 | 206=>228 | n=>n,λ | 9=>9 | 4=>4 | 24=>333 | 3=>3 | n=>n,λ | n=>n⟩
theorem mJ:Ii Am Yd:={
 mixed:=by kernel_rfl
 f103:=Tryz.func222.trans (A7 some (by kernel_rfl))
 f206:=Tryz.func228.trans (A7 some (by kernel_rfl))
 f210:=Tryz.func227.trans (A7 some (by kernel_rfl))
 t3:=underlying3
 a3:=Tryz.isAgg3
 z3:=Tryz.sizeOf3
 v3:=Tryz.zeroValue3
 t4:=underlying4
 a4:=Tryz.isAgg4
 z4:=Tryz.sizeOf4
 v4:=Tryz.zeroValue4
 t9:=underlying9
 a9:=Tryz.isAgg9
 z9:=Tryz.sizeOf9
 v9:=Tryz.zeroValue9
 t24:=underlying333
 a24:=Tryz.isAgg333
 z24:=Tryz.sizeOf333
 v24:=Tryz.zeroValue333 }
def ff:EI:=⟨λ | 190=>214 | 125=>82 | 258=>224 | 128=>132 | 129=>133 | 302=>229 | 303=>230 | 304=>231 | 305=>232 | 306=>233 | 307=>234 | 308=>235 | 309=>236 | 310=>237 | 333=>242 | 329=>180 | 330=>181 | 334=>243 | 335=>244 | 336=>245 | 344=>248 | n=>n,λ | 31=>67 | 9=>9 | 3=>3 | 46=>54 | 0=>0 | 51=>79 | 53=>61 | 4=>4 | 183=>237 | 182=>236 | 131=>159 | 5=>5 | 218=>297 | 222=>301 | 228=>321 | 229=>322 | n=>n,λ | n=>n⟩
theorem nr:GM Am ff:={
 mixed:=by kernel_rfl
 f125:=Tryz.func82.trans (A7 some (by kernel_rfl))
 f128:=Tryz.func132.trans (A7 some (by kernel_rfl))
 f129:=Tryz.func133.trans (A7 some (by kernel_rfl))
 f190:=Tryz.func214.trans (A7 some (by kernel_rfl))
 f258:=Tryz.func224.trans (A7 some (by kernel_rfl))
 f302:=Tryz.func229.trans (A7 some (by kernel_rfl))
 f303:=Tryz.func230.trans (A7 some (by kernel_rfl))
 f304:=Tryz.func231.trans (A7 some (by kernel_rfl))
 f305:=Tryz.func232.trans (A7 some (by kernel_rfl))
 f306:=Tryz.func233.trans (A7 some (by kernel_rfl))
 f307:=Tryz.func234.trans (A7 some (by kernel_rfl))
 f308:=Tryz.func235.trans (A7 some (by kernel_rfl))
 f309:=Tryz.func236.trans (A7 some (by kernel_rfl))
 f310:=Tryz.func237.trans (A7 some (by kernel_rfl))
 f329:=Tryz.func180.trans (A7 some (by kernel_rfl))
 f330:=Tryz.func181.trans (A7 some (by kernel_rfl))
 f333:=Tryz.func242.trans (A7 some (by kernel_rfl))
 f334:=Tryz.func243.trans (A7 some (by kernel_rfl))
 f335:=Tryz.func244.trans (A7 some (by kernel_rfl))
 f336:=Tryz.func245.trans (A7 some (by kernel_rfl))
 f344:=Tryz.func248.trans (A7 some (by kernel_rfl))
 t0:=underlying0
 a0:=Tryz.isAgg0
 z0:=Tryz.sizeOf0
 v0:=Tryz.zeroValue0
 t3:=underlying3
 a3:=Tryz.isAgg3
 z3:=Tryz.sizeOf3
 v3:=Tryz.zeroValue3
 t4:=underlying4
 a4:=Tryz.isAgg4
 z4:=Tryz.sizeOf4
 v4:=Tryz.zeroValue4
 t5:=underlying5
 a5:=Tryz.isAgg5
 z5:=Tryz.sizeOf5
 v5:=Tryz.zeroValue5
 t9:=underlying9
 a9:=Tryz.isAgg9
 z9:=Tryz.sizeOf9
 v9:=Tryz.zeroValue9
 t31:=underlying67
 a31:=Tryz.isAgg67
 z31:=Tryz.sizeOf67
 v31:=Tryz.zeroValue67
 t46:=underlying54
 a46:=Tryz.isAgg54
 z46:=Tryz.sizeOf54
 v46:=Tryz.zeroValue54
 t51:=underlying79
 a51:=Tryz.isAgg79
 z51:=Tryz.sizeOf79
 v51:=Tryz.zeroValue79
 t53:=underlying61
 a53:=Tryz.isAgg61
 z53:=Tryz.sizeOf61
 v53:=Tryz.zeroValue61
 t131:=underlying159
 a131:=Tryz.isAgg159
 z131:=Tryz.sizeOf159
 v131:=Tryz.zeroValue159
 t182:=underlying236
 a182:=Tryz.isAgg236
 z182:=Tryz.sizeOf236
 v182:=Tryz.zeroValue236
 t183:=underlying237
 a183:=Tryz.isAgg237
 z183:=Tryz.sizeOf237
 v183:=Tryz.zeroValue237
 t218:=underlying297
 a218:=Tryz.isAgg297
 z218:=Tryz.sizeOf297
 v218:=Tryz.zeroValue297
 t222:=underlying301
 a222:=Tryz.isAgg301
 z222:=Tryz.sizeOf301
 v222:=Tryz.zeroValue301
 t228:=underlying321
 a228:=Tryz.isAgg321
 z228:=Tryz.sizeOf321
 v228:=Tryz.zeroValue321
 t229:=underlying322
 a229:=Tryz.isAgg322
 z229:=Tryz.sizeOf322
 v229:=Tryz.zeroValue322 }
def WX:EI:=⟨λ | 99=>223 | 206=>228 | n=>n,λ | 9=>9 | 4=>4 | 3=>3 | n=>n,λ | n=>n⟩
theorem mN:Il Am WX:={
 mixed:=by kernel_rfl
 f99:=Tryz.func223.trans (A7 some (by kernel_rfl))
 f206:=Tryz.func228.trans (A7 some (by kernel_rfl))
 t3:=underlying3
 a3:=Tryz.isAgg3
 z3:=Tryz.sizeOf3
 v3:=Tryz.zeroValue3
 t4:=underlying4
 a4:=Tryz.isAgg4
 z4:=Tryz.sizeOf4
 v4:=Tryz.zeroValue4
 t9:=underlying9
 a9:=Tryz.isAgg9
 z9:=Tryz.sizeOf9
 v9:=Tryz.zeroValue9 }
def dk:EI:=⟨λ | 16=>213 | n=>n,λ | 24=>67 | 9=>9 | 4=>4 | n=>n,λ | n=>n⟩
theorem mx:Go.Proofs.Lays2.n16 Am dk:={
 mixed:=by kernel_rfl
 f16:=Tryz.func213.trans (A7 some (by kernel_rfl))
 t4:=underlying4
 a4:=Tryz.isAgg4
 z4:=Tryz.sizeOf4
 v4:=Tryz.zeroValue4
 t9:=underlying9
 a9:=Tryz.isAgg9
 z9:=Tryz.sizeOf9
 v9:=Tryz.zeroValue9
 t24:=underlying67
 a24:=Tryz.isAgg67
 z24:=Tryz.sizeOf67
 v24:=Tryz.zeroValue67
 i9:=by kernel_rfl }
def fF:EI:=⟨λ | 194=>215 | n=>n,λ | 31=>67 | 9=>9 | 3=>3 | 4=>4 | 0=>0 | n=>n,λ | n=>n⟩
theorem mp:Ik Am fF:={
 mixed:=by kernel_rfl
 f194:=Tryz.func215.trans (A7 some (by kernel_rfl))
 t0:=underlying0
 a0:=Tryz.isAgg0
 z0:=Tryz.sizeOf0
 v0:=Tryz.zeroValue0
 t3:=underlying3
 a3:=Tryz.isAgg3
 z3:=Tryz.sizeOf3
 v3:=Tryz.zeroValue3
 t4:=underlying4
 a4:=Tryz.isAgg4
 z4:=Tryz.sizeOf4
 v4:=Tryz.zeroValue4
 t9:=underlying9
 a9:=Tryz.isAgg9
 z9:=Tryz.sizeOf9
 v9:=Tryz.zeroValue9
 t31:=underlying67
 a31:=Tryz.isAgg67
 z31:=Tryz.sizeOf67
 v31:=Tryz.zeroValue67 }
end Go.Proofs.YtakgkgmopmcecaaGreat
