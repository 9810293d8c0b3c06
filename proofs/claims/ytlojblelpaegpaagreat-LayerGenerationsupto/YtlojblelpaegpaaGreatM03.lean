/-
  Several texts, laid together.
-/
import Derived.Test.YtlojblelpaegpaaGreatM02
set_option maxHeartbeats 6400000
set_option maxRecDepth 100000
open UInt8 renaming ofNat->AW,toNat_ofNat'->Bk,toNat->Hn
open List renaming length_take->AM,length_drop->By,drop_drop->C5,cons_append->Cs,lt_irrefl->D5,append_assoc->A9,pairwise_append->De,mem_append->AK,lt_trans->GF,all_eq_true->Dr,take_left->D6,drop_left->DJ,length_append->AD,take_append_drop->Ch,append_nil->Bp,length_cons->A3,drop->Hx,mem_cons_self->Ba,mem_cons_of_mem->Bd,mem_cons->Bw,pairwise_singleton->EY,pairwise_cons->Bn,filter_cons->EA
open Bool renaming and_eq_true->Bf
open UInt64 renaming ofNat->AU,toNat_ofNat'->C1
open Prod.mk renaming injEq->Fw
open List.Pairwise renaming filter->Ho,nil->Co
namespace Go.Proofs.YtlojblelpaegpaaGreat
open Go.RowKit
variable{a b r s:Bs}{d k n:Nat}
abbrev Fr:=Int×Bs
def headB(k:Int)(body:Bs):Bs:=b4 body.length++(AW k.toNat::body)
def sealB(k:Int)(body:Bs):Bs:=headB k body++b4 (crc (headB k body))
theorem ZhC(k:Int)(body:Bs):(headB k body).length=5+body.length:=by simp[headB,Zbi];omega
theorem Zhx(k:Int)(body:Bs):(sealB k body).length=9+body.length:=by simp[sealB,ZhC,Zbi];omega
def fseal(f:Fr):Bs×Int:=if f.1<0∨255<f.1 then([],3)else if 8192<f.2.length then([],4)else(sealB f.1 f.2,0)
def fopen(b:Bs):Fr×Nat×Int :=
 if b.length<4 then((0,[]),0,10)
 else if 8192<val (b.take 4)then((0,[]),0,4)
 else if b.length<9+val (b.take 4)then((0,[]),0,10)
 else if val ((b.drop (5+val (b.take 4))).take 4)≠crc (b.take (5+val (b.take 4)))then((0,[]),0,11)
 else((((b.getD 4 0).toNat:Int),(b.drop 5).take (val (b.take 4))),9+val (b.take 4),0)
theorem ZnI(h:(fopen b).2.2=0):4<=b.length/\val (b.take 4)<=8192/\9+val (b.take 4)<=b.length/\val ((b.drop (5+val (b.take 4))).take 4)=crc (b.take (5+val (b.take 4)))/\fopen b=((((b.getD 4 0).toNat:Int),(b.drop 5).take (val (b.take 4))),9+val (b.take 4),0):=by
 unfold fopen at h ⊢
 split at h
 ·simp at h
 ·split at h
  ·simp at h
  ·split at h
   ·simp at h
   ·split at h
    ·simp at h
    ·rename_i c d e a
     rw[Aw c,Aw d,Aw e,Aw a];exact⟨by omega,by omega,by omega,by simpa using a,rfl⟩
theorem Zix(h:(fopen b).2.2=0):9<=(fopen b).2.1/\(fopen b).2.1<=b.length/\(fopen b).2.1=9+(fopen b).1.2.length:=by
 obtain⟨c,d,a,_,e⟩:=ZnI h;rw[e];refine⟨by show 9<=9+_;omega,a,?_⟩;show 9+_=9+((b.drop 5).take _).length;rw[AM,By];omega
def fcut(b:Bs):List Fr×Nat×Int :=
 if _h0:b=[]then([],0,0)
 else if _h:(fopen b).2.2=0 then((fopen b).1::(fcut (b.drop (fopen b).2.1)).1,(fopen b).2.1+(fcut (b.drop (fopen b).2.1)).2.1,(fcut (b.drop (fopen b).2.1)).2.2)
 else([],0,(fopen b).2.2)
termination_by b.length
decreasing_by
 all_goals
  have:=Zix _h
  have:0<b.length:=by
   rcases b with _|_
   ·exact absurd rfl _h0
   ·simp
  simp only[By];omega
theorem Zox:fcut []=([],0,0):=by rw[fcut];simp
theorem Zmp(a:0<b.length)(h:(fopen b).2.2≠0):fcut b=([],0,(fopen b).2.2):=by
 rw[fcut,dif_neg (by intro e;rw[e]at a;simp at a),dif_neg h]
theorem ZlC(a:0<b.length)(h:(fopen b).2.2=0):fcut b=((fopen b).1::(fcut (b.drop (fopen b).2.1)).1,(fopen b).2.1+(fcut (b.drop (fopen b).2.1)).2.1,(fcut (b.drop (fopen b).2.1)).2.2):=by
 rw[fcut,dif_neg (by intro e;rw[e]at a;simp at a),dif_pos h]
def Zc5(b:Bs)(fs:List Fr)(d:Nat):Prop:=d<=b.length/\9*fs.length<=d/\fcut b=(fs++(fcut (b.drop d)).1,d+(fcut (b.drop d)).2.1,(fcut (b.drop d)).2.2)
theorem Zc5.start(b:Bs):Zc5 b [] 0:=⟨Nat.zero_le _,by simp,by simp⟩
theorem Zc5.stop{a:List Fr}(h:Zc5 b a d)(hd:d<b.length)(c:(fopen (b.drop d)).2.2≠0):fcut b=(a,d,(fopen (b.drop d)).2.2):=by
 rw[h.2.2,Zmp (by rw[By];omega) c];simp
theorem Zc5.step{a:List Fr}(h:Zc5 b a d)(hd:d<b.length)(c:(fopen (b.drop d)).2.2=0):Zc5 b (a++[(fopen (b.drop d)).1]) (d+(fopen (b.drop d)).2.1):=by
 have e:=Zix c;rw[By]at e;refine⟨by omega,by have:=h.2.1;simp;omega,?_⟩;rw[h.2.2,ZlC (by rw[By];omega) c,C5];simp[Nat.add_assoc]
theorem Zc5.done{a:List Fr}(h:Zc5 b a d)(hd:¬d<b.length):fcut b=(a,d,0):=by
 have:b.drop d=[]:=List.drop_eq_nil_of_le (by omega);rw[h.2.2,this,Zox];simp
abbrev En:=Bs×UInt64
variable{e:En}{es:List En}
def Ahead(a b:En):Prop:=a.1<b.1/\under b.1 a.1=false
def decAhead(a b:En):Decidable (Ahead a b):=inferInstanceAs (Decidable (a.1<b.1/\under b.1 a.1=false))
def Tr(es:List En):Prop:=es.Pairwise Ahead
def decTr(es:List En):Decidable (Tr es) :=
 haveI:DecidableRel Ahead:=decAhead
 inferInstanceAs (Decidable (es.Pairwise Ahead))
theorem ZeR:∀(d t:Bs),¬(d++t<d)
 | [],t=>by simp
 | x::d,t=>by
  intro h;rw[Cs,List.cons_lt_cons_iff]at h
  rcases h with h|⟨_,h⟩
  ·exact UInt8.lt_irrefl _ h
  ·exact ZeR d t h
theorem ZoC{p d:Bs}(h:under p d=true):¬p<d:=by
 simp only[under,Bool.or_eq_true,Ep,List.isPrefixOf_iff_prefix]at h
 rcases h with rfl|⟨u,rfl⟩
 ·exact D5 _
 ·rw[A9];exact ZeR d _
def fits(p:Bs)(es:List En):Bool:=(match es.getLast? with | none=>true | some e=>decide (e.1<p))&&!(es.any (λ e=>under p e.1))
theorem ZoJ{x:En}(h:Tr es):fits x.1 es=true↔Tr (es++[x]):=by
 have hp:Tr (es++[x])↔∀a∈es,Ahead a x:=by
  unfold Tr;rw[De];simp[show es.Pairwise Ahead from h]
 rw[hp];unfold fits
 rcases List.eq_nil_or_concat es with rfl|⟨t,y,rfl⟩
 ·simp
 ·rw[List.concat_eq_append]at h ⊢;rw[List.getLast?_concat];simp only[Bf,A5,Bool.not_eq_true',List.any_eq_false]
  constructor
  ·rintro⟨c,d⟩ a b;refine⟨?_,by simpa using d a b⟩
   rcases AK.1 b with q|q
   ·have:=(De.1 h).2.2 a q y (by simp);exact GF this.1 c
   ·have:a=y:=by simpa using q
    rw[this];exact c
  ·intro hq;exact⟨(hq y (by simp)).1,λ a b=>by simpa using(hq a b).2⟩
def ctree(es:List En):Int:=if 64<es.length then 4 else if(es.all λ e=>isPath e.1)=false then 2 else @ite Int (Tr es) (decTr es) 0 12
theorem ZaS(h:ctree es=0):es.length<=64/\(es.all λ e=>isPath e.1)=true/\Tr es:=by
 unfold ctree at h
 split at h
 ·cases h
 ·split at h
  ·cases h
  ·split at h
   ·rename_i c a b
    exact⟨by omega,by simpa using a,b⟩
   ·cases h
theorem ZiI(c:es.length<=64)(a:(es.all λ e=>isPath e.1)=true)(b:Tr es):ctree es=0:=by
 unfold ctree;rw[Aw (by omega),Aw (by rw[a];decide),AE b]
theorem ZbA{l:Bs}(h:isPath l=true):l.length<=102:=by
 rw[<- ZfG,refIs]at h;simp only[Bf,A5]at h;exact h.1
def entB(e:En):Bs:=AW e.1.length::(e.1++b8 e.2)
def treeB(es:List En):Bs:=es.flatMap entB
def ftree(es:List En):Bs×Int:=if ctree es=0 then(treeB es,0)else([],ctree es)
theorem ZdH(e:En):(entB e).length=e.1.length+9:=by simp[entB,Zb0]
def Sm(es:List En):Prop:=∀e∈es,e.1.length<=255
theorem ZbI(h:ctree es=0):Sm es:=by
 intro e a;have:=(ZaS h).2.1;rw[Dr]at this;have:=ZbA (this e a);omega
def one:Bs->Option (En×Bs)
 | []=>none
 | n::t=>if t.length<n.toNat+8 then none else some ((t.take n.toNat,AU (val ((t.drop n.toNat).take 8))),t.drop (n.toNat+8))
theorem ZfO(h:e.1.length<=255)(r:Bs):one (entB e++r)=some (e,r):=by
 have c:(AW e.1.length).toNat=e.1.length:=by rw[Bk];omega
 obtain⟨p,b⟩:=e;simp only at c h;show one (AW p.length::((p++b8 b)++r))=_;have a:=Zb0 b;simp only[one];rw[c,Aw (by simp[a]),A9,D6,DJ]
 have d:(b8 b++r).take 8=b8 b:=by rw[<- a,D6]
 have f:(p++(b8 b++r)).drop (p.length+8)=r:=by
  rw[<- A9]
  have:p.length+8=(p++b8 b).length:=by rw[AD,a]
  rw[this,DJ]
 rw[d,f,ZdA]
theorem ZdJ(h:one b=some (e,r)):b=entB e++r/\e.1.length<=255:=by
 cases b with
 | nil=>cases h
 | cons n t =>
  simp only[one]at h
  split at h
  ·cases h
  ·rename_i c
   have d:=n.toNat_lt;simp only[Option.some.injEq,Fw]at h;obtain⟨rfl,rfl⟩:=h
   have a:(t.take n.toNat).length=n.toNat:=by rw[AM];omega
   refine⟨?_,by show(t.take n.toNat).length<=255;omega⟩
   show n::t=AW (t.take n.toNat).length::((t.take n.toNat++b8 (AU (val ((t.drop n.toNat).take 8))))++t.drop (n.toNat+8))
   rw[a,ZoU (by rw[AM,By];omega),A9,<- C5,Ch,Ch]
   congr 1
   apply UInt8.toNat_inj.1;rw[Bk];omega
theorem Zdz:∀(es a:List En) (r:Bs),Sm es->Sm a->treeB a=treeB es++r->∃t,a=es++t/\treeB t=r
 | [],a,r,_,_,h=>⟨a,rfl,h⟩
 | e::es,[],r,_,_,h=>by simp[treeB,entB]at h
 | e::es,e'::a,r,h1,h2,h=>by
  have d:entB e'++treeB a=entB e++(treeB es++r):=by
   simpa[treeB]using h
  have c:=ZfO (h2 e' (by simp)) (treeB a);rw[d,ZfO (h1 e (by simp))]at c;simp only[Option.some.injEq,Fw]at c;obtain⟨rfl,g⟩:=c;obtain⟨t,rfl,f⟩:=Zdz es a r (λ x b=>h1 x (by simp[b])) (λ x b=>h2 x (by simp[b])) g.symm;exact⟨t,rfl,f⟩
theorem Zc3(es:List En)(e:En):treeB (es++[e])=treeB es++entB e:=by simp[treeB]
theorem Sm.snoc(h:Sm es)(k:e.1.length<=255):Sm (es++[e]):=by
 intro x a
 rcases AK.1 a with q|q
 ·exact h x q
 ·have:x=e:=by simpa using q
  rw[this];exact k
def RT(b:Bs)(es:List En)(e:Int):Prop:=(e=0/\ctree es=0/\treeB es=b)∨(e=9/\es=[]/\∀es',ctree es'=0->treeB es'≠b)
theorem Zlt(d:Sm es)(g:64<es.length)(e:b=treeB es++r):RT b [] 9:=by
 refine .inr ⟨rfl,rfl,λ a c f=>?_⟩;obtain⟨t,rfl,_⟩:=Zdz es a r d (ZbI c) (by rw[f,e]);have:=(ZaS c).1;simp at this;omega
theorem Zlj(e:Sm es)(f:b=treeB es++r)(g:r≠[])(h:one r=none):RT b [] 9:=by
 refine .inr ⟨rfl,rfl,λ a d i=>?_⟩;obtain⟨t,rfl,c⟩:=Zdz es a r e (ZbI d) (by rw[i,f])
 cases t with
 | nil=>exact g (by rw[<- c];rfl)
 | cons x t =>
  have:=ZfO (ZbI d x (by simp)) (treeB t);rw[show entB x++treeB t=treeB (x::t) by simp[treeB],c,h]at this;cases this
theorem Zo9(d:Sm es)(e:treeB es=b)(f:ctree es≠0):RT b [] 9:=by
 refine .inr ⟨rfl,rfl,λ a c h=>?_⟩;obtain⟨t,rfl,g⟩:=Zdz es a [] d (ZbI c) (by rw[h,e,Bp])
 cases t with
 | nil=>exact f (by simpa using c)
 | cons x t=>simp[treeB,entB]at g
theorem Zn8(h:(ftree es).2=0):RT (ftree es).1 es 0:=by
 unfold ftree at h ⊢
 split at h
 ·rename_i q
  rw[AE q];exact .inl ⟨rfl,q,rfl⟩
 ·rename_i q
  exact absurd h q
theorem RT.back(h:RT b es 0):ftree es=(b,0):=by
 rcases h with⟨_,a,c⟩ | ⟨h,_⟩
 ·unfold ftree;rw[AE a,c]
 ·cases h
structure Cm where
 tree:UInt64
 ps:List UInt64
 date:Int
 note:Bs
variable{c:Cm}
def dw(d:Int):UInt64:=AU (d % 18446744073709551616).toNat
def sgn(v:Nat):Int:=if v<9223372036854775808 then(v:Int)else(v:Int) - 18446744073709551616
theorem Zja(d:Int):((dw d).toNat:Int)=d % 18446744073709551616:=by
 unfold dw;rw[C1];omega
theorem Zp8{v:Nat}(h:v<18446744073709551616):dw (sgn v)=AU v:=by
 unfold dw sgn
 congr 1
 split <;> omega
theorem ZoT{d:Int}(a:0<=d)(b:d<=1099511627776):sgn (val (b8 (dw d)))=d:=by
 have:=Zja d;rw[ZiX];unfold sgn
 split <;> omega
def zcm:Cm:=⟨0,[],0,[]⟩
def ccom(c:Cm):Int:=if 8<c.ps.length∨64<c.note.length then 4 else if ¬c.ps.Nodup then 6 else if c.date<0∨1099511627776<c.date then 3 else 0
theorem Zbj(h:ccom c=0):c.ps.length<=8/\c.note.length<=64/\c.ps.Nodup/\0<=c.date/\c.date<=1099511627776:=by
 unfold ccom at h
 split at h
 ·cases h
 ·split at h
  ·cases h
  ·split at h
   ·cases h
   ·rename_i b a d
    exact⟨by omega,by omega,by simpa using a,by omega,by omega⟩
def psB(ps:List UInt64):Bs:=ps.flatMap b8
def comB(c:Cm):Bs:=b8 c.tree++(AW c.ps.length::(psB c.ps++(b8 (dw c.date)++(AW c.note.length::c.note))))
def fcom(c:Cm):Bs×Int:=if ccom c=0 then(comB c,0)else([],ccom c)
theorem Zdv(ps:List UInt64)(x:UInt64):psB (ps++[x])=psB ps++b8 x:=by simp[psB]
theorem Zc9:∀ps:List UInt64,(psB ps).length=8*ps.length
 | []=>rfl
 | x::t=>by
  have:=Zc9 t;simp only[psB,List.flatMap_cons,AD,Zb0,A3]at this ⊢;omega
abbrev Rs:=Bs×Bool
def rtake(k:Nat)(r:Rs):Bs×Rs:=if r.1.length<k then([],([],true))else(r.1.take k,(r.1.drop k,r.2))
def rnum(r:Rs):Nat×Rs:=(val (rtake 8 r).1,(rtake 8 r).2)
def rcnt(r:Rs):Nat×Rs:=(val (rtake 1 r).1,(rtake 1 r).2)
def rtxt(r:Rs):Bs×Rs:=rtake (rcnt r).1 (rcnt r).2
def rnums:Nat->Rs->List UInt64×Rs
 | 0,r=>([],r)
 | k+1,r=>((rnums k r).1++[AU (rnum (rnums k r).2).1],(rnum (rnums k r).2).2)
def pcom(b:Bs):Cm×Rs :=
 (⟨AU (rnum (b,false)).1,(rnums (rcnt (rnum (b,false)).2).1 (rcnt (rnum (b,false)).2).2).1,sgn (rnum (rnums (rcnt (rnum (b,false)).2).1 (rcnt (rnum (b,false)).2).2).2).1,
   (rtxt (rnum (rnums (rcnt (rnum (b,false)).2).1 (rcnt (rnum (b,false)).2).2).2).2).1⟩,
  (rtxt (rnum (rnums (rcnt (rnum (b,false)).2).1 (rcnt (rnum (b,false)).2).2).2).2).2)
theorem ZbT(k:Nat)(r:Rs):(rtake k r).1.length<=k:=by
 unfold rtake
 split
 ·simp
 ·rw[AM];omega
theorem ZdU(r:Rs):(rnum r).1<18446744073709551616:=Zp0 (ZbT 8 r)
theorem ZiE(r:Rs):(rcnt r).1<=255:=val_1 (ZbT 1 r)
theorem ZnW(r:Rs):(rtxt r).1.length<=255:=Nat.le_trans (ZbT _ _) (ZiE r)
theorem Zcv:∀(k:Nat) (r:Rs),(rnums k r).1.length=k
 | 0,_=>rfl
 | k+1,r=>by simp[rnums,Zcv k r]
theorem Zez{t:Bs}(s:Bool)(h:a.length=k):rtake k (a++t,s)=(a,(t,s)):=by
 subst h;unfold rtake;rw[Aw (by simp)];simp
theorem Zf7(x:UInt64)(t:Bs)(s:Bool):rnum (b8 x++t,s)=(x.toNat,(t,s)):=by
 unfold rnum;rw[Zez s (Zb0 x),ZiX]
theorem Zf1(n:Nat)(b:n<=255)(t:Bs)(s:Bool):rcnt (AW n::t,s)=(n,(t,s)):=by
 have:=Zez (a:=[AW n]) (t:=t) (k:=1) s rfl;rw[show[AW n]++t=AW n::t from rfl]at this;unfold rcnt;rw[this]
 have e:(AW n).toNat=n:=by rw[Bk];omega
 simp[val,e]
theorem Zgo:∀(n:Nat) (ps:List UInt64) (t:Bs) (s:Bool),ps.length=n->rnums n (psB ps++t,s)=(ps,(t,s))
 | 0,ps,t,s,h=>by rw[List.eq_nil_of_length_eq_zero h];rfl
 | n+1,ps,t,s,h=>by
  have a:ps≠[]:=by intro e;rw[e]at h;simp at h
  obtain⟨q,x,rfl⟩:∃q x,ps=q++[x]:=⟨ps.dropLast,ps.getLast a,(List.dropLast_concat_getLast a).symm⟩
  have b:=Zgo n q (b8 x++t) s (by simpa using h);rw[Zdv,A9,rnums,b];simp only;rw[Zf7];simp
theorem Zi7(h:ccom c=0):pcom (comB c)=(c,([],false)):=by
 obtain⟨l,m,_,j,k⟩:=Zbj h;have d:rnum (comB c,false)=(c.tree.toNat,(AW c.ps.length::(psB c.ps++(b8 (dw c.date)++(AW c.note.length::c.note))),false)):=Zf7 _ _ _;have e:=Zf1 c.ps.length (by omega) (psB c.ps++(b8 (dw c.date)++(AW c.note.length::c.note))) false;have f:=Zgo _ c.ps (b8 (dw c.date)++(AW c.note.length::c.note)) false rfl;have g:=Zf7 (dw c.date) (AW c.note.length::c.note) false
 have i:rtxt (AW c.note.length::c.note,false)=(c.note,([],false)):=by
  unfold rtxt;rw[Zf1 _ (by omega)];have:=Zez (a:=c.note) (t:=[]) false rfl;rw[Bp]at this;exact this
 have b:=ZoT j k;rw[ZiX]at b;unfold pcom;rw[d,e,f,g,i];simp[b]
theorem Zd3{r:Rs}(h:(rtake k r).2.2=false):r.2=false/\r.1=(rtake k r).1++(rtake k r).2.1/\(rtake k r).1.length=k:=by
 unfold rtake at h ⊢
 split at h
 ·cases h
 ·rename_i q
  rw[Aw q];exact⟨h,by simp,by simp;omega⟩
theorem Zf4{r:Rs}(h:(rnum r).2.2=false):r.2=false/\r.1=b8 (AU (rnum r).1)++(rnum r).2.1:=by
 obtain⟨a,b,c⟩:=Zd3 (k:=8) (r:=r) h;refine⟨a,?_⟩;unfold rnum;simp only;rw[ZoU c];exact b
theorem Zjh{r:Rs}(h:(rcnt r).2.2=false):r.2=false/\r.1=AW (rcnt r).1::(rcnt r).2.1:=by
 obtain⟨b,a,c⟩:=Zd3 (k:=1) (r:=r) h;refine⟨b,?_⟩;unfold rcnt;simp only;obtain⟨x,d⟩:=List.length_eq_one_iff.1 c;rw[d]at a ⊢;rw[a]
 have:AW (val [x])=x:=by simp[val]
 rw[this]
 rfl
theorem ZgM:∀{k:Nat} {r:Rs},(rnums k r).2.2=false->r.2=false/\r.1=psB (rnums k r).1++(rnums k r).2.1
 | 0,r,h=>⟨h,rfl⟩
 | k+1,r,h=>by
  obtain⟨a,b⟩:=Zf4 (r:=(rnums k r).2) h;obtain⟨c,d⟩:=ZgM a;refine⟨c,?_⟩;rw[d,b];simp only[rnums];rw[Zdv,A9]
theorem Zjd(h:(pcom b).2=([],false)):comB (pcom b).1=b:=by
 obtain⟨g,m⟩:=Xa (rnum (b,false))
 obtain⟨e,n⟩:=Xa (rcnt g.2)
 obtain⟨d,i⟩:=Xa (rnums e.1 e.2)
 obtain⟨a,j⟩:=Xa (rnum d.2)
 obtain⟨c,l⟩:=Xa (rtxt a.2)
 have hp:pcom b=(⟨AU g.1,d.1,sgn a.1,c.1⟩,c.2):=by
  unfold pcom;rw[m,n,i,j,l]
 rw[hp]at h ⊢;simp only at h;have s:=Zd3 (k:=(rcnt a.2).1) (r:=(rcnt a.2).2) (by show(rtxt a.2).2.2=false;rw[l,h])
 have t:(rcnt a.2).2.1=c.1:=by
  have:=s.2.1;rw[show rtake (rcnt a.2).1 (rcnt a.2).2=c from l,h,Bp]at this;exact this
 have u:c.1.length=(rcnt a.2).1:=by
  have:=s.2.2;rw[show rtake (rcnt a.2).1 (rcnt a.2).2=c from l]at this;exact this
 have f:=Zjh s.1;have q:=Zf4 (r:=d.2) (by rw[j];exact f.1);have p:=ZgM (k:=e.1) (r:=e.2) (by rw[i];exact q.1);have o:=Zjh (r:=g.2) (by rw[n];exact p.1);have v:=Zf4 (r:=(b,false)) (by rw[m];exact o.1)
 have w:d.1.length=e.1:=by rw[<- i];exact Zcv _ _
 have hd:dw (sgn a.1)=AU a.1:=Zp8 (by rw[<- j];exact ZdU _);rw[j,f.2,t,<- u]at q;rw[i,q.2]at p;rw[n,p.2]at o;rw[m,o.2]at v;show b8 (AU g.1)++(AW d.1.length::(psB d.1++(b8 (dw (sgn a.1))++(AW c.1.length::c.1))))=b;rw[w,hd];exact v.2.symm
def RC(b:Bs)(c:Cm)(e:Int):Prop:=(e=0/\ccom c=0/\comB c=b)∨(e=9/\c=zcm/\∀c',ccom c'=0->comB c'≠b)
theorem ZpC(h:(pcom b).2=([],false))(k:ccom (pcom b).1=0):RC b (pcom b).1 0:=.inl ⟨rfl,k,Zjd h⟩
theorem ZmV(h:(pcom b).2≠([],false)∨ccom (pcom b).1≠0):RC b zcm 9:=by
 refine .inr ⟨rfl,rfl,λ c' a c=>?_⟩;have:=Zi7 a;rw[c]at this;rw[this]at h
 rcases h with h|h
 ·exact h rfl
 ·exact h a
def rpar(s:Bs)(i:Nat):UInt64:=AU (val ((s.drop (9+8*i)).take 8))
def rcom(s:Bs)(n:Nat):Cm:=⟨AU (val (s.take 8)),(List.range n).map (rpar s),sgn (val ((s.drop (9+8*n)).take 8)),s.drop (18+8*n)⟩
theorem Zi1:∀(ps:List UInt64) (i:Nat),(psB ps).drop (8*i)=psB (ps.drop i)
 | ps,0=>by simp
 | [],i+1=>by simp[psB]
 | x::t,i+1=>by
  have:=Zi1 t i;rw[show 8*(i+1)=8+8*i by omega,<- C5];show Hx (8*i) (Hx 8 (b8 x++psB t))=psB (t.drop i)
  have e:(b8 x++psB t).drop 8=psB t:=by
   have l:=Zb0 x;rw[<- l,DJ]
  rw[e,this]
theorem Zb6(h:ccom c=0):rcom (comB c) c.ps.length=c/\(comB c).length=18+8*c.ps.length+c.note.length/\(comB c)[8]? = some (AW c.ps.length):=by
 obtain⟨v,w,_,q,r⟩:=Zbj h;have d:=Zb0 c.tree;have e:=Zb0 (dw c.date);have f:=Zc9 c.ps
 have s:(comB c).take 8=b8 c.tree:=by unfold comB;rw[<- d,D6]
 have k:(comB c).drop 8=AW c.ps.length::(psB c.ps++(b8 (dw c.date)++(AW c.note.length::c.note))):=by unfold comB;rw[<- d,DJ]
 have m:(comB c).drop 9=psB c.ps++(b8 (dw c.date)++(AW c.note.length::c.note)):=by
  rw[show 9=8+1 from rfl,<- C5,k];rfl
 have dn:(comB c).drop (9+8*c.ps.length)=b8 (dw c.date)++(AW c.note.length::c.note):=by
  rw[<- C5,m,<- f,DJ]
 have n:(comB c).drop (18+8*c.ps.length)=c.note:=by
  rw[show 18+8*c.ps.length=(9+8*c.ps.length)+(8+1) by omega,<- C5,dn,<- C5]
  have:(b8 (dw c.date)++(AW c.note.length::c.note)).drop 8=AW c.note.length::c.note:=by rw[<- e,DJ]
  rw[this];rfl
 refine⟨?_,?_,?_⟩
 ·obtain⟨u,a,g,j⟩:=c;simp only at *;unfold rcom;rw[s,dn,n,ZdA]
  have o:(b8 (dw g)++(AW j.length::j)).take 8=b8 (dw g):=by rw[<- e,D6]
  rw[o,ZoT q r]
  congr 1
  apply List.ext_getElem
  ·simp
  ·intro i hi b;simp only[List.getElem_map,List.getElem_range];unfold rpar;rw[<- C5,m,List.drop_append_of_le_length (by rw[f];omega),Zi1,List.drop_eq_getElem_cons b]
   have p:∀t:Bs,(psB (a[i]::a.drop (i+1))++t).take 8=b8 a[i]:=by
    intro t;show((b8 a[i]++psB (a.drop (i+1)))++t).take 8=_;rw[A9,<- Zb0 a[i],D6]
   rw[p,ZdA]
 ·simp[comB,d,e,f];omega
 ·have:=A4 (λ l=>l[0]?) k;simpa[List.getElem?_drop]using this
theorem Zqe(h:fcom (rcom s n)=(s,0)):RC s (rcom s n) 0:=by
 unfold fcom at h
 split at h
 ·rename_i q
  simp only[Fw]at h;exact .inl ⟨rfl,q,h.1⟩
 ·rename_i q
  simp only[Fw]at h;exact absurd h.2 q
theorem Zfc(i:s[8]? = some (AW n))(k:n<=8)(h:fcom (rcom s n)≠(s,0)):RC s zcm 9:=by
 refine .inr ⟨rfl,rfl,λ c' a c=>?_⟩;obtain⟨d,l,b⟩:=Zb6 a;rw[c]at d b;rw[i]at b
 have e:n=c'.ps.length:=by
  have j:=(Zbj a).1
  have f:AW n=AW c'.ps.length:=by simpa using b
  have g:=A4 Hn f;rw[Bk,Bk]at g;omega
 rw[e,d]at h;apply h;unfold fcom;rw[AE a,c]
theorem Zdn(h:s.length<9∨(∃n:Nat,s[8]? = some (AW n)/\n<=255/\(8<n∨s.length<18+8*n))):RC s zcm 9:=by
 refine .inr ⟨rfl,rfl,λ c' c g=>?_⟩;obtain⟨k,i,a⟩:=Zb6 c;rw[g]at i a
 rcases h with h|⟨n,f,b,h⟩
 ·omega
 ·rw[f]at a;have j:=(Zbj c).1
  have d:AW n=AW c'.ps.length:=by simpa using a
  have e:=A4 Hn d;rw[Bk,Bk]at e;omega
end Go.Proofs.YtlojblelpaegpaaGreat
namespace Go.Proofs.YtlojblelpaegpaaGreat
variable{a b r s:Bs}{c:Cm}{d k n:Nat}{e:En}{es:List En}
abbrev Fs:=List (Bs×Bs)
def Zcu(l:Fs):Prop:=l.Pairwise (λ a b=>a.1<b.1)
def fget:Fs->Bs->Option Bs
 | [],_=>none
 | f::t,n=>if f.1=n then some f.2 else fget t n
def fwith:Fs->Bs->Bs->Fs
 | [],n,v=>[(n,v)]
 | f::t,n,v=>if n<f.1 then(n,v)::f::t else if f.1=n then(n,v)::t else f::fwith t n v
theorem ZaI(a:Bs):¬a<a:=D5 a
theorem ZfZ(h:a<b):¬b<a:=List.lt_asymm h
theorem ZdI{c:Bs}(h:a<b)(k:b<c):a<c:=GF h k
theorem ZgG(a b:Bs):a<b∨a=b∨b<a:=by
 by_cases h:a<b
 ·exact .inl h
 ·by_cases k:b<a
  ·exact .inr (.inr k)
  ·exact .inr (.inl (List.le_antisymm k h))
theorem ZiY:∀{l:Fs} {n v:Bs},fget l n=some v->(n,v)∈l
 | [],_,_,h=>by simp[fget]at h
 | f::t,n,v,h=>by
  unfold fget at h
  split at h
  ·rename_i e
   cases h;rw[<- e];exact Ba
  ·exact Bd _ (ZiY h)
theorem Zhu:∀{l:Fs} {n:Bs},fget l n=none↔∀f∈l,f.1≠n
 | [],n=>by simp[fget]
 | f::t,n=>by
  unfold fget;by_cases e:f.1=n
  ·simp[e]
  ·rw[Aw e,Zhu (l:=t)];simp[e]
theorem Zen:∀(l:Fs) (n v:Bs) (f:Bs×Bs),f∈fwith l n v->f=(n,v)∨f∈l
 | [],n,v,f,h=>by simp[fwith]at h;exact .inl h
 | g::t,n,v,f,h=>by
  unfold fwith at h
  split at h
  ·rcases Bw.1 h with e|e
   ·exact .inl e
   ·exact .inr e
  ·split at h
   ·rcases Bw.1 h with e|e
    ·exact .inl e
    ·exact .inr (Bd _ e)
   ·rcases Bw.1 h with e|e
    ·rw[e];exact .inr Ba
    ·rcases Zen t n v f e with q|q
     ·exact .inl q
     ·exact .inr (Bd _ q)
theorem Zgz:∀{l:Fs} (n v:Bs),Zcu l->Zcu (fwith l n v)
 | [],n,v,_=>EY _ _
 | f::t,n,v,h=>by
  obtain⟨b,d⟩:=Bn.1 h;unfold fwith
  split
  ·rename_i lt
   refine Bn.2 ⟨λ g a=>?_,h⟩
   rcases Bw.1 a with rfl|q
   ·exact lt
   ·exact ZdI lt (b g q)
  ·split
   ·rename_i e
    refine Bn.2 ⟨λ g a=>?_,d⟩;show n<g.1;rw[<- e];exact b g a
   ·rename_i c i
    refine Bn.2 ⟨λ g a=>?_,Zgz n v d⟩
    rcases Zen t n v g a with rfl|q
    ·show f.1<n
     rcases ZgG f.1 n with q|q|q
     ·exact q
     ·exact absurd q i
     ·exact absurd q c
    ·exact b g q
theorem Zeu:∀{l:Fs} (n v m:Bs),Zcu l->fget (fwith l n v) m=if n=m then some v else fget l m
 | [],n,v,m,_=>by simp[fwith,fget]
 | f::t,n,v,m,h=>by
  obtain⟨c,a⟩:=Bn.1 h;unfold fwith
  split
  ·simp only[fget]
  ·split
   ·rename_i e
    simp only[fget];by_cases q:n=m
    ·rw[AE q,AE q]
    ·rw[Aw q,Aw q,Aw (by rw[e];exact q)]
   ·rename_i b
    simp only[fget,Zeu n v m a];by_cases q:f.1=m
    ·rw[AE q,AE q,Aw (λ e=>b (by rw[q,e]))]
    ·rw[Aw q,Aw q]
theorem ZdS:∀{l:Fs} (n v:Bs),Zcu l->(fwith l n v).length=l.length+(if(fget l n).isSome then 0 else 1)
 | [],n,v,_=>by simp[fwith,fget]
 | f::t,n,v,h=>by
  obtain⟨a,b⟩:=Bn.1 h;unfold fwith
  split
  ·rename_i lt
   have nn:fget (f::t) n=none:=Zhu.2 (λ x c e=>by
    rcases Bw.1 c with rfl|q
    ·rw[e]at lt;exact ZaI _ lt
    ·have:=ZdI lt (a x q);rw[e]at this
     exact ZaI _ this)
   rw[nn];simp
  ·split
   ·rename_i e
    simp[fget,e]
   ·rename_i d
    have:=ZdS n v b;simp only[A3,fget,Aw d,this];omega
structure Dk where
 files:Fs
 writes:Nat
 armed:Bool
 dead:Bool
 after:Nat
 keep:Nat
def dk0:Dk:=⟨[],0,false,false,0,0⟩
def dnext(d:Dk):Dk×Bool×Bool :=
 if d.dead then(d,false,false)
 else if d.armed&&d.after==0 then({ d with dead:=true,armed:=false },false,true)
 else({ d with after:=if d.armed then d.after - 1 else d.after,writes:=d.writes+1 },true,false)
def dlay(d:Dk)(n own more:Bs):Dk×Int :=
 if isName n=false then(d,2)
 else if 262144<own.length+more.length∨(fget d.files n=none/\32<=d.files.length)then(d,7)
 else if(dnext d).2.1 then({ (dnext d).1 with files:=fwith d.files n (own++more) },0)
 else if(dnext d).2.2 then({ (dnext d).1 with files:=fwith d.files n (own++more.take d.keep) },8)
 else((dnext d).1,8)
def dapp(d:Dk)(n v:Bs):Dk×Int:=dlay d n ((fget d.files n).getD []) v
theorem Zck(d:Dk):(dnext d).1.files=d.files:=by
 unfold dnext
 split
 ·rfl
 ·split <;> rfl
abbrev Nm(α:Type):=Bs×α
def Zcq{α:Type}(l:List (Nm α)):Prop:=l.Pairwise (λ a b=>a.1<b.1)
def nget{α:Type}:List (Nm α)->Bs->Option α
 | [],_=>none
 | f::t,n=>if f.1=n then some f.2 else nget t n
def nout{α:Type}(l:List (Nm α))(n:Bs):List (Nm α):=l.filter (λ f=>!(f.1==n))
def nins{α:Type}:List (Nm α)->Bs->α->List (Nm α)
 | [],n,v=>[(n,v)]
 | f::t,n,v=>if n<f.1 then(n,v)::f::t else f::nins t n v
def nwith{α:Type}(l:List (Nm α))(n:Bs)(v:α):List (Nm α):=nins (nout l n) n v
section
variable{α:Type}
theorem ZaR:∀{l:List (Nm α)} {n:Bs},nget l n=none↔∀f∈l,f.1≠n
 | [],n=>by simp[nget]
 | f::t,n=>by
  unfold nget;by_cases e:f.1=n
  ·simp[e]
  ·rw[Aw e,ZaR (l:=t)];simp[e]
theorem Zcf:∀(l:List (Nm α)) (n m:Bs),nget (nout l n) m=if n=m then none else nget l m
 | [],n,m=>by simp[nout,nget]
 | f::t,n,m=>by
  have a:=Zcf t n m;unfold nout at a ⊢;rw[EA];by_cases e:f.1=n
  ·simp only[e,beq_self_eq_true,Bool.not_true,Bool.false_eq_true,Eg,a,nget];by_cases q:n=m
   ·rw[AE q,AE q]
   ·rw[Aw q,Aw q,Aw q]
  ·have b:(!(f.1==n))=true:=by simpa using e
   rw[AE b];simp only[nget,a];by_cases q:f.1=m
   ·rw[AE q,AE q,Aw (λ r=>e (by rw[q,r]))]
   ·rw[Aw q,Aw q]
theorem Zjv:∀{l:List (Nm α)} (n:Bs) (v:α) (m:Bs),nget l n=none->nget (nins l n v) m=if n=m then some v else nget l m
 | [],n,v,m,_=>by simp[nins,nget]
 | f::t,n,v,m,h=>by
  have a:f.1≠n:=(ZaR.1 h) f Ba;have b:nget t n=none:=ZaR.2 (λ g c=>(ZaR.1 h) g (Bd _ c));unfold nins
  split
  ·simp only[nget]
  ·simp only[nget,Zjv n v m b];by_cases q:f.1=m
   ·rw[AE q,AE q,Aw (λ e=>a (by rw[q,e]))]
   ·rw[Aw q,Aw q]
theorem ZdX(l:List (Nm α))(n:Bs)(v:α)(m:Bs):nget (nwith l n v) m=if n=m then some v else nget l m:=by
 unfold nwith;rw[Zjv n v m (by rw[Zcf,AE rfl]),Zcf];by_cases q:n=m
 ·rw[AE q,AE q]
 ·rw[Aw q,Aw q,Aw q]
theorem ZgP{l:List (Nm α)}(n:Bs)(h:Zcq l):Zcq (nout l n):=Ho _ h
theorem Zjn:∀(l:List (Nm α)) (n:Bs) (v:α) (f:Nm α),f∈nins l n v->f=(n,v)∨f∈l
 | [],n,v,f,h=>by simp[nins]at h;exact .inl h
 | g::t,n,v,f,h=>by
  unfold nins at h
  split at h
  ·rcases Bw.1 h with e|e
   ·exact .inl e
   ·exact .inr e
  ·rcases Bw.1 h with e|e
   ·rw[e];exact .inr Ba
   ·rcases Zjn t n v f e with q|q
    ·exact .inl q
    ·exact .inr (Bd _ q)
theorem Zhp:∀{l:List (Nm α)} (n:Bs) (v:α),Zcq l->nget l n=none->Zcq (nins l n v)
 | [],n,v,_,_=>EY _ _
 | f::t,n,v,h,hn=>by
  obtain⟨c,d⟩:=Bn.1 h;have e:f.1≠n:=(ZaR.1 hn) f Ba;have i:nget t n=none:=ZaR.2 (λ g a=>(ZaR.1 hn) g (Bd _ a));unfold nins
  split
  ·rename_i lt
   refine Bn.2 ⟨λ g a=>?_,h⟩
   rcases Bw.1 a with rfl|q
   ·exact lt
   ·exact ZdI lt (c g q)
  ·rename_i b
   refine Bn.2 ⟨λ g a=>?_,Zhp n v d i⟩
   rcases Zjn t n v g a with rfl|q
   ·show f.1<n
    rcases ZgG f.1 n with q|q|q
    ·exact q
    ·exact absurd q e
    ·exact absurd q b
   ·exact c g q
theorem ZeU{l:List (Nm α)}(n:Bs)(v:α)(h:Zcq l):Zcq (nwith l n v):=Zhp n v (ZgP n h) (by rw[Zcf,AE rfl])
theorem ZiJ:∀(l:List (Nm α)) (n:Bs) (v:α),(nins l n v).length=l.length+1
 | [],_,_=>rfl
 | f::t,n,v=>by
  unfold nins
  split
  ·rfl
  ·simp[ZiJ t n v]
theorem Zhg{l:List (Nm α)}{n:Bs}(h:nget l n=none):nout l n=l:=by
 unfold nout;rw[List.filter_eq_self];intro f hf;simpa using(ZaR.1 h) f hf
theorem Zfr:∀{l:List (Nm α)} {n:Bs},Zcq l->(nget l n).isSome=true->(nout l n).length+1=l.length
 | [],_,_,h=>by simp[nget]at h
 | f::t,n,hr,h=>by
  obtain⟨h1,h2⟩:=Bn.1 hr;by_cases e:f.1=n
  ·have:nget t n=none:=ZaR.2 (λ g hg q=>ZaI n (by have:=h1 g hg;rwa [e,q]at this));have q:=Zhg this;unfold nout at q ⊢;rw[EA];simp[e,q]
  ·have ih:=Zfr (l:=t) (n:=n) h2 (by simpa[nget,e]using h);unfold nout at ih ⊢;rw[EA];simp[e];exact ih
theorem ZcR{l:List (Nm α)}(n:Bs)(v:α)(h:Zcq l):(nwith l n v).length=if(nget l n).isSome then l.length else l.length+1:=by
 unfold nwith;rw[ZiJ]
 cases e:(nget l n).isSome with
 | true=>rw[AE rfl];exact Zfr h e
 | false =>
  have:nget l n=none:=by simpa using e
  rw[Zhg this];simp
end
end Go.Proofs.YtlojblelpaegpaaGreat
namespace Go.Proofs.YtlojblelpaegpaaGreat
open Go.RowKit
variable{a b r s:Bs}{c:Cm}{d k n:Nat}{e:En}{es:List En}
def oid(k:Int)(b:Bs):UInt64:=AU (idFold (idStep 14695981039346656037 (k % 256)) (ints b)).toNat
theorem Zbn(a b:Int):0<=idStep a b/\idStep a b<18446744073709551616:=by
 unfold idStep;refine⟨wrap_u64_nonneg _,?_⟩;show IntKind.u64.wrap _<_;rw[IntKind.wrap_u64];omega
theorem Zg6(a:List Int):∀h:Int,0<=h->h<18446744073709551616->0<=idFold h a/\idFold h a<18446744073709551616:=by
 induction a with
 | nil=>intro h b c;exact⟨b,c⟩
 | cons z t d =>
  intro h _ _;exact d (idStep h z) (Zbn h z).1 (Zbn h z).2
theorem Zpb(k:Int)(b:Bs):idFold (idStep 14695981039346656037 (k % 256)) (ints b)=((oid k b).toNat:Int):=by
 have:=Zg6 (ints b) (idStep 14695981039346656037 (k % 256)) (Zbn _ _).1 (Zbn _ _).2;unfold oid;rw[C1];omega
theorem Zgm(a:List Bs):∀h,idFolds h (a.map ints)=idFold h (ints a.flatten):=by
 induction a with
 | nil=>intro h;rfl
 | cons x t b =>
  intro h;show idFolds (idFold h (ints x)) (t.map ints)=_;rw[b];simp[idFold,ints,List.foldl_append]
def ptree:Nat->Bs->Option (List En)
 | 0,b=>if b=[]then some []else none
 | k+1,b=>if b=[]then some []else match one b with
  | none=>none
  | some (e,r)=>(ptree k r).map (e::·)
def rdtree(b:Bs):Option (List En):=match ptree 64 b with
 | none=>none
 | some es=>if ctree es=0 then some es else none
def rdcom(b:Bs):Option Cm:=if(pcom b).2=([],false)/\ccom (pcom b).1=0 then some (pcom b).1 else none
theorem Zju:∀(k:Nat) (es:List En),es.length<=k->Sm es->ptree k (treeB es)=some es
 | 0,[],_,_=>by simp[ptree,treeB]
 | 0,e::t,h,_=>by simp at h
 | k+1,[],_,_=>by simp[ptree,treeB]
 | k+1,e::t,h,hs=>by
  have b:treeB (e::t)=entB e++treeB t:=by simp[treeB]
  have a:¬treeB (e::t)=[]:=by rw[b];simp[entB]
  have c:e.1.length<=255:=hs e Ba;rw[ptree,Aw a,b,ZfO c];simp only[Zju k t (by simp at h;omega) (λ x d=>hs x (Bd _ d)),Option.map_some]
theorem Zfd:∀(k:Nat) (b:Bs) (es:List En),ptree k b=some es->treeB es=b
 | 0,b,es,h=>by
  unfold ptree at h
  split at h
  ·rename_i e
   cases h;rw[e]
   rfl
  ·cases h
 | k+1,b,es,h=>by
  unfold ptree at h
  split at h
  ·rename_i e
   cases h;rw[e]
   rfl
  ·split at h
   ·cases h
   ·rename_i e r a
    cases hp:ptree k r with
    | none=>rw[hp]at h;cases h
    | some t =>
     rw[hp]at h;cases h;have:=Zfd k r t hp;rw[(ZdJ a).1];simp[treeB,<- this]
theorem ZaX(h:rdtree b=some es):ctree es=0/\treeB es=b:=by
 unfold rdtree at h
 split at h
 ·cases h
 ·rename_i t c
  split at h
  ·rename_i a
   cases h;exact⟨a,Zfd _ _ _ c⟩
  ·cases h
theorem ZcA(h:ctree es=0):rdtree (treeB es)=some es:=by
 unfold rdtree;rw[Zju 64 es (ZaS h).1 (ZbI h)];simp[h]
theorem RT.rd{e:Int}(h:RT b es e):(e=0/\rdtree b=some es)∨(e=9/\es=[]/\rdtree b=none):=by
 rcases h with⟨rfl,a,rfl⟩ | ⟨rfl,rfl,a⟩
 ·exact .inl ⟨rfl,ZcA a⟩
 ·refine .inr ⟨rfl,rfl,?_⟩
  cases e:rdtree b with
  | none=>rfl
  | some es=>exact absurd (ZaX e).2 (a es (ZaX e).1)
theorem Zb9(h:rdcom b=some c):ccom c=0/\comB c=b:=by
 unfold rdcom at h
 split at h
 ·rename_i a
  cases h;exact⟨a.2,Zjd a.1⟩
 ·cases h
theorem ZcL(h:ccom c=0):rdcom (comB c)=some c:=by
 unfold rdcom;rw[Zi7 h];simp[h]
theorem RC.rd{e:Int}(h:RC b c e):(e=0/\rdcom b=some c)∨(e=9/\c=zcm/\rdcom b=none):=by
 rcases h with⟨rfl,a,rfl⟩ | ⟨rfl,rfl,a⟩
 ·exact .inl ⟨rfl,ZcL a⟩
 ·refine .inr ⟨rfl,rfl,?_⟩
  cases e:rdcom b with
  | none=>rfl
  | some c=>exact absurd (Zb9 e).2 (a c (Zb9 e).1)
structure Ob where
 kind:Int
 id:UInt64
 body:Bs
def oget:List Ob->Int->UInt64->Option Bs
 | [],_,_=>none
 | o::t,k,i=>if o.kind=k/\o.id=i then some o.body else oget t k i
theorem Zb4:∀{l:List Ob} {k:Int} {i:UInt64} {b:Bs},oget l k i=some b->(⟨k,i,b⟩:Ob)∈l
 | [],_,_,_,h=>by simp[oget]at h
 | o::t,k,i,b,h=>by
  unfold oget at h
  split at h
  ·rename_i e
   cases h;rw[<- e.1,<- e.2];exact Ba
  ·exact Bd _ (Zb4 h)
theorem Za4:∀(l:List Ob) (o:Ob) (k:Int) (i:UInt64),oget (l++[o]) k i=match oget l k i with
  | some b=>some b
  | none=>if o.kind=k/\o.id=i then some o.body else none
 | [],o,k,i=>by simp[oget]
 | p::t,o,k,i=>by
  rw[Cs];unfold oget
  split
  ·rfl
  ·exact Za4 t o k i
theorem Zd8:∀{l:List Ob} {k:Int} {i:UInt64},oget l k i=none↔∀o∈l,¬(o.kind=k/\o.id=i)
 | [],k,i=>by simp[oget]
 | o::t,k,i=>by
  unfold oget;by_cases e:o.kind=k/\o.id=i
  ·simp[e]
  ·rw[Aw e,Zd8 (l:=t)]
   constructor
   ·intro h x a
    rcases Bw.1 a with rfl|q
    ·exact e
    ·exact h x q
   ·intro h x a;exact h x (Bd _ a)
structure St where
 objs:List Ob
 refs:List (Nm UInt64)
 tags:List (Nm UInt64)
variable{st:St}
def st0:St:=⟨[],[],[]⟩
def St.has(st:St)(k:Int)(i:UInt64):Bool:=(oget st.objs k i).isSome
def St.blobs(st:St)(es:List En):Bool:=es.all (λ e=>st.has 1 e.2)
def St.above(st:St)(c:Cm):Bool:=c.ps.all (λ p=>st.has 3 p)&&st.has 2 c.tree
def labI(b:Bs):UInt64:=AU (val (b.take 8))
def labN(b:Bs):Bs:=b.drop 8
def labB(i:UInt64)(n:Bs):Bs:=b8 i++n
theorem ZbK(i:UInt64)(n:Bs):labI (labB i n)=i:=by
 unfold labI labB;rw[List.take_left' (Zb0 i),ZdA]
theorem ZbN(i:UInt64)(n:Bs):labN (labB i n)=n:=by
 unfold labN labB;rw[List.drop_left' (Zb0 i)]
theorem Zax(i:UInt64)(n:Bs):(labB i n).length=8+n.length:=by simp[labB,Zb0]
def St.take(st:St)(f:Fr):St :=
 if f.1=4 then { st with refs:=if labI f.2=0 then nout st.refs (labN f.2)else nwith st.refs (labN f.2) (labI f.2) }
 else if f.1=5 then { st with tags:=nwith st.tags (labN f.2) (labI f.2) }
 else { st with objs:=st.objs++[⟨f.1,oid f.1 f.2,f.2⟩] }
def St.right(st:St)(f:Fr):Bool :=
 if f.1=1 then decide (f.2.length<=4096)
 else if f.1=2 then(match rdtree f.2 with | none=>false | some es=>st.blobs es)
 else if f.1=3 then(match rdcom f.2 with | none=>false | some c=>st.above c)
 else false
def St.fits(st:St)(f:Fr):Bool :=
 if f.1=4∨f.1=5 then decide (8<=f.2.length)&&isName (labN f.2) &&
  (if f.1=5 then st.has 3 (labI f.2)&&!(nget st.tags (labN f.2)).isSome else if labI f.2=0 then(nget st.refs (labN f.2)).isSome else st.has 3 (labI f.2))
 else st.right f&&!(decide (oid f.1 f.2=0))&&!(st.has f.1 (oid f.1 f.2))
def fileN:Bs:=[111,98,106,101,99,116,115]
def sapp(st:St)(d:Dk)(f:Fr):St×Dk×Int :=
 (if(dapp d fileN (fseal f).1).2=0 then st.take f else st,(dapp d fileN (fseal f).1).1,(dapp d fileN (fseal f).1).2)
def sput(st:St)(d:Dk)(k:Int)(b:Bs):(St×Dk)×UInt64×Int :=
 match oget st.objs k (oid k b)with
 | some old=>if old=b then((st,d),oid k b,0)else((st,d),0,13)
 | none=>if oid k b=0 then((st,d),0,13)else
   (((sapp st d (k,b)).1,(sapp st d (k,b)).2.1),if(sapp st d (k,b)).2.2=0 then oid k b else 0,(sapp st d (k,b)).2.2)
def sblob(st:St)(d:Dk)(b:Bs):(St×Dk)×UInt64×Int:=if 4096<b.length then((st,d),0,4)else sput st d 1 b
def stree(st:St)(d:Dk)(es:List En):(St×Dk)×UInt64×Int :=
 if(ftree es).2≠0 then((st,d),0,(ftree es).2)else if st.blobs es=false then((st,d),0,5)else sput st d 2 (ftree es).1
def scom(st:St)(d:Dk)(c:Cm):(St×Dk)×UInt64×Int :=
 if(fcom c).2≠0 then((st,d),0,(fcom c).2)else if st.above c=false then((st,d),0,5)else sput st d 3 (fcom c).1
def sref(st:St)(d:Dk)(n:Bs)(i:UInt64):St×Dk×Int :=
 if isName n=false then(st,d,2)else if st.has 3 i=false then(st,d,5)else sapp st d (4,labB i n)
def sdrop(st:St)(d:Dk)(n:Bs):St×Dk×Int :=
 if isName n=false then(st,d,2)else if(nget st.refs n).isSome=false then(st,d,5)else sapp st d (4,labB 0 n)
def stag(st:St)(d:Dk)(n:Bs)(i:UInt64):St×Dk×Int :=
 if isName n=false then(st,d,2)else if st.has 3 i=false then(st,d,5)else if(nget st.tags n).isSome then(st,d,6)else sapp st d (5,labB i n)
structure St.ok(st:St):Prop where
 refs:Zcq st.refs
 tags:Zcq st.tags
 one:st.objs.Pairwise (λ a b=>¬(a.kind=b.kind/\a.id=b.id))
 ids:∀o∈st.objs,o.id=oid o.kind o.body/\o.id≠0/\1<=o.kind/\o.kind<=3/\o.body.length<=8192
 blob:∀o∈st.objs,o.kind=1->o.body.length<=4096
 tree:∀o∈st.objs,o.kind=2->∃es,rdtree o.body=some es/\st.blobs es=true
 com:∀o∈st.objs,o.kind=3->∃c,rdcom o.body=some c/\st.above c=true
 names:∀n i,nget st.refs n=some i∨nget st.tags n=some i->st.has 3 i=true
theorem St.ok0:st0.ok where
 refs:=Co
 tags:=Co
 one:=Co
 ids:=λ _ h=>by cases h
 blob:=λ _ h=>by cases h
 tree:=λ _ h=>by cases h
 com:=λ _ h=>by cases h
 names:=λ n i h=>by rcases h with h|h <;> simp[st0,nget]at h
theorem ZdG{o:Ob}{k:Int}{i:UInt64}(h:st.has k i=true):St.has { st with objs:=st.objs++[o] } k i=true:=by
 unfold St.has at h ⊢;show(oget (st.objs++[o]) k i).isSome=true;rw[Za4]
 cases e:oget st.objs k i with
 | none=>rw[e]at h;cases h
 | some b=>rfl
theorem ZdB(h:st.ok)(k:Int):st.has k 0=false:=by
 unfold St.has
 cases e:oget st.objs k 0 with
 | none=>rfl
 | some b=>exact absurd rfl (h.ids _ (Zb4 e)).2.1
theorem Zfk{o:Ob}(h:st.blobs es=true):St.blobs { st with objs:=st.objs++[o] } es=true:=by
 unfold St.blobs at h ⊢;rw[Dr]at h ⊢
 exact λ e a=>ZdG (h e a)
theorem ZeW{o:Ob}(h:st.above c=true):St.above { st with objs:=st.objs++[o] } c=true:=by
 unfold St.above at h ⊢;rw[Bf,Dr]at h ⊢;exact⟨λ e a=>ZdG (h.1 e a),ZdG h.2⟩
end Go.Proofs.YtlojblelpaegpaaGreat
