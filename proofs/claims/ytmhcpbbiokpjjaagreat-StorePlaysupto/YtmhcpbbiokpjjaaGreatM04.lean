/-
  Several texts, laid together.
-/
import Derived.Test.YtmhcpbbiokpjjaaGreatM03
set_option maxHeartbeats 6400000
set_option maxRecDepth 100000
namespace Go.Proofs.YtmhcpbbiokpjjaaGreat
open Go.RowKit
abbrev En:=Bs×UInt64
def Ahead (a b:En):Prop:=a.1<b.1/\under b.1 a.1=false
def decAhead (a b:En):Decidable (Ahead a b):=inferInstanceAs (Decidable (a.1<b.1/\under b.1 a.1=false))
def Tr (es:List En):Prop:=es.Pairwise Ahead
def decTr (es:List En):Decidable (Tr es) :=
 haveI:DecidableRel Ahead:=decAhead
 inferInstanceAs (Decidable (es.Pairwise Ahead))
theorem Zea:∀ (d t:Bs),¬ (d++t<d)
 | [],t=>by simp
 | x::d,t=>by
  intro h;rw [List.cons_append,List.cons_lt_cons_iff] at h
  rcases h with h | ⟨_,h⟩
  ·exact UInt8.lt_irrefl _ h
  ·exact Zea d t h
theorem ZkQ {p d:Bs} (h:under p d=true):¬ p<d:=by
 simp only [under,Bool.or_eq_true,beq_iff_eq,List.isPrefixOf_iff_prefix] at h
 rcases h with rfl | ⟨u,rfl⟩
 ·exact List.lt_irrefl _
 ·rw [List.append_assoc];exact Zea d _
def fits (p:Bs) (es:List En):Bool:=(match es.getLast? with | none=>true | some e=>decide (e.1<p))&&!(es.any (λ e=>under p e.1))
theorem Zlr {es:List En} {x:En} (h:Tr es):fits x.1 es=true↔Tr (es++[x]):=by
 have hp:Tr (es++[x])↔∀ a∈es,Ahead a x:=by
  unfold Tr;rw [List.pairwise_append];simp [show es.Pairwise Ahead from h]
 rw [hp];unfold fits
 rcases List.eq_nil_or_concat es with rfl | ⟨t,y,rfl⟩
 ·simp
 ·rw [List.concat_eq_append] at h ⊢;rw [List.getLast?_concat];simp only [Bool.and_eq_true,decide_eq_true_eq,Bool.not_eq_true',List.any_eq_false]
  constructor
  ·rintro ⟨h1,h2⟩ a ha;refine ⟨?_,by simpa using h2 a ha⟩
   rcases List.mem_append.1 ha with q | q
   ·have:=(List.pairwise_append.1 h).2.2 a q y (by simp);exact List.lt_trans this.1 h1
   ·have:a=y:=by simpa using q
    rw [this]; exact h1
  ·intro hq;exact ⟨(hq y (by simp)).1,λ a ha=>by simpa using (hq a ha).2⟩
def ctree (es:List En):Int:=if 64<es.length then 4 else if (es.all λ e=>isPath e.1)=false then 2 else @ite Int (Tr es) (decTr es) 0 12
theorem ZaQ {es:List En} (h:ctree es=0):es.length<=64/\(es.all λ e=>isPath e.1)=true/\Tr es:=by
 unfold ctree at h
 split at h
 ·cases h
 ·split at h
  ·cases h
  ·split at h
   ·rename_i h1 h2 h3
    exact ⟨by omega,by simpa using h2,h3⟩
   ·cases h
theorem Zhu {es:List En} (h1:es.length<=64) (h2:(es.all λ e=>isPath e.1)=true) (h3:Tr es):ctree es=0:=by
 unfold ctree;rw [if_neg (by omega),if_neg (by rw [h2]; decide),if_pos h3]
theorem Zbp {l:Bs} (h:isPath l=true):l.length<=102:=by
 rw [<- ZhC,refIs] at h;simp only [Bool.and_eq_true,decide_eq_true_eq] at h;exact h.1
def entB (e:En):Bs:=UInt8.ofNat e.1.length::(e.1++b8 e.2)
def treeB (es:List En):Bs:=es.flatMap entB
def ftree (es:List En):Bs×Int:=if ctree es=0 then (treeB es,0) else ([],ctree es)
theorem Zdj (e:En):(entB e).length=e.1.length+9:=by simp [entB,ZbJ]
def Sm (es:List En):Prop:=∀ e∈es,e.1.length<=255
theorem Zb3 {es:List En} (h:ctree es=0):Sm es:=by
 intro e he;have:=(ZaQ h).2.1;rw [List.all_eq_true] at this;have:=Zbp (this e he);omega
def one:Bs->Option (En×Bs)
 | []=>none
 | n::t=>if t.length<n.toNat+8 then none else some ((t.take n.toNat,UInt64.ofNat (val ((t.drop n.toNat).take 8))),t.drop (n.toNat+8))
theorem ZeQ {e:En} (h:e.1.length<=255) (r:Bs):one (entB e++r)=some (e,r):=by
 have hn:(UInt8.ofNat e.1.length).toNat=e.1.length:=by rw [UInt8.toNat_ofNat']; omega
 obtain ⟨p,b⟩:=e;simp only at hn h;show one (UInt8.ofNat p.length::((p++b8 b)++r))=_;have l8:=ZbJ b;simp only [one];rw [hn,if_neg (by simp [l8]),List.append_assoc,List.take_left,List.drop_left]
 have e1:(b8 b++r).take 8=b8 b:=by rw [<- l8,List.take_left]
 have e2:(p++(b8 b++r)).drop (p.length+8)=r:=by
  rw [<- List.append_assoc]
  have:p.length+8=(p++b8 b).length:=by rw [List.length_append,l8]
  rw [this,List.drop_left]
 rw [e1,e2,Zdd]
theorem Zdf {b r:Bs} {e:En} (h:one b=some (e,r)):b=entB e++r/\e.1.length<=255:=by
 cases b with
 | nil=>cases h
 | cons n t =>
  simp only [one] at h
  split at h
  ·cases h
  ·rename_i hl
   have hn:=n.toNat_lt;simp only [Option.some.injEq,Prod.mk.injEq] at h;obtain ⟨rfl,rfl⟩:=h
   have hl1:(t.take n.toNat).length=n.toNat:=by rw [List.length_take]; omega
   refine ⟨?_,by show (t.take n.toNat).length<=255; omega⟩
   show n::t=UInt8.ofNat (t.take n.toNat).length::((t.take n.toNat++b8 (UInt64.ofNat (val ((t.drop n.toNat).take 8))))++t.drop (n.toNat+8))
   rw [hl1,Zml (by rw [List.length_take,List.length_drop]; omega),List.append_assoc,<- List.drop_drop,List.take_append_drop,List.take_append_drop]
   congr 1
   apply UInt8.toNat_inj.1;rw [UInt8.toNat_ofNat'];omega
theorem Zde:∀ (es es':List En) (r:Bs),Sm es->Sm es'->treeB es'=treeB es++r->∃ t,es'=es++t/\treeB t=r
 | [],es',r,_,_,h=>⟨es',rfl,h⟩
 | e::es,[],r,_,_,h=>by simp [treeB,entB] at h
 | e::es,e'::es',r,h1,h2,h=>by
  have h3:entB e'++treeB es'=entB e++(treeB es++r):=by
   simpa [treeB] using h
  have k1:=ZeQ (h2 e' (by simp)) (treeB es');rw [h3,ZeQ (h1 e (by simp))] at k1;simp only [Option.some.injEq,Prod.mk.injEq] at k1;obtain ⟨rfl,k2⟩:=k1;obtain ⟨t,rfl,ht⟩:=Zde es es' r (λ x hx=>h1 x (by simp [hx])) (λ x hx=>h2 x (by simp [hx])) k2.symm;exact ⟨t,rfl,ht⟩
theorem ZcF (es:List En) (e:En):treeB (es++[e])=treeB es++entB e:=by simp [treeB]
theorem Sm.snoc {es:List En} {e:En} (h:Sm es) (k:e.1.length<=255):Sm (es++[e]):=by
 intro x hx
 rcases List.mem_append.1 hx with q | q
 ·exact h x q
 ·have:x=e:=by simpa using q
  rw [this]; exact k
def RT (b:Bs) (es:List En) (e:Int):Prop:=(e=0/\ctree es=0/\treeB es=b)∨(e=9/\es=[]/\∀ es',ctree es'=0->treeB es'≠b)
theorem ZkL {b r:Bs} {es:List En} (h1:Sm es) (h2:64<es.length) (h3:b=treeB es++r):RT b [] 9:=by
 refine .inr ⟨rfl,rfl,λ es' k1 k2=>?_⟩;obtain ⟨t,rfl,_⟩:=Zde es es' r h1 (Zb3 k1) (by rw [k2,h3]);have:=(ZaQ k1).1;simp at this;omega
theorem Zjd {b r:Bs} {es:List En} (h1:Sm es) (h3:b=treeB es++r) (h4:r≠[]) (h5:one r=none):RT b [] 9:=by
 refine .inr ⟨rfl,rfl,λ es' k1 k2=>?_⟩;obtain ⟨t,rfl,ht⟩:=Zde es es' r h1 (Zb3 k1) (by rw [k2,h3])
 cases t with
 | nil=>exact h4 (by rw [<- ht]; rfl)
 | cons x t =>
  have:=ZeQ (Zb3 k1 x (by simp)) (treeB t);rw [show entB x++treeB t=treeB (x::t) by simp [treeB],ht,h5] at this;cases this
theorem Zmr {b:Bs} {es:List En} (h1:Sm es) (h3:treeB es=b) (h4:ctree es≠0):RT b [] 9:=by
 refine .inr ⟨rfl,rfl,λ es' k1 k2=>?_⟩;obtain ⟨t,rfl,ht⟩:=Zde es es' [] h1 (Zb3 k1) (by rw [k2,h3,List.append_nil])
 cases t with
 | nil=>exact h4 (by simpa using k1)
 | cons x t=>simp [treeB,entB] at ht
theorem ZlI {es:List En} (h:(ftree es).2=0):RT (ftree es).1 es 0:=by
 unfold ftree at h ⊢
 split at h
 ·rename_i q
  rw [if_pos q];exact .inl ⟨rfl,q,rfl⟩
 ·rename_i q
  exact absurd h q
theorem RT.back {b:Bs} {es:List En} (h:RT b es 0):ftree es=(b,0):=by
 rcases h with ⟨_,h1,h2⟩ | ⟨h,_⟩
 ·unfold ftree;rw [if_pos h1,h2]
 ·cases h
structure Cm where
 tree:UInt64
 ps:List UInt64
 date:Int
 note:Bs
def dw (d:Int):UInt64:=UInt64.ofNat (d % 18446744073709551616).toNat
def sgn (v:Nat):Int:=if v<9223372036854775808 then (v:Int) else (v:Int) - 18446744073709551616
theorem Zha (d:Int):((dw d).toNat:Int)=d % 18446744073709551616:=by
 unfold dw;rw [UInt64.toNat_ofNat'];omega
theorem Znw {v:Nat} (h:v<18446744073709551616):dw (sgn v)=UInt64.ofNat v:=by
 unfold dw sgn
 congr 1
 split <;> omega
theorem Zmp {d:Int} (h0:0<=d) (h1:d<=1099511627776):sgn (val (b8 (dw d)))=d:=by
 have:=Zha d;rw [ZhE];unfold sgn
 split <;> omega
def zcm:Cm:=⟨0,[],0,[]⟩
def ccom (c:Cm):Int:=if 8<c.ps.length∨64<c.note.length then 4 else if ¬ c.ps.Nodup then 6 else if c.date<0∨1099511627776<c.date then 3 else 0
theorem Za3 {c:Cm} (h:ccom c=0):c.ps.length<=8/\c.note.length<=64/\c.ps.Nodup/\0<=c.date/\c.date<=1099511627776:=by
 unfold ccom at h
 split at h
 ·cases h
 ·split at h
  ·cases h
  ·split at h
   ·cases h
   ·rename_i h1 h2 h3
    exact ⟨by omega,by omega,by simpa using h2,by omega,by omega⟩
def psB (ps:List UInt64):Bs:=ps.flatMap b8
def comB (c:Cm):Bs:=b8 c.tree++(UInt8.ofNat c.ps.length::(psB c.ps++(b8 (dw c.date)++(UInt8.ofNat c.note.length::c.note))))
def fcom (c:Cm):Bs×Int:=if ccom c=0 then (comB c,0) else ([],ccom c)
theorem Zdp (ps:List UInt64) (x:UInt64):psB (ps++[x])=psB ps++b8 x:=by simp [psB]
theorem ZcQ:∀ ps:List UInt64,(psB ps).length=8*ps.length
 | []=>rfl
 | x::t=>by
  have:=ZcQ t;simp only [psB,List.flatMap_cons,List.length_append,ZbJ,List.length_cons] at this ⊢;omega
abbrev Rs:=Bs×Bool
def rtake (k:Nat) (r:Rs):Bs×Rs:=if r.1.length<k then ([],([],true)) else (r.1.take k,(r.1.drop k,r.2))
def rnum (r:Rs):Nat×Rs:=(val (rtake 8 r).1,(rtake 8 r).2)
def rcnt (r:Rs):Nat×Rs:=(val (rtake 1 r).1,(rtake 1 r).2)
def rtxt (r:Rs):Bs×Rs:=rtake (rcnt r).1 (rcnt r).2
def rnums:Nat->Rs->List UInt64×Rs
 | 0,r=>([],r)
 | k+1,r=>((rnums k r).1++[UInt64.ofNat (rnum (rnums k r).2).1],(rnum (rnums k r).2).2)
def pcom (b:Bs):Cm×Rs :=
 (⟨UInt64.ofNat (rnum (b,false)).1,(rnums (rcnt (rnum (b,false)).2).1 (rcnt (rnum (b,false)).2).2).1,sgn (rnum (rnums (rcnt (rnum (b,false)).2).1 (rcnt (rnum (b,false)).2).2).2).1,
   (rtxt (rnum (rnums (rcnt (rnum (b,false)).2).1 (rcnt (rnum (b,false)).2).2).2).2).1⟩,
  (rtxt (rnum (rnums (rcnt (rnum (b,false)).2).1 (rcnt (rnum (b,false)).2).2).2).2).2)
theorem ZbN (k:Nat) (r:Rs):(rtake k r).1.length<=k:=by
 unfold rtake
 split
 ·simp
 ·rw [List.length_take]; omega
theorem Zdv (r:Rs):(rnum r).1<18446744073709551616:=Zm3 (ZbN 8 r)
theorem Zgz (r:Rs):(rcnt r).1<=255:=val_1 (ZbN 1 r)
theorem ZkT (r:Rs):(rtxt r).1.length<=255:=Nat.le_trans (ZbN _ _) (Zgz r)
theorem Zcp:∀ (k:Nat) (r:Rs),(rnums k r).1.length=k
 | 0,_=>rfl
 | k+1,r=>by simp [rnums,Zcp k r]
theorem ZdE {a t:Bs} {k:Nat} (s:Bool) (h:a.length=k):rtake k (a++t,s)=(a,(t,s)):=by
 subst h;unfold rtake;rw [if_neg (by simp)];simp
theorem ZeF (x:UInt64) (t:Bs) (s:Bool):rnum (b8 x++t,s)=(x.toNat,(t,s)):=by
 unfold rnum;rw [ZdE s (ZbJ x),ZhE]
theorem ZeE (n:Nat) (hn:n<=255) (t:Bs) (s:Bool):rcnt (UInt8.ofNat n::t,s)=(n,(t,s)):=by
 have:=ZdE (a:=[UInt8.ofNat n]) (t:=t) (k:=1) s rfl;rw [show [UInt8.ofNat n]++t=UInt8.ofNat n::t from rfl] at this;unfold rcnt;rw [this]
 have e:(UInt8.ofNat n).toNat=n:=by rw [UInt8.toNat_ofNat']; omega
 simp [val,e]
theorem Zfz:∀ (n:Nat) (ps:List UInt64) (t:Bs) (s:Bool),ps.length=n->rnums n (psB ps++t,s)=(ps,(t,s))
 | 0,ps,t,s,h=>by rw [List.eq_nil_of_length_eq_zero h]; rfl
 | n+1,ps,t,s,h=>by
  have hne:ps≠[]:=by intro e; rw [e] at h; simp at h
  obtain ⟨q,x,rfl⟩:∃ q x,ps=q++[x]:=⟨ps.dropLast,ps.getLast hne,(List.dropLast_concat_getLast hne).symm⟩
  have ih:=Zfz n q (b8 x++t) s (by simpa using h);rw [Zdp,List.append_assoc,rnums,ih];simp only;rw [ZeF];simp
theorem Zg6 {c:Cm} (h:ccom c=0):pcom (comB c)=(c,([],false)):=by
 obtain ⟨h1,h2,_,h4,h5⟩:=Za3 h;have e1:rnum (comB c,false)=(c.tree.toNat,(UInt8.ofNat c.ps.length::(psB c.ps++(b8 (dw c.date)++(UInt8.ofNat c.note.length::c.note))),false)):=ZeF _ _ _;have e2:=ZeE c.ps.length (by omega) (psB c.ps++(b8 (dw c.date)++(UInt8.ofNat c.note.length::c.note))) false;have e3:=Zfz _ c.ps (b8 (dw c.date)++(UInt8.ofNat c.note.length::c.note)) false rfl;have e4:=ZeF (dw c.date) (UInt8.ofNat c.note.length::c.note) false
 have e5:rtxt (UInt8.ofNat c.note.length::c.note,false)=(c.note,([],false)):=by
  unfold rtxt;rw [ZeE _ (by omega)];have:=ZdE (a:=c.note) (t:=[]) false rfl;rw [List.append_nil] at this;exact this
 have e6:=Zmp h4 h5;rw [ZhE] at e6;unfold pcom;rw [e1,e2,e3,e4,e5];simp [e6]
theorem ZdU {k:Nat} {r:Rs} (h:(rtake k r).2.2=false):r.2=false/\r.1=(rtake k r).1++(rtake k r).2.1/\(rtake k r).1.length=k:=by
 unfold rtake at h ⊢
 split at h
 ·cases h
 ·rename_i q
  rw [if_neg q];exact ⟨h,by simp,by simp; omega⟩
theorem ZeS {r:Rs} (h:(rnum r).2.2=false):r.2=false/\r.1=b8 (UInt64.ofNat (rnum r).1)++(rnum r).2.1:=by
 obtain ⟨h1,h2,h3⟩:=ZdU (k:=8) (r:=r) h;refine ⟨h1,?_⟩;unfold rnum;simp only;rw [Zml h3];exact h2
theorem Zhl {r:Rs} (h:(rcnt r).2.2=false):r.2=false/\r.1=UInt8.ofNat (rcnt r).1::(rcnt r).2.1:=by
 obtain ⟨h1,h2,h3⟩:=ZdU (k:=1) (r:=r) h;refine ⟨h1,?_⟩;unfold rcnt;simp only;obtain ⟨x,hx⟩:=List.length_eq_one_iff.1 h3;rw [hx] at h2 ⊢;rw [h2]
 have:UInt8.ofNat (val [x])=x:=by simp [val]
 rw [this]
 rfl
theorem ZfL:∀ {k:Nat} {r:Rs},(rnums k r).2.2=false->r.2=false/\r.1=psB (rnums k r).1++(rnums k r).2.1
 | 0,r,h=>⟨h,rfl⟩
 | k+1,r,h=>by
  obtain ⟨h1,h2⟩:=ZeS (r:=(rnums k r).2) h;obtain ⟨h3,h4⟩:=ZfL h1;refine ⟨h3,?_⟩;rw [h4,h2];simp only [rnums];rw [Zdp,List.append_assoc]
theorem Zg7 {b:Bs} (h:(pcom b).2=([],false)):comB (pcom b).1=b:=by
 obtain ⟨R1,e1⟩:∃ R1,rnum (b,false)=R1:=⟨_,rfl⟩
 obtain ⟨R2,e2⟩:∃ R2,rcnt R1.2=R2:=⟨_,rfl⟩
 obtain ⟨R3,e3⟩:∃ R3,rnums R2.1 R2.2=R3:=⟨_,rfl⟩
 obtain ⟨R4,e4⟩:∃ R4,rnum R3.2=R4:=⟨_,rfl⟩
 obtain ⟨R5,e5⟩:∃ R5,rtxt R4.2=R5:=⟨_,rfl⟩
 have hp:pcom b=(⟨UInt64.ofNat R1.1,R3.1,sgn R4.1,R5.1⟩,R5.2):=by
  unfold pcom;rw [e1,e2,e3,e4,e5]
 rw [hp] at h ⊢;simp only at h;have k5:=ZdU (k:=(rcnt R4.2).1) (r:=(rcnt R4.2).2) (by show (rtxt R4.2).2.2=false; rw [e5,h])
 have k5':(rcnt R4.2).2.1=R5.1:=by
  have:=k5.2.1;rw [show rtake (rcnt R4.2).1 (rcnt R4.2).2=R5 from e5,h,List.append_nil] at this;exact this
 have k5l:R5.1.length=(rcnt R4.2).1:=by
  have:=k5.2.2;rw [show rtake (rcnt R4.2).1 (rcnt R4.2).2=R5 from e5] at this;exact this
 have k4c:=Zhl k5.1;have k4:=ZeS (r:=R3.2) (by rw [e4]; exact k4c.1);have k3:=ZfL (k:=R2.1) (r:=R2.2) (by rw [e3]; exact k4.1);have k2:=Zhl (r:=R1.2) (by rw [e2]; exact k3.1);have k1:=ZeS (r:=(b,false)) (by rw [e1]; exact k2.1)
 have l3:R3.1.length=R2.1:=by rw [<- e3]; exact Zcp _ _
 have hd:dw (sgn R4.1)=UInt64.ofNat R4.1:=Znw (by rw [<- e4]; exact Zdv _);rw [e4,k4c.2,k5',<- k5l] at k4;rw [e3,k4.2] at k3;rw [e2,k3.2] at k2;rw [e1,k2.2] at k1;show b8 (UInt64.ofNat R1.1)++(UInt8.ofNat R3.1.length::(psB R3.1++(b8 (dw (sgn R4.1))++(UInt8.ofNat R5.1.length::R5.1))))=b;rw [l3,hd];exact k1.2.symm
def RC (b:Bs) (c:Cm) (e:Int):Prop:=(e=0/\ccom c=0/\comB c=b)∨(e=9/\c=zcm/\∀ c',ccom c'=0->comB c'≠b)
theorem Znh {b:Bs} (h:(pcom b).2=([],false)) (k:ccom (pcom b).1=0):RC b (pcom b).1 0:=.inl ⟨rfl,k,Zg7 h⟩
theorem Zi6 {b:Bs} (h:(pcom b).2≠([],false)∨ccom (pcom b).1≠0):RC b zcm 9:=by
 refine .inr ⟨rfl,rfl,λ c' k1 k2=>?_⟩;have:=Zg6 k1;rw [k2] at this;rw [this] at h
 rcases h with h | h
 ·exact h rfl
 ·exact h k1
def rpar (s:Bs) (i:Nat):UInt64:=UInt64.ofNat (val ((s.drop (9+8*i)).take 8))
def rcom (s:Bs) (n:Nat):Cm:=⟨UInt64.ofNat (val (s.take 8)),(List.range n).map (rpar s),sgn (val ((s.drop (9+8*n)).take 8)),s.drop (18+8*n)⟩
theorem Zhr:∀ (ps:List UInt64) (i:Nat),(psB ps).drop (8*i)=psB (ps.drop i)
 | ps,0=>by simp
 | [],i+1=>by simp [psB]
 | x::t,i+1=>by
  have:=Zhr t i;rw [show 8*(i+1)=8+8*i by omega,<- List.drop_drop];show List.drop (8*i) (List.drop 8 (b8 x++psB t))=psB (t.drop i)
  have e:(b8 x++psB t).drop 8=psB t:=by
   have l:=ZbJ x;rw [<- l,List.drop_left]
  rw [e,this]
theorem Zb4 {c:Cm} (h:ccom c=0):rcom (comB c) c.ps.length=c/\(comB c).length=18+8*c.ps.length+c.note.length/\(comB c)[8]? = some (UInt8.ofNat c.ps.length):=by
 obtain ⟨h1,h2,_,h4,h5⟩:=Za3 h;have lb:=ZbJ c.tree;have ld:=ZbJ (dw c.date);have lp:=ZcQ c.ps
 have t8:(comB c).take 8=b8 c.tree:=by unfold comB; rw [<- lb,List.take_left]
 have d8:(comB c).drop 8=UInt8.ofNat c.ps.length::(psB c.ps++(b8 (dw c.date)++(UInt8.ofNat c.note.length::c.note))):=by unfold comB; rw [<- lb,List.drop_left]
 have d9:(comB c).drop 9=psB c.ps++(b8 (dw c.date)++(UInt8.ofNat c.note.length::c.note)):=by
  rw [show 9=8+1 from rfl,<- List.drop_drop,d8]; rfl
 have dn:(comB c).drop (9+8*c.ps.length)=b8 (dw c.date)++(UInt8.ofNat c.note.length::c.note):=by
  rw [<- List.drop_drop,d9,<- lp,List.drop_left]
 have dq:(comB c).drop (18+8*c.ps.length)=c.note:=by
  rw [show 18+8*c.ps.length=(9+8*c.ps.length)+(8+1) by omega,<- List.drop_drop,dn,<- List.drop_drop]
  have:(b8 (dw c.date)++(UInt8.ofNat c.note.length::c.note)).drop 8=UInt8.ofNat c.note.length::c.note:=by rw [<- ld,List.drop_left]
  rw [this]; rfl
 refine ⟨?_,?_,?_⟩
 ·obtain ⟨ct,cp,cd,cn⟩:=c;simp only at *;unfold rcom;rw [t8,dn,dq,Zdd]
  have e1:(b8 (dw cd)++(UInt8.ofNat cn.length::cn)).take 8=b8 (dw cd):=by rw [<- ld,List.take_left]
  rw [e1,Zmp h4 h5]
  congr 1
  apply List.ext_getElem
  ·simp
  ·intro i hi hi';simp only [List.getElem_map,List.getElem_range];unfold rpar;rw [<- List.drop_drop,d9,List.drop_append_of_le_length (by rw [lp]; omega),Zhr,List.drop_eq_getElem_cons hi']
   have e2:∀ t:Bs,(psB (cp[i]::cp.drop (i+1))++t).take 8=b8 cp[i]:=by
    intro t;show ((b8 cp[i]++psB (cp.drop (i+1)))++t).take 8=_;rw [List.append_assoc,<- ZbJ cp[i],List.take_left]
   rw [e2,Zdd]
 ·simp [comB,lb,ld,lp]; omega
 ·have:=congrArg (λ l=>l[0]?) d8;simpa [List.getElem?_drop] using this
theorem ZnG {s:Bs} {n:Nat} (h:fcom (rcom s n)=(s,0)):RC s (rcom s n) 0:=by
 unfold fcom at h
 split at h
 ·rename_i q
  simp only [Prod.mk.injEq] at h;exact .inl ⟨rfl,q,h.1⟩
 ·rename_i q
  simp only [Prod.mk.injEq] at h;exact absurd h.2 q
theorem Zd8 {s:Bs} {n:Nat} (hn:s[8]? = some (UInt8.ofNat n)) (h8:n<=8) (h:fcom (rcom s n)≠(s,0)):RC s zcm 9:=by
 refine .inr ⟨rfl,rfl,λ c' k1 k2=>?_⟩;obtain ⟨q1,q2,q3⟩:=Zb4 k1;rw [k2] at q1 q3;rw [hn] at q3
 have e:n=c'.ps.length:=by
  have h1:=(Za3 k1).1
  have h2:UInt8.ofNat n=UInt8.ofNat c'.ps.length:=by simpa using q3
  have h3:=congrArg UInt8.toNat h2;rw [UInt8.toNat_ofNat',UInt8.toNat_ofNat'] at h3;omega
 rw [e,q1] at h;apply h;unfold fcom;rw [if_pos k1,k2]
theorem Zc2 {s:Bs} (h:s.length<9∨(∃ n:Nat,s[8]? = some (UInt8.ofNat n)/\n<=255/\(8<n∨s.length<18+8*n))):RC s zcm 9:=by
 refine .inr ⟨rfl,rfl,λ c' k1 k2=>?_⟩;obtain ⟨q1,q2,q3⟩:=Zb4 k1;rw [k2] at q2 q3
 rcases h with h | ⟨n,hn,h255,h⟩
 ·omega
 ·rw [hn] at q3;have h1:=(Za3 k1).1
  have h2:UInt8.ofNat n=UInt8.ofNat c'.ps.length:=by simpa using q3
  have h3:=congrArg UInt8.toNat h2;rw [UInt8.toNat_ofNat',UInt8.toNat_ofNat'] at h3;omega
end Go.Proofs.YtmhcpbbiokpjjaaGreat
namespace Go.Proofs.YtmhcpbbiokpjjaaGreat
abbrev Fs:=List (Bs×Bs)
def Za4 (l:Fs):Prop:=l.Pairwise (λ a b=>a.1<b.1)
def fget:Fs->Bs->Option Bs
 | [],_=>none
 | f::t,n=>if f.1=n then some f.2 else fget t n
def fwith:Fs->Bs->Bs->Fs
 | [],n,v=>[(n,v)]
 | f::t,n,v=>if n<f.1 then (n,v)::f::t else if f.1=n then (n,v)::t else f::fwith t n v
theorem Zat (a:Bs):¬ a<a:=List.lt_irrefl a
theorem Zdh {a b:Bs} (h:a<b):¬ b<a:=List.lt_asymm h
theorem Zdq {a b c:Bs} (h:a<b) (k:b<c):a<c:=List.lt_trans h k
theorem Zeu (a b:Bs):a<b∨a=b∨b<a:=by
 by_cases h:a<b
 ·exact .inl h
 ·by_cases k:b<a
  ·exact .inr (.inr k)
  ·exact .inr (.inl (List.le_antisymm k h))
theorem ZeO:∀ {l:Fs} {n v:Bs},fget l n=some v->(n,v)∈l
 | [],_,_,h=>by simp [fget] at h
 | f::t,n,v,h=>by
  unfold fget at h
  split at h
  ·rename_i e
   cases h;rw [<- e];exact List.mem_cons_self
  ·exact List.mem_cons_of_mem _ (ZeO h)
theorem Zcs:∀ {l:Fs} {n:Bs},fget l n=none↔∀ f∈l,f.1≠n
 | [],n=>by simp [fget]
 | f::t,n=>by
  unfold fget;by_cases e:f.1=n
  ·simp [e]
  ·rw [if_neg e,Zcs (l:=t)];simp [e]
theorem ZdO:∀ (l:Fs) (n v:Bs) (f:Bs×Bs),f∈fwith l n v->f=(n,v)∨f∈l
 | [],n,v,f,h=>by simp [fwith] at h; exact .inl h
 | g::t,n,v,f,h=>by
  unfold fwith at h
  split at h
  ·rcases List.mem_cons.1 h with e | e
   ·exact .inl e
   ·exact .inr e
  ·split at h
   ·rcases List.mem_cons.1 h with e | e
    ·exact .inl e
    ·exact .inr (List.mem_cons_of_mem _ e)
   ·rcases List.mem_cons.1 h with e | e
    ·rw [e]; exact .inr List.mem_cons_self
    ·rcases ZdO t n v f e with q | q
     ·exact .inl q
     ·exact .inr (List.mem_cons_of_mem _ q)
theorem Zf9:∀ {l:Fs} (n v:Bs),Za4 l->Za4 (fwith l n v)
 | [],n,v,_=>List.pairwise_singleton _ _
 | f::t,n,v,h=>by
  obtain ⟨h1,h2⟩:=List.pairwise_cons.1 h;unfold fwith
  split
  ·rename_i lt
   refine List.pairwise_cons.2 ⟨λ g hg=>?_,h⟩
   rcases List.mem_cons.1 hg with rfl | q
   ·exact lt
   ·exact Zdq lt (h1 g q)
  ·split
   ·rename_i e
    refine List.pairwise_cons.2 ⟨λ g hg=>?_,h2⟩;show n<g.1;rw [<- e];exact h1 g hg
   ·rename_i nlt ne
    refine List.pairwise_cons.2 ⟨λ g hg=>?_,Zf9 n v h2⟩
    rcases ZdO t n v g hg with rfl | q
    ·show f.1<n
     rcases Zeu f.1 n with q | q | q
     ·exact q
     ·exact absurd q ne
     ·exact absurd q nlt
    ·exact h1 g q
theorem Zcy:∀ {l:Fs} (n v m:Bs),Za4 l->fget (fwith l n v) m=if n=m then some v else fget l m
 | [],n,v,m,_=>by simp [fwith,fget]
 | f::t,n,v,m,h=>by
  obtain ⟨h1,h2⟩:=List.pairwise_cons.1 h;unfold fwith
  split
  ·simp only [fget]
  ·split
   ·rename_i e
    simp only [fget];by_cases q:n=m
    ·rw [if_pos q,if_pos q]
    ·rw [if_neg q,if_neg q,if_neg (by rw [e]; exact q)]
   ·rename_i ne
    simp only [fget,Zcy n v m h2];by_cases q:f.1=m
    ·rw [if_pos q,if_pos q,if_neg (λ e=>ne (by rw [q,e]))]
    ·rw [if_neg q,if_neg q]
theorem ZdL:∀ {l:Fs} (n v:Bs),Za4 l->(fwith l n v).length=l.length+(if (fget l n).isSome then 0 else 1)
 | [],n,v,_=>by simp [fwith,fget]
 | f::t,n,v,h=>by
  obtain ⟨h1,h2⟩:=List.pairwise_cons.1 h;unfold fwith
  split
  ·rename_i lt
   have nn:fget (f::t) n=none:=Zcs.2 (λ x hx e=>by
    rcases List.mem_cons.1 hx with rfl | q
    ·rw [e] at lt; exact Zat _ lt
    ·have:=Zdq lt (h1 x q);rw [e] at this
     exact Zat _ this)
   rw [nn];simp
  ·split
   ·rename_i e
    simp [fget,e]
   ·rename_i ne
    have:=ZdL n v h2;simp only [List.length_cons,fget,if_neg ne,this];omega
structure Dk where
 files:Fs
 writes:Nat
 armed:Bool
 dead:Bool
 after:Nat
 keep:Nat
def dk0:Dk:=⟨[],0,false,false,0,0⟩
def dnext (d:Dk):Dk×Bool×Bool :=
 if d.dead then (d,false,false)
 else if d.armed&&d.after==0 then ({ d with dead:=true,armed:=false },false,true)
 else ({ d with after:=if d.armed then d.after - 1 else d.after,writes:=d.writes+1 },true,false)
def dlay (d:Dk) (n own more:Bs):Dk×Int :=
 if isName n=false then (d,2)
 else if 262144<own.length+more.length∨(fget d.files n=none/\32<=d.files.length) then (d,7)
 else if (dnext d).2.1 then ({ (dnext d).1 with files:=fwith d.files n (own++more) },0)
 else if (dnext d).2.2 then ({ (dnext d).1 with files:=fwith d.files n (own++more.take d.keep) },8)
 else ((dnext d).1,8)
def dput (d:Dk) (n v:Bs):Dk×Int:=dlay d n [] v
def dapp (d:Dk) (n v:Bs):Dk×Int:=dlay d n ((fget d.files n).getD []) v
def dtrim (d:Dk) (n:Bs) (k:Int):Dk×Int :=
 if isName n=false then (d,2) else match fget d.files n with
  | none=>(d,5)
  | some s=>if k<0∨(s.length:Int)<k then (d,3)
   else if (dnext d).2.1 then ({ (dnext d).1 with files:=fwith d.files n (s.take k.toNat) },0) else ((dnext d).1,8)
def dcut (d:Dk) (a k:Int):Dk×Int :=
 if a<0∨k<0 then (d,3) else if d.dead then (d,8) else ({ d with armed:=true,after:=a.toNat,keep:=k.toNat },0)
def dres (d:Dk):Dk:={ d with dead:=false,armed:=false }
theorem ZaU (d:Dk):(dnext d).1.files=d.files:=by
 unfold dnext
 split
 ·rfl
 ·split <;> rfl
abbrev Nm (α:Type):=Bs×α
def Zbk {α:Type} (l:List (Nm α)):Prop:=l.Pairwise (λ a b=>a.1<b.1)
def nget {α:Type}:List (Nm α)->Bs->Option α
 | [],_=>none
 | f::t,n=>if f.1=n then some f.2 else nget t n
def nout {α:Type} (l:List (Nm α)) (n:Bs):List (Nm α):=l.filter (λ f=>!(f.1==n))
def nins {α:Type}:List (Nm α)->Bs->α->List (Nm α)
 | [],n,v=>[(n,v)]
 | f::t,n,v=>if n<f.1 then (n,v)::f::t else f::nins t n v
def nwith {α:Type} (l:List (Nm α)) (n:Bs) (v:α):List (Nm α):=nins (nout l n) n v
section
variable {α:Type}
theorem ZeK:∀ {l:List (Nm α)} {n:Bs} {v:α},nget l n=some v->(n,v)∈l
 | [],_,_,h=>by simp [nget] at h
 | f::t,n,v,h=>by
  unfold nget at h
  split at h
  ·rename_i e
   cases h;rw [<- e];exact List.mem_cons_self
  ·exact List.mem_cons_of_mem _ (ZeK h)
theorem ZaD:∀ {l:List (Nm α)} {n:Bs},nget l n=none↔∀ f∈l,f.1≠n
 | [],n=>by simp [nget]
 | f::t,n=>by
  unfold nget;by_cases e:f.1=n
  ·simp [e]
  ·rw [if_neg e,ZaD (l:=t)];simp [e]
theorem ZbY:∀ (l:List (Nm α)) (n m:Bs),nget (nout l n) m=if n=m then none else nget l m
 | [],n,m=>by simp [nout,nget]
 | f::t,n,m=>by
  have ih:=ZbY t n m;unfold nout at ih ⊢;rw [List.filter_cons];by_cases e:f.1=n
  ·simp only [e,beq_self_eq_true,Bool.not_true,Bool.false_eq_true,if_false,ih,nget];by_cases q:n=m
   ·rw [if_pos q,if_pos q]
   ·rw [if_neg q,if_neg q,if_neg q]
  ·have e':(!(f.1==n))=true:=by simpa using e
   rw [if_pos e'];simp only [nget,ih];by_cases q:f.1=m
   ·rw [if_pos q,if_pos q,if_neg (λ r=>e (by rw [q,r]))]
   ·rw [if_neg q,if_neg q]
theorem Zhg:∀ {l:List (Nm α)} (n:Bs) (v:α) (m:Bs),nget l n=none->nget (nins l n v) m=if n=m then some v else nget l m
 | [],n,v,m,_=>by simp [nins,nget]
 | f::t,n,v,m,h=>by
  have h1:f.1≠n:=(ZaD.1 h) f List.mem_cons_self;have h2:nget t n=none:=ZaD.2 (λ g hg=>(ZaD.1 h) g (List.mem_cons_of_mem _ hg));unfold nins
  split
  ·simp only [nget]
  ·simp only [nget,Zhg n v m h2];by_cases q:f.1=m
   ·rw [if_pos q,if_pos q,if_neg (λ e=>h1 (by rw [q,e]))]
   ·rw [if_neg q,if_neg q]
theorem Zdy (l:List (Nm α)) (n:Bs) (v:α) (m:Bs):nget (nwith l n v) m=if n=m then some v else nget l m:=by
 unfold nwith;rw [Zhg n v m (by rw [ZbY,if_pos rfl]),ZbY];by_cases q:n=m
 ·rw [if_pos q,if_pos q]
 ·rw [if_neg q,if_neg q,if_neg q]
theorem ZfV {l:List (Nm α)} (n:Bs) (h:Zbk l):Zbk (nout l n):=List.Pairwise.filter _ h
theorem ZhL:∀ (l:List (Nm α)) (n:Bs) (v:α) (f:Nm α),f∈nins l n v->f=(n,v)∨f∈l
 | [],n,v,f,h=>by simp [nins] at h; exact .inl h
 | g::t,n,v,f,h=>by
  unfold nins at h
  split at h
  ·rcases List.mem_cons.1 h with e | e
   ·exact .inl e
   ·exact .inr e
  ·rcases List.mem_cons.1 h with e | e
   ·rw [e]; exact .inr List.mem_cons_self
   ·rcases ZhL t n v f e with q | q
    ·exact .inl q
    ·exact .inr (List.mem_cons_of_mem _ q)
theorem Zge:∀ {l:List (Nm α)} (n:Bs) (v:α),Zbk l->nget l n=none->Zbk (nins l n v)
 | [],n,v,_,_=>List.pairwise_singleton _ _
 | f::t,n,v,h,hn=>by
  obtain ⟨h1,h2⟩:=List.pairwise_cons.1 h;have hf:f.1≠n:=(ZaD.1 hn) f List.mem_cons_self;have ht:nget t n=none:=ZaD.2 (λ g hg=>(ZaD.1 hn) g (List.mem_cons_of_mem _ hg));unfold nins
  split
  ·rename_i lt
   refine List.pairwise_cons.2 ⟨λ g hg=>?_,h⟩
   rcases List.mem_cons.1 hg with rfl | q
   ·exact lt
   ·exact Zdq lt (h1 g q)
  ·rename_i nlt
   refine List.pairwise_cons.2 ⟨λ g hg=>?_,Zge n v h2 ht⟩
   rcases ZhL t n v g hg with rfl | q
   ·show f.1<n
    rcases Zeu f.1 n with q | q | q
    ·exact q
    ·exact absurd q hf
    ·exact absurd q nlt
   ·exact h1 g q
theorem Zen {l:List (Nm α)} (n:Bs) (v:α) (h:Zbk l):Zbk (nwith l n v):=Zge n v (ZfV n h) (by rw [ZbY,if_pos rfl])
theorem Zhp:∀ (l:List (Nm α)) (n:Bs) (v:α),(nins l n v).length=l.length+1
 | [],_,_=>rfl
 | f::t,n,v=>by
  unfold nins
  split
  ·rfl
  ·simp [Zhp t n v]
theorem Zfk {l:List (Nm α)} {n:Bs} (h:nget l n=none):nout l n=l:=by
 unfold nout;rw [List.filter_eq_self];intro f hf;simpa using (ZaD.1 h) f hf
theorem Ze4:∀ {l:List (Nm α)} {n:Bs},Zbk l->(nget l n).isSome=true->(nout l n).length+1=l.length
 | [],_,_,h=>by simp [nget] at h
 | f::t,n,hr,h=>by
  obtain ⟨h1,h2⟩:=List.pairwise_cons.1 hr;by_cases e:f.1=n
  ·have:nget t n=none:=ZaD.2 (λ g hg q=>Zat n (by have:=h1 g hg; rwa [e,q] at this));have q:=Zfk this;unfold nout at q ⊢;rw [List.filter_cons];simp [e,q]
  ·have ih:=Ze4 (l:=t) (n:=n) h2 (by simpa [nget,e] using h);unfold nout at ih ⊢;rw [List.filter_cons];simp [e];exact ih
theorem Zch {l:List (Nm α)} (n:Bs) (v:α) (h:Zbk l):(nwith l n v).length=if (nget l n).isSome then l.length else l.length+1:=by
 unfold nwith;rw [Zhp]
 cases e:(nget l n).isSome with
 | true=>rw [if_pos rfl]; exact Ze4 h e
 | false =>
  have:nget l n=none:=by simpa using e
  rw [Zfk this];simp
theorem ZnH:∀ {a b:List (Nm α)},Zbk a->Zbk b->(∀ n,nget a n=nget b n)->a=b
 | [],[],_,_,_=>rfl
 | [],g::b,_,_,h=>by have:=h g.1; simp [nget] at this
 | f::a,[],_,_,h=>by have:=h f.1; simp [nget] at this
 | f::a,g::b,ha,hb,h=>by
  obtain ⟨a1,a2⟩:=List.pairwise_cons.1 ha;obtain ⟨b1,b2⟩:=List.pairwise_cons.1 hb
  have key:∀ {f g:Nm α} {b:List (Nm α)},(∀ x∈b,g.1<x.1)->nget (g::b) f.1=some f.2->f=g∨g.1<f.1:=by
   intro f g b hb h;have:=ZeK h
   rcases List.mem_cons.1 this with e | e
   ·exact .inl e
   ·exact .inr (hb _ e)
  have h1:nget (g::b) f.1=some f.2:=by rw [<- h f.1]; simp [nget]
  have h2:nget (f::a) g.1=some g.2:=by rw [h g.1]; simp [nget]
  have hfg:f=g:=by
   rcases key b1 h1 with e | e
   ·exact e
   ·rcases key a1 h2 with q | q
    ·exact q.symm
    ·exact absurd q (Zdh e)
  subst hfg
  congr 1
  refine ZnH a2 b2 (λ n=>?_);have:=h n;simp only [nget] at this;by_cases q:f.1=n
  ·have n1:nget a n=none:=ZaD.2 (λ x hx e=>absurd (a1 x hx) (by rw [e,<- q]; exact Zat _));have n2:nget b n=none:=ZaD.2 (λ x hx e=>absurd (b1 x hx) (by rw [e,<- q]; exact Zat _));rw [n1,n2]
  ·rw [if_neg q,if_neg q] at this;exact this
end
end Go.Proofs.YtmhcpbbiokpjjaaGreat
namespace Go.Proofs.YtmhcpbbiokpjjaaGreat
open Go.RowKit
def oid (k:Int) (b:Bs):UInt64:=UInt64.ofNat (idFold (idStep 14695981039346656037 (k % 256)) (ints b)).toNat
theorem Zbm (a b:Int):0<=idStep a b/\idStep a b<18446744073709551616:=by
 unfold idStep;refine ⟨wrap_u64_nonneg _,?_⟩;show IntKind.u64.wrap _<_;rw [IntKind.wrap_u64];omega
theorem ZfS (zs:List Int):∀ h:Int,0<=h->h<18446744073709551616->0<=idFold h zs/\idFold h zs<18446744073709551616:=by
 induction zs with
 | nil=>intro h h0 h1; exact ⟨h0,h1⟩
 | cons z t ih =>
  intro h _ _;exact ih (idStep h z) (Zbm h z).1 (Zbm h z).2
theorem Zmm (k:Int) (b:Bs):idFold (idStep 14695981039346656037 (k % 256)) (ints b)=((oid k b).toNat:Int):=by
 have:=ZfS (ints b) (idStep 14695981039346656037 (k % 256)) (Zbm _ _).1 (Zbm _ _).2;unfold oid;rw [UInt64.toNat_ofNat'];omega
theorem Zfj (xss:List Bs):∀ h,idFolds h (xss.map ints)=idFold h (ints xss.flatten):=by
 induction xss with
 | nil=>intro h; rfl
 | cons x t ih =>
  intro h;show idFolds (idFold h (ints x)) (t.map ints)=_;rw [ih];simp [idFold,ints,List.foldl_append]
def ptree:Nat->Bs->Option (List En)
 | 0,b=>if b=[] then some [] else none
 | k+1,b=>if b=[] then some [] else match one b with
  | none=>none
  | some (e,r)=>(ptree k r).map (e::·)
def rdtree (b:Bs):Option (List En):=match ptree 64 b with
 | none=>none
 | some es=>if ctree es=0 then some es else none
def rdcom (b:Bs):Option Cm:=if (pcom b).2=([],false)/\ccom (pcom b).1=0 then some (pcom b).1 else none
theorem Zhc:∀ (k:Nat) (es:List En),es.length<=k->Sm es->ptree k (treeB es)=some es
 | 0,[],_,_=>by simp [ptree,treeB]
 | 0,e::t,h,_=>by simp at h
 | k+1,[],_,_=>by simp [ptree,treeB]
 | k+1,e::t,h,hs=>by
  have he:treeB (e::t)=entB e++treeB t:=by simp [treeB]
  have hne:¬ treeB (e::t)=[]:=by rw [he]; simp [entB]
  have hl:e.1.length<=255:=hs e List.mem_cons_self;rw [ptree,if_neg hne,he,ZeQ hl];simp only [Zhc k t (by simp at h; omega) (λ x hx=>hs x (List.mem_cons_of_mem _ hx)),Option.map_some]
theorem Zes:∀ (k:Nat) (b:Bs) (es:List En),ptree k b=some es->treeB es=b
 | 0,b,es,h=>by
  unfold ptree at h
  split at h
  ·rename_i e
   cases h;rw [e]
   rfl
  ·cases h
 | k+1,b,es,h=>by
  unfold ptree at h
  split at h
  ·rename_i e
   cases h;rw [e]
   rfl
  ·split at h
   ·cases h
   ·rename_i e r ho
    cases hp:ptree k r with
    | none=>rw [hp] at h; cases h
    | some t =>
     rw [hp] at h;cases h;have:=Zes k r t hp;rw [(Zdf ho).1];simp [treeB,<- this]
theorem Zbf {b:Bs} {es:List En} (h:rdtree b=some es):ctree es=0/\treeB es=b:=by
 unfold rdtree at h
 split at h
 ·cases h
 ·rename_i t ht
  split at h
  ·rename_i hc
   cases h;exact ⟨hc,Zes _ _ _ ht⟩
  ·cases h
theorem Zcr {es:List En} (h:ctree es=0):rdtree (treeB es)=some es:=by
 unfold rdtree;rw [Zhc 64 es (ZaQ h).1 (Zb3 h)];simp [h]
theorem RT.rd {b:Bs} {es:List En} {e:Int} (h:RT b es e):(e=0/\rdtree b=some es)∨(e=9/\es=[]/\rdtree b=none):=by
 rcases h with ⟨rfl,h1,rfl⟩ | ⟨rfl,rfl,h1⟩
 ·exact .inl ⟨rfl,Zcr h1⟩
 ·refine .inr ⟨rfl,rfl,?_⟩
  cases e:rdtree b with
  | none=>rfl
  | some es=>exact absurd (Zbf e).2 (h1 es (Zbf e).1)
theorem Zbr {b:Bs} {c:Cm} (h:rdcom b=some c):ccom c=0/\comB c=b:=by
 unfold rdcom at h
 split at h
 ·rename_i hc
  cases h;exact ⟨hc.2,Zg7 hc.1⟩
 ·cases h
theorem Zdg {c:Cm} (h:ccom c=0):rdcom (comB c)=some c:=by
 unfold rdcom;rw [Zg6 h];simp [h]
theorem RC.rd {b:Bs} {c:Cm} {e:Int} (h:RC b c e):(e=0/\rdcom b=some c)∨(e=9/\c=zcm/\rdcom b=none):=by
 rcases h with ⟨rfl,h1,rfl⟩ | ⟨rfl,rfl,h1⟩
 ·exact .inl ⟨rfl,Zdg h1⟩
 ·refine .inr ⟨rfl,rfl,?_⟩
  cases e:rdcom b with
  | none=>rfl
  | some c=>exact absurd (Zbr e).2 (h1 c (Zbr e).1)
structure Ob where
 kind:Int
 id:UInt64
 body:Bs
def oget:List Ob->Int->UInt64->Option Bs
 | [],_,_=>none
 | o::t,k,i=>if o.kind=k/\o.id=i then some o.body else oget t k i
theorem Za6:∀ {l:List Ob} {k:Int} {i:UInt64} {b:Bs},oget l k i=some b->(⟨k,i,b⟩:Ob)∈l
 | [],_,_,_,h=>by simp [oget] at h
 | o::t,k,i,b,h=>by
  unfold oget at h
  split at h
  ·rename_i e
   cases h;rw [<- e.1,<- e.2];exact List.mem_cons_self
  ·exact List.mem_cons_of_mem _ (Za6 h)
theorem Zcq:∀ (l:List Ob) (o:Ob) (k:Int) (i:UInt64),oget (l++[o]) k i=match oget l k i with
  | some b=>some b
  | none=>if o.kind=k/\o.id=i then some o.body else none
 | [],o,k,i=>by simp [oget]
 | p::t,o,k,i=>by
  rw [List.cons_append];unfold oget
  split
  ·rfl
  ·exact Zcq t o k i
theorem ZdQ:∀ {l:List Ob} {k:Int} {i:UInt64},oget l k i=none↔∀ o∈l,¬ (o.kind=k/\o.id=i)
 | [],k,i=>by simp [oget]
 | o::t,k,i=>by
  unfold oget;by_cases e:o.kind=k/\o.id=i
  ·simp [e]
  ·rw [if_neg e,ZdQ (l:=t)]
   constructor
   ·intro h x hx
    rcases List.mem_cons.1 hx with rfl | q
    ·exact e
    ·exact h x q
   ·intro h x hx;exact h x (List.mem_cons_of_mem _ hx)
structure St where
 objs:List Ob
 refs:List (Nm UInt64)
 tags:List (Nm UInt64)
def st0:St:=⟨[],[],[]⟩
def St.has (st:St) (k:Int) (i:UInt64):Bool:=(oget st.objs k i).isSome
def St.blobs (st:St) (es:List En):Bool:=es.all (λ e=>st.has 1 e.2)
def St.above (st:St) (c:Cm):Bool:=c.ps.all (λ p=>st.has 3 p)&&st.has 2 c.tree
def labI (b:Bs):UInt64:=UInt64.ofNat (val (b.take 8))
def labN (b:Bs):Bs:=b.drop 8
def labB (i:UInt64) (n:Bs):Bs:=b8 i++n
theorem Zbz (i:UInt64) (n:Bs):labI (labB i n)=i:=by
 unfold labI labB;rw [List.take_left' (ZbJ i),Zdd]
theorem ZbC (i:UInt64) (n:Bs):labN (labB i n)=n:=by
 unfold labN labB;rw [List.drop_left' (ZbJ i)]
theorem Zaz (i:UInt64) (n:Bs):(labB i n).length=8+n.length:=by simp [labB,ZbJ]
def St.take (st:St) (f:Fr):St :=
 if f.1=4 then { st with refs:=if labI f.2=0 then nout st.refs (labN f.2) else nwith st.refs (labN f.2) (labI f.2) }
 else if f.1=5 then { st with tags:=nwith st.tags (labN f.2) (labI f.2) }
 else { st with objs:=st.objs++[⟨f.1,oid f.1 f.2,f.2⟩] }
def St.right (st:St) (f:Fr):Bool :=
 if f.1=1 then decide (f.2.length<=4096)
 else if f.1=2 then (match rdtree f.2 with | none=>false | some es=>st.blobs es)
 else if f.1=3 then (match rdcom f.2 with | none=>false | some c=>st.above c)
 else false
def St.fits (st:St) (f:Fr):Bool :=
 if f.1=4∨f.1=5 then decide (8<=f.2.length)&&isName (labN f.2) &&
  (if f.1=5 then st.has 3 (labI f.2)&&!(nget st.tags (labN f.2)).isSome else if labI f.2=0 then (nget st.refs (labN f.2)).isSome else st.has 3 (labI f.2))
 else st.right f&&!(decide (oid f.1 f.2=0))&&!(st.has f.1 (oid f.1 f.2))
def fileN:Bs:=[111,98,106,101,99,116,115]
theorem Zix:isName fileN=true:=by decide
def sapp (st:St) (d:Dk) (f:Fr):St×Dk×Int :=
 (if (dapp d fileN (fseal f).1).2=0 then st.take f else st,(dapp d fileN (fseal f).1).1,(dapp d fileN (fseal f).1).2)
def sput (st:St) (d:Dk) (k:Int) (b:Bs):(St×Dk)×UInt64×Int :=
 match oget st.objs k (oid k b) with
 | some old=>if old=b then ((st,d),oid k b,0) else ((st,d),0,13)
 | none=>if oid k b=0 then ((st,d),0,13) else
   (((sapp st d (k,b)).1,(sapp st d (k,b)).2.1),if (sapp st d (k,b)).2.2=0 then oid k b else 0,(sapp st d (k,b)).2.2)
def sblob (st:St) (d:Dk) (b:Bs):(St×Dk)×UInt64×Int:=if 4096<b.length then ((st,d),0,4) else sput st d 1 b
def stree (st:St) (d:Dk) (es:List En):(St×Dk)×UInt64×Int :=
 if (ftree es).2≠0 then ((st,d),0,(ftree es).2) else if st.blobs es=false then ((st,d),0,5) else sput st d 2 (ftree es).1
def scom (st:St) (d:Dk) (c:Cm):(St×Dk)×UInt64×Int :=
 if (fcom c).2≠0 then ((st,d),0,(fcom c).2) else if st.above c=false then ((st,d),0,5) else sput st d 3 (fcom c).1
def sref (st:St) (d:Dk) (n:Bs) (i:UInt64):St×Dk×Int :=
 if isName n=false then (st,d,2) else if st.has 3 i=false then (st,d,5) else sapp st d (4,labB i n)
def sdrop (st:St) (d:Dk) (n:Bs):St×Dk×Int :=
 if isName n=false then (st,d,2) else if (nget st.refs n).isSome=false then (st,d,5) else sapp st d (4,labB 0 n)
def stag (st:St) (d:Dk) (n:Bs) (i:UInt64):St×Dk×Int :=
 if isName n=false then (st,d,2) else if st.has 3 i=false then (st,d,5) else if (nget st.tags n).isSome then (st,d,6) else sapp st d (5,labB i n)
structure St.ok (st:St):Prop where
 refs:Zbk st.refs
 tags:Zbk st.tags
 one:st.objs.Pairwise (λ a b=>¬ (a.kind=b.kind/\a.id=b.id))
 ids:∀ o∈st.objs,o.id=oid o.kind o.body/\o.id≠0/\1<=o.kind/\o.kind<=3/\o.body.length<=8192
 blob:∀ o∈st.objs,o.kind=1->o.body.length<=4096
 tree:∀ o∈st.objs,o.kind=2->∃ es,rdtree o.body=some es/\st.blobs es=true
 com:∀ o∈st.objs,o.kind=3->∃ c,rdcom o.body=some c/\st.above c=true
 names:∀ n i,nget st.refs n=some i∨nget st.tags n=some i->st.has 3 i=true
theorem St.ok0:st0.ok where
 refs:=List.Pairwise.nil
 tags:=List.Pairwise.nil
 one:=List.Pairwise.nil
 ids:=λ _ h=>by cases h
 blob:=λ _ h=>by cases h
 tree:=λ _ h=>by cases h
 com:=λ _ h=>by cases h
 names:=λ n i h=>by rcases h with h | h <;> simp [st0,nget] at h
theorem Zdi {st:St} {o:Ob} {k:Int} {i:UInt64} (h:st.has k i=true):St.has { st with objs:=st.objs++[o] } k i=true:=by
 unfold St.has at h ⊢;show (oget (st.objs++[o]) k i).isSome=true;rw [Zcq]
 cases e:oget st.objs k i with
 | none=>rw [e] at h; cases h
 | some b=>rfl
theorem Zdc {st:St} (h:st.ok) (k:Int):st.has k 0=false:=by
 unfold St.has
 cases e:oget st.objs k 0 with
 | none=>rfl
 | some b=>exact absurd rfl (h.ids _ (Za6 e)).2.1
theorem Zei {st:St} {o:Ob} {es:List En} (h:st.blobs es=true):St.blobs { st with objs:=st.objs++[o] } es=true:=by
 unfold St.blobs at h ⊢;rw [List.all_eq_true] at h ⊢
 exact λ e he=>Zdi (h e he)
theorem Zec {st:St} {o:Ob} {c:Cm} (h:st.above c=true):St.above { st with objs:=st.objs++[o] } c=true:=by
 unfold St.above at h ⊢;rw [Bool.and_eq_true,List.all_eq_true] at h ⊢;exact ⟨λ e he=>Zdi (h.1 e he),Zdi h.2⟩
end Go.Proofs.YtmhcpbbiokpjjaaGreat
