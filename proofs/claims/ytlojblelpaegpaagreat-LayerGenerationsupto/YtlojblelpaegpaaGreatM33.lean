/-
  Several texts, laid together.
-/
import Derived.Test.YtlojblelpaegpaaGreatM32
set_option maxHeartbeats 6400000
set_option maxRecDepth 100000
open List renaming getElem?_append_left->BN,getElem?_append_right->BQ,getElem?_eq_some_iff->AC,all_eq_true->Dr,getElem?_eq_getElem->Aq,filter_cons_of_pos->CP,length_cons->A3,filter_cons_of_neg->Dy,mem_map->Bu,idxOf_lt_length_of_mem->DF,mem_of_getElem?->AY,getD->Cf,mem_append->AK
open Bool renaming and_eq_true->Bf
open Option renaming isSome_iff_exists->BP,bind_some->DI
namespace Go.Proofs.YtlojblelpaegpaaGreat
open Go.RowKit
variable{a st:St}{b:Bs}{bl cl tl:List UInt64}{d d':Dk}{f:Fr}{k:Int}{v:Wd}
def Stp(st:St)(d:Dk)(st':St)(d':Dk):Prop:=(st'=st/\d'=d)∨∃f,st.fits f=true/\f.2.length<=8192/\st'=(sapp st d f).1/\d'=(sapp st d f).2.1
theorem ZfQ(i:k=1∨k=2∨k=3)(g:st.right (k,b)=true)(f:b.length<=8192):Stp st d (sput st d k b).1.1 (sput st d k b).1.2:=by
 unfold sput
 cases e:oget st.objs k (oid k b)with
 | some h =>
  simp only
  split <;> exact .inl ⟨rfl,rfl⟩
 | none =>
  simp only
  split
  ·exact .inl ⟨rfl,rfl⟩
  ·rename_i a
   refine .inr ⟨(k,b),?_,f,rfl,rfl⟩;unfold St.fits;rw[Aw (by show ¬(k=4∨k=5);omega),g]
   have c:st.has k (oid k b)=false:=by
    unfold St.has;rw[e]
    rfl
   simp[a,c]
theorem ZmO(m:v.st.ok)(a:Ac):Stp v.st v.d (wstep a v).st (wstep a v).d:=by
 unfold wstep
 split
 ·show Stp v.st v.d (sblob v.st v.d a.data).1.1 (sblob v.st v.d a.data).1.2;unfold sblob
  split
  ·exact .inl ⟨rfl,rfl⟩
  ·exact ZfQ (.inl rfl) (by unfold St.right;rw[AE rfl];simp;omega) (by omega)
 ·split
  ·obtain⟨es,l⟩:=Xa (aents a.ps a.qs v.bl)
   show Stp v.st v.d (stree v.st v.d (aents a.ps a.qs v.bl)).1.1 (stree v.st v.d (aents a.ps a.qs v.bl)).1.2;rw[l];unfold stree
   split
   ·exact .inl ⟨rfl,rfl⟩
   ·rename_i e
    split
    ·exact .inl ⟨rfl,rfl⟩
    ·rename_i f
     obtain⟨h,j⟩:=Zda (by simpa using e);rw[j];refine ZfQ (.inr (.inl rfl)) ?_ (Zdd h);unfold St.right;rw[Aw (by show ¬(2:Int)=1;omega),AE rfl];simp only[ZcA h];simpa using f
  ·split
   ·obtain⟨c,o⟩:=Xa (anode a.data a.qs a.dt v.tl v.cl)
    show Stp v.st v.d (scom v.st v.d (anode a.data a.qs a.dt v.tl v.cl)).1.1 (scom v.st v.d (anode a.data a.qs a.dt v.tl v.cl)).1.2;rw[o];unfold scom
    split
    ·exact .inl ⟨rfl,rfl⟩
    ·rename_i e
     split
     ·exact .inl ⟨rfl,rfl⟩
     ·rename_i f
      obtain⟨h,j⟩:=ZcK (by simpa using e);rw[j]
      refine ZfQ (.inr (.inr rfl)) ?_ (by
       have n:=(Zb6 h).2.1;have p:=Zbj h
       omega)
      unfold St.right;rw[Aw (by show ¬(3:Int)=1;omega),Aw (by show ¬(3:Int)=2;omega),AE rfl];simp only[ZcL h];simpa using f
   ·split
    ·obtain⟨i,hi⟩:=Xa (pickU v.cl (pickI a.qs 0))
     show Stp v.st v.d (sref v.st v.d a.nm (pickU v.cl (pickI a.qs 0))).1 (sref v.st v.d a.nm (pickU v.cl (pickI a.qs 0))).2.1;rw[hi];unfold sref
     split
     ·exact .inl ⟨rfl,rfl⟩
     ·rename_i e
      split
      ·exact .inl ⟨rfl,rfl⟩
      ·rename_i f
       have b:isName a.nm=true:=by simpa using e
       exact .inr ⟨_,Zg9 m b (by simpa using f),Zby i b,rfl,rfl⟩
    ·split
     ·obtain⟨i,hi⟩:=Xa (pickU v.cl (pickI a.qs 0))
      show Stp v.st v.d (stag v.st v.d a.nm (pickU v.cl (pickI a.qs 0))).1 (stag v.st v.d a.nm (pickU v.cl (pickI a.qs 0))).2.1;rw[hi];unfold stag
      split
      ·exact .inl ⟨rfl,rfl⟩
      ·rename_i e
       split
       ·exact .inl ⟨rfl,rfl⟩
       ·rename_i f
        split
        ·exact .inl ⟨rfl,rfl⟩
        ·rename_i n
         have b:isName a.nm=true:=by simpa using e
         have g:v.st.has 3 i=true:=by simpa using f
         have k:(nget v.st.tags a.nm).isSome=false:=by simpa using n
         refine .inr ⟨_,?_,Zby i b,rfl,rfl⟩;unfold St.fits;rw[AE (.inr rfl)];simp[ZbK,ZbN,Zax,b,g,k]
     ·split
      ·show Stp v.st v.d (sdrop v.st v.d a.nm).1 (sdrop v.st v.d a.nm).2.1;unfold sdrop
       split
       ·exact .inl ⟨rfl,rfl⟩
       ·rename_i e
        split
        ·exact .inl ⟨rfl,rfl⟩
        ·rename_i f
         have b:isName a.nm=true:=by simpa using e
         have g:(nget v.st.refs a.nm).isSome=true:=by
          cases q:(nget v.st.refs a.nm).isSome with
          | true=>rfl
          | false=>exact absurd q f
         refine .inr ⟨_,?_,Zby 0 b,rfl,rfl⟩;unfold St.fits;rw[AE (.inl rfl)];simp[ZbK,ZbN,Zax,b,g]
      ·exact .inl ⟨rfl,rfl⟩
def wd0:Wd:=⟨st0,dk0,[],[],[]⟩
def Ordd(st:St):Prop:=∀(i:Nat) (o:Ob),st.objs[i]? = some o->o.kind=3->∀c,rdcom o.body=some c->∀p∈c.ps,∃j,j<i/\∃o',st.objs[j]? = some o'/\o'.kind=3/\o'.id=p
theorem Ordd.zero:Ordd st0:=λ i o h=>by simp[st0]at h
theorem Zh9:∀{l:List Ob} {k:Int} {x:UInt64} {b:Bs},oget l k x=some b->∃(i:Nat) (o:Ob),l[i]? = some o/\o.kind=k/\o.id=x/\o.body=b/\∀j,j<i->∀c:Ob,l[j]? = some c->¬(c.kind=k/\c.id=x)
 | [],_,_,_,h=>by simp[oget]at h
 | o::t,k,x,b,h=>by
  unfold oget at h
  split at h
  ·rename_i e
   cases h;exact⟨0,o,rfl,e.1,e.2,rfl,λ j d=>absurd d (Nat.not_lt_zero _)⟩
  ·rename_i e
   obtain⟨i,c,g,m,n,p,q⟩:=Zh9 h;refine⟨i+1,c,by simpa using g,m,n,p,λ j d f a=>?_⟩
   cases j with
   | zero =>
    have:o=f:=by simpa using a
    rw[<- this];exact e
   | succ j=>exact q j (by omega) f (by simpa using a)
theorem Ordd.take(h:Ordd st)(g:st.fits f=true):Ordd (st.take f):=by
 by_cases n:f.1=4
 ·unfold St.take;rw[AE n];exact h
 ·by_cases v:f.1=5
  ·unfold St.take;rw[Aw n,AE v];exact h
  ·have e:(st.take f).objs=st.objs++[⟨f.1,oid f.1 f.2,f.2⟩]:=by
    unfold St.take;rw[Aw n,Aw v]
   intro i o hi x c w p hp;rw[e]at hi ⊢;by_cases t:i<st.objs.length
   ·rw[BN t]at hi;obtain⟨j,A,u,d,l,m⟩:=h i o hi x c w p hp;exact⟨j,A,u,by rw[BN (by omega)];exact d,l,m⟩
   ·rw[BQ (by omega)]at hi
    have B:i - st.objs.length=0:=by
     have:=(AC.1 hi).1;simp at this;omega
    rw[B]at hi
    have y:o=⟨f.1,oid f.1 f.2,f.2⟩:=by simpa using hi.symm
    subst y;have s:f.1=3:=x
    have k:st.right f=true:=by
     unfold St.fits at g;rw[Aw (by omega)]at g;simp only[Bf]at g;exact g.1.1
    unfold St.right at k;have q:rdcom f.2=some c:=w;rw[Aw (by omega),Aw (by omega),AE s,q]at k;simp only[St.above,Bf,Dr]at k;have a:=k.1 p hp;unfold St.has at a;obtain⟨b,z⟩:=BP.1 a;obtain⟨j,u,d,l,m,_,_⟩:=Zh9 z;have r:=(AC.1 d).1;exact⟨j,by omega,u,by rw[BN r];exact d,l,m⟩
theorem Ordd.stp(h:Ordd st)(c:Stp st d a d'):Ordd a:=by
 rcases c with⟨rfl,rfl⟩ | ⟨f,b,_,rfl,rfl⟩
 ·exact h
 ·unfold sapp;simp only
  split
  ·exact h.take b
  ·exact h
def opos(st:St)(x:UInt64):Nat:=st.objs.findIdx (λ o=>decide (o.kind=3/\o.id=x))
theorem Zpf(h:Ordd st){x p:UInt64}(n:st.has 3 x=true)(hp:p∈(st.com x).ps):opos st p<opos st x:=by
 unfold St.has at n;obtain⟨b,k⟩:=BP.1 n;obtain⟨i,o,f,g,r,s,t⟩:=Zh9 k
 have a:=(AC.1 f)
 have u:opos st x=i:=by
  unfold opos;rw[List.findIdx_eq a.1];refine⟨by rw[a.2];simp[g,r],λ j l=>?_⟩;have:=t j l _ (Aq (by have:=a.1;omega));simpa using this
 unfold St.com at hp;rw[k,DI,<- s]at hp
 cases d:rdcom o.body with
 | none =>
  rw[d]at hp;simp[zcm]at hp
 | some c =>
  rw[d]at hp;obtain⟨j,l,z,v,w,y⟩:=h i o f g c d p hp;have e:=AC.1 v
  have:opos st p<=j:=by
   rcases Nat.lt_or_ge j (opos st p)with q|q
   ·unfold opos at q;have m:=List.not_of_lt_findIdx q;rw[e.2]at m;simp[w,y]at m
   ·exact q
  omega
theorem ZdQ{P Q:UInt64->Bool}:∀(l:List UInt64),(∀x,P x=true->Q x=true)->∀a∈l,Q a=true->P a=false->(l.filter P).length<(l.filter Q).length
 | [],_,a,ha,_,_=>by simp at ha
 | x::t,h,a,ha,hq,hp=>by
  have f:(t.filter P).length<=(t.filter Q).length:=by
   clear ha
   induction t with
   | nil=>simp
   | cons y s d =>
    by_cases b:P y=true
    ·rw[CP b,CP (h y b),A3,A3];omega
    ·rw[Dy b];by_cases c:Q y=true
     ·rw[CP c,A3];omega
     ·rw[Dy c];exact d
  rcases List.mem_cons.1 ha with e|e
  ·subst e;rw[Dy (by rw[hp];decide),CP hq,A3];omega
  ·have d:=ZdQ t h a e hq hp;by_cases b:P x=true
   ·rw[CP b,CP (h x b),A3,A3];omega
   ·rw[Dy b];by_cases c:Q x=true
    ·rw[CP c,A3];omega
    ·rw[Dy c];exact d
def rkO(st:St)(xs:List UInt64)(i:Nat):Nat:=(xs.filter (λ y=>decide (opos st y<opos st (xs.getD i 0)))).length
theorem ZhX(h:Ordd st){b ids:List UInt64}(t:st.free b ids):Zaz b.length (st.pss (b++risU ids) (risU ids)) (rkO st (risU ids)):=by
 obtain⟨xs,d⟩:=Xa (risU ids)
 rw[d]
 have k:(st.pss (b++xs) xs).length=xs.length:=by unfold St.pss;rw[List.length_map]
 have j:∀x∈xs,∀p∈(st.com x).ps,p∈b++xs:=by
  intro x c p hp;rw[<- d,ZaJ]at c;rw[<- d];exact ZbL.2 (t.shut x c p hp)
 refine⟨λ ps l p hp=>?_,λ i _=>?_,λ i ps hi q hq=>?_⟩
 ·unfold St.pss at l;obtain⟨x,c,rfl⟩:=Bu.1 l;unfold pps at hp;obtain⟨y,s,rfl⟩:=Bu.1 hp;have:=DF (j x c y s);rw[List.length_append]at this;rw[k];omega
 ·rw[k];exact List.length_filter_le _ _
 ·unfold St.pss at hi;rw[List.getElem?_map]at hi
  cases c:xs[i]? with
  | none=>rw[c]at hi;simp at hi
  | some x =>
   rw[c]at hi
   have e:pps (b++xs) (st.com x).ps=ps:=by simpa using hi
   rw[<- e]at hq;unfold pps at hq;obtain⟨p,hp,u⟩:=Bu.1 hq;have f:=AY c;have r:=j x f p hp;have n:=DF r
   have g:(b++xs).idxOf p=b.length+q:=by omega
   have a:(b++xs)[b.length+q]? = some p:=by
    rw[<- g,Aq n,List.getElem_idxOf]
   rw[BQ (by omega),Nat.add_sub_cancel_left]at a;have m:st.has 3 x=true:=t.has x (by rw[<- d,ZaJ]at f;exact f);have o:=Zpf h m hp;unfold rkO;rw[Cf,a,Cf,c];simp only[Option.getD_some];exact ZdQ xs (λ y s=>by simp only[A5]at s ⊢;omega) p (AY a) (by simpa using o) (by simp)
theorem ZnQ(h:Ordd st)(a:List UInt64)(Bg:List Int)(e:Bg.length=a.length)(ids:List UInt64):∃G rk,st.free a ids->Zaz a.length (st.pss (a++risU ids) (risU ids)) rk/\Gens Bg (st.pss (a++risU ids) (risU ids)) G:=by
 by_cases b:st.free a ids
 ·have c:=ZhX h b;obtain⟨G,d⟩:=Zkb (Bg:=Bg) (by rw[e];exact c);exact⟨G,_,λ _=>⟨c,d⟩⟩
 ·exact⟨[],λ _=>0,λ q=>absurd q b⟩
def CC(st:St)(cl:List UInt64):Prop:=∀(i:Nat) (x:UInt64),cl[i]? = some x->st.has 3 x=true/\∀p∈(st.com x).ps,p∈cl.take i
structure Wd.cc(v:Wd):Prop where
 all:∀x,v.st.has 3 x=true->x∈v.cl
 par:CC v.st v.cl
theorem Zc4{b e:List UInt64}(h:Wd.cc ⟨st,d,bl,tl,cl⟩)(g:∀x,oget a.objs 3 x=oget st.objs 3 x):Wd.cc ⟨a,d',b,e,cl⟩:=by
 have f:∀x,a.has 3 x=st.has 3 x:=λ x=>by unfold St.has;rw[g]
 have j:∀x,a.com x=st.com x:=λ x=>by unfold St.com;rw[g]
 refine⟨λ x c=>h.all x (by rw[<- c];exact(f x).symm),λ i x c=>?_⟩;have:=h.par i x c;exact⟨(f x).trans this.1,by rw[j];exact this.2⟩
theorem Zqx{y:UInt64}(h:Wd.cc ⟨st,d,bl,tl,cl⟩)(f:∀x b,oget st.objs 3 x=some b->oget a.objs 3 x=some b)(only:∀x,a.has 3 x=true->st.has 3 x=true∨x=y)(g:a.has 3 y=true/\∀p∈(a.com y).ps,st.has 3 p=true):Wd.cc ⟨a,d',bl,tl,cl++[y]⟩:=by
 refine⟨λ x c=>?_,λ i x c=>?_⟩
 ·rcases only x c with q|q
  ·exact AK.2 (.inl (h.all x q))
  ·exact AK.2 (.inr (by rw[q];exact List.mem_singleton.2 rfl))
 ·have c:(cl++[y])[i]? = some x:=c;by_cases hi:i<cl.length
  ·rw[BN hi]at c;have q:=h.par i x c;have k:=q.1;unfold St.has at k;obtain⟨b,j⟩:=BP.1 k
   have e:a.com x=st.com x:=by unfold St.com;rw[j,f x b j]
   refine⟨ZlB.2 ⟨b,f x b j⟩,λ p hp=>?_⟩;rw[e]at hp;show p∈(cl++[y]).take i;rw[List.take_append_of_le_length (by omega)];exact q.2 p hp
  ·rw[BQ (by omega)]at c
   have l:i - cl.length=0:=by
    have:=(AC.1 c).1;simp at this;omega
   rw[l]at c
   have e:y=x:=by simpa using c
   subst e;refine⟨g.1,λ p hp=>?_⟩;show p∈(cl++[y]).take i;rw[show i=cl.length by omega,List.take_left];exact h.all p (g.2 p hp)
theorem ZcH(a:k≠4)(c:k≠5):(sput st d k b).1.1.objs=st.objs∨(sput st d k b).2.2=0/\(sput st d k b).1.1.objs=st.objs++[⟨k,oid k b,b⟩]:=by
 unfold sput
 split
 ·split <;> exact .inl rfl
 ·split
  ·exact .inl rfl
  ·unfold sapp;simp only
   split
   ·rename_i q
    refine .inr ⟨q,?_⟩;unfold St.take;rw[Aw a,Aw c]
   ·exact .inl rfl
theorem oget3{l:List Ob}{o:Ob}(h:o.kind≠3)(x:UInt64):oget (l++[o]) 3 x=oget l 3 x:=by
 rw[Za4]
 cases oget l 3 x with
 | some b=>rfl
 | none=>exact Aw (λ q=>h q.1)
theorem Zqy(a:k=1∨k=2)(x:UInt64):oget (sput st d k b).1.1.objs 3 x=oget st.objs 3 x:=by
 rcases ZcH (st:=st) (d:=d) (b:=b) (by omega:k≠4) (by omega)with q|⟨_,q⟩
 ·rw[q]
 ·rw[q];exact oget3 (by show k≠3;omega) x
theorem Zec(h:f.1=4∨f.1=5):(sapp st d f).1.objs=st.objs:=by
 unfold sapp;simp only
 split
 ·unfold St.take
  split
  ·rfl
  ·rw[AE (by omega)]
 ·rfl
theorem Wd.cc.step(h:v.cc)(a:Ac):(wstep a v).cc:=by
 obtain⟨st,d,bl,tl,cl⟩:=v;unfold wstep;simp only
 split
 ·refine Zc4 h (λ x=>?_);unfold sblob
  split
  ·rfl
  ·exact Zqy (.inl rfl) x
 split
 ·refine Zc4 h (λ x=>?_);unfold stree
  split
  ·rfl
  split
  ·rfl
  ·exact Zqy (.inr rfl) x
 split
 ·obtain⟨c,s⟩:=Xa (anode a.data a.qs a.dt tl cl)
  rw[s];unfold scom;by_cases i:(fcom c).2≠0
  ·rw[AE i];simp only[i,Eg];exact h
  ·rw[Aw i];by_cases j:st.above c=false
   ·rw[AE j];exact h
   ·rw[Aw j];obtain⟨n,o⟩:=ZcK (by simpa using i);have m:=ZcL n;rw[<- o]at m
    obtain⟨b,r⟩:=Xa ((fcom c).1)
    rw[r]at m ⊢;by_cases l:(sput st d 3 b).2.2=0
    ·rw[AE l];obtain⟨g,e⟩:=ZnF (by decide) (by decide) l;rw[e];refine Zqx h (λ x y f=>?_) (λ x f=>?_) ⟨ZlB.2 ⟨_,g⟩,λ p hp=>?_⟩
     ·rcases ZcH (st:=st) (d:=d) (k:=3) (b:=b) (by decide) (by decide)with q|⟨_,q⟩
      ·rw[q];exact f
      ·rw[q];exact Zlk f
     ·rcases ZcH (st:=st) (d:=d) (k:=3) (b:=b) (by decide) (by decide)with q|⟨_,q⟩
      ·left
       unfold St.has at f ⊢;rw[q]at f;exact f
      ·unfold St.has at f ⊢;rw[q,Za4]at f
       cases t:oget st.objs 3 x with
       | some z=>exact .inl rfl
       | none =>
        rw[t]at f;simp only at f
        split at f
        ·rename_i u
         exact .inr u.2.symm
        ·cases f
     ·unfold St.com at hp;rw[g,DI,m]at hp;simp only[St.above,Bf,Dr,Bool.not_eq_false]at j;exact j.1 p hp
    ·rw[Aw l];refine Zc4 h (λ x=>?_)
     rcases ZcH (st:=st) (d:=d) (k:=3) (b:=b) (by decide) (by decide)with q|⟨q,_⟩
     ·rw[q]
     ·exact absurd q l
 split
 ·refine Zc4 h (λ x=>?_);unfold sref
  split
  ·rfl
  split
  ·rfl
  ·rw[Zec (.inl rfl)]
 split
 ·refine Zc4 h (λ x=>?_);unfold stag
  split
  ·rfl
  split
  ·rfl
  split
  ·rfl
  ·rw[Zec (.inr rfl)]
 split
 ·refine Zc4 h (λ x=>?_);unfold sdrop
  split
  ·rfl
  split
  ·rfl
  ·rw[Zec (.inl rfl)]
 ·exact h
theorem Zqq:wd0.cc:=⟨λ x a=>by simp[wd0,st0,St.has,oget]at a,λ i x a=>by simp[wd0]at a⟩
section
variable{w w':World}{s b:Nat}{st:St}{d d':Dk}{U:Nat->Prop}
end
end Go.Proofs.YtlojblelpaegpaaGreat
