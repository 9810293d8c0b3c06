import Derived.Test.YtakgkgmopmcecaaGreatM13
set_option maxHeartbeats 6400000
set_option maxRecDepth 100000
open Go renaming World->Ap,Value->Ar,callFunc->Ck,Calls->At,bodyPost_ret->As,results->AI
open Go.RowKit renaming Below->An
open List renaming getElem?_append_left->BS,getElem?_append_right->BZ,getElem?_eq_some_iff->AG,all_eq_true->Dj,getElem?_eq_getElem->Aq,filter_cons_of_pos->CW,length_cons->A2,filter_cons_of_neg->Dz,mem_map->BJ,idxOf_lt_length_of_mem->Et,mem_of_getElem?->A8,getD->Cn,mem_append->AN
open Bool renaming and_eq_true->Bn
open Option renaming isSome_iff_exists->BY,bind_some->C3
open Go.Value renaming oneCell'->CA,string->Ae,slice->Aa,int->Ab,bool->Ad,tuple->Af,agg->Ag,pointer->Ah
open Go.RowKit.Below renaming refl->Ao
open UInt64 renaming toNat_lt->Gx
open Go.Act renaming eval->Bc
open Nat renaming reduceAdd->Cv,le_trans->AU
open Go.Obj renaming cells->Ai
open Go.Ending renaming returned->Aj
open Go.IntKind renaming i64->Ak,u64->Al
open Go.Proofs.Tryz renaming prog->Am
open Go.Proofs.Tryz
namespace Go.Proofs.YtakgkgmopmcecaaGreat
open Go.RowKit
variable {A D N P fa oa qa ra ta xa ya z za:Option Addr}{B C F G L O R b fc fl oc qc qn rc rn s tc tn xc xn y yc yn zc zn:Nat}{E Z:Nat->Prop}{a st:St}{bl cl tl:List UInt64}{d d':Dk}{data:Bs}{f:Fr}{k:Int}{m vf vo vr vt xb xt:Ar}{ps:List Bs}{qs:List Int}{v:Wd}{w w0:Ap}
def pR(k:Int)(data:Bs)(ps:List Bs)(qs:List Int)(dt:Int)(st:St)(d:Dk)(bl tl cl:List UInt64)(st':St)(d':Dk)(bl' tl' cl':List UInt64):Prop :=
 (k<0/\st'=st/\d'=d/\bl'=bl/\tl'=tl/\cl'=cl) ∨
 (k=0/\∃Q,jk st d data=Q/\st'=Q.1.1/\d'=Q.1.2/\(bl'=if Q.2.2=0 then bl++[Q.2.1]else bl)/\tl'=tl/\cl'=cl) ∨
 (k=1/\∃Q,ja st d (kF ps qs bl)=Q/\st'=Q.1.1/\d'=Q.1.2/\bl'=bl/\(tl'=if Q.2.2=0 then tl++[Q.2.1]else tl)/\cl'=cl) ∨
 (k=2/\∃Q,jV st d (jX data qs dt tl cl)=Q/\st'=Q.1.1/\d'=Q.1.2/\bl'=bl/\tl'=tl/\(cl'=if Q.2.2=0 then cl++[Q.2.1]else cl))
theorem WI.form{xc:Ar}{U:Nat->Prop}(h:WI B E w s b vf vo vr vt xb xt xc U st d bl tl cl):
  ∃fa a fc oa on oc c f rc g i tc j r k l t m n u zc,vf=Aa fa a fc/\vo=Aa oa on oc/\vr=Aa c f rc/\vt=Aa g i tc/\xb=Aa j r k/\xt=Aa l t m/\xc=Aa n u zc:=by
 obtain⟨fa,a,fc,oa,on,oc,c,f,rc,g,i,tc,e,_⟩:=h.ref;obtain⟨j,k,o,_⟩:=h.ob.whole rfl;obtain⟨l,m,p,_⟩:=h.ot.whole rfl;obtain⟨n,zc,q,_⟩:=h.oc.whole rfl;simp at e;exact⟨fa,a,fc,oa,on,oc,c,f,rc,g,i,tc,j,_,k,l,_,m,n,_,zc,e.1,e.2.1,e.2.2.1,e.2.2.2,o,p,q⟩
theorem WI.turn{G:Nat->Prop}{w':Ap}{xc:Ar}{U:Nat->Prop}(h:WI B E w s b vf vo vr vt xb xt xc U st d bl tl cl)(a:Aw G w w')(c:∀i,G i->E i):WI B E w' s b vf vo vr vt xb xt xc U st d bl tl cl:=by
 have ne:∀i,Rows U xb xt xc i->¬G i:=λ i q r=>h.fe i q (c i r)
 exact⟨h.duo.stays a (λ i q=>ne i (.inl q)),h.low,h.ref.turned a (λ i q=>.inr (c i q)),h.fe,λ i q=>Nat.lt_of_lt_of_le (h.elt i q) a.size,h.ob.stays a (λ g q=>ne g (.inr (.inl q))),h.ot.stays a (λ g q=>ne g (.inr (.inr (.inl q)))),h.oc.stays a (λ g q=>ne g (.inr (.inr (.inr q)))),h.fb,h.ft,h.fc,h.bt,h.bc,h.tc⟩
theorem ZM:∀args w,(Ck 19 args).run Am w=.ok (.enter 19 args) w:=enters_of func19 (by kernel_rfl) rfl
theorem gA{on:Nat}{U:Nat->Prop}{a:AV}
  (hI:WI B E w s b (Aa fa fl fc) (Aa oa on oc) (Aa ra rn rc) (Aa ta tn tc) (Aa xa xn xc) (Aa ya yn yc) (Aa za zn zc) U st d bl tl cl) (h0:An B w0 w) (D:w0.heap.size=B) (hB:B<=w.heap.size) (hA:H7 w0 a data ps qs) (hk:a.k<3) (F:d.ok) (hw:d.writes<=1000000) (G:st.size<=1000000) (V:bl.length<=1000000) (W:tl.length<=1000000) (aa:cl.length<=1000000) :
  At Am 19 #[Ag (iS s b d (Aa fa fl fc) (Aa oa on oc) (Aa ra rn rc) (Aa ta tn tc) (Aa xa xn xc) (Aa ya yn yc) (Aa za zn zc)),a.val] w λ e w'=>∃v,e=Aj v/\Hid (∃f j g l n m p t r u z y H J I K M L N P O Z X d' R Y S,v=Af #[Ag (iS s b d' (Aa f j g) (Aa l n m) (Aa p t r) (Aa u z y) (Aa H J I) (Aa K M L) (Aa N P O)),Ad true]/\WI B E w' s b (Aa f j g) (Aa l n m) (Aa p t r) (Aa u z y) (Aa H J I) (Aa K M L) (Aa N P O) Z X d' R Y S/\An B w0 w'/\(∀i,E i->w'.heap[i]? = w.heap[i]?)/\gM gR 63 w' B (Aa xa xn xc) bl/\gM gR 63 w' B (Aa ya yn yc) tl/\gM gR 63 w' B (Aa za zn zc) cl/\pR a.k data ps qs a.dt st d bl tl cl X d' R Y S):=by
 obtain⟨k,da,dn,dc,pa,pn,pc,qa,qn,qc,nm,dt,kp⟩:=a;obtain⟨a1,a2,a3,a4,a5,a6,a7,a8,a9,Q⟩:=hA;simp only at a1 a2 a3 a4 a5 a6 a7 a8 a9 Q hk
 have hc:k<0∨k=0∨k=1∨k=2:=by omega
 rcases hc with q|rfl|rfl|rfl
 refine(fz hI h0 hB k q _ _ _ nm dt kp).mono ?_;rintro e w' ⟨rfl,h⟩;obtain⟨c,A,C⟩:=h.o;exact⟨_,rfl,_,_,_,_,_,_,_,_,_,_,_,_,_,_,_,_,_,_,_,_,_,_,_,_,_,_,_,rfl,c,A,C,c.ob,c.ot,c.oc,.inl ⟨q,rfl,rfl,rfl,rfl,rfl⟩⟩
 refine(UN hI h0 D hB a1 a2 a3 F hw G _ _ nm dt kp _ rfl _ rfl V).mono ?_;rintro e w' ⟨vf,vo,vr,vt,x,rfl,h⟩;obtain⟨Z,c,A,C,T⟩:=h.o;obtain⟨f,j,g,l,n,m,p,t,r,u,z,y,H,J,I,_,_,_,_,_,_,rfl,rfl,rfl,rfl,rfl,_,_⟩:=c.form;exact⟨_,rfl,_,_,_,_,_,_,_,_,_,_,_,_,_,_,_,_,_,_,_,_,_,_,_,_,_,_,_,rfl,c,A,C,T,c.ot,c.oc,.inr (.inl ⟨rfl,_,rfl,rfl,rfl,rfl,rfl,rfl⟩)⟩
 refine(dq hI h0 D hB a4 a5 a6 a7 a8 a9 (by omega) F hw G _ nm dt kp _ rfl _ rfl V W).mono ?_;rintro e w' ⟨vf,vo,vr,vt,x,rfl,h⟩;obtain⟨Z,c,A,C,T⟩:=h.o;obtain⟨f,j,g,l,n,m,p,t,r,u,z,y,_,_,_,K,M,L,_,_,_,rfl,rfl,rfl,rfl,_,rfl,_⟩:=c.form;exact⟨_,rfl,_,_,_,_,_,_,_,_,_,_,_,_,_,_,_,_,_,_,_,_,_,_,_,_,_,_,_,rfl,c,A,C,c.ob,T,c.oc,.inr (.inr (.inl ⟨rfl,_,rfl,rfl,rfl,rfl,rfl,rfl⟩))⟩
 refine(Z6 hI h0 D hB a1 a8 a9 Q F hw G _ nm dt kp _ rfl _ rfl W aa).mono ?_;rintro e w' ⟨vf,vo,vr,vt,x,rfl,h⟩;obtain⟨Z,c,A,C,T⟩:=h.o;obtain⟨f,j,g,l,n,m,p,t,r,u,z,y,_,_,_,_,_,_,N,P,O,rfl,rfl,rfl,rfl,_,_,rfl⟩:=c.form;exact⟨_,rfl,_,_,_,_,_,_,_,_,_,_,_,_,_,_,_,_,_,_,_,_,_,_,_,_,_,_,_,rfl,c,A,C,c.ob,c.ot,T,.inr (.inr (.inr ⟨rfl,_,rfl,rfl,rfl,rfl,rfl,rfl⟩))⟩
section
variable {co:Array Value}{B R O:Nat}{w0 u u':World}{s b:Nat}{vf vo vr vt xb xt xc:Value}{U:Nat->Prop}{st:St}{d:Dk}{bl tl cl:List UInt64}
end
def Stp(st:St)(d:Dk)(st':St)(d':Dk):Prop:=(st'=st/\d'=d)∨∃f,st.fits f=true/\f.2.length<=8192/\st'=(iB st d f).1/\d'=(iB st d f).2.1
theorem OG{b:Bs}(i:k=1∨k=2∨k=3)(g:st.right (k,b)=true)(f:b.length<=8192):Stp st d (iy st d k b).1.1 (iy st d k b).1.2:=by
 unfold iy
 cases e:iq st.objs k (jC k b)with
 | some h =>
  simp only
  split <;> exact .inl ⟨rfl,rfl⟩
 | none =>
  simp only
  split
  exact .inl ⟨rfl,rfl⟩
  ·rename_i a
   refine .inr ⟨(k,b),?_,f,rfl,rfl⟩;unfold St.fits;rw[Ay (by show ¬(k=4∨k=5);omega),g]
   have c:st.has k (jC k b)=false:=by
    unfold St.has;rw[e]
    rfl
   simp[a,c]
theorem ZD(m:v.st.ok)(a:Ac):Stp v.st v.d (jN a v).st (jN a v).d:=by
 unfold jN
 split
 show Stp v.st v.d (jk v.st v.d a.data).1.1 (jk v.st v.d a.data).1.2;unfold jk
 split
 exact .inl ⟨rfl,rfl⟩
 exact OG (.inl rfl) (by unfold St.right;rw[AC rfl];simp;omega) (by omega)
 ·split
  ·obtain⟨es,l⟩:=Xa (kF a.ps a.qs v.bl)
   show Stp v.st v.d (ja v.st v.d (kF a.ps a.qs v.bl)).1.1 (ja v.st v.d (kF a.ps a.qs v.bl)).1.2;rw[l];unfold ja
   split
   exact .inl ⟨rfl,rfl⟩
   ·rename_i e
    split
    exact .inl ⟨rfl,rfl⟩
    ·rename_i f
     obtain⟨h,j⟩:=NS (by simpa using e);rw[j];refine OG (.inr (.inl rfl)) ?_ (Nk h);unfold St.right;rw[Ay (by show ¬(2:Int)=1;omega),AC rfl];simp only[Lb h];simpa using f
  ·split
   ·obtain⟨c,o⟩:=Xa (jX a.data a.qs a.dt v.tl v.cl)
    show Stp v.st v.d (jV v.st v.d (jX a.data a.qs a.dt v.tl v.cl)).1.1 (jV v.st v.d (jX a.data a.qs a.dt v.tl v.cl)).1.2;rw[o];unfold jV
    split
    exact .inl ⟨rfl,rfl⟩
    ·rename_i e
     split
     exact .inl ⟨rfl,rfl⟩
     ·rename_i f
      obtain⟨h,j⟩:=Mj (by simpa using e);rw[j]
      refine OG (.inr (.inr rfl)) ?_ (by
       have n:=(JA h).2.1;have p:=GV h
       omega)
      unfold St.right;rw[Ay (by show ¬(3:Int)=1;omega),Ay (by show ¬(3:Int)=2;omega),AC rfl];simp only[KO h];simpa using f
   ·split
    ·obtain⟨i,hi⟩:=Xa (iI v.cl (jy a.qs 0))
     show Stp v.st v.d (kH v.st v.d a.nm (iI v.cl (jy a.qs 0))).1 (kH v.st v.d a.nm (iI v.cl (jy a.qs 0))).2.1;rw[hi];unfold kH
     split
     exact .inl ⟨rfl,rfl⟩
     ·rename_i e
      split
      exact .inl ⟨rfl,rfl⟩
      ·rename_i f
       have b:gS a.nm=true:=by simpa using e
       exact .inr ⟨_,TU m b (by simpa using f),JW i b,rfl,rfl⟩
    ·split
     ·obtain⟨i,hi⟩:=Xa (iI v.cl (jy a.qs 0))
      show Stp v.st v.d (kq v.st v.d a.nm (iI v.cl (jy a.qs 0))).1 (kq v.st v.d a.nm (iI v.cl (jy a.qs 0))).2.1;rw[hi];unfold kq
      split
      exact .inl ⟨rfl,rfl⟩
      ·rename_i e
       split
       exact .inl ⟨rfl,rfl⟩
       ·rename_i f
        split
        exact .inl ⟨rfl,rfl⟩
        ·rename_i n
         have b:gS a.nm=true:=by simpa using e
         have g:v.st.has 3 i=true:=by simpa using f
         have k:(iu v.st.tags a.nm).isSome=false:=by simpa using n
         refine .inr ⟨_,?_,JW i b,rfl,rfl⟩;unfold St.fits;rw[AC (.inr rfl)];simp[IR,IJ,Gq,b,g,k]
     ·split
      ·show Stp v.st v.d (jx v.st v.d a.nm).1 (jx v.st v.d a.nm).2.1;unfold jx
       split
       exact .inl ⟨rfl,rfl⟩
       ·rename_i e
        split
        exact .inl ⟨rfl,rfl⟩
        ·rename_i f
         have b:gS a.nm=true:=by simpa using e
         have g:(iu v.st.refs a.nm).isSome=true:=by
          cases q:(iu v.st.refs a.nm).isSome with
          | true=>rfl
          | false=>exact absurd q f
         refine .inr ⟨_,?_,JW 0 b,rfl,rfl⟩;unfold St.fits;rw[AC (.inl rfl)];simp[IR,IJ,Gq,b,g]
      exact .inl ⟨rfl,rfl⟩
def oh:Wd:=⟨mH,lM,[],[],[]⟩
def lC(st:St):Prop:=∀(i:Nat) (o:Ob),st.objs[i]? = some o->o.kind=3->∀c,jF o.body=some c->∀p∈c.ps,∃j,j<i/\∃o',st.objs[j]? = some o'/\o'.kind=3/\o'.id=p
theorem lC.zero:lC mH:=λ i o h=>by simp[mH]at h
theorem Nf:∀{l:List Ob} {k:Int} {x:UInt64} {b:Bs},iq l k x=some b->∃(i:Nat) (o:Ob),l[i]? = some o/\o.kind=k/\o.id=x/\o.body=b/\∀j,j<i->∀c:Ob,l[j]? = some c->¬(c.kind=k/\c.id=x)
 | [],_,_,_,h=>by simp[iq]at h
 | o::t,k,x,b,h=>by
  unfold iq at h
  split at h
  ·rename_i e
   cases h;exact⟨0,o,rfl,e.1,e.2,rfl,λ j d=>absurd d (Nat.not_lt_zero _)⟩
  ·rename_i e
   obtain⟨i,c,g,m,n,p,q⟩:=Nf h;refine⟨i+1,c,by simpa using g,m,n,p,λ j d f a=>?_⟩
   cases j with
   | zero =>
    have:o=f:=by simpa using a
    rw[<- this];exact e
   | succ j=>exact q j (by omega) f (by simpa using a)
theorem lC.take(h:lC st)(g:st.fits f=true):lC (st.take f):=by
 by_cases n:f.1=4
 ·unfold St.take;rw[AC n];exact h
 ·by_cases v:f.1=5
  ·unfold St.take;rw[Ay n,AC v];exact h
  ·have e:(st.take f).objs=st.objs++[⟨f.1,jC f.1 f.2,f.2⟩]:=by
    unfold St.take;rw[Ay n,Ay v]
   intro i o hi x c w p hp;rw[e]at hi ⊢;by_cases t:i<st.objs.length
   ·rw[BS t]at hi;obtain⟨j,A,u,d,l,m⟩:=h i o hi x c w p hp;exact⟨j,A,u,by rw[BS (by omega)];exact d,l,m⟩
   ·rw[BZ (by omega)]at hi
    have B:i - st.objs.length=0:=by
     have:=(AG.1 hi).1;simp at this;omega
    rw[B]at hi
    have y:o=⟨f.1,jC f.1 f.2,f.2⟩:=by simpa using hi.symm
    subst y;have s:f.1=3:=x
    have k:st.right f=true:=by
     unfold St.fits at g;rw[Ay (by omega)]at g;simp only[Bn]at g;exact g.1.1
    unfold St.right at k;have q:jF f.2=some c:=w;rw[Ay (by omega),Ay (by omega),AC s,q]at k;simp only[St.above,Bn,Dj]at k;have a:=k.1 p hp;unfold St.has at a;obtain⟨b,z⟩:=BY.1 a;obtain⟨j,u,d,l,m,_,_⟩:=Nf z;have r:=(AG.1 d).1;exact⟨j,by omega,u,by rw[BS r];exact d,l,m⟩
theorem lC.stp(h:lC st)(c:Stp st d a d'):lC a:=by
 rcases c with⟨rfl,rfl⟩ | ⟨f,b,_,rfl,rfl⟩
 exact h
 unfold iB;simp only
 split
 exact h.take b
 exact h
def mM(st:St)(x:UInt64):Nat:=st.objs.findIdx (λ o=>decide (o.kind=3/\o.id=x))
theorem UF(h:lC st){x p:UInt64}(n:st.has 3 x=true)(hp:p∈(st.com x).ps):mM st p<mM st x:=by
 unfold St.has at n;obtain⟨b,k⟩:=BY.1 n;obtain⟨i,o,f,g,r,s,t⟩:=Nf k
 have a:=(AG.1 f)
 have u:mM st x=i:=by
  unfold mM;rw[List.findIdx_eq a.1];refine⟨by rw[a.2];simp[g,r],λ j l=>?_⟩;have:=t j l _ (Aq (by have:=a.1;omega));simpa using this
 unfold St.com at hp;rw[k,C3,<- s]at hp
 cases d:jF o.body with
 | none =>
  rw[d]at hp;simp[lA]at hp
 | some c =>
  rw[d]at hp;obtain⟨j,l,z,v,w,y⟩:=h i o f g c d p hp;have e:=AG.1 v
  have:mM st p<=j:=by
   rcases Nat.lt_or_ge j (mM st p)with q|q
   unfold mM at q;have m:=List.not_of_lt_findIdx q;rw[e.2]at m;simp[w,y]at m;exact q
  omega
theorem OV{P Q:UInt64->Bool}:∀(l:List UInt64),(∀x,P x=true->Q x=true)->∀a∈l,Q a=true->P a=false->(l.filter P).length<(l.filter Q).length
 | [],_,a,ha,_,_=>by simp at ha
 | x::t,h,a,ha,hq,hp=>by
  have f:(t.filter P).length<=(t.filter Q).length:=by
   clear ha
   induction t with
   | nil=>simp
   | cons y s d =>
    by_cases b:P y=true;rw[CW b,CW (h y b),A2,A2];omega;rw[Dz b];by_cases c:Q y=true;rw[CW c,A2];omega;rw[Dz c];exact d
  rcases List.mem_cons.1 ha with e|e
  subst e;rw[Dz (by rw[hp];decide),CW hq,A2];omega;have d:=OV t h a e hq hp;by_cases b:P x=true;rw[CW b,CW (h x b),A2,A2];omega;rw[Dz b];by_cases c:Q x=true;rw[CW c,A2];omega;rw[Dz c];exact d
def pL(st:St)(xs:List UInt64)(i:Nat):Nat:=(xs.filter (λ y=>decide (mM st y<mM st (xs.getD i 0)))).length
theorem XC(h:lC st){b ids:List UInt64}(t:st.free b ids):EA b.length (st.pss (b++gY ids) (gY ids)) (pL st (gY ids)):=by
 obtain⟨xs,d⟩:=Xa (gY ids)
 rw[d]
 have k:(st.pss (b++xs) xs).length=xs.length:=by unfold St.pss;rw[List.length_map]
 have j:∀x∈xs,∀p∈(st.com x).ps,p∈b++xs:=by
  intro x c p hp;rw[<- d,IA]at c;rw[<- d];exact Ju.2 (t.shut x c p hp)
 refine⟨λ ps l p hp=>?_,λ i _=>?_,λ i ps hi q hq=>?_⟩
 unfold St.pss at l;obtain⟨x,c,rfl⟩:=BJ.1 l;unfold kL at hp;obtain⟨y,s,rfl⟩:=BJ.1 hp;have:=Et (j x c y s);rw[List.length_append]at this;rw[k];omega
 rw[k];exact List.length_filter_le _ _
 unfold St.pss at hi;rw[List.getElem?_map]at hi
 cases c:xs[i]? with
 | none=>rw[c]at hi;simp at hi
 | some x =>
  rw[c]at hi
  have e:kL (b++xs) (st.com x).ps=ps:=by simpa using hi
  rw[<- e]at hq;unfold kL at hq;obtain⟨p,hp,u⟩:=BJ.1 hq;have f:=A8 c;have r:=j x f p hp;have n:=Et r
  have g:(b++xs).idxOf p=b.length+q:=by omega
  have a:(b++xs)[b.length+q]? = some p:=by
   rw[<- g,Aq n,List.getElem_idxOf]
  rw[BZ (by omega),Nat.add_sub_cancel_left]at a;have m:st.has 3 x=true:=t.has x (by rw[<- d,IA]at f;exact f);have o:=UF h m hp;unfold pL;rw[Cn,a,Cn,c];simp only[Option.getD_some];exact OV xs (λ y s=>by simp only[A9]at s ⊢;omega) p (A8 a) (by simpa using o) (by simp)
theorem UR(h:lC st)(a:List UInt64)(Bg:List Int)(e:Bg.length=a.length)(ids:List UInt64):∃G rk,st.free a ids->EA a.length (st.pss (a++gY ids) (gY ids)) rk/\kx Bg (st.pss (a++gY ids) (gY ids)) G:=by
 by_cases b:st.free a ids
 have c:=XC h b;obtain⟨G,d⟩:=dh (Bg:=Bg) (by rw[e];exact c);exact⟨G,_,λ _=>⟨c,d⟩⟩
 exact⟨[],λ _=>0,λ q=>absurd q b⟩
def CC(st:St)(cl:List UInt64):Prop:=∀(i:Nat) (x:UInt64),cl[i]? = some x->st.has 3 x=true/\∀p∈(st.com x).ps,p∈cl.take i
structure Wd.cc(v:Wd):Prop where
 all:∀x,v.st.has 3 x=true->x∈v.cl
 par:CC v.st v.cl
theorem Kc{b e:List UInt64}(h:Wd.cc ⟨st,d,bl,tl,cl⟩)(g:∀x,iq a.objs 3 x=iq st.objs 3 x):Wd.cc ⟨a,d',b,e,cl⟩:=by
 have f:∀x,a.has 3 x=st.has 3 x:=λ x=>by unfold St.has;rw[g]
 have j:∀x,a.com x=st.com x:=λ x=>by unfold St.com;rw[g]
 refine⟨λ x c=>h.all x (by rw[<- c];exact(f x).symm),λ i x c=>?_⟩;have:=h.par i x c;exact⟨(f x).trans this.1,by rw[j];exact this.2⟩
theorem eP{y:UInt64}(h:Wd.cc ⟨st,d,bl,tl,cl⟩)(f:∀x b,iq st.objs 3 x=some b->iq a.objs 3 x=some b)(only:∀x,a.has 3 x=true->st.has 3 x=true∨x=y)(g:a.has 3 y=true/\∀p∈(a.com y).ps,st.has 3 p=true):Wd.cc ⟨a,d',bl,tl,cl++[y]⟩:=by
 refine⟨λ x c=>?_,λ i x c=>?_⟩
 rcases only x c with q|q
 exact AN.2 (.inl (h.all x q))
 exact AN.2 (.inr (by rw[q];exact List.mem_singleton.2 rfl))
 have c:=c;by_cases hi:i<cl.length
 rw[BS hi]at c;have q:=h.par i x c;have k:=q.1;unfold St.has at k;obtain⟨b,j⟩:=BY.1 k
 have e:a.com x=st.com x:=by unfold St.com;rw[j,f x b j]
 refine⟨Tu.2 ⟨b,f x b j⟩,λ p hp=>?_⟩;rw[e]at hp;show p∈(cl++[y]).take i;rw[List.take_append_of_le_length (by omega)];exact q.2 p hp
 rw[BZ (by omega)]at c
 have l:i - cl.length=0:=by
  have:=(AG.1 c).1;simp at this;omega
 rw[l]at c
 have e:y=x:=by simpa using c
 subst e;refine⟨g.1,λ p hp=>?_⟩;show p∈(cl++[y]).take i;rw[show i=cl.length by omega,List.take_left];exact h.all p (g.2 p hp)
theorem KY{b:Bs}(a:k≠4)(c:k≠5):(iy st d k b).1.1.objs=st.objs∨(iy st d k b).2.2=0/\(iy st d k b).1.1.objs=st.objs++[⟨k,jC k b,b⟩]:=by
 unfold iy
 split
 ·split <;> exact .inl rfl
 ·split
  exact .inl rfl
  ·unfold iB;simp only
   split
   ·rename_i q
    refine .inr ⟨q,?_⟩;unfold St.take;rw[Ay a,Ay c]
   exact .inl rfl
theorem pk{l:List Ob}{o:Ob}(h:o.kind≠3)(x:UInt64):iq (l++[o]) 3 x=iq l 3 x:=by
 rw[Je]
 cases iq l 3 x with
 | some b=>rfl
 | none=>exact Ay (λ q=>h q.1)
theorem Pa{b:Bs}(a:k=1∨k=2)(x:UInt64):iq (iy st d k b).1.1.objs 3 x=iq st.objs 3 x:=by
 rcases KY (st:=st) (d:=d) (b:=b) (by omega:k≠4) (by omega)with q|⟨_,q⟩
 rw[q]
 rw[q];exact pk (by show k≠3;omega) x
theorem OM(h:f.1=4∨f.1=5):(iB st d f).1.objs=st.objs:=by
 unfold iB;simp only
 split
 unfold St.take
 split
 rfl
 rw[AC (by omega)]
 rfl
theorem Wd.cc.step(h:v.cc)(a:Ac):(jN a v).cc:=by
 obtain⟨st,d,bl,tl,cl⟩:=v;unfold jN;simp only
 split
 refine Kc h (λ x=>?_);unfold jk
 split
 rfl
 exact Pa (.inl rfl) x
 split
 refine Kc h (λ x=>?_);unfold ja
 split
 rfl
 split
 rfl
 exact Pa (.inr rfl) x
 split
 ·obtain⟨c,s⟩:=Xa (jX a.data a.qs a.dt tl cl)
  rw[s];unfold jV;by_cases i:(je c).2≠0;rw[AC i];simp only[i,Ek];exact h
  ·rw[Ay i];by_cases j:st.above c=false
   rw[AC j];exact h
   ·rw[Ay j];obtain⟨n,o⟩:=Mj (by simpa using i);have m:=KO n;rw[<- o]at m
    obtain⟨b,r⟩:=Xa ((je c).1);rw[r]at m ⊢;by_cases l:(iy st d 3 b).2.2=0
    ·rw[AC l];obtain⟨g,e⟩:=Um (by decide) (by decide) l;rw[e];refine eP h (λ x y f=>?_) (λ x f=>?_) ⟨Tu.2 ⟨_,g⟩,λ p hp=>?_⟩
     rcases KY (st:=st) (d:=d) (k:=3) (b:=b) (by decide) (by decide)with q|⟨_,q⟩
     rw[q];exact f;rw[q];exact YD f
     ·rcases KY (st:=st) (d:=d) (k:=3) (b:=b) (by decide) (by decide)with q|⟨_,q⟩
      left
      unfold St.has at f ⊢;rw[q]at f;exact f
      ·unfold St.has at f ⊢;rw[q,Je]at f
       cases t:iq st.objs 3 x with
       | some z=>exact .inl rfl
       | none =>
        rw[t]at f;simp only at f
        split at f
        ·rename_i u
         exact .inr u.2.symm
        cases f
     unfold St.com at hp;rw[g,C3,m]at hp;simp only[St.above,Bn,Dj,Bool.not_eq_false]at j;exact j.1 p hp
    rw[Ay l];refine Kc h (λ x=>?_)
    rcases KY (st:=st) (d:=d) (k:=3) (b:=b) (by decide) (by decide)with q|⟨q,_⟩
    rw[q];exact absurd q l
 split
 refine Kc h (λ x=>?_);unfold kH
 split
 rfl
 split
 rfl
 rw[OM (.inl rfl)]
 split
 refine Kc h (λ x=>?_);unfold kq
 split
 rfl
 split
 rfl
 split
 rfl
 rw[OM (.inr rfl)]
 split
 refine Kc h (λ x=>?_);unfold jx
 split
 rfl
 split
 rfl
 rw[OM (.inl rfl)]
 exact h
theorem YO:oh.cc:=⟨λ x a=>by simp[oh,mH,St.has,iq]at a,λ i x a=>by simp[oh]at a⟩
section
variable {w w':World}{s b:Nat}{st:St}{d d':Dk}{U:Nat->Prop}
end
theorem Oz:∀args w,(Ck 111 args).run Am w=.ok (.enter 111 args) w:=enters_of func111 (by kernel_rfl) rfl
theorem NZ:∀args w,(Ck 26 args).run Am w=.ok (.enter 26 args) w:=enters_of func26 (by kernel_rfl) rfl
theorem Js(a0 a1 a2 a3 a4 a5 a6 a7 a8 n0 a n2 b c d e f g:Ar):lk #[a0,a1,a2,a3,a4,a5,a6,a7,a8] (#[n0,a,n2,b,c,d,e,f,g]:Array Ar).toList 0=#[n0,a,n2,b,c,d,e,f,g]:=by simp[lk]
theorem dA(hZ:∀i,Z i->i<w.heap.size)(h:jh Z w m st d)(ag:st.ok)(s:st.size<=1000000)(D:d.ok)(hw:d.writes<=1000000)(n:Bs)(hn:n.length<=140737488355328)(i:UInt64)(Q)(hQ:kH st d n i=Q):
  At Am 59 #[m,tx n,Ab Al (i.toNat:Int)] w λ e w'=>∃m' r,e=Aj (Af #[m',Ab Ak r])/\Hid (r=Q.2.2/\jh Z w' m' Q.1 Q.2.1/\Iz w w'):=by
 obtain⟨fa,j,fc,oa,on,oc,k,c,rc,l,f,tc,rfl,h1,N,h3,h4⟩:=h
 have ho:on<=1000000:=by rw[<- N.len];unfold St.size at s;omega
 have ah:c<=1000000:=by rw[<- h3.len];unfold St.size at s;omega
 have ai:f<=1000000:=by rw[<- h4.len];unfold St.size at s;omega
 have L:=I4 (h1.into DD) (N.into DD) (h3.into DD) (h4.into DD)
 have HZ:=Ih (Jh hZ)
 have RB:Hid (∀W',Iz w W'->jh (Zy Z w) W' (rm d (Aa fa j fc) (Aa oa on oc) (Aa k c rc) (Aa l f tc)) st d):=λ W' b=>⟨fa,j,fc,oa,on,oc,k,c,rc,l,f,tc,rfl,L.o.1.below b,L.o.2.1.below b,L.o.2.2.1.below b,L.o.2.2.2.below b⟩
 obtain⟨F,p⟩:∃F:ByteArray,F=⟨n.toArray⟩:=⟨_,rfl⟩
 have R:F.size=n.length:=by rw[p];show n.toArray.size=_;simp
 rw[show tx n=Ae F by rw[p]]
 obtain⟨W,hW⟩:=Xa ((w.alloc (iD d (Aa fa j fc) (Aa oa on oc) (Aa k c rc) (Aa l f tc))).alloc kN)
 have z:Hid (ku w W d (Aa fa j fc) (Aa oa on oc) (Aa k c rc) (Aa l f tc)):=by rw[<- hW];exact ku.new w d _ _ _ _
 have TH:=hid (gT.there (show gT W (w.heap.size+1) 34 #[Aa none 0 0,Ab Ak 0,Ad false,Ad false,Ab Ak 0,Ab Ak 0,Aa none 0 0,Aa none 0 0,Aa none 0 0]from z.o.res) (o:=0) (n:=9) (by simp));obtain⟨x0,x1,x2,x3,x4,x5,x6,x7,x8⟩:=z.o.box.cells;have y:=Hy F (by omega) W;rw[show gS F.data.toList=gS n by rw[p]]at y
 cases a:gS n with
 | false =>
  have ez:Q=(st,d,2):=by rw[<- hQ];unfold kH;rw[AC a]
  subst ez;rw[a]at y;clear h1 N h3 h4 hZ s D hw R p hQ a;go_enter func59,ntmps59;go_wp2_with fail;refine y.mono ?_;rintro e w' ⟨rfl,rfl⟩;go_wp2_with(refine Io rfl 34 (.tmp 6) (.tmp 11) rfl (w.heap.size+1) 0 #[Aa fa j fc,Ab Ak (d.writes:Int),Ad d.armed,Ad d.dead,Ab Ak (d.after:Int),Ab Ak (d.keep:Int),Aa oa on oc,Aa k c rc,Aa l f tc] rfl rfl TH.o (by kernel_rfl) (by simp[CA]) ?_;intro w4 t;have hT:Aw (λ i=>i=w.heap.size+1) w' w4:=(by rw[t];exact De _ _ _);have O:=(gT.lays (show gT w' (w.heap.size+1) 34 #[Aa none 0 0,Ab Ak 0,Ad false,Ad false,Ab Ak 0,Ab Ak 0,Aa none 0 0,Aa none 0 0,Aa none 0 0]from z.o.res) (#[Aa fa j fc,Ab Ak (d.writes:Int),Ad d.armed,Ad d.dead,Ab Ak (d.after:Int),Ab Ak (d.keep:Int),Aa oa on oc,Aa k c rc,Aa l f tc]:Array Ar).toList 0);rw[<- t,Js]at O;obtain⟨z0,z1,z2,z3,z4,z5,z6,z7,z8⟩:=iR.cells (show iR w4 (w.heap.size+1) _ _ _ _ _ _ _ _ _ from O);have HT:=hid hT;clear hT O t);refine As (v:=Af #[(rm d (Aa fa j fc) (Aa oa on oc) (Aa k c rc) (Aa l f tc)),Ab Ak 2]) ?_ rfl ⟨_,_,rfl,?_⟩;simp[AI,Tryz.f59];go_simp;exact⟨rfl,EE z.o.bel (RB.o _ z.o.bel) HT.o⟩
 | true =>
  rw[a]at y;have nl:=Ji a;obtain⟨g,I⟩:=Xa (st.has 3 i)
  have P:=λ(u:Ap) (b:Iz W u)=>Ij (d:=d) (vf:=Aa fa j fc) (oc:=oc) (vr:=Aa k c rc) (vt:=Aa l f tc) (w:=u) (N.rd.below (z.o.bel.trans (b.mono z.o.bel.size))) N.len ho 3 i g I
  have x:=P W (Ao _ _)
  cases g with
  | false =>
   have ez:Q=(st,d,5):=by rw[<- hQ];unfold kH;rw[Ay (by rw[a];decide),AC I]
   subst ez;clear h1 N h3 h4 hZ s D hw R p hQ a P I;go_enter func59,ntmps59;go_wp2_with fail;refine y.mono ?_;rintro e w' ⟨rfl,rfl⟩;go_wp2_with fail;refine x.mono ?_;rintro e C ⟨rfl,B2⟩;have A:=Ih (z.o.below B2);clear x0 x1 x2 x3 x4 x5 x6 x7 x8 x TH;obtain⟨x0,x1,x2,x3,x4,x5,x6,x7,x8⟩:=A.o.box.cells;have TH:=hid (gT.there (show gT C (w.heap.size+1) 34 #[Aa none 0 0,Ab Ak 0,Ad false,Ad false,Ab Ak 0,Ab Ak 0,Aa none 0 0,Aa none 0 0,Aa none 0 0]from A.o.res) (o:=0) (n:=9) (by simp));go_wp2_with(refine Io rfl 34 (.tmp 6) (.tmp 16) rfl (w.heap.size+1) 0 #[Aa fa j fc,Ab Ak (d.writes:Int),Ad d.armed,Ad d.dead,Ab Ak (d.after:Int),Ab Ak (d.keep:Int),Aa oa on oc,Aa k c rc,Aa l f tc] rfl rfl TH.o (by kernel_rfl) (by simp[CA]) ?_;intro w4 t;have hT:Aw (λ i=>i=w.heap.size+1) C w4:=(by rw[t];exact De _ _ _);have O:=(gT.lays (show gT C (w.heap.size+1) 34 #[Aa none 0 0,Ab Ak 0,Ad false,Ad false,Ab Ak 0,Ab Ak 0,Aa none 0 0,Aa none 0 0,Aa none 0 0]from A.o.res) (#[Aa fa j fc,Ab Ak (d.writes:Int),Ad d.armed,Ad d.dead,Ab Ak (d.after:Int),Ab Ak (d.keep:Int),Aa oa on oc,Aa k c rc,Aa l f tc]:Array Ar).toList 0);rw[<- t,Js]at O;obtain⟨z0,z1,z2,z3,z4,z5,z6,z7,z8⟩:=iR.cells (show iR w4 (w.heap.size+1) _ _ _ _ _ _ _ _ _ from O);have HT:=hid hT;clear hT O t);refine As (v:=Af #[(rm d (Aa fa j fc) (Aa oa on oc) (Aa k c rc) (Aa l f tc)),Ab Ak 5]) ?_ rfl ⟨_,_,rfl,?_⟩;simp[AI,Tryz.f59];go_simp;exact⟨rfl,EE A.o.bel (RB.o _ A.o.bel) HT.o⟩
  | true =>
   have af:i≠0:=by
    intro e;rw[e,LO ag]at I;cases I
   have ez:iB st d (4,ji i n)=Q:=by 
    rw[<- hQ];unfold kH;rw[Ay (by rw[a];decide),Ay (by rw[I];decide)]
   have G:st.fits (4,ji i n)=true:=by unfold St.fits;rw[AC (.inl rfl)];simp[IR,IJ,Gq,a,I,af]
   have ad:Hid (∀u:Ap,Iz W u->At Am 111 #[(rm d (Aa fa j fc) (Aa oa on oc) (Aa k c rc) (Aa l f tc)),Ab Ak 4,tx (ji i n)] u λ e w'=>∃v,e=Aj v/\Hid (∃m' r,v=Af #[m',Ab Ak r]/\r=Q.2.2/\jh (Zy Z w) w' m' Q.1 Q.2.1/\Iz u w')):=by
    intro u b;have b0:=z.o.bel.trans (b.mono z.o.bel.size);have h:=Lj (λ i q=>by have:=HZ.o i q;have:=z.o.size;have:=b.size;omega) (RB.o u b0) s D hw 4 (by omega) (by omega) (ji i n) (by rw[Gq];omega) G;rw[ez]at h;refine h.mono ?_;rintro e w' ⟨m',r,rfl,H⟩;exact⟨_,rfl,m',r,rfl,H.o.1,H.o.2.1,H.o.2.2⟩
   have ae:Hid (∀u:Ap,At Am 26 #[Ab Al (i.toNat:Int),Ab Ak 8] u λ e w'=>∃v,e=Aj v/\Hid (v=tx (b8 i)/\Iz u w')):=by
    intro u;refine(Ig (i:UInt64).toNat 8 (Gx _) (by omega) u).mono ?_;rintro e w' ⟨rfl,hb⟩;exact⟨_,rfl,rfl,hb⟩
   obtain⟨s8,E⟩:∃s8:ByteArray,s8=⟨(b8 i).toArray⟩:=⟨_,rfl⟩
   rw[show tx (b8 i)=Ae s8 by rw[E]]at ae
   have l8:s8.size=8:=by rw[E];show(b8 i).toArray.size=8;simp[b8,Bp]
   have a1:¬(9223372036854775807<s8.size+F.size):=by omega
   have eb:tx (ji i n)=Ae (s8++F):=by
    rw[E,p];show Ae _=Ae _
    congr 1 <;> (apply ByteArray.ext;simp[ji])
   rw[eb]at ad;clear h1 N h3 h4 hZ s D hw R hQ a nl eb ez G E l8 P I af p;go_enter func59,ntmps59;go_wp2_with fail;refine y.mono ?_;rintro e w' ⟨rfl,rfl⟩;go_wp2_with fail;refine x.mono ?_;rintro e C ⟨rfl,B2⟩;have A:=I2 (z.o.below B2) B2;clear x0 x1 x2 x3 x4 x5 x6 x7 x8 x TH B2;obtain⟨x0,x1,x2,x3,x4,x5,x6,x7,x8⟩:=A.o.1.box.cells;go_upto_region 5 with fail;have W0:Hid (Iz C C.drew):=(Ao _ _).drew
   go_region_law
    (first
     | (refine OK rfl (.tmp 17) (.const (Ab Ak 4)) (.tmp 21) 111 #[34,3,9] rfl Oz (rm d (Aa fa j fc) (Aa oa on oc) (Aa k c rc) (Aa l f tc)) (Ab Ak 4) (Ae (s8++F)) rfl rfl rfl _ (ad.o w5 B5.o) ?_;intro v6 w6 h6;obtain⟨m6,r6,rfl,e6,R6,B6⟩:=h6.o;obtain⟨J,M,K,S,U,T,V,Y,X,aa,ac,ab,rfl,q1,q2,q3,q4⟩:=R6;have P6:Hid (ku w w6 d (Aa fa j fc) (Aa oa on oc) (Aa k c rc) (Aa l f tc)/\r6=Q.2.2/\jh (Zy Z w) w6 (rm Q.2.1 (Aa J M K) (Aa S U T) (Aa V Y X) (Aa aa ac ab)) Q.1 Q.2.1):=⟨P5.o.below B6,e6,J,M,K,S,U,T,V,Y,X,aa,ac,ab,rfl,q1,q2,q3,q4⟩;obtain⟨z0,z1,z2,z3,z4,z5,z6,z7,z8⟩:=P6.o.1.res.cells;have B:=P6.o.1.res.thaw;have g0:=B 0;have g1:=B 1;have g2:=B 2;have g3:=B 3;have g4:=B 4;have g5:=B 5;have g6:=B 6;have g7:=B 7;have g8:=B 8;have l2:=P6.o.1.res.lt;clear B;clear e6 B6 q1 q2 q3 q4 h6)
     | (refine JS rfl (.tmp 18) (.const (Ab Ak 8)) 26 #[61,3] rfl NZ (Ab Al (i.toNat:Int)) (Ab Ak 8) rfl rfl _ (ae.o _) ?_;intro v5 w5 h5;obtain⟨rfl,b5⟩:=h5.o;have B5:=Ih (A.o.2.trans ((W0.o.trans (b5.mono W0.o.size)).mono A.o.2.size));have P5:=Ih (A.o.1.below (W0.o.trans (b5.mono W0.o.size)));obtain⟨y0,y1,y2,y3,y4,y5,y6,y7,y8⟩:=P5.o.box.cells;clear h5 b5))
   all_goals
    go_wp2;refine As (v:=Af #[(rm Q.2.1 (Aa J M K) (Aa S U T) (Aa V Y X) (Aa aa ac ab)),Ab Ak r6]) ?_ rfl ⟨_,_,rfl,?_⟩;simp[AI,Tryz.f59];go_simp;exact⟨P6.o.2.1,EE P6.o.1.bel P6.o.2.2 (Bu _ _ _ _ _ _ _ _ _ _ _)⟩
theorem YP(hZ:∀i,Z i->i<w.heap.size)(h:jh Z w m st d)(_:st.ok)(x:st.size<=1000000)(F:d.ok)(hw:d.writes<=1000000)(n:Bs)(hn:n.length<=140737488355328)(Q)(hQ:jx st d n=Q):
  At Am 63 #[m,tx n] w λ e w'=>∃m' r,e=Aj (Af #[m',Ab Ak r])/\Hid (r=Q.2.2/\jh Z w' m' Q.1 Q.2.1/\Iz w w'):=by
 obtain⟨fa,p,fc,oa,on,oc,s,j,rc,t,l,tc,rfl,h1,h2,h3,h4⟩:=h
 have ho:on<=1000000:=by rw[<- h2.len];unfold St.size at x;omega
 have af:j<=1000000:=by rw[<- h3.len];unfold St.size at x;omega
 have ai:l<=1000000:=by rw[<- h4.len];unfold St.size at x;omega
 have L:=I4 (h1.into DD) (h2.into DD) (h3.into DD) (h4.into DD)
 have HZ:=Ih (Jh hZ)
 have RB:Hid (∀W',Iz w W'->jh (Zy Z w) W' (rm d (Aa fa p fc) (Aa oa on oc) (Aa s j rc) (Aa t l tc)) st d):=λ W' b=>⟨fa,p,fc,oa,on,oc,s,j,rc,t,l,tc,rfl,L.o.1.below b,L.o.2.1.below b,L.o.2.2.1.below b,L.o.2.2.2.below b⟩
 obtain⟨E,g⟩:∃E:ByteArray,E=⟨n.toArray⟩:=⟨_,rfl⟩
 have P:E.size=n.length:=by rw[g];show n.toArray.size=_;simp
 rw[show tx n=Ae E by rw[g]]
 obtain⟨W,hW⟩:=Xa ((w.alloc (iD d (Aa fa p fc) (Aa oa on oc) (Aa s j rc) (Aa t l tc))).alloc kN)
 have z:Hid (ku w W d (Aa fa p fc) (Aa oa on oc) (Aa s j rc) (Aa t l tc)):=by rw[<- hW];exact ku.new w d _ _ _ _
 have TH:=hid (gT.there (show gT W (w.heap.size+1) 34 #[Aa none 0 0,Ab Ak 0,Ad false,Ad false,Ab Ak 0,Ab Ak 0,Aa none 0 0,Aa none 0 0,Aa none 0 0]from z.o.res) (o:=0) (n:=9) (by simp));obtain⟨x0,x1,x2,x3,x4,x5,x6,x7,x8⟩:=z.o.box.cells;have A:=Hy E (by omega) W;rw[show gS E.data.toList=gS n by rw[g]]at A
 cases a:gS n with
 | false =>
  have ez:Q=(st,d,2):=by rw[<- hQ];unfold jx;rw[AC a]
  subst ez;rw[a]at A;clear h1 h2 h3 h4 hZ x F hw P g hQ a;go_enter func63,ntmps63;go_wp2_with fail;refine A.mono ?_;rintro e w' ⟨rfl,rfl⟩;go_wp2_with(refine Io rfl 34 (.tmp 4) (.tmp 9) rfl (w.heap.size+1) 0 #[Aa fa p fc,Ab Ak (d.writes:Int),Ad d.armed,Ad d.dead,Ab Ak (d.after:Int),Ab Ak (d.keep:Int),Aa oa on oc,Aa s j rc,Aa t l tc] rfl rfl TH.o (by kernel_rfl) (by simp[CA]) ?_;intro w4 y;have hT:Aw (λ i=>i=w.heap.size+1) w' w4:=(by rw[y];exact De _ _ _);have O:=(gT.lays (show gT w' (w.heap.size+1) 34 #[Aa none 0 0,Ab Ak 0,Ad false,Ad false,Ab Ak 0,Ab Ak 0,Aa none 0 0,Aa none 0 0,Aa none 0 0]from z.o.res) (#[Aa fa p fc,Ab Ak (d.writes:Int),Ad d.armed,Ad d.dead,Ab Ak (d.after:Int),Ab Ak (d.keep:Int),Aa oa on oc,Aa s j rc,Aa t l tc]:Array Ar).toList 0);rw[<- y,Js]at O;obtain⟨z0,z1,z2,z3,z4,z5,z6,z7,z8⟩:=iR.cells (show iR w4 (w.heap.size+1) _ _ _ _ _ _ _ _ _ from O);have HT:=hid hT;clear hT O y);refine As (v:=Af #[(rm d (Aa fa p fc) (Aa oa on oc) (Aa s j rc) (Aa t l tc)),Ab Ak 2]) ?_ rfl ⟨_,_,rfl,?_⟩
  ·simp[AI,Tryz.f63];go_simp
  ·exact⟨rfl,EE z.o.bel (RB.o _ z.o.bel) HT.o⟩
 | true =>
  rw[a]at A;have nl:=Ji a
  obtain⟨f,hf⟩:=Xa ((iu st.refs n).isSome)
  have B:=λ(u:Ap) (b:Iz w u)=>LF (c:=rc) st.refs n u (L.o.2.2.1.rd.below b) L.o.2.2.1.len af
  rw[hf,show tx n=Ae E by rw[g]]at B
  cases f with
  | false =>
   have ez:Q=(st,d,5):=by rw[<- hQ];unfold jx;rw[Ay (by rw[a];decide),AC hf]
   subst ez;clear h1 h2 h3 h4 hZ x F hw P g hQ a hf;go_enter func63,ntmps63;go_wp2_with fail;refine A.mono ?_;rintro e w' ⟨rfl,rfl⟩;have C:=B w' z.o.bel;clear B;go_wp2_with fail;refine C.mono ?_;rintro e J ⟨r3,rfl,FR,rfl⟩
   obtain rfl:r3 = -1:=by
    rcases FR.o with⟨_,q⟩ | ⟨q,_⟩
    ·exact q
    ·cases q
   clear FR;go_wp2_with(refine Io rfl 34 (.tmp 4) (.tmp 15) rfl (w.heap.size+1) 0 #[Aa fa p fc,Ab Ak (d.writes:Int),Ad d.armed,Ad d.dead,Ab Ak (d.after:Int),Ab Ak (d.keep:Int),Aa oa on oc,Aa s j rc,Aa t l tc] rfl rfl TH.o (by kernel_rfl) (by simp[CA]) ?_;intro w4 y;have hT:Aw (λ i=>i=w.heap.size+1) J w4:=(by rw[y];exact De _ _ _);have O:=(gT.lays (show gT J (w.heap.size+1) 34 #[Aa none 0 0,Ab Ak 0,Ad false,Ad false,Ab Ak 0,Ab Ak 0,Aa none 0 0,Aa none 0 0,Aa none 0 0]from z.o.res) (#[Aa fa p fc,Ab Ak (d.writes:Int),Ad d.armed,Ad d.dead,Ab Ak (d.after:Int),Ab Ak (d.keep:Int),Aa oa on oc,Aa s j rc,Aa t l tc]:Array Ar).toList 0);rw[<- y,Js]at O;obtain⟨z0,z1,z2,z3,z4,z5,z6,z7,z8⟩:=iR.cells (show iR w4 (w.heap.size+1) _ _ _ _ _ _ _ _ _ from O);have HT:=hid hT;clear hT O y);refine As (v:=Af #[(rm d (Aa fa p fc) (Aa oa on oc) (Aa s j rc) (Aa t l tc)),Ab Ak 5]) ?_ rfl ⟨_,_,rfl,?_⟩
   ·simp[AI,Tryz.f63];go_simp
   ·exact⟨rfl,EE z.o.bel (RB.o _ z.o.bel) HT.o⟩
  | true =>
   have ez:iB st d (4,ji 0 n)=Q:=by 
    rw[<- hQ];unfold jx;rw[Ay (by rw[a];decide),Ay (by rw[hf];decide)]
   have I:st.fits (4,ji 0 n)=true:=by unfold St.fits;rw[AC (.inl rfl)];simp[IR,IJ,Gq,a,hf]
   have ad:Hid (∀u:Ap,Iz W u->At Am 111 #[(rm d (Aa fa p fc) (Aa oa on oc) (Aa s j rc) (Aa t l tc)),Ab Ak 4,tx (ji 0 n)] u λ e w'=>∃v,e=Aj v/\Hid (∃m' r,v=Af #[m',Ab Ak r]/\r=Q.2.2/\jh (Zy Z w) w' m' Q.1 Q.2.1/\Iz u w')):=by
    intro u b;have b0:=z.o.bel.trans (b.mono z.o.bel.size);have h:=Lj (λ i q=>by have:=HZ.o i q;have:=z.o.size;have:=b.size;omega) (RB.o u b0) x F hw 4 (by omega) (by omega) (ji 0 n) (by rw[Gq];omega) I;rw[ez]at h;refine h.mono ?_;rintro e w' ⟨m',r,rfl,H⟩;exact⟨_,rfl,m',r,rfl,H.o.1,H.o.2.1,H.o.2.2⟩
   have ae:Hid (∀u:Ap,At Am 26 #[Ab Al 0,Ab Ak 8] u λ e w'=>∃v,e=Aj v/\Hid (v=tx (b8 0)/\Iz u w')):=by
    intro u;refine(Ig (0:UInt64).toNat 8 (Gx _) (by omega) u).mono ?_;rintro e w' ⟨rfl,hb⟩;exact⟨_,rfl,rfl,hb⟩
   obtain⟨Y,G⟩:∃Y:ByteArray,Y=⟨(b8 0).toArray⟩:=⟨_,rfl⟩
   rw[show tx (b8 0)=Ae Y by rw[G]]at ae
   have l8:Y.size=8:=by rw[G];show(b8 0).toArray.size=8;simp[b8,Bp]
   have a1:¬(9223372036854775807<Y.size+E.size):=by omega
   have eb:tx (ji 0 n)=Ae (Y++E):=by
    rw[G,g];show Ae _=Ae _
    congr 1 <;> (apply ByteArray.ext;simp[ji])
   rw[eb]at ad;clear h1 h2 h3 h4 hZ x F hw P hQ a nl eb ez I G l8 hf g;go_enter func63,ntmps63;go_wp2_with fail;refine A.mono ?_;rintro e w' ⟨rfl,rfl⟩
   have P2:=I2 z.o (Ao _ _:Iz w' w')
   clear TH;have C:=B w' P2.o.1.bel;clear B;go_wp2_with fail;refine C.mono ?_;rintro e J ⟨r3,rfl,FR,rfl⟩
   have ah:¬r3<0:=by
    rcases FR.o with⟨q,_⟩ | ⟨_,k,q⟩
    ·cases q
    ·omega
   clear FR
   go_upto_region 5 with fail
   have W0:Hid (Iz J J.drew):=(Ao _ _).drew
   go_region_law
    (first
     | (refine OK rfl (.tmp 16) (.const (Ab Ak 4)) (.tmp 19) 111 #[34,3,9] rfl Oz (rm d (Aa fa p fc) (Aa oa on oc) (Aa s j rc) (Aa t l tc)) (Ab Ak 4) (Ae (Y++E)) rfl rfl rfl _ (ad.o w5 B5.o) ?_;intro v6 w6 h6;obtain⟨m6,r6,rfl,e6,R6,B6⟩:=h6.o;obtain⟨K,N,M,R,T,S,U,X,V,aa,ac,ab,rfl,q1,q2,q3,q4⟩:=R6;have P6:Hid (ku w w6 d (Aa fa p fc) (Aa oa on oc) (Aa s j rc) (Aa t l tc)/\r6=Q.2.2/\jh (Zy Z w) w6 (rm Q.2.1 (Aa K N M) (Aa R T S) (Aa U X V) (Aa aa ac ab)) Q.1 Q.2.1):=⟨P5.o.below B6,e6,K,N,M,R,T,S,U,X,V,aa,ac,ab,rfl,q1,q2,q3,q4⟩;obtain⟨z0,z1,z2,z3,z4,z5,z6,z7,z8⟩:=P6.o.1.res.cells;have D:=P6.o.1.res.thaw;have g0:=D 0;have g1:=D 1;have g2:=D 2;have g3:=D 3;have g4:=D 4;have g5:=D 5;have g6:=D 6;have g7:=D 7;have g8:=D 8;have l2:=P6.o.1.res.lt;clear D;clear e6 B6 q1 q2 q3 q4 h6)
     | (refine JS rfl (.const (Ab Al 0)) (.const (Ab Ak 8)) 26 #[61,3] rfl NZ (Ab Al 0) (Ab Ak 8) rfl rfl _ (ae.o _) ?_;intro v5 w5 h5;obtain⟨rfl,b5⟩:=h5.o;have B5:=Ih (P2.o.2.trans ((W0.o.trans (b5.mono W0.o.size)).mono P2.o.2.size));have P5:=Ih (P2.o.1.below (W0.o.trans (b5.mono W0.o.size)));obtain⟨y0,y1,y2,y3,y4,y5,y6,y7,y8⟩:=P5.o.box.cells;clear h5 b5))
   all_goals
    go_wp2;refine As (v:=Af #[(rm Q.2.1 (Aa K N M) (Aa R T S) (Aa U X V) (Aa aa ac ab)),Ab Ak r6]) ?_ rfl ⟨_,_,rfl,?_⟩
    ·simp[AI,Tryz.f63];go_simp
    ·exact⟨P6.o.2.1,EE P6.o.1.bel P6.o.2.2 (Bu _ _ _ _ _ _ _ _ _ _ _)⟩
theorem Ze(hZ:∀i,Z i->i<w.heap.size)(h:jh Z w m st d)(aq:st.ok)(B:st.size<=1000000)(J:d.ok)(hw:d.writes<=1000000)(n:Bs)(hn:n.length<=140737488355328)(i:UInt64)(Q)(X:kq st d n i=Q):
  At Am 61 #[m,tx n,Ab Al (i.toNat:Int)] w λ e w'=>∃m' r,e=Aj (Af #[m',Ab Ak r])/\Hid (r=Q.2.2/\jh Z w' m' Q.1 Q.2.1/\Iz w w'):=by
 obtain⟨fa,s,fc,oa,on,oc,t,l,rc,x,p,tc,rfl,h1,V,h3,h4⟩:=h
 have ho:on<=1000000:=by rw[<- V.len];unfold St.size at B;omega
 have av:l<=1000000:=by rw[<- h3.len];unfold St.size at B;omega
 have ar:p<=1000000:=by rw[<- h4.len];unfold St.size at B;omega
 have L:=I4 (h1.into DD) (V.into DD) (h3.into DD) (h4.into DD)
 have HZ:=Ih (Jh hZ)
 have RB:Hid (∀W',Iz w W'->jh (Zy Z w) W' (rm d (Aa fa s fc) (Aa oa on oc) (Aa t l rc) (Aa x p tc)) st d):=λ W' b=>⟨fa,s,fc,oa,on,oc,t,l,rc,x,p,tc,rfl,L.o.1.below b,L.o.2.1.below b,L.o.2.2.1.below b,L.o.2.2.2.below b⟩
 obtain⟨N,z⟩:∃N:ByteArray,N=⟨n.toArray⟩:=⟨_,rfl⟩
 have P:N.size=n.length:=by rw[z];show n.toArray.size=_;simp
 rw[show tx n=Ae N by rw[z]]
 obtain⟨W,hW⟩:=Xa ((w.alloc (iD d (Aa fa s fc) (Aa oa on oc) (Aa t l rc) (Aa x p tc))).alloc kN)
 have D:Hid (ku w W d (Aa fa s fc) (Aa oa on oc) (Aa t l rc) (Aa x p tc)):=by rw[<- hW];exact ku.new w d _ _ _ _
 have T:=hid (gT.there (show gT W (w.heap.size+1) 34 #[Aa none 0 0,Ab Ak 0,Ad false,Ad false,Ab Ak 0,Ab Ak 0,Aa none 0 0,Aa none 0 0,Aa none 0 0]from D.o.res) (o:=0) (n:=9) (by simp));obtain⟨x0,x1,x2,x3,x4,x5,x6,x7,x8⟩:=D.o.box.cells;have C:=Hy N (by omega) W;rw[show gS N.data.toList=gS n by rw[z]]at C
 cases a:gS n with
 | false =>
  have U:Q=(st,d,2):=by rw[<- X];unfold kq;rw[AC a]
  subst U;rw[a]at C;clear h1 V h3 h4 hZ B J hw P z X a;go_enter func61,ntmps61;go_wp2_with fail;refine C.mono ?_;rintro e w' ⟨rfl,rfl⟩;go_wp2_with(refine Io rfl 34 (.tmp 6) (.tmp 11) rfl (w.heap.size+1) 0 #[Aa fa s fc,Ab Ak (d.writes:Int),Ad d.armed,Ad d.dead,Ab Ak (d.after:Int),Ab Ak (d.keep:Int),Aa oa on oc,Aa t l rc,Aa x p tc] rfl rfl T.o (by kernel_rfl) (by simp[CA]) ?_;intro w4 j;have Y:Aw (λ i=>i=w.heap.size+1) w' w4:=(by rw[j];exact De _ _ _);have F:=(gT.lays (show gT w' (w.heap.size+1) 34 #[Aa none 0 0,Ab Ak 0,Ad false,Ad false,Ab Ak 0,Ab Ak 0,Aa none 0 0,Aa none 0 0,Aa none 0 0]from D.o.res) (#[Aa fa s fc,Ab Ak (d.writes:Int),Ad d.armed,Ad d.dead,Ab Ak (d.after:Int),Ab Ak (d.keep:Int),Aa oa on oc,Aa t l rc,Aa x p tc]:Array Ar).toList 0);rw[<- j,Js]at F;obtain⟨z0,z1,z2,z3,z4,z5,z6,z7,z8⟩:=iR.cells (show iR w4 (w.heap.size+1) _ _ _ _ _ _ _ _ _ from F);have HT:=hid Y;clear Y F j);refine As (v:=Af #[(rm d (Aa fa s fc) (Aa oa on oc) (Aa t l rc) (Aa x p tc)),Ab Ak 2]) ?_ rfl ⟨_,_,rfl,?_⟩;simp[AI,Tryz.f61];go_simp;exact⟨rfl,EE D.o.bel (RB.o _ D.o.bel) HT.o⟩
 | true =>
  rw[a]at C;have nl:=Ji a;obtain⟨g,M⟩:=Xa (st.has 3 i)
  have O:=λ(u:Ap) (b:Iz W u)=>Ij (d:=d) (vf:=Aa fa s fc) (oc:=oc) (vr:=Aa t l rc) (vt:=Aa x p tc) (w:=u) (V.rd.below (D.o.bel.trans (b.mono D.o.bel.size))) V.len ho 3 i g M
  have y:=O W (Ao _ _)
  cases g with
  | false =>
   have U:Q=(st,d,5):=by rw[<- X];unfold kq;rw[Ay (by rw[a];decide),AC M]
   subst U;clear h1 V h3 h4 hZ B J hw P z X a O M;go_enter func61,ntmps61;go_wp2_with fail;refine C.mono ?_;rintro e w' ⟨rfl,rfl⟩;go_wp2_with fail;refine y.mono ?_;rintro e E ⟨rfl,S⟩;have A:=Ih (D.o.below S);clear x0 x1 x2 x3 x4 x5 x6 x7 x8 y T;obtain⟨x0,x1,x2,x3,x4,x5,x6,x7,x8⟩:=A.o.box.cells;have T:=hid (gT.there (show gT E (w.heap.size+1) 34 #[Aa none 0 0,Ab Ak 0,Ad false,Ad false,Ab Ak 0,Ab Ak 0,Aa none 0 0,Aa none 0 0,Aa none 0 0]from A.o.res) (o:=0) (n:=9) (by simp));go_wp2_with(refine Io rfl 34 (.tmp 6) (.tmp 16) rfl (w.heap.size+1) 0 #[Aa fa s fc,Ab Ak (d.writes:Int),Ad d.armed,Ad d.dead,Ab Ak (d.after:Int),Ab Ak (d.keep:Int),Aa oa on oc,Aa t l rc,Aa x p tc] rfl rfl T.o (by kernel_rfl) (by simp[CA]) ?_;intro w4 j;have Y:Aw (λ i=>i=w.heap.size+1) E w4:=(by rw[j];exact De _ _ _);have F:=(gT.lays (show gT E (w.heap.size+1) 34 #[Aa none 0 0,Ab Ak 0,Ad false,Ad false,Ab Ak 0,Ab Ak 0,Aa none 0 0,Aa none 0 0,Aa none 0 0]from A.o.res) (#[Aa fa s fc,Ab Ak (d.writes:Int),Ad d.armed,Ad d.dead,Ab Ak (d.after:Int),Ab Ak (d.keep:Int),Aa oa on oc,Aa t l rc,Aa x p tc]:Array Ar).toList 0);rw[<- j,Js]at F;obtain⟨z0,z1,z2,z3,z4,z5,z6,z7,z8⟩:=iR.cells (show iR w4 (w.heap.size+1) _ _ _ _ _ _ _ _ _ from F);have HT:=hid Y;clear Y F j);refine As (v:=Af #[(rm d (Aa fa s fc) (Aa oa on oc) (Aa t l rc) (Aa x p tc)),Ab Ak 5]) ?_ rfl ⟨_,_,rfl,?_⟩;simp[AI,Tryz.f61];go_simp;exact⟨rfl,EE A.o.bel (RB.o _ A.o.bel) HT.o⟩
  | true =>
   have ap:i≠0:=by
    intro e;rw[e,LO aq]at M;cases M
   obtain⟨f,hf⟩:=Xa ((iu st.tags n).isSome)
   have G:=λ(u:Ap) (b:Iz w u)=>LF (c:=tc) st.tags n u (L.o.2.2.2.rd.below b) L.o.2.2.2.len ar
   rw[hf,show tx n=Ae N by rw[z]]at G
   cases f with
   | true =>
    have U:Q=(st,d,6):=by rw[<- X];unfold kq;rw[Ay (by rw[a];decide),Ay (by rw[M];decide),AC hf]
    subst U;clear h1 V h3 h4 hZ B J hw P z X a hf O M ap;go_enter func61,ntmps61;go_wp2_with fail;refine C.mono ?_;rintro e w' ⟨rfl,rfl⟩;go_wp2_with fail;refine y.mono ?_;rintro e E ⟨rfl,S⟩;have A:=Ih (D.o.below S);clear x0 x1 x2 x3 x4 x5 x6 x7 x8 y T S;obtain⟨x0,x1,x2,x3,x4,x5,x6,x7,x8⟩:=A.o.box.cells;have T:=hid (gT.there (show gT E (w.heap.size+1) 34 #[Aa none 0 0,Ab Ak 0,Ad false,Ad false,Ab Ak 0,Ab Ak 0,Aa none 0 0,Aa none 0 0,Aa none 0 0]from A.o.res) (o:=0) (n:=9) (by simp));have I:=G E A.o.bel;clear G;go_wp2_with fail;refine I.mono ?_;rintro e w3 ⟨r3,rfl,FR,rfl⟩
    have au:(0:Int)<=r3:=by
     rcases FR.o with⟨q,_⟩ | ⟨_,k,q⟩
     cases q;omega
    clear FR;go_wp2_with(refine Io rfl 34 (.tmp 6) (.tmp 22) rfl (w.heap.size+1) 0 #[Aa fa s fc,Ab Ak (d.writes:Int),Ad d.armed,Ad d.dead,Ab Ak (d.after:Int),Ab Ak (d.keep:Int),Aa oa on oc,Aa t l rc,Aa x p tc] rfl rfl T.o (by kernel_rfl) (by simp[CA]) ?_;intro w4 j;have Y:Aw (λ i=>i=w.heap.size+1) w3 w4:=(by rw[j];exact De _ _ _);have F:=(gT.lays (show gT w3 (w.heap.size+1) 34 #[Aa none 0 0,Ab Ak 0,Ad false,Ad false,Ab Ak 0,Ab Ak 0,Aa none 0 0,Aa none 0 0,Aa none 0 0]from A.o.res) (#[Aa fa s fc,Ab Ak (d.writes:Int),Ad d.armed,Ad d.dead,Ab Ak (d.after:Int),Ab Ak (d.keep:Int),Aa oa on oc,Aa t l rc,Aa x p tc]:Array Ar).toList 0);rw[<- j,Js]at F;obtain⟨z0,z1,z2,z3,z4,z5,z6,z7,z8⟩:=iR.cells (show iR w4 (w.heap.size+1) _ _ _ _ _ _ _ _ _ from F);have HT:=hid Y;clear Y F j);refine As (v:=Af #[(rm d (Aa fa s fc) (Aa oa on oc) (Aa t l rc) (Aa x p tc)),Ab Ak 6]) ?_ rfl ⟨_,_,rfl,?_⟩;simp[AI,Tryz.f61];go_simp;exact⟨rfl,EE A.o.bel (RB.o _ A.o.bel) HT.o⟩
   | false =>
    have U:iB st d (5,ji i n)=Q:=by 
     rw[<- X];unfold kq;rw[Ay (by rw[a];decide),Ay (by rw[M];decide),Ay (by rw[hf];decide)]
    have aa:st.fits (5,ji i n)=true:=by unfold St.fits;rw[AC (.inr rfl)];simp[IR,IJ,Gq,a,M,hf]
    have an:Hid (∀u:Ap,Iz W u->At Am 111 #[(rm d (Aa fa s fc) (Aa oa on oc) (Aa t l rc) (Aa x p tc)),Ab Ak 5,tx (ji i n)] u λ e w'=>∃v,e=Aj v/\Hid (∃m' r,v=Af #[m',Ab Ak r]/\r=Q.2.2/\jh (Zy Z w) w' m' Q.1 Q.2.1/\Iz u w')):=by
     intro u b;have b0:=D.o.bel.trans (b.mono D.o.bel.size);have h:=Lj (λ i q=>by have:=HZ.o i q;have:=D.o.size;have:=b.size;omega) (RB.o u b0) B J hw 5 (by omega) (by omega) (ji i n) (by rw[Gq];omega) aa;rw[U]at h;refine h.mono ?_;rintro e w' ⟨m',r,rfl,H⟩;exact⟨_,rfl,m',r,rfl,H.o.1,H.o.2.1,H.o.2.2⟩
    have ao:Hid (∀u:Ap,At Am 26 #[Ab Al (i.toNat:Int),Ab Ak 8] u λ e w'=>∃v,e=Aj v/\Hid (v=tx (b8 i)/\Iz u w')):=by
     intro u;refine(Ig (i:UInt64).toNat 8 (Gx _) (by omega) u).mono ?_;rintro e w' ⟨rfl,hb⟩;exact⟨_,rfl,rfl,hb⟩
    obtain⟨s8,R⟩:∃s8:ByteArray,s8=⟨(b8 i).toArray⟩:=⟨_,rfl⟩
    rw[show tx (b8 i)=Ae s8 by rw[R]]at ao
    have l8:s8.size=8:=by rw[R];show(b8 i).toArray.size=8;simp[b8,Bp]
    have a1:¬(9223372036854775807<s8.size+N.size):=by omega
    have eb:tx (ji i n)=Ae (s8++N):=by
     rw[R,z];show Ae _=Ae _
     congr 1 <;> (apply ByteArray.ext;simp[ji])
    rw[eb]at an;clear h1 V h3 h4 hZ B J hw P X a nl eb U aa R l8 O M ap hf z;go_enter func61,ntmps61;go_wp2_with fail;refine C.mono ?_;rintro e w' ⟨rfl,rfl⟩;go_wp2_with fail;refine y.mono ?_;rintro e E ⟨rfl,S⟩;have A:=I2 (D.o.below S) S;clear x0 x1 x2 x3 x4 x5 x6 x7 x8 y T S;obtain⟨x0,x1,x2,x3,x4,x5,x6,x7,x8⟩:=A.o.1.box.cells;have I:=G E A.o.1.bel;clear G;go_wp2_with fail;refine I.mono ?_;rintro e w3 ⟨r3,rfl,FR,rfl⟩
    obtain rfl:r3 = -1:=by
     rcases FR.o with⟨_,q⟩ | ⟨q,_⟩
     exact q;cases q
    clear FR;go_upto_region 7 with fail;have W0:Hid (Iz w3 w3.drew):=(Ao _ _).drew
    go_region_law
     (first
      | (refine OK rfl (.tmp 23) (.const (Ab Ak 5)) (.tmp 27) 111 #[34,3,9] rfl Oz (rm d (Aa fa s fc) (Aa oa on oc) (Aa t l rc) (Aa x p tc)) (Ab Ak 5) (Ae (s8++N)) rfl rfl rfl _ (an.o w5 B5.o) ?_;intro v6 w6 h6;obtain⟨m6,r6,rfl,e6,R6,B6⟩:=h6.o;obtain⟨ab,ad,ac,ae,ag,af,ah,aj,ai,ak,am,al,rfl,q1,q2,q3,q4⟩:=R6;have P6:Hid (ku w w6 d (Aa fa s fc) (Aa oa on oc) (Aa t l rc) (Aa x p tc)/\r6=Q.2.2/\jh (Zy Z w) w6 (rm Q.2.1 (Aa ab ad ac) (Aa ae ag af) (Aa ah aj ai) (Aa ak am al)) Q.1 Q.2.1):=⟨P5.o.below B6,e6,ab,ad,ac,ae,ag,af,ah,aj,ai,ak,am,al,rfl,q1,q2,q3,q4⟩;obtain⟨z0,z1,z2,z3,z4,z5,z6,z7,z8⟩:=P6.o.1.res.cells;have K:=P6.o.1.res.thaw;have g0:=K 0;have g1:=K 1;have g2:=K 2;have g3:=K 3;have g4:=K 4;have g5:=K 5;have g6:=K 6;have g7:=K 7;have g8:=K 8;have l2:=P6.o.1.res.lt;clear K;clear e6 B6 q1 q2 q3 q4 h6)
      | (refine JS rfl (.tmp 24) (.const (Ab Ak 8)) 26 #[61,3] rfl NZ (Ab Al (i.toNat:Int)) (Ab Ak 8) rfl rfl _ (ao.o _) ?_;intro v5 w5 h5;obtain⟨rfl,b5⟩:=h5.o;have B5:=Ih (A.o.2.trans ((W0.o.trans (b5.mono W0.o.size)).mono A.o.2.size));have P5:=Ih (A.o.1.below (W0.o.trans (b5.mono W0.o.size)));obtain⟨y0,y1,y2,y3,y4,y5,y6,y7,y8⟩:=P5.o.box.cells;clear h5 b5))
    all_goals
     go_wp2;refine As (v:=Af #[(rm Q.2.1 (Aa ab ad ac) (Aa ae ag af) (Aa ah aj ai) (Aa ak am al)),Ab Ak r6]) ?_ rfl ⟨_,_,rfl,?_⟩;simp[AI,Tryz.f61];go_simp;exact⟨P6.o.2.1,EE P6.o.1.bel P6.o.2.2 (Bu _ _ _ _ _ _ _ _ _ _ _)⟩
theorem WA{on:Nat}{U:Nat->Prop}
  (hI:WI B E w s b (Aa fa L fc) (Aa oa on oc) (Aa N O rc) (Aa P R tc) (Aa A C xc) (Aa D G F) (Aa z y zc) U st d bl tl cl) (h0:An B w0 w) (ab:w0.heap.size=B) (hB:B<=w.heap.size) (hq:gQ encI w0 qa qs) (af:qs.length=qn) (ag:qn<=4000000000000000000) (ao:cl.length<=1000000) (ah:st.ok) (ae:d.ok) (hw:d.writes<=1000000) (ai:st.size<=1000000) (dv V:Ar) (nm:ByteArray) (ap:nm.size<=140737488355328) (dt kp:Int) (x:UInt64) (hx:iI cl (jy qs 0)=x) (Q) (hQ:kH st d nm.data.toList x=Q) :
  At Am 19 #[Ag (iS s b d (Aa fa L fc) (Aa oa on oc) (Aa N O rc) (Aa P R tc) (Aa A C xc) (Aa D G F) (Aa z y zc)),mQ 3 dv V (Aa qa qn qc) nm dt kp] w λ e w'=>∃vf vo vr vt,e=Aj (Af #[Ag (iS s b Q.2.1 vf vo vr vt (Aa A C xc) (Aa D G F) (Aa z y zc)),Ad true])/\Hid (∃U',WI B E w' s b vf vo vr vt (Aa A C xc) (Aa D G F) (Aa z y zc) U' Q.1 Q.2.1 bl tl cl/\An B w0 w'/\∀i,E i->w'.heap[i]? = w.heap[i]?):=by
 obtain⟨W,hW⟩:=Xa (((w.alloc (Ai (iS s b d (Aa fa L fc) (Aa oa on oc) (Aa N O rc) (Aa P R tc) (Aa A C xc) (Aa D G F) (Aa z y zc)) 37)).alloc (Ai (iO 3 dv V (Aa qa qn qc) nm dt kp) 69)).alloc (Ai kO 37))
 have bW:Iz w W:=by rw[<- hW];exact nC _ _ _ _
 have H:Bx w.heap.size W (iS s b d (Aa fa L fc) (Aa oa on oc) (Aa N O rc) (Aa P R tc) (Aa A C xc) (Aa D G F) (Aa z y zc)) (iO 3 dv V (Aa qa qn qc) nm dt kp):=by rw[<- hW];exact Bx.new _ _ _
 have MD:=Ih (Md.start hI h0 hB H bW)
 have ad:nm.data.toList.length<=140737488355328:=by
  have e:=jz nm;omega
 have J:=I6 ah ae hw ai ad hQ
 obtain⟨Y,S⟩:=Xa (jy qs 0)
 obtain⟨Z,T⟩:∃Z:Int,(x.toNat:Int)=Z:=⟨_,rfl⟩
 have PI:Hid (At Am 57 #[Aa qa qn qc,Ab Ak 0] W.drew λ e w'=>e=Aj (Ab Ak Y)/\w'=W.drew):=K0 ((hq.below (by rw[ab];exact MD.o.bel)).below (Ao _ W).drew) af ag 0 Y S
 have ak:y=cl.length:=by
  obtain⟨a',c',e',_⟩:=MD.o.inv.oc.form;cases e'
  rfl
 have PU:Hid (At Am 56 #[Aa z y zc,Ab Ak Y] W.drew λ e w'=>e=Aj (Ab Al Z)/\w'=W.drew):=KW (MD.o.inv.oc.rdc.1.below (Ao _ W).drew) ak.symm (by omega) Y Z (by rw[<- T,<- hx,S]);have XX:=hid T;have y3:=H.act.cell (j:=3) rfl;have y0:=H.act.cell (j:=0) rfl;have y4:=H.act.cell (j:=4) rfl;have al:=H.box.cell (j:=13) rfl;have p1:=H.box.cell (j:=1) rfl;clear hI h0 hB ah ae hw ai H bW ap ad hQ ab hq af ag ao hx S T ak;go_enter func19,ntmps19
 go_upto_region 34 with fail
 clear hW;go_cut[15] (λ cv u=>∃v,v=u/\cv=Ab Al Z/\Hid (Iz W v))
 case first =>
  go_region_law
   (first
    | (refine Jt rfl (.tmp 150) (.const (Ab Ak 0)) 57 #[23,3] rfl NK (Aa qa qn qc) (Ab Ak 0) (Ab Ak Y) (by simp[Bc]) (by simp[Bc]) PI.o ?_)
    | (refine Jt rfl (.tmp 148) (.tmp 151) 56 #[35,3] rfl L7 (Aa z y zc) (Ab Ak Y) (Ab Al Z) (by simp[Bc]) (by simp[Bc]) PU.o ?_))
  all_goals
   go_wp2_with fail;go_meet;exact⟨_,rfl,rfl,(Ao _ W).drew⟩
 case rest =>
 obtain⟨u0,rfl,ac,aa⟩:=hcut;subst ac;have I:=Ih (MD.o.below aa.o);clear MD y0 y3 y4 p1 al PI PU aa;have y0:=I.o.bx.act.cell (j:=0) rfl;have y4:=I.o.bx.act.cell (j:=4) rfl;have p1:=I.o.bx.box.cell (j:=1) rfl;have M:=YA (U:=U) I.o.inv.duo J.o.1 nm.data.toList x J.o.2.1 J.o.2.2.1 (by have:=J.o.2.2.2.1;unfold St.size at this;omega) (by have:=J.o.2.2.2.1;unfold St.size at this;omega);rw[J.o.2.2.2.2.2]at M;rw[show tx nm.data.toList=Ae nm from rfl,XX.o]at M;go_wp2_with fail;refine M.mono ?_;rintro e u1 ⟨r8,rfl,H8⟩
 have HE:=I2 H8.o.1 (mR.of (Ao _ _) H8.o.2.1 H8.o.2.2:mR u0 u1 s b Q.1 Q.2.1 U (B9 U u0 u1))
 clear M H8 y0 y4 p1;obtain⟨c1,c2,K,c4,_⟩:=I.o.call (u2:=u1) HE.o.2;have hr:=dA c2 c1 J.o.1 J.o.2.2.2.1 J.o.2.1 J.o.2.2.1 nm.data.toList J.o.2.2.2.2.1 x Q J.o.2.2.2.2.2;rw[show tx nm.data.toList=Ae nm from rfl,XX.o]at hr;have g2:=K.box.cell (j:=2) rfl;have g3:=K.box.cell (j:=3) rfl;have g4:=K.box.cell (j:=4) rfl;have g5:=K.box.cell (j:=5) rfl;have g6:=K.box.cell (j:=6) rfl;have g7:=K.box.cell (j:=7) rfl;have g8:=K.box.cell (j:=8) rfl;have g9:=K.box.cell (j:=9) rfl;have an:=K.box.cell (j:=10) rfl;have ga:=K.act.cell (j:=4) rfl;have gk:=K.act.cell (j:=0) rfl;clear c1 c2 c4;go_wp2_with fail;clear K;refine hr.mono ?_;rintro e u2 ⟨m',r9,rfl,H9⟩;obtain⟨q2,q3,q4⟩:=H9.o;obtain⟨a,f,c,g,k,h,l,p,m,q,t,r,rfl,l1,l2,l3,l4⟩:=q3
 have eR:r8=r9:=by rw[q2,HE.o.1]
 have M2:Hid (Md B w.heap.size E (λ i=>Fb w.heap.size i∨E i) w0 w u2 s b (Aa a f c) (Aa g k h) (Aa l p m) (Aa q t r) (Aa A C xc) (Aa D G F) (Aa z y zc) (B9 U u0 u1) Q.1 Q.2.1 bl tl cl (iS s b d (Aa fa L fc) (Aa oa on oc) (Aa N O rc) (Aa P R tc) (Aa A C xc) (Aa D G F) (Aa z y zc)) (iO 3 dv V (Aa qa qn qc) nm dt kp)):=(I.o.call HE.o.2).2.2.2.2 _ _ _ _ q4 ⟨a,f,c,g,k,h,l,p,m,q,t,r,rfl,l1,l2,l3,l4⟩;clear q2 q4 l1 l2 l3 l4 H9 hr g2 g3 g4 g5 g6 g7 g8 g9 an ga gk;subst eR
 obtain⟨X,hX⟩:=Xa (jG u2 w.heap.size [Aa a f c,Ab Ak (Q.2.1.writes:Int),Ad Q.2.1.armed,Ad Q.2.1.dead,Ab Ak (Q.2.1.after:Int),Ab Ak (Q.2.1.keep:Int),Aa g k h,Aa l p m,Aa q t r] 2)
 have M3:Hid (Md B w.heap.size E (λ i=>Fb w.heap.size i∨E i) w0 w X s b (Aa a f c) (Aa g k h) (Aa l p m) (Aa q t r) (Aa A C xc) (Aa D G F) (Aa z y zc) (B9 U u0 u1) Q.1 Q.2.1 bl tl cl (iS s b Q.2.1 (Aa a f c) (Aa g k h) (Aa l p m) (Aa q t r) (Aa A C xc) (Aa D G F) (Aa z y zc)) (iO 3 dv V (Aa qa qn qc) nm dt kp)):=by
  have h1:=M2.o.bx.box.lays [Aa a f c,Ab Ak (Q.2.1.writes:Int),Ad Q.2.1.armed,Ad Q.2.1.dead,Ab Ak (Q.2.1.after:Int),Ab Ak (Q.2.1.keep:Int),Aa g k h,Aa l p m,Aa q t r] 2;rw[hX,nx]at h1;exact M2.o.lay (by rw[<- hX];exact De _ _ _) h1
 have TH:=hid (M2.o.bx.box.there (o:=2) (n:=9) (by simp[iS]));have am:=hid hX;clear hX M2
 go_upto_region 54 with(refine Io rfl 34 (.tmp 171) (.tmp 169) rfl w.heap.size 2 #[Aa a f c,Ab Ak (Q.2.1.writes:Int),Ad Q.2.1.armed,Ad Q.2.1.dead,Ab Ak (Q.2.1.after:Int),Ab Ak (Q.2.1.keep:Int),Aa g k h,Aa l p m,Aa q t r] rfl rfl TH.o (by kernel_rfl) (by simp[CA]) ?_;intro w9 aj;obtain rfl:X=w9:=(aj.trans am.o).symm;clear aj;have yk:=M3.o.bx.act.cell (j:=0) rfl)
 obtain⟨p0,p1,p2,p3,p4,p5,p6,p7,p8,p9,aw,ax,ay,al⟩:=M3.o.bx.box.c14;obtain⟨s0,s1,s2,s3,s4,s5,s6,s7,s8,s9,az,aA,aB,aC⟩:=M3.o.bx.res.c14;obtain⟨f0,f1,f2,f3,f4,f5,f6,f7,f8,f9,aq,ar,au,av⟩:=M3.o.bx.res.t14;go_wp2;refine As (v:=Af #[Ag (iS s b Q.2.1 (Aa a f c) (Aa g k h) (Aa l p m) (Aa q t r) (Aa A C xc) (Aa D G F) (Aa z y zc)),Ad true]) ?_ rfl ⟨_,_,_,_,rfl,?_⟩
 simp[AI,Tryz.f19];go_simp
 have ht:=De (W:=X) (w.heap.size+2) [Ah (some ⟨b,0,none⟩),Ah (some ⟨s,0,none⟩),Aa a f c,Ab Ak (Q.2.1.writes:Int),Ad Q.2.1.armed,Ad Q.2.1.dead,Ab Ak (Q.2.1.after:Int),Ab Ak (Q.2.1.keep:Int),Aa g k h,Aa l p m,Aa q t r,Aa A C xc,Aa D G F,Aa z y zc] 0;simp only[jG,Cv]at ht;exact⟨_,M3.o.done ht⟩
theorem YR{on:Nat}{U:Nat->Prop}
  (hI:WI B E w s b (Aa fa L fc) (Aa oa on oc) (Aa N O rc) (Aa P R tc) (Aa A C xc) (Aa D G F) (Aa z y zc) U st d bl tl cl) (h0:An B w0 w) (ab:w0.heap.size=B) (hB:B<=w.heap.size) (hq:gQ encI w0 qa qs) (af:qs.length=qn) (ag:qn<=4000000000000000000) (ao:cl.length<=1000000) (ah:st.ok) (ae:d.ok) (hw:d.writes<=1000000) (ai:st.size<=1000000) (dv V:Ar) (nm:ByteArray) (ap:nm.size<=140737488355328) (dt kp:Int) (x:UInt64) (hx:iI cl (jy qs 0)=x) (Q) (hQ:kq st d nm.data.toList x=Q) :
  At Am 19 #[Ag (iS s b d (Aa fa L fc) (Aa oa on oc) (Aa N O rc) (Aa P R tc) (Aa A C xc) (Aa D G F) (Aa z y zc)),mQ 4 dv V (Aa qa qn qc) nm dt kp] w λ e w'=>∃vf vo vr vt,e=Aj (Af #[Ag (iS s b Q.2.1 vf vo vr vt (Aa A C xc) (Aa D G F) (Aa z y zc)),Ad true])/\Hid (∃U',WI B E w' s b vf vo vr vt (Aa A C xc) (Aa D G F) (Aa z y zc) U' Q.1 Q.2.1 bl tl cl/\An B w0 w'/\∀i,E i->w'.heap[i]? = w.heap[i]?):=by
 obtain⟨W,hW⟩:=Xa (((w.alloc (Ai (iS s b d (Aa fa L fc) (Aa oa on oc) (Aa N O rc) (Aa P R tc) (Aa A C xc) (Aa D G F) (Aa z y zc)) 37)).alloc (Ai (iO 4 dv V (Aa qa qn qc) nm dt kp) 69)).alloc (Ai kO 37))
 have bW:Iz w W:=by rw[<- hW];exact nC _ _ _ _
 have H:Bx w.heap.size W (iS s b d (Aa fa L fc) (Aa oa on oc) (Aa N O rc) (Aa P R tc) (Aa A C xc) (Aa D G F) (Aa z y zc)) (iO 4 dv V (Aa qa qn qc) nm dt kp):=by rw[<- hW];exact Bx.new _ _ _
 have MD:=Ih (Md.start hI h0 hB H bW)
 have ad:nm.data.toList.length<=140737488355328:=by
  have e:=jz nm;omega
 have I:=I6 ah ae hw ai ad hQ
 obtain⟨Y,S⟩:=Xa (jy qs 0)
 obtain⟨Z,T⟩:∃Z:Int,(x.toNat:Int)=Z:=⟨_,rfl⟩
 have PI:Hid (At Am 57 #[Aa qa qn qc,Ab Ak 0] W.drew λ e w'=>e=Aj (Ab Ak Y)/\w'=W.drew):=K0 ((hq.below (by rw[ab];exact MD.o.bel)).below (Ao _ W).drew) af ag 0 Y S
 have ak:y=cl.length:=by
  obtain⟨a',c',e',_⟩:=MD.o.inv.oc.form;cases e'
  rfl
 have PU:Hid (At Am 56 #[Aa z y zc,Ab Ak Y] W.drew λ e w'=>e=Aj (Ab Al Z)/\w'=W.drew):=KW (MD.o.inv.oc.rdc.1.below (Ao _ W).drew) ak.symm (by omega) Y Z (by rw[<- T,<- hx,S]);have XX:=hid T;have y3:=H.act.cell (j:=3) rfl;have y0:=H.act.cell (j:=0) rfl;have y4:=H.act.cell (j:=4) rfl;have al:=H.box.cell (j:=13) rfl;have p1:=H.box.cell (j:=1) rfl;clear hI h0 hB ah ae hw ai H bW ap ad hQ ab hq af ag ao hx S T ak;go_enter func19,ntmps19
 go_upto_region 34 with fail
 clear hW;go_cut[15] (λ cv u=>∃v,v=u/\cv=Ab Al Z/\Hid (Iz W v))
 case first =>
  go_region_law
   (first
    | (refine Jt rfl (.tmp 150) (.const (Ab Ak 0)) 57 #[23,3] rfl NK (Aa qa qn qc) (Ab Ak 0) (Ab Ak Y) (by simp[Bc]) (by simp[Bc]) PI.o ?_)
    | (refine Jt rfl (.tmp 148) (.tmp 151) 56 #[35,3] rfl L7 (Aa z y zc) (Ab Ak Y) (Ab Al Z) (by simp[Bc]) (by simp[Bc]) PU.o ?_))
  all_goals
   go_wp2_with fail;go_meet;exact⟨_,rfl,rfl,(Ao _ W).drew⟩
 case rest =>
 obtain⟨u0,rfl,ac,aa⟩:=hcut;subst ac;have J:=Ih (MD.o.below aa.o);clear MD y0 y3 y4 p1 al PI PU aa;have y0:=J.o.bx.act.cell (j:=0) rfl;have y4:=J.o.bx.act.cell (j:=4) rfl;have p1:=J.o.bx.box.cell (j:=1) rfl;have M:=Vy (U:=U) J.o.inv.duo I.o.1 nm.data.toList I.o.2.2.2.2.1 x I.o.2.1 I.o.2.2.1 (by have:=I.o.2.2.2.1;unfold St.size at this;omega) (by have:=I.o.2.2.2.1;unfold St.size at this;omega);rw[I.o.2.2.2.2.2]at M;rw[show tx nm.data.toList=Ae nm from rfl,XX.o]at M;go_wp2_with fail;refine M.mono ?_;rintro e u1 ⟨r8,rfl,H8⟩
 have HE:=I2 H8.o.1 (mR.of (Ao _ _) H8.o.2.1 H8.o.2.2:mR u0 u1 s b Q.1 Q.2.1 U (B9 U u0 u1))
 clear M H8 y0 y4 p1;obtain⟨c1,c2,K,c4,_⟩:=J.o.call (u2:=u1) HE.o.2;have hr:=Ze c2 c1 I.o.1 I.o.2.2.2.1 I.o.2.1 I.o.2.2.1 nm.data.toList I.o.2.2.2.2.1 x Q I.o.2.2.2.2.2;rw[show tx nm.data.toList=Ae nm from rfl,XX.o]at hr;have g2:=K.box.cell (j:=2) rfl;have g3:=K.box.cell (j:=3) rfl;have g4:=K.box.cell (j:=4) rfl;have g5:=K.box.cell (j:=5) rfl;have g6:=K.box.cell (j:=6) rfl;have g7:=K.box.cell (j:=7) rfl;have g8:=K.box.cell (j:=8) rfl;have g9:=K.box.cell (j:=9) rfl;have an:=K.box.cell (j:=10) rfl;have ga:=K.act.cell (j:=4) rfl;have gk:=K.act.cell (j:=0) rfl;clear c1 c2 c4;go_wp2_with fail;clear K;refine hr.mono ?_;rintro e u2 ⟨m',r9,rfl,H9⟩;obtain⟨q2,q3,q4⟩:=H9.o;obtain⟨a,f,c,g,k,h,l,p,m,q,t,r,rfl,l1,l2,l3,l4⟩:=q3
 have eR:r8=r9:=by rw[q2,HE.o.1]
 have M2:Hid (Md B w.heap.size E (λ i=>Fb w.heap.size i∨E i) w0 w u2 s b (Aa a f c) (Aa g k h) (Aa l p m) (Aa q t r) (Aa A C xc) (Aa D G F) (Aa z y zc) (B9 U u0 u1) Q.1 Q.2.1 bl tl cl (iS s b d (Aa fa L fc) (Aa oa on oc) (Aa N O rc) (Aa P R tc) (Aa A C xc) (Aa D G F) (Aa z y zc)) (iO 4 dv V (Aa qa qn qc) nm dt kp)):=(J.o.call HE.o.2).2.2.2.2 _ _ _ _ q4 ⟨a,f,c,g,k,h,l,p,m,q,t,r,rfl,l1,l2,l3,l4⟩;clear q2 q4 l1 l2 l3 l4 H9 hr g2 g3 g4 g5 g6 g7 g8 g9 an ga gk;subst eR
 obtain⟨X,hX⟩:=Xa (jG u2 w.heap.size [Aa a f c,Ab Ak (Q.2.1.writes:Int),Ad Q.2.1.armed,Ad Q.2.1.dead,Ab Ak (Q.2.1.after:Int),Ab Ak (Q.2.1.keep:Int),Aa g k h,Aa l p m,Aa q t r] 2)
 have M3:Hid (Md B w.heap.size E (λ i=>Fb w.heap.size i∨E i) w0 w X s b (Aa a f c) (Aa g k h) (Aa l p m) (Aa q t r) (Aa A C xc) (Aa D G F) (Aa z y zc) (B9 U u0 u1) Q.1 Q.2.1 bl tl cl (iS s b Q.2.1 (Aa a f c) (Aa g k h) (Aa l p m) (Aa q t r) (Aa A C xc) (Aa D G F) (Aa z y zc)) (iO 4 dv V (Aa qa qn qc) nm dt kp)):=by
  have h1:=M2.o.bx.box.lays [Aa a f c,Ab Ak (Q.2.1.writes:Int),Ad Q.2.1.armed,Ad Q.2.1.dead,Ab Ak (Q.2.1.after:Int),Ab Ak (Q.2.1.keep:Int),Aa g k h,Aa l p m,Aa q t r] 2;rw[hX,nx]at h1;exact M2.o.lay (by rw[<- hX];exact De _ _ _) h1
 have TH:=hid (M2.o.bx.box.there (o:=2) (n:=9) (by simp[iS]));have am:=hid hX;clear hX M2
 go_upto_region 54 with(refine Io rfl 34 (.tmp 187) (.tmp 185) rfl w.heap.size 2 #[Aa a f c,Ab Ak (Q.2.1.writes:Int),Ad Q.2.1.armed,Ad Q.2.1.dead,Ab Ak (Q.2.1.after:Int),Ab Ak (Q.2.1.keep:Int),Aa g k h,Aa l p m,Aa q t r] rfl rfl TH.o (by kernel_rfl) (by simp[CA]) ?_;intro w9 aj;obtain rfl:X=w9:=(aj.trans am.o).symm;clear aj;have yk:=M3.o.bx.act.cell (j:=0) rfl)
 obtain⟨p0,p1,p2,p3,p4,p5,p6,p7,p8,p9,aw,ax,ay,al⟩:=M3.o.bx.box.c14;obtain⟨s0,s1,s2,s3,s4,s5,s6,s7,s8,s9,az,aA,aB,aC⟩:=M3.o.bx.res.c14;obtain⟨f0,f1,f2,f3,f4,f5,f6,f7,f8,f9,aq,ar,au,av⟩:=M3.o.bx.res.t14;go_wp2;refine As (v:=Af #[Ag (iS s b Q.2.1 (Aa a f c) (Aa g k h) (Aa l p m) (Aa q t r) (Aa A C xc) (Aa D G F) (Aa z y zc)),Ad true]) ?_ rfl ⟨_,_,_,_,rfl,?_⟩
 simp[AI,Tryz.f19];go_simp
 have ht:=De (W:=X) (w.heap.size+2) [Ah (some ⟨b,0,none⟩),Ah (some ⟨s,0,none⟩),Aa a f c,Ab Ak (Q.2.1.writes:Int),Ad Q.2.1.armed,Ad Q.2.1.dead,Ab Ak (Q.2.1.after:Int),Ab Ak (Q.2.1.keep:Int),Aa g k h,Aa l p m,Aa q t r,Aa A C xc,Aa D G F,Aa z y zc] 0;simp only[jG,Cv]at ht;exact⟨_,M3.o.done ht⟩
theorem Xf{L u y C:Option Addr}{K on M x A z D:Nat}{U:Nat->Prop}
  (hI:WI B E w s b (Aa fa K fc) (Aa oa on oc) (Aa L M rc) (Aa N O tc) (Aa u x xc) (Aa y A z) (Aa C D zc) U st d bl tl cl) (h0:An B w0 w) (hB:B<=w.heap.size) (Y:st.ok) (V:d.ok) (hw:d.writes<=1000000) (Z:st.size<=1000000) (dv P:Ar) (nm:ByteArray) (ad:nm.size<=140737488355328) (dt kp:Int) (R:Ar) (Q) (hQ:jx st d nm.data.toList=Q) :
  At Am 19 #[Ag (iS s b d (Aa fa K fc) (Aa oa on oc) (Aa L M rc) (Aa N O tc) (Aa u x xc) (Aa y A z) (Aa C D zc)),mQ 5 dv P R nm dt kp] w λ e w'=>∃vf vo vr vt,e=Aj (Af #[Ag (iS s b Q.2.1 vf vo vr vt (Aa u x xc) (Aa y A z) (Aa C D zc)),Ad true])/\Hid (∃U',WI B E w' s b vf vo vr vt (Aa u x xc) (Aa y A z) (Aa C D zc) U' Q.1 Q.2.1 bl tl cl/\An B w0 w'/\∀i,E i->w'.heap[i]? = w.heap[i]?):=by
 obtain⟨W,hW⟩:=Xa (((w.alloc (Ai (iS s b d (Aa fa K fc) (Aa oa on oc) (Aa L M rc) (Aa N O tc) (Aa u x xc) (Aa y A z) (Aa C D zc)) 37)).alloc (Ai (iO 5 dv P R nm dt kp) 69)).alloc (Ai kO 37))
 have bW:Iz w W:=by rw[<- hW];exact nC _ _ _ _
 have H:Bx w.heap.size W (iS s b d (Aa fa K fc) (Aa oa on oc) (Aa L M rc) (Aa N O tc) (Aa u x xc) (Aa y A z) (Aa C D zc)) (iO 5 dv P R nm dt kp):=by rw[<- hW];exact Bx.new _ _ _
 have MD:=Ih (Md.start hI h0 hB H bW)
 have T:nm.data.toList.length<=140737488355328:=by
  have e:=jz nm;omega
 have F:=I6 Y V hw Z T hQ
 have y0:=H.act.cell (j:=0) rfl;have y4:=H.act.cell (j:=4) rfl;have p1:=H.box.cell (j:=1) rfl;clear hI h0 hB Y V hw Z H bW ad T hQ;go_enter func19,ntmps19
 go_upto_region 41 with fail
 clear hW;have J:=MD;have I:=Vd (U:=U) J.o.inv.duo F.o.1 nm.data.toList F.o.2.2.2.2.1 F.o.2.1 F.o.2.2.1 (by have:=F.o.2.2.2.1;unfold St.size at this;omega) (by have:=F.o.2.2.2.1;unfold St.size at this;omega);rw[F.o.2.2.2.2.2]at I;rw[show tx nm.data.toList=Ae nm from rfl]at I;go_wp2_with fail;refine I.mono ?_;rintro e u1 ⟨r8,rfl,H8⟩
 have HE:=I2 H8.o.1 (mR.of (Ao _ _) H8.o.2.1 H8.o.2.2:mR W u1 s b Q.1 Q.2.1 U (B9 U W u1))
 clear I H8 y0 y4 p1;obtain⟨c1,c2,G,c4,_⟩:=J.o.call (u2:=u1) HE.o.2;have hr:=YP c2 c1 F.o.1 F.o.2.2.2.1 F.o.2.1 F.o.2.2.1 nm.data.toList F.o.2.2.2.2.1 Q F.o.2.2.2.2.2;rw[show tx nm.data.toList=Ae nm from rfl]at hr;have g2:=G.box.cell (j:=2) rfl;have g3:=G.box.cell (j:=3) rfl;have g4:=G.box.cell (j:=4) rfl;have g5:=G.box.cell (j:=5) rfl;have g6:=G.box.cell (j:=6) rfl;have g7:=G.box.cell (j:=7) rfl;have g8:=G.box.cell (j:=8) rfl;have g9:=G.box.cell (j:=9) rfl;have ac:=G.box.cell (j:=10) rfl;have ga:=G.act.cell (j:=4) rfl;have gk:=G.act.cell (j:=0) rfl;clear c1 c2 c4;go_wp2_with fail;clear G;refine hr.mono ?_;rintro e u2 ⟨m',r9,rfl,H9⟩;obtain⟨q2,q3,q4⟩:=H9.o;obtain⟨a,f,c,g,k,h,l,p,m,q,t,r,rfl,l1,l2,l3,l4⟩:=q3
 have eR:r8=r9:=by rw[q2,HE.o.1]
 have M2:Hid (Md B w.heap.size E (λ i=>Fb w.heap.size i∨E i) w0 w u2 s b (Aa a f c) (Aa g k h) (Aa l p m) (Aa q t r) (Aa u x xc) (Aa y A z) (Aa C D zc) (B9 U W u1) Q.1 Q.2.1 bl tl cl (iS s b d (Aa fa K fc) (Aa oa on oc) (Aa L M rc) (Aa N O tc) (Aa u x xc) (Aa y A z) (Aa C D zc)) (iO 5 dv P R nm dt kp)):=(J.o.call HE.o.2).2.2.2.2 _ _ _ _ q4 ⟨a,f,c,g,k,h,l,p,m,q,t,r,rfl,l1,l2,l3,l4⟩;clear q2 q4 l1 l2 l3 l4 H9 hr g2 g3 g4 g5 g6 g7 g8 g9 ac ga gk;subst eR
 obtain⟨X,hX⟩:=Xa (jG u2 w.heap.size [Aa a f c,Ab Ak (Q.2.1.writes:Int),Ad Q.2.1.armed,Ad Q.2.1.dead,Ab Ak (Q.2.1.after:Int),Ab Ak (Q.2.1.keep:Int),Aa g k h,Aa l p m,Aa q t r] 2)
 have S:Hid (Md B w.heap.size E (λ i=>Fb w.heap.size i∨E i) w0 w X s b (Aa a f c) (Aa g k h) (Aa l p m) (Aa q t r) (Aa u x xc) (Aa y A z) (Aa C D zc) (B9 U W u1) Q.1 Q.2.1 bl tl cl (iS s b Q.2.1 (Aa a f c) (Aa g k h) (Aa l p m) (Aa q t r) (Aa u x xc) (Aa y A z) (Aa C D zc)) (iO 5 dv P R nm dt kp)):=by
  have h1:=M2.o.bx.box.lays [Aa a f c,Ab Ak (Q.2.1.writes:Int),Ad Q.2.1.armed,Ad Q.2.1.dead,Ab Ak (Q.2.1.after:Int),Ab Ak (Q.2.1.keep:Int),Aa g k h,Aa l p m,Aa q t r] 2;rw[hX,nx]at h1;exact M2.o.lay (by rw[<- hX];exact De _ _ _) h1
 have TH:=hid (M2.o.bx.box.there (o:=2) (n:=9) (by simp[iS]));have ab:=hid hX;clear hX M2
 go_upto_region 54 with(refine Io rfl 34 (.tmp 203) (.tmp 201) rfl w.heap.size 2 #[Aa a f c,Ab Ak (Q.2.1.writes:Int),Ad Q.2.1.armed,Ad Q.2.1.dead,Ab Ak (Q.2.1.after:Int),Ab Ak (Q.2.1.keep:Int),Aa g k h,Aa l p m,Aa q t r] rfl rfl TH.o (by kernel_rfl) (by simp[CA]) ?_;intro w9 aa;obtain rfl:X=w9:=(aa.trans ab.o).symm;clear aa;have yk:=S.o.bx.act.cell (j:=0) rfl)
 obtain⟨p0,p1,p2,p3,p4,p5,p6,p7,p8,p9,ai,aj,ak,al⟩:=S.o.bx.box.c14;obtain⟨s0,s1,s2,s3,s4,s5,s6,s7,s8,s9,am,an,ao,ap⟩:=S.o.bx.res.c14;obtain⟨f0,f1,f2,f3,f4,f5,f6,f7,f8,f9,ae,af,ag,ah⟩:=S.o.bx.res.t14;go_wp2;refine As (v:=Af #[Ag (iS s b Q.2.1 (Aa a f c) (Aa g k h) (Aa l p m) (Aa q t r) (Aa u x xc) (Aa y A z) (Aa C D zc)),Ad true]) ?_ rfl ⟨_,_,_,_,rfl,?_⟩
 simp[AI,Tryz.f19];go_simp
 have ht:=De (W:=X) (w.heap.size+2) [Ah (some ⟨b,0,none⟩),Ah (some ⟨s,0,none⟩),Aa a f c,Ab Ak (Q.2.1.writes:Int),Ad Q.2.1.armed,Ad Q.2.1.dead,Ab Ak (Q.2.1.after:Int),Ab Ak (Q.2.1.keep:Int),Aa g k h,Aa l p m,Aa q t r,Aa u x xc,Aa y A z,Aa C D zc] 0;simp only[jG,Cv]at ht;exact⟨_,S.o.done ht⟩
def AV.ac(a:AV)(data:Bs)(ps:List Bs)(qs:List Int):Ac:=⟨a.k,data,ps,qs,a.nm.data.toList,a.dt⟩
def Xw(B:Nat)(E:Nat->Prop)(w0 w:Ap)(s b:Nat)(v':Wd)(u:Ar)(w':Ap):Prop :=
 ∃fa' fl' fc' oa' on' oc' ra' rn' rc' ta' tn' tc' xa' xn' xc' ya' yn' yc' za' zn' zc' U',u=Af #[Ag (iS s b v'.d (Aa fa' fl' fc') (Aa oa' on' oc') (Aa ra' rn' rc') (Aa ta' tn' tc') (Aa xa' xn' xc') (Aa ya' yn' yc') (Aa za' zn' zc')),Ad true]/\WI B E w' s b (Aa fa' fl' fc') (Aa oa' on' oc') (Aa ra' rn' rc') (Aa ta' tn' tc') (Aa xa' xn' xc') (Aa ya' yn' yc') (Aa za' zn' zc') U' v'.st v'.d v'.bl v'.tl v'.cl/\An B w0 w'/\∀i,E i->w'.heap[i]? = w.heap[i]?
theorem oD{on:Nat}{U:Nat->Prop}{a:AV}{N:Nat}
  (P:WI B E w s b (Aa fa fl fc) (Aa oa on oc) (Aa ra rn rc) (Aa ta tn tc) (Aa xa xn xc) (Aa ya yn yc) (Aa za zn zc) U v.st v.d v.bl v.tl v.cl) (M:An B w0 w) (H:w0.heap.size=B) (O:B<=w.heap.size) (hA:H7 w0 a data ps qs) (l:a.nm.size<=140737488355328) (hk:a.k<6) (c:v.fine N) (K:N<=1000000) :
  At Am 19 #[Ag (iS s b v.d (Aa fa fl fc) (Aa oa on oc) (Aa ra rn rc) (Aa ta tn tc) (Aa xa xn xc) (Aa ya yn yc) (Aa za zn zc)),a.val] w λ e w'=>∃u,e=Aj u/\Hid (Xw B E w0 w s b (jN (a.ac data ps qs) v) u w'):=by
 have R:=AU c.writes K;have m:=AU c.size K;have W:=AU c.bl K;have X:=AU c.tl K;have I:=AU c.cl K;by_cases h3:a.k<3
 refine(gA P M H O hA h3 c.d R m W X I).mono ?_;rintro e w' ⟨u,rfl,h⟩;obtain⟨g,j,i,n,r,p,t,y,x,z,C,A,aa,ad,ab,ae,ag,af,ah,aj,ai,D,Y,d',T,Z,V,e1,f,F,G,_,_,_,hr⟩:=h.o
 have J:jN (a.ac data ps qs) v=⟨Y,d',T,Z,V⟩:=by
  rcases hr with⟨q,rfl,rfl,rfl,rfl,rfl⟩ | ⟨q,Q,L,rfl,rfl,rfl,rfl,rfl⟩ | ⟨q,Q,L,rfl,rfl,rfl,rfl,rfl⟩ | ⟨q,Q,L,rfl,rfl,rfl,rfl,rfl⟩
  unfold jN AV.ac;simp only;rw[Ay (by omega),Ay (by omega),Ay (by omega),Ay (by omega),Ay (by omega),Ay (by omega)];unfold jN AV.ac;simp only;rw[AC q,L];unfold jN AV.ac;simp only;rw[Ay (by omega),AC q,L];unfold jN AV.ac;simp only;rw[Ay (by omega),Ay (by omega),AC q,L]
 rw[J];exact⟨_,rfl,g,j,i,n,r,p,t,y,x,z,C,A,aa,ad,ab,ae,ag,af,ah,aj,ai,D,e1,f,F,G⟩
 obtain⟨k,da,dn,dc,pa,pn,pc,qa,qn,qc,nm,dt,kp⟩:=a;obtain⟨a1,a2,a3,a4,a5,a6,a7,a8,a9,S⟩:=hA;simp only at a1 a2 a3 a4 a5 a6 a7 a8 a9 S hk h3 l
 have hc:k=3∨k=4∨k=5:=by omega
 rcases hc with rfl|rfl|rfl
 have J:jN (AV.ac ⟨3,da,dn,dc,pa,pn,pc,qa,qn,qc,nm,dt,kp⟩ data ps qs) v=⟨(kH v.st v.d nm.data.toList (iI v.cl (jy qs 0))).1,(kH v.st v.d nm.data.toList (iI v.cl (jy qs 0))).2.1,v.bl,v.tl,v.cl⟩:=by
  unfold jN AV.ac;simp
 rw[J];refine(WA P M H O a8 a9 (by omega) I c.st c.d R m _ _ nm l dt kp _ rfl _ rfl).mono ?_;rintro e w' ⟨vf,vo,vr,vt,rfl,h⟩;obtain⟨D,f,F,G⟩:=h.o;obtain⟨g,j,i,n,r,p,t,y,x,z,C,A,_,_,_,_,_,_,_,_,_,rfl,rfl,rfl,rfl,_,_,_⟩:=f.form;exact⟨_,rfl,_,_,_,_,_,_,_,_,_,_,_,_,_,_,_,_,_,_,_,_,_,D,rfl,f,F,G⟩
 have J:jN (AV.ac ⟨4,da,dn,dc,pa,pn,pc,qa,qn,qc,nm,dt,kp⟩ data ps qs) v=⟨(kq v.st v.d nm.data.toList (iI v.cl (jy qs 0))).1,(kq v.st v.d nm.data.toList (iI v.cl (jy qs 0))).2.1,v.bl,v.tl,v.cl⟩:=by
  unfold jN AV.ac;simp
 rw[J];refine(YR P M H O a8 a9 (by omega) I c.st c.d R m _ _ nm l dt kp _ rfl _ rfl).mono ?_;rintro e w' ⟨vf,vo,vr,vt,rfl,h⟩;obtain⟨D,f,F,G⟩:=h.o;obtain⟨g,j,i,n,r,p,t,y,x,z,C,A,_,_,_,_,_,_,_,_,_,rfl,rfl,rfl,rfl,_,_,_⟩:=f.form;exact⟨_,rfl,_,_,_,_,_,_,_,_,_,_,_,_,_,_,_,_,_,_,_,_,_,D,rfl,f,F,G⟩
 have J:jN (AV.ac ⟨5,da,dn,dc,pa,pn,pc,qa,qn,qc,nm,dt,kp⟩ data ps qs) v=⟨(jx v.st v.d nm.data.toList).1,(jx v.st v.d nm.data.toList).2.1,v.bl,v.tl,v.cl⟩:=by
  unfold jN AV.ac;simp
 rw[J];refine(Xf P M O c.st c.d R m _ _ nm l dt kp _ _ rfl).mono ?_;rintro e w' ⟨vf,vo,vr,vt,rfl,h⟩;obtain⟨D,f,F,G⟩:=h.o;obtain⟨g,j,i,n,r,p,t,y,x,z,C,A,_,_,_,_,_,_,_,_,_,rfl,rfl,rfl,rfl,_,_,_⟩:=f.form;exact⟨_,rfl,_,_,_,_,_,_,_,_,_,_,_,_,_,_,_,_,_,_,_,_,_,D,rfl,f,F,G⟩
theorem om(a0 a1 a2 a3 a4 a5 a6 a7 a8 a9 e f g h n0 i n2 j k l m n o p a b c d:Ar):lk #[a0,a1,a2,a3,a4,a5,a6,a7,a8,a9,e,f,g,h] [n0,i,n2,j,k,l,m,n,o,p,a,b,c,d] 0=#[n0,i,n2,j,k,l,m,n,o,p,a,b,c,d]:=by simp[lk]
def jZ(n:Nat):Code->Option Code
 | .region i ops dr=>if i=n then some (.region i ops dr)else none
 | .seq a b=>match jZ n a with
  | some c=>some c
  | none=>jZ n b
 | .cond _ a b=>match jZ n a with
  | some c=>some c
  | none=>jZ n b
 | .block _ c=>jZ n c
 | .loop c=>jZ n c
 | _=>none
theorem RZ{c c':Code}{Q:Exit->Act->Ap->Prop}{a:Act}(h:c=c')(k:Code.wp Am c' Q a w):Code.wp Am c Q a w:=h ▸ k
def WB(B R:Nat)(w0 u:Ap)(v:Wd):Prop:=∃s b fa fl fc oa on oc ra rn rc ta tn tc xa xn xc ya yn yc za zn zc U,
 WI B (λ j=>j=R) u s b (Aa fa fl fc) (Aa oa on oc) (Aa ra rn rc) (Aa ta tn tc) (Aa xa xn xc) (Aa ya yn yc) (Aa za zn zc) U v.st v.d v.bl v.tl v.cl/\gT u R 37 (iS s b v.d (Aa fa fl fc) (Aa oa on oc) (Aa ra rn rc) (Aa ta tn tc) (Aa xa xn xc) (Aa ya yn yc) (Aa za zn zc))/\An B w0 u/\B<=R
theorem WB.start{w1 a:Ap}(c:Iz w w1)(hd:jK a s b mH lM (λ i=>w1.heap.size<=i/\i<a.heap.size))(e:Iz w1 a):
  WI w.heap.size (λ j=>j=a.heap.size) (a.alloc (Ai (iS s b lM gU gU gU gU gU gU gU) 37)) s b gU gU gU gU gU gU gU (λ i=>w1.heap.size<=i/\i<a.heap.size) mH lM [] [] []/\gT (a.alloc (Ai (iS s b lM gU gU gU gU gU gU gU) 37)) a.heap.size 37 (iS s b lM gU gU gU gU gU gU gU)/\Iz w (a.alloc (Ai (iS s b lM gU gU gU gU gU gU gU) 37))/\w.heap.size<=a.heap.size:=by
 have b2:=c.trans (e.mono c.size);have d:=gW a (Ai (iS s b lM gU gU gU gU gU gU gU) 37);refine⟨⟨hd.below d,λ i q=>?_,oM _ _,λ i q r=>?_,λ i q=>?_,gM.nil _ _ _ _,gM.nil _ _ _ _,gM.nil _ _ _ _,λ g q=>(by cases q),λ g q=>(by cases q),λ g q=>(by cases q),λ g q=>(by cases q),λ g q=>(by cases q),λ g q=>(by cases q)⟩,gT.new _ _ _,b2.trans (d.mono b2.size),b2.size⟩
 have:=q.1;have:=c.size;omega
 have h:=r
 rcases q with q|q|q|q
 have:=q.2;omega
 cases q
 cases q
 cases q
 have f:=q;rw[f];simp
end Go.Proofs.YtakgkgmopmcecaaGreat
