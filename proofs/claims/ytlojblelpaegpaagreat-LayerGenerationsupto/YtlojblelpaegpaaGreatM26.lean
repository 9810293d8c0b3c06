/-
  Several texts, laid together.
-/
import Derived.Test.YtlojblelpaegpaaGreatM25
import Derived.Test.YtlojblelpaegpaaGreatM22
import Derived.Sort.Defs
set_option maxHeartbeats 6400000
set_option maxRecDepth 100000
open List renaming mem_cons_self->Ba,mem_cons_of_mem->Bd,getD->Cf,replicate->Bb,getElem?_map->Bc,mem_of_getElem?->AY,getElem?_eq_getElem->Aq,getElem?_eq_some_iff->AC,replicate_succ->EI,count_cons->G9,getElem?_set_self->Cl,getElem?_set_ne->CA,getElem_mem->Cx,pairwise_cons->Bn,pairwise_append->De,mem_singleton->A2,mem_append->AK,getLast?_append->Gy,length_take->AM,take_append_drop->Ch,take_left'->FG,take_of_length_le->Av,length_map->AQ,length_append->AD,set_append_right->Fm,take_add_one->AO,map_append->BS,getElem?_eq_none->AL,idxOf_append->DW,nodup_append->Cg,append_assoc->A9
open Nat renaming not_lt_zero->DC,le_refl->Az,lt_or_ge->Cp,le_of_lt->CD
open Go renaming World->Ap,Value->Ar,maxLen->AG,Calls->At,bodyPost_ret->As,results_tmp2->AA
open Go.Value renaming ownBlock->BY,slice->Aa,int->Ab,bool->Ad,tuple->Af
open Go.World.ownsRow renaming lt->C2
open Go.RowKit renaming Below->An
open Go.IntKind renaming i64->Ak,wrap_i64->Au,u64->Al
open Go.Instr renaming makeMap->GX,lookup->Db
open Go.Proofs.Tryz renaming prog->Am
open Go.Proofs.Tryz
namespace Go.Proofs.YtlojblelpaegpaaGreat
open Go.RowKit
variable{A B Bg G K X ps:List Int}{Q:List UInt64}{S:Nat->Prop}{W:List Nat}{a base bc bn c i k m n q rg:Nat}{ba:Option Addr}{bvs vs:List LV}{g p:Int}{rk:Nat->Nat}{t:TypeId}{u w:Ap}{v:LV}{x:UInt64}{α:Type}
def genF(K ps:List Int):Int:=min (topG K ps 0) 249+1
theorem Zf5(K ps:List Int):1<=genF K ps:=by
 have:=ZkT K ps 0;unfold genF;omega
theorem ZkX(K ps:List Int):genF K ps<=250:=by
 unfold genF;omega
theorem Ze8{K a:List Int}:∀(ps:List Int) (g:Int),(∀p∈ps,kat K p=kat a p)->topG K ps g=topG a ps g
 | [],_,_=>rfl
 | p::ps,g,h=>by
  show topG K ps (max g (kat K p))=topG a ps (max g (kat a p));rw[h p Ba];exact Ze8 ps _ (λ q hq=>h q (Bd _ hq))
theorem Zbu{a:List Int}(h:∀p∈ps,kat K p=kat a p):genF K ps=genF a ps:=by
 unfold genF;rw[Ze8 ps 0 h]
theorem ZaV(a:0<=p)(h:p<(A.length:Int)):kat (A++B) p=kat A p:=by
 unfold kat Cf;rw[List.getElem?_append_left (by omega)]
theorem ZaE(q:Nat):kat (A++B) ((A.length+q:Nat):Int)=B.getD q 0:=by
 unfold kat Cf;rw[show((A.length+q:Nat):Int).toNat=A.length+q by omega,List.getElem?_append_right (by omega)]
 congr 2
 omega
structure Gens(Bg:List Int)(pss:List (List Int))(G:List Int):Prop where
 len:G.length=pss.length
 eq:∀(i:Nat) (ps:List Int),pss[i]? = some ps->G[i]? = some (genF (Bg++G) ps)
structure Zaz(b:Nat)(pss:List (List Int))(rk:Nat->Nat):Prop where
 in_:∀ps∈pss,∀p∈ps,0<=p/\p<((b+pss.length:Nat):Int)
 le:∀i,i<pss.length->rk i<=pss.length
 lt:∀(i:Nat) (ps:List Int),pss[i]? = some ps->∀q:Nat,((b+q:Nat):Int)∈ps->rk q<rk i
def gstep(Bg:List Int)(pss:List (List Int))(G:List Int):List Int:=pss.map (λ ps=>genF (Bg++G) ps)
def giter(Bg:List Int)(pss:List (List Int)):Nat->List Int
 | 0=>Bb pss.length 0
 | k+1=>gstep Bg pss (giter Bg pss k)
theorem Zle(Bg:List Int)(pss:List (List Int)):∀k,(giter Bg pss k).length=pss.length
 | 0=>by simp[giter]
 | k+1=>by simp[giter,gstep]
theorem Zeq{pss:List (List Int)}(h:pss[i]? = some ps):(giter Bg pss (k+1))[i]? = some (genF (Bg++giter Bg pss k) ps):=by
 show(pss.map _)[i]? = _;rw[Bc,h]
 rfl
theorem Zfq{pss:List (List Int)}(h:Zaz Bg.length pss rk):∀(k m i:Nat) (ps:List Int),pss[i]? = some ps->rk i<k->rk i<m->(giter Bg pss k)[i]? = (giter Bg pss m)[i]?
 | 0,_,_,_,_,h1,_=>absurd h1 (DC _)
 | _+1,0,_,_,_,_,h2=>absurd h2 (DC _)
 | k+1,m+1,i,ps,hi,h1,h2=>by
  rw[Zeq hi,Zeq hi]
  congr 1
  refine Zbu (λ p hp=>?_);obtain⟨b,d⟩:=h.in_ ps (AY hi) p hp;by_cases a:p<(Bg.length:Int)
  ·rw[ZaV b a,ZaV b a]
  ·obtain⟨q,rfl⟩:∃q:Nat,p=((Bg.length+q:Nat):Int):=⟨p.toNat - Bg.length,by omega⟩
   have hq:q<pss.length:=by omega
   have c:=h.lt i ps hi q hp;have:=Zfq h k m q pss[q] (Aq hq) (by omega) (by omega);rw[ZaE,ZaE,Cf,Cf,this]
theorem Zkb{pss:List (List Int)}(h:Zaz Bg.length pss rk):∃G,Gens Bg pss G:=by
 refine⟨giter Bg pss (pss.length+1),Zle _ _ _,λ i ps hi=>?_⟩;rw[Zeq hi]
 congr 1
 have a:i<pss.length:=(AC.1 hi).1;refine Zbu (λ p hp=>?_);obtain⟨c,f⟩:=h.in_ ps (AY hi) p hp;by_cases b:p<(Bg.length:Int)
 ·rw[ZaV c b,ZaV c b]
 ·obtain⟨q,rfl⟩:∃q:Nat,p=((Bg.length+q:Nat):Int):=⟨p.toNat - Bg.length,by omega⟩
  have hq:q<pss.length:=by omega
  have e:=h.lt i ps hi q hp;have d:=h.le i a;have:=Zfq h pss.length (pss.length+1) q pss[q] (Aq hq) (by omega) (by omega);rw[ZaE,ZaE,Cf,Cf,this]
theorem Gens.pos{pss:List (List Int)}(h:Gens Bg pss G):∀g∈G,1<=g/\g<=250:=by
 intro g a;obtain⟨i,hi,rfl⟩:=List.getElem_of_mem a
 have hp:i<pss.length:=by rw[<- h.len];exact hi
 have:=h.eq i pss[i] (Aq hp);rw[Aq hi,Option.some_inj]at this;rw[this];exact⟨Zf5 _ _,ZkX _ _⟩
def LV.wg(v:LV)(g:Int):LV:={ v with gen:=g }
def wgen(vs:List LV)(X:List Int):List LV:=List.zipWith LV.wg vs X
theorem ZnV(h:X.length=vs.length):(wgen vs X).length=vs.length:=by simp[wgen,h]
theorem Zdy(h:vs[q]? = some v)(a:X[q]? = some g):(wgen vs X)[q]? = some (v.wg g):=by
 unfold wgen;rw[List.getElem?_zipWith,h,a]
theorem Zi5:∀{vs:List LV} {X:List Int} {q:Nat} {v:LV} (g:Int),vs[q]? = some v->(wgen vs X).set q (v.wg g)=wgen vs (X.set q g)
 | [],_,_,_,_,h=>by simp at h
 | _::_,[],_,_,_,_=>by simp[wgen]
 | x::t,y::s,0,v,g,h=>by
  have e:x=v:=by simpa using h
  subst e;simp[wgen]
 | x::t,y::s,q+1,v,g,h=>by
  have:=Zi5 (vs:=t) (X:=s) g (by simpa using h:t[q]? = some v);simp only[wgen]at this;simp[wgen,this]
theorem ZgD:∀{vs:List LV},(∀v∈vs,v.gen=0)->wgen vs (Bb vs.length 0)=vs
 | [],_=>rfl
 | x::t,h=>by
  have:=ZgD (vs:=t) (λ v a=>h v (Bd _ a));simp only[wgen]at this
  have e:x.wg 0=x:=by
   have:=h x Ba;unfold LV.wg;cases x
   simp_all
  simp[wgen,EI,this,e]
def nz(X:List Int):Nat:=X.count 0
theorem ZlX:∀{X:List Int} {q:Nat} {g:Int},X[q]? = some 0->g≠0->nz (X.set q g)+1=nz X
 | [],_,_,h,_=>by simp at h
 | x::t,0,g,h,hg=>by
  have e:x=0:=by simpa using h
  subst e;simp[nz,hg]
 | x::t,q+1,g,h,hg=>by
  have:=ZlX (X:=t) (by simpa using h:t[q]? = some 0) hg;unfold nz at this ⊢;rw[List.set_cons_succ,G9,G9];omega
theorem ZnT(h:X[q]? = some g):X.set q g=X:=by
 obtain⟨hq,e⟩:=AC.1 h;rw[<- e,List.set_getElem_self]
structure XI(G X:List Int):Prop where
 len:X.length=G.length
 or_:∀(q:Nat) (g:Int),G[q]? = some g->X[q]? = some 0∨X[q]? = some g
theorem XI.zero(G:List Int):XI G (Bb G.length 0):=⟨by simp,λ q g h=>by
 have:=(AC.1 h).1
 exact .inl (by rw[List.getElem?_replicate,AE this])⟩
theorem XI.set(h:XI G X)(b:G[q]? = some g):XI G (X.set q g):=by
 refine⟨by rw[List.length_set,h.len],λ j x a=>?_⟩;by_cases e:q=j
 ·subst e;rw[b]at a;cases a;have:=(AC.1 b).1;exact .inr (by rw[Cl (by rw[h.len];exact this)])
 ·rw[CA e];exact h.or_ j x a
theorem Zi2:∀{ps:List Int} {p:Int},unkR K ps=(p,true)->p∈ps/\kat K p=0
 | [],_,h=>by simp[unkR]at h
 | x::t,p,h=>by
  unfold unkR at h
  split at h
  ·rename_i e
   cases h;exact⟨Ba,e⟩
  ·have:=Zi2 h;exact⟨Bd _ this.1,this.2⟩
theorem Zjs{K:List Int}:∀{ps:List Int} {r:Int},unkR K ps=(r,false)->∀p∈ps,kat K p≠0
 | [],_,_=>by simp
 | x::t,r,h=>by
  unfold unkR at h
  split at h
  ·cases h
  ·rename_i e
   intro p hp
   rcases List.mem_cons.1 hp with rfl|q
   ·exact e
   ·exact Zjs h p q
section
variable{Bg:List Int}{pss:List (List Int)}{G X:List Int}{rk:Nat->Nat}{ps:List Int}{i:Nat}
theorem Zni(j:∀g∈Bg,1<=g)(d:Zaz Bg.length pss rk)(m:X.length=pss.length)(hi:pss[i]? = some ps)(h:unkR (Bg++X) ps=(p,true)):∃q:Nat,p=((Bg.length+q:Nat):Int)/\q<pss.length/\X[q]? = some 0/\rk q<rk i:=by
 obtain⟨c,b⟩:=Zi2 h;obtain⟨l,n⟩:=d.in_ ps (AY hi) p c;by_cases k:p<(Bg.length:Int)
 ·rw[ZaV l k]at b
  have f:p.toNat<Bg.length:=by omega
  have e:kat Bg p=Bg[p.toNat]:=by
   unfold kat;rw[Cf,Aq f]
   rfl
  have:=j _ (Cx f);omega
 ·obtain⟨q,rfl⟩:∃q:Nat,p=((Bg.length+q:Nat):Int):=⟨p.toNat - Bg.length,by omega⟩
  have hq:q<pss.length:=by omega
  rw[ZaE]at b
  have a:q<X.length:=by omega
  rw[Cf,Aq a]at b;exact⟨q,rfl,hq,by rw[Aq a];exact A4 some b,d.lt i ps hi q c⟩
theorem Zom(f:Zaz Bg.length pss rk)(b:Gens Bg pss G)(g:XI G X)(hi:pss[i]? = some ps){r:Int}(h:unkR (Bg++X) ps=(r,false)):G[i]? = some (genF (Bg++X) ps):=by
 rw[b.eq i ps hi]
 congr 1
 refine Zbu (λ p hp=>?_);have a:=Zjs h p hp;obtain⟨d,j⟩:=f.in_ ps (AY hi) p hp;by_cases c:p<(Bg.length:Int)
 ·rw[ZaV d c,ZaV d c]
 ·obtain⟨q,rfl⟩:∃q:Nat,p=((Bg.length+q:Nat):Int):=⟨p.toNat - Bg.length,by omega⟩
  have hq:q<G.length:=by rw[b.len];omega
  rw[ZaE]at a;rw[ZaE,ZaE]
  rcases g.or_ q G[q] (Aq hq)with e|e
  ·rw[Cf,e]at a;exact absurd rfl a
  ·rw[Cf,Cf,e,Aq hq]
end
structure WQ(rk:Nat->Nat)(n i:Nat)(G X:List Int)(W:List Nat):Prop where
 falls:W.Pairwise (λ a b=>rk b<rk a)
 open_:∀q∈W.tail,X[q]? = some 0
 in_:∀q∈W,q<n
 head:W.head? = some i∨(W=[]/\X[i]? = G[i]?)
def mu(rk:Nat->Nat)(n:Nat)(X:List Int)(W:List Nat):Nat:=nz X*(n+2)+(match W.getLast? with
 | none=>0
 | some q=>rk q+1)
theorem Zgj:∀{W:List Nat} {a:Nat},(a::W).Pairwise (λ a b=>rk b<rk a)->(a::W).length<=rk a+1
 | [],_,_=>by simp
 | b::t,a,h=>by
  have c:=Zgj (Bn.1 h).2;have d:=(Bn.1 h).1 b Ba;simp only[List.length_cons]at c ⊢;omega
theorem WQ.short(h:WQ rk n i G X W)(b:∀j,j<n->rk j<=n):W.length<=n+1:=by
 cases W with
 | nil=>simp
 | cons a t =>
  have c:=Zgj h.falls;have d:=b a (h.in_ a Ba);omega
theorem WQ.push{p:Nat}(h:WQ rk n i G X (W++[q]))(hp:p<n)(j:X[p]? = some 0)(g:rk p<rk q):WQ rk n i G X (W++[q]++[p])/\mu rk n X (W++[q]++[p])<mu rk n X (W++[q]):=by
 constructor
 ·refine⟨?_,?_,?_,.inl ?_⟩
  ·refine De.2 ⟨h.falls,by simp,λ a c b f=>?_⟩;rw[A2]at f;subst f
   rcases AK.1 c with c|c
   ·have:=(De.1 h.falls).2.2 a c q (by simp);omega
   ·rw[A2]at c;subst c;exact g
  ·intro x d;rw[List.tail_append_of_ne_nil (by simp)]at d
   rcases AK.1 d with c|c
   ·exact h.open_ x c
   ·rw[A2]at c;rw[c];exact j
  ·intro x d
   rcases AK.1 d with c|c
   ·exact h.in_ x c
   ·rw[A2]at c;rw[c];exact hp
  ·rcases h.head with e|⟨e,_⟩
   ·rw[List.head?_append,e]
    rfl
   ·simp at e
 ·unfold mu;rw[Gy,Gy];simp;omega
theorem WQ.pop {rk:Nat->Nat} {n i q:Nat} {G X:List Int} {W:List Nat} {g:Int} (h:WQ rk n i G X (W++[q])) (hX:XI G X) (hg:G[q]? = some g) (h0:g≠0) (hrk:∀ j,j<n->rk j<=n):WQ rk n i G (X.set q g) W/\mu rk n (X.set q g) W<mu rk n X (W++[q]):=by
 have hq:q<X.length:=by rw [hX.len]; exact (List.getElem?_eq_some_iff.1 hg).1
 obtain ⟨f1,_,f3⟩:=List.pairwise_append.1 h.falls
 have hne:∀ a∈W,a≠q:=λ a ha e=>by
  have:=f3 a ha q (by simp);rw [e] at this;omega
 constructor
 ·refine ⟨f1,λ x hx=>?_,λ x hx=>h.in_ x (List.mem_append.2 (.inl hx)),?_⟩
  ·have hm:x∈W:=List.mem_of_mem_tail hx;rw [List.getElem?_set_ne (hne x hm).symm];refine h.open_ x ?_
   cases W with
   | nil=>simp at hx
   | cons a t =>
    rw [List.cons_append,List.tail_cons];exact List.mem_append.2 (.inl hx)
  ·cases W with
   | nil =>
    refine .inr ⟨rfl,?_⟩
    rcases h.head with e | ⟨e,_⟩
    ·have e2:q=i:=by simpa using e
     subst e2;rw [List.getElem?_set_self hq,hg]
    ·simp at e
   | cons a t =>
    refine .inl ?_
    rcases h.head with e | ⟨e,_⟩
    ·simpa using e
    ·simp at e
 ·unfold mu;rw [List.getLast?_append];simp only [List.getLast?_singleton,Option.some_or]
  cases W with
  | nil =>
   simp only [List.getLast?_nil]
   rcases hX.or_ q g hg with e | e
   ·have:=ZlX e h0;rw [<- this,Nat.add_mul];omega
   ·rw [ZnT e];omega
  | cons a t =>
   have e:=h.open_ q (by simp);have:=ZlX e h0;rw [<- this,Nat.add_mul]
   cases hl:(a::t).getLast? with
   | none => simp
             omega
   | some z =>
    have hz:z∈a::t:=List.mem_of_getLast? hl;have:=hrk z (h.in_ z (List.mem_append.2 (.inl hz)));simp only;omega
theorem ZmW{d:Nat}(h:OwnG encL 63 u base (Aa (some ⟨rg,0,none⟩) d c) vs)(g:vs[i]? = some v):
  u.cell? ⟨rg,i*6+3,none⟩=some (Aa v.pa v.pn v.pc)/\u.cell? ⟨rg,i*6+4,none⟩=some (Ab Ak v.gen)/\u.frozen? ⟨rg,i*6+4,none⟩=false:=by
 obtain⟨_,_,_,a,b,_⟩:=h.rdc.1.lrows g;rw[Nat.zero_add]at a b;refine⟨a,b,?_⟩;have f:vs.length=d:=Zam h;subst f;have e:u.ownsRow base 63 6 (Aa (some ⟨rg,0,none⟩) vs.length c) vs.length (encL.all vs):=h;exact e.frozenAt _
theorem Znu{b:Nat}(h:OwnG encL 63 u base (Aa (some ⟨rg,0,none⟩) b a) vs)(c:vs[i]? = some v)(g:Int):
  OwnG encL 63 (u.setCell ⟨rg,i*6+4,none⟩ (Ab Ak g)) base (Aa (some ⟨rg,0,none⟩) b a) (vs.set i (v.wg g)) :=
 OwnG.put h (i:=i) (j:=4) c (by decide) (v.wg g) (Ab Ak g) (by simp[encL,LV.cells,LV.wg])
theorem OwnG.ne_own{n:Type}{E:Enc α}{d:Enc n}{c:TypeId}{v v':Ar}{xs:List α}{ys:List n}(h:OwnG E t w base v xs)(j:OwnG d c w a v' ys)(b:t≠c){g:Nat}(l:v.ownBlock=some g):v'.ownBlock≠some g:=by
 rcases j.2 with⟨rfl,_⟩ | ⟨g2,cap,f,rfl,m,k,_⟩
 ·simp[BY]
 ·intro e
  have i:g2=g:=by simpa[BY]using e
  subst i;exact h.ne_box k b l
theorem OwnG.front{E:Enc α}{g cap:Nat}{xs:List α}(h:OwnG E t w base (Aa (some ⟨g,0,none⟩) n cap) xs)(o:k<=n):OwnG E t w base (Aa (some ⟨g,0,none⟩) k cap) (xs.take k):=by
 have p:xs.length=n:=Zam h
 have a:(xs.take k).length=k:=by rw[AM];omega
 have m:(E.all xs).take (k*E.size)=E.all (xs.take k):=by
  have e:E.all xs=E.all (xs.take k)++E.all (xs.drop k):=by rw[<- E.all_append,Ch]
  rw[e,FG (by rw[E.all_length,a])]
 refine⟨by rw[E.all_length],?_⟩
 rcases h.2 with⟨e,_⟩ | ⟨g2,c,b,e,d,f,q,i,j,l⟩
 ·cases e
 ·cases e;refine .inr ⟨g,cap,b,by rw[a],d,f,by rw[a];omega,i,j,?_⟩;rw[a,<- m,<- l,List.take_take,p,Nat.min_eq_left (Nat.mul_le_mul_right _ o)]
theorem ZnJ(E:Enc α)(t:TypeId)(w:Ap)(x:α)(base:Nat)(a:base<=w.heap.size)(c:Array Ar)(b:c=(E.cells x).toArray):OwnG E t (w.alloc (.cells c t)) base (Aa (some ⟨w.heap.size,0,none⟩) 1 1) [x]:=by
 subst b;refine⟨E.all_length [x],.inr ⟨w.heap.size,1,_,rfl,a,heap_alloc_new w _,Az _,by simp only[AG];omega,by simp[E.len],?_⟩⟩;simp[Enc.all,E.len,Av]
def PsAt(w:Ap)(rg:Nat)(vs:List LV)(pss:List (List Int)):Prop:=∀(i:Nat) (v:LV) (ps:List Int),vs[i]? = some v->pss[i]? = some ps->ps.length=v.pn/\v.pn<=1000000/\∀u,Zaa (λ k=>k=rg) w u->RdG encI u v.pa ps
structure GI(w u:Ap)(base rg rn rc kg kn:Nat)(vs:List LV)(Bg X:List Int):Prop where
 rows:OwnG encL 63 u base (Aa (some ⟨rg,0,none⟩) rn rc) (wgen vs X)
 known:OwnG encI 3 u kg (Aa (some ⟨kg,0,none⟩) kn kn) (Bg++X)
 turn:Zaa (λ k=>k=rg) w u
theorem GI.next {w u u':World} {base rg rn rc kg kn:Nat} {vs:List LV} {Bg X:List Int} {v:Value} (h:GI w u base rg rn rc kg kn vs Bg X) (hkg:w.heap.size=kg) (ht:Zaa (λ k=>v.ownBlock=some k) u u') (h1:∀ g,v.ownBlock=some g->kg<=g/\g≠kg) (hr:rg<kg):GI w u' base rg rn rc kg kn vs Bg X :=
 ⟨h.rows.stays ht (fun g q r => by have := (h1 g r).1; have e : rg = g := by simpa [Value.ownBlock] using q
                                   omega), h.known.stays ht (fun g q r => by have := (h1 g r).2; have e : kg = g := by simpa [Value.ownBlock] using q
                                                                             omega),
  h.turn.trans ht (λ k hk q=>by have:=(h1 k q).1; omega)⟩
theorem Zj8{I:Nat}{pss:List (List Int)}
  (hB:RdG encL w ba bvs) (ak:bvs.length=bn) (aj:∀v∈bvs,1<=v.gen/\v.gen<=250) (n:OwnG encL 63 w base (Aa (some ⟨rg,0,none⟩) c I) vs) (hz:∀v∈vs,v.gen=0)
  (hP:PsAt w rg vs pss)
  (ax:pss.length=c) (hR:Zaz bn pss rk) (hG:Gens (bvs.map (·.gen)) pss G) (hs:bn+c<=100000) :
  At Am 33 #[Aa ba bn bc,Aa (some ⟨rg,0,none⟩) c I] w λ e w'=>e=.returned (Af #[])/\Hid (OwnG encL 63 w' base (Aa (some ⟨rg,0,none⟩) c I) (wgen vs G)/\Zaa (λ k=>k=rg) w w'):=by
 obtain⟨d,a8⟩:=Xa (bn+c)
 obtain⟨a,ab⟩:=Xa w.heap.size
 obtain⟨Bg,K⟩:=Xa (bvs.map (·.gen))
 rw[K]at hG
 have ai:Bg.length=bn:=by rw[<- K,AQ];exact ak
 have aU:vs.length=c:=Zam n
 have aF:G.length=c:=by rw[hG.len];exact ax
 have aP:rg<a:=by rw[<- ab];exact(C2 n rg rfl).2
 have aE:∀g∈Bg,1<=g:=by
  intro g hg;rw[<- K]at hg;obtain⟨v,hv,rfl⟩:=List.mem_map.1 hg;exact(aj v hv).1
 obtain⟨w1,ar,O1,B1⟩:=Zgs d (by omega) w
 have en:(d:Int)=(bn:Int)+(c:Int):=by omega
 rw[en]at ar;rw[ab]at ar O1 B1
 have H:Hid (RdG encL w ba bvs/\(∀v∈bvs,1<=v.gen/\v.gen<=250)/\OwnG encL 63 w base (Aa (some ⟨rg,0,none⟩) c I) vs/\(∀v∈vs,v.gen=0)/\Zaz Bg.length pss rk/\Gens Bg pss G/\(∀g∈Bg,1<=g)):=⟨hB,aj,n,hz,by rw[ai];exact hR,hG,aE⟩
 have HP:Hid (PsAt w rg vs pss):=hP
 have r:Hid (bvs.map (·.gen)=Bg/\Bg.length=bn/\vs.length=c/\G.length=c/\pss.length=c/\bn+c=d/\w.heap.size=a/\rg<a/\bvs.length=bn):=⟨K,ai,aU,aF,ax,a8,ab,aP,ak⟩
 have G1:Hid (OwnG encI 3 w1 a (Aa (some ⟨a,0,none⟩) d d) (Bg.take 0++Bb (d - 0) 0)/\An a w w1):=⟨by simpa using O1,B1⟩
 clear hB aj n hz hP hR hG K ai aU aF aP aE O1 B1 ab ax ak;go_enter func33,ntmps33;go_wp2_with fail;clear ar en;go_loopg[21] bn (λ k v wr=>∃i:Nat,v=Ab Ak i/\i+k=bn/\Hid (OwnG encI 3 wr a (Aa (some ⟨a,0,none⟩) d d) (Bg.take i++Bb (d - i) 0)/\An a w wr))
 case atStart=>exact⟨0,rfl,by omega,G1.o⟩
 case round =>
  obtain⟨i,rfl,hi,A⟩:=hrel;clear G1;by_cases aZ:i<bn
  ·have id:(i:Int)<(bn:Int):=by omega
   have ik:(i:Int)<(d:Int):=by omega
   have an:i<bvs.length:=by rw[r.o.2.2.2.2.2.2.2.2];exact aZ
   obtain⟨y,hy⟩:=Xa (bvs[i])
   have ag:bvs[i]? = some y:=by rw[Aq an,hy]
   have O:An w.heap.size w wr:=by rw[r.o.2.2.2.2.2.2.1];exact A.o.2
   obtain⟨b,off,rfl,_⟩:=H.o.1.some_of ag;obtain⟨c0,c1,c2,c3,c4,c5⟩:=(H.o.1.below O).lrows ag;have aW:=H.o.2.1 y (by rw[<- hy];exact Cx an)
   have N:Bg[i]? = some y.gen:=by rw[<- r.o.1,Bc,ag];rfl
   obtain⟨rid,aD,aC,pa,pn,pc,rgen,fa,fn,fc⟩:=y;simp only at c0 c1 c2 c3 c4 c5 aW N
   obtain⟨W1,M⟩:=Xb (wr.alloc (.cells #[Ab Al (rid.toNat:Int),Ab Al (aD.toNat:Int),Ab Ak aC,Aa pa pn pc,Ab Ak rgen,Aa fa fn fc] 63))
   obtain⟨Z,hZ⟩:=Xa wr.heap.size
   have z4:W1.cell? ⟨Z,4,none⟩=some (Ab Ak rgen):=by rw[M,<- hZ];simp
   have Q:(Bg.take i++Bb (d - i) 0).length=d:=by
    have:=r.o.2.1;rw[AD,AM,List.length_replicate];omega
   have OW:OwnG encI 3 W1 a (Aa (some ⟨a,0,none⟩) d d) (Bg.take i++Bb (d - i) 0):=by rw[M];exact A.o.1.below (bz1 _ _)
   obtain⟨k0,f0⟩:=Zhf OW (i:=i) (by rw[Q];omega)
   obtain⟨z,hz⟩:∃z,W1.cell? ⟨a,i,none⟩=some z:=⟨_,k0⟩
   have T:=ZhD OW (i:=i) (by rw[Q];omega) rgen
   have ah:(Bg.take i++Bb (d - i) 0).set i rgen=Bg.take (i+1)++Bb (d - (i+1)) 0:=by
    have bf:=r.o.2.1
    have e1:(Bg.take i).length=i:=by rw[AM];omega
    rw[Fm _ _ (by omega),e1,Nat.sub_self,show d - i=(d - (i+1))+1 by omega,EI,List.set_cons_zero,AO,N];simp
   rw[ah]at T
   have PU:Hid (OwnG encI 3 (W1.setCell ⟨a,i,none⟩ (Ab Ak rgen)) a (Aa (some ⟨a,0,none⟩) d d) (Bg.take (i+1)++Bb (d - (i+1)) 0)/\An a w (W1.setCell ⟨a,i,none⟩ (Ab Ak rgen))):=by
    refine⟨T,?_⟩;have aA:=r.o.2.2.2.2.2.2.1
    have b2:An a w W1:=by rw[M];exact A.o.2.trans ((bz1 wr _).mono (by have:=A.o.2.size;omega))
    exact b2.trans ((Zad i _).below (by have:=b2.size;omega) (λ k F e=>by have e':k=a:=e;omega))
   have m1:¬rgen<1:=by omega
   have m2:(if(1:Int)<rgen then rgen else 1)=rgen:=by split <;> omega
   clear ah T OW k0 Q N aW hy ag an O A
   go_upto_region 4 with fail
   rw[<- M];clear M hZ c0 c1 c2 c3 c4 c5;go_wp2_with fail;go_roundg (gk - 1)
   case measure=>omega
   case rel=>exact⟨i+1,by go_num,by omega,by first | exact PU.o | (rw[show max 1 rgen=rgen by omega];exact PU.o)⟩
  ·obtain rfl:i=bn:=by omega
   have id:¬(i:Int)<(i:Int):=by omega
   have G2:Hid (∃X,GI w wr base rg c I a d vs Bg X/\XI G X/\∀j,j<0->X[j]? = G[j]?):=by
    obtain⟨l1,l2,l3,l4,l5,l6,l7,l8,l9⟩:=r.o
    have O:An w.heap.size w wr:=by rw[l7];exact A.o.2
    refine⟨Bb G.length 0,⟨?_,?_,Zaa.ofBelow O⟩,XI.zero G,λ j hj=>absurd hj (DC _)⟩
    ·rw[l4,<- l3,ZgD H.o.2.2.2.1,l3];exact H.o.2.2.1.below O
    ·have h:=A.o.1;rw[Av (by omega),show d - i=G.length by omega]at h;exact h
   clear A;go_wp2_with fail;go_loopg[35] c (λ k v wr=>∃j:Nat,v=Ab Ak j/\j+k=c/\Hid (∃X,GI w wr base rg c I a d vs Bg X/\XI G X/\∀q,q<j->X[q]? = G[q]?))
   case atStart=>exact⟨0,rfl,by omega,G2.o⟩
   case round =>
    obtain⟨j,rfl,hj,A⟩:=hrel;clear G2;by_cases a0:j<c
    ·obtain⟨go,al⟩:=Xb gk
     rw[<- al]at hj;have GO:Hid (go=gk):=al;clear al
     have jd:(j:Int)<(c:Int):=by omega
     have w1:Ak.wrap ((i:Int)+(j:Int))=(i:Int)+(j:Int):=by rw[Au];omega
     obtain⟨X,t⟩:=A.o
     have L3:Hid (∃X' W,mu rk c X' W=mu rk c X [j]/\WQ rk c j G X' W/\GI w (wr.alloc (.cells #[Ab Ak ((i:Int)+(j:Int))] 3)) base rg c I a d vs Bg X'/\XI G X'/\(∀q,q<j->X'[q]? = G[q]?)/\OwnG encI 3 (wr.alloc (.cells #[Ab Ak ((i:Int)+(j:Int))] 3)) a (Aa (some ⟨wr.heap.size,0,none⟩) 1 1) (W.map (λ q=>((i+q:Nat):Int)))/\(Aa (some ⟨wr.heap.size,0,none⟩) 1 1).ownBlock≠some a):=by
      obtain⟨l1,l2,l3,l4,l5,l6,l7,l8,l9⟩:=r.o;have F:=t.1.turn.size;have bg:=(C2 t.1.known a rfl).2;refine⟨X,[j],rfl,⟨by simp,by simp,by simpa using a0,.inl rfl⟩,?_,t.2.1,t.2.2,?_,?_⟩
      ·exact⟨t.1.rows.below (bz1 _ _),t.1.known.below (bz1 _ _),t.1.turn.alloc _⟩
      ·exact ZnJ encI 3 wr _ a (by omega) _ (by simp[encI])
      ·intro e
       have V:wr.heap.size=a:=by simpa[BY]using e
       omega
     obtain⟨m0,aL⟩:=Xa (mu rk c X [j])
     rw[aL]at L3;clear t aL A;go_wp2_with fail;go_loopg[8] m0 (λ m wv u=>Hid (∃X W,mu rk c X W=m/\WQ rk c j G X W/\GI w u base rg c I a d vs Bg X/\XI G X/\(∀q,q<j->X[q]? = G[q]?)/\OwnG encI 3 u a wv (W.map (λ q=>((i+q:Nat):Int)))/\wv.ownBlock≠some a))
     case atStart=>exact L3.o
     case round =>
      have A:=hrel;clear hrel L3;obtain⟨X,W,hm,hW,D,t,hd,n,R⟩:=A.o;clear A;obtain⟨ao,cap,rfl,o1,o2,o3,o4⟩:=n.form
      rcases List.eq_nil_or_concat W with rfl|⟨W',q,rfl⟩
      ·have C:Hid (∃X,GI w wr base rg c I a d vs Bg X/\XI G X/\∀q,q<j+1->X[q]? = G[q]?):=by
        refine⟨X,D,t,λ q hq=>?_⟩
        rcases Cp q j with h|h
        ·exact hd q h
        ·obtain rfl:q=j:=by omega
         rcases hW.head with e|e
         ·simp at e
         ·exact e.2
       clear hm hW D t hd n R o1 o2 o3 o4;simp only[List.map_nil,List.length_nil];go_wp2_with fail;go_roundg (go - 1)
       case measure=>have:=GO.o;omega
       case rel=>exact⟨j+1,by go_num,by omega,C.o⟩
      ·have hq:q<c:=hW.in_ q (by simp);obtain⟨l1,l2,l3,l4,l5,l6,l7,l8,l9⟩:=r.o
       have l:((W'.concat q).map (λ q=>((i+q:Nat):Int))).length=W'.length+1:=by simp
       obtain⟨g,rfl⟩:=o4 (by rw[l];omega);rw[l]at n R o1 ⊢
       obtain⟨L,hL⟩:=Xa W'.length
       rw[hL]at n R o1 l ⊢
       have aQ:∀j,j<c->rk j<=c:=by rw[<- l5];exact H.o.2.2.2.2.1.le
       have be:L<=100000:=by
        have:=hW.short aQ;simp at this;omega
       obtain⟨B,ap⟩:∃B:Nat,i+q=B:=⟨_,rfl⟩
       have aG:=(Zhf n (i:=L) (by rw[l];omega)).1
       have aI:((W'.concat q).map (λ q=>((i+q:Nat):Int)))[L]'(by rw[l];omega)=(B:Int):=by
        rw[<- ap];simp[<- hL]
       rw[aI]at aG
       obtain⟨v,hv⟩:∃v,vs[q]? = some v:=⟨_,Aq (by omega)⟩
       obtain⟨ps,af⟩:∃ps,pss[q]? = some ps:=⟨_,Aq (by omega)⟩
       obtain⟨x,hx⟩:∃x,X[q]? = some x:=⟨_,Aq (by rw[t.len];omega)⟩
       have U:=Zdy hv hx;obtain⟨r3,r4,f4⟩:=ZmW D.rows U;obtain⟨p1,p2,p3⟩:=HP.o q v ps hv af;have ae:=H.o.2.2.2.2.1.in_ ps (AY af);rw[l2,l5,l6]at ae
       have aq:(Bg++X).length=d:=by rw[AD,t.len];omega
       obtain⟨pa,ac⟩:=Xa v.pa
       obtain⟨pn,ad⟩:=Xa v.pn
       obtain⟨pc,aw⟩:=Xa v.pc
       have a9:wr.cell? ⟨rg,q*6+3,none⟩=some (Aa pa pn pc):=by rw[<- ac,<- ad,<- aw];exact r3
       have bb:wr.cell? ⟨rg,q*6+4,none⟩=some (Ab Ak x):=r4;rw[ac]at p3;rw[ad]at p1 p2
       obtain⟨ur,aB⟩:=Xa (unkR (Bg++X) ps)
       have aT:=Zpj (w:=wr) (kc:=d) (pc:=pc) D.known.rdc.1 aq (p3 wr D.turn) p1 ae (by omega) ur aB
       have e1:Ak.wrap ((B:Int) - (i:Int))=(q:Int):=by rw[Au];omega
       have qd:(q:Int)<(c:Int):=by omega
       have q0:(0:Int)<=(q:Int):=by omega
       have Ld:(L:Int)<((L+1:Nat):Int):=by omega
       have f:Hid (mu rk c X (W'++[q])=gk/\WQ rk c j G X (W'++[q])/\GI w wr base rg c I a d vs Bg X/\XI G X/\(∀q,q<j->X[q]? = G[q]?)/\OwnG encI 3 wr a (Aa (some ⟨g,0,none⟩) (L+1) cap) ((W'++[q]).map (λ q=>((i+q:Nat):Int)))/\(Aa (some ⟨g,0,none⟩) (L+1) cap).ownBlock≠some a/\i+q=B/\W'.length=L):=by
        rw[List.concat_eq_append]at hm hW n;exact⟨hm,hW,D,t,hd,n,R,ap,hL⟩
       have E:Hid (vs[q]? = some v/\pss[q]? = some ps/\X[q]? = some x/\v.pa=pa/\v.pn=pn/\v.pc=pc/\ps.length=pn/\pn<=1000000/\(∀p∈ps,0<=p/\p<(d:Int))/\(Bg++X).length=d/\unkR (Bg++X) ps=ur/\∀u,Zaa (λ k=>k=rg) w u->RdG encI u pa ps):=⟨hv,af,hx,ac,ad,aw,p1,p2,ae,aq,aB,p3⟩
       have bh:(B:Int)<(d:Int):=by omega
       clear hm hW D t hd n R o1 o2 o3 o4 l hL aI ap hv af hx U r3 r4 p1 p2 p3 ae aq ac ad aw aB l1 l2 l3 l4 l5 l6 l7 l8 l9;go_wp2_with fail;refine aT.mono ?_;rintro e w2 ⟨rfl,rfl⟩;clear aT aG;obtain⟨up,ub⟩:=ur
       cases ub with
       | true =>
        obtain⟨q',av,az,aV,aO⟩:=Zni H.o.2.2.2.2.2.2 H.o.2.2.2.2.1 (by rw[f.o.2.2.2.1.len,r.o.2.2.2.1,r.o.2.2.2.2.1]) E.o.2.1 E.o.2.2.2.2.2.2.2.2.2.2.1;rw[r.o.2.1]at av;rw[r.o.2.2.2.2.1]at az;have ay:=f.o.2.1.push az aV aO;have n:=f.o.2.2.2.2.2.1
        have aA:a<=w2.heap.size:=by rw[<- r.o.2.2.2.2.2.2.1];exact f.o.2.2.1.turn.size
        have l:((W'++[q]).map (λ q=>((i+q:Nat):Int))).length=L+1:=Zam n
        have PP:Hid (up=((i+q':Nat):Int)/\WQ rk c j G X (W'++[q]++[q'])/\mu rk c X (W'++[q]++[q'])<gk):=⟨av,ay.1,by rw[<- f.o.1];exact ay.2⟩
        clear av az aV aO ay;go_wp2_with(at_builtin;refine Zag encI 3 23 8 (Ab Ak 0) rfl Tryz.info3 underlying23 rfl (.tmp 68) (.tmp 70) rfl a _ _ up _ rfl n rfl (by rw[l];omega) (by rw[l];simp only[AG];omega) aA _ rfl ?_;intro v4 w4 au aX aM aS)
        have C:Hid (∃X' W,mu rk c X' W=mu rk c X (W'++[q]++[q'])/\WQ rk c j G X' W/\GI w w4 base rg c I a d vs Bg X'/\XI G X'/\(∀q,q<j->X'[q]? = G[q]?)/\OwnG encI 3 w4 a v4 (W.map (λ q=>((i+q:Nat):Int)))/\v4.ownBlock≠some a):=by
         refine⟨X,W'++[q]++[q'],rfl,PP.o.2.1,f.o.2.2.1.next r.o.2.2.2.2.2.2.1 aS (λ k F=>⟨(C2 n k F).1,λ e=>?_⟩) r.o.2.2.2.2.2.2.2.1,f.o.2.2.2.1,f.o.2.2.2.2.1,?_,?_⟩
         ·rw[e]at F;exact f.o.2.2.2.2.2.2.1 F
         ·rw[BS (l₁:=W'++[q])];rw[PP.o.1]at au;exact au
         ·rcases aM with e|e
          ·rw[e];exact f.o.2.2.2.2.2.2.1
          ·intro V;have h1:=e a V;have h2:=(C2 f.o.2.2.1.known a rfl).2;omega
        clear au aX aM aS n aA l;go_wp2_with fail;go_roundg (mu rk c X (W'++[q]++[q']))
        case measure=>exact PP.o.2.2
        case rel=>exact C.o
       | false =>
        have J:=Zom H.o.2.2.2.2.1 H.o.2.2.2.2.2.1 f.o.2.2.2.1 E.o.2.1 E.o.2.2.2.2.2.2.2.2.2.2.1
        obtain⟨s,am⟩:=Xa (genF (Bg++X) ps)
        rw[am]at J
        have aY:s≠0:=by
         have:=Zf5 (Bg++X) ps;omega
        have aN:=f.o.2.1.pop f.o.2.2.2.1 J aY aQ;have aH:=Zg7 (w:=w2) (kc:=d) (pc:=pc) f.o.2.2.1.known.rdc.1 E.o.2.2.2.2.2.2.2.2.2.1 (E.o.2.2.2.2.2.2.2.2.2.2.2 w2 f.o.2.2.1.turn) E.o.2.2.2.2.2.2.1 E.o.2.2.2.2.2.2.2.2.1 (by have:=E.o.2.2.2.2.2.2.2.1;omega) s am;clear am;go_wp2_with fail;refine aH.mono ?_;rintro e w3 ⟨rfl,rfl⟩;clear aH
        obtain⟨Y,aa⟩:=Xb (w3.setCell ⟨rg,q*6+4,none⟩ (Ab Ak s))
        have D:=f.o.2.2.1;have n:=f.o.2.2.2.2.2.1;have U:=Zdy E.o.1 E.o.2.2.1
        have T4:Zaa (λ k=>k=rg) w3 Y:=by rw[aa];exact Zad _ _
        have R4:OwnG encL 63 Y base (Aa (some ⟨rg,0,none⟩) c I) (wgen vs (X.set q s)):=by
         have:=Znu D.rows U s;have e:(v.wg x).wg s=v.wg s:=rfl;rw[e,Zi5 s E.o.1]at this;rw[aa];exact this
        have aJ:g≠rg:=by
         intro e;have:=(C2 n g rfl).1;have:=r.o.2.2.2.2.2.2.2.1;omega
        have aK:a≠rg:=by
         have:=r.o.2.2.2.2.2.2.2.1;omega
        have O4:=n.stays T4 (λ k F e=>by
         have e1:g=k:=by simpa[BY]using F
         have V:k=rg:=e
         exact aJ (e1.trans V))
        have K4:=D.known.stays T4 (λ k F e=>by
         have e1:a=k:=by simpa[BY]using F
         have V:k=rg:=e
         exact aK (e1.trans V))
        have P:B<(Bg++X).length:=by
         rw[E.o.2.2.2.2.2.2.2.2.2.1];omega
        have l:((W'++[q]).map (λ q=>((i+q:Nat):Int))).length=L+1:=Zam n
        have c1:Y.cell? ⟨g,L,none⟩=some (Ab Ak (B:Int)):=by
         have h:=(Zhf O4 (i:=L) (by rw[l];omega)).1
         have e:((W'++[q]).map (λ q=>((i+q:Nat):Int)))[L]'(by rw[l];omega)=(B:Int):=by
          rw[<- f.o.2.2.2.2.2.2.2.1];simp[<- f.o.2.2.2.2.2.2.2.2]
         rw[e]at h;exact h
        have c2:Y.cell? ⟨rg,q*6+4,none⟩=some (Ab Ak s):=(ZmW R4 (Zdy E.o.1 (Cl (by rw[f.o.2.2.2.1.len];exact(AC.1 J).1)))).2.1;obtain⟨c3,f3⟩:=Zhf K4 P
        obtain⟨z,hz⟩:∃z,Y.cell? ⟨a,B,none⟩=some z:=⟨_,c3⟩
        have K5:=ZhD K4 P s
        have aR:(Bg++X).set B s=Bg++X.set q s:=by
         have h1:=r.o.2.1;have h2:=f.o.2.2.2.2.2.2.2.1;rw[Fm _ _ (by omega),show B - Bg.length=q by omega]
        rw[aR]at K5
        have C:Hid (∃X' W,mu rk c X' W=mu rk c (X.set q s) W'/\WQ rk c j G X' W/\GI w (Y.setCell ⟨a,B,none⟩ (Ab Ak s)) base rg c I a d vs Bg X'/\XI G X'/\(∀q,q<j->X'[q]? = G[q]?)/\OwnG encI 3 (Y.setCell ⟨a,B,none⟩ (Ab Ak s)) a (Aa (some ⟨g,0,none⟩) L cap) (W.map (λ q=>((i+q:Nat):Int)))/\(Aa (some ⟨g,0,none⟩) L cap).ownBlock≠some a):=by
         have T5:Zaa (λ k=>k=a) Y (Y.setCell ⟨a,B,none⟩ (Ab Ak s)):=Zad _ _;refine⟨X.set q s,W',rfl,aN.1,⟨R4.stays T5 (λ k F e=>?_),K5,(D.turn.trans T4 (λ k _ e=>e)).trans T5 (λ k F e=>?_)⟩,f.o.2.2.2.1.set J,λ y hy=>?_,?_,f.o.2.2.2.2.2.2.1⟩
         ·have e1:rg=k:=by simpa[BY]using F
          have V:k=a:=e;omega
         ·have V:k=a:=e;have:=r.o.2.2.2.2.2.2.1;omega
         ·by_cases e:q=y
          ·subst e;rw[Cl (by rw[f.o.2.2.2.1.len];exact(AC.1 J).1),J]
          ·rw[CA e];exact f.o.2.2.2.2.1 y hy
         ·have h:=(O4.stays T5 (λ k F e=>by
           have e1:g=k:=by simpa[BY]using F
           have V:k=a:=e
           exact f.o.2.2.2.2.2.2.1 (by simp[BY,e1,V]))).front (k:=L) (by omega)
          have e:((W'++[q]).map (λ q=>((i+q:Nat):Int))).take L=W'.map (λ q=>((i+q:Nat):Int)):=by
           rw[BS,FG (by rw[AQ];exact f.o.2.2.2.2.2.2.2.2)]
          rw[e]at h;exact h
        have bd:L+1<=cap:=n.rdc.2
        have MS:Hid (mu rk c (X.set q s) W'<gk):=by rw[<- f.o.1];exact aN.2
        clear D n U T4 R4 O4 K4 P l K5 aR c3 aJ aK
        go_upto_region 17 with fail
        rw[<- aa];clear aa f4 a9 bb
        have Lc:(L:Int)<=(cap:Int):=by omega
        have L0:(0:Int)<=(L:Int):=by omega
        have i0:(0:Int)<=(B:Int):=by omega
        go_region;go_wp2_with fail;go_roundg (mu rk c (X.set q s) W')
        case measure=>exact MS.o
        case rel =>
         obtain⟨X',W,a1,a2,a3,a4,a5,a6,a7⟩:=C.o;exact⟨X',W,a1,a2,⟨a3.rows.below (Below.refl _ _).drew,a3.known.below (Below.refl _ _).drew,a3.turn.trans (Zaa.ofBelow (S:=λ _=>False) (Below.refl _ _).drew) (λ _ _ q=>q.elim)⟩,a4,a5,a6.below (Below.refl _ _).drew,a7⟩
    ·obtain rfl:j=c:=by omega
     have jd:¬(j:Int)<(j:Int):=by omega
     have C:Hid (OwnG encL 63 wr base (Aa (some ⟨rg,0,none⟩) j I) (wgen vs G)/\Zaa (λ k=>k=rg) w wr):=by
      obtain⟨X,D,t,hd⟩:=A.o
      have e:X=G:=by
       refine List.ext_getElem? (λ q=>?_)
       rcases Cp q j with h|h
       ·exact hd q h
       ·rw[AL (by rw[t.len,r.o.2.2.2.1];exact h),AL (by rw[r.o.2.2.2.1];exact h)]
      subst e;exact⟨D.rows,D.turn⟩
     clear A;go_wp2;refine bodyPost_end (v:=Af #[]) (results_none rfl _ _ _) rfl ?_;exact⟨rfl,C.o⟩
def plc(Q:List UInt64)(x:UInt64):Option Nat:=if x∈Q then some (Q.idxOf x)else none
def mpv(Q:List UInt64):UInt64->Option Ar:=λ x=>(plc Q x).map (λ i=>Ab Ak (i:Int))
theorem Zjp(h:x∈Q):plc Q x=some (Q.idxOf x):=AE h
theorem Zf9(h:¬x∈Q):plc Q x=none:=Aw h
theorem Znp(h:¬x∈Q):gput (mpv Q) x (Ab Ak (Q.length:Int))=mpv (Q++[x]):=by
 funext y
 unfold gput mpv plc;by_cases e:y=x
 ·subst e;rw[AE rfl,AE (by simp),DW,Aw h];simp
 ·rw[Aw e];by_cases a:y∈Q
  ·rw[AE a,AE (by simp[a]),DW,AE a]
  ·rw[Aw a,Aw (by simp[a,e])]
theorem zeroI(w:Ap):(zeroValue 3).run Am w=.ok (Ab Ak 0) w:=by
 obtain⟨i0,a,b,_,_⟩:=info_parts Tryz.info3;simp[zeroValue,typeInfo,a,b]
theorem mapI:Am.underlying 87=some (.map kU.ty 3):=by kernel_rfl
theorem Zm5(z:Int)(w:Ap):(GX 87 (some (Ab Ak z))).run Am w=.ok (.map (some w.heap.size)) (w.alloc (.map #[] 0)):=by
 simp[GX,run_underlying mapI,asInt,asIntOf]
structure PM(w u:Ap)(m:Nat)(Q:List UInt64):Prop where
 map:MapG kU u m (mpv Q) Q.length
 bel:An m w u
 size:w.heap.size=m
theorem PM.below{u':Ap}(h:PM w u m Q)(a:An u.heap.size u u'):PM w u' m Q :=
 ⟨h.map.turned (S:=λ _=>False) (Zaa.ofBelow a) (λ q=>q),h.bel.trans (a.mono (CD h.map.lt)),h.size⟩
theorem PM.put(h:PM w u m Q)(x:UInt64)(b:¬x∈Q)(j:Q.length<=1000000)(z:Int)(f:z=(Q.length:Int)):
  ∃u',(Instr.mapUpdate 87 (.map (some m)) (Ab Al (x.toNat:Int)) (Ab Ak z)).run Am u=.ok () u'/\PM w u' m (Q++[x]):=by
 subst f;obtain⟨u',c,a,d⟩:=h.map.put mapI x trivial (by simp only[AG];omega) (Ab Ak (Q.length:Int));refine⟨u',c,⟨?_,h.bel.trans (((Zaa.refl (λ k=>k=m) u).grown d (λ k _ e=>(Option.some.inj e).symm)).below (CD h.map.lt) (λ k i e=>by have g:k=m:=e;omega)),h.size⟩⟩;rw[Znp b]at a
 have e:(mpv Q x).isSome=false:=by
  unfold mpv;rw[Zf9 b]
  rfl
 rw[e]at a;rw[AD];exact a
theorem Ze2(h:Q.Nodup)(d:¬x∈Q):(Q++[x]).Nodup:=by
 rw[Cg];exact⟨h,by simp,λ a f b c e=>by rw[A2]at c;rw[<- c,<- e]at d;exact d f⟩
theorem Zkh{W:Option Addr}{ids:List UInt64}(hB:RdG encL w ba bvs)(D:bvs.length=bn)(F:(bvs.map (·.id)).Nodup)(hI:RdG encU w W ids)(hn:ids.length=n)(hs:bn+n<=100000):
  At Am 30 #[Aa ba bn bc,Aa W n c] w λ e w'=>∃X r,e=.returned (Af #[X,Ab Ak r])/\Hid ((((bvs.map (·.id)++ids).Nodup/\r=0/\X=.map (some w.heap.size)/\PM w w' w.heap.size (bvs.map (·.id)++ids))∨(¬(bvs.map (·.id)++ids).Nodup/\r=6/\X=.map none))/\An w.heap.size w w'):=by
 obtain⟨m,E⟩:=Xa w.heap.size
 obtain⟨d,t⟩:=Xa (bvs.map (·.id))
 have O:=Zm5 ((bn:Int)+(n:Int)) w
 have aa:Ak.wrap ((bn:Int)+(n:Int))=(bn:Int)+(n:Int):=by rw[Au];omega
 rw[E]at O;rw[t]at F
 have H:Hid (RdG encL w ba bvs/\bvs.length=bn/\d.Nodup/\RdG encU w W ids/\ids.length=n/\bvs.map (·.id)=d/\d.length=bn/\w.heap.size=m):=⟨hB,D,F,hI,hn,t,by rw[<- t,AQ];exact D,E⟩
 have Y:Hid (PM w (w.alloc (.map #[] 0)) m (d.take 0)):=⟨by
  rw[<- E];have h:MapG kU (w.alloc (.map #[] 0)) w.heap.size (λ _=>none) 0:=MapG.new (by unfold World.alloc;simp)
  have e:mpv (d.take 0)=λ _=>none:=by funext x;simp[mpv,plc]
  rw[e]
  exact h,by rw[<- E];exact bz1 _ _,E⟩
 rw[t,E];clear hB D F hI hn t E;go_enter func30,ntmps30;go_wp2_with fail;clear O;go_loopg[21] bn (λ k v wr=>∃i:Nat,v=Ab Ak i/\i+k=bn/\Hid (PM w wr m (d.take i)))
 case atStart=>exact⟨0,rfl,by omega,Y.o⟩
 case round =>
  obtain⟨i,rfl,hi,f⟩:=hrel;clear Y;by_cases S:i<bn
  ·have id:(i:Int)<(bn:Int):=by omega
   have p:i<bvs.length:=by rw[H.o.2.1];exact S
   obtain⟨y,hy⟩:=Xa (bvs[i])
   have C:bvs[i]? = some y:=by rw[Aq p,hy]
   have l:An w.heap.size w wr:=by rw[f.o.size];exact f.o.bel
   obtain⟨b,off,rfl,_⟩:=H.o.1.some_of C;obtain⟨c0,c1,c2,c3,c4,c5⟩:=(H.o.1.below l).lrows C;have R:=H.o.2.2.2.2.2.2.1
   have L:d[i]? = some y.id:=by rw[<- H.o.2.2.2.2.2.1,Bc,C];rfl
   have M:i<d.length:=by omega
   have a:d.take (i+1)=d.take i++[y.id]:=by rw[AO,L];rfl
   have G:¬y.id∈d.take i:=by
    have h:=H.o.2.2.1;rw[<- Ch (i+1) d,a]at h;have h2:=(Cg.1 (Cg.1 h).1).2.2;intro q;exact h2 _ q _ (by simp) rfl
   obtain⟨rid,J,I,pa,pn,pc,rgen,fa,fn,fc⟩:=y;simp only at c0 c1 c2 c3 c4 c5 a G
   obtain⟨W1,B⟩:=Xb (wr.alloc (.cells #[Ab Al (rid.toNat:Int),Ab Al (J.toNat:Int),Ab Ak I,Aa pa pn pc,Ab Ak rgen,Aa fa fn fc] 63))
   obtain⟨Z,hZ⟩:=Xa wr.heap.size
   have z0:W1.cell? ⟨Z,0,none⟩=some (Ab Al (rid.toNat:Int)):=by rw[B,<- hZ];simp
   have K:PM w W1 m (d.take i):=by rw[B];exact f.o.below (bz1 _ _)
   have z:(d.take i).length=i:=by rw[AM];omega
   obtain⟨Q,U,u⟩:=K.put rid G (by omega) (i:Int) (by rw[z])
   have g:Hid (PM w Q m (d.take (i+1))):=by rw[a];exact u
   clear p hy C l R L M a G K z u f
   go_upto_region 5 with fail
   rw[<- B];clear B hZ c0 c1 c2 c3 c4 c5;go_wp2_with fail;go_roundg (gk - 1)
   case measure=>omega
   case rel=>exact⟨i+1,by go_num,by omega,g.o⟩
  ·obtain rfl:i=bn:=by omega
   have id:¬(i:Int)<(i:Int):=by omega
   have a:d.take i=d:=Av (by rw[H.o.2.2.2.2.2.2.1];exact Az _)
   have G1:Hid (PM w wr m (d++ids.take 0)/\(d++ids.take 0).Nodup):=by
    have h:=f.o;rw[a]at h;simpa using⟨h,H.o.2.2.1⟩
   clear f a;go_wp2_with fail;go_loopg[33] n (λ k v wr=>∃j:Nat,v=Ab Ak j/\j+k=n/\Hid (PM w wr m (d++ids.take j)/\(d++ids.take j).Nodup))
   case atStart=>exact⟨0,rfl,by omega,G1.o⟩
   case round =>
    obtain⟨j,rfl,hj,f⟩:=hrel;clear G1;by_cases T:j<n
    ·have jd:(j:Int)<(n:Int):=by omega
     have p:j<ids.length:=by rw[H.o.2.2.2.2.1];exact T
     obtain⟨x,V⟩:=Xa (ids[j])
     have A:ids[j]? = some x:=by rw[Aq p,V]
     have l:An w.heap.size w wr:=by rw[f.o.1.size];exact f.o.1.bel
     obtain⟨b,off,rfl,_⟩:=H.o.2.2.2.1.some_of A;have cx:=((H.o.2.2.2.1.below l).nums A).2;have s:=f.o.1.map.look mapI (zeroI wr) x trivial
     have a:ids.take (j+1)=ids.take j++[x]:=by rw[AO,A];rfl
     have e1:Ak.wrap ((i:Int)+(j:Int))=(i:Int)+(j:Int):=by rw[Au];omega
     by_cases hq:x∈d++ids.take j
     ·have P:mpv (d++ids.take j) x=some (Ab Ak ((d++ids.take j).idxOf x:Int)):=by unfold mpv;rw[Zjp hq];rfl
      rw[P]at s;have N:(Db 87 (.map (some m)) (Ab Al (x.toNat:Int)) true).run Am wr=.ok (Af #[Ab Ak ((d++ids.take j).idxOf x:Int),Ad true]) wr:=s
      have g:Hid (¬(d++ids).Nodup/\An m w wr):=by
       refine⟨λ q=>?_,f.o.1.bel⟩;rw[<- Ch (j+1) ids,a,<- A9,<- A9]at q;exact(Cg.1 (Cg.1 q).1).2.2 x hq x (by simp) rfl
      clear f s p V A l a hq P;go_wp2_with fail;refine As (AA rfl _ _ _) rfl ?_;exact⟨_,_,rfl,.inr ⟨g.o.1,rfl,rfl⟩,g.o.2⟩
     ·have P:mpv (d++ids.take j) x=none:=by unfold mpv;rw[Zf9 hq];rfl
      rw[P]at s;have N:(Db 87 (.map (some m)) (Ab Al (x.toNat:Int)) true).run Am wr=.ok (Af #[Ab Ak 0,Ad false]) wr:=s
      have z:(d++ids.take j).length=i+j:=by
       have:=H.o.2.2.2.2.2.2.1;rw[AD,AM];omega
      obtain⟨Q,U,u⟩:=f.o.1.put x hq (by omega) ((i:Int)+(j:Int)) (by rw[z];omega)
      have g:Hid (PM w Q m (d++ids.take (j+1))/\(d++ids.take (j+1)).Nodup):=by
       rw[a,<- A9];exact⟨u,Ze2 f.o.2 hq⟩
      clear f s p V A l a hq P u z;go_wp2_with fail;go_roundg (gk - 1)
      case measure=>omega
      case rel=>exact⟨j+1,by go_num,by omega,g.o⟩
    ·obtain rfl:j=n:=by omega
     have jd:¬(j:Int)<(j:Int):=by omega
     have a:ids.take j=ids:=Av (by rw[H.o.2.2.2.2.1];exact Az _);rw[a]at f;clear a;go_wp2;refine As (AA rfl _ _ _) rfl ?_;exact⟨_,_,rfl,.inl ⟨f.o.2,rfl,rfl,f.o.1⟩,f.o.1.bel⟩
def pps(Q:List UInt64)(ps:List UInt64):List Int:=ps.map (λ p=>(Q.idxOf p:Int))
theorem Zie{tree:UInt64}{pa:Option Addr}{pn pc:Nat}{date:Int}{note:Bs}{ps:List UInt64}(M:MapG kU w m (mpv Q) Q.length)(O:RdG encU w pa ps)(R:ps.length=pn)(Y:pn<=1000000):
  At Am 32 #[.map (some m),.agg #[Ab Al (tree.toNat:Int),Aa pa pn pc,Ab Ak date,tx note]] w λ e w'=>∃v r,e=.returned (Af #[v,Ab Ak r])/\Hid ((((∀p∈ps,p∈Q)/\r=0/\OwnG encI 3 w' w.heap.size v (pps Q ps))∨(¬(∀p∈ps,p∈Q)/\r=14/\v=Aa none 0 0))/\An w.heap.size w w'):=by
 obtain⟨d,g⟩:=Xa w.heap.size
 have H:Hid (MapG kU w m (mpv Q) Q.length/\RdG encU w pa ps/\ps.length=pn/\w.heap.size=d):=⟨M,O,R,g⟩
 obtain⟨C,l⟩:=Xb (w.alloc (.cells #[Ab Al (tree.toNat:Int),Aa pa pn pc,Ab Ak date,tx note] 58))
 have W:C.cell? ⟨d,1,none⟩=some (Aa pa pn pc):=by rw[l,<- g];simp
 have J:Hid (An d w C):=by rw[l,<- g];exact bz1 _ _
 rw[g];clear M O R;go_enter func32,ntmps32
 go_upto_region 2 with fail
 rw[<- l];clear l g
 have L:Hid (OwnG encI 3 C d (Aa none 0 0) (pps Q (ps.take 0))/\An d w C/\∀p∈ps.take 0,p∈Q):=⟨OwnG.nil _ _ _ _,J.o,by simp⟩
 clear J;go_wp2_with fail;clear W;go_loopg[6,14] pn (λ k U V wr=>∃i:Nat,V=Ab Ak i/\i+k=pn/\Hid (OwnG encI 3 wr d U (pps Q (ps.take i))/\An d w wr/\∀p∈ps.take i,p∈Q))
 case atStart=>exact⟨0,rfl,by omega,L.o⟩
 case round =>
  obtain⟨i,rfl,hi,f⟩:=hrel;clear L;by_cases E:i<pn
  ·have id:(i:Int)<(pn:Int):=by omega
   have s:i<ps.length:=by rw[H.o.2.2.1];exact E
   obtain⟨x,D⟩:=Xa (ps[i])
   have h:ps[i]? = some x:=by rw[Aq s,D]
   have n:An w.heap.size w wr:=by rw[H.o.2.2.2];exact f.o.2.1
   obtain⟨b,off,rfl,_⟩:=H.o.2.1.some_of h;have X:=((H.o.2.1.below n).nums h).2;have a:=(H.o.1.turned (S:=λ _=>False) (Zaa.ofBelow n) (λ q=>q)).look mapI (zeroI wr) x trivial
   have c:ps.take (i+1)=ps.take i++[x]:=by rw[AO,h];rfl
   by_cases hq:x∈Q
   ·have B:mpv Q x=some (Ab Ak (Q.idxOf x:Int)):=by unfold mpv;rw[Zjp hq];rfl
    rw[B]at a
    obtain⟨z,I⟩:∃z:Int,(Q.idxOf x:Int)=z:=⟨_,rfl⟩
    rw[I]at a;have u:(Db 87 (.map (some m)) (Ab Al (x.toNat:Int)) true).run Am wr=.ok (Af #[Ab Ak z,Ad true]) wr:=a
    have P:(pps Q (ps.take i)).length<=1000000:=by
     unfold pps;rw[AQ,AM];omega
    have K:Hid (pps Q (ps.take (i+1))=pps Q (ps.take i)++[z]/\(∀p∈ps.take (i+1),p∈Q)):=by
     rw[c];refine⟨by unfold pps;rw[BS,<- I];rfl,λ p hp=>?_⟩
     rcases AK.1 hp with q|q
     ·exact f.o.2.2 p q
     ·rw[A2]at q;rw[q];exact hq
    have A:d<=wr.heap.size:=by rw[<- H.o.2.2.2];exact f.o.2.1.size
    have N:=f.o.1;clear a s D h n c hq B I;go_wp2_with(at_builtin;refine Zag encI 3 23 8 (Ab Ak 0) rfl Tryz.info3 underlying23 rfl (.tmp 26) (.tmp 28) rfl d _ _ z _ rfl N rfl (by omega) (by simp only[AG];omega) A _ rfl ?_;intro v4 T y t F G)
    have j:Hid (OwnG encI 3 T d v4 (pps Q (ps.take (i+1)))/\An d w T/\∀p∈ps.take (i+1),p∈Q):=⟨by rw[K.o.1];exact y,f.o.2.1.trans t,K.o.2⟩
    clear y t F G N A;go_wp2_with fail;go_roundg (gk - 1)
    case measure=>omega
    case rel=>exact⟨i+1,by go_num,by omega,j.o⟩
   ·have B:mpv Q x=none:=by unfold mpv;rw[Zf9 hq];rfl
    rw[B]at a;have u:(Db 87 (.map (some m)) (Ab Al (x.toNat:Int)) true).run Am wr=.ok (Af #[Ab Ak 0,Ad false]) wr:=a
    have j:Hid (¬(∀p∈ps,p∈Q)/\An d w wr):=⟨λ q=>hq (q x (by rw[<- D];exact Cx s)),f.o.2.1⟩
    clear f a s D h n c hq B;go_wp2_with fail;refine As (AA rfl _ _ _) rfl ?_;exact⟨_,_,rfl,.inr ⟨j.o.1,rfl,rfl⟩,j.o.2⟩
  ·obtain rfl:i=pn:=by omega
   have id:¬(i:Int)<(i:Int):=by omega
   have c:ps.take i=ps:=Av (by rw[H.o.2.2.1];exact Az _);rw[c]at f;clear c;go_wp2;refine As (AA rfl _ _ _) rfl ?_;exact⟨_,_,rfl,.inl ⟨f.o.2.2,rfl,f.o.1⟩,f.o.2.1⟩
end Go.Proofs.YtlojblelpaegpaaGreat
namespace Go.Proofs.YtlojblelpaegpaaGreat
open Go.RowKit Go.Sort
variable{A B Bg G K X ps:List Int}{Q:List UInt64}{S:Nat->Prop}{W:List Nat}{a base bc bn c i k m n q rg:Nat}{ba:Option Addr}{bvs vs:List LV}{g p:Int}{rk:Nat->Nat}{t:TypeId}{u w:Ap}{v:LV}{x:UInt64}{α:Type}
abbrev uv(x:UInt64):Ar:=Ab Al (x.toNat:Int)
def ltU(x y:UInt64):Bool:=decide (x<y)
def SR(w:Ap)(g:Nat)(d:Array UInt64):Prop:=∃cur:Array Ar,w.heap[g]? = some (.cells cur 44 (0,0))/\∀i,i<d.size->cur[i]? = some (uv d[i]!)
section
variable{w w':World}{g:Nat}{d:Array UInt64}
theorem SR.lt(h:SR w g d):g<w.heap.size:=by
 obtain⟨a,h,_⟩:=h;exact(Array.getElem?_eq_some_iff.1 h).1
theorem SR.cell(h:SR w g d)(hi:i<d.size):w.cell? ⟨g,i,none⟩=some (uv d[i]!):=by
 obtain⟨a,b,c⟩:=h;simp[World.cell?,b,c i hi]
theorem SR.thaw(h:SR w g d)(i:Nat):w.frozen? ⟨g,i,none⟩=false:=by
 obtain⟨a,b,c⟩:=h;simp[World.frozen?,b]
theorem SR.below(h:SR w g d)(e:An w.heap.size w w'):SR w' g d:=by
 have f:=h.lt;obtain⟨a,b,c⟩:=h;exact⟨a,(e.block g f).trans b,c⟩
theorem SR.turned(h:SR w g d)(i:Zaa S w w')(e:¬S g):SR w' g d:=by
 have f:=h.lt;obtain⟨a,b,c⟩:=h;exact⟨a,(i.block g f e).trans b,c⟩
theorem SR.set (h:SR w g d) (i:Nat) (x:UInt64):SR (w.setCell ⟨g,i,none⟩ (uv x)) g (d.setIfInBounds i x):=by
 obtain ⟨cur,h1,h2⟩:=h;refine ⟨cur.setIfInBounds i (uv x),?_,?_⟩
 ·simp [World.setCell,Array.getElem?_modify,h1]
 ·intro j hj
  have hj':j<d.size:=by simpa using hj
  have h3:=h2 j hj';have hjc:j<cur.size:=(Array.getElem?_eq_some_iff.1 h3).1;by_cases e:j=i
  ·subst e;simp [hjc,hj',getElem!_pos]
  ·rw [Array.getElem?_setIfInBounds_ne (Ne.symm e),h3]
   congr 2
   simp [getElem!_pos,hj',Ne.symm e]
theorem SR.swap(h:SR w g d)(i j:Nat):SR ((w.setCell ⟨g,i,none⟩ (uv d[j]!)).setCell ⟨g,j,none⟩ (uv d[i]!)) g (swp d i j):=(h.set i d[j]!).set j d[i]!
theorem Zao(d:Array UInt64)(i j:Nat):(swp d i j).size=d.size:=by simp[swp]
theorem Zqs{a:Ap}(h:Zaa S a w)(b:S g)(i j:Nat)(p q:Ar):Zaa S a ((w.setCell ⟨g,i,none⟩ p).setCell ⟨g,j,none⟩ q):=(h.setCell (.inl b) p).setCell (.inl b) q
end
theorem OwnG.sr {w:World} {base g n cap:Nat} {xs:List UInt64} (h:OwnG encU 44 w base (.slice (some ⟨g,0,none⟩) n cap) xs):SR w g xs.toArray/\xs.length=n:=by
 rcases h.2 with ⟨e,_⟩ | ⟨g',cap',cur,e,h1,h2,h3,h4,h5,h6⟩
 ·cases e
 ·cases e;refine ⟨⟨cur,h2,λ i hi=>?_⟩,rfl⟩
  have hi':i<xs.length:=by simpa using hi
  obtain ⟨b',off',e',_,hc⟩:=h.rdc.1 (by omega);cases e';have h7:=hc i xs[i] (List.getElem?_eq_getElem hi') 0 _ rfl
  have h8:w.cell? ⟨g,i,none⟩=some (uv xs[i]):=by simpa [encU] using h7
  have h9:w.cell? ⟨g,i,none⟩=cur[i]? := by simp [World.cell?,h2]
  rw [<- h9,h8]
  congr 2
  simp [getElem!_pos,hi']
theorem ZlV(x:Int)(w:Ap):At Am 198 #[Ab Al x] w λ e w'=>e=.returned (Ad false)/\w'=w:=by
 go_enter func198,ntmps198;go_wp2;go_ret;exact⟨by simp,rfl⟩
theorem Zn5(x y:UInt64)(f:Bool)(a:ltU x y=f)(w:Ap):At Am 141 #[uv x,uv y] w λ e w'=>e=.returned (Ad f)/\w'=w:=by
 have e:decide (x.toNat<y.toNat)=f:=by
  rw[<- a];unfold ltU;rw[D8,UInt64.lt_iff_toNat_lt]
 have b:=ZlV (x.toNat:Int) w;clear a;go_enter func141,ntmps141;go_wp2_with fail;refine b.mono ?_;rintro c w1 ⟨rfl,rfl⟩;clear b;go_wp2;go_ret;exact⟨by rw[<- e];rfl,rfl⟩
end Go.Proofs.YtlojblelpaegpaaGreat
