import Derived.Test.YtakgkgmopmcecaaGreatM08
import Derived.Lib.SlicesCompact
import Derived.Sort.Walk0
import Derived.Sort.OwnSorted
import Derived.Lib.OwnBridge
set_option maxHeartbeats 6400000
set_option maxRecDepth 100000
open Go renaming Value->Ar,TypeId->AP,World->Ap,bytes->By,Calls->At,bodyPost_ret->As,results_tmp2->AD,callFunc->Ck,below_drewN->AY
open List renaming length_cons->A2,length_set->DB,getElem?_set_ne->CH,getElem?_set_self->Cp,getElem?_cons_succ->Gk,ext_getElem?->CD,getElem?_eq_getElem->Aq,getElem?_eq_none->AM,replicate->Bk,size_toArray->Er,getElem?_map->Bo,length_replicate->DP,getElem_mem->Cy,mem_append->AN,mem_singleton->AZ,le_antisymm->EC,mem_cons_self->Bj,pairwise_cons->Br,mem_cons->Bv,mem_cons_of_mem->Bl,any_eq_true->Ec,foldl_cons->Gu,append_nil->Bz,take_succ_eq_append_getElem->Bh,take_of_length_le->Av,length_mergeSort->GD,eq_nil_of_length_eq_zero->AQ,mem_map->BJ,length_append->Ax,length_singleton->Eo,mem_flatMap->Ft,mem_filter->Gw,length_take_le->CS
open Nat renaming succ_mul->Gp,mul_le_mul_right->Dg,div_lt_of_lt_mul->FC,mul_comm->DY,mod_lt->FU,div_add_mod->Gt,le_refl->AA,eq_zero_or_pos->Cc,add_comm->Gm
open Go.RowKit renaming Below->An
open Go.RowKit.Below renaming refl->Ao
open List.Pairwise renaming nil->Cq
open Go.Lib renaming compact->Dn
open Go.Proofs renaming encStr->Bt
open Go.Value renaming slice->Aa,int->Ab,bool->Ad,string->Ae,tuple->Af,agg->Ag,pointer->Ah
open Go.Obj renaming cells->Ai
open Go.Ending renaming returned->Aj
open Go.IntKind renaming i64->Ak,u64->Al
open Go.Proofs.Tryz renaming prog->Am
open Go.Proofs.Tryz
namespace Go.Proofs.YtakgkgmopmcecaaGreat
open Go.RowKit
variable {S:Nat->Prop}{a d l:List Bs}{ao bo:Option Addr}{b es:List En}{c g i k m n:Nat}{e:En}{f p:Bs}{w w':Ap}{α:Type}
def ny(l:List Ar):List Ar->Nat->List Ar
 | [],_=>l
 | v::t,j=>ny (l.set j v) t (j+1)
theorem Pc:∀(cs l:List Ar) (j k:Nat),j+cs.length<=l.length->(ny l cs j)[k]? = if k<j then l[k]? else if k<j+cs.length then cs[k - j]? else l[k]?
 | [],l,j,k,_=>by
  unfold ny;rw[List.length_nil,Nat.add_zero];by_cases h:k<j;rw[AC h];rw[Ay h,Ay h]
 | v::t,l,j,k,h=>by
  unfold ny;rw[A2]at h;rw[Pc t _ _ _ (by rw[DB];omega)];by_cases a:k<j;rw[AC (by omega),AC a,CH (by omega)];rw[Ay a];by_cases c:k=j;subst c;rw[AC (by omega),AC (by rw[A2];omega),Cp (by omega)];simp;rw[Ay (by omega)];by_cases b:k<j+1+t.length;rw[AC b,AC (by rw[A2];omega),show k - j=(k - (j+1))+1 by omega,Gk];rw[Ay b,Ay (by rw[A2];omega),CH (by omega)]
section
variable {α:Type}{E:ju α}{t:TypeId}{w:World}{base g n cap:Nat}{xs:List α}
theorem gu(hi:i<xs.length)(y:α):ny (E.all xs) (E.cells y) (i*E.size)=E.all (xs.set i y):=by
 have d:i*E.size+E.size<=xs.length*E.size:=by
  rw[<- Gp];exact Dg _ hi
 refine CD (λ k=>?_);rw[Pc _ _ _ _ (by rw[E.len,E.all_length];exact d),E.len];by_cases g:k<xs.length*E.size
 have hq:k / E.size<xs.length:=FC (by rw[DY];exact g);have c:k % E.size<E.size:=FU _ E.pos
 have e:k=k / E.size*E.size+k % E.size:=by rw[DY];exact(Gt k E.size).symm
 obtain⟨q,b⟩:=Xa (k / E.size)
 obtain⟨j,a⟩:=Xa (k % E.size)
 rw[b,a]at e;rw[b]at hq;rw[a]at c;subst e
 have f:(xs.set i y)[q]? = some (if q=i then y else xs[q]):=by
  by_cases e:q=i;subst e;rw[Cp hq,AC rfl];rw[CH (λ z=>e z.symm),Ay e,Aq hq]
 rw[E.all_get (xs.set i y) q j _ f c,E.all_get xs q j xs[q] (Aq hq) c]
 rcases Nat.lt_trichotomy q i with h|h|h
 have:q*E.size+E.size<=i*E.size:=by rw[<- Gp];exact Dg _ h
 rw[AC (by omega),Ay (by omega)]
 subst h;rw[Ay (by omega),AC (by omega),AC rfl,Nat.add_sub_cancel_left]
 have:i*E.size+E.size<=q*E.size:=by rw[<- Gp];exact Dg _ h
 rw[Ay (by omega),Ay (by omega),Ay (by omega)]
 rw[Ay (by omega),Ay (by omega),AM (by rw[E.all_length];omega),AM (by rw[E.all_length,DB];omega)]
theorem Rl{e:AP}{size:Nat}:∀(cs:List Ar) (w:Ap) (l:List Ar) (j:Nat),w.ownsRow base e size (Aa (some ⟨g,0,none⟩) n cap) n l->(jG w g cs j).ownsRow base e size (Aa (some ⟨g,0,none⟩) n cap) n (ny l cs j)
 | [],_,_,_,h=>h
 | v::t,_,_,j,h=>Rl t _ _ _ (h.stored j v).1
theorem gM.lay(h:gM E t w base (Aa (some ⟨g,0,none⟩) n cap) xs)(hi:i<xs.length)(y:α):gM E t (jG w g (E.cells y) (i*E.size)) base (Aa (some ⟨g,0,none⟩) n cap) (xs.set i y):=by
 have a:=DC h
 have b:w.ownsRow base t E.size (Aa (some ⟨g,0,none⟩) n cap) n (E.all xs):=by
  unfold gM at h;rw[a]at h;exact h
 unfold gM;rw[DB,<- gu hi,a];exact Rl _ _ _ _ b
theorem gM.there(h:gM E t w base (Aa (some ⟨g,0,none⟩) n cap) xs)(hi:i<xs.length)(k:Nat)(c:k=E.size)(o:Nat)(f:o=i*E.size):w.there g o k:=by
 subst c f;have e:=DC h;subst e;have a:=h;intro j b;refine⟨?_,a.frozenAt _⟩
 have d:i*E.size+E.size<=xs.length*E.size:=by
  rw[<- Gp];exact Dg _ hi
 rw[a.cellAt _ (by omega),E.all_get xs i j xs[i] (Aq hi) b,Aq (by rw[E.len];exact b)]
 rfl
end
theorem SP(E:ju α)(x:α)(t e:AP)(z:Ar)(a:Nat)(m:z.cells=(E.cells x).toArray)(b:(Am.info? e).map (λ i=>(i.zero,i.size,i.bytes))=some (some z,E.size,a))(B:Am.underlying t=some (.slice e))(n:Nat)(y:n<=1000000)(u:a<=1000)(w:Ap):
  ∃w',(Instr.makeSlice t (Ab Ak (n:Int)) (Ab Ak (n:Int))).run Am w=.ok (Aa (some ⟨w.heap.size,0,none⟩) n n) w'/\gM E e w' w.heap.size (Aa (some ⟨w.heap.size,0,none⟩) n n) (Bk n x)/\Iz w w':=by
 obtain⟨i0,f,g,h,j⟩:=info_parts b;have v:=Nat.mul_le_mul u y;obtain⟨w',o,p,q⟩:=run_make_full (P:=Am) w w.heap.size t e i0 z E.size B f g h Ak Ak n (by rw[j];omega) (by simp only[maxLen];omega) (AA _);refine⟨w',o,?_,(Ao _ w).grown q (AA _) (λ k d=>by cases d)⟩;unfold gM
 have e:E.all (Bk n x)=(madeCells z.cells (n*E.size)).toList:=by
  have A:z.cells.size=E.size:=by rw[m,Er,E.len]
  refine CD (λ k=>?_);by_cases d:k<n*E.size;have hq:k / E.size<n:=FC (by rw[DY];exact d);have l:k % E.size<E.size:=FU _ E.pos
  have e:k=k / E.size*E.size+k % E.size:=by rw[DY];exact(Gt k E.size).symm
  have r:(E.all (Bk n x))[k]? = (E.cells x)[k % E.size]? := by
   have:=E.all_get (Bk n x) (k / E.size) (k % E.size) x (by rw[List.getElem?_replicate,AC hq]) l;rw[<- e]at this;exact this
  rw[r,madeCells,Array.toList_map,Bo,Array.toList_range,List.getElem?_range d,A];simp only[Option.map_some]
  have c:k % E.size<(E.cells x).length:=by rw[E.len];exact l
  have s:(E.cells x).toArray[k % E.size]! = (E.cells x)[k % E.size]:=by
   rw[EJ (E.cells x).toArray (k % E.size) (by rw[Er];exact c),List.getElem_toArray]
  rw[Aq c,m,s];rw[AM (by rw[E.all_length,DP];omega),AM (by rw[Array.length_toList,size_madeCells];omega)]
 rw[DP,e];exact p
structure CV where
 tree:UInt64
 pa:Option Addr
 pn:Nat
 pc:Nat
 date:Int
 note:Bs
variable {v:CV}
def CV.cells(v:CV):List Ar:=[Ab Al (v.tree.toNat:Int),Aa v.pa v.pn v.pc,Ab Ak v.date,tx v.note]
def pT:CV:=⟨0,none,0,0,0,[]⟩
def lT:ju CV:=⟨λ v=>v.cells,4,λ _=>rfl,by decide,by intro x u h;simp[CV.cells]at h;rcases h with rfl|rfl|rfl|rfl <;> rfl⟩
theorem gQ.coms {w:World} {b off:Nat} {vs:List CV} (h:gQ lT w (some ⟨b,off,none⟩) vs) {i:Nat} {v:CV} (hx:vs[i]? = some v) :
  w.cell? ⟨b,off+i*4,none⟩=some (.int .u64 (v.tree.toNat:Int))/\w.cell? ⟨b,off+i*4+1,none⟩=some (.slice v.pa v.pn v.pc)/\w.cell? ⟨b,off+i*4+2,none⟩=some (.int .i64 v.date)/\w.cell? ⟨b,off+i*4+3,none⟩=some (tx v.note):=by
 obtain ⟨b', off', e, hlt, hc⟩ := h (by rcases Nat.lt_or_ge i vs.length with q | q
                                        omega
                                        rw [List.getElem?_eq_none q] at hx; cases hx)
 obtain ⟨rfl,rfl⟩:b=b'/\off=off':=by simpa using e
 have h0:=hc i v hx 0 _ rfl;have h1:=hc i v hx 1 _ rfl;have h2:=hc i v hx 2 _ rfl;have h3:=hc i v hx 3 _ rfl;exact ⟨by simpa [lT] using h0,by simpa [lT,Nat.add_assoc] using h1,by simpa [lT,Nat.add_assoc] using h2,by simpa [lT,Nat.add_assoc] using h3⟩
structure mL(w:Ap)(g:Nat)(v:CV)(c:Cm):Prop where
 tree:v.tree=c.tree
 date:v.date=c.date
 note:v.note=c.note
 rd:gQ gR w v.pa c.ps
 len:c.ps.length=v.pn
 far:0<c.ps.length->∀p,v.pa=some p->p.block≠g
theorem mL.turn{c:Cm}(h:mL w g v c)(b:Aw (λ k=>k=g) w w'):mL w' g v c :=
 ⟨h.tree,h.date,h.note,h.rd.turned b (λ a p hp q=>h.far a p hp q),h.len,h.far⟩
theorem mL.below{c:Cm}(h:mL w g v c)(a:Iz w w'):mL w' g v c :=
 ⟨h.tree,h.date,h.note,h.rd.below a,h.len,h.far⟩
structure CL(w u:Ap)(g:Nat)(st:St)(ids:List UInt64)(n k:Nat)(cvs:List CV):Prop where
 own:gM lT 104 u g (Aa (some ⟨g,0,none⟩) n n) cvs
 len:cvs.length=n
 bel:An g w u
 at_:∀(i:Nat) (v:CV) (x:UInt64),i<k->cvs[i]? = some v->ids[i]? = some x->mL u g v (st.com x)
 has:∀x∈ids.take k,st.has 3 x=true
theorem ph:(Am.info? 104).map (λ i=>(i.zero,i.size,i.bytes))=some (some (Ag #[Ab Al 0,Aa none 0 0,Ab Ak 0,Ae ⟨#[]⟩]),4,56):=by kernel_rfl
theorem od:Am.underlying 100=some (.slice 104):=by kernel_rfl
theorem VD{s b:Nat}{st:St}{ia:Option Addr}{ids:List UInt64}(h:A1 w s b st S)(hI:gQ gR w ia ids)(hn:ids.length=n)(hs:n<=100000):
  At Am 39 #[Ah (some ⟨s,0,none⟩),Aa ia n c] w λ e w'=>∃v r,e=Aj (Af #[v,Ab Ak r])/\Hid (((r=0/\v=Aa (some ⟨w.heap.size,0,none⟩) n n/\∃a,CL w w' w.heap.size st ids n n a)∨(¬(∀x∈ids,st.has 3 x=true)/\r=5/\v=Aa none 0 0))/\An w.heap.size w w'):=by
 obtain⟨g,Q⟩:=Xa w.heap.size
 obtain⟨w1,U,O1,B1⟩:=SP lT pT 100 104 (Ag #[Ab Al 0,Aa none 0 0,Ab Ak 0,Ae ⟨#[]⟩]) 56 rfl ph od n (by omega) (by decide) w;(try unfold Iz at *);rw[Q]at U O1 B1
 have H:=I4 h hI hn Q
 have G0:Hid (∃a,CL w w1 g st ids n 0 a):=⟨_,O1,by simp,B1,λ i v x h=>absurd h (Nat.not_lt_zero _),by simp⟩
 (try unfold Iz at *);rw[Q];clear h hI hn Q O1 B1;go_enter func39,ntmps39;go_wp2_with fail;clear U;go_loopg[16] n (λ k v wr=>∃i:Nat,v=Ab Ak i/\i+k=n/\Hid (∃a,CL w wr g st ids n i a))
 case atStart=>exact⟨0,rfl,by omega,G0.o⟩
 case round =>
  obtain⟨i,rfl,hi,HR⟩:=hrel;clear G0;obtain⟨a,hC⟩:=HR.o;have l:=Ih hC;clear HR hC;by_cases ab:i<n
  have id:(i:Int)<(n:Int):=by omega
  have ad:(0:Int)<=(i:Int):=by omega
  have F:i<ids.length:=by (try unfold Iz at *);rw[H.o.2.2.1];exact ab
  obtain⟨x,hx⟩:=Xa (ids[i])
  have t:ids[i]? = some x:=by (try unfold Iz at *);rw[Aq F,hx]
  have A:An w.heap.size w wr:=by (try unfold Iz at *);rw[H.o.2.2.2];exact l.o.bel
  obtain⟨pb,off,rfl,_⟩:=H.o.2.1.some_of t;have cx:=((H.o.2.1.below A).nums t).2;obtain⟨gb,D⟩:=Xa (st.has 3 x);have E:=Rk (H.o.1.below A) x gb D;obtain⟨cm,B⟩:=Xa (st.com x);(try unfold Iz at *);rw[B]at E
  have V:ids.take (i+1)=ids.take i++[x]:=by (try unfold Iz at *);rw[List.take_add_one,t];rfl
  have L:=I5 t B D V (by (try unfold Iz at *);rw[<- hx];exact Cy F:x∈ids);clear F hx t A D B V;go_wp2_with fail;refine E.mono ?_;rintro e w2 ⟨pa,pc,rfl,J⟩;clear E cx;obtain⟨pn,I⟩:=Xa cm.ps.length;obtain⟨u,K⟩:=Xa cm.tree;obtain⟨dt,C⟩:=Xa cm.date;obtain⟨nt,G⟩:=Xa cm.note;(try unfold Iz at *);rw[I,K,C,G];have X:=I4 I K C G;clear I K C G;obtain⟨m,d⟩:=Xb (w2.alloc (Ai #[Ab Al (u.toNat:Int),Aa pa pn pc,Ab Ak dt,tx nt] 104));obtain⟨Z,P⟩:=Xa w2.heap.size
  have z0:m.cell? ⟨Z,0,none⟩=some (Ab Al (u.toNat:Int)):=by (try unfold Iz at *);rw[d,<- P];simp
  have z1:m.cell? ⟨Z,1,none⟩=some (Aa pa pn pc):=by (try unfold Iz at *);rw[d,<- P];simp
  have z2:m.cell? ⟨Z,2,none⟩=some (Ab Ak dt):=by (try unfold Iz at *);rw[d,<- P];simp
  have z3:m.cell? ⟨Z,3,none⟩=some (tx nt):=by (try unfold Iz at *);rw[d,<- P];simp
  have W:Hid (An wr.heap.size wr m):=by
   show An _ _ _;(try unfold Iz at *);rw[d];exact J.o.2.2.1.trans ((gW w2 _).mono J.o.2.2.1.size)
  have R3:Hid (gQ gR m pa cm.ps/\E2 wr pa cm.ps.length):=by
   refine⟨?_,J.o.2.2.2⟩;(try unfold Iz at *);rw[d];exact J.o.1.below (gW _ _)
  clear J;go_upto_region 6 with fail;(try unfold Iz at *);rw[<- d];clear d P
  cases gb with
  | false =>
   have f:=I2 (λ q=>Bool.noConfusion ((q x L.o.2.2.2.2).symm.trans L.o.2.2.1):¬(∀x∈ids,st.has 3 x=true)) (l.o.bel.trans (W.o.mono (by (try unfold Iz at *);rw[<- H.o.2.2.2];exact l.o.bel.size)):An g w m);go_wp2_with fail;refine As (AD rfl _ _ _) rfl ?_;exact⟨_,_,rfl,.inr ⟨f.o.1,rfl,rfl⟩,f.o.2⟩
  | true =>
   have hO:=l.o.own.below W.o;have T:=l.o.len;have TH:Hid (m.there g (i*4) 4):=hO.there (i:=i) (by omega) 4 rfl (i*4) rfl;have R:=hO.lay (i:=i) (by omega) ⟨u,pa,pn,pc,dt,nt⟩;have N:=Ih R;clear hO R T;obtain⟨Y,z⟩:=Xb (jG m g [Ab Al (u.toNat:Int),Aa pa pn pc,Ab Ak dt,tx nt] (i*4))
   have f:Hid (∃a,CL w Y g st ids n (i+1) a):=by
    have hT:Aw (λ k=>k=g) m Y:=by (try unfold Iz at *);rw[z];exact De _ _ _
    have ac:g<=wr.heap.size:=by (try unfold Iz at *);rw[<- H.o.2.2.2];exact l.o.bel.size
    have hB:=l.o.bel.trans (W.o.mono ac);refine⟨a.set i ⟨u,pa,pn,pc,dt,nt⟩,by (try unfold Iz at *);rw[z];exact N.o,by (try unfold Iz at *);rw[DB];exact l.o.len,hB.trans (hT.below (by have:=hB.size;have:=H.o.2.2.2;omega) (λ k hk e=>by have e':=e;omega)),λ j v y hj hv M=>?_,λ y M=>?_⟩;by_cases e:i=j;subst e;(try unfold Iz at *);rw[Cp (by have:=l.o.len;omega)]at hv;cases hv;(try unfold Iz at *);rw[L.o.1]at M;cases M;(try unfold Iz at *);rw[L.o.2.1];have Q:g<wr.heap.size:=(World.ownsRow.lt l.o.own g rfl).2
    have c0:mL m g ⟨u,pa,pn,pc,dt,nt⟩ cm:=⟨X.o.2.1.symm,X.o.2.2.1.symm,X.o.2.2.2.symm,R3.o.1,X.o.1,λ h0 p hp q=>by
     have:=R3.o.2 h0 p hp
     omega⟩
    exact c0.turn hT;(try unfold Iz at *);rw[CH e]at hv;exact((l.o.at_ j v y (by omega) hv M).below W.o).turn hT;(try unfold Iz at *);rw[L.o.2.2.2.1]at M
    rcases AN.1 M with q|q
    exact l.o.has y q;(try unfold Iz at *);rw[AZ]at q;(try unfold Iz at *);rw[q];exact L.o.2.2.1
   have aa:=Ih z;clear z N;go_wp2_with(refine Io rfl 104 (.tmp 32) (.tmp 31) rfl g (i*4) #[Ab Al (u.toNat:Int),Aa pa pn pc,Ab Ak dt,tx nt] rfl rfl TH.o (by kernel_rfl) (by simp[Value.oneCell',tx]) ?_;intro W5 O;obtain rfl:W5=Y:=O.trans aa.o.symm;clear O);go_roundg (gk - 1)
   case measure=>omega
   case rel=>exact⟨i+1,by go_num,by omega,f.o⟩
  obtain rfl:i=n:=by omega
  have id:¬(i:Int)<(i:Int):=by omega
  have f:=I2 (⟨a,l.o⟩:(∃a,CL w wr g st ids i i a)) l.o.bel;clear l;go_wp2;refine As (AD rfl _ _ _) rfl ?_;exact⟨_,_,rfl,.inl ⟨rfl,rfl,f.o.1⟩,f.o.2⟩
theorem JN(a:Bs):¬a<a:=List.lt_irrefl a
theorem NL{a b c:Bs}(h:a<b)(k:b<c):a<c:=List.lt_trans h k
theorem Lu{a b:Bs}(h:a<b):¬b<a:=List.lt_asymm h
theorem KJ(a b:Bs):a<b∨a=b∨b<a:=by
 by_cases h:a<b
 exact .inl h
 by_cases k:b<a
 exact .inr (.inr k)
 exact .inr (.inl (EC k h))
def jH(s:Bs):List Bs->List Bs
 | []=>[s]
 | x::t=>if s<x then s::x::t else x::jH s t
def ks(l:List Bs)(s:Bs):List Bs:=if l.any (·==s)then l else jH s l
def kE(l:List Bs):List Bs:=l.foldl ks []
def Hw(l:List Bs):Prop:=l.Pairwise (·<·)
theorem Lt:∀{a b:List Bs},Hw a->Hw b->(∀x,x∈a↔x∈b)->a=b
 | [],[],_,_,_=>rfl
 | [],y::b,_,_,h=>absurd ((h y).2 (Bj ..)) (by simp)
 | x::a,[],_,_,h=>absurd ((h x).1 (Bj ..)) (by simp)
 | x::a,y::b,ha,hb,h=>by
  have c:=Br.1 ha;have d:=Br.1 hb
  have g:x=y:=by
   rcases Bv.1 ((h x).1 (Bj ..))with e|e
   exact e
   rcases Bv.1 ((h y).2 (Bj ..))with f|f
   exact f.symm;exact absurd (d.1 x e) (Lu (c.1 y f))
  subst g
  congr 1
  refine Lt c.2 d.2 ?_;intro z;have i:=h z;simp only[Bv]at i
  constructor
  intro q
  rcases i.1 (.inr q)with e|e
  subst e;exact absurd (c.1 z q) (JN z);exact e;intro q
  rcases i.2 (.inr q)with e|e
  subst e;exact absurd (d.1 z q) (JN z);exact e
theorem Mt(s:Bs):∀(l:List Bs) (x:Bs),x∈jH s l↔x=s∨x∈l
 | [],x=>by simp[jH]
 | y::t,x=>by
  by_cases h:s<y;simp[jH,h]
  ·have:=Mt s t x;simp only[jH,h,Ek,Bv,this]
   constructor
   ·rintro(q|q|q) <;> simp[q]
   ·rintro(q|q|q) <;> simp[q]
theorem PH(s:Bs):∀(l:List Bs),Hw l->s ∉ l->Hw (jH s l)
 | [],_,_=>by simp[jH,Hw]
 | y::t,hr,hs=>by
  have a:=Br.1 hr;by_cases h:s<y;simp only[jH,h,Ff];refine Br.2 ⟨?_,hr⟩;intro z b
  rcases Bv.1 b with e|e
  subst e;exact h;exact NL h (a.1 z e);simp only[jH,h,Ek];refine Br.2 ⟨?_,PH s t a.2 (λ q=>hs (Bl _ q))⟩;intro z b
  rcases(Mt s t z).1 b with e|e
  subst e
  rcases KJ y z with q|q|q
  exact q;exact absurd (q ▸ Bj ..) hs;exact absurd q h;exact a.1 z e
theorem Yp(l:List Bs)(s x:Bs):x∈ks l s↔x∈l∨x=s:=by
 unfold ks
 split
 ·rename_i h
  have a:s∈l:=by
   obtain⟨y,b,e⟩:=Ec.1 h
   have:y=s:=by simpa using e
   exact this ▸ b
  constructor
  exact .inl;rintro(q|q);exact q;exact q ▸ a
 rw[Mt];exact Or.comm
theorem UC(l:List Bs)(s:Bs)(h:Hw l):Hw (ks l s):=by
 unfold ks
 split
 exact h
 ·rename_i q
  refine PH s l h (λ m=>q ?_);exact Ec.2 ⟨s,m,by simp⟩
theorem Ns:∀(l a:List Bs),Hw a->Hw (l.foldl ks a)/\∀x,x∈l.foldl ks a↔x∈a∨x∈l
 | [],a,h=>⟨h,by simp⟩
 | s::t,a,h=>by
  obtain⟨b,c⟩:=Ns t (ks a s) (UC a s h);refine⟨b,λ x=>?_⟩;rw[Gu,c x,Yp];simp only[Bv];exact or_assoc
theorem Kb(l:List Bs):Hw (kE l):=(Ns l [] Cq).1
theorem Ir(l:List Bs)(x:Bs):x∈kE l↔x∈l:=by
 have:=(Ns l [] Cq).2 x;simpa[kE]using this
open Go.Lib in
theorem TI(d:Array Bs)(hd:∀i j,i<j->j<d.size->d[i]! <= d[j]!):∀m,m<=d.size->Hw (compactUpTo d m)/\∀x,x∈compactUpTo d m↔∃j,j<m/\d[j]! = x
 | 0,_=>⟨by simp[compactUpTo,Hw],by simp[compactUpTo]⟩
 | m+1,hm=>by
  obtain⟨p,l⟩:=TI d hd m (by omega);rw[compactUpTo_succ];by_cases f:keeps d m=true;rw[AC f];refine⟨?_,?_⟩;refine List.pairwise_append.2 ⟨p,by simp,?_⟩;intro y u z o;rw[AZ]at o;subst o;obtain⟨j,g,rfl⟩:=(l y).1 u;have r:=hd j m g (by omega)
  rcases KJ d[j]! d[m]! with q|q|q
  exact q;exfalso
  have k:0<m:=by omega
  have b:d[m]! ≠ d[m - 1]! := by
   intro e;rw[keeps_neg k e]at f;cases f
  rcases Nat.lt_or_ge j (m - 1)with h|h
  have n:=hd j (m - 1) h (by omega);have s:=hd (m - 1) m (by omega) (by omega);rw[q]at n;exact b (EC n s)
  have:j=m - 1:=by omega
  rw[<- this]at b;exact b q.symm;exact absurd q r;intro x;rw[AN,l,AZ]
  constructor
  rintro(⟨j,g,e⟩ | e);exact⟨j,by omega,e⟩;exact⟨m,by omega,e.symm⟩;rintro⟨j,g,e⟩;by_cases a:j=m;subst a;exact .inr e.symm;exact .inl ⟨j,by omega,e⟩;rw[Ay f,Bz];refine⟨p,λ x=>?_⟩;rw[l]
  constructor
  rintro⟨j,g,e⟩;exact⟨j,by omega,e⟩;rintro⟨j,g,e⟩;by_cases a:j=m;subst a
  have k:0<j:=by
   rcases Cc j with z|z
   subst z;exact absurd (keeps_lt_one d 0 (by omega)) f;exact z
  have t:d[j]! = d[j - 1]! := by
   by_cases c:d[j]! = d[j - 1]!;exact c;exact absurd (keeps_pos c) f
  exact⟨j - 1,by omega,by rw[<- t,e]⟩;exact⟨j,by omega,e⟩
theorem Ui(g:List Bs):Dn (g.mergeSort λ x y=>decide (x<=y))=kE g:=by
 have hp:(g.mergeSort λ x y=>decide (x<=y)).Pairwise (λ x y=>decide (x<=y)=true):=by
  refine List.pairwise_mergeSort ?_ ?_ g;intro a b c n o;simp only[A9]at n o ⊢;exact List.le_trans n o;intro a b;rw[Bool.or_eq_true,A9,A9]
  rcases KJ a b with q|q|q
  exact .inl (Lu q);subst q;exact .inl (JN a);exact .inr (Lu q)
 have d:=List.mergeSort_perm g (λ x y=>decide (x<=y));generalize (g.mergeSort λ x y=>decide (x<=y))=zs at hp d
 have hq:=TI zs.toArray (λ i j m f=>by
  have k:j<zs.length:=by simpa using f
  have:=List.pairwise_iff_getElem.1 hp i j (by omega) k m
  have l:zs.toArray[i]! = zs[i]'(by omega):=by simp[show i<zs.length by omega]
  have p:zs.toArray[j]! = zs[j]:=by simp[k]
  rw[l,p]
  simpa using this) zs.length (by simp)
 refine Lt hq.1 (Kb g) (λ x=>?_);rw[show Dn zs=Lib.compactUpTo zs.toArray zs.length from rfl,hq.2,Ir,<- d.mem_iff]
 constructor
 rintro⟨j,f,e⟩
 have l:zs.toArray[j]! = zs[j]:=by simp[f]
 rw[<- e,l];exact Cy f
 intro h;obtain⟨j,f,e⟩:=List.getElem_of_mem h;exact⟨j,f,by simp[f,e]⟩
theorem Np{p:Bs->Bool}(h:i<a.length)(b:(a.take i).any p=false)(c:p (el a i)=false):(a.take (i+1)).any p=false:=by
 rw[Bh h,List.any_append,b,<- F5 h];simp[c]
theorem NF{p:Bs->Bool}(h:i<a.length)(b:p (el a i)=true):a.any p=true :=
 Ec.2 ⟨_,Iy h,b⟩
theorem Ss(x:Bs)(w:Ap)(m:Rd w ao a)(r:a.length=n)(z:n<=4000000000000000000)(f:Bool)(q:a.any (·==x)=f):
  At Am 203 #[Aa ao n c,Ae ⟨x.toArray⟩] w λ e w'=>e=Aj (Ad f)/\w'=w:=by
 have H:=I3 m r q
 clear m r q;go_enter func203,ntmps203;go_wp2_with fail;go_loopg[5] n (λ k v wr=>∃(i:Nat),v=Ab Ak i/\i+k=n/\wr=w/\Hid ((a.take i).any (·==x)=false))
 case atStart=>exact⟨0,rfl,by omega,rfl,rfl⟩
 case round =>
  obtain⟨i,rfl,hi,rfl,j⟩:=hrel;by_cases d:i<n
  have id:(i:Int)<(n:Int):=by omega
  obtain⟨l,u,_⟩:=H.o;obtain⟨b1,A,rfl,s,b⟩:=l (by omega);obtain⟨y,h⟩:=Xa (el a i);have t:=b i (by omega);rw[h]at t;have X:=Ih h;clear l u b h
  cases g:y==x with
  | true =>
   go_wp2;go_ret;exact⟨by rw[<- H.o.2.2,NF (p:=(·==x)) (i:=i) (by rw[H.o.2.1];exact d) (by rw[X.o];exact g)];rfl,rfl⟩
  | false =>
   go_wp2;go_roundg (gk - 1)
   case measure=>omega
   case rel=>exact⟨i+1,by go_num,by omega,rfl,Np (p:=(·==x)) (by rw[H.o.2.1];exact d) j.o (by rw[X.o];exact g)⟩
  obtain rfl:i=n:=by omega
  go_wp2;go_ret;refine⟨?_,rfl⟩;have e:=j.o;rw[Av (by rw[H.o.2.1];omega)]at e;rw[<- H.o.2.2,e]
  rfl
theorem Ud{b:List Bs}(g:Nat)(t D:Array Ar)(p:Bs->Bool)(w:Ap)(G:∀args w,(Ck g args).run Am w=.ok (.enter g args) w)
  (hp:∀(W:Ap) (x:Bs),x∈b->Iz w W->At Am g (t++#[Ae ⟨x.toArray⟩]++D) W λ e w'=>e=Aj (Ad (p x))/\Iz W w')
  (z:Rd w ao b) (A:b.length=n) (I:n<=4000000000000000000) :
  At Am 221 #[Aa ao n c,.func (.func g) t D] w λ e w'=>∃r:Int,e=Aj (Ab Ak r)/\decide (0<=r)=b.any p/\Iz w w':=by
 have H:=I2 z A
 clear z A;go_enter func221,ntmps221;go_wp2_with fail;go_loopg[5,8] n (λ k _ v wr=>∃(i:Nat),v=Ab Ak i/\i+k=n/\Hid ((b.take i).any p=false)/\Iz w wr)
 case atStart=>exact⟨0,rfl,by omega,rfl,Ao _ _⟩
 case round =>
  obtain⟨i,rfl,hi,s,j⟩:=hrel;by_cases m:i<n
  have id:(i:Int)<(n:Int):=by omega
  obtain⟨u,F⟩:=H.o;have R:=u.below j;have f:el b i∈b:=Iy (by omega);obtain⟨b1,J,rfl,C,l⟩:=R (by omega);obtain⟨y,q⟩:=Xa (el b i);have E:=l i (by omega);rw[q]at E f;have X:=Ih q;have a:=hp wr y f j;have B:=Ih j;clear u F l q R hp j
  cases d:p y with
  | true =>
   rw[d]at a;go_wp2_with(go_at_fn g;refine a.mono ?_;rintro e w' ⟨rfl,h⟩);go_ret;exact⟨i,rfl,by rw[NF (p:=p) (i:=i) (by rw[H.o.2];exact m) (by rw[X.o];exact d)];simp,B.o.trans (h.mono B.o.size)⟩
  | false =>
   rw[d]at a;go_wp2_with(go_at_fn g;refine a.mono ?_;rintro e w' ⟨rfl,h⟩);go_roundg (gk - 1)
   case measure=>omega
   case rel=>exact⟨i+1,by go_num,by omega,Np (p:=p) (by rw[H.o.2];exact m) s.o (by rw[X.o];exact d),B.o.trans (h.mono B.o.size)⟩
  obtain rfl:i=n:=by omega
  go_wp2;go_ret;refine⟨-1,rfl,?_,j⟩;have e:=s.o;rw[Av (by rw[H.o.2];omega)]at e;rw[e]
  rfl
theorem YV(g:Nat)(b d:Array Ar)(p:Bs->Bool)(w:Ap)(i:∀args w,(Ck g args).run Am w=.ok (.enter g args) w)
  (hp:∀(W:Ap) (x:Bs),x∈a->Iz w W->At Am g (b++#[Ae ⟨x.toArray⟩]++d) W λ e w'=>e=Aj (Ad (p x))/\Iz W w')
  (j:Rd w ao a) (l:a.length=n) (s:n<=4000000000000000000) (f:Bool) (k:a.any p=f) :
  At Am 210 #[Aa ao n c,.func (.func g) b d] w λ e w'=>e=Aj (Ad f)/\Iz w w':=by
 have h:=Ud (c:=c) g b d p w i hp j l s;rw[k]at h;clear hp j l i k;go_enter func210,ntmps210;go_wp2_with fail;refine h.mono ?_;rintro e w' ⟨r,rfl,m,q⟩;have R:=Ih m;clear m;go_wp2;go_ret;exact⟨by rw[<- R.o];rfl,q⟩
theorem VE(p:Bs)(B:Nat)(d:Bs)(w:Ap)(b:w.cell? ⟨B,0,none⟩=some (Ae ⟨p.toArray⟩)):
  At Am 211 #[Ae ⟨d.toArray⟩,Ah (some ⟨B,0,none⟩)] w λ e w'=>e=Aj (Ad (under p d))/\w'=w:=by
 have h:=Tz ⟨p.toArray⟩ ⟨d.toArray⟩ w
 obtain⟨f,a⟩:=Xa (under p d)
 change At Am 212 #[Ae ⟨p.toArray⟩,Ae ⟨d.toArray⟩] w λ e w'=>e=Aj (Ad (under p d))/\w'=w at h
 rw[a]at h ⊢;clear a;go_enter func211,ntmps211;go_wp2_with fail;refine h.mono ?_;rintro e w' ⟨rfl,rfl⟩;go_wp2;go_ret;exact⟨rfl,rfl⟩
theorem Y7:∀args w,(Ck 211 args).run Am w=.ok (.enter 211 args) w:=enters_of func211 (by kernel_rfl) rfl
theorem Xt(p:Bs)(w:Ap)(i:Rd w ao d)(k:d.length=n)(q:n<=4000000000000000000)(f:Bool)(j:d.any (under p)=f):
  At Am 189 #[Ae ⟨p.toArray⟩,Aa ao n c] w λ e w'=>e=Aj (Ad f)/\Iz w w':=by
 have a:Iz w (w.alloc (Ai #[Ae ⟨p.toArray⟩] 9)):=(Ao _ w).alloc (AA _) _
 have h:=YV (c:=c) 211 #[] #[Ah (some ⟨w.heap.size,0,none⟩)] (under p) (w.alloc (Ai #[Ae ⟨p.toArray⟩] 9)) Y7
  (λ W x _ b=>(VE p w.heap.size x W ((b.cell (p:=⟨w.heap.size,0,none⟩) (by simp)).trans (by simp))).mono λ e w' ⟨l,m⟩=>⟨l,m ▸ Ao _ _⟩) (i.below a) k q f j
 clear i k j;have g:=Ih a;clear a;go_enter func189,ntmps189;go_wp2_with fail;refine h.mono ?_;rintro e w' ⟨rfl,b⟩;go_wp2;go_ret;exact⟨rfl,g.o.trans (b.mono g.o.size)⟩
end Go.Proofs.YtakgkgmopmcecaaGreat
namespace Go.Proofs.YtakgkgmopmcecaaGreat
open Go.RowKit Go.Sort
variable {S:Nat->Prop}{a d l:List Bs}{ao bo:Option Addr}{b es:List En}{c g i k m n:Nat}{e:En}{f p:Bs}{v:CV}{w w':Ap}{α:Type}
theorem UP{w1:Ap}{cap nn q:Nat}{os:Array Obj}(e:w1.ownsRow w.heap.size 9 1 (Aa (some ⟨g,0,none⟩) n cap) n (a.map Bt))(c:An w.heap.size w w1)(f:w.heap.size<=g)(d:a.length=n):
  Own (putRow Bt (Sort.ahead (grow (putRow Bt (Sort.ahead w1 nn) g 0 (a.mergeSort λ x y=>decide (x<=y)).toArray) os) q) g 0 (Dn (a.mergeSort λ x y=>decide (x<=y))++Bk (n - (Dn (a.mergeSort λ x y=>decide (x<=y))).length) []).toArray)
   w.heap.size (Aa (some ⟨g,0,none⟩) (Dn (a.mergeSort λ x y=>decide (x<=y))).length cap) (kE a) /\
  An w.heap.size w (putRow Bt (Sort.ahead (grow (putRow Bt (Sort.ahead w1 nn) g 0 (a.mergeSort λ x y=>decide (x<=y)).toArray) os) q) g 0 (Dn (a.mergeSort λ x y=>decide (x<=y))++Bk (n - (Dn (a.mergeSort λ x y=>decide (x<=y))).length) []).toArray):=by
 have h:(a.mergeSort λ x y=>decide (x<=y)).length=a.length:=GD a;have v:=Lib.compact_length_le (a.mergeSort λ x y=>decide (x<=y));subst d
 rcases e.2 with⟨o,_⟩ | ⟨B,i,m,A,b,t,p,r,s,C⟩
 ·cases o
 cases A;have z:=ownsRow_sorted (n:=nn) (os:=os) (ts:=a.mergeSort λ x y=>decide (x<=y)) h b t p r s;have l:=Lib.ownsRow_putRow (q:=q) (k:=(Dn (a.mergeSort λ x y=>decide (x<=y))).length) (ys:=Dn (a.mergeSort λ x y=>decide (x<=y))++Bk (a.length - (Dn (a.mergeSort λ x y=>decide (x<=y))).length) []) z (by simp;omega) (by omega);rw[List.take_left]at l;refine⟨?_,Lib.below_putRow (c.grown (grownBy_sorted _) c.size (λ j u=>by cases u;exact b)) f⟩;unfold Own;rw[<- Ui];exact l
theorem Ti(n:Nat)(k:Ar)(d:List Bs)(w:Ap)(A:n<=4611686018427387903)
  (b:At Am 213 #[k] w λ e w'=>∃v',e=Aj v'/\w'.ownsRow w.heap.size 9 1 v' n (d.map Bt)/\v'≠Aa none 0 0/\Iz w w') :
  At Am 190 #[k] w λ e w'=>∃v',e=Aj v'/\Own w' w.heap.size v' (kE d)/\Iz w w':=by
 go_enter func190,ntmps190;go_wp2_with fail;refine b.mono ?_;rintro e w1 ⟨B,rfl,h,r,i⟩;obtain⟨g,cap,rfl,s,m,j,u,c,hH⟩:=Lib.holds_of_ownsRow h r;have a:At Am 214 #[Aa (some ⟨g,0,none⟩) d.length cap] w1 _:=Any.slices_Sort_string nr g 0 cap d w1 hH m (by omega);rw[c]at a
 have X:=I7 h i s m j c hH
 clear h i hH r b;go_wp2_with fail;refine a.mono ?_;rintro e C ⟨rfl,nn,os,rfl⟩
 have p:(d.mergeSort λ x y=>decide (x<=y)).length=n:=by rw[GD];exact X.o.2.2.2.2.2.1
 have l:Holds Bt (grow (putRow Bt (Sort.ahead w1 nn) g 0 (d.mergeSort λ x y=>decide (x<=y)).toArray) os) g 0 (d.mergeSort λ x y=>decide (x<=y)).toArray :=
  holds_grow Bt _ os g 0 _ (by simpa[putRow,mapBlock,Sort.ahead]using X.o.2.2.2.1) (holds_putRow Bt _ g 0 _ _ (holds_ahead Bt w1 nn g 0 _ X.o.2.2.2.2.2.2) (by simp))
 have f:At Am 215 #[Aa (some ⟨g,0,none⟩) (d.mergeSort λ x y=>decide (x<=y)).length cap] _ _:=Any.slices_Compact_string mp g 0 cap (d.mergeSort λ x y=>decide (x<=y)) _ l (by omega) (by have:=X.o.2.2.2.2.1;omega);rw[p]at f;have t:=Ih c;clear l a p c;go_wp2_with fail;refine f.mono ?_;rintro e D ⟨rfl,q,rfl⟩;go_wp2;go_ret;obtain⟨v,z⟩:=UP (nn:=nn) (q:=q) (os:=os) X.o.1 X.o.2.1 X.o.2.2.1 t.o;exact⟨_,rfl,v,z⟩
theorem fy(b off n c:Nat)(a:List Bs)(w:Ap)(f:a.length=n)(k:n<=8796093022208)(g:∀i,i<a.length->w.cell? ⟨b,off+i,none⟩=some (Ae ⟨(el a i).toArray⟩)):
  At Am 213 #[Aa (some ⟨b,off,none⟩) n c] w λ e w'=>∃v',e=Aj v'/\w'.ownsRow w.heap.size 9 1 v' n (a.map Bt)/\v'≠Aa none 0 0/\Iz w w':=by
 have h:=Any.slices_Clone_string mx b off n c (a.map λ l=>⟨l.toArray⟩) w (by simp[f]) (by omega) (λ j d=>by
  rw[List.length_map]at d;rw[g j d,F5 d]
  congr 2
  rw[List.getD_eq_getElem?_getD,Bo,Aq d]
  rfl)
 have e:((a.map λ l=>(⟨l.toArray⟩:ByteArray)).take n).map Ae=a.map Bt:=by
  rw[Av (by simp[f]),List.map_map]
  rfl
 rw[e]at h;exact h
theorem T9(c:Nat)(w:Ap):At Am 190 #[Aa none 0 c] w λ e w'=>e=Aj (Aa none 0 0)/\w'=w:=by
 have a:At Am 213 #[Aa none 0 c] w _:=Any.slices_Clone_string_nil mx 0 c w;have b:At Am 214 #[Aa none 0 0] w _:=Any.slices_Sort_string_none nr none 0 w;have d:At Am 215 #[Aa none 0 0] w _:=Any.slices_Compact_string_empty mp none 0 w;go_enter func190,ntmps190;go_wp2_with fail;refine a.mono ?_;rintro e w' ⟨rfl,rfl⟩;go_wp2_with fail;refine b.mono ?_;rintro e w' ⟨rfl,rfl⟩;go_wp2_with fail;refine d.mono ?_;rintro e w' ⟨rfl,rfl⟩;go_wp2;go_ret;exact⟨rfl,rfl⟩
theorem Sv(w:Ap)(h:Rd w ao d)(f:d.length=n)(j:n<=8796093022208):
  At Am 190 #[Aa ao n c] w λ e w'=>∃v',e=Aj v'/\Own w' w.heap.size v' (kE d)/\Iz w w':=by
 by_cases g:0<d.length
 obtain⟨b,off,rfl,_,i⟩:=h g;exact Ti n _ d w (by omega) (fy b off n c d w f j i)
 obtain rfl:d=[]:=AQ (by omega);obtain rfl:n=0:=f.symm
 cases ao with
 | none =>
  refine(T9 c w).mono ?_;rintro e w' ⟨rfl,rfl⟩;exact⟨_,rfl,Own.nil _ _,Ao _ _⟩
 | some a =>
  exact Ti 0 _ [] w (by omega) (Any.slices_Clone_string_zero mx a c w)
end Go.Proofs.YtakgkgmopmcecaaGreat
namespace Go.Proofs.YtakgkgmopmcecaaGreat
open Go.RowKit
variable {S:Nat->Prop}{a d l:List Bs}{ao bo:Option Addr}{b es:List En}{c g i k m n:Nat}{e:En}{f p:Bs}{v:CV}{w w':Ap}{α:Type}
def keep(kept:List Bs)(p:Bs):List Bs:=if kept.any (under p)then kept else kept++[p]
theorem gs(l:List Bs)(s:Bs):(ks l s).length<=l.length+1:=by
 unfold ks
 split
 omega
 ·have:∀l:List Bs,(jH s l).length=l.length+1:=by
   intro l
   induction l with
   | nil=>rfl
   | cons x t a=>by_cases h:s<x <;> simp[jH,h,a]
  rw[this];omega
theorem Jp(l:List Bs):(kE l).length<=l.length:=by
 have:∀(l a:List Bs),(l.foldl ks a).length<=a.length+l.length:=by
  intro l
  induction l with
  | nil=>simp
  | cons x t b =>
   intro a;have c:=b (ks a x);have d:=gs a x;simp only[Gu,A2];omega
 have:=this l [];simpa[kE]using this
theorem Nu{B B':Nat}{v:Ar}(h:Own w B v a)(b:B'<=B):Own w B' v a:=Jb h b
def jt(ss:List Bs)(x:Bs):Bool:=gV x&&(ss.isEmpty||ss.any (under x))
theorem QY(x:Bs)(w:Ap)(l:Rd w ao d)(k:d.length=n)(u:n<=4000000000000000000)(v:x.length<=9223372036854775807)(f:Bool)(i:jt d x=f):
  At Am 138 #[Ag #[Aa ao n c],Ae ⟨x.toArray⟩] w λ e w'=>e=Aj (Ad f)/\Iz w w':=by
 subst i;have a:Iz w (w.alloc (Ai #[Aa ao n c] 169)):=(Ao _ w).alloc (AA _) _
 obtain⟨g,j⟩:=Xa (gV x)
 have b:=Kj ⟨x.toArray⟩ (by rw[jz];exact v) g j;rw[jt,j]
 cases g with
 | false =>
  rw[show mP false=2 from rfl]at b;rw[Bool.false_and];have h:=Ih a;clear l k a j;go_enter func138,ntmps138;go_wp2_with fail;refine(b _).mono ?_;rintro e w' ⟨rfl,m,rfl⟩;go_wp2;go_ret;exact⟨rfl,AY h.o m⟩
 | true =>
  rw[show mP true=0 from rfl]at b;rw[Bool.true_and];by_cases r:n=0
  ·obtain rfl:d=[]:=AQ (by omega);subst r;have h:=Ih a;clear l k a j;go_enter func138,ntmps138;go_wp2_with fail;refine(b _).mono ?_;rintro e w' ⟨rfl,m,rfl⟩;go_wp2;go_ret;exact⟨rfl,AY h.o m⟩
  ·have p:¬(n:Int)=0:=by omega
   have s:d.isEmpty=false:=by cases d with
    | nil=>simp at k;omega
    | cons=>rfl
   rw[s,Bool.false_or]
   obtain⟨f,i⟩:=Xa (d.any (under x))
   rw[i]
   have q:=λ m=>Xt (c:=c) x ((w.alloc (Ai #[Aa ao n c] 169)).drewN m) ((l.below a).below (AY (Ao _ _) m)) k u f i
   have h:=Ih a;clear l k a j s i r;go_enter func138,ntmps138;go_wp2_with fail;refine(b _).mono ?_;rintro e w' ⟨rfl,m,rfl⟩;go_wp2_with fail;refine(q m).mono ?_;rintro e w' ⟨rfl,t⟩;go_wp2;go_ret;refine⟨?_,(AY h.o m).trans (t.mono (by simp))⟩;show Aj (Ad ((n:Int)==0||f))=_;rw[show((n:Int)==0)=false by simpa using p,Bool.false_or]
def pre(p:Bs):Nat->List Bs
 | 0=>[]
 | i+1=>if p[i]? = some 47 then pre p i++[p.take i]else pre p i
def parts(p:Bs):List Bs:=if gV p then pre p p.length++[p]else[]
theorem MI(p:Bs):∀i,(pre p i).length<=i
 | 0=>by simp[pre]
 | i+1=>by
  have:=MI p i;unfold pre
  split
  simp;omega;omega
theorem Mf(h:gV p=true):p.length<=102:=by
 rw[<- OH,mS,Bool.and_eq_true]at h;simpa using h.1
theorem YC(p:ByteArray)(u:p.size<=9223372036854775807)(w:Ap):
  At Am 191 #[Ae p] w λ e w'=>∃v',e=Aj v'/\Own w' w.heap.size v' (parts p.data.toList)/\Iz w w':=by
 obtain⟨g,n⟩:=Xa (gV p.data.toList)
 have j:=Kj p u g n;have E:=Ih (jz p);rw[parts,n]
 cases g with
 | false =>
  rw[show mP false=2 from rfl]at j;clear n;go_enter func191,ntmps191;go_wp2_with fail;refine(j _).mono ?_;rintro e w' ⟨rfl,m,rfl⟩;go_wp2;go_ret;exact⟨_,rfl,Own.nil _ _,AY (Ao _ _) m⟩
 | true =>
  rw[show mP true=0 from rfl]at j
  have hp:p.size<=102:=by rw[E.o];exact Mf n
  clear n;rw[AC rfl];go_enter func191,ntmps191;go_wp2_with fail;refine(j _).mono ?_;rintro e w' ⟨rfl,m,rfl⟩;go_wp2_with fail;go_loopg[3,10] p.size (λ k y v wr=>∃(i:Nat),v=Ab Ak i/\i+k=p.size/\Hid (Own wr w.heap.size y (pre p.data.toList i)/\Iz w wr))
  case atStart=>exact⟨0,rfl,by omega,Own.nil _ _,AY (Ao _ _) m⟩
  case round =>
   obtain⟨i,rfl,hi,h⟩:=hrel;have r:=MI p.data.toList i;by_cases q:i<p.size
   ·have f:p.data.toList[i]? = some p[i]:=by rw[Aq (by rw[<- E.o];exact q)];rfl
    obtain⟨c,s⟩:∃c:Int,(p[i].toNat:Int)=c:=⟨_,rfl⟩
    by_cases l:c=47
    ·have a:pre p.data.toList (i+1)=pre p.data.toList i++[p.data.toList.take i]:=by
      have:p[i]=47:=UInt8.toNat_inj.1 (show p[i].toNat=47 by omega);rw[pre,f,this,AC rfl]
     have PR:Hid _:=a;subst l;clear a f;go_wp2_with fail;go_quiet (fail);go_wp2_with(at_builtin;rw[JT];refine Hl rfl (.tmp 18) (.tmp 22) rfl w.heap.size _ (pre p.data.toList i) (p.data.toList.take i) _ rfl (h.o.1.below (AY (Ao _ _) nq)) rfl (by omega) h.o.2.size ?_;intro v' z d b);go_roundg (gk - 1)
     case measure=>omega
     case rel=>exact⟨i+1,by go_num,by omega,by rw[PR.o];exact d,(AY h.o.2 _).trans b⟩
    ·have a:pre p.data.toList (i+1)=pre p.data.toList i:=by
      rw[pre,f,Ay];intro e
      have:p[i]=47:=by simpa using e
      rw[this]at s;exact l s.symm
     have PR:Hid _:=a;clear a f;go_wp2_with fail;go_quiet (fail)
     have x:(c==((({ data:=#[47] }:ByteArray)[0]'(by decide)).toNat:Int))=false:=by
      rw[A3];exact l
     go_wp2;go_roundg (gk - 1)
     case measure=>omega
     case rel=>exact⟨i+1,by go_num,by omega,by rw[PR.o];exact h.o.1.below (AY (Ao _ _) _),AY h.o.2 _⟩
   ·obtain rfl:i=p.size:=by omega
    rw[E.o]at h r
    have t:p.data.toList.length<=102:=by rw[<- E.o];exact hp
    clear q;go_wp2_with(at_builtin;refine Hl rfl (.tmp 25) (.tmp 27) rfl w.heap.size _ (pre p.data.toList p.data.toList.length) p.data.toList _ rfl h.o.1 rfl (by omega) h.o.2.size ?_;intro v' z d b);go_ret;exact⟨_,rfl,d,h.o.2.trans b⟩
abbrev nX:=Bs×UInt64×UInt64
def kk(es:List En):Prop:=es.Pairwise (λ a b=>a.1<b.1)
theorem Tr.rise(h:Tr es):kk es:=h.imp (λ q=>q.1)
theorem kk.tail(h:kk (e::es)):kk es:=(Br.1 h).2
theorem kk.head(h:kk (e::es)):∀x∈es,e.1<x.1:=(Br.1 h).1
def jr(es:List En)(p:Bs):UInt64:=(lh es p).getD 0
theorem Ny(e:En)(es:List En)(p:Bs):lh (e::es) p=if e.1=p then some e.2 else lh es p:=by
 unfold lh;by_cases h:e.1=p
 simp[h]
 have a:(e.1==p)=false:=by simpa using h
 simp[h,a]
theorem Y2(h:∀e∈es,e.1≠p):lh es p=none:=by
 induction es with
 | nil=>rfl
 | cons e t b =>
  rw[Ny,Ay (h e (Bj ..))];exact b (λ x a=>h x (Bl _ a))
def iw:List En->List En->Bs
 | x::_,y::_=>if x.1<y.1 then x.1 else y.1
 | x::_,[]=>x.1
 | [],y::_=>y.1
 | [],[]=>[]
def iN:List En->Bs->UInt64×List En
 | [],_=>(0,[])
 | e::t,p=>if e.1=p then(e.2,t)else(0,e::t)
theorem JP(e:En)(t:List En)(p:Bs):iN (e::t) p=if e.1=p then(e.2,t)else(0,e::t):=rfl
theorem Pn(x y:En)(s t:List En):iw (x::s) (y::t)=if x.1<y.1 then x.1 else y.1:=rfl
def kj(a b:List En):List Bs:=kE (a.map (·.1)++b.map (·.1))
def jY(g:Bs->Bool)(a b:List En):List nX:=((kj a b).map (λ p=>(p,jr a p,jr b p))).filter (λ c=>(c.2.1 != c.2.2)&&g c.1)
theorem Tf(c:kk es)(hp:∀e∈es,¬e.1<p):(iN es p).1=jr es p:=by
 cases es with
 | nil=>rfl
 | cons e t =>
  unfold jr;rw[JP,Ny];by_cases h:e.1=p;rw[AC h,AC h]
  rfl
  rw[Ay h,Ay h];rw[Y2]
  rfl
  intro x d b;have a:=c.head x d;rw[b]at a;exact hp e (Bj ..) a
theorem Rj{q:Bs}(h:q≠p):jr (iN es p).2 q=jr es q:=by
 cases es with
 | nil=>rfl
 | cons e t =>
  rw[JP];by_cases k:e.1=p;rw[AC k];unfold jr;rw[Ny,Ay (λ a=>h (by rw[<- a,k]))];rw[Ay k]
theorem Qk(c:kk es)(hp:∀e∈es,¬e.1<p)(x:Bs):x∈(iN es p).2.map (·.1)↔x∈es.map (·.1)/\x≠p:=by
 cases es with
 | nil=>simp[iN]
 | cons e t =>
  rw[JP];by_cases k:e.1=p;rw[AC k];simp only[BJ,Bv]
  constructor
  rintro⟨y,a,rfl⟩;refine⟨⟨y,.inr a,rfl⟩,λ b=>?_⟩;have:=c.head y a;rw[k,b]at this;exact JN _ this;rintro⟨⟨y,a,rfl⟩,d⟩
  rcases a with rfl|a
  exact absurd k d;exact⟨y,a,rfl⟩;rw[Ay k];refine⟨λ h=>⟨h,λ b=>?_⟩,λ h=>h.1⟩;obtain⟨y,a,rfl⟩:=BJ.1 h;subst b
  rcases Bv.1 a with rfl|a
  exact k rfl;exact hp e (Bj ..) (c.head y a)
theorem Px(a:kk es)(p:Bs):kk (iN es p).2:=by
 cases es with
 | nil=>exact Cq
 | cons e t =>
  rw[JP];by_cases k:e.1=p;rw[AC k];exact a.tail;rw[Ay k];exact a
theorem Ta{a:List En}(f:kk a)(g:kk b):(∀e∈a,¬e.1<iw a b)/\(∀e∈b,¬e.1<iw a b):=by
 have key:∀(es:List En),kk es->∀x∈es,∀e,es.head? = some e->¬x.1<e.1:=by
  intro es j x i e c
  cases es with
  | nil=>cases c
  | cons y t =>
   cases c
   rcases Bv.1 i with rfl|q
   exact JN _;exact Lu (j.head x q)
 cases a with
 | nil =>
  refine⟨by simp,?_⟩
  cases b with
  | nil=>simp
  | cons y t=>exact λ x i=>key _ g x i y rfl
 | cons x s =>
  cases b with
  | nil=>exact⟨λ e c=>key _ f e c x rfl,by simp⟩
  | cons y t =>
   rw[Pn];by_cases h:x.1<y.1;rw[AC h];refine⟨λ e c=>key _ f e c x rfl,λ e c q=>?_⟩;exact key _ g e c y rfl (NL q h);rw[Ay h];refine⟨λ e c q=>?_,λ e c=>key _ g e c y rfl⟩;have d:=key _ f e c x rfl
   rcases KJ x.1 y.1 with k|k|k
   exact h k;rw[k]at d;exact d q;exact d (NL q k)
theorem Th{a:List En}(h:a≠[]∨b≠[]):iw a b∈a.map (·.1)∨iw a b∈b.map (·.1):=by
 cases a with
 | nil =>
  cases b with
  | nil=>simp at h
  | cons y t=>right;simp[iw]
 | cons x s =>
  cases b with
  | nil=>left;simp[iw]
  | cons y t =>
   rw[Pn];by_cases k:x.1<y.1
   left;simp[k]
   right;simp[k]
theorem Vh{a:List En}(j:kk a)(l:kk b)(h:a≠[]∨b≠[]):
  kj a b=iw a b::kj (iN a (iw a b)).2 (iN b (iw a b)).2:=by
 obtain⟨g,i⟩:=Ta j l;have m:=Th h
 obtain⟨p,hp⟩:=Xa (iw a b)
 rw[hp]at g i m ⊢;have n:=Qk j g;have o:=Qk l i;refine Lt (Kb _) ?_ ?_
 ·refine Br.2 ⟨?_,Kb _⟩;intro x c;rw[kj,Ir,AN,n,o]at c
  have r:¬x<p:=by
   rcases c with⟨q,_⟩ | ⟨q,_⟩
   obtain⟨e,d,rfl⟩:=BJ.1 q;exact g e d;obtain⟨e,d,rfl⟩:=BJ.1 q;exact i e d
  have f:x≠p:=by rcases c with⟨_,q⟩ | ⟨_,q⟩ <;> exact q
  rcases KJ p x with k|k|k
  exact k;exact absurd k.symm f;exact absurd k r
 intro x;rw[kj,Ir,AN,Bv,kj,Ir,AN,n,o];by_cases c:x=p
 subst c;exact⟨λ _=>.inl rfl,λ _=>m⟩
 constructor
 rintro(q|q)
 exact .inr (.inl ⟨q,c⟩)
 exact .inr (.inr ⟨q,c⟩)
 rintro(q|⟨q,_⟩ | ⟨q,_⟩)
 exact absurd q c
 exact .inl q
 exact .inr q
theorem T7(g:Bs->Bool){a:List En}(d:kk a)(f:kk b)(h:a≠[]∨b≠[]):
  jY g a b=(if((iN a (iw a b)).1 != (iN b (iw a b)).1)&&g (iw a b)then[(iw a b,(iN a (iw a b)).1,(iN b (iw a b)).1)]else[])++jY g (iN a (iw a b)).2 (iN b (iw a b)).2:=by
 obtain⟨l,m⟩:=Ta d f;have k:=Vh d f h;have j:Hw (kj a b):=Kb _;rw[k]at j
 obtain⟨p,hp⟩:=Xa (iw a b)
 rw[hp]at l m k j ⊢;have i:=(Br.1 j).1;rw[Tf d l,Tf f m];unfold jY;rw[k,List.map_cons,List.filter_cons]
 have e:(kj (iN a p).2 (iN b p).2).map (λ q=>(q,jr a q,jr b q))=(kj (iN a p).2 (iN b p).2).map (λ q=>(q,jr (iN a p).2 q,jr (iN b p).2 q)):=by
  refine List.map_congr_left (λ q hq=>?_)
  have c:q≠p:=λ n=>by have:=i q hq;rw[n]at this;exact JN _ this
  rw[Rj c,Rj c]
 rw[e]
 split <;> simp
theorem Ru(es:List En)(p:Bs)(x:En)(h:x∈(iN es p).2):x∈es:=by
 cases es with
 | nil=>exact h
 | cons e t =>
  rw[JP]at h
  split at h
  exact Bl _ h;exact h
theorem LS(es:List En)(p:Bs):(iN es p).2.length<=es.length:=by
 cases es with
 | nil=>simp[iN]
 | cons e t=>rw[JP];split <;> simp
theorem UZ{a:List En}(h:a≠[]∨b≠[]):(iN a (iw a b)).2.length+(iN b (iw a b)).2.length<a.length+b.length:=by
 have c:=LS a (iw a b);have d:=LS b (iw a b)
 cases a with
 | nil =>
  cases b with
  | nil=>simp at h
  | cons y t=>simp[iw,iN]
 | cons x s =>
  cases b with
  | nil=>simp[iw,iN]
  | cons y t =>
   by_cases k:x.1<y.1
   have e:(iN (x::s) (iw (x::s) (y::t))).2=s:=by simp[iw,k,iN]
   rw[e]at c ⊢;simp only[A2]at d ⊢;omega
   have e:(iN (y::t) (iw (x::s) (y::t))).2=t:=by simp[iw,k,iN]
   rw[e]at d ⊢;simp only[A2]at c ⊢;omega
def kQ:ju nX:=⟨λ c=>[tx c.1,Ab Al (c.2.1.toNat:Int),Ab Al (c.2.2.toNat:Int)],3,λ _=>rfl,by decide,by intro x u h;simp at h;rcases h with rfl|rfl|rfl <;> rfl⟩
theorem Tryz.info171:(Am.info? 171).map (λ i=>(i.zero,i.size,i.bytes))=some (some (Ag #[Ae ⟨#[]⟩,Ab Al 0,Ab Al 0]),3,32):=by kernel_rfl
theorem Uv(E:ju α)(e t a:Nat)(z:Ar)(d:(Am.info? e).map (λ i=>(i.zero,i.size,i.bytes))=some (some z,E.size,a))(q:Am.underlying t=some (.slice e))(p:Am.elem t=e)(u:n<=c)(v:k<=n):
  ∃o c',(∀w,(Instr.slice t (Aa ao n c) (some (Ab Ak (k:Int))) none none).run Am w=.ok (Aa o (n - k) c') w)/\n - k<=c'/\c'<=c/\∀w (xs:List α),xs.length=n->gQ E w ao xs->gQ E w o (xs.drop k):=by
 obtain⟨i0,j,r,m,s⟩:=info_parts d;refine⟨if c=k then ao else ao.map (·.add (k*E.size)),c - k,λ w=>?_,by omega,by omega,?_⟩
 rw[run_slice_l w t ao n c (by rw[p];exact q) Ak (k:Int) (by omega) (by omega)]
 have:(sizeOf (Am.elem t)).run Am w=.ok E.size w:=by
  rw[p];simp[sizeOf,typeInfo,j,m]
 rw[this];simp only[Result.andThen,sliced,Int.toNat_natCast]
 intro w xs x h
 split
 intro f;simp at f;omega
 intro f;obtain⟨b,off,rfl,l,g⟩:=h (by simp at f;omega);simp only[Option.map_some,F8];exact gQ.drop (E:=E) (b:=b) (off:=off) (xs:=xs) (λ _=>⟨b,off,rfl,l,g⟩) k f
def iU(w:Ap)(B:Nat)(t:AP)(x y z:Ar):Prop:=w.heap[B]? = some (Ai #[x,y,z] t (0,0))
section
variable {w w':World}{B:Nat}{t:TypeId}{x y z:Value}
theorem iU.lt(h:iU w B t x y z):B<w.heap.size:=(Array.getElem?_eq_some_iff.1 h).1
theorem iU.below(h:iU w B t x y z)(a:Iz w w'):iU w' B t x y z:=(a.block B h.lt).trans h
theorem iU.cells(h:iU w B t x y z):w.cell? ⟨B,0,none⟩=some x/\w.cell? ⟨B,1,none⟩=some y/\w.cell? ⟨B,2,none⟩=some z:=by
 unfold iU at h;simp[World.cell?,h]
theorem iU.thaw(h:iU w B t x y z):w.frozen? ⟨B,0,none⟩=false/\w.frozen? ⟨B,1,none⟩=false/\w.frozen? ⟨B,2,none⟩=false:=by
 unfold iU at h;simp[World.frozen?,h]
theorem iU.new(w:Ap)(t:AP)(x y z:Ar):iU (w.alloc (Ai #[x,y,z] t)) w.heap.size t x y z:=by
 unfold iU World.alloc;simp
theorem iU.put1(h:iU w B t x y z)(a:Ar):iU (w.setCell ⟨B,1,none⟩ a) B t x a z:=by
 unfold iU at h ⊢;simp[World.setCell,Array.getElem?_modify,h]
theorem iU.put2(h:iU w B t x y z)(a:Ar):iU (w.setCell ⟨B,2,none⟩ a) B t x y a:=by
 unfold iU at h ⊢;simp[World.setCell,Array.getElem?_modify,h]
end
theorem oB:Am.elem 118=125:=by kernel_rfl
theorem LR{t:List En}(h:gQ gZ w ao (e::t)):∃b off,ao=some ⟨b,off,none⟩/\b<w.heap.size/\w.cell? ⟨b,off,none⟩=some (tx e.1)/\w.cell? ⟨b,off+1,none⟩=some (Ab Al (e.2.toNat:Int)):=by
 obtain⟨b,off,rfl,a⟩:=h.some_of (i:=0) (x:=e) rfl;obtain⟨_,c,d⟩:=h.ents (i:=0) (e:=e) rfl;refine⟨b,off,rfl,a,?_,?_⟩
 simpa using c
 simpa using d
theorem dG{d:Nat}{a:List En}(w:Ap)(i:gQ gZ w ao a)(j:gQ gZ w bo b)(f:a.length=n)(g:b.length=m)(G:n<=4000000000000000000)(F:m<=4000000000000000000)(h:a≠[]∨b≠[])(p:Bs)(hp:iw a b=p):
  At Am 136 #[Aa ao n c,Aa bo m d] w λ e w'=>e=Aj (tx p)/\∃q,w'=w.drewN q:=by
 cases b with
 | nil =>
  cases a with
  | nil=>simp at h
  | cons x s =>
   obtain rfl:x.1=p:=hp;obtain⟨b1,D,rfl,_,v,_⟩:=LR i;obtain rfl:m=0:=g.symm
   have r:¬(n:Int)=0:=by simp at f;omega
   clear i j f g h;go_enter func136,ntmps136;go_wp2_with fail;go_quiet (fail);go_wp2;go_ret;exact⟨rfl,_,rfl⟩
 | cons y t =>
  obtain⟨b2,H,rfl,_,E,_⟩:=LR j
  have o:¬(m:Int)=0:=by simp at g;omega
  have z:(0:Int)<(m:Int):=by simp at g;omega
  have A:((m:Int)==0)=false:=by simpa using o
  cases a with
  | nil =>
   obtain rfl:y.1=p:=hp;obtain rfl:n=0:=f.symm;clear i j f g h;go_enter func136,ntmps136;go_wp2_with fail;go_quiet (fail);go_wp2;go_ret;exact⟨rfl,_,rfl⟩
  | cons x s =>
   obtain⟨b1,D,rfl,_,v,_⟩:=LR i
   have r:¬(n:Int)=0:=by simp at f;omega
   have B:(0:Int)<(n:Int):=by simp at f;omega
   have u:0<n:=by omega
   have C:decide (0<n)=true:=by simpa using u
   by_cases k:x.1<y.1
   ·obtain rfl:x.1=p:=by rw[<- hp];simp[iw,k]
    have l:Op.bytesLess x.1 y.1=true:=by rw[Ho];simpa using k
    clear i j f g h hp;go_enter func136,ntmps136;go_wp2_with fail;go_quiet (fail);go_wp2;go_ret;exact⟨rfl,_,rfl⟩
   ·obtain rfl:y.1=p:=by rw[<- hp];simp[iw,k]
    have l:Op.bytesLess x.1 y.1=false:=by rw[Ho];simpa using k
    clear i j f g h hp;go_enter func136,ntmps136;go_wp2_with fail;go_quiet (fail);go_wp2;go_ret;exact⟨rfl,_,rfl⟩
theorem Pi{a:List En}(p:Bs)(w:Ap)(g:gQ gZ w ao a)(d:a.length=n)(j:n<=c)(o:UInt64)(t:List En)(b:iN a p=(o,t)):
  At Am 137 #[Aa ao n c,tx p] w λ e w'=>∃f l c',e=Aj (Af #[Ab Al (o.toNat:Int),Aa f l c'])/\t.length=l/\l<=c'/\c'<=c/\(∀u,gQ gZ u ao a->gQ gZ u f t)/\∃q,w'=w.drewN q:=by
 cases a with
 | nil =>
  obtain⟨rfl,rfl⟩:o=0/\t=[]:=by simpa[iN]using b.symm
  obtain rfl:n=0:=d.symm;clear b;go_enter func137,ntmps137;go_wp2;refine As (AD rfl _ _ _) rfl ?_;exact⟨ao,0,c,rfl,rfl,j,AA _,λ u h=>h,0,rfl⟩
 | cons e s =>
  obtain⟨b1,i,rfl,_,C,D⟩:=LR g
  have z:¬(n:Int)=0:=by simp at d;omega
  have A:(0:Int)<(n:Int):=by simp at d;omega
  have H:Hid (gQ gZ w (some ⟨b1,i,none⟩) (e::s)/\(e::s).length=n):=⟨g,d⟩
  by_cases k:e.1=p
  ·obtain⟨rfl,rfl⟩:e.2=o/\s=t:=by
    rw[iN,AC k]at b;exact⟨A7 Prod.fst b,A7 Prod.snd b⟩
   obtain⟨f,c',m,r,v,x⟩:=Uv gZ 125 118 24 _ Tryz.info125 underlying118 oB (ao:=some ⟨b1,i,none⟩) (k:=1) j (by simp at d;omega);subst k
   have L:Hid (n - 1<=c'/\c'<=c/\∀w (xs:List En),xs.length=n->gQ gZ w (some ⟨b1,i,none⟩) xs->gQ gZ w f (xs.drop 1)):=⟨r,v,x⟩
   have y:∀w,(Instr.slice 118 (Aa (some ⟨b1,i,none⟩) n c) (some (Ab Ak 1)) none none).run Am w=.ok (Aa f (n - 1) c') w:=m;clear b g d m r v x;go_enter func137,ntmps137;go_wp2_with fail;go_quiet (fail);go_wp2;refine As (AD rfl _ _ _) rfl ?_;exact⟨f,n - 1,c',rfl,by have:=H.o.2;simp at this;omega,L.o.1,L.o.2.1,λ u h=>L.o.2.2 u _ H.o.2 h,_,rfl⟩
  ·obtain⟨rfl,rfl⟩:(0:UInt64)=o/\e::s=t:=by
    rw[iN,Ay k]at b;exact⟨A7 Prod.fst b,A7 Prod.snd b⟩
   have B:(e.1==p)=false:=by simpa using k
   clear b g d;go_enter func137,ntmps137;go_wp2;refine As (AD rfl _ _ _) rfl ?_;exact⟨_,n,c,rfl,H.o.2,j,AA _,λ u h=>h,0,rfl⟩
theorem eA{K:Nat}{lo:Option Addr}{d Z lc:Nat}{A B:List En}{y:List Bs}(w:Ap)(ha:gQ gZ w ao A)(hb:gQ gZ w bo B)(hl:A.length=n)(hk:B.length=m)(aB:n<=c)(aA:m<=d)(hc:c<=K)(hd:d<=K)(hn:n<=100000)(hm:m<=100000)
  (rA:kk A) (rB:kk B) (fA:kV A) (fB:kV B) (hL:Rd w lo y) (au:y.length=Z) (aE:Z<=100000) :
  At Am 87 #[Aa ao n c,Aa bo m d,Ag #[Aa lo Z lc]] w λ e w'=>∃v',e=Aj v'/\gM kQ 171 w' w.heap.size v' (jY (jt y) A B)/\Iz w w':=by
 have LL:=I2 hL au
 have H:=I8 ha hb hl hk rA rB fA fB
 have W0:=I2 (gW _ _:Iz w (w.alloc (Ai #[Aa lo Z lc] 169))) (by simp:(w.alloc (Ai #[Aa lo Z lc] 169)).cell? ⟨w.heap.size,0,none⟩=some (Aa lo Z lc))
 clear hL au ha hb hl hk rA rB fA fB;go_enter func87,ntmps87;go_wp2_with fail
 go_loopg[0,1,7] (n+m) (λ k av bv ov wr=>∃(a' b':Option Addr) (W c' m' d':Nat),av=Aa a' W c'/\bv=Aa b' m' d'/\W+m'=k/\W<=c'/\m'<=d'/\c'<=K/\d'<=K/\W<=100000/\m'<=100000 /\
  Hid (∃(J bl:List En) (out:List nX),J.length=W/\bl.length=m'/\gQ gZ w a' J/\gQ gZ w b' bl/\kk J/\kk bl/\kV J/\kV bl/\out++jY (jt y) J bl=jY (jt y) A B/\out.length+W+m'<=n+m/\gM kQ 171 wr (w.heap.size+1) ov out/\Iz w wr/\An (w.heap.size+1) (w.alloc (Ai #[Aa lo Z lc] 169)) wr))
 case atStart=>exact⟨ao,bo,n,c,m,d,rfl,rfl,rfl,aB,aA,hc,hd,hn,hm,A,B,[],H.o.2.2.1,H.o.2.2.2.1,H.o.1,H.o.2.1,H.o.2.2.2.2.1,H.o.2.2.2.2.2.1,H.o.2.2.2.2.2.2.1,H.o.2.2.2.2.2.2.2,rfl,by simp,gM.nil _ _ _ _,W0.o.1,Ao _ _⟩
 case round =>
  obtain⟨a',b',W,c',m',d',rfl,rfl,aD,h1,h2,h3,h4,h5,h6,HR⟩:=hrel;obtain⟨J,bl,out,l1,l2,R1,R2,q1,q2,f1,f2,aa,ax,OW,BW,BX⟩:=HR.o;have cl:wr.cell? ⟨w.heap.size,0,none⟩=some (Aa lo Z lc):=(BX.cell (p:=⟨w.heap.size,0,none⟩) (by simp)).trans W0.o.2;by_cases h0:W=0/\m'=0
  ·obtain⟨rfl,rfl⟩:=h0;have l:=AQ l1;have e2:=AQ l2;subst l e2;have e3:jY (jt y) [] []=[]:=rfl;rw[e3,Bz]at aa
   have G:=I3 aa OW BW
   clear aa OW BW R1 R2 q1 q2 f1 f2 HR l1 l2 BX cl;go_wp2;go_ret;exact⟨_,rfl,by rw[<- G.o.1];exact gM.low G.o.2.1 (by omega),G.o.2.2⟩
  ·have ac:J≠[]∨bl≠[]:=by
    rcases Cc W with z|z
    ·right;intro e;rw[e]at l2;exact h0 ⟨z,l2.symm⟩
    ·left;intro e;rw[e]at l1;simp at l1;omega
   have ah:=T7 (jt y) q1 q2 ac;have ag:=UZ ac
   obtain⟨p,hp⟩:=Xa (iw J bl)
   have ay:p.length<=9223372036854775807:=by
    rw[<- hp]
    rcases Th ac with q|q
    ·obtain⟨e,he,ee⟩:=BJ.1 q;rw[<- ee];exact f1 e he
    ·obtain⟨e,he,ee⟩:=BJ.1 q;rw[<- ee];exact f2 e he
   have ar:=λ u r1 r2=>dG (c:=c') (d:=d') (ao:=a') (bo:=b') u r1 r2 l1 l2 (by omega) (by omega) ac p hp
   rw[hp]at ah ag
   obtain⟨o,t,V⟩:∃o t,iN J p=(o,t):=⟨_,_,rfl⟩
   obtain⟨j,t2,L⟩:∃j t2,iN bl p=(j,t2):=⟨_,_,rfl⟩
   have ai:=λ u r=>Pi (c:=c') (ao:=a') p u r l1 h1 o t V
   have aj:=λ u r=>Pi (c:=d') (ao:=b') p u r l2 h2 j t2 L
   have k1:=Px q1 p;have k2:=Px q2 p;rw[V,L]at ah ag;rw[V]at k1;rw[L]at k2
   have ak:t.length+t2.length<W+m':=by simpa[l1,l2]using ag
   have TL:Hid (t.length<=100000/\t2.length<=100000):=by
    have l:=LS J p;have e2:=LS bl p;rw[V]at l;rw[L]at e2;simp only at l e2;exact⟨by omega,by omega⟩
   have ft:kV t/\kV t2:=by
    refine⟨λ e he=>f1 e ?_,λ e he=>f2 e ?_⟩
    ·have:=Ru J p e;rw[V]at this;exact this he
    ·have:=Ru bl p e;rw[L]at this;exact this he
   have a:=I8 aa ah ak k1 k2 ft.1 ft.2 ax
   have SW:=I5 OW BW BX R1 R2
   have U:=ar wr (R1.below BW) (R2.below BW);clear ah ag ak k1 k2 aa OW BW BX ac V L hp q1 q2 HR ar l1 l2 R1 R2 f1 f2 ft ax h0
   rcases Cc W with z|z
   ·have z2:(0:Int)<(m':Int):=by have:=a.o.2.2.1;omega
    subst z;go_wp2_with fail;refine U.mono ?_;rintro e w1 ⟨rfl,k1,ad⟩
    have BB:Hid (Iz wr w1/\w1.heap.size=wr.heap.size):=by rw[ad];exact⟨AY (Ao _ _) k1,rfl⟩
    clear ad U
    go_upto_region 4 with fail
    obtain⟨w2,P⟩:=Xb (w1.alloc (Ai #[Ae ⟨p.toArray⟩,Ab Al 0,Ab Al 0] 171))
    obtain⟨R,hR⟩:=Xa w1.heap.size
    have X:Hid (iU w2 R 171 (tx p) (Ab Al 0) (Ab Al 0)/\Iz wr w2/\wr.heap.size<=R):=by
     rw[P,<- hR];exact⟨iU.new w1 171 _ _ _,BB.o.1.trans ((gW w1 _).mono BB.o.1.size),BB.o.1.size⟩
    rw[<- P,hR];clear P hR BB;obtain⟨s,v,x⟩:=X.o.1.cells;have M:=ai w2 ((SW.o.2.2.2.1.below SW.o.2.1).below X.o.2.1);go_wp2_with fail;refine M.mono ?_;rintro e w3 ⟨a3,C,c3,rfl,L3,k3,k4,P3,q3,ae⟩
    have E:Hid (iU w3 R 171 (tx p) (Ab Al 0) (Ab Al 0)/\Iz wr w3/\wr.heap.size<=R):=by
     rw[ae];exact⟨X.o.1.below (AY (Ao _ _) q3),AY X.o.2.1 q3,X.o.2.2⟩
    clear ae M ai X s v x;obtain⟨s,v,x⟩:=E.o.1.cells;obtain⟨t0,t1,T⟩:=E.o.1.thaw
    have b:=I2 L3 P3
    clear L3 P3
    go_upto_region 5 with fail
    obtain⟨w4,Q⟩:=Xb (w3.setCell ⟨R,1,none⟩ (Ab Al (o.toNat:Int)))
    have Y:Hid (iU w4 R 171 (tx p) (Ab Al (o.toNat:Int)) (Ab Al 0)/\Iz wr w4/\wr.heap.size<=R):=by
     rw[Q];exact⟨E.o.1.put1 _,E.o.2.1.trans ((BR 1 _).below E.o.2.1.size (λ k hk e=>by have:=E.o.2.2;omega)),E.o.2.2⟩
    rw[<- Q];clear Q E s v x t0 t1 T;obtain⟨s,v,x⟩:=Y.o.1.cells;have N:=aj w4 ((SW.o.2.2.2.2.below SW.o.2.1).below Y.o.2.1);go_wp2_with fail;refine N.mono ?_;rintro e w5 ⟨a5,D,c5,rfl,L5,k5,k6,P5,q5,af⟩
    have F:Hid (iU w5 R 171 (tx p) (Ab Al (o.toNat:Int)) (Ab Al 0)/\Iz wr w5/\wr.heap.size<=R):=by
     rw[af];exact⟨Y.o.1.below (AY (Ao _ _) q5),AY Y.o.2.1 q5,Y.o.2.2⟩
    clear af N aj Y s v x;obtain⟨s,v,x⟩:=F.o.1.cells;obtain⟨t0,t1,T⟩:=F.o.1.thaw
    have f:=I2 L5 P5
    clear L5 P5
    go_upto_region 6 with fail
    obtain⟨w6,S⟩:=Xb (w5.setCell ⟨R,2,none⟩ (Ab Al (j.toNat:Int)))
    have h:Hid (iU w6 R 171 (tx p) (Ab Al (o.toNat:Int)) (Ab Al (j.toNat:Int))/\Iz wr w6/\wr.heap.size<=R):=by
     rw[S];exact⟨F.o.1.put2 _,F.o.2.1.trans ((BR 2 _).below F.o.2.1.size (λ k hk e=>by have:=F.o.2.2;omega)),F.o.2.2⟩
    rw[<- S];clear S F s v x t0 t1 T;obtain⟨s,v,x⟩:=h.o.1.cells;have am:w6.cell? ⟨w.heap.size,0,none⟩=some (Aa lo Z lc):=(h.o.2.1.cell (p:=⟨w.heap.size,0,none⟩) (by have:=SW.o.2.2.1.size;simp at this;show w.heap.size<_;omega)).trans cl
    have az:C<=100000/\D<=100000:=⟨by rw[<- b.o.1];exact TL.o.1,by rw[<- f.o.1];exact TL.o.2⟩
    have aw:C+D<gk:=by have h1:=a.o.2.2.1;have h2:=b.o.1;have h3:=f.o.1;omega
    clear cl;by_cases V:o=j
    ·subst V;go_wp2;go_roundg (C+D)
     case measure=>omega
     case rel =>
      refine⟨a3,a5,C,c3,D,c5,rfl,rfl,rfl,k3,k5,by omega,by omega,by omega,by omega,t,t2,out,b.o.1,f.o.1,b.o.2 _ SW.o.2.2.2.1,f.o.2 _ SW.o.2.2.2.2,a.o.2.2.2.1,a.o.2.2.2.2.1,a.o.2.2.2.2.2.1,a.o.2.2.2.2.2.2.1,?_,?_,SW.o.1.below h.o.2.1,SW.o.2.1.trans (h.o.2.1.mono SW.o.2.1.size),SW.o.2.2.1.trans (h.o.2.1.mono (by have:=SW.o.2.2.1.size;simp at this;exact this))⟩
      ·have l:=a.o.1;rw[a.o.2.1]at l;simpa using l
      ·have:=a.o.2.2.2.2.2.2.2;omega
    ·have ap:((o.toNat:Int) != (j.toNat:Int))=true:=by
      simp only[Ex,ne_eq];intro e;exact V (UInt64.toNat_inj.1 (by omega))
     have L:((o.toNat:Int)==(j.toNat:Int))=false:=by simpa using ap
     obtain⟨g,hg⟩:=Xa (jt y p)
     have ab:=QY (c:=lc) p w6 ((LL.o.1.below SW.o.2.1).below h.o.2.1) LL.o.2 (by omega) ay g hg
     have EG:=I2 hg (by simpa using V:(o != j)=true)
     clear hg;go_wp2_with fail;refine ab.mono ?_;rintro e w7 ⟨rfl,B7⟩
     have I:=I3 (h.o.1.below B7) (h.o.2.1.trans (B7.mono h.o.2.1.size)) ((SW.o.1.below h.o.2.1).below B7:gM kQ 171 w7 (w.heap.size+1) _ out)
     clear B7 ab h s v x am;obtain⟨s,v,x⟩:=I.o.1.cells
     cases g with
     | false =>
      go_wp2;go_roundg (C+D)
      case measure=>omega
      case rel =>
       refine⟨a3,a5,C,c3,D,c5,rfl,rfl,rfl,k3,k5,by omega,by omega,by omega,by omega,t,t2,out,b.o.1,f.o.1,b.o.2 _ SW.o.2.2.2.1,f.o.2 _ SW.o.2.2.2.2,a.o.2.2.2.1,a.o.2.2.2.2.1,a.o.2.2.2.2.2.1,a.o.2.2.2.2.2.2.1,?_,?_,I.o.2.2,SW.o.2.1.trans (I.o.2.1.mono SW.o.2.1.size),SW.o.2.2.1.trans (I.o.2.1.mono (by have:=SW.o.2.2.1.size;simp at this;exact this))⟩
       ·have l:=a.o.1;rw[a.o.2.1,EG.o.1]at l;simpa using l
       ·have:=a.o.2.2.2.2.2.2.2;omega
     | true =>
      have aC:out.length<=200000:=by have:=a.o.2.2.2.2.2.2.2;omega
      have an:w.heap.size+1<=w7.heap.size:=by have h1:=SW.o.2.2.1.size;have h2:=I.o.2.1.size;simp at h1;omega
      go_wp2_with(at_builtin;refine BA kQ 171 166 32 (Ag #[Ae ⟨#[]⟩,Ab Al 0,Ab Al 0]) rfl Tryz.info171 underlying166 rfl (.tmp 48) (.tmp 50) rfl (w.heap.size+1) _ out (p,o,j) _ rfl I.o.2.2 rfl (by omega) (by simp only[maxLen];omega) an _ rfl ?_;intro v8 w8 O i _ _);go_roundg (C+D)
      case measure=>omega
      case rel =>
       have aq:=SW.o.2.1.size;refine⟨a3,a5,C,c3,D,c5,rfl,rfl,rfl,k3,k5,by omega,by omega,by omega,by omega,t,t2,out++[(p,o,j)],b.o.1,f.o.1,b.o.2 _ SW.o.2.2.2.1,f.o.2 _ SW.o.2.2.2.2,a.o.2.2.2.1,a.o.2.2.2.2.1,a.o.2.2.2.2.2.1,a.o.2.2.2.2.2.2.1,?_,?_,O,(SW.o.2.1.trans (I.o.2.1.mono aq)).trans (i.mono (by omega)),(SW.o.2.2.1.trans (I.o.2.1.mono (by have:=SW.o.2.2.1.size;simp at this;exact this))).trans i⟩
       ·have l:=a.o.1;rw[a.o.2.1,EG.o.1,EG.o.2]at l;simpa using l
       ·have:=a.o.2.2.2.2.2.2.2;rw[Ax,Eo];omega
   ·have z1:(0:Int)<(W:Int):=by omega
    go_wp2_with fail;refine U.mono ?_;rintro e w1 ⟨rfl,k1,ad⟩
    have BB:Hid (Iz wr w1/\w1.heap.size=wr.heap.size):=by rw[ad];exact⟨AY (Ao _ _) k1,rfl⟩
    clear ad U
    go_upto_region 4 with fail
    obtain⟨w2,P⟩:=Xb (w1.alloc (Ai #[Ae ⟨p.toArray⟩,Ab Al 0,Ab Al 0] 171))
    obtain⟨R,hR⟩:=Xa w1.heap.size
    have X:Hid (iU w2 R 171 (tx p) (Ab Al 0) (Ab Al 0)/\Iz wr w2/\wr.heap.size<=R):=by
     rw[P,<- hR];exact⟨iU.new w1 171 _ _ _,BB.o.1.trans ((gW w1 _).mono BB.o.1.size),BB.o.1.size⟩
    rw[<- P,hR];clear P hR BB;obtain⟨s,v,x⟩:=X.o.1.cells;have M:=ai w2 ((SW.o.2.2.2.1.below SW.o.2.1).below X.o.2.1);go_wp2_with fail;refine M.mono ?_;rintro e w3 ⟨a3,C,c3,rfl,L3,k3,k4,P3,q3,ae⟩
    have E:Hid (iU w3 R 171 (tx p) (Ab Al 0) (Ab Al 0)/\Iz wr w3/\wr.heap.size<=R):=by
     rw[ae];exact⟨X.o.1.below (AY (Ao _ _) q3),AY X.o.2.1 q3,X.o.2.2⟩
    clear ae M ai X s v x;obtain⟨s,v,x⟩:=E.o.1.cells;obtain⟨t0,t1,T⟩:=E.o.1.thaw
    have b:=I2 L3 P3
    clear L3 P3
    go_upto_region 5 with fail
    obtain⟨w4,Q⟩:=Xb (w3.setCell ⟨R,1,none⟩ (Ab Al (o.toNat:Int)))
    have Y:Hid (iU w4 R 171 (tx p) (Ab Al (o.toNat:Int)) (Ab Al 0)/\Iz wr w4/\wr.heap.size<=R):=by
     rw[Q];exact⟨E.o.1.put1 _,E.o.2.1.trans ((BR 1 _).below E.o.2.1.size (λ k hk e=>by have:=E.o.2.2;omega)),E.o.2.2⟩
    rw[<- Q];clear Q E s v x t0 t1 T;obtain⟨s,v,x⟩:=Y.o.1.cells;have N:=aj w4 ((SW.o.2.2.2.2.below SW.o.2.1).below Y.o.2.1);go_wp2_with fail;refine N.mono ?_;rintro e w5 ⟨a5,D,c5,rfl,L5,k5,k6,P5,q5,af⟩
    have F:Hid (iU w5 R 171 (tx p) (Ab Al (o.toNat:Int)) (Ab Al 0)/\Iz wr w5/\wr.heap.size<=R):=by
     rw[af];exact⟨Y.o.1.below (AY (Ao _ _) q5),AY Y.o.2.1 q5,Y.o.2.2⟩
    clear af N aj Y s v x;obtain⟨s,v,x⟩:=F.o.1.cells;obtain⟨t0,t1,T⟩:=F.o.1.thaw
    have f:=I2 L5 P5
    clear L5 P5
    go_upto_region 6 with fail
    obtain⟨w6,S⟩:=Xb (w5.setCell ⟨R,2,none⟩ (Ab Al (j.toNat:Int)))
    have h:Hid (iU w6 R 171 (tx p) (Ab Al (o.toNat:Int)) (Ab Al (j.toNat:Int))/\Iz wr w6/\wr.heap.size<=R):=by
     rw[S];exact⟨F.o.1.put2 _,F.o.2.1.trans ((BR 2 _).below F.o.2.1.size (λ k hk e=>by have:=F.o.2.2;omega)),F.o.2.2⟩
    rw[<- S];clear S F s v x t0 t1 T;obtain⟨s,v,x⟩:=h.o.1.cells;have am:w6.cell? ⟨w.heap.size,0,none⟩=some (Aa lo Z lc):=(h.o.2.1.cell (p:=⟨w.heap.size,0,none⟩) (by have:=SW.o.2.2.1.size;simp at this;show w.heap.size<_;omega)).trans cl
    have az:C<=100000/\D<=100000:=⟨by rw[<- b.o.1];exact TL.o.1,by rw[<- f.o.1];exact TL.o.2⟩
    have aw:C+D<gk:=by have h1:=a.o.2.2.1;have h2:=b.o.1;have h3:=f.o.1;omega
    clear cl;by_cases V:o=j
    ·subst V;go_wp2;go_roundg (C+D)
     case measure=>omega
     case rel =>
      refine⟨a3,a5,C,c3,D,c5,rfl,rfl,rfl,k3,k5,by omega,by omega,by omega,by omega,t,t2,out,b.o.1,f.o.1,b.o.2 _ SW.o.2.2.2.1,f.o.2 _ SW.o.2.2.2.2,a.o.2.2.2.1,a.o.2.2.2.2.1,a.o.2.2.2.2.2.1,a.o.2.2.2.2.2.2.1,?_,?_,SW.o.1.below h.o.2.1,SW.o.2.1.trans (h.o.2.1.mono SW.o.2.1.size),SW.o.2.2.1.trans (h.o.2.1.mono (by have:=SW.o.2.2.1.size;simp at this;exact this))⟩
      ·have l:=a.o.1;rw[a.o.2.1]at l;simpa using l
      ·have:=a.o.2.2.2.2.2.2.2;omega
    ·have ap:((o.toNat:Int) != (j.toNat:Int))=true:=by
      simp only[Ex,ne_eq];intro e;exact V (UInt64.toNat_inj.1 (by omega))
     have L:((o.toNat:Int)==(j.toNat:Int))=false:=by simpa using ap
     obtain⟨g,hg⟩:=Xa (jt y p)
     have ab:=QY (c:=lc) p w6 ((LL.o.1.below SW.o.2.1).below h.o.2.1) LL.o.2 (by omega) ay g hg
     have EG:=I2 hg (by simpa using V:(o != j)=true)
     clear hg;go_wp2_with fail;refine ab.mono ?_;rintro e w7 ⟨rfl,B7⟩
     have I:=I3 (h.o.1.below B7) (h.o.2.1.trans (B7.mono h.o.2.1.size)) ((SW.o.1.below h.o.2.1).below B7:gM kQ 171 w7 (w.heap.size+1) _ out)
     clear B7 ab h s v x am;obtain⟨s,v,x⟩:=I.o.1.cells
     cases g with
     | false =>
      go_wp2;go_roundg (C+D)
      case measure=>omega
      case rel =>
       refine⟨a3,a5,C,c3,D,c5,rfl,rfl,rfl,k3,k5,by omega,by omega,by omega,by omega,t,t2,out,b.o.1,f.o.1,b.o.2 _ SW.o.2.2.2.1,f.o.2 _ SW.o.2.2.2.2,a.o.2.2.2.1,a.o.2.2.2.2.1,a.o.2.2.2.2.2.1,a.o.2.2.2.2.2.2.1,?_,?_,I.o.2.2,SW.o.2.1.trans (I.o.2.1.mono SW.o.2.1.size),SW.o.2.2.1.trans (I.o.2.1.mono (by have:=SW.o.2.2.1.size;simp at this;exact this))⟩
       ·have l:=a.o.1;rw[a.o.2.1,EG.o.1]at l;simpa using l
       ·have:=a.o.2.2.2.2.2.2.2;omega
     | true =>
      have aC:out.length<=200000:=by have:=a.o.2.2.2.2.2.2.2;omega
      have an:w.heap.size+1<=w7.heap.size:=by have h1:=SW.o.2.2.1.size;have h2:=I.o.2.1.size;simp at h1;omega
      go_wp2_with(at_builtin;refine BA kQ 171 166 32 (Ag #[Ae ⟨#[]⟩,Ab Al 0,Ab Al 0]) rfl Tryz.info171 underlying166 rfl (.tmp 48) (.tmp 50) rfl (w.heap.size+1) _ out (p,o,j) _ rfl I.o.2.2 rfl (by omega) (by simp only[maxLen];omega) an _ rfl ?_;intro v8 w8 O i _ _);go_roundg (C+D)
      case measure=>omega
      case rel =>
       have aq:=SW.o.2.1.size;refine⟨a3,a5,C,c3,D,c5,rfl,rfl,rfl,k3,k5,by omega,by omega,by omega,by omega,t,t2,out++[(p,o,j)],b.o.1,f.o.1,b.o.2 _ SW.o.2.2.2.1,f.o.2 _ SW.o.2.2.2.2,a.o.2.2.2.1,a.o.2.2.2.2.1,a.o.2.2.2.2.2.1,a.o.2.2.2.2.2.2.1,?_,?_,O,(SW.o.2.1.trans (I.o.2.1.mono aq)).trans (i.mono (by omega)),(SW.o.2.2.1.trans (I.o.2.1.mono (by have:=SW.o.2.2.1.size;simp at this;exact this))).trans i⟩
       ·have l:=a.o.1;rw[a.o.2.1,EG.o.1,EG.o.2]at l;simpa using l
       ·have:=a.o.2.2.2.2.2.2.2;rw[Ax,Eo];omega
def jP(ch:List Bs):List Bs:=kE (ch.flatMap parts)
def jR(ch:List Bs):Nat:=(kE (ch.filter gV)).length
def nu(k:Nat):Nat:=(max (12*k) 8+7) / 8
def mV(ch:List Bs):List Int:=(jP ch).flatMap (λ p=>iT p (8*(nu (jP ch).length:Nat)))
def lS(ch:List Bs):Bs:=if 8<jR ch then[2]else 1::iF (mV ch) (nu (jP ch).length)
theorem YI(k:Nat):1<=nu k:=by unfold nu;omega
theorem fp{b:List Bs}(h:∀x,x∈a↔x∈b):kE a=kE b :=
 Lt (Kb a) (Kb b) (λ x=>by rw[Ir,Ir];exact h x)
theorem TA(h:gV p=false):parts p=[]:=by simp[parts,h]
theorem NA(p:Bs):(parts p).length<=103:=by
 unfold parts
 split
 ·rename_i h
  have a:=MI p p.length;have b:=Mf h;rw[Ax,Eo];omega
 simp
theorem NH(p:Bs):∀(i:Nat) (x:Bs),x∈pre p i->x.length<=p.length
 | 0,x,h=>by simp[pre]at h
 | i+1,x,h=>by
  unfold pre at h
  split at h
  rcases AN.1 h with q|q
  exact NH p i x q;rw[AZ.1 q,List.length_take];omega;exact NH p i x h
theorem TJ{x:Bs}(h:x∈parts p):x.length<=102:=by
 unfold parts at h
 split at h
 ·rename_i hp
  have a:=Mf hp
  rcases AN.1 h with q|q
  have:=NH p _ x q;omega;rw[AZ.1 q];exact a
 cases h
theorem Of(l:List Bs):(l.flatMap parts).length<=103*l.length:=by
 induction l with
 | nil=>simp
 | cons x t a =>
  have:=NA x;simp only[List.flatMap_cons,Ax,A2];omega
theorem Pz(c:List Bs):kE ((kE (c.filter gV)).flatMap parts)=jP c:=by
 refine fp (λ x=>?_);simp only[Ft,Ir,Gw]
 constructor
 rintro⟨p,⟨b,_⟩,a⟩;exact⟨p,b,a⟩
 rintro⟨p,b,a⟩;refine⟨p,⟨b,?_⟩,a⟩
 cases hp:gV p with
 | true=>rfl
 | false=>rw[TA hp]at a;cases a
theorem TN(h:i<l.length)(f:Bs->Bool):(l.take (i+1)).filter f=(l.take i).filter f++(if f (el l i)then[el l i]else[]):=by
 rw[Bh h,List.filter_append,<- F5 h]
 congr 1
 by_cases q:f (el l i) <;> simp[q]
theorem NU(h:i<l.length)(f:Bs->List α):(l.take (i+1)).flatMap f=(l.take i).flatMap f++f (el l i):=by
 rw[Bh h,List.flatMap_append,<- F5 h];simp
theorem Oe(a:List Bs):(jP a).length<=103*jR a:=by
 rw[<- Pz];have b:=Jp ((kE (a.filter gV)).flatMap parts);have c:=Of (kE (a.filter gV));unfold jR;omega
theorem We(h:f.length=0):lN f=0:=by simp[lN,h]
theorem Ur{x:UInt8}(h:f[0]? = some x)(a:x≠1):lN f=0:=by
 unfold lN;rw[AC (.inr (by rw[h];simpa using a))]
theorem W9(h:f[0]? = some 1):lN f=8*((f.length:Int) - 1):=by
 have a:¬(f.length=0∨f[0]? ≠ some 1):=by
  rintro(q|q);rw[AQ q]at h;cases h;exact q h
 unfold lN;rw[Ay a]
theorem iE.first(h:iE w (Aa ao n c) f)(d:0<n):∃b off x,ao=some ⟨b,off,none⟩/\b<w.heap.size/\f[0]? = some x/\w.cell? ⟨b,off,none⟩=some (Ab .u8 (x.toNat:Int)):=by
 obtain⟨i,c',e,l,m,j⟩:=h;cases e;obtain⟨b,off,rfl,a,k⟩:=j d;have g:=Aq d;exact⟨b,off,f[0],rfl,a,g,k 0 _ g 0 _ rfl⟩
theorem dT(w:Ap)(h:iE w (Aa ao n c) f)(d:f.length=n)(s:n<=1000000000000000)(z:Int)(o:lN f=z):
  At Am 142 #[Aa ao n c] w λ e w'=>e=Aj (Ab Ak z)/\w'=w:=by
 subst o;by_cases k:n=0
 ·rw[We (by rw[d,k])];subst k;clear d h;go_enter func142,ntmps142;go_wp2;go_ret;exact⟨rfl,rfl⟩
 ·obtain⟨b,off,x,rfl,_,g,i⟩:=h.first (by omega)
  have m:¬(n:Int)=0:=by omega
  by_cases j:x=1
  ·subst j;have p:=i;rw[W9 g,d];clear d h g i;go_enter func142,ntmps142;go_wp2;go_ret;exact⟨by congr 2;go_num,rfl⟩
  ·rw[Ur g j]
   have a:¬((x.toNat:Int)=1):=by
    intro e;exact j (UInt8.toNat_inj.1 (show x.toNat=1 by omega))
   obtain⟨y,l⟩:∃y:Int,(x.toNat:Int)=y:=⟨_,rfl⟩
   rw[l]at i a
   have q:(y != 1)=true:=by simpa using a
   have r:(y==1)=false:=by simpa using a
   clear d h g l;go_enter func142,ntmps142;go_wp2;go_ret;exact⟨rfl,rfl⟩
theorem UJ(k:Nat)(f:k<=10000000000000000)(q:Nat)(hq:1+k / 8=q)(b:Int)(d:((2 ^ (k % 8):Nat):Int)=b)(w:Ap):
  At Am 144 #[Ab Ak (k:Int)] w λ e w'=>e=Aj (Af #[Ab Ak (q:Int),Ab .u8 b])/\∃m,w'=w.drewN m:=by
 have a:(1+(k:Int) / 8)=(q:Int):=by omega
 have c:(2:Int) ^ (k % 8) % 256=b:=by
  have h:∀j:Fin 8,((2 ^ j.val:Nat):Int)=(2:Int) ^ j.val % 256:=by decide
  rw[<- d];exact(h ⟨k % 8,FU _ (by decide)⟩).symm
 have E:=I2 a c
 clear a c hq d;go_enter func144,ntmps144;go_wp2_with fail;go_quiet (fail);rw[E.o.1,E.o.2];go_wp2;refine As (AD rfl _ _ _) rfl ?_;exact⟨rfl,_,rfl⟩
theorem Q0(w:Ap)(D:Rd w ao a)(F:a.length=n)(Q:n<=4000000)(q:∀x∈a,x.length<=9223372036854775807):
  At Am 139 #[Aa ao n c] w λ e w'=>∃v',e=Aj v'/\Own w' w.heap.size v' (kE (a.filter gV))/\Iz w w':=by
 have H:=I3 D F q
 clear D F q;go_enter func139,ntmps139;go_wp2_with fail;go_loopg[3,8] n (λ k M v wr=>∃i:Nat,v=Ab Ak i/\i+k=n/\Hid (Own wr w.heap.size M ((a.take i).filter gV)/\Iz w wr))
 case atStart=>exact⟨0,rfl,by omega,Own.nil _ _,Ao _ _⟩
 case round =>
  obtain⟨i,rfl,hi,d⟩:=hrel
  have h:((a.take i).filter gV).length<=4000000:=by
   have O:=List.length_filter_le gV (a.take i);have P:=CS i a;omega
  by_cases s:i<n
  have id:(i:Int)<(n:Int):=by omega
  obtain⟨b,off,rfl,y,E⟩:=H.o.1 (by rw[H.o.2.1];omega);obtain⟨x,q⟩:=Xa (el a i);have t:=E i (by rw[H.o.2.1];omega);rw[q]at t
  have z:x.length<=9223372036854775807:=by rw[<- q];exact H.o.2.2 _ (Iy (by rw[H.o.2.1];exact s))
  have C:wr.cell? ⟨b,off+i,none⟩=some (Ae ⟨x.toArray⟩):=(d.o.2.cell y).trans t;obtain⟨g,u⟩:=Xa (gV x);have p:=TN (l:=a) (i:=i) (by rw[H.o.2.1];exact s) gV;rw[q,u]at p;have B:Hid _:=p;have r:=Kj ⟨x.toArray⟩ (by rw[jz];exact z) g u;have G:=Ih h;clear E t q p u h;go_wp2_with fail;refine(r _).mono ?_;rintro e N ⟨rfl,m,rfl⟩;clear r
  cases g with
  | true =>
   rw[show mP true=0 from rfl];go_wp2_with(at_builtin;refine Hl rfl (.tmp 15) (.tmp 17) rfl w.heap.size _ ((a.take i).filter gV) x _ rfl (d.o.1.below (AY (Ao _ _) m)) rfl G.o d.o.2.size ?_;intro v4 S j f);go_roundg (gk - 1)
   case measure=>omega
   case rel=>exact⟨i+1,by go_num,by omega,by rw[B.o];exact j,(AY d.o.2 m).trans f⟩
  | false =>
   rw[show mP false=2 from rfl];go_wp2;go_roundg (gk - 1)
   case measure=>omega
   case rel=>exact⟨i+1,by go_num,by omega,by rw[B.o];simp only[Bool.false_eq_true,Ek,Bz];exact d.o.1.below (AY (Ao _ _) m),AY d.o.2 m⟩
  obtain rfl:i=n:=by omega
  have e:a.take i=a:=Av (by rw[H.o.2.1];omega);rw[e]at d h;obtain⟨I,C,rfl,_,_,A⟩:=d.o.1.form;have L:=Sv (c:=C) wr A rfl (by omega);clear A e;go_wp2_with fail;refine L.mono ?_;rintro e N ⟨R,rfl,K,J⟩;go_wp2;go_ret;exact⟨_,rfl,Nu K d.o.2.size,d.o.2.trans (J.mono d.o.2.size)⟩
theorem ZT{ps:List Bs}(w:Ap)(E:Rd w ao ps)(G:ps.length=n)(V:n<=4000000)(j:∀x∈ps,x.length<=9223372036854775807):
  At Am 140 #[Aa ao n c] w λ e w'=>∃v',e=Aj v'/\Own w' w.heap.size v' (kE (ps.flatMap parts))/\Iz w w':=by
 have H:=I3 E G j
 clear E G j;go_enter func140,ntmps140;go_wp2_with fail;go_loopg[3,8] n (λ k R v wr=>∃i:Nat,v=Ab Ak i/\i+k=n/\Hid (Own wr w.heap.size R ((ps.take i).flatMap parts)/\Iz w wr))
 case atStart=>exact⟨0,rfl,by omega,Own.nil _ _,Ao _ _⟩
 case round =>
  obtain⟨i,rfl,hi,a⟩:=hrel
  have d:((ps.take i).flatMap parts).length<=412000000:=by
   have T:=Of (ps.take i);have U:=CS i ps;omega
  by_cases m:i<n
  have id:(i:Int)<(n:Int):=by omega
  obtain⟨b,off,rfl,y,F⟩:=H.o.1 (by rw[H.o.2.1];omega);obtain⟨x,j⟩:=Xa (el ps i);have t:=F i (by rw[H.o.2.1];omega);rw[j]at t
  have z:x.length<=9223372036854775807:=by rw[<- j];exact H.o.2.2 _ (Iy (by rw[H.o.2.1];exact m))
  have D:wr.cell? ⟨b,off+i,none⟩=some (Ae ⟨x.toArray⟩):=(a.o.2.cell y).trans t;have h:=NU (l:=ps) (i:=i) (by rw[H.o.2.1];exact m) parts;rw[j]at h;have K:Hid _:=h;have p:=YC ⟨x.toArray⟩ (by rw[jz];exact z) wr;have I:=I2 d (NA x);clear F t j h d;go_wp2_with fail;refine p.mono ?_;rintro e r ⟨S,rfl,A,s⟩;obtain⟨a2,N,rfl,_,_,C⟩:=A.form;have q:=I3 C (a.o.1.below s) (a.o.2.trans (s.mono a.o.2.size))
  clear A s C p;go_wp2_with(at_builtin;refine Za rfl (.tmp 12) (.tmp 14) rfl w.heap.size _ ((ps.take i).flatMap parts) (parts x) a2 _ N rfl q.o.2.1 rfl q.o.1 rfl (by have:=I.o;omega) q.o.2.2.size ?_;intro v4 W g f);go_roundg (gk - 1)
  case measure=>omega
  case rel=>exact⟨i+1,by go_num,by omega,by rw[K.o];exact g,q.o.2.2.trans f⟩
  obtain rfl:i=n:=by omega
  have e:ps.take i=ps:=Av (by rw[H.o.2.1];omega);rw[e]at a d;obtain⟨L,u⟩:=Xa (ps.flatMap parts);rw[u]at a d;have J:=Ih u;clear u;obtain⟨M,D,rfl,_,_,B⟩:=a.o.1.form;have Q:=Sv (c:=D) wr B rfl (by omega);clear B e;go_wp2_with fail;refine Q.mono ?_;rintro e r ⟨S,rfl,P,O⟩;go_wp2;go_ret;exact⟨_,rfl,by rw[J.o];exact Nu P a.o.2.size,a.o.2.trans (O.mono a.o.2.size)⟩
theorem ZU(k:Nat)(a:k<=1000000)(w:Ap):
  At Am 141 #[Ab Ak (k:Int)] w λ e w'=>e=Aj (Ab Ak ((nu k:Nat):Int))/\w'=w:=by
 have e:(max ((k:Int)*12) 8+8 - 1) / 8=((nu k:Nat):Int):=by unfold nu;omega
 have E:Hid (_=_):=e;clear e;go_enter func141,ntmps141;go_wp2;go_ret;exact⟨by rw[<- E.o];rfl,rfl⟩
theorem Vb{a:Ap}(h:Aw S a w)(n:Nat):Aw S a (w.drewN n):=⟨h.os,h.tape,h.output,h.size,h.block⟩
theorem Z8(a:List Int)(h:k / 8<n):(1::iF a n).set (1+k / 8) (jS (a++[(k:Int)]) (k / 8))=1::iF (a++[(k:Int)]) n:=by
 rw[Gm 1,List.set_cons_succ,U9 _ _ _ h]
theorem Xe(a:List Int)(h:k / 8<n):(1::iF a n)[1+k / 8]? = some (jS a (k / 8)):=by
 rw[Gm 1,Gk,Kw _ h]
theorem VQ(n:Nat):(Bk (1+n) (0:UInt8)).set 0 1=1::iF [] n:=by
 rw[Wx,Gm,List.replicate_succ,List.set_cons_zero]
theorem Y1{b:List Bs}(w:Ap)(i:Rd w ao b)(j:b.length=n)(m:n<=4000000)(k:∀x∈b,x.length<=9223372036854775807)(f:8<jR b):
  At Am 88 #[Aa ao n c] w λ e w'=>∃v',e=Aj v'/\gM gP 5 w' w.heap.size v' [2]/\Iz w w':=by
 have a:=Q0 (c:=c) w i j m k;unfold jR at f
 obtain⟨ps,d⟩:=Xa (kE (b.filter gV))
 rw[d]at a f
 have l:(8:Int)<(ps.length:Int):=by omega
 clear i j k d f;go_enter func88,ntmps88;go_wp2_with fail;refine a.mono ?_;rintro e w1 ⟨q,rfl,h,g⟩;obtain⟨a1,p,rfl,_,_,_⟩:=h.form;have G:=Ih g;clear h g a;go_wp2;go_ret;refine⟨_,rfl,?_,G.o.trans ((gW w1 _).mono G.o.size)⟩;exact World.ownsRow_lit w1 #[Ab .u8 2] 1 G.o.size (by decide) rfl
theorem ep{s:List Bs}(w:Ap)(ha:Rd w ao s)(hl:s.length=n)(hn:n<=4000000)(F:∀x∈s,x.length<=9223372036854775807)(hc:¬8<jR s):
  At Am 88 #[Aa ao n c] w λ e w'=>∃v',e=Aj v'/\gM gP 5 w' w.heap.size v' (1::iF (mV s) (nu (jP s).length))/\An w.heap.size w w':=by
 have Z:=Q0 (c:=c) w ha hl hn F;have t:=Oe s;have B:=Pz s
 have R:∀x∈kE (s.filter gV),x.length<=9223372036854775807:=λ x h=>F x (Gw.1 ((Ir _ _).1 h)).1
 have U:∀x∈jP s,x.length<=9223372036854775807:=by
  intro x h;obtain⟨p,_,h2⟩:=Ft.1 ((Ir _ _).1 h);have:=TJ h2;omega
 unfold mV;unfold jR at hc t
 obtain⟨ps,an⟩:=Xa (kE (s.filter gV))
 obtain⟨qs,ap⟩:=Xa (jP s)
 rw[an]at Z hc t B R;rw[ap]at t B U ⊢
 obtain⟨pn,C⟩:=Xa ps.length
 obtain⟨qn,S⟩:=Xa qs.length
 rw[C]at hc t;rw[S]at t ⊢
 obtain⟨a,P⟩:=Xa (nu qn)
 have K:=ZU qn (by omega);have ax:=YI qn
 have aA:a<=2000:=by rw[<- P];unfold nu;omega
 rw[P]at K ax ⊢
 have az:¬(8:Int)<(pn:Int):=by omega
 have O:∀w1 a1 c1,Rd w1 a1 ps->_:=λ w1 a1 c1 h=>ZT (c:=c1) (ao:=a1) w1 h C (by omega) R
 rw[B]at O
 have L:Hid (ps.length=pn/\qs.length=qn/\∀x∈qs,x.length<=9223372036854775807):=⟨C,S,U⟩
 clear ha hl F an ap R U B C S P;go_enter func88,ntmps88;go_wp2_with fail;refine Z.mono ?_;rintro e w1 ⟨v1,rfl,O1,B1⟩;obtain⟨a1,c1,rfl,_,_,R1⟩:=O1.form;rw[L.o.1];have E:=O w1 a1 c1 R1;have G1:Hid (An w.heap.size w w1):=B1;clear O1 B1 R1 Z O;go_wp2_with fail;refine E.mono ?_;rintro e w2 ⟨v2,rfl,O2,B2⟩;obtain⟨a2,c2,rfl,_,_,R2⟩:=O2.form;rw[L.o.2.1]
 have G2:Hid (An w.heap.size w w2/\Rd w2 a2 qs):=⟨G1.o.trans (B2.mono G1.o.size),R2⟩
 clear O2 B2 R2 E G1;go_wp2_with fail;refine(K _).mono ?_;rintro e d ⟨rfl,rfl⟩;obtain⟨w4,al,O4,B4⟩:=gp (1+a) (by omega) d
 have en:((1+a:Nat):Int)=1+(a:Int):=by omega
 rw[en]at al;obtain⟨f0,au,c0,z0⟩:=Sf O4 (i:=0) (by simp;omega);have O5:=Td O4 (i:=0) (by simp;omega) 1;rw[VQ]at O5;have B5:An d.heap.size d (w4.setCell ⟨d.heap.size,0,none⟩ (Ab .u8 1)):=B4.trans ((BR 0 _).below B4.size (λ k hk e=>by omega));have H:gM gP 5 (w4.setCell ⟨d.heap.size,0,none⟩ (Ab .u8 1)) d.heap.size (Aa (some ⟨d.heap.size,0,none⟩) (1+a) (1+a)) (1::iF [] a):=O5;have ag:=dT _ (iW.at (H.low (Nat.zero_le _))) (by simp[Iv];omega) (by omega) _ (Yf [] a)
 have G5:Hid (_/\_):=⟨H,B5⟩
 clear K O4 B4 au O5 B5 H;go_wp2_with fail;refine ag.mono ?_;rintro e w5 ⟨rfl,aq⟩;rw[<- aq]at G5;have G5:Hid (gM gP 5 w5 d.heap.size (Aa (some ⟨d.heap.size,0,none⟩) (1+a) (1+a)) (1::iF [] a)/\An d.heap.size d w5):=G5;clear aq ag c0 z0 al;go_wp2_with fail;go_loopg[32] qn (λ k v wr=>∃i:Nat,v=Ab Ak i/\i+k=qn/\Hid (gM gP 5 wr d.heap.size (Aa (some ⟨d.heap.size,0,none⟩) (1+a) (1+a)) (1::iF ((qs.take i).flatMap (λ p=>iT p (8*(a:Int)))) a)/\An d.heap.size d wr))
 case atStart=>exact⟨0,rfl,by omega,G5.o⟩
 case round =>
  obtain⟨i,rfl,hi,D⟩:=hrel
  obtain⟨go,N⟩:=Xb gk
  rw[<- N]at hi;have GO:Hid (go=gk):=N;clear N;by_cases ai:i<qn
  ·have id:(i:Int)<(qn:Int):=by omega
   obtain⟨b,off,rfl,aw,ah⟩:=G2.o.2 (by rw[L.o.2.1];omega)
   obtain⟨x,F⟩:=Xa (el qs i)
   have c0:=ah i (by rw[L.o.2.1];omega);rw[F]at c0
   have ay:x.length<=9223372036854775807:=by rw[<- F];exact L.o.2.2 _ (Iy (by rw[L.o.2.1];exact ai))
   have c1:wr.cell? ⟨b,off+i,none⟩=some (Ae ⟨x.toArray⟩):=(D.o.2.cell aw).trans c0;have W:=NU (l:=qs) (i:=i) (by rw[L.o.2.1];exact ai) (λ p=>iT p (8*(a:Int)));rw[F]at W;have ST:Hid _:=W;have Q:=Wn x (8*(a:Int)) (by omega) ay wr
   have V:∀z∈iT x (8*(a:Int)),0<=z/\z<8*(a:Int):=λ z h=>Yq h
   have aj:=LK x (8*(a:Int))
   obtain⟨r,ac⟩:=Xa (iT x (8*(a:Int)))
   obtain⟨u,M⟩:=Xa ((qs.take i).flatMap (λ p=>iT p (8*(a:Int))))
   rw[ac]at Q V aj
   have ar:Hid ((qs.take (i+1)).flatMap (λ p=>iT p (8*(a:Int)))=u++r):=by
    show _=_;rw[ST.o,M,ac]
   rw[M]at D;have RG:Hid (∀z∈r,0<=z/\z<8*(a:Int)):=V;clear ah c0 F W ac M V ST
   obtain⟨zn,ab⟩:=Xa r.length
   go_wp2_with fail;refine Q.mono ?_;rintro e w6 ⟨v6,rfl,O6,B6⟩;obtain⟨a6,c6,rfl,_,_,R6,A6⟩:=O6.form
   have N6:∀p,a6=some p->p.block≠d.heap.size:=by
    intro p hp e;have k1:=(O6.lt p.block (by rw[hp];exact Y5 O6 hp)).1;have k2:=(D.o.1.lt d.heap.size rfl).2;omega
   rw[ab]at aj ⊢
   have G:Hid (gQ encI w6 a6 r/\r.length=zn/\(∀p,a6=some p->p.block≠d.heap.size)/\An d.heap.size d w6/\gM gP 5 w6 d.heap.size (Aa (some ⟨d.heap.size,0,none⟩) (1+a) (1+a)) (1::iF u a)) :=
    ⟨R6,ab,N6,D.o.2.trans (B6.mono D.o.2.size),D.o.1.below B6⟩
   clear O6 B6 R6 A6 N6 Q ab;go_wp2_with fail;go_loopg[40] zn (λ k v wr=>∃j:Nat,v=Ab Ak j/\j+k=zn/\Hid (gM gP 5 wr d.heap.size (Aa (some ⟨d.heap.size,0,none⟩) (1+a) (1+a)) (1::iF (u++r.take j) a)/\Aw (λ g=>g=d.heap.size) w6 wr))
   case atStart=>exact⟨0,rfl,by omega,by rw[List.take_zero,Bz];exact G.o.2.2.2.2,Aw.refl _ _⟩
   case round =>
    obtain⟨j,rfl,hj,HJ⟩:=hrel;by_cases av:j<zn
    ·have jd:(j:Int)<(zn:Int):=by omega
     obtain⟨y,hy⟩:=BK G.o.2.1 av;obtain⟨y0,y1⟩:=RG.o y (List.mem_of_getElem? hy)
     obtain⟨k,rfl⟩:∃k:Nat,y=k:=⟨y.toNat,by omega⟩
     have hk:k / 8<a:=by omega
     have hR:=gQ.turned G.o.1 HJ.o.2 (λ _ p hp=>G.o.2.2.1 p hp);obtain⟨b6,o6,rfl,ak⟩:=hR.some_of hy;have cy:=hR.ints hy;obtain⟨x0,aa,A,I⟩:=Sf HJ.o.1 (i:=1+k / 8) (by simp[Iv];omega)
     have ex:x0=jS (u++r.take j) (k / 8):=by
      rw[Xe _ hk]at aa;exact(Option.some.inj aa).symm
     subst ex;have mO:=Vk (u++r.take j) k
     have f:=λ m=>Td (HJ.o.1.below (AY (Ao _ _) m)) (i:=1+k / 8) (by simp[Iv];omega) (jS (u++r.take j++[(k:Int)]) (k / 8))
     rw[Z8 _ hk]at f
     have ae:u++r.take j++[(k:Int)]=u++r.take (j+1):=by rw[Ol hy,List.append_assoc]
     rw[ae]at f mO
     obtain⟨q,T⟩:=Xa (1+k / 8)
     obtain⟨bb,J⟩:∃bb:Int,((2 ^ (k % 8):Nat):Int)=bb:=⟨_,rfl⟩
     have am:=UJ k (by omega) q T bb J
     obtain⟨u0,X⟩:∃u0:Int,((jS (u++r.take j) (k / 8)).toNat:Int)=u0:=⟨_,rfl⟩
     obtain⟨u1,Y⟩:∃u1:Int,((jS (u++r.take (j+1)) (k / 8)).toNat:Int)=u1:=⟨_,rfl⟩
     rw[J,X,Y]at mO;rw[T]at A I f;rw[X]at A;rw[Y]at f
     have aB:q<1+a:=by omega
     have PU:Hid _:=f
     have ad:∀m,(wr.drewN m).cell? ⟨d.heap.size,q,none⟩=some (Ab .u8 u0):=λ _=>A
     have af:∀m,(wr.drewN m).frozen? ⟨d.heap.size,q,none⟩=false:=λ _=>I
     clear aa f ae T J X Y hR A I ak;go_wp2_with fail;refine(am _).mono ?_;rintro e w7 ⟨rfl,m,rfl⟩;have cx:=ad m;have fx:=af m;clear ad af am;go_wp2;go_roundg (gk - 1)
     case measure=>omega
     case rel=>exact⟨j+1,by go_num,by omega,PU.o m,(Vb HJ.o.2 m).setCell (p:=⟨d.heap.size,q,none⟩) (.inl rfl) _⟩
    ·obtain rfl:j=zn:=by omega
     go_wp2;go_roundg (go - 1)
     case measure=>have:=GO.o;omega
     case rel =>
      refine⟨i+1,by go_num,by omega,?_,G.o.2.2.2.1.trans (HJ.o.2.below G.o.2.2.2.1.size (λ k hk e=>by omega))⟩;rw[ar.o];have:=HJ.o.1;rw[Av (by rw[G.o.2.1];omega)]at this;exact this
  ·obtain rfl:i=qn:=by omega
   go_wp2;go_ret;refine⟨_,rfl,?_,G2.o.1.trans (D.o.2.mono G2.o.1.size)⟩;have:=D.o.1;rw[Av (by rw[L.o.2.1];omega)]at this;exact this.low G2.o.1.size
theorem Xj(w:Ap)(b:Rd w ao a)(d:a.length=n)(f:n<=4000000)(g:∀x∈a,x.length<=9223372036854775807):
  At Am 88 #[Aa ao n c] w λ e w'=>∃v',e=Aj v'/\gM gP 5 w' w.heap.size v' (lS a)/\Iz w w':=by
 by_cases h:8<jR a
 rw[lS,AC h];exact Y1 w b d f g h
 rw[lS,Ay h];exact ep w b d f g h
end Go.Proofs.YtakgkgmopmcecaaGreat
