/-
  Several texts, laid together.
-/
import Derived.Test.YtlojblelpaegpaaGreatM11
set_option maxHeartbeats 6400000
set_option maxRecDepth 100000
open Go renaming World->Ap,Calls->At,maxLen->AG,below_drewN->AS,bodyPost_ret->As,results->AH
open Go.RowKit renaming Below->An
open List renaming range->BF,mem_append->AK,getElem?_eq_some_iff->AC,cons_append->Cs
open Go.Value renaming int->Ab,slice->Aa,bool->Ad,tuple->Af,agg->Ag
open Go.Act renaming eval->A8,put->FX
open Go.RowKit.Below renaming refl->Ao
open Go.Ending renaming returned->Aj
open Go.IntKind renaming i64->Ak,u64->Al
open Go.Proofs.Tryz renaming prog->Am
open Go.Proofs.Tryz
namespace Go.Proofs.YtlojblelpaegpaaGreat
open Go.RowKit
variable{L c i:Nat}{ao:Option Addr}{f:Fr}{l out:Fs}{m n u v:Bs}{st:St}{x:Bs×Bs}
theorem Zmz{w:Ap}{dv:Value}{pa qa ba:Option Addr}{pn pc qn qc bn bc:Nat}{ps:List Bs}{qs:List Int}{ids:List UInt64}(k:Int)(nm:ByteArray)(dt kp:Int)
  (hp:RdG encT w pa ps) (l:ps.length=pn) (R:pn*24<=140737488355328) (hq:RdG encI w qa qs) (n:qs.length=qn) (D:qn<=4000000000000000000) (K:RdG encU w ba ids) (g:ids.length=bn) (A:bn<=4000000000000000000) :
  At Am 63 #[actV k dv (Aa pa pn pc) (Aa qa qn qc) nm dt kp,Aa ba bn bc] w λ e w'=>∃v,e=Aj v/\Hid (OwnG encE 152 w' (w.heap.size+1) v (aents ps qs ids)/\An w.heap.size w w'):=by
 have H:Hid (RdG encT w pa ps/\ps.length=pn/\RdG encI w qa qs/\qs.length=qn/\RdG encU w ba ids/\ids.length=bn):=⟨hp,l,hq,n,K,g⟩
 clear hp l hq n K g;go_enter func63,ntmps63;go_wp2_with fail;go_loopg[5,6] pn (λ m rv T wr=>∃i:Nat,T=Ab Ak i/\i+m=pn/\Hid (OwnG encE 152 wr (w.heap.size+1) rv ((BF i).map (aent ps qs ids))/\BoxA wr w.heap.size 81 (actC k dv (Aa pa pn pc) (Aa qa qn qc) nm dt kp)/\An w.heap.size w wr))
 case atStart=>exact⟨0,rfl,by omega,OwnG.nil _ _ _ _,BoxA.new _ _ _,bz1 _ _⟩
 case round =>
  obtain⟨i,rfl,hi,a⟩:=hrel;have W:=a.o.2.1.cell (j:=2) rfl;have X:=a.o.2.1.cell (j:=3) rfl;by_cases B:i<pn
  ·have id:(i:Int)<(pn:Int):=by omega
   have S:(0:Int)<=(i:Int):=by omega
   obtain⟨s,q⟩:=Zaf H.o.2.1 B;obtain⟨b,off,rfl,Q⟩:=H.o.1.some_of q;obtain⟨P,V⟩:=(H.o.1.below a.o.2.2).txts q
   obtain⟨y,G⟩:=Xa (pickI qs i)
   obtain⟨z,I⟩:=Xa (pickU ids y)
   obtain⟨d,c⟩:∃d:Int,(z.toNat:Int)=d:=⟨_,rfl⟩
   have J:aent ps qs ids i=(s,z):=by
    unfold aent;rw[List.getD_eq_getElem?_getD,q,G,I]
    rfl
   have p:(BF (i+1)).map (aent ps qs ids)=(BF i).map (aent ps qs ids)++[(s,z)]:=by rw[List.range_succ,List.map_append,<- J];rfl
   have r:Hid ((BF (i+1)).map (aent ps qs ids)=(BF i).map (aent ps qs ids)++[(s,z)]/\((BF i).map (aent ps qs ids)).length=i):=⟨p,by simp⟩
   have U:w.heap.size+1<=wr.heap.size:=a.o.2.1.lt;have x:An w.heap.size w wr.drew:=a.o.2.2.drew;have N:Hid (At Am 71 #[Aa qa qn qc,Ab Ak (i:Int)] wr.drew λ e w'=>e=Aj (Ab Ak y)/\w'=wr.drew):=ZcO (H.o.2.2.1.below x) H.o.2.2.2.1 D i y G;have O:Hid (At Am 11 #[Aa ba bn bc,Ab Ak y] wr.drew λ e w'=>e=Aj (Ab Al d)/\w'=wr.drew):=ZbF (H.o.2.2.2.2.1.below x) H.o.2.2.2.2.2 A y d (by rw[I,c])
   have M:Hid (∀j u,(encE.cells (s,z))[j]? = some u->(wr.drew.alloc (.cells #[tx s,Ab Al d] 152)).cell? ((⟨wr.heap.size,0,none⟩:Addr).add j)=some u):=by
    have:=Zau encE wr.drew (s,z) 152;rw[show(encE.cells (s,z)).toArray=#[tx s,Ab Al d]from(by show #[tx s,Ab Al (z.toNat:Int)]=_;rw[c])]at this;exact this
   clear q p G I c J x;go_wp2_with fail
   go_region_law
    (first
     | (refine Za5 rfl (.tmp 22) (.tmp 23) 71 #[23,3] rfl Zct (Aa qa qn qc) (Ab Ak (i:Int)) (Ab Ak y) (by simp[A8,FX]) (by simp[A8,FX]) N.o ?_)
     | (refine Za5 rfl (.tmp 20) (.tmp 24) 11 #[34,3] rfl Zbk (Aa ba bn bc) (Ab Ak y) (Ab Al d) (by simp[A8,FX]) (by simp[A8,FX]) O.o ?_)
     | (refine Za2 encE 152 145 24 _ rfl Tryz.info152 underlying145 rfl (.tmp 14) (.tmp 27) rfl (w.heap.size+1) u5 ((BF i).map (aent ps qs ids)) (s,z) (by simp[A8]) (a.o.1.below ((Ao _ wr).drew.trans (bz1 wr.drew _))) wr.heap.size (by simp[A8]) M.o (by rw[r.o.2];omega) (by rw[r.o.2];simp only[AG];omega) (by simp;omega) ?_;intro v4 L h f C E)
     | fail)
   all_goals
    have t:Hid (OwnG encE 152 L (w.heap.size+1) v4 ((BF (i+1)).map (aent ps qs ids))/\An (w.heap.size+1) wr L):=⟨by rw[r.o.1];exact h,((bz1 wr _).drew.mono (by omega)).trans f⟩
    clear h f C E;go_wp2;go_roundg (gk - 1)
    case measure=>omega
    case rel=>exact⟨i+1,by go_num,by omega,t.o.1,a.o.2.1.below t.o.2 (by omega),a.o.2.2.trans (t.o.2.mono (by omega))⟩
  ·obtain rfl:i=pn:=by omega
   have F:(BF i).map (aent ps qs ids)=aents ps qs ids:=by unfold aents;rw[H.o.2.1]
   rw[F]at a;go_wp2;go_ret;exact⟨_,rfl,a.o.1,a.o.2.2⟩
theorem ZlF(h:st.fits f=true):f.1=1∨f.1=2∨f.1=3∨f.1=4∨f.1=5:=by
 unfold St.fits at h
 split at h
 ·omega
 ·unfold St.right at h;by_cases a:f.1=1
  ·omega
  by_cases b:f.1=2
  ·omega
  by_cases c:f.1=3
  ·omega
  rw[Aw a,Aw b,Aw c]at h;simp at h
theorem Zoo(h:st.fits f=true)(a:f.1=1∨f.1=2∨f.1=3):st.right f=true/\oid f.1 f.2≠0/\oget st.objs f.1 (oid f.1 f.2)=none:=by
 unfold St.fits at h;rw[Aw (by omega)]at h;simp only[Bool.and_eq_true,Bool.not_eq_true',Ax]at h;refine⟨h.1.1,h.1.2,?_⟩;have:=h.2;unfold St.has at this;simpa using this
theorem Zi0(h:st.fits f=true)(d:f.1=4∨f.1=5):8<=f.2.length/\isName (labN f.2)=true/\(f.1=5->st.has 3 (labI f.2)=true/\(nget st.tags (labN f.2)).isSome=false)/\(f.1=4->labI f.2=0->(nget st.refs (labN f.2)).isSome=true)/\(f.1=4->labI f.2≠0->st.has 3 (labI f.2)=true):=by
 unfold St.fits at h;rw[AE d]at h;simp only[Bool.and_eq_true,A5]at h;refine⟨h.1.1,h.1.2,λ c=>?_,λ b a=>?_,λ b a=>?_⟩
 ·have:=h.2;rw[AE c]at this;simpa using this
 ·have:=h.2;rw[Aw (by omega),AE a]at this;exact this
 ·have:=h.2;rw[Aw (by omega),Aw a]at this;exact this
theorem Zpn(h:st.ok)(l:st.fits f=true)(u:f.2.length<=8192):(st.take f).ok:=by
 rcases ZlF l with k|k|k|k|k
 case inr.inr.inr.inl =>
  have b:=Zi0 l (.inl k);unfold St.take;rw[AE k];by_cases m:labI f.2=0
  ·rw[AE m];refine⟨ZgP _ h.refs,h.tags,h.one,h.ids,h.blob,h.tree,h.com,λ n i g=>?_⟩;refine h.names n i ?_
   rcases g with q|q
   ·have q:nget (nout st.refs (labN f.2)) n=some i:=q;rw[Zcf]at q
    split at q
    ·cases q
    ·exact .inl q
   ·exact .inr q
  ·rw[Aw m];refine⟨ZeU _ _ h.refs,h.tags,h.one,h.ids,h.blob,h.tree,h.com,λ n i g=>?_⟩
   rcases g with q|q
   ·have q:nget (nwith st.refs (labN f.2) (labI f.2)) n=some i:=q;rw[ZdX]at q
    split at q
    ·cases q;exact b.2.2.2.2 k m
    ·exact h.names n i (.inl q)
   ·exact h.names n i (.inr q)
 case inr.inr.inr.inr =>
  have b:=Zi0 l (.inr k);unfold St.take;rw[Aw (by omega),AE k];refine⟨h.refs,ZeU _ _ h.tags,h.one,h.ids,h.blob,h.tree,h.com,λ n i g=>?_⟩
  rcases g with q|q
  ·exact h.names n i (.inl q)
  ·have q:nget (nwith st.tags (labN f.2) (labI f.2)) n=some i:=q;rw[ZdX]at q
   split at q
   ·cases q;exact(b.2.2.1 k).1
   ·exact h.names n i (.inr q)
 all_goals
  have d:=Zoo l (by omega)
  have t:st.take f={ st with objs:=st.objs++[⟨f.1,oid f.1 f.2,f.2⟩] }:=by
   unfold St.take;rw[Aw (by omega),Aw (by omega)]
  rw[t];refine⟨h.refs,h.tags,?_,?_,?_,?_,?_,λ n i g=>ZdG (h.names n i g)⟩
  ·refine List.pairwise_append.2 ⟨h.one,List.pairwise_singleton _ _,λ x v y s=>?_⟩
   have s:y=⟨f.1,oid f.1 f.2,f.2⟩:=by simpa using s
   rw[s];exact Zd8.1 d.2.2 x v
  ·intro o j
   rcases AK.1 j with q|q
   ·exact h.ids o q
   ·have q:o=⟨f.1,oid f.1 f.2,f.2⟩:=by simpa using q
    rw[q];exact⟨rfl,d.2.1,by show 1<=f.1;omega,by show f.1<=3;omega,u⟩
  ·intro o j a
   rcases AK.1 j with q|q
   ·exact h.blob o q a
   ·have q:o=⟨f.1,oid f.1 f.2,f.2⟩:=by simpa using q
    rw[q]at a ⊢;have a:f.1=1:=a;have:=d.1;unfold St.right at this;rw[AE a]at this;simpa using this
  ·intro o j a
   rcases AK.1 j with q|q
   ·obtain⟨es,p,r⟩:=h.tree o q a;exact⟨es,p,Zfk r⟩
   ·have q:o=⟨f.1,oid f.1 f.2,f.2⟩:=by simpa using q
    rw[q]at a ⊢;have a:f.1=2:=a;have:=d.1;unfold St.right at this;rw[Aw (by omega),AE a]at this
    cases e:rdtree f.2 with
    | none=>rw[e]at this;cases this
    | some es=>rw[e]at this;exact⟨es,rfl,Zfk this⟩
  ·intro o j a
   rcases AK.1 j with q|q
   ·obtain⟨c,p,r⟩:=h.com o q a;exact⟨c,p,ZeW r⟩
   ·have q:o=⟨f.1,oid f.1 f.2,f.2⟩:=by simpa using q
    rw[q]at a ⊢;have a:f.1=3:=a;have:=d.1;unfold St.right at this;rw[Aw (by omega),Aw (by omega),AE a]at this
    cases e:rdcom f.2 with
    | none=>rw[e]at this;cases this
    | some c=>rw[e]at this;exact⟨c,rfl,ZeW this⟩
def St.size(st:St):Nat:=st.objs.length+st.refs.length+st.tags.length
theorem Zmt(h:st.ok):(st.take f).size<=st.size+1:=by
 unfold St.take St.size
 split
 ·show st.objs.length+(if labI f.2=0 then _ else _:List _).length+st.tags.length<=_
  split
  ·have:(nout st.refs (labN f.2)).length<=st.refs.length:=List.length_filter_le _ _;omega
  ·have:=ZcR (labN f.2) (labI f.2) h.refs
   split at this <;> omega
 ·split
  ·have:=ZcR (labN f.2) (labI f.2) h.tags;show st.objs.length+st.refs.length+(nwith st.tags (labN f.2) (labI f.2)).length<=_
   split at this <;> omega
  ·show(st.objs++[_]).length+_+_<=_;simp;omega
def encF:Enc (Bs×Bs):=⟨λ f=>[tx f.1,tx f.2],2,λ _=>rfl,by decide,by intro x u h;simp at h;rcases h with rfl|rfl <;> rfl⟩
theorem RdG.files {w:World} {b off:Nat} {fs:Fs} (h:RdG encF w (some ⟨b,off,none⟩) fs) {i:Nat} {n v:Bs} (hx:fs[i]? = some (n,v)):w.cell? ⟨b,off+i*2,none⟩=some (tx n)/\w.cell? ⟨b,off+i*2+1,none⟩=some (tx v):=by
 obtain ⟨b', off', e, hlt, hc⟩ := h (by rcases Nat.lt_or_ge i fs.length with q | q
                                        · omega
                                        · rw [List.getElem?_eq_none q] at hx; cases hx)
 obtain ⟨rfl,rfl⟩:b=b'/\off=off':=by simpa using e
 have h0:=hc i (n,v) hx 0 _ rfl;have h1:=hc i (n,v) hx 1 _ rfl;exact ⟨by simpa [encF] using h0,by simpa [encF,Nat.add_assoc] using h1⟩
abbrev rv(ao:Option Addr)(L c:Nat)(d:Dk):Value:=Ag #[Aa ao L c,Ab Ak (d.writes:Int),Ad d.armed,Ad d.dead,Ab Ak (d.after:Int),Ab Ak (d.keep:Int)]
theorem Zgk:∀{i:Nat},(∀j,j<i->∀m v,l[j]? = some (m,v)->m≠n)->fget l n=fget (l.drop i) n:=by
 induction l with
 | nil=>intro i _;simp
 | cons f t c =>
  intro i h
  cases i with
  | zero=>rfl
  | succ i =>
   have a:f.1≠n:=h 0 (by omega) f.1 f.2 rfl;simp only[fget,Aw a,List.drop_succ_cons];exact c (i:=i) (λ j d m v b=>h (j+1) (by omega) m v b)
theorem ZkG(h:∀j,j<i->∀m v,l[j]? = some (m,v)->m≠n)(hi:l[i]? = some (n,v)):fget l n=some v:=by
 obtain⟨a,e⟩:=AC.1 hi;rw[Zgk h,List.drop_eq_getElem_cons a,e];simp[fget]
theorem Zo0{n:Nat}(a:l.length=n)(hi:i<n):∃m v,l[i]? = some (m,v):=⟨(l[i]'(by omega)).1,(l[i]'(by omega)).2,List.getElem?_eq_getElem (by omega)⟩
theorem Zmm(d:Dk)(n:Bs)(w:Ap)(h:RdG encF w ao d.files)(t:d.files.length=L)(B:L<=1000):
  At Am 174 #[rv ao L c d,tx n] w λ e w'=>∃r,e=Aj (Ab Ak r)/\Hid ((fget d.files n=none/\r = -1)∨∃(i:Nat) (v:Bs),r=(i:Int)/\d.files[i]? = some (n,v)/\fget d.files n=some v)/\An w.heap.size w w':=by
 have H:Hid (RdG encF w ao d.files/\d.files.length=L):=⟨h,t⟩
 clear h t
 obtain⟨W,u⟩:=Xa (w.alloc (.cells #[Aa ao L c,Ab Ak (d.writes:Int),Ad d.armed,Ad d.dead,Ab Ak (d.after:Int),Ab Ak (d.keep:Int)] 29))
 have C:W.cell? ⟨w.heap.size,0,none⟩=some (Aa ao L c):=by rw[<- u];simp
 have l:Hid (An w.heap.size w W):=by rw[<- u];exact bz1 _ _
 go_enter func174,ntmps174;go_wp2_with fail;go_loopg[5] L (λ k z wr=>wr=W/\∃i:Nat,z=Ab Ak i/\i+k=L/\Hid (∀j,j<i->∀m v,d.files[j]? = some (m,v)->m≠n))
 case atStart=>exact⟨rfl,0,rfl,by omega,λ j x=>by omega⟩
 case round =>
  obtain⟨s,i,rfl,hi,g⟩:=hrel;subst s;by_cases p:i<L
  ·have id:(i:Int)<(L:Int):=by omega
   obtain⟨m,v,f⟩:=Zo0 H.o.2 p;have R:=H.o.1.below l.o;obtain⟨b1,D,rfl,y⟩:=R.some_of f;have cc:=(R.files f).1;have X:Hid (d.files[i]? = some (m,v)):=f;clear R f
   cases b:m==n with
   | true =>
    go_wp2;go_ret
    have e:m=n:=by simpa using b
    subst e;exact⟨_,rfl,.inr ⟨i,v,rfl,X.o,ZkG g.o X.o⟩,l.o⟩
   | false =>
    go_wp2;go_roundg (gk - 1)
    all_goals first
     | omega
     | exact⟨rfl,i+1,by go_num,by omega,λ j x A v' a=>by
       rcases Nat.lt_or_ge j i with q|q
       ·exact g.o j q A v' a
       ·obtain rfl:j=i:=by omega
        rw[X.o]at a;cases a
        simpa using b⟩
  ·obtain rfl:i=L:=by omega
   go_wp2;go_ret;refine⟨_,rfl,.inl ⟨?_,rfl⟩,l.o⟩;rw[Zgk g.o,List.drop_of_length_le (by rw[H.o.2];exact Nat.le_refl _)]
   rfl
theorem ZcV(d:Dk)(n:Bs)(w:Ap)(h:RdG encF w ao d.files)(f:d.files.length=L)(j:L<=1000)(g:fget d.files n=none):
  At Am 174 #[rv ao L c d,tx n] w λ e w'=>e=Aj (Ab Ak (-1))/\An w.heap.size w w':=by
 refine(Zmm d n w h f j).mono ?_;rintro e w' ⟨r,rfl,a,b⟩
 rcases a.o with⟨_,rfl⟩ | ⟨i,v,_,_,q⟩
 ·exact⟨rfl,b⟩
 ·rw[g]at q;cases q
theorem Zei(d:Dk)(n:Bs)(w:Ap)(h:RdG encF w ao d.files)(a:d.files.length=L)(l:L<=1000)(b:fget d.files n=some v):
  At Am 174 #[rv ao L c d,tx n] w λ e w'=>∃i:Nat,e=Aj (Ab Ak (i:Int))/\i<L/\Hid (d.files[i]? = some (n,v))/\An w.heap.size w w':=by
 refine(Zmm d n w h a l).mono ?_;rintro e w' ⟨r,rfl,j,k⟩
 rcases j.o with⟨q,_⟩ | ⟨i,u,rfl,f,g⟩
 ·rw[b]at q;cases q
 ·rw[b]at g;cases g;exact⟨i,rfl,by rw[<- a];exact(AC.1 f).1,f,k⟩
theorem Zgl(d:Dk)(n:Bs)(w:Ap)(h:RdG encF w ao d.files)(f:d.files.length=L)(k:L<=1000)(i:fget d.files n=none):
  At Am 111 #[rv ao L c d,tx n] w λ e w'=>e=Aj (tx [])/\An w.heap.size w w':=by
 have B:=bz1 w (.cells #[Aa ao L c,Ab Ak (d.writes:Int),Ad d.armed,Ad d.dead,Ab Ak (d.after:Int),Ab Ak (d.keep:Int)] 29)
 have g:=ZcV (c:=c) d n _ (h.below B) f k i
 have b:Hid _:=B;clear h f i B;go_enter func111,ntmps111;go_wp2_with fail;refine g.mono ?_;rintro e w1 ⟨rfl,a⟩;have j:Hid (An w.heap.size w w1):=b.o.trans (a.mono b.o.size);clear a g;go_wp2;go_ret;exact⟨rfl,j.o⟩
theorem Zk3(d:Dk)(n:Bs)(w:Ap)(h:RdG encF w ao d.files)(g:d.files.length=L)(m:L<=1000)(k:fget d.files n=some v):
  At Am 111 #[rv ao L c d,tx n] w λ e w'=>e=Aj (tx v)/\An w.heap.size w w':=by
 have B:=bz1 w (.cells #[Aa ao L c,Ab Ak (d.writes:Int),Ad d.armed,Ad d.dead,Ab Ak (d.after:Int),Ab Ak (d.keep:Int)] 29)
 have j:=Zei (c:=c) d n _ (h.below B) g m k
 have b:Hid (_/\RdG encF w ao d.files):=⟨B,h⟩
 clear h g k B;go_enter func111,ntmps111;go_wp2_with fail;refine j.mono ?_;rintro e w1 ⟨i,rfl,hi,l,a⟩;have f:Hid (An w.heap.size w w1):=b.o.1.trans (a.mono b.o.1.size);have R:=b.o.2.below f.o;obtain⟨b1,r,rfl,q⟩:=R.some_of l.o;have cc:=(R.files l.o).2
 have t:w1.cell? ⟨w.heap.size,0,none⟩=some (Aa (some ⟨b1,r,none⟩) L c):=by
  rw[a.cell (p:=⟨w.heap.size,0,none⟩) (by simp)];simp
 have s:(i:Int)<(L:Int):=by omega
 have i0:decide ((0:Int)<=(i:Int))=true:=by rw[A5];omega
 clear a j R;go_wp2;go_ret;exact⟨rfl,f.o⟩
theorem ZcW:(Am.info? 291).map (λ i=>(i.zero,i.size,i.bytes))=some (some (Ag #[.string ⟨#[]⟩,.string ⟨#[]⟩]),2,32):=by kernel_rfl
theorem Zcg{n v:Bs}:∀{a b:Fs},(∀f∈a,f.1<n)->fwith (a++b) n v=a++fwith b n v
 | [],b,_=>rfl
 | f::t,b,h=>by
  have h1:f.1<n:=h f List.mem_cons_self;have ih:=Zcg (v:=v) (b:=b) (λ g hg=>h g (List.mem_cons_of_mem _ hg):∀g∈t,g.1<n);simp only[Cs,fwith];rw[Aw (ZfZ h1),Aw (λ e=>by rw[e]at h1;exact ZaI _ h1),ih]
theorem ZgO:∀{l:Fs},(∃f∈l,¬f.1<n)->fwith (l++[x]) n v=fwith l n v++[x]
 | [],h=>by obtain⟨f,e,_⟩:=h;cases e
 | f::t,h=>by
  simp only[Cs,fwith]
  split
  ·simp
  ·split
   ·simp
   ·rename_i c d
    have a:f.1<n:=by
     rcases ZgG f.1 n with q|q|q
     ·exact q
     ·exact absurd q d
     ·exact absurd q c
    obtain⟨g,i,b⟩:=h
    rcases List.mem_cons.1 i with rfl|q
    ·exact absurd a b
    ·rw[ZgO ⟨g,q,b⟩]
     rfl
def Laid(l:Fs)(n v:Bs)(i:Nat)(done:Bool)(out:Fs):Prop:=(done=false/\(∀f∈l.take i,f.1<n)/\out=l.take i)∨(done=true/\(∃f∈l.take i,¬f.1<n)/\out=fwith (l.take i) n v)
theorem ZaL(h:l[i]? = some x):l.take (i+1)=l.take i++[x]:=by rw[List.take_add_one,h];rfl
theorem ZnZ(h:Laid l n v i false out):out.length<=i:=by
 rcases h with⟨_,_,a⟩ | ⟨q,_⟩
 ·rw[a,List.length_take];omega
 ·cases q
theorem ZlG(h:Laid l n v i false out)(b:l[i]? = some (m,u))(e:m<n):Laid l n v (i+1) false (out++[(m,u)]):=by
 rcases h with⟨_,c,d⟩ | ⟨q,_⟩
 ·refine .inl ⟨rfl,?_,by rw[d,ZaL b]⟩;intro f a;rw[ZaL b]at a
  rcases AK.1 a with q|q
  ·exact c f q
  ·simp at q;rw[q];exact e
 ·cases q
theorem Zmr(h:Laid l n v i false out)(a:l[i]? = some (n,u)):Laid l n v (i+1) true (out++[(n,v)]):=by
 rcases h with⟨_,b,c⟩ | ⟨q,_⟩
 ·refine .inr ⟨rfl,⟨(n,u),by rw[ZaL a];simp,ZaI _⟩,?_⟩;rw[c,ZaL a,Zcg b];simp[fwith,ZaI]
 ·cases q
theorem Zlv(h:Laid l n v i false out)(b:l[i]? = some (m,u))(a:n<m):Laid l n v (i+1) true (out++[(n,v)]++[(m,u)]):=by
 rcases h with⟨_,c,d⟩ | ⟨q,_⟩
 ·refine .inr ⟨rfl,⟨(m,u),by rw[ZaL b];simp,ZfZ a⟩,?_⟩;rw[d,ZaL b,Zcg c];simp[fwith,a]
 ·cases q
theorem Zm0(s:Zcu l)(h:Laid l n v i true out)(k:l[i]? = some (m,u)):n<m/\Laid l n v (i+1) true (out++[(m,u)]):=by
 rcases h with⟨q,_⟩ | ⟨_,⟨f,b,d⟩,p⟩
 ·cases q
 ·have a:f.1<m:=by
   obtain⟨j,r,e⟩:=List.getElem_of_mem b
   have c:j<i:=by simp at r;omega
   obtain⟨hi,o⟩:=AC.1 k;have:=List.pairwise_iff_getElem.1 s j i (by omega) hi c;rw[o]at this;rw[List.getElem_take]at e;rw[e]at this;exact this
  have g:n<m:=by
   rcases ZgG f.1 n with q|q|q
   ·exact absurd q d
   ·rw[<- q];exact a
   ·exact ZdI q a
  refine⟨g,.inr ⟨rfl,⟨f,by rw[ZaL k];exact List.mem_append_left _ b,d⟩,?_⟩⟩;rw[ZaL k,ZgO ⟨f,b,d⟩,p]
theorem Zd4(l:Fs)(n v:Bs)(w:Ap)(h:RdG encF w ao l)(N:l.length=L)(hl:L<=1000)(O:Zcu l):
  At Am 180 #[Aa ao L c,Ag #[tx n,tx v]] w λ e w'=>∃u,e=Aj u/\OwnG encF 291 w' w.heap.size u (fwith l n v)/\An w.heap.size w w':=by
 have H:Hid (RdG encF w ao l/\l.length=L/\Zcu l):=⟨h,N,O⟩
 clear h N O
 obtain⟨W,hW⟩:=Xa (w.alloc (.cells #[tx n,tx v] 291))
 have d:Hid (An w.heap.size w W/\W.cell? ⟨w.heap.size,0,none⟩=some (tx n)/\W.cell? ⟨w.heap.size,1,none⟩=some (tx v)/\w.heap.size<W.heap.size):=by rw[<- hW];exact⟨bz1 _ _,by simp,by simp,by simp⟩
 go_enter func180,ntmps180;go_wp2_with fail;go_loopg[5,6,7] L (λ k lv dv iv wr=>∃(i:Nat) (dn:Bool) (out:Fs),iv=Ab Ak i/\i+k=L/\dv=Ad dn/\Hid (Laid l n v i dn out/\out.length<=i+1/\OwnG encF 291 wr W.heap.size lv out/\An W.heap.size W wr))
 case atStart=>exact⟨0,false,[],rfl,by omega,rfl,.inl ⟨rfl,by simp,by simp⟩,by simp,OwnG.nil _ _ _ _,Ao _ _⟩
 case round =>
  obtain⟨i,dn,out,rfl,hi,rfl,s⟩:=hrel;have M:=d.o.1.trans (s.o.2.2.2.mono d.o.1.size);have P:=(s.o.2.2.2.cell (p:=⟨w.heap.size,0,none⟩) d.o.2.2.2).trans d.o.2.1;have k1:=(s.o.2.2.2.cell (p:=⟨w.heap.size,1,none⟩) d.o.2.2.2).trans d.o.2.2.1;by_cases I:i<L
  ·have id:(i:Int)<(L:Int):=by omega
   obtain⟨m,u,A⟩:=Zo0 H.o.2.1 I;have R:=H.o.1.below M;obtain⟨b1,o1,rfl,aa⟩:=R.some_of A;obtain⟨cc,Y⟩:=R.files A;have X:Hid (l[i]? = some (m,u)):=A;clear R A M;have G:Hid (Laid l n v i dn out/\out.length<=i+1/\OwnG encF 291 wr W.heap.size u5 out/\An W.heap.size W wr):=s;clear s;have sz:W.heap.size<=wr.heap.size:=G.o.2.2.2.size
   cases dn with
   | false =>
    rcases ZgG m n with a|E|j
    ·have S:(Op.bytesLess n m||n==m)=false:=by
      rw[Go.Proofs.bytesLess_eq,CW (ZfZ a),Bool.false_or,A7];intro e;rw[e]at a;exact ZaI _ a
     have J:(!n==m)=true:=by
      have:(n==m)=false:=by rw[A7];intro e;rw[e]at a;exact ZaI _ a
      rw[this];rfl
     have Q:Hid (m<n):=a;clear a;go_wp2_with fail;go_quiet (fail);go_wp2_with fail;go_quiet (fail);go_wp2_with(at_builtin;(refine Zag encF 291 27 32 _ rfl ZcW underlying27 rfl (.tmp 38) (.tmp 43) rfl W.heap.size _ out (m,u) 291 (by rfl) (G.o.2.2.1.below (AS (Ao _ _) _)) (by rfl) (by have:=G.o.2.1;omega) (by have:=G.o.2.1;simp only[AG];omega) sz _ rfl ?_;intro y x g f _ _));go_wp2;go_roundg (gk - 1)
     all_goals first
      | omega
      | exact⟨i+1,false,_,by go_num,by omega,rfl,ZlG G.o.1 X.o Q.o,by have:=G.o.2.1;simp;omega,g,(AS G.o.2.2.2 _).trans f⟩
    ·subst E
     have S:(Op.bytesLess m m||m==m)=true:=by simp
     have J:(!m==m)=false:=by simp
     go_wp2_with fail;go_quiet (fail);go_wp2_with(at_builtin;(refine Zag encF 291 27 32 _ rfl ZcW underlying27 rfl (.tmp 26) (.tmp 28) rfl W.heap.size _ out (m,v) 291 (by rfl) (G.o.2.2.1.below (AS (Ao _ _) _)) (by rfl) (by have:=G.o.2.1;omega) (by have:=G.o.2.1;simp only[AG];omega) sz _ rfl ?_;intro y x g f _ _))
     have C:Hid (OwnG encF 291 x W.heap.size y (out++[(m,v)])/\An W.heap.size W x):=⟨g,(AS G.o.2.2.2 _).trans f⟩
     have P:=(C.o.2.cell (p:=⟨w.heap.size,0,none⟩) d.o.2.2.2).trans d.o.2.1;have R:=H.o.1.below (d.o.1.trans (C.o.2.mono d.o.1.size));have cc:=(R.files X.o).1;clear g f R;go_wp2_with fail;go_quiet (fail);go_wp2;go_roundg (gk - 1)
     all_goals first
      | omega
      | exact⟨i+1,true,_,by go_num,by omega,rfl,Zmr G.o.1 X.o,by have:=G.o.2.1;simp;omega,C.o.1.below (AS (Ao _ _) _),AS C.o.2 _⟩
    ·have r:(n==m)=false:=by rw[A7];intro e;rw[e]at j;exact ZaI _ j
     have S:(Op.bytesLess n m||n==m)=true:=by
      rw[Go.Proofs.bytesLess_eq,FW j];rfl
     have J:(!n==m)=true:=by rw[r];rfl
     have Q:Hid (n<m):=j;clear j r;go_wp2_with fail;go_quiet (fail);go_wp2_with(at_builtin;(refine Zag encF 291 27 32 _ rfl ZcW underlying27 rfl (.tmp 26) (.tmp 28) rfl W.heap.size _ out (n,v) 291 (by rfl) (G.o.2.2.1.below (AS (Ao _ _) _)) (by rfl) (by have:=G.o.2.1;omega) (by have:=G.o.2.1;simp only[AG];omega) sz _ rfl ?_;intro y x g f _ _))
     have C:Hid (OwnG encF 291 x W.heap.size y (out++[(n,v)])/\An W.heap.size W x):=⟨g,(AS G.o.2.2.2 _).trans f⟩
     have P:=(C.o.2.cell (p:=⟨w.heap.size,0,none⟩) d.o.2.2.2).trans d.o.2.1;have R:=H.o.1.below (d.o.1.trans (C.o.2.mono d.o.1.size));obtain⟨cc,Y⟩:=R.files X.o;have K:W.heap.size<=x.heap.size:=C.o.2.size;clear g f R;go_wp2_with fail;go_quiet (fail);go_wp2_with(at_builtin;(refine Zag encF 291 27 32 _ rfl ZcW underlying27 rfl (.tmp 38) (.tmp 43) rfl W.heap.size _ (out++[(n,v)]) (m,u) 291 (by rfl) (C.o.1.below (AS (Ao _ _) _)) (by rfl) (by have:=G.o.2.1;simp;omega) (by have:=G.o.2.1;simp[AG];omega) K _ rfl ?_;intro v3 w3 V T _ _));go_wp2;go_roundg (gk - 1)
     all_goals first
      | omega
      | exact⟨i+1,true,_,by go_num,by omega,rfl,Zlv G.o.1 X.o Q.o,by have:=ZnZ G.o.1;simp;omega,V,(AS C.o.2 _).trans T⟩
   | true =>
    have D:=Zm0 H.o.2.2 G.o.1 X.o
    have r:(n==m)=false:=by rw[A7];intro e;have:=D.1;rw[e]at this;exact ZaI _ this
    have J:(!n==m)=true:=by rw[r];rfl
    have U:Hid (Laid l n v (i+1) true (out++[(m,u)])):=D.2;clear D r;go_wp2_with fail;go_quiet (fail);go_wp2_with fail;go_quiet (fail);go_wp2_with(at_builtin;(refine Zag encF 291 27 32 _ rfl ZcW underlying27 rfl (.tmp 38) (.tmp 43) rfl W.heap.size _ out (m,u) 291 (by rfl) (G.o.2.2.1.below (AS (Ao _ _) _)) (by rfl) (by have:=G.o.2.1;omega) (by have:=G.o.2.1;simp only[AG];omega) sz _ rfl ?_;intro y x g f _ _));go_wp2;go_roundg (gk - 1)
    all_goals first
     | omega
     | exact⟨i+1,true,_,by go_num,by omega,rfl,U.o,by have:=G.o.2.1;simp;omega,g,(AS G.o.2.2.2 _).trans f⟩
  ·obtain rfl:i=L:=by omega
   have e0:l.take i=l:=List.take_of_length_le (by rw[H.o.2.1];exact Nat.le_refl _);have t:=s.o.1;unfold Laid at t;rw[e0]at t
   have G:Hid (OwnG encF 291 wr W.heap.size u5 out/\An W.heap.size W wr/\out.length<=i+1):=⟨s.o.2.2.1,s.o.2.2.2,s.o.2.1⟩
   have sz:W.heap.size<=wr.heap.size:=G.o.2.1.size;have z:Hid _:=t;clear s t
   cases dn with
   | false =>
    have F:fwith l n v=out++[(n,v)]:=by
     rcases z.o with⟨_,Z,B⟩ | ⟨q,_⟩
     ·have:=Zcg (v:=v) (b:=[]) Z;rw[List.append_nil]at this;rw[this,B];rfl
     ·cases q
    clear z;go_wp2_with(at_builtin;(refine Zag encF 291 27 32 _ rfl ZcW underlying27 rfl (.tmp 47) (.tmp 49) rfl W.heap.size _ out (n,v) 291 rfl G.o.1 rfl (by have:=G.o.2.2;omega) (by have:=G.o.2.2;simp only[AG];omega) sz _ rfl ?_;intro y x g f _ _));go_wp2;go_ret;rw[F];exact⟨_,rfl,OwnG.low g d.o.1.size,d.o.1.trans ((G.o.2.1.trans f).mono d.o.1.size)⟩
   | true =>
    have F:fwith l n v=out:=by
     rcases z.o with⟨q,_⟩ | ⟨_,_,B⟩
     ·cases q
     ·exact B.symm
    clear z;go_wp2;go_ret;rw[F];exact⟨_,rfl,OwnG.low G.o.1 d.o.1.size,d.o.1.trans (G.o.2.1.mono d.o.1.size)⟩
section
variable{ao:Option Addr}{L c:Nat}{d:Dk}{w:World}
theorem ZeV(hd:d.dead=true):At Am 179 #[rv ao L c d] w λ e w'=>e=Aj (Af #[rv ao L c d,Ad false,Ad false])/\An w.heap.size w w':=by
 unfold rv;rw[hd];go_enter func179,ntmps179;go_wp2;refine As (v:=Af #[Ag #[Aa ao L c,Ab Ak (d.writes:Int),Ad d.armed,Ad true,Ab Ak (d.after:Int),Ab Ak (d.keep:Int)],Ad false,Ad false]) ?_ rfl ⟨rfl,bz2 _ _ _⟩;simp[AH,Tryz.f179];go_simp
theorem ZjQ(hd:d.dead=false)(b:d.armed=true)(a:d.after=0):At Am 179 #[rv ao L c d] w λ e w'=>e=Aj (Af #[rv ao L c { d with dead:=true,armed:=false },Ad false,Ad true])/\An w.heap.size w w':=by
 unfold rv;rw[hd,b,a];go_enter func179,ntmps179;go_wp2;refine As (v:=Af #[Ag #[Aa ao L c,Ab Ak (d.writes:Int),Ad false,Ad true,Ab Ak 0,Ab Ak (d.keep:Int)],Ad false,Ad true]) ?_ rfl ⟨rfl,bz2 _ _ _⟩;simp[AH,Tryz.f179];go_simp
theorem ZhI(hd:d.dead=false)(g:d.armed=true)(f:d.after≠0)(h:d.after<9223372036854775808)(j:d.writes<4611686018427387904):At Am 179 #[rv ao L c d] w λ e w'=>e=Aj (Af #[rv ao L c { d with after:=d.after - 1,writes:=d.writes+1 },Ad true,Ad false])/\An w.heap.size w w':=by
 unfold rv
 obtain⟨n,b⟩:∃n,d.after=n+1:=⟨d.after - 1,by omega⟩
 obtain⟨q,hq⟩:=Xa d.writes
 have a:((d.after - 1:Nat):Int)=(n:Int):=by omega
 show At Am 179 _ w λ e w'=>e=Aj (Af #[Ag #[Aa ao L c,Ab Ak ((d.writes+1:Nat):Int),Ad d.armed,Ad d.dead,Ab Ak ((d.after - 1:Nat):Int),Ab Ak (d.keep:Int)],Ad true,Ad false])/\An w.heap.size w w'
 rw[hd,g,a,b,hq];rw[hq]at j
 have i:n<9223372036854775807:=by omega
 clear a f h b
 have z:(((n+1:Nat):Int)==0)=false:=by simp;omega
 go_enter func179,ntmps179;go_wp2;refine As (v:=Af #[Ag #[Aa ao L c,Ab Ak ((q:Int)+1),Ad true,Ad false,Ab Ak (n:Int),Ab Ak (d.keep:Int)],Ad true,Ad false]) ?_ rfl ⟨rfl,bz2 _ _ _⟩;simp[AH,Tryz.f179];go_simp
theorem Zim(hd:d.dead=false)(a:d.armed=false)(b:d.writes<4611686018427387904):At Am 179 #[rv ao L c d] w λ e w'=>e=Aj (Af #[rv ao L c { d with writes:=d.writes+1 },Ad true,Ad false])/\An w.heap.size w w':=by
 unfold rv
 obtain⟨q,hq⟩:=Xa d.writes
 show At Am 179 _ w λ e w'=>e=Aj (Af #[Ag #[Aa ao L c,Ab Ak ((d.writes+1:Nat):Int),Ad d.armed,Ad d.dead,Ab Ak (d.after:Int),Ab Ak (d.keep:Int)],Ad true,Ad false])/\An w.heap.size w w'
 rw[hd,a,hq];rw[hq]at b;go_enter func179,ntmps179;go_wp2;refine As (v:=Af #[Ag #[Aa ao L c,Ab Ak ((q:Int)+1),Ad false,Ad false,Ab Ak (d.after:Int),Ab Ak (d.keep:Int)],Ad true,Ad false]) ?_ rfl ⟨rfl,bz2 _ _ _⟩;simp[AH,Tryz.f179];go_simp
theorem Zes(g:d.after<9223372036854775808)(f:d.writes<4611686018427387904):
  At Am 179 #[rv ao L c d] w λ e w'=>e=Aj (Af #[rv ao L c (dnext d).1,Ad (dnext d).2.1,Ad (dnext d).2.2])/\An w.heap.size w w':=by
 by_cases hd:d.dead=true
 ·rw[Zb8 hd];exact ZeV hd
 ·have hd:d.dead=false:=by simpa using hd
  by_cases a:d.armed=true
  ·by_cases b:d.after=0
   ·rw[Zbz hd a b];exact ZjQ hd a b
   ·rw[ZbH hd a b];exact ZhI hd a b g f
  ·have a:d.armed=false:=by simpa using a
   rw[ZbM hd a];exact Zim hd a f
end
end Go.Proofs.YtlojblelpaegpaaGreat
