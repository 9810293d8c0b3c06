/-
  Several texts, laid together.
-/
import Derived.Test.YtlojblelpaegpaaGreatM22
import Derived.Sort.OwnSorted
import Derived.Lib.OwnBridge
set_option maxHeartbeats 6400000
set_option maxRecDepth 100000
open Go renaming World->Ap,Value->Ar,Calls->At,below_drewN->AS,bodyPost_ret->As,results_tmp2->AA
open Go.Proofs renaming encStr->Bo
open Go.RowKit renaming Below->An
open Go.Lib renaming compact->Dl
open List renaming replicate->Bb,length_mergeSort->Gt,getElem?_eq_getElem->Aq,eq_nil_of_length_eq_zero->AT,length_cons->A3,pairwise_cons->Bn,mem_cons_self->Ba,mem_cons_of_mem->Bd,mem_map->Bu,mem_cons->Bw,mem_append->AK
open Go.RowKit.Below renaming refl->Ao
open Go.Value renaming slice->Aa,int->Ab,string->Ae
open Go.Ending renaming returned->Aj
open Go.Proofs.Tryz renaming prog->Am
open Go.Proofs.Tryz
namespace Go.Proofs.YtlojblelpaegpaaGreat
open Go.RowKit Go.Sort
variable{a b es:List En}{ao:Option Addr}{c n:Nat}{d:List Bs}{e:En}{p:Bs}{w:Ap}
theorem Zp1{w1:Ap}{g cap nn q:Nat}{os:Array Obj}{a:List Bs}(e:w1.ownsRow w.heap.size 9 1 (Aa (some ⟨g,0,none⟩) n cap) n (a.map Bo))(c:An w.heap.size w w1)(f:w.heap.size<=g)(d:a.length=n):
  Own (putRow Bo (Sort.ahead (grow (putRow Bo (Sort.ahead w1 nn) g 0 (a.mergeSort λ x y=>decide (x<=y)).toArray) os) q) g 0 (Dl (a.mergeSort λ x y=>decide (x<=y))++Bb (n - (Dl (a.mergeSort λ x y=>decide (x<=y))).length) []).toArray)
   w.heap.size (Aa (some ⟨g,0,none⟩) (Dl (a.mergeSort λ x y=>decide (x<=y))).length cap) (srt a) /\
  An w.heap.size w (putRow Bo (Sort.ahead (grow (putRow Bo (Sort.ahead w1 nn) g 0 (a.mergeSort λ x y=>decide (x<=y)).toArray) os) q) g 0 (Dl (a.mergeSort λ x y=>decide (x<=y))++Bb (n - (Dl (a.mergeSort λ x y=>decide (x<=y))).length) []).toArray):=by
 have h:(a.mergeSort λ x y=>decide (x<=y)).length=a.length:=Gt a;have v:=Lib.compact_length_le (a.mergeSort λ x y=>decide (x<=y));subst d
 rcases e.2 with⟨o,_⟩ | ⟨B,i,m,A,b,t,p,r,s,C⟩
 ·cases o
 cases A;have z:=ownsRow_sorted (n:=nn) (os:=os) (ts:=a.mergeSort λ x y=>decide (x<=y)) h b t p r s;have l:=Lib.ownsRow_putRow (q:=q) (k:=(Dl (a.mergeSort λ x y=>decide (x<=y))).length) (ys:=Dl (a.mergeSort λ x y=>decide (x<=y))++Bb (a.length - (Dl (a.mergeSort λ x y=>decide (x<=y))).length) []) z (by simp;omega) (by omega);rw[List.take_left]at l;refine⟨?_,Lib.below_putRow (c.grown (grownBy_sorted _) c.size (λ j u=>by cases u;exact b)) f⟩;unfold Own;rw[<- Zgw];exact l
theorem Zhq(n:Nat)(k:Ar)(d:List Bs)(w:Ap)(A:n<=4611686018427387903)
  (b:At Am 222 #[k] w λ e w'=>∃v',e=Aj v'/\w'.ownsRow w.heap.size 9 1 v' n (d.map Bo)/\v'≠Aa none 0 0/\An w.heap.size w w') :
  At Am 201 #[k] w λ e w'=>∃v',e=Aj v'/\Own w' w.heap.size v' (srt d)/\An w.heap.size w w':=by
 go_enter func201,ntmps201;go_wp2_with fail;refine b.mono ?_;rintro e w1 ⟨B,rfl,h,r,i⟩;obtain⟨g,cap,rfl,s,m,j,u,c,hH⟩:=Lib.holds_of_ownsRow h r;have a:At Am 223 #[Aa (some ⟨g,0,none⟩) d.length cap] w1 _:=Any.slices_Sort_string laySort g 0 cap d w1 hH m (by omega);rw[c]at a
 have X:Hid (w1.ownsRow w.heap.size 9 1 (Aa (some ⟨g,0,none⟩) n cap) n (d.map Bo)/\An w.heap.size w w1/\w.heap.size<=g/\g<w1.heap.size/\n<=cap/\d.length=n/\Holds Bo w1 g 0 d.toArray):=⟨h,i,s,m,j,c,hH⟩
 clear h i hH r b;go_wp2_with fail;refine a.mono ?_;rintro e C ⟨rfl,nn,os,rfl⟩
 have p:(d.mergeSort λ x y=>decide (x<=y)).length=n:=by rw[Gt];exact X.o.2.2.2.2.2.1
 have l:Holds Bo (grow (putRow Bo (Sort.ahead w1 nn) g 0 (d.mergeSort λ x y=>decide (x<=y)).toArray) os) g 0 (d.mergeSort λ x y=>decide (x<=y)).toArray :=
  holds_grow Bo _ os g 0 _ (by simpa[putRow,mapBlock,Sort.ahead]using X.o.2.2.2.1) (holds_putRow Bo _ g 0 _ _ (holds_ahead Bo w1 nn g 0 _ X.o.2.2.2.2.2.2) (by simp))
 have f:At Am 224 #[Aa (some ⟨g,0,none⟩) (d.mergeSort λ x y=>decide (x<=y)).length cap] _ _:=Any.slices_Compact_string layCompact g 0 cap (d.mergeSort λ x y=>decide (x<=y)) _ l (by omega) (by have:=X.o.2.2.2.2.1;omega);rw[p]at f;have t:Hid (d.length=n):=c;clear l a p c;go_wp2_with fail;refine f.mono ?_;rintro e D ⟨rfl,q,rfl⟩;go_wp2;go_ret;obtain⟨v,z⟩:=Zp1 (nn:=nn) (q:=q) (os:=os) X.o.1 X.o.2.1 X.o.2.2.1 t.o;exact⟨_,rfl,v,z⟩
theorem ZlJ(b off n c:Nat)(a:List Bs)(w:Ap)(f:a.length=n)(k:n<=8796093022208)(g:∀i,i<a.length->w.cell? ⟨b,off+i,none⟩=some (Ae ⟨(el a i).toArray⟩)):
  At Am 222 #[Aa (some ⟨b,off,none⟩) n c] w λ e w'=>∃v',e=Aj v'/\w'.ownsRow w.heap.size 9 1 v' n (a.map Bo)/\v'≠Aa none 0 0/\An w.heap.size w w':=by
 have h:=Any.slices_Clone_string layClone b off n c (a.map λ l=>⟨l.toArray⟩) w (by simp[f]) (by omega) (λ j d=>by
  rw[List.length_map]at d;rw[g j d,Za9 d]
  congr 2
  rw[List.getD_eq_getElem?_getD,List.getElem?_map,Aq d]
  rfl)
 have e:((a.map λ l=>(⟨l.toArray⟩:ByteArray)).take n).map Ae=a.map Bo:=by
  rw[List.take_of_length_le (by simp[f]),List.map_map]
  rfl
 rw[e]at h;exact h
theorem Zn0(c:Nat)(w:Ap):At Am 201 #[Aa none 0 c] w λ e w'=>e=Aj (Aa none 0 0)/\w'=w:=by
 have a:At Am 222 #[Aa none 0 c] w _:=Any.slices_Clone_string_nil layClone 0 c w;have b:At Am 223 #[Aa none 0 0] w _:=Any.slices_Sort_string_none laySort none 0 w;have d:At Am 224 #[Aa none 0 0] w _:=Any.slices_Compact_string_empty layCompact none 0 w;go_enter func201,ntmps201;go_wp2_with fail;refine a.mono ?_;rintro e w' ⟨rfl,rfl⟩;go_wp2_with fail;refine b.mono ?_;rintro e w' ⟨rfl,rfl⟩;go_wp2_with fail;refine d.mono ?_;rintro e w' ⟨rfl,rfl⟩;go_wp2;go_ret;exact⟨rfl,rfl⟩
theorem ZiN(w:Ap)(h:Rd w ao d)(f:d.length=n)(j:n<=8796093022208):
  At Am 201 #[Aa ao n c] w λ e w'=>∃v',e=Aj v'/\Own w' w.heap.size v' (srt d)/\An w.heap.size w w':=by
 by_cases g:0<d.length
 ·obtain⟨b,off,rfl,_,i⟩:=h g;exact Zhq n _ d w (by omega) (ZlJ b off n c d w f j i)
 ·obtain rfl:d=[]:=AT (by omega);obtain rfl:n=0:=f.symm
  cases ao with
  | none =>
   refine(Zn0 c w).mono ?_;rintro e w' ⟨rfl,rfl⟩;exact⟨_,rfl,Own.nil _ _,Ao _ _⟩
  | some a =>
   exact Zhq 0 _ [] w (by omega) (Any.slices_Clone_string_zero layClone a c w)
end Go.Proofs.YtlojblelpaegpaaGreat
namespace Go.Proofs.YtlojblelpaegpaaGreat
open Go.RowKit
variable{a b es:List En}{ao:Option Addr}{c n:Nat}{d:List Bs}{e:En}{p:Bs}{w:Ap}
def keep(kept:List Bs)(p:Bs):List Bs:=if kept.any (under p)then kept else kept++[p]
theorem Zov(l:List Bs)(s:Bs):(withB l s).length<=l.length+1:=by
 unfold withB
 split
 ·omega
 ·have:∀l:List Bs,(insB s l).length=l.length+1:=by
   intro l
   induction l with
   | nil=>rfl
   | cons x t a=>by_cases h:s<x <;> simp[insB,h,a]
  rw[this];omega
theorem Zcr(l:List Bs):(srt l).length<=l.length:=by
 have:∀(l a:List Bs),(l.foldl withB a).length<=a.length+l.length:=by
  intro l
  induction l with
  | nil=>simp
  | cons x t b =>
   intro a;have c:=b (withB a x);have d:=Zov a x;simp only[List.foldl_cons,A3];omega
 have:=this l [];simpa[srt]using this
theorem Zik{B a:Nat}{v:Ar}{b:List Bs}(h:Own w B v b)(c:a<=B):Own w a v b:=Zbm h c
def hasS(ss:List Bs)(x:Bs):Bool:=isPath x&&(ss.isEmpty||ss.any (under x))
theorem Zlc(x:Bs)(w:Ap)(l:Rd w ao d)(k:d.length=n)(u:n<=4000000000000000000)(v:x.length<=9223372036854775807)(f:Bool)(i:hasS d x=f):
  At Am 149 #[.agg #[Aa ao n c],Ae ⟨x.toArray⟩] w λ e w'=>e=Aj (.bool f)/\An w.heap.size w w':=by
 subst i;have a:An w.heap.size w (w.alloc (.cells #[Aa ao n c] 179)):=(Ao _ w).alloc (Nat.le_refl _) _
 obtain⟨g,j⟩:=Xa (isPath x)
 have b:=ZbZ ⟨x.toArray⟩ (by rw[bsize];exact v) g j;rw[hasS,j]
 cases g with
 | false =>
  rw[show err false=2 from rfl]at b;rw[Bool.false_and];have h:Hid (An w.heap.size w (w.alloc (.cells #[Aa ao n c] 179))):=a;clear l k a j;go_enter func149,ntmps149;go_wp2_with fail;refine(b _).mono ?_;rintro e w' ⟨rfl,m,rfl⟩;go_wp2;go_ret;exact⟨rfl,AS h.o m⟩
 | true =>
  rw[show err true=0 from rfl]at b;rw[Bool.true_and];by_cases r:n=0
  ·obtain rfl:d=[]:=AT (by omega);subst r;have h:Hid (An w.heap.size w (w.alloc (.cells #[Aa ao 0 c] 179))):=a;clear l k a j;go_enter func149,ntmps149;go_wp2_with fail;refine(b _).mono ?_;rintro e w' ⟨rfl,m,rfl⟩;go_wp2;go_ret;exact⟨rfl,AS h.o m⟩
  ·have p:¬(n:Int)=0:=by omega
   have s:d.isEmpty=false:=by cases d with
    | nil=>simp at k;omega
    | cons=>rfl
   rw[s,Bool.false_or]
   obtain⟨f,i⟩:=Xa (d.any (under x))
   rw[i]
   have q:=λ m=>Zho (c:=c) x ((w.alloc (.cells #[Aa ao n c] 179)).drewN m) ((l.below a).below (AS (Ao _ _) m)) k u f i
   have h:Hid (An w.heap.size w (w.alloc (.cells #[Aa ao n c] 179))):=a;clear l k a j s i r;go_enter func149,ntmps149;go_wp2_with fail;refine(b _).mono ?_;rintro e w' ⟨rfl,m,rfl⟩;go_wp2_with fail;refine(q m).mono ?_;rintro e w' ⟨rfl,t⟩;go_wp2;go_ret;refine⟨?_,(AS h.o m).trans (t.mono (by simp))⟩;show Aj (Value.bool ((n:Int)==0||f))=_;rw[show((n:Int)==0)=false by simpa using p,Bool.false_or]
def pre(p:Bs):Nat->List Bs
 | 0=>[]
 | i+1=>if p[i]? = some 47 then pre p i++[p.take i]else pre p i
def parts(p:Bs):List Bs:=if isPath p then pre p p.length++[p]else[]
theorem Zh3(p:Bs):∀i,(pre p i).length<=i
 | 0=>by simp[pre]
 | i+1=>by
  have:=Zh3 p i;unfold pre
  split
  ·simp;omega
  ·omega
theorem Zdw(h:isPath p=true):p.length<=102:=by
 rw[<- ZfG,refIs,Bool.and_eq_true]at h;simpa using h.1
theorem ZlK(p:ByteArray)(u:p.size<=9223372036854775807)(w:Ap):
  At Am 202 #[Ae p] w λ e w'=>∃v',e=Aj v'/\Own w' w.heap.size v' (parts p.data.toList)/\An w.heap.size w w':=by
 obtain⟨g,n⟩:=Xa (isPath p.data.toList)
 have j:=ZbZ p u g n;have E:Hid (p.size=p.data.toList.length):=bsize p;rw[parts,n]
 cases g with
 | false =>
  rw[show err false=2 from rfl]at j;clear n;go_enter func202,ntmps202;go_wp2_with fail;refine(j _).mono ?_;rintro e w' ⟨rfl,m,rfl⟩;go_wp2;go_ret;exact⟨_,rfl,Own.nil _ _,AS (Ao _ _) m⟩
 | true =>
  rw[show err true=0 from rfl]at j
  have hp:p.size<=102:=by rw[E.o];exact Zdw n
  clear n;rw[AE rfl];go_enter func202,ntmps202;go_wp2_with fail;refine(j _).mono ?_;rintro e w' ⟨rfl,m,rfl⟩;go_wp2_with fail;go_loopg[3,10] p.size (λ k y v wr=>∃(i:Nat),v=Ab .i64 i/\i+k=p.size/\Hid (Own wr w.heap.size y (pre p.data.toList i)/\An w.heap.size w wr))
  case atStart=>exact⟨0,rfl,by omega,Own.nil _ _,AS (Ao _ _) m⟩
  case round =>
   obtain⟨i,rfl,hi,h⟩:=hrel;have r:=Zh3 p.data.toList i;by_cases q:i<p.size
   ·have f:p.data.toList[i]? = some p[i]:=by rw[Aq (by rw[<- E.o];exact q)];rfl
    obtain⟨c,s⟩:∃c:Int,(p[i].toNat:Int)=c:=⟨_,rfl⟩
    by_cases l:c=47
    ·have a:pre p.data.toList (i+1)=pre p.data.toList i++[p.data.toList.take i]:=by
      have:p[i]=47:=UInt8.toNat_inj.1 (show p[i].toNat=47 by omega);rw[pre,f,this,AE rfl]
     have PR:Hid _:=a;subst l;clear a f;go_wp2_with fail;go_quiet (fail);go_wp2_with(at_builtin;rw[Zb5];refine ZaZ rfl (.tmp 18) (.tmp 22) rfl w.heap.size _ (pre p.data.toList i) (p.data.toList.take i) _ rfl (h.o.1.below (AS (Ao _ _) nq)) rfl (by omega) h.o.2.size ?_;intro v' z d b);go_roundg (gk - 1)
     case measure=>omega
     case rel=>exact⟨i+1,by go_num,by omega,by rw[PR.o];exact d,(AS h.o.2 _).trans b⟩
    ·have a:pre p.data.toList (i+1)=pre p.data.toList i:=by
      rw[pre,f,Aw];intro e
      have:p[i]=47:=by simpa using e
      rw[this]at s;exact l s.symm
     have PR:Hid _:=a;clear a f;go_wp2_with fail;go_quiet (fail)
     have x:(c==((({ data:=#[47] }:ByteArray)[0]'(by decide)).toNat:Int))=false:=by
      rw[A7];exact l
     go_wp2;go_roundg (gk - 1)
     case measure=>omega
     case rel=>exact⟨i+1,by go_num,by omega,by rw[PR.o];exact h.o.1.below (AS (Ao _ _) _),AS h.o.2 _⟩
   ·obtain rfl:i=p.size:=by omega
    rw[E.o]at h r
    have t:p.data.toList.length<=102:=by rw[<- E.o];exact hp
    clear q;go_wp2_with(at_builtin;refine ZaZ rfl (.tmp 25) (.tmp 27) rfl w.heap.size _ (pre p.data.toList p.data.toList.length) p.data.toList _ rfl h.o.1 rfl (by omega) h.o.2.size ?_;intro v' z d b);go_ret;exact⟨_,rfl,d,h.o.2.trans b⟩
abbrev Chg:=Bs×UInt64×UInt64
def Rise(es:List En):Prop:=es.Pairwise (λ a b=>a.1<b.1)
theorem Tr.rise(h:Tr es):Rise es:=h.imp (λ q=>q.1)
theorem Rise.tail(h:Rise (e::es)):Rise es:=(Bn.1 h).2
theorem Rise.head(h:Rise (e::es)):∀x∈es,e.1<x.1:=(Bn.1 h).1
def blobOf(es:List En)(p:Bs):UInt64:=(ffind es p).getD 0
theorem Zc7(e:En)(es:List En)(p:Bs):ffind (e::es) p=if e.1=p then some e.2 else ffind es p:=by
 unfold ffind;by_cases h:e.1=p
 ·simp[h]
 ·have a:(e.1==p)=false:=by simpa using h
  simp[h,a]
theorem ZjA(h:∀e∈es,e.1≠p):ffind es p=none:=by
 induction es with
 | nil=>rfl
 | cons e t b =>
  rw[Zc7,Aw (h e (Ba ..))];exact b (λ x a=>h x (Bd _ a))
def leastP:List En->List En->Bs
 | x::_,y::_=>if x.1<y.1 then x.1 else y.1
 | x::_,[]=>x.1
 | [],y::_=>y.1
 | [],[]=>[]
def takeP:List En->Bs->UInt64×List En
 | [],_=>(0,[])
 | e::t,p=>if e.1=p then(e.2,t)else(0,e::t)
theorem Zbc(e:En)(t:List En)(p:Bs):takeP (e::t) p=if e.1=p then(e.2,t)else(0,e::t):=rfl
theorem Zet(x y:En)(s t:List En):leastP (x::s) (y::t)=if x.1<y.1 then x.1 else y.1:=rfl
def bothP(a b:List En):List Bs:=srt (a.map (·.1)++b.map (·.1))
def fdiff(g:Bs->Bool)(a b:List En):List Chg:=((bothP a b).map (λ p=>(p,blobOf a p,blobOf b p))).filter (λ c=>(c.2.1 != c.2.2)&&g c.1)
theorem Zfj(c:Rise es)(hp:∀e∈es,¬e.1<p):(takeP es p).1=blobOf es p:=by
 cases es with
 | nil=>rfl
 | cons e t =>
  unfold blobOf;rw[Zbc,Zc7];by_cases h:e.1=p
  ·rw[AE h,AE h]
   rfl
  ·rw[Aw h,Aw h];rw[ZjA]
   ·rfl
   ·intro x d b;have a:=c.head x d;rw[b]at a;exact hp e (Ba ..) a
theorem Zea{q:Bs}(h:q≠p):blobOf (takeP es p).2 q=blobOf es q:=by
 cases es with
 | nil=>rfl
 | cons e t =>
  rw[Zbc];by_cases k:e.1=p
  ·rw[AE k];unfold blobOf;rw[Zc7,Aw (λ a=>h (by rw[<- a,k]))]
  ·rw[Aw k]
theorem Zhs(c:Rise es)(hp:∀e∈es,¬e.1<p)(x:Bs):x∈(takeP es p).2.map (·.1)↔x∈es.map (·.1)/\x≠p:=by
 cases es with
 | nil=>simp[takeP]
 | cons e t =>
  rw[Zbc];by_cases k:e.1=p
  ·rw[AE k];simp only[Bu,Bw]
   constructor
   ·rintro⟨y,a,rfl⟩;refine⟨⟨y,.inr a,rfl⟩,λ b=>?_⟩;have:=c.head y a;rw[k,b]at this;exact Zbv _ this
   ·rintro⟨⟨y,a,rfl⟩,d⟩
    rcases a with rfl|a
    ·exact absurd k d
    ·exact⟨y,a,rfl⟩
  ·rw[Aw k];refine⟨λ h=>⟨h,λ b=>?_⟩,λ h=>h.1⟩;obtain⟨y,a,rfl⟩:=Bu.1 h;subst b
   rcases Bw.1 a with rfl|a
   ·exact k rfl
   ·exact hp e (Ba ..) (c.head y a)
theorem Zfg(a:Rise es)(p:Bs):Rise (takeP es p).2:=by
 cases es with
 | nil=>exact List.Pairwise.nil
 | cons e t =>
  rw[Zbc];by_cases k:e.1=p
  ·rw[AE k];exact a.tail
  ·rw[Aw k];exact a
theorem Zi6(f:Rise a)(g:Rise b):(∀e∈a,¬e.1<leastP a b)/\(∀e∈b,¬e.1<leastP a b):=by
 have key:∀(es:List En),Rise es->∀x∈es,∀e,es.head? = some e->¬x.1<e.1:=by
  intro es j x i e c
  cases es with
  | nil=>cases c
  | cons y t =>
   cases c
   rcases Bw.1 i with rfl|q
   ·exact Zbv _
   ·exact ZdO (j.head x q)
 cases a with
 | nil =>
  refine⟨by simp,?_⟩
  cases b with
  | nil=>simp
  | cons y t=>exact λ x i=>key _ g x i y rfl
 | cons x s =>
  cases b with
  | nil=>exact⟨λ e c=>key _ f e c x rfl,by simp⟩
  | cons y t =>
   rw[Zet];by_cases h:x.1<y.1
   ·rw[AE h];refine⟨λ e c=>key _ f e c x rfl,λ e c q=>?_⟩;exact key _ g e c y rfl (Zgg q h)
   ·rw[Aw h];refine⟨λ e c q=>?_,λ e c=>key _ g e c y rfl⟩;have d:=key _ f e c x rfl
    rcases ZgU x.1 y.1 with k|k|k
    ·exact h k
    ·rw[k]at d;exact d q
    ·exact d (Zgg q k)
theorem ZgE(h:a≠[]∨b≠[]):leastP a b∈a.map (·.1)∨leastP a b∈b.map (·.1):=by
 cases a with
 | nil =>
  cases b with
  | nil=>simp at h
  | cons y t=>right;simp[leastP]
 | cons x s =>
  cases b with
  | nil=>left;simp[leastP]
  | cons y t =>
   rw[Zet];by_cases k:x.1<y.1
   ·left;simp[k]
   ·right;simp[k]
theorem Zku(j:Rise a)(l:Rise b)(h:a≠[]∨b≠[]):
  bothP a b=leastP a b::bothP (takeP a (leastP a b)).2 (takeP b (leastP a b)).2:=by
 obtain⟨g,i⟩:=Zi6 j l;have m:=ZgE h
 obtain⟨p,hp⟩:=Xa (leastP a b)
 rw[hp]at g i m ⊢;have n:=Zhs j g;have o:=Zhs l i;refine Zb3 (Zbf _) ?_ ?_
 ·refine Bn.2 ⟨?_,Zbf _⟩;intro x c;rw[bothP,Zbh,AK,n,o]at c
  have r:¬x<p:=by
   rcases c with⟨q,_⟩ | ⟨q,_⟩
   ·obtain⟨e,d,rfl⟩:=Bu.1 q;exact g e d
   ·obtain⟨e,d,rfl⟩:=Bu.1 q;exact i e d
  have f:x≠p:=by rcases c with⟨_,q⟩ | ⟨_,q⟩ <;> exact q
  rcases ZgU p x with k|k|k
  ·exact k
  ·exact absurd k.symm f
  ·exact absurd k r
 ·intro x;rw[bothP,Zbh,AK,Bw,bothP,Zbh,AK,n,o];by_cases c:x=p
  ·subst c;exact⟨λ _=>.inl rfl,λ _=>m⟩
  ·constructor
   ·rintro(q|q)
    ·exact .inr (.inl ⟨q,c⟩)
    ·exact .inr (.inr ⟨q,c⟩)
   ·rintro(q|⟨q,_⟩ | ⟨q,_⟩)
    ·exact absurd q c
    ·exact .inl q
    ·exact .inr q
theorem ZjX(g:Bs->Bool)(d:Rise a)(f:Rise b)(h:a≠[]∨b≠[]):
  fdiff g a b=(if((takeP a (leastP a b)).1 != (takeP b (leastP a b)).1)&&g (leastP a b)then[(leastP a b,(takeP a (leastP a b)).1,(takeP b (leastP a b)).1)]else[])++fdiff g (takeP a (leastP a b)).2 (takeP b (leastP a b)).2:=by
 obtain⟨l,m⟩:=Zi6 d f;have k:=Zku d f h;have j:Zbw (bothP a b):=Zbf _;rw[k]at j
 obtain⟨p,hp⟩:=Xa (leastP a b)
 rw[hp]at l m k j ⊢;have i:=(Bn.1 j).1;rw[Zfj d l,Zfj f m];unfold fdiff;rw[k,List.map_cons,List.filter_cons]
 have e:(bothP (takeP a p).2 (takeP b p).2).map (λ q=>(q,blobOf a q,blobOf b q))=(bothP (takeP a p).2 (takeP b p).2).map (λ q=>(q,blobOf (takeP a p).2 q,blobOf (takeP b p).2 q)):=by
  refine List.map_congr_left (λ q hq=>?_)
  have c:q≠p:=λ n=>by have:=i q hq;rw[n]at this;exact Zbv _ this
  rw[Zea c,Zea c]
 rw[e]
 split <;> simp
theorem ZhB(es:List En)(p:Bs)(x:En)(h:x∈(takeP es p).2):x∈es:=by
 cases es with
 | nil=>exact h
 | cons e t =>
  rw[Zbc]at h
  split at h
  ·exact Bd _ h
  ·exact h
theorem ZcJ(es:List En)(p:Bs):(takeP es p).2.length<=es.length:=by
 cases es with
 | nil=>simp[takeP]
 | cons e t=>rw[Zbc];split <;> simp
theorem Zmd(h:a≠[]∨b≠[]):(takeP a (leastP a b)).2.length+(takeP b (leastP a b)).2.length<a.length+b.length:=by
 have c:=ZcJ a (leastP a b);have d:=ZcJ b (leastP a b)
 cases a with
 | nil =>
  cases b with
  | nil=>simp at h
  | cons y t=>simp[leastP,takeP]
 | cons x s =>
  cases b with
  | nil=>simp[leastP,takeP]
  | cons y t =>
   by_cases k:x.1<y.1
   ·have e:(takeP (x::s) (leastP (x::s) (y::t))).2=s:=by simp[leastP,k,takeP]
    rw[e]at c ⊢;simp only[A3]at d ⊢;omega
   ·have e:(takeP (y::t) (leastP (x::s) (y::t))).2=t:=by simp[leastP,k,takeP]
    rw[e]at d ⊢;simp only[A3]at c ⊢;omega
def encC:Enc Chg:=⟨λ c=>[tx c.1,Ab .u64 (c.2.1.toNat:Int),Ab .u64 (c.2.2.toNat:Int)],3,λ _=>rfl,by decide,by intro x u h;simp at h;rcases h with rfl|rfl|rfl <;> rfl⟩
theorem Tryz.info181:(Am.info? 181).map (λ i=>(i.zero,i.size,i.bytes))=some (some (.agg #[Ae ⟨#[]⟩,Ab .u64 0,Ab .u64 0]),3,32):=by kernel_rfl
theorem Zn3{α:Type}(E:Enc α)(e t a:Nat)(z:Ar)(d:(Am.info? e).map (λ i=>(i.zero,i.size,i.bytes))=some (some z,E.size,a))(q:Am.underlying t=some (.slice e))(p:Am.elem t=e){k:Nat}(u:n<=c)(v:k<=n):
  ∃o c',(∀w,(Instr.slice t (Aa ao n c) (some (Ab .i64 (k:Int))) none none).run Am w=.ok (Aa o (n - k) c') w)/\n - k<=c'/\c'<=c/\∀w (xs:List α),xs.length=n->RdG E w ao xs->RdG E w o (xs.drop k):=by
 obtain⟨i0,j,r,m,s⟩:=info_parts d;refine⟨if c=k then ao else ao.map (·.add (k*E.size)),c - k,λ w=>?_,by omega,by omega,?_⟩
 ·rw[run_slice_l w t ao n c (by rw[p];exact q) .i64 (k:Int) (by omega) (by omega)]
  have:(sizeOf (Am.elem t)).run Am w=.ok E.size w:=by
   rw[p];simp[sizeOf,typeInfo,j,m]
  rw[this];simp only[Result.andThen,sliced,Int.toNat_natCast]
 ·intro w xs x h
  split
  ·intro f;simp at f;omega
  ·intro f;obtain⟨b,off,rfl,l,g⟩:=h (by simp at f;omega);simp only[Option.map_some,Zap];exact RdG.drop (E:=E) (b:=b) (off:=off) (xs:=xs) (λ _=>⟨b,off,rfl,l,g⟩) k f
def Box3(w:Ap)(B:Nat)(t:TypeId)(x y z:Ar):Prop:=w.heap[B]? = some (.cells #[x,y,z] t (0,0))
section
variable{w w':World}{B:Nat}{t:TypeId}{x y z:Value}
theorem Box3.lt(h:Box3 w B t x y z):B<w.heap.size:=(Array.getElem?_eq_some_iff.1 h).1
theorem Box3.below(h:Box3 w B t x y z)(a:An w.heap.size w w'):Box3 w' B t x y z:=(a.block B h.lt).trans h
theorem Box3.cells(h:Box3 w B t x y z):w.cell? ⟨B,0,none⟩=some x/\w.cell? ⟨B,1,none⟩=some y/\w.cell? ⟨B,2,none⟩=some z:=by
 unfold Box3 at h;simp[World.cell?,h]
theorem Box3.thaw(h:Box3 w B t x y z):w.frozen? ⟨B,0,none⟩=false/\w.frozen? ⟨B,1,none⟩=false/\w.frozen? ⟨B,2,none⟩=false:=by
 unfold Box3 at h;simp[World.frozen?,h]
theorem Box3.new(w:Ap)(t:TypeId)(x y z:Ar):Box3 (w.alloc (.cells #[x,y,z] t)) w.heap.size t x y z:=by
 unfold Box3 World.alloc;simp
theorem Box3.put1(h:Box3 w B t x y z)(a:Ar):Box3 (w.setCell ⟨B,1,none⟩ a) B t x a z:=by
 unfold Box3 at h ⊢;simp[World.setCell,Array.getElem?_modify,h]
theorem Box3.put2(h:Box3 w B t x y z)(a:Ar):Box3 (w.setCell ⟨B,2,none⟩ a) B t x y a:=by
 unfold Box3 at h ⊢;simp[World.setCell,Array.getElem?_modify,h]
end
theorem els22:Am.elem 145=152:=by kernel_rfl
theorem ZcD{t:List En}(h:RdG encE w ao (e::t)):∃b off,ao=some ⟨b,off,none⟩/\b<w.heap.size/\w.cell? ⟨b,off,none⟩=some (tx e.1)/\w.cell? ⟨b,off+1,none⟩=some (Ab .u64 (e.2.toNat:Int)):=by
 obtain⟨b,off,rfl,a⟩:=h.some_of (i:=0) (x:=e) rfl;obtain⟨_,c,d⟩:=h.ents (i:=0) (e:=e) rfl;refine⟨b,off,rfl,a,?_,?_⟩
 ·simpa using c
 ·simpa using d
theorem Zmi{bo:Option Addr}{m d:Nat}(w:Ap)(i:RdG encE w ao a)(j:RdG encE w bo b)(f:a.length=n)(g:b.length=m)(G:n<=4000000000000000000)(F:m<=4000000000000000000)(h:a≠[]∨b≠[])(p:Bs)(hp:leastP a b=p):
  At Am 147 #[Aa ao n c,Aa bo m d] w λ e w'=>e=Aj (tx p)/\∃q,w'=w.drewN q:=by
 cases b with
 | nil =>
  cases a with
  | nil=>simp at h
  | cons x s =>
   obtain rfl:x.1=p:=hp;obtain⟨b1,D,rfl,_,v,_⟩:=ZcD i;obtain rfl:m=0:=g.symm
   have r:¬(n:Int)=0:=by simp at f;omega
   clear i j f g h;go_enter func147,ntmps147;go_wp2_with fail;go_quiet (fail);go_wp2;go_ret;exact⟨rfl,_,rfl⟩
 | cons y t =>
  obtain⟨b2,H,rfl,_,E,_⟩:=ZcD j
  have o:¬(m:Int)=0:=by simp at g;omega
  have z:(0:Int)<(m:Int):=by simp at g;omega
  have A:((m:Int)==0)=false:=by simpa using o
  cases a with
  | nil =>
   obtain rfl:y.1=p:=hp;obtain rfl:n=0:=f.symm;clear i j f g h;go_enter func147,ntmps147;go_wp2_with fail;go_quiet (fail);go_wp2;go_ret;exact⟨rfl,_,rfl⟩
  | cons x s =>
   obtain⟨b1,D,rfl,_,v,_⟩:=ZcD i
   have r:¬(n:Int)=0:=by simp at f;omega
   have B:(0:Int)<(n:Int):=by simp at f;omega
   have u:0<n:=by omega
   have C:decide (0<n)=true:=by simpa using u
   by_cases k:x.1<y.1
   ·obtain rfl:x.1=p:=by rw[<- hp];simp[leastP,k]
    have l:Op.bytesLess x.1 y.1=true:=by rw[ZaY];simpa using k
    clear i j f g h hp;go_enter func147,ntmps147;go_wp2_with fail;go_quiet (fail);go_wp2;go_ret;exact⟨rfl,_,rfl⟩
   ·obtain rfl:y.1=p:=by rw[<- hp];simp[leastP,k]
    have l:Op.bytesLess x.1 y.1=false:=by rw[ZaY];simpa using k
    clear i j f g h hp;go_enter func147,ntmps147;go_wp2_with fail;go_quiet (fail);go_wp2;go_ret;exact⟨rfl,_,rfl⟩
theorem Zfb(p:Bs)(w:Ap)(g:RdG encE w ao a)(d:a.length=n)(j:n<=c)(o:UInt64)(t:List En)(b:takeP a p=(o,t)):
  At Am 148 #[Aa ao n c,tx p] w λ e w'=>∃f l c',e=Aj (.tuple #[Ab .u64 (o.toNat:Int),Aa f l c'])/\t.length=l/\l<=c'/\c'<=c/\(∀u,RdG encE u ao a->RdG encE u f t)/\∃q,w'=w.drewN q:=by
 cases a with
 | nil =>
  obtain⟨rfl,rfl⟩:o=0/\t=[]:=by simpa[takeP]using b.symm
  obtain rfl:n=0:=d.symm;clear b;go_enter func148,ntmps148;go_wp2;refine As (AA rfl _ _ _) rfl ?_;exact⟨ao,0,c,rfl,rfl,j,Nat.le_refl _,λ u h=>h,0,rfl⟩
 | cons e s =>
  obtain⟨b1,i,rfl,_,C,D⟩:=ZcD g
  have z:¬(n:Int)=0:=by simp at d;omega
  have A:(0:Int)<(n:Int):=by simp at d;omega
  have H:Hid (RdG encE w (some ⟨b1,i,none⟩) (e::s)/\(e::s).length=n):=⟨g,d⟩
  by_cases k:e.1=p
  ·obtain⟨rfl,rfl⟩:e.2=o/\s=t:=by
    rw[takeP,AE k]at b;exact⟨A4 Prod.fst b,A4 Prod.snd b⟩
   obtain⟨f,c',m,r,v,x⟩:=Zn3 encE 152 145 24 _ Tryz.info152 underlying145 els22 (ao:=some ⟨b1,i,none⟩) (k:=1) j (by simp at d;omega);subst k
   have L:Hid (n - 1<=c'/\c'<=c/\∀w (xs:List En),xs.length=n->RdG encE w (some ⟨b1,i,none⟩) xs->RdG encE w f (xs.drop 1)):=⟨r,v,x⟩
   have y:∀w,(Instr.slice 145 (Aa (some ⟨b1,i,none⟩) n c) (some (Ab .i64 1)) none none).run Am w=.ok (Aa f (n - 1) c') w:=m;clear b g d m r v x;go_enter func148,ntmps148;go_wp2_with fail;go_quiet (fail);go_wp2;refine As (AA rfl _ _ _) rfl ?_;exact⟨f,n - 1,c',rfl,by have:=H.o.2;simp at this;omega,L.o.1,L.o.2.1,λ u h=>L.o.2.2 u _ H.o.2 h,_,rfl⟩
  ·obtain⟨rfl,rfl⟩:(0:UInt64)=o/\e::s=t:=by
    rw[takeP,Aw k]at b;exact⟨A4 Prod.fst b,A4 Prod.snd b⟩
   have B:(e.1==p)=false:=by simpa using k
   clear b g d;go_enter func148,ntmps148;go_wp2;refine As (AA rfl _ _ _) rfl ?_;exact⟨_,n,c,rfl,H.o.2,j,Nat.le_refl _,λ u h=>h,0,rfl⟩
end Go.Proofs.YtlojblelpaegpaaGreat
