/-
  Several texts, laid together.
-/
import Derived.Test.YtlojblelpaegpaaGreatM35
set_option maxHeartbeats 6400000
set_option maxRecDepth 100000
open UInt64 renaming lt_iff_toNat_lt->BK,le_iff_toNat_le->BM,toNat_inj->Bz
open List renaming mem_singleton->A2,getElem?_eq_some_iff->AC,take_succ_eq_append_getElem->Be,length_take->AM,mem_append->AK,getElem?_append_left->BN,getElem?_append_right->BQ,ext_getElem?->Cu,getElem?_map->Bc,getElem?_eq_getElem->Aq,getElem?_eq_none->AL,drop_eq_getElem_cons->BV,take_add_one->AO,map_append->BS,length_map->AQ,take_of_length_le->Av,mem_of_getElem?->AY,getD->Cf,mem_map->Bu,drop_eq_nil_of_le->Ea
open Go renaming World->Ap,Calls->At,maxLen->AG,Value->Ar
open Go.Value renaming slice->Aa,int->Ab,string->Ae
open Go.IntKind renaming i64->Ak,wrap_i64->Au,u64->Al
open Go.Ending renaming returned->Aj
open Go.Proofs.Tryz renaming prog->Am
open Go.Proofs.Tryz
namespace Go.Proofs.YtlojblelpaegpaaGreat
open Go.RowKit
variable{B b base c i n r rg:Nat}{G X:List Int}{S:Nat->Prop}{a:List Rw}{ao:Option Addr}{l out:List Bs}{rk:Nat->Nat}{s:Bs}{u w w':Ap}{x y:UInt64}
def ZbR(l:List UInt64):Prop:=l.Pairwise (λ a b=>a<b)
theorem Ze1(a:UInt64):¬a<a:=by rw[BK];omega
theorem Zk5{a b c:UInt64}(h:a<b)(k:b<c):a<c:=by rw[BK]at *;omega
theorem Zqf{a b c:UInt64}(h:a<=b)(k:b<c):a<c:=by rw[BK]at *;rw[BM]at h;omega
theorem ZbR.snoc{l:List UInt64}(h:ZbR l)(e:∀y∈l,y<x):ZbR (l++[x]):=by
 refine List.pairwise_append.2 ⟨h,by simp,λ a d b c=>?_⟩;rw[A2]at c;rw[c];exact e a d
theorem ZbR.nodup{l:List UInt64}(h:ZbR l):l.Nodup:=h.imp (λ {a b} q e=>by rw[e]at q;exact Ze1 _ q)
theorem ZbR.ris{l:List UInt64}(h:ZbR l):risU l=l:=by
 refine List.mergeSort_of_pairwise (h.imp ?_);intro a b q;rw[A5,BM];rw[BK]at q;omega
structure UW(l:List UInt64)(x:UInt64)(i:Nat)(out:List UInt64)(done:Bool):Prop where
 rise:ZbR out
 yes:done=true->(∀y,y∈out↔y∈l.take i∨y=x)/\∃z∈l.take i,x<=z
 no:done=false->out=l.take i/\∀y∈l.take i,y<x
 len:out.length<=i+1
theorem UW.start(l:List UInt64)(x:UInt64):UW l x 0 [] false:=⟨List.Pairwise.nil,λ q=>(by cases q),λ _=>⟨by simp,λ _ q=>(by simp at q)⟩,by simp⟩
section
variable{l:List UInt64}{x y:UInt64}{i:Nat}{out:List UInt64}
theorem ZaN{l:List UInt64}{i:Nat}{y:UInt64}(h:l[i]? = some y):l.take (i+1)=l.take i++[y]:=by
 obtain⟨q,e⟩:=AC.1 h;rw[Be q,e]
theorem ZhR(c:ZbR l)(h:l[i]? = some y):∀z∈l.take i,z<y:=by
 intro z d;obtain⟨j,b,e⟩:=List.getElem_of_mem d;obtain⟨q,a⟩:=AC.1 h;rw[AM]at b;rw[List.getElem_take]at e;rw[<- e,<- a];exact List.pairwise_iff_getElem.1 c j i (by omega) q (by omega)
theorem UW.less(d:ZbR l)(h:UW l x i out false)(b:l[i]? = some y)(a:y<x):UW l x (i+1) (out++[y]) false:=by
 obtain⟨e,k⟩:=h.no rfl;refine⟨?_,λ q=>(by cases q),λ _=>⟨by rw[ZaN b,e],λ z c=>?_⟩,by have:=h.len;simp;omega⟩
 ·refine h.rise.snoc ?_;rw[e];exact ZhR d b
 ·rw[ZaN b]at c
  rcases AK.1 c with r|r
  ·exact k z r
  ·rw[A2]at r;rw[r];exact a
theorem UW.same(_hl:ZbR l)(h:UW l x i out false)(hy:l[i]? = some x):UW l x (i+1) (out++[x]) true:=by
 obtain⟨e,k⟩:=h.no rfl;refine⟨?_,λ _=>⟨λ z=>?_,x,?_,by rw[BM];omega⟩,λ q=>(by cases q),by have:=h.len;simp;omega⟩
 ·refine h.rise.snoc ?_;rw[e];exact k
 ·rw[ZaN hy,e];simp
 ·rw[ZaN hy];simp
theorem UW.more(_hl:ZbR l)(h:UW l x i out false)(hy:l[i]? = some y)(hxy:x<y):UW l x (i+1) (out++[x]++[y]) true:=by
 obtain⟨e,k⟩:=h.no rfl
 have hr:ZbR (out++[x]):=by
  refine h.rise.snoc ?_;rw[e];exact k
 have hlen:out.length<=i:=by rw[e,AM];omega
 refine⟨hr.snoc (λ z hz=>?_),λ _=>⟨λ z=>?_,y,?_,?_⟩,λ q=>(by cases q),by simp;omega⟩
 ·rcases AK.1 hz with r|r
  ·rw[e]at r;exact Zk5 (k z r) hxy
  ·rw[A2]at r;rw[r];exact hxy
 ·rw[ZaN hy,e];simp only[AK,A2]
  constructor
  ·rintro((r|r) | r)
   ·exact .inl (.inl r)
   ·exact .inr r
   ·exact .inl (.inr r)
  ·rintro((r|r) | r)
   ·exact .inl (.inl r)
   ·exact .inr r
   ·exact .inl (.inr r)
 ·rw[ZaN hy];simp
 ·rw[BM];rw[BK]at hxy;omega
theorem UW.next(f:ZbR l)(h:UW l x i out true)(d:l[i]? = some y):x≠y/\UW l x (i+1) (out++[y]) true:=by
 obtain⟨k,z0,c,b⟩:=h.yes rfl;have a:x<y:=Zqf b (ZhR f d z0 c);refine⟨λ e=>by rw[e]at a;exact Ze1 _ a,h.rise.snoc (λ z g=>?_),λ _=>⟨λ z=>?_,z0,?_,b⟩,λ q=>(by cases q),by have:=h.len;simp;omega⟩
 ·rcases(k z).1 g with r|r
  ·exact ZhR f d z r
  ·rw[r];exact a
 ·rw[ZaN d];simp only[AK,A2,k]
  constructor
  ·rintro((r|r) | r)
   ·exact .inl (.inl r)
   ·exact .inr r
   ·exact .inl (.inr r)
  ·rintro((r|r) | r)
   ·exact .inl (.inl r)
   ·exact .inr r
   ·exact .inl (.inr r)
 ·rw[ZaN d];exact List.mem_append_left _ c
end
def ZpQ(l:List UInt64)(x:UInt64)(l':List UInt64):Prop:=ZbR l'/\(∀y,y∈l'↔y∈l∨y=x)/\l'.length<=l.length+1
theorem UW.end_{l:List UInt64}{out:List UInt64}{g:Bool}(h:UW l x l.length out g):ZpQ l x (if g then out else out++[x]):=by
 have a:l.take l.length=l:=List.take_length
 cases g with
 | true =>
  obtain⟨k,_⟩:=h.yes rfl;rw[a]at k;exact⟨h.rise,k,h.len⟩
 | false =>
  obtain⟨e,k⟩:=h.no rfl;rw[a]at e k;refine⟨h.rise.snoc (by rw[e];exact k),λ y=>by rw[e];simp,by rw[e];simp⟩
theorem infoU:(Am.info? 43).map (λ i=>(i.zero,i.size,i.bytes))=some (some (Ab Al 0),1,8):=by kernel_rfl
theorem Zo5{off:Nat}{l:List UInt64}{c:Int}(h:RdG encU u (some ⟨b,off,none⟩) l)(a:Hid (l[i]? = some y/\(y.toNat:Int)=c)):u.cell? ⟨b,off+i,none⟩=some (Ab Al c):=by
 have:=(h.nums a.o.1).2;rw[a.o.2]at this;exact this
theorem Zpg{a:Option Addr}{L:Nat}{l:List UInt64}(h:RdG encU w a l)(hl:l.length=L)(hL:L<=1000000)(hr:ZbR l)(x:UInt64):
  At Am 36 #[Aa a L c,Ab Al (x.toNat:Int)] w λ e w'=>∃Z n' c',e=Aj (Aa Z n' c')/\Hid (∃l',ZpQ l x l'/\OwnG encU 43 w' w.heap.size (Aa Z n' c') l'/\Below w.heap.size w w'):=by
 have H:Hid (RdG encU w a l/\l.length=L/\ZbR l):=⟨h,hl,hr⟩
 obtain⟨j,I⟩:∃j:Int,(x.toNat:Int)=j:=⟨_,rfl⟩
 have D:Hid ((x.toNat:Int)=j):=I;rw[I];clear h hl hr I;go_enter func36,ntmps36;go_wp2_with fail;go_loopg[5,6,7] L (λ m ov dv iv wr=>∃(i:Nat) (oa:Option Addr) (on oc:Nat) (out:List UInt64) (g:Bool),iv=Ab Ak i/\i+m=L/\ov=Aa oa on oc/\dv=.bool g/\Hid (UW l x i out g/\OwnG encU 43 wr w.heap.size (Aa oa on oc) out/\Below w.heap.size w wr))
 case atStart=>exact⟨0,none,0,0,[],false,rfl,by omega,rfl,rfl,UW.start l x,OwnG.nil _ _ _ _,Below.refl _ _⟩
 case round =>
  obtain⟨i,oa,on,oc,out,g,rfl,hi,rfl,rfl,r⟩:=hrel;have ab:=r.o.1.len;by_cases V:i<L
  ·have id:(i:Int)<(L:Int):=by omega
   obtain⟨y,u⟩:=Zaf H.o.2.1 V;have G:RdG encU _ a l:=H.o.1.below r.o.2.2;obtain⟨b1,off,rfl,_⟩:=G.some_of u;obtain⟨_,R⟩:=G.nums u
   obtain⟨f,J⟩:∃f:Int,(y.toNat:Int)=f:=⟨_,rfl⟩
   rw[J]at R;have s:=shidR (And.intro u J);have E:=r.o.2.1;have k:=r.o.2.2
   have n:(out.length+1)*8<=140737488355328:=by omega
   have p:out.length+1<=AG:=by simp only[AG];omega
   clear J G
   cases g with
   | true =>
    obtain⟨M,F⟩:=r.o.1.next H.o.2.2 u
    have A:¬f=j:=λ q=>M (Bz.1 (by have:=D.o;have:=s.o.2;omega))
    have n2:(f != j)=true:=by simpa using A
    have X:(f==j)=false:=by simpa using A
    have C:=shidR F;clear M F u;go_wp2_with(at_builtin;refine Zag encU 43 51 8 _ rfl infoU underlying51 rfl (.tmp 34) (.tmp 39) rfl w.heap.size (Aa oa on oc) out y _ rfl E rfl n p k.size _ (by rw[show(encU.cells y).toArray=#[Ab Al (y.toNat:Int)]from rfl,s.o.2]) ?_;intro v4 Q b d v z);obtain⟨a4,S,rfl,_,_⟩:=b.whole rfl;go_wp2;go_roundg (gk - 1)
    case measure=>omega
    case rel=>exact⟨i+1,_,_,_,out++[y],true,by go_num,by omega,rfl,rfl,C.o,b,k.trans d⟩
   | false =>
    by_cases O:x<=y
    ·have Y:j<=f:=by have:=D.o;have:=s.o.2;rw[BM]at O;omega
     have z2:decide (j<=f)=true:=by simpa using Y
     by_cases T:y=x
     ·subst T
      obtain rfl:f=j:=by rw[<- D.o,<- s.o.2]
      have n2:(f != f)=false:=by simp
      have X:(f==f)=true:=by simp
      have C:=shidR (r.o.1.same H.o.2.2 u);clear u;go_wp2_with(at_builtin;refine Zag encU 43 51 8 _ rfl infoU underlying51 rfl (.tmp 24) (.tmp 26) rfl w.heap.size (Aa oa on oc) out y _ rfl E rfl n p k.size _ (by rw[show(encU.cells y).toArray=#[Ab Al (y.toNat:Int)]from rfl,s.o.2]) ?_;intro v4 Q b d v z;have c9:=Zo5 (H.o.1.below (k.trans d)) s;clear R);obtain⟨a4,S,rfl,_,_⟩:=b.whole rfl;go_wp2;go_roundg (gk - 1)
      case measure=>omega
      case rel=>exact⟨i+1,_,_,_,out++[y],true,by go_num,by omega,rfl,rfl,C.o,b,k.trans d⟩
     ·have A:¬f=j:=λ q=>T (Bz.1 (by have:=D.o;have:=s.o.2;omega))
      have n2:(f != j)=true:=by simpa using A
      have X:(f==j)=false:=by simpa using A
      have t:x<y:=by
       rw[BM]at O;rw[BK]
       have:x.toNat≠y.toNat:=λ q=>T (Bz.1 q.symm)
       omega
      have C:=shidR (r.o.1.more H.o.2.2 u t)
      have W:((out++[x]).length+1)*8<=140737488355328:=by simp;omega
      have K:(out++[x]).length+1<=AG:=by simp only[AG];simp;omega
      clear u t
      go_wp2_with(first
       | (at_builtin;refine Zag encU 43 51 8 _ rfl infoU underlying51 rfl (.tmp 34) (.tmp 39) rfl w.heap.size v4 (out++[x]) y _ rfl b rfl W K (k.trans d).size _ (by rw[show(encU.cells y).toArray=#[Ab Al (y.toNat:Int)]from rfl,s.o.2]) ?_;intro v5 w5 N U aa ac)
       | (at_builtin;refine Zag encU 43 51 8 _ rfl infoU underlying51 rfl (.tmp 24) (.tmp 26) rfl w.heap.size (Aa oa on oc) out x _ rfl E rfl n p k.size _ (by rw[show(encU.cells x).toArray=#[Ab Al (x.toNat:Int)]from rfl,D.o]) ?_;intro v4 Q b d v z;have c9:=Zo5 (H.o.1.below (k.trans d)) s;clear R))
      obtain⟨a5,c5,rfl,_,_⟩:=N.whole rfl;go_wp2;go_roundg (gk - 1)
      case measure=>omega
      case rel=>exact⟨i+1,_,_,_,out++[x]++[y],true,by go_num,by omega,rfl,rfl,C.o,N,(k.trans d).trans U⟩
    ·have Y:¬j<=f:=by have:=D.o;have:=s.o.2;rw[BM]at O;omega
     have z2:decide (j<=f)=false:=by simpa using Y
     have A:¬f=j:=by omega
     have n2:(f != j)=true:=by simpa using A
     have X:(f==j)=false:=by simpa using A
     have t:y<x:=by
      rw[BM]at O;rw[BK];omega
     have C:=shidR (r.o.1.less H.o.2.2 u t);clear u t;go_wp2_with(at_builtin;refine Zag encU 43 51 8 _ rfl infoU underlying51 rfl (.tmp 34) (.tmp 39) rfl w.heap.size (Aa oa on oc) out y _ rfl E rfl n p k.size _ (by rw[show(encU.cells y).toArray=#[Ab Al (y.toNat:Int)]from rfl,s.o.2]) ?_;intro v4 Q b d v z);obtain⟨a4,S,rfl,_,_⟩:=b.whole rfl;go_wp2;go_roundg (gk - 1)
     case measure=>omega
     case rel=>exact⟨i+1,_,_,_,out++[y],false,by go_num,by omega,rfl,rfl,C.o,b,k.trans d⟩
  ·have id:¬(i:Int)<(L:Int):=by omega
   obtain rfl:i=L:=by omega
   have F:=r.o.1;rw[<- H.o.2.1]at F;have P:=UW.end_ F;have E:=r.o.2.1;have k:=r.o.2.2
   have n:(out.length+1)*8<=140737488355328:=by omega
   have p:out.length+1<=AG:=by simp only[AG];omega
   cases g with
   | true =>
    have B:=shidR P;clear F P;go_wp2;go_ret;exact⟨_,_,_,rfl,out,B.o,E,k⟩
   | false =>
    have B:=shidR P;clear F P;go_wp2_with(at_builtin;refine Zag encU 43 51 8 _ rfl infoU underlying51 rfl (.tmp 43) (.tmp 45) rfl w.heap.size (Aa oa on oc) out x _ rfl E rfl n p k.size _ (by rw[show(encU.cells x).toArray=#[Ab Al (x.toNat:Int)]from rfl,D.o]) ?_;intro v4 Q b d v z);obtain⟨a4,S,rfl,_,_⟩:=b.whole rfl;go_wp2;go_ret;exact⟨_,_,_,rfl,out++[x],B.o,b,k.trans d⟩
structure RV where
 id:UInt64
 tree:UInt64
 date:Int
 pa:Option Addr
 pn:Nat
 pc:Nat
 gen:Int
 fb:Bs
variable{v:RV}{vs:List RV}
def RV.cells(v:RV):List Ar:=[Ab Al (v.id.toNat:Int),Ab Al (v.tree.toNat:Int),Ab Ak v.date,Aa v.pa v.pn v.pc,Ab Ak v.gen,tx v.fb]
def encRv:Enc RV:=⟨λ v=>v.cells,6,λ _=>rfl,by decide,by intro x u h;simp[RV.cells]at h;rcases h with rfl|rfl|rfl|rfl|rfl|rfl <;> rfl⟩
structure RvO(w:Ap)(B:Nat)(v:RV)(r:Rw):Prop where
 id:v.id=r.id
 tree:v.tree=r.tree
 date:v.date=r.date
 gen:v.gen=r.gen
 ps:OwnG encI 3 w B (Aa v.pa v.pn v.pc) r.ps
 fb:v.fb=r.fb
theorem RvO.stays{r:Rw}(h:RvO w B v r)(c:Zaa S w w')(a:NoIB w S):RvO w' B v r :=
 ⟨h.id,h.tree,h.date,h.gen,h.ps.stays c (λ g b q=>by obtain⟨C,e⟩:=h.ps.type b;exact(a g q C).1 e),h.fb⟩
theorem RvO.below{r:Rw}(h:RvO w B v r)(a:Below w.heap.size w w'):RvO w' B v r:=⟨h.id,h.tree,h.date,h.gen,h.ps.below a,h.fb⟩
theorem RvO.low{a:Nat}{r:Rw}(h:RvO w B v r)(b:a<=B):RvO w a v r:=⟨h.id,h.tree,h.date,h.gen,h.ps.low b,h.fb⟩
structure RvsO(w:Ap)(B:Nat)(vs:List RV)(rs:List Rw):Prop where
 len:vs.length=rs.length
 at_:∀(i:Nat) (v:RV) (r:Rw),vs[i]? = some v->rs[i]? = some r->RvO w B v r
theorem RvsO.stays(h:RvsO w B vs a)(e:Zaa S w w')(d:NoIB w S):RvsO w' B vs a:=⟨h.len,λ i v r b c=>(h.at_ i v r b c).stays e d⟩
theorem RvsO.below(h:RvsO w B vs a)(d:Below w.heap.size w w'):RvsO w' B vs a:=⟨h.len,λ i v r b c=>(h.at_ i v r b c).below d⟩
theorem RvsO.low{a:Nat}{b:List Rw}(h:RvsO w B vs b)(e:a<=B):RvsO w a vs b:=⟨h.len,λ i v r c d=>(h.at_ i v r c d).low e⟩
theorem RvsO.nil(w:Ap)(B:Nat):RvsO w B [] []:=⟨rfl,λ i v r h=>by simp at h⟩
theorem RvsO.app{b:List RV}{f:List Rw}(h:RvsO w B vs f)(e:RvsO w B b a):RvsO w B (vs++b) (f++a):=by
 refine⟨by simp[h.len,e.len],λ i v r c d=>?_⟩;by_cases hi:i<vs.length
 ·rw[BN hi]at c;rw[BN (by rw[<- h.len];exact hi)]at d;exact h.at_ i v r c d
 ·rw[BQ (by omega)]at c;rw[BQ (by rw[<- h.len];omega),<- h.len]at d;exact e.at_ _ v r c d
theorem RvsO.ids(h:RvsO w B vs a):vs.map (·.id)=a.map (·.id):=by
 refine Cu (λ i=>?_);rw[Bc,Bc];by_cases hi:i<vs.length
 ·have b:i<a.length:=by rw[<- h.len];exact hi
  rw[Aq hi,Aq b];exact A4 some (h.at_ i _ _ (Aq hi) (Aq b)).id
 ·rw[AL (by omega),AL (by rw[<- h.len];omega)]
  rfl
theorem RdG.rrows {w:World} {b off:Nat} {vs:List RV} (h:RdG encRv w (some ⟨b,off,none⟩) vs) {i:Nat} {v:RV} (hx:vs[i]? = some v) :
  w.cell? ⟨b,off+i*6,none⟩=some (.int .u64 (v.id.toNat:Int))/\w.cell? ⟨b,off+i*6+1,none⟩=some (.int .u64 (v.tree.toNat:Int))/\w.cell? ⟨b,off+i*6+2,none⟩=some (.int .i64 v.date)/\w.cell? ⟨b,off+i*6+3,none⟩=some (.slice v.pa v.pn v.pc)/\w.cell? ⟨b,off+i*6+4,none⟩=some (.int .i64 v.gen)/\w.cell? ⟨b,off+i*6+5,none⟩=some (tx v.fb):=by
 obtain ⟨b', off', e, hlt, hc⟩ := h (by rcases Nat.lt_or_ge i vs.length with q | q
                                        · omega
                                        · rw [List.getElem?_eq_none q] at hx; cases hx)
 obtain ⟨rfl,rfl⟩:b=b'/\off=off':=by simpa using e
 have h0:=hc i v hx 0 _ rfl;have h1:=hc i v hx 1 _ rfl;have h2:=hc i v hx 2 _ rfl;have h3:=hc i v hx 3 _ rfl;have h4:=hc i v hx 4 _ rfl;have h5:=hc i v hx 5 _ rfl;exact ⟨by simpa [encRv] using h0,by simpa [encRv,Nat.add_assoc] using h1,by simpa [encRv,Nat.add_assoc] using h2,by simpa [encRv,Nat.add_assoc] using h3,by simpa [encRv,Nat.add_assoc] using h4,by simpa [encRv,Nat.add_assoc] using h5⟩
def plI(Q:List UInt64)(x:UInt64):Int:=if x∈Q then(Q.idxOf x:Int)else -1
theorem Zk6(h:x≠y):¬((x.toNat:Int)=(y.toNat:Int)):=λ e=>h (Bz.1 (by omega))
theorem Zcp{a:Option Addr}(h:RdG encRv w a vs)(C:vs.length=n)(I:n<=1000000)(x:UInt64)(r:Int)(g:plI (vs.map (·.id)) x=r):
  At Am 27 #[Aa a n c,Ab Al (x.toNat:Int)] w λ e w'=>e=Aj (Ab Ak r)/\w'=w:=by
 have H:Hid (RdG encRv w a vs/\vs.length=n/\plI (vs.map (·.id)) x=r):=⟨h,C,g⟩
 clear h C g;go_enter func27,ntmps27;go_wp2_with fail;go_loopg[5] n (λ k v wr=>wr=w/\∃i:Nat,v=Ab Ak i/\i+k=n/\Hid (¬x∈(vs.take i).map (·.id)))
 case atStart=>exact⟨rfl,0,rfl,by omega,λ q=>(by simp at q)⟩
 case round =>
  obtain⟨z,i,rfl,hi,m⟩:=hrel;subst z;by_cases t:i<n
  ·have id:(i:Int)<(n:Int):=by omega
   obtain⟨v,l⟩:∃v,vs[i]? = some v:=⟨_,Aq (by rw[H.o.2.1];exact t)⟩
   obtain⟨b,off,rfl,_⟩:=H.o.1.some_of l;obtain⟨D,_⟩:=H.o.1.rrows l
   have j:vs=vs.take i++v::vs.drop (i+1):=by
    have A:=List.take_append_drop i vs
    have p:vs.drop i=v::vs.drop (i+1):=by
     obtain⟨q,e⟩:=AC.1 l;rw[BV q,e]
    rw[p]at A;exact A.symm
   have d:(vs.take (i+1)).map (·.id)=(vs.take i).map (·.id)++[v.id]:=by rw[AO,l,BS];rfl
   obtain⟨y,s⟩:=Xa v.id
   rw[s]at D d;by_cases e:y=x
   ·have f:Hid (r=(i:Int)):=by
     show r=(i:Int);have g:=H.o.2.2;have E:i<vs.length:=(AC.1 l).1
     have F:vs.map (·.id)=(vs.take i).map (·.id)++(x::(vs.drop (i+1)).map (·.id)):=by
      have B:=A4 (List.map (·.id)) j;rw[BS,List.map_cons,s,e]at B;exact B
     have u:((vs.take i).map (·.id)).length=i:=by rw[AQ,AM];omega
     rw[<- g,F];unfold plI;rw[AE (by simp),List.idxOf_append,Aw m.o,List.idxOf_cons_self,u];simp
    subst e;clear j d l s m;go_wp2;go_ret;exact⟨by rw[f.o];rfl,rfl⟩
   ·have G:=Zk6 e
    have f:Hid (¬x∈(vs.take (i+1)).map (·.id)):=by
     show ¬_;rw[d];intro q
     rcases AK.1 q with q|q
     ·exact m.o q
     ·rw[A2]at q;exact e q.symm
    clear j d l s m;go_wp2;go_roundg (gk - 1)
    case measure=>omega
    case rel=>exact⟨rfl,i+1,by go_num,by omega,f.o⟩
  ·obtain rfl:i=n:=by omega
   have id:¬(i:Int)<(i:Int):=by omega
   have f:Hid (r = -1):=by
    have g:=H.o.2.2;have p:=m.o;rw[Av (by rw[H.o.2.1];exact Nat.le_refl _)]at p;unfold plI at g;rw[Aw p]at g;exact g.symm
   clear m;go_wp2;go_ret;exact⟨by rw[f.o];rfl,rfl⟩
theorem Zmw{a:Option Addr}{l:List UInt64}(h:RdG encU w a l)(u:l.length=n)(B:n<=1000000)(x:UInt64)(r:Bool)(g:decide (x∈l)=r):
  At Am 35 #[Aa a n c,Ab Al (x.toNat:Int)] w λ e w'=>e=Aj (.bool r)/\w'=w:=by
 have H:Hid (RdG encU w a l/\l.length=n/\decide (x∈l)=r):=⟨h,u,g⟩
 clear h u g;go_enter func35,ntmps35;go_wp2_with fail;go_loopg[5] n (λ k v wr=>wr=w/\∃i:Nat,v=Ab Ak i/\i+k=n/\Hid (¬x∈l.take i))
 case atStart=>exact⟨rfl,0,rfl,by omega,λ q=>(by simp at q)⟩
 case round =>
  obtain⟨s,i,rfl,hi,m⟩:=hrel;subst s;by_cases p:i<n
  ·have id:(i:Int)<(n:Int):=by omega
   obtain⟨y,j⟩:∃y,l[i]? = some y:=⟨_,Aq (by rw[H.o.2.1];exact p)⟩
   obtain⟨b,off,rfl,_⟩:=H.o.1.some_of j;have z:=(H.o.1.nums j).2
   have f:l.take (i+1)=l.take i++[y]:=by rw[AO,j];rfl
   by_cases e:y=x
   ·have d:Hid (r=true):=by
     have g:=H.o.2.2;rw[<- g,A5,<- e];exact AY j
    subst e;clear f j m;go_wp2;go_ret;exact⟨by rw[d.o];rfl,rfl⟩
   ·have A:=Zk6 e
    have d:Hid (¬x∈l.take (i+1)):=by
     show ¬_;rw[f];intro q
     rcases AK.1 q with q|q
     ·exact m.o q
     ·rw[A2]at q;exact e q.symm
    clear f j m;go_wp2;go_roundg (gk - 1)
    case measure=>omega
    case rel=>exact⟨rfl,i+1,by go_num,by omega,d.o⟩
  ·obtain rfl:i=n:=by omega
   have id:¬(i:Int)<(i:Int):=by omega
   have d:Hid (r=false):=by
    have g:=H.o.2.2;have t:=m.o;rw[Av (by rw[H.o.2.1];exact Nat.le_refl _)]at t;rw[<- g,Ax];exact t
   clear m;go_wp2;go_ret;exact⟨by rw[d.o];rfl,rfl⟩
def RV.wg(v:RV)(g:Int):RV:={ v with gen:=g }
def rgen(vs:List RV)(X:List Int):List RV:=List.zipWith RV.wg vs X
theorem ZdN{q:Nat}{g:Int}(h:vs[q]? = some v)(a:X[q]? = some g):(rgen vs X)[q]? = some (v.wg g):=by
 unfold rgen;rw[List.getElem?_zipWith,h,a]
theorem Zji:∀{vs:List RV} {X:List Int} {q:Nat} {v:RV} (g:Int),vs[q]? = some v->(rgen vs X).set q (v.wg g)=rgen vs (X.set q g)
 | [],_,_,_,_,h=>by simp at h
 | _::_,[],_,_,_,_=>by simp[rgen]
 | x::t,y::s,0,v,g,h=>by
  have e:x=v:=by simpa using h
  subst e;simp[rgen]
 | x::t,y::s,q+1,v,g,h=>by
  have:=Zji (vs:=t) (X:=s) g (by simpa using h:t[q]? = some v);simp only[rgen]at this;simp[rgen,this]
theorem Zhn:∀(vs:List RV),rgen vs (vs.map (·.gen))=vs
 | []=>rfl
 | v::t=>by
  have:=Zhn t;simp only[rgen]at this;simp[rgen,this,RV.wg]
theorem ZfL(h:X.length=vs.length):(rgen vs X).length=vs.length:=by simp[rgen,h]
structure XR(G X:List Int)(rk:Nat->Nat)(r i:Nat):Prop where
 len:X.length=G.length
 le:∀x∈X,0<=x/\x<=250
 eq:∀(j:Nat) (g:Int),G[j]? = some g->rk j<r∨(j<i/\rk j<=r)->X[j]? = some g
theorem XR.round(h:XR G X rk r G.length):XR G X rk (r+1) 0 :=
 ⟨h.len,h.le,λ j g a q=>h.eq j g a (.inr ⟨(AC.1 a).1,by rcases q with q|q <;> omega⟩)⟩
theorem Zqp{K:List Int}(h:∀x∈K,0<=x/\x<=250)(p:Int):0<=kat K p/\kat K p<=250:=by
 unfold kat Cf
 cases e:K[p.toNat]? with
 | none=>simp
 | some x=>exact h x (AY e)
theorem ZmE(K:List Int)(ps:List Int)(p g:Int):topG K (ps++[p]) g=max (topG K ps g) (kat K p):=by
 unfold topG;rw[List.foldl_append]
 rfl
theorem XR.step{Bg:List Int}{pss:List (List Int)}{ps:List Int}(h:XR G X rk r i)(c:Zaz Bg.length pss rk)(a:Gens Bg pss G)(hi:pss[i]? = some ps):XR G (X.set i (genF (Bg++X) ps)) rk r (i+1):=by
 have b:i<X.length:=by rw[h.len,a.len];exact(AC.1 hi).1
 refine⟨by rw[List.length_set,h.len],λ x m=>?_,λ j g f q=>?_⟩
 ·rcases List.mem_or_eq_of_mem_set m with q|q
  ·exact h.le x q
  ·rw[q];have:=Zf5 (Bg++X) ps;exact⟨by omega,ZkX _ _⟩
 ·by_cases e:i=j
  ·subst e;rw[List.getElem?_set_self b,<- f,a.eq i ps hi]
   congr 1
   refine Zbu (λ p hp=>?_);obtain⟨l,o⟩:=c.in_ ps (AY hi) p hp;by_cases d:p<(Bg.length:Int)
   ·rw[ZaV l d,ZaV l d]
   ·obtain⟨z,rfl⟩:∃z:Nat,p=((Bg.length+z:Nat):Int):=⟨p.toNat - Bg.length,by omega⟩
    have k:z<G.length:=by rw[a.len];omega
    have n:=c.lt i ps hi z hp;have:=h.eq z G[z] (Aq k) (.inl (by rcases q with q|q <;> omega));rw[ZaE,ZaE,Cf,Cf,this,Aq k]
  ·rw[List.getElem?_set_ne e];refine h.eq j g f ?_
   rcases q with q|q
   ·exact .inl q
   ·exact .inr ⟨by omega,q.2⟩
theorem XR.all(h:XR G X rk r 0)(b:∀j,j<G.length->rk j<r):X=G:=by
 refine Cu (λ j=>?_);by_cases a:j<G.length
 ·rw[h.eq j G[j] (Aq a) (.inl (b j a)),Aq a]
 ·rw[AL (by rw[h.len];omega),AL (by omega)]
theorem Zls{d:Nat}(h:OwnG encRv 106 u base (Aa (some ⟨rg,0,none⟩) d c) vs)(g:vs[i]? = some v):
  u.cell? ⟨rg,i*6+3,none⟩=some (Aa v.pa v.pn v.pc)/\u.cell? ⟨rg,i*6+4,none⟩=some (Ab Ak v.gen)/\u.frozen? ⟨rg,i*6+4,none⟩=false:=by
 obtain⟨_,_,_,a,b,_⟩:=h.rdc.1.rrows g;rw[Nat.zero_add]at a b;refine⟨a,b,?_⟩;have f:vs.length=d:=Zam h;subst f;have e:u.ownsRow base 106 6 (Aa (some ⟨rg,0,none⟩) vs.length c) vs.length (encRv.all vs):=h;exact e.frozenAt _
theorem Zou{a:Nat}(h:OwnG encRv 106 u base (Aa (some ⟨rg,0,none⟩) b a) vs)(c:vs[i]? = some v)(g:Int):
  OwnG encRv 106 (u.setCell ⟨rg,i*6+4,none⟩ (Ab Ak g)) base (Aa (some ⟨rg,0,none⟩) b a) (vs.set i (v.wg g)) :=
 OwnG.put h (i:=i) (j:=4) c (by decide) (v.wg g) (Ab Ak g) (by simp[encRv,RV.cells,RV.wg])
def PsR(w:Ap)(V:Ar)(vs:List RV)(pss:List (List Int)):Prop:=∀(i:Nat) (v:RV) (ps:List Int),vs[i]? = some v->pss[i]? = some ps->ps.length=v.pn/\v.pn<=1000000/\∀u,Zaa (λ k=>V.ownBlock=some k) w u->RdG encI u v.pa ps
def BlR(w:Ap)(V:Ar)(ba:Option Addr)(bvs:List RV):Prop:=∀u,Zaa (λ k=>V.ownBlock=some k) w u->RdG encRv u ba bvs
structure RI(w u:Ap)(base:Nat)(V:Ar)(vs:List RV)(X:List Int):Prop where
 own:OwnG encRv 106 u base V (rgen vs X)
 turn:Zaa (λ k=>V.ownBlock=some k) w u
theorem ZjR{a f bn bc:Nat}{l ba:Option Addr}{bvs:List RV}{pss:List (List Int)}
  (hB:BlR w (Aa l a f) ba bvs) (E:bvs.length=bn) (W:∀v∈bvs,0<=v.gen/\v.gen<=250) (hO:OwnG encRv 106 w base (Aa l a f) vs) (hz:∀v∈vs,v.gen=0)
  (hP:PsR w (Aa l a f) vs pss) (M:pss.length=a) (hR:Zaz bn pss rk) (hG:Gens (bvs.map (·.gen)) pss G) (hs:bn+a<=100000) :
  At Am 41 #[Aa ba bn bc,Aa l a f] w λ e w'=>e=Aj (Aa l a f)/\Hid (OwnG encRv 106 w' base (Aa l a f) (rgen vs G)/\Zaa (λ k=>(Aa l a f).ownBlock=some k) w w'):=by
 obtain⟨Bg,m⟩:=Xa (bvs.map (·.gen))
 rw[m]at hG
 have D:Bg.length=bn:=by rw[<- m,AQ];exact E
 have Z:vs.length=a:=Zam hO
 have V:G.length=a:=by rw[hG.len];exact M
 have U:∀g∈Bg,0<=g/\g<=250:=by
  intro g hg;rw[<- m]at hg;obtain⟨v,C,rfl⟩:=Bu.1 hg;exact W v C
 have H:Hid (BlR w (Aa l a f) ba bvs/\(∀g∈Bg,0<=g/\g<=250)/\PsR w (Aa l a f) vs pss/\Zaz Bg.length pss rk/\Gens Bg pss G):=⟨hB,U,hP,by rw[D];exact hR,hG⟩
 have s:Hid (bvs.map (·.gen)=Bg/\Bg.length=bn/\vs.length=a/\G.length=a/\pss.length=a/\bvs.length=bn):=⟨m,D,Z,V,M,E⟩
 have G0:Hid (∃X,RI w w base (Aa l a f) vs X/\XR G X rk 0 0):=by
  refine⟨vs.map (·.gen),⟨by rw[Zhn];exact hO,Zaa.refl _ _⟩,by rw[AQ];omega,λ x hx=>?_,λ j g hg q=>by rcases q with q|q <;> omega⟩;obtain⟨v,C,rfl⟩:=Bu.1 hx;rw[hz v C];omega
 clear hB E W hO hz hP hR hG m D Z V U M;go_enter func41,ntmps41;go_wp2_with fail;go_loopg[5] (a+1) (λ k v wr=>∃r:Nat,v=Ab Ak r/\r+k=a+1/\Hid (∃X,RI w wr base (Aa l a f) vs X/\XR G X rk r 0))
 case atStart=>exact⟨0,rfl,by omega,G0.o⟩
 case round =>
  obtain⟨r,rfl,hr,HR⟩:=hrel;clear G0;by_cases ak:r<=a
  ·have rd:(r:Int)<=(a:Int):=by omega
   obtain⟨go,I⟩:=Xb gk
   rw[<- I]at hr;have GO:Hid (go=gk):=I;clear I;go_wp2_with fail;go_loopg[6] a (λ k v wr=>∃i:Nat,v=Ab Ak i/\i+k=a/\Hid (∃X,RI w wr base (Aa l a f) vs X/\XR G X rk r i))
   case atStart=>exact⟨0,rfl,by omega,HR.o⟩
   case round =>
    obtain⟨i,rfl,hi,HI⟩:=hrel;clear HR;by_cases ah:i<a
    ·have id:(i:Int)<(a:Int):=by omega
     have an:(0:Int)<=(i:Int):=by omega
     obtain⟨gi,F⟩:=Xb gk
     rw[<- F]at hi;have GI:Hid (gi=gk):=F;clear F;obtain⟨X,Q,hX⟩:=HI.o;obtain⟨l1,l2,l3,l4,l5,l6⟩:=s.o
     obtain⟨v,C⟩:∃v,vs[i]? = some v:=⟨_,Aq (by omega)⟩
     obtain⟨ps,B⟩:∃ps,pss[i]? = some ps:=⟨_,Aq (by omega)⟩
     obtain⟨x,hx⟩:∃x,X[i]? = some x:=⟨_,Aq (by rw[hX.len];omega)⟩
     obtain⟨ao,cap,e,o1,o2,o3,o4⟩:=Q.own.form;rw[ZfL (by rw[hX.len];omega),l3]at e o4;cases e;obtain⟨g,rfl⟩:=o4 (by omega);obtain⟨r3,r4,f4⟩:=Zls Q.own (ZdN C hx);obtain⟨p1,p2,p3⟩:=H.o.2.2.1 i v ps C B
     obtain⟨pa,L⟩:=Xa v.pa
     obtain⟨pn,N⟩:=Xa v.pn
     obtain⟨pc,Y⟩:=Xa v.pc
     have aq:wr.cell? ⟨g,i*6+3,none⟩=some (Aa pa pn pc):=by rw[<- L,<- N,<- Y];exact r3
     have ar:wr.cell? ⟨g,i*6+4,none⟩=some (Ab Ak x):=r4;rw[L]at p3;rw[N]at p1 p2;have O:=H.o.2.2.2.1.in_ ps (AY B);rw[l2,l5]at O
     have d:Hid (RI w wr base (Aa (some ⟨g,0,none⟩) a f) vs X/\XR G X rk r i/\vs[i]? = some v/\pss[i]? = some ps/\X[i]? = some x/\ps.length=pn/\pn<=1000000/\RdG encI wr pa ps/\(∀p∈ps,0<=p/\p<((bn+a:Nat):Int))/\RdG encRv wr ba bvs):=⟨Q,hX,C,B,hx,p1,p2,p3 wr Q.turn,O,H.o.1 wr Q.turn⟩
     clear HI Q hX C B hx o1 o2 o3 o4 r3 r4 p1 p2 p3 L N Y O l1 l2 l3 l4 l5 l6;go_wp2_with fail;go_loopg[7,8] pn (λ k mv v wc=>wc=wr/\∃(q:Nat) (t:Int),v=Ab Ak q/\mv=Ab Ak t/\q+k=pn/\0<=t/\t<=250/\Hid (t=topG (Bg++X) (ps.take q) 0))
     case atStart=>exact⟨rfl,0,0,rfl,rfl,by omega,by omega,by omega,rfl⟩
     case round =>
      obtain⟨af,q,t,rfl,rfl,hq,al,am,HT⟩:=hrel;subst af;have ai:=d.o.2.2.2.2.2.2.1;by_cases ad:q<pn
      ·have qd:(q:Int)<(pn:Int):=by omega
       have ap:(0:Int)<=(q:Int):=by omega
       obtain⟨p,hp⟩:∃p,ps[q]? = some p:=⟨_,Aq (by rw[d.o.2.2.2.2.2.1];exact ad)⟩
       obtain⟨pb,aj,rfl,_⟩:=d.o.2.2.2.2.2.2.2.1.some_of hp;have cp:=d.o.2.2.2.2.2.2.2.1.ints hp;obtain⟨p0,p1⟩:=d.o.2.2.2.2.2.2.2.2.1 p (AY hp)
       obtain⟨h,rfl⟩:∃h:Nat,p=(h:Int):=⟨p.toNat,by omega⟩
       have n:ps.take (q+1)=ps.take q++[(h:Int)]:=by rw[AO,hp];rfl
       have ab:=Zqp (K:=Bg++X) (λ y R=>by
        rcases AK.1 R with z|z
        ·exact H.o.2.1 y z
        ·exact d.o.2.1.le y z) (h:Int)
       obtain⟨y,R⟩:=Xa (kat (Bg++X) (h:Int))
       have HY:Hid (topG (Bg++X) (ps.take (q+1)) 0=max t y):=by
        show _=_;rw[n,ZmE,<- HT.o,R]
       have HB:Hid (kat (Bg++X) (h:Int)=y/\ps[q]? = some (h:Int)):=⟨R,hp⟩
       rw[R]at ab;clear n hp R;by_cases ac:h<bn
       ·have pd:(h:Int)<(bn:Int):=by omega
        obtain⟨bv,A⟩:∃bv,bvs[h]? = some bv:=⟨_,Aq (by rw[s.o.2.2.2.2.2];exact ac)⟩
        obtain⟨bb,ag,rfl,_⟩:=d.o.2.2.2.2.2.2.2.2.2.some_of A;obtain⟨_,_,_,_,cb,_⟩:=d.o.2.2.2.2.2.2.2.2.2.rrows A
        have S:bv.gen=y:=by
         rw[<- HB.o.1,ZaV (by omega) (by rw[s.o.2.1];exact pd)];unfold kat Cf;rw[show((h:Nat):Int).toNat=h by omega,<- s.o.1,Bc,A]
         rfl
        rw[S]at cb;clear S A;by_cases ae:t<y
        ·have c:Hid (y=topG (Bg++X) (ps.take (q+1)) 0):=by show _=_;rw[HY.o];omega
         go_wp2;go_roundg (gk - 1)
         case measure=>omega
         case rel=>exact⟨rfl,q+1,y,by go_num,rfl,by omega,by omega,by omega,c.o⟩
        ·have c:Hid (t=topG (Bg++X) (ps.take (q+1)) 0):=by show _=_;rw[HY.o];omega
         go_wp2;go_roundg (gk - 1)
         case measure=>omega
         case rel=>exact⟨rfl,q+1,t,by go_num,rfl,by omega,by omega,by omega,c.o⟩
       ·have pd:¬(h:Int)<(bn:Int):=by omega
        obtain⟨z,hz⟩:=Xa (h - bn)
        have e1:Ak.wrap ((h:Int) - (bn:Int))=(z:Int):=by rw[Au];omega
        have zd:(z:Int)<(a:Int):=by omega
        have au:(0:Int)<=(z:Int):=by omega
        obtain⟨l1,l2,l3,l4,l5,l6⟩:=s.o
        obtain⟨zv,aa⟩:∃zv,vs[z]? = some zv:=⟨_,Aq (by omega)⟩
        obtain⟨zx,P⟩:∃zx,X[z]? = some zx:=⟨_,Aq (by rw[d.o.2.1.len];omega)⟩
        have cz:wr.cell? ⟨g,z*6+4,none⟩=some (Ab Ak zx):=(Zls d.o.1.own (ZdN aa P)).2.1
        have S:zx=y:=by
         rw[<- HB.o.1,show((h:Nat):Int)=((Bg.length+z:Nat):Int) by omega,ZaE,Cf,P]
         rfl
        rw[S]at cz;clear S aa P l1 l2 l3 l4 l5 l6 hz;by_cases ae:t<y
        ·have c:Hid (y=topG (Bg++X) (ps.take (q+1)) 0):=by show _=_;rw[HY.o];omega
         go_wp2;go_roundg (gk - 1)
         case measure=>omega
         case rel=>exact⟨rfl,q+1,y,by go_num,rfl,by omega,by omega,by omega,c.o⟩
        ·have c:Hid (t=topG (Bg++X) (ps.take (q+1)) 0):=by show _=_;rw[HY.o];omega
         go_wp2;go_roundg (gk - 1)
         case measure=>omega
         case rel=>exact⟨rfl,q+1,t,by go_num,rfl,by omega,by omega,by omega,c.o⟩
      ·obtain rfl:q=pn:=by omega
       have qd:¬(q:Int)<(q:Int):=by omega
       have n:ps.take q=ps:=Av (by rw[d.o.2.2.2.2.2.1];exact Nat.le_refl _);rw[n]at HT
       obtain⟨u,J⟩:=Xa (genF (Bg++X) ps)
       have eg:u=min t 249+1:=by
        rw[<- J];unfold genF;rw[<- HT.o]
       have c:Hid (∃X,RI w (wr.setCell ⟨g,i*6+4,none⟩ (Ab Ak u)) base (Aa (some ⟨g,0,none⟩) a f) vs X/\XR G X rk r (i+1)):=by
        refine⟨X.set i u,⟨?_,d.o.1.turn.trans (Zad (b:=g) _ _) (λ k _ e=>by have e':k=g:=e;rw[e'];rfl)⟩,by rw[<- J];exact d.o.2.1.step H.o.2.2.2.1 H.o.2.2.2.2 d.o.2.2.2.1⟩;have:=Zou d.o.1.own (ZdN d.o.2.2.1 d.o.2.2.2.2.1) u;have e:(v.wg x).wg u=v.wg u:=rfl;rw[e,Zji u d.o.2.2.1]at this;exact this
       clear n HT J;by_cases ht:t<250
       ·have e2:u=t+1:=by omega
        have e3:Ak.wrap (t+1)=t+1:=by rw[Au];omega
        subst e2;clear eg;go_wp2;go_roundg (gi - 1)
        case measure=>have:=GI.o;omega
        case rel=>exact⟨i+1,by go_num,by omega,c.o⟩
       ·have e2:u=t:=by omega
        subst e2;clear eg;go_wp2;go_roundg (gi - 1)
        case measure=>have:=GI.o;omega
        case rel=>exact⟨i+1,by go_num,by omega,c.o⟩
    ·obtain rfl:i=a:=by omega
     have id:¬(i:Int)<(i:Int):=by omega
     have c:Hid (∃X,RI w wr base (Aa l i f) vs X/\XR G X rk (r+1) 0):=by
      obtain⟨X,T,h2⟩:=HI.o;have h3:=h2;rw[<- s.o.2.2.2.1]at h3;exact⟨X,T,h3.round⟩
     clear HI;go_wp2;go_roundg (go - 1)
     case measure=>have:=GO.o;omega
     case rel=>exact⟨r+1,by go_num,by omega,c.o⟩
  ·have rd:¬(r:Int)<=(a:Int):=by omega
   have c:Hid (OwnG encRv 106 wr base (Aa l a f) (rgen vs G)/\Zaa (λ k=>(Aa l a f).ownBlock=some k) w wr):=by
    obtain⟨X,T,h2⟩:=HR.o
    have e:=h2.all (λ j hj=>by
     have:=H.o.2.2.2.1.le j (by rw[s.o.2.2.2.2.1,<- s.o.2.2.2.1];exact hj);rw[s.o.2.2.2.2.1]at this
     omega)
    rw[e]at T;exact⟨T.own,T.turn⟩
   clear HR;go_wp2;go_ret;exact⟨rfl,c.o⟩
def Half(s:Bs)(l:List Bs)(i:Nat)(done:Bool)(out:List Bs):Prop :=
 if done then out++l.drop i=insB s l else out=l.take i/\insB s l=l.take i++insB s (l.drop i)
theorem Zij(h:i<l.length):l.drop i=el l i::l.drop (i+1):=by
 rw[BV h,Za9 h]
theorem Half.start(s:Bs)(l:List Bs):Half s l 0 false []:=by simp[Half]
theorem Half.lt(h:Half s l i false out)(hi:i<l.length)(c:s<el l i):Half s l (i+1) true (out++[s]++[el l i]):=by
 obtain⟨a,b⟩:=(by simpa[Half]using h:out=l.take i/\insB s l=l.take i++insB s (l.drop i))
 show out++[s]++[el l i]++l.drop (i+1)=insB s l;rw[b,Zij hi,insB,AE c,a];simp
theorem Half.ge(h:Half s l i false out)(hi:i<l.length)(c:¬s<el l i):Half s l (i+1) false (out++[el l i]):=by
 obtain⟨a,b⟩:=(by simpa[Half]using h:out=l.take i/\insB s l=l.take i++insB s (l.drop i))
 have e:l.take (i+1)=l.take i++[el l i]:=by rw[Be hi,Za9 hi]
 have:out++[el l i]=l.take (i+1)/\insB s l=l.take (i+1)++insB s (l.drop (i+1)):=by
  refine⟨by rw[e,a],?_⟩;rw[b,Zij hi,insB,Aw c,e];simp
 simpa[Half]using this
theorem Half.past(h:Half s l i true out)(hi:i<l.length):Half s l (i+1) true (out++[el l i]):=by
 have a:out++l.drop i=insB s l:=h;show out++[el l i]++l.drop (i+1)=insB s l;rw[<- a,Zij hi];simp
theorem Half.stop{done:Bool}(h:Half s l i done out)(hi:l.length<=i):insB s l=if done then out else out++[s]:=by
 cases done with
 | true =>
  have a:out++l.drop i=insB s l:=h;rw[Ea hi,List.append_nil]at a;exact a.symm
 | false =>
  obtain⟨a,b⟩:=(by simpa[Half]using h:out=l.take i/\insB s l=l.take i++insB s (l.drop i))
  rw[b,Ea hi,<- a]
  rfl
theorem Half.len{done:Bool}(h:Half s l i done out):out.length<=l.length+1:=by
 cases done with
 | true =>
  have a:out++l.drop i=insB s l:=h
  have:∀l:List Bs,(insB s l).length=l.length+1:=by
   intro l
   induction l with
   | nil=>rfl
   | cons x t c=>by_cases h:s<x <;> simp[insB,h,c]
  have b:=A4 List.length a;rw[this,List.length_append]at b;omega
 | false =>
  obtain⟨a,_⟩:=(by simpa[Half]using h:out=l.take i/\insB s l=l.take i++insB s (l.drop i))
  rw[a,AM];omega
theorem Znn(s:Bs)(w:Ap)(y:Rd w ao l)(A:l.length=n)(M:n<=1000000)(G:l.any (·==s)=false):
  At Am 157 #[Aa ao n c,Ae ⟨s.toArray⟩] w λ e w'=>∃v',e=Aj v'/\Own w' w.heap.size v' (insB s l)/\Below w.heap.size w w':=by
 have I:=Zjr (c:=c) s w y A (by omega) false G
 have H:Hid (Rd w ao l/\l.length=n):=⟨y,A⟩
 clear y A G;go_enter func157,ntmps157;go_wp2_with fail;refine I.mono ?_;rintro e w' ⟨rfl,rfl⟩;clear I;go_wp2_with fail;go_loopg[5,6,7] n (λ k K dv v wr=>∃(i:Nat) (done:Bool) (out:List Bs),v=Ab Ak i/\dv=.bool done/\i+k=n/\Hid (Half s l i done out/\Own wr w'.heap.size K out/\Below w'.heap.size w' wr))
 case atStart=>exact⟨0,false,[],rfl,rfl,by omega,Half.start s l,Own.nil _ _,Below.refl _ _⟩
 case round =>
  obtain⟨i,done,out,rfl,rfl,hi,f⟩:=hrel;have B:=f.o.1.len;rw[H.o.2]at B;by_cases z:i<n
  ·have id:(i:Int)<(n:Int):=by omega
   obtain⟨x,D⟩:=Xa (el l i)
   obtain⟨b,off,rfl,m,F⟩:=H.o.1 (by rw[H.o.2];omega);have r:=F i (by rw[H.o.2];omega);rw[D]at r;have C:Hid (w'.cell? ⟨b,off+i,none⟩=some (Ae ⟨x.toArray⟩)):=r
   have X:Hid (el l i=x/\i<l.length):=⟨D,by rw[H.o.2];exact z⟩
   have J:wr.cell? ⟨b,off+i,none⟩=some (Ae ⟨x.toArray⟩):=(f.o.2.2.cell m).trans r;clear F r D
   cases done with
   | true =>
    go_wp2_with(at_builtin;refine ZaZ rfl (.tmp 32) (.tmp 37) rfl w'.heap.size _ out x _ rfl f.o.2.1 rfl (by omega) f.o.2.2.size ?_;intro v' j d a);go_roundg (gk - 1)
    case measure=>omega
    case rel=>exact⟨i+1,true,out++[x],by go_num,rfl,by omega,by rw[<- X.o.1];exact f.o.1.past X.o.2,d,f.o.2.2.trans a⟩
   | false =>
    cases q:Op.bytesLess s x with
    | true =>
     have u:Hid (s<x):=by show s<x;have:=bytesLess_eq s x;rw[q]at this;simpa using this.symm
     go_wp2_with(first
      | (at_builtin;refine ZaZ rfl (.tmp 28) (.tmp 30) rfl w'.heap.size _ out s _ rfl f.o.2.1 rfl (by omega) f.o.2.2.size ?_;intro v' j d a;have L:j.cell? ⟨b,off+i,none⟩=some (Ae ⟨x.toArray⟩):=(a.cell m).trans J;have t:Hid (Own j w'.heap.size v' (out++[s])/\Below w'.heap.size w' j):=⟨d,f.o.2.2.trans a⟩;clear d a)
      | (at_builtin;refine ZaZ rfl (.tmp 32) (.tmp 37) rfl w'.heap.size _ (out++[s]) x _ rfl t.o.1 rfl (by simp;omega) t.o.2.size ?_;intro v5 N h g))
     go_roundg (gk - 1)
     case measure=>omega
     case rel=>exact⟨i+1,true,out++[s]++[x],by go_num,rfl,by omega,by rw[<- X.o.1];exact f.o.1.lt X.o.2 (by rw[X.o.1];exact u.o),h,t.o.2.trans g⟩
    | false =>
     have u:Hid (¬s<x):=by show ¬s<x;have:=bytesLess_eq s x;rw[q]at this;simpa using this.symm
     go_wp2_with(at_builtin;refine ZaZ rfl (.tmp 32) (.tmp 37) rfl w'.heap.size _ out x _ rfl f.o.2.1 rfl (by omega) f.o.2.2.size ?_;intro v' j d a);go_roundg (gk - 1)
     case measure=>omega
     case rel=>exact⟨i+1,false,out++[x],by go_num,rfl,by omega,by rw[<- X.o.1];exact f.o.1.ge X.o.2 (by rw[X.o.1];exact u.o),d,f.o.2.2.trans a⟩
  ·obtain rfl:i=n:=by omega
   have p:=f.o.1.stop (by rw[H.o.2];omega);have E:Hid _:=p;clear p
   cases done with
   | true =>
    go_wp2;go_ret;exact⟨_,rfl,by rw[E.o];exact f.o.2.1,f.o.2.2⟩
   | false =>
    go_wp2_with(at_builtin;refine ZaZ rfl (.tmp 41) (.tmp 43) rfl w'.heap.size _ out s _ rfl f.o.2.1 rfl (by omega) f.o.2.2.size ?_;intro v' j d a);go_ret;exact⟨_,rfl,by rw[E.o];exact d,f.o.2.2.trans a⟩
theorem Znw(s:Bs)(w:Ap)(a:Rd w ao l)(f:l.length=n)(g:n<=1000000)(b:l.any (·==s)=true):
  At Am 157 #[Aa ao n c,Ae ⟨s.toArray⟩] w λ e w'=>e=Aj (Aa ao n c)/\w'=w:=by
 have d:=Zjr (c:=c) s w a f (by omega) true b;clear a f b;go_enter func157,ntmps157;go_wp2_with fail;refine d.mono ?_;rintro e w' ⟨rfl,rfl⟩;clear d;go_wp2;go_ret;exact⟨rfl,rfl⟩
theorem ZdF(s:Bs)(w:Ap)(d:Rd w ao l)(f:l.length=n)(g:n<=1000000):
  At Am 157 #[Aa ao n c,Ae ⟨s.toArray⟩] w λ e w'=>∃a c',e=Aj (Aa a (withB l s).length c')/\Rd w' a (withB l s)/\Below w.heap.size w w':=by
 cases b:l.any (·==s)with
 | true =>
  refine(Znw s w d f g b).mono ?_;rintro e w' ⟨rfl,rfl⟩;rw[withB,AE b,f];exact⟨_,_,rfl,d,Below.refl _ _⟩
 | false =>
  refine(Znn s w d f g b).mono ?_;rintro e w' ⟨v',rfl,i,h⟩;obtain⟨a,cap,rfl,_,_,R⟩:=i.form;rw[withB,Aw (by rw[b];decide)];exact⟨_,_,rfl,R,h⟩
end Go.Proofs.YtlojblelpaegpaaGreat
