/-
  Several texts, laid together.
-/
import Derived.Test.YtlojblelpaegpaaGreatM36
set_option maxHeartbeats 6400000
set_option maxRecDepth 100000
open List renaming append_assoc->A9,length_append->AD,take_of_length_le->Av,map_append->BS,length_take_le->CH,length_map->AQ
open Go renaming World->Ap,Calls->At,Value->Ar
open Go.RowKit renaming Below->An
open Go.RowKit.Below renaming refl->Ao
open Go.World renaming new_ne->Gr,cell?->BC
open Go.Value renaming slice->Aa,int->Ab,bool->Ad,string->Ae
open Go.Ending renaming returned->Aj
open Go.IntKind renaming i64->Ak,u64->Al
open Go.Proofs.Tryz renaming prog->Am
open Go.Proofs.Tryz
namespace Go.Proofs.YtlojblelpaegpaaGreat
open Go.RowKit
variable{A B:List En}{a:List Bs}{ao bo oa:Option Addr}{c i m n oc on:Nat}{d:Dk}{st:St}{vf vr vt:Ar}
def cums(s:Bs):List Bs->List Bs
 | []=>[]
 | n::t=>(s++n)::cums (s++n++[47]) t
def prefs(q:Bs):Bs->List Bs
 | []=>[q]
 | b::t=>if b=47 then q::prefs (q++[47]) t else prefs (q++[b]) t
theorem ZcT:∀(p q:Bs),cums q (names p)=prefs q p
 | [],q=>by simp[names,cums,prefs]
 | b::t,q=>by
  by_cases h:b=47
  ·simp[names,cums,prefs,h,ZcT t]
  ·have c:=ZcT t (q++[b])
   cases a:names t with
   | nil=>exact absurd a (ZcS t)
   | cons x y =>
    rw[a]at c;simp only[cums,A9,List.cons_append,List.nil_append]at c;simp[names,cums,prefs,h,a,<- c]
theorem Zhz:∀(t a:Bs),pre (a++t) a.length++prefs a t=pre (a++t) (a++t).length++[a++t]
 | [],a=>by simp[prefs]
 | b::t,a=>by
  have c:=Zhz t (a++[b])
  have e:a++[b]++t=a++b::t:=by simp
  rw[e]at c;rw[<- c,AD,List.length_singleton];by_cases h:b=47
  ·subst h;simp[prefs,pre]
  ·simp[prefs,pre,h]
theorem Zkg(p:Bs):pre p p.length++[p]=cums [] (names p):=by
 have:=Zhz p [];rw[ZcT];simpa[pre]using this.symm
def Made(ns:List Bs)(i:Nat)(s:Bs)(out:List Bs):Prop:=out++cums (if i=0 then[]else s++[47]) (ns.drop i)=cums [] ns/\(i=0->s=[])/\out.length=i
theorem Made.step{s:Bs}{out:List Bs}(h:Made a i s out)(hi:i<a.length):
  Made a (i+1) ((if i=0 then s else s++[47])++el a i) (out++[(if i=0 then s else s++[47])++el a i]):=by
 obtain⟨c,d,f⟩:=h
 have e:(if i=0 then([]:Bs)else s++[47])=(if i=0 then s else s++[47]):=by
  by_cases b:i=0
  ·simp[b,d b]
  ·simp[b]
 refine⟨?_,by omega,by simp[f]⟩
 have hd:a.drop i=el a i::a.drop (i+1):=by rw[List.drop_eq_getElem_cons hi,Za9 hi]
 rw[hd,e]at c;rw[<- c];simp[cums]
theorem ZhH(s:ByteArray)(w:Ap)(hp:isPath s.data.toList=true):
  At Am 156 #[Ae s] w λ e w'=>∃v',e=Aj v'/\Own w' w.heap.size v' (parts s.data.toList)/\An w.heap.size w w':=by
 have E:Hid (s.size=s.data.toList.length):=bsize s
 have h:s.size<=102:=by rw[E.o];exact Zdw hp
 have p:=Zh0 s w;rw[hp]at p
 obtain⟨d,g⟩:=Xa (names s.data.toList)
 have J:=λ w=>ZeS s h w
 have B:parts s.data.toList=cums [] d:=by rw[parts,hp,AE rfl,Zkg,g]
 have C:∀x∈d,x.length<=102:=by
  intro x T;rw[<- g]at T;have:=Zc0 T;rw[<- E.o]at this;omega
 have A:=ZeC s.data.toList;rw[g,<- E.o]at A;rw[g]at J
 have P:Hid (parts s.data.toList=cums [] d/\∀x∈d,x.length<=102):=⟨B,C⟩
 clear B C g hp;go_enter func156,ntmps156;go_wp2_with fail;refine p.mono ?_;rintro e w0 ⟨rfl,t⟩;have L:Hid (An w.heap.size w w0):=t;clear t;go_wp2_with fail;refine(J _).mono ?_;rintro e w1 ⟨v1,rfl,S,O⟩;obtain⟨ao,cap,rfl,_,_,R⟩:=S.form
 obtain⟨n,q⟩:=Xa d.length
 have G:Hid (Rd w1 ao d/\d.length=n/\An w.heap.size w w1):=⟨R,q,L.o.trans (O.mono L.o.size)⟩
 rw[q]at A ⊢;clear S O R J q p;go_wp2_with fail;go_loopg[3,5,6] n (λ k ov sv v wr=>∃(i:Nat) (c:ByteArray) (out:List Bs),v=Ab Ak i/\sv=Ae c/\i+k=n/\c.size<=i*103/\Hid (Made d i c.data.toList out/\Own wr w1.heap.size ov out/\An w1.heap.size w1 wr))
 case atStart=>exact⟨0,_,[],rfl,rfl,by omega,by decide,⟨by simp,by simp,rfl⟩,Own.nil _ _,Ao _ _⟩
 case round =>
  obtain⟨i,c,out,rfl,rfl,hi,Y,f⟩:=hrel;by_cases z:i<n
  ·have id:(i:Int)<(n:Int):=by omega
   have W:out.length=i:=f.o.1.2.2
   obtain⟨b1,Z,rfl,Q,u⟩:=(G.o.1.below f.o.2.2) (by rw[G.o.2.1];omega)
   obtain⟨y,H⟩:=Xa (el d i)
   have I:=u i (by rw[G.o.2.1];omega);rw[H]at I
   have K:y.length<=102:=by rw[<- H];exact P.o.2 _ (Zcj (by rw[G.o.2.1];exact z))
   obtain⟨j,l⟩:∃j:ByteArray,(⟨y.toArray⟩:ByteArray)=j:=⟨_,rfl⟩
   have U:j.size<=102:=by rw[<- l,bsize];exact K
   rw[l]at I;have r:=f.o.1.step (by rw[G.o.2.1];exact z);rw[H]at r
   have X:Hid (j.data.toList=y/\Made d (i+1) ((if i=0 then c.data.toList else c.data.toList++[47])++y) (out++[(if i=0 then c.data.toList else c.data.toList++[47])++y])):=⟨by rw[<- l],r⟩
   clear u H r l;by_cases N:i=0
   ·subst N;have c0:wr.cell? ⟨b1,Z,none⟩=some (Ae j):=I;go_wp2_with(at_builtin;generalize D:c++j=zb;refine ZaZ rfl (.tmp 29) (.tmp 31) rfl w1.heap.size _ out zb.data.toList _ rfl f.o.2.1 rfl (by omega) f.o.2.2.size ?_;intro v' w4 b a);go_roundg (gk - 1)
    case measure=>omega
    case rel =>
     have M:Made d 1 (c.data.toList++y) (out++[c.data.toList++y]):=X.o.2;rw[<- X.o.1,<- ZfT,D]at M;exact⟨1,zb,_,by go_num,rfl,by omega,by rw[<- D,Zba];omega,M,b,f.o.2.2.trans a⟩
   ·have V:(0:Int)<i:=by omega
    go_wp2_with(at_builtin;generalize D:c++⟨#[47]⟩++j=zb;refine ZaZ rfl (.tmp 29) (.tmp 31) rfl w1.heap.size _ out zb.data.toList _ rfl f.o.2.1 rfl (by omega) f.o.2.2.size ?_;intro v' w4 b a);go_roundg (gk - 1)
    case measure=>omega
    case rel =>
     have M:=X.o.2;rw[Aw N,<- X.o.1]at M
     have e:c.data.toList++[47]++j.data.toList=(c++⟨#[47]⟩++j).data.toList:=by rw[ZfT,ZfT]
     rw[e,D]at M;exact⟨i+1,zb,_,by go_num,rfl,by omega,by rw[<- D,Zba,Zba];show c.size+1+j.size<=_;omega,M,b,f.o.2.2.trans a⟩
  ·obtain rfl:i=n:=by omega
   have m:out=cums [] d:=by
    have:=f.o.1.1;rw[List.drop_eq_nil_of_le (by rw[G.o.2.1];omega),cums,List.append_nil]at this;exact this
   have F:Hid (out=cums [] d):=m;clear m;go_wp2;go_ret;refine⟨_,rfl,?_,G.o.2.2.trans (f.o.2.2.mono G.o.2.2.size)⟩;rw[P.o.1,<- F.o];exact Zik f.o.2.1 G.o.2.2.size
theorem ZjC(s:ByteArray)(w:Ap):
  At Am 156 #[Ae s] w λ e w'=>∃v',e=Aj v'/\Own w' w.heap.size v' (parts s.data.toList)/\An w.heap.size w w':=by
 cases hp:isPath s.data.toList with
 | true=>exact ZhH s w hp
 | false =>
  have a:=Zh0 s w;rw[hp]at a
  have hq:parts s.data.toList=[]:=by rw[parts,hp];rfl
  rw[hq];clear hp hq;go_enter func156,ntmps156;go_wp2_with fail;refine a.mono ?_;rintro e w0 ⟨rfl,b⟩;go_wp2;go_ret;exact⟨_,rfl,Own.nil _ _,b⟩
theorem Zgi(p d:Bs)(f:Bool)(a:under p d=f)(w:Ap):
  At Am 184 #[Ae ⟨p.toArray⟩,Ae ⟨d.toArray⟩] w λ e w'=>e=Aj (Ad f)/\w'=w:=by
 subst a;exact Ze7 ⟨p.toArray⟩ ⟨d.toArray⟩ w
theorem ZpE(x:Bs)(w:Ap)(u:Rd w ao a)(z:a.length=n)(C:n<=4000000000000000000)(f:Bool)(l:hasS a x=f):
  At Am 162 #[Aa ao n c,Ae ⟨x.toArray⟩] w λ e w'=>e=Aj (Ad f)/\An w.heap.size w w':=by
 have H:Hid (Rd w ao a/\a.length=n/\hasS a x=f):=⟨u,z,l⟩
 clear u z l
 cases hp:isPath x with
 | false =>
  have g:=Zl6 x false hp
  have l:f=false:=by rw[<- H.o.2.2,hasS,hp];rfl
  subst l;go_enter func162,ntmps162;go_wp2_with fail;refine(g _).mono ?_;rintro e w1 ⟨rfl,d⟩;go_wp2;go_ret;exact⟨rfl,d⟩
 | true =>
  have g:=Zl6 x true hp
  have F:Hid (f=(a.isEmpty||a.any (under x))):=by show f=_;rw[<- H.o.2.2,hasS,hp];rfl
  clear hp;go_enter func162,ntmps162;go_wp2_with fail;refine(g _).mono ?_;rintro e w1 ⟨rfl,d⟩;have q:Hid (An w.heap.size w w1):=d;clear d;go_wp2_with fail;go_loopg[5] n (λ k v wr=>∃(i:Nat),v=Ab Ak i/\i+k=n/\wr=w1/\Hid ((a.take i).any (under x)=false))
  case atStart=>exact⟨0,rfl,by omega,rfl,rfl⟩
  case round =>
   obtain⟨i,rfl,hi,rfl,t⟩:=hrel;by_cases j:i<n
   ·have id:(i:Int)<(n:Int):=by omega
    obtain⟨b1,D,rfl,A,h⟩:=(H.o.1.below q.o) (by rw[H.o.2.1];omega)
    obtain⟨y,s⟩:=Xa (el a i)
    have B:=h i (by rw[H.o.2.1];omega);rw[s]at B;have X:Hid (el a i=y):=s;clear h s
    cases m:under x y with
    | true =>
     have r:=Zgi x y true m;go_wp2_with fail;refine(r _).mono ?_;rintro e w' ⟨rfl,rfl⟩;go_wp2;go_ret;refine⟨?_,q.o⟩;rw[F.o,Zic (p:=under x) (i:=i) (by rw[H.o.2.1];exact j) (by rw[X.o];exact m),Bool.or_true]
     rfl
    | false =>
     have r:=Zgi x y false m;go_wp2_with fail;refine(r _).mono ?_;rintro e w' ⟨rfl,rfl⟩;go_wp2;go_roundg (gk - 1)
     case measure=>omega
     case rel=>exact⟨i+1,by go_num,by omega,rfl,ZfS (p:=under x) (by rw[H.o.2.1];exact j) t.o (by rw[X.o];exact m)⟩
   ·obtain rfl:i=n:=by omega
    have e:=t.o;rw[Av (by rw[H.o.2.1];omega)]at e
    have F2:Hid (f=decide (i=0)):=by
     show f=_;rw[F.o,e,Bool.or_false,<- H.o.2.1]
     cases a <;> simp
    clear e;go_wp2;go_ret;refine⟨A4 (λ b=>Aj (Ad b)) ?_,q.o⟩;rw[F2.o,Bool.eq_iff_iff];simp
    try omega
theorem Tryz.info196:(Am.info? 196).map (λ i=>(i.zero,i.size,i.bytes))=some (some (.agg #[Ae ⟨#[]⟩,Ab Al 0,Ab Al 0]),3,32):=by kernel_rfl
theorem ZdP(l:List Bs)(s:Bs):srt (l++[s])=withB (srt l) s:=by
 rw[srt,List.foldl_append]
 rfl
def Zaw(A:List En):List Bs:=A.map (·.1)
theorem Zg8{e:En}(h:A[i]? = some e):Zaw (A.take (i+1))=Zaw (A.take i)++[e.1]:=by
 unfold Zaw;rw[ZbE h,BS]
 rfl
theorem ZdM(A:List En):(Zaw A).length=A.length:=by unfold Zaw;simp
theorem ZjL{d:Nat}(w:Ap)(Q:RdG encE w ao A)(R:RdG encE w bo B)(T:A.length=n)(S:B.length=m)(Z:n<=100000)(Y:m<=100000):
  At Am 160 #[Aa ao n c,Aa bo m d] w λ e w'=>∃E c',e=Aj (Aa E (bothP A B).length c')/\Rd w' E (bothP A B)/\An w.heap.size w w':=by
 have H:Hid (RdG encE w ao A/\RdG encE w bo B/\A.length=n/\B.length=m):=⟨Q,R,T,S⟩
 clear Q R T S;go_enter func160,ntmps160;go_wp2_with fail;go_loopg[5,6] n (λ k K v wr=>∃(i:Nat) (r:Option Addr) (p ac:Nat),v=Ab Ak i/\K=Aa r p ac/\i+k=n/\Hid ((srt (Zaw (A.take i))).length=p/\Rd wr r (srt (Zaw (A.take i)))/\An w.heap.size w wr))
 case atStart=>exact⟨0,none,0,0,rfl,rfl,by omega,rfl,Rd.nil _ _,Ao _ _⟩
 case round =>
  obtain⟨i,r,p,ac,rfl,rfl,hi,l⟩:=hrel;by_cases O:i<n
  ·have id:(i:Int)<(n:Int):=by omega
   obtain⟨e,q⟩:=Zaf H.o.2.2.1 O;obtain⟨b,off,rfl,t⟩:=H.o.1.some_of q;obtain⟨_,L,M⟩:=(H.o.1.below l.o.2.2).ents q;have a:=Zg8 q;obtain⟨x,o⟩:=e;simp only at L M a
   have N:p<=100000:=by
    rw[<- l.o.1];have F:=Zcr (Zaw (A.take i));have U:=CH i A;rw[ZdM]at F;omega
   have f:=ZdF (c:=ac) x wr l.o.2.1 l.o.1 (by omega);rw[<- ZdP,<- a]at f;clear q a t;go_wp2_with fail;refine f.mono ?_;rintro e G ⟨g,s,rfl,z,u⟩
   have y:Hid (Rd G g (srt (Zaw (A.take (i+1))))/\An w.heap.size w G):=⟨z,l.o.2.2.trans (u.mono l.o.2.2.size)⟩
   clear z u f;go_wp2;go_roundg (gk - 1)
   case measure=>omega
   case rel=>exact⟨i+1,g,_,s,by go_num,rfl,by omega,rfl,y.o.1,y.o.2⟩
  ·obtain rfl:i=n:=by omega
   have e:A.take i=A:=Av (by rw[H.o.2.2.1];omega);rw[e]at l
   have V:Hid ((Zaw A).length=i):=by show _=_;rw[ZdM];exact H.o.2.2.1
   have I:Hid ((srt (Zaw A++Zaw (B.take 0))).length=p/\Rd wr r (srt (Zaw A++Zaw (B.take 0)))/\An w.heap.size w wr):=by
    have:Zaw A++Zaw (B.take 0)=Zaw A:=by simp[Zaw]
    rw[this];exact l
   clear e l;go_wp2_with fail;go_loopg[5,7] m (λ k K v wr=>∃(j:Nat) (r:Option Addr) (p ac:Nat),v=Ab Ak j/\K=Aa r p ac/\j+k=m/\Hid ((srt (Zaw A++Zaw (B.take j))).length=p/\Rd wr r (srt (Zaw A++Zaw (B.take j)))/\An w.heap.size w wr))
   case atStart=>exact⟨0,r,p,ac,rfl,rfl,by omega,I⟩
   case round =>
    obtain⟨j,J,D,C,rfl,rfl,X,h⟩:=hrel;by_cases P:j<m
    ·have jd:(j:Int)<(m:Int):=by omega
     obtain⟨e,q⟩:=Zaf H.o.2.2.2 P;obtain⟨b,off,rfl,t⟩:=H.o.2.1.some_of q;obtain⟨_,L,M⟩:=(H.o.2.1.below h.o.2.2).ents q;have a:=Zg8 q;obtain⟨x,o⟩:=e;simp only at L M a
     have N:D<=200000:=by
      rw[<- h.o.1];have F:=Zcr (Zaw A++Zaw (B.take j));have U:=CH j B;rw[AD,ZdM,ZdM]at F;have W:=H.o.2.2.1;omega
     have f:=ZdF (c:=C) x wr h.o.2.1 h.o.1 (by omega);rw[<- ZdP,A9,<- a]at f;clear q a t;go_wp2_with fail;refine f.mono ?_;rintro e G ⟨g,s,rfl,z,u⟩
     have y:Hid (Rd G g (srt (Zaw A++Zaw (B.take (j+1))))/\An w.heap.size w G):=⟨z,h.o.2.2.trans (u.mono h.o.2.2.size)⟩
     clear z u f;go_wp2;go_roundg (gk - 1)
     case measure=>omega
     case rel=>exact⟨j+1,g,_,s,by go_num,rfl,by omega,rfl,y.o.1,y.o.2⟩
    ·obtain rfl:j=m:=by omega
     have e:B.take j=B:=Av (by rw[H.o.2.2.2];omega);rw[e]at h;clear e;go_wp2;go_ret;refine⟨J,C,?_,h.o.2.1,h.o.2.2⟩;have F:(bothP A B).length=D:=h.o.1;rw[F]
     rfl
theorem Zhi{es:List En}(p:Bs)(w:Ap)(h:RdG encE w ao es)(f:es.length=n)(j:n<=4000000000000000000)(o:UInt64)(b:blobOf es p=o):
  At Am 161 #[Aa ao n c,Ae ⟨p.toArray⟩] w λ e w'=>e=Aj (Ab Al (o.toNat:Int))/\An w.heap.size w w':=by
 have a:=Zma (c:=c) p w h f j _ rfl;unfold blobOf at b;rw[b]at a
 obtain⟨g,d⟩:=Xa ((ffind es p).isSome)
 rw[d]at a;clear d b h f;go_enter func161,ntmps161;go_wp2_with fail;refine a.mono ?_;rintro e w1 ⟨rfl,i⟩;go_wp2;go_ret;exact⟨rfl,i⟩
def chgOf(A B:List En)(p:Bs):Chg:=(p,blobOf A p,blobOf B p)
def told(g:Bs->Bool)(c:Chg):Bool:=(c.2.1 != c.2.2)&&g c.1
theorem ZjK(g:Bs->Bool)(A B:List En):fdiff g A B=((bothP A B).map (chgOf A B)).filter (told g):=rfl
theorem Zl4(g:Bs->Bool)(A B:List En){qs:List Bs}(h:i<qs.length):((qs.take (i+1)).map (chgOf A B)).filter (told g)=((qs.take i).map (chgOf A B)).filter (told g)++(if told g (chgOf A B (el qs i))=true then[chgOf A B (el qs i)]else[]):=by
 rw[List.take_succ_eq_append_getElem h,BS,List.filter_append,<- Za9 h]
 congr 1
 simp only[List.map_cons,List.map_nil,List.filter_cons,List.filter_nil]
theorem ZcQ{wr d:Ap}{R:Nat}{a b c:Ar}(h:Box3 d R 196 a b c)(e:An wr.heap.size wr d)(g:wr.heap.size<=R)(x y z:Ar):
  Box3 (((d.setCell ⟨R,0,none⟩ x).setCell ⟨R,1,none⟩ y).setCell ⟨R,2,none⟩ z) R 196 x y z/\An wr.heap.size wr (((d.setCell ⟨R,0,none⟩ x).setCell ⟨R,1,none⟩ y).setCell ⟨R,2,none⟩ z):=by
 have f:Box3 (d.setCell ⟨R,0,none⟩ x) R 196 x b c:=by
  unfold Box3 at h ⊢;simp[World.setCell,Array.getElem?_modify,h]
 have t:Zaa (λ i=>i=R) d (((d.setCell ⟨R,0,none⟩ x).setCell ⟨R,1,none⟩ y).setCell ⟨R,2,none⟩ z) :=
  (((Zaa.refl (λ i=>i=R) d).setCell (p:=⟨R,0,none⟩) (.inl (show R=R from rfl)) x).setCell (p:=⟨R,1,none⟩) (.inl (show R=R from rfl)) y).setCell (p:=⟨R,2,none⟩) (.inl (show R=R from rfl)) z
 exact⟨(f.put1 y).put2 z,e.trans (t.below e.size (λ i hi q=>by have j:i=R:=q;omega))⟩
theorem ZkY{lo:Option Addr}{d ln lc:Nat}{b:List Bs}(w:Ap)(ha:RdG encE w ao A)(I:RdG encE w bo B)(hl:A.length=n)(hk:B.length=m)(hn:n<=100000)(hm:m<=100000)(hL:Rd w lo b)(ac:b.length=ln)(an:ln<=100000):
  At Am 98 #[Aa ao n c,Aa bo m d,Aa lo ln lc] w λ e w'=>∃v',e=Aj v'/\OwnG encC 196 w' w.heap.size v' (fdiff (hasS b) A B)/\An w.heap.size w w':=by
 have K:=ZjL (c:=c) (d:=d) w ha I hl hk hn hm
 have ad:(bothP A B).length<=200000:=by
  have h1:=Zcr (A.map (·.1)++B.map (·.1));rw[AD,AQ,AQ]at h1;unfold bothP;omega
 have H:Hid (RdG encE w ao A/\RdG encE w bo B/\A.length=n/\B.length=m/\Rd w lo b/\b.length=ln):=⟨ha,I,hl,hk,hL,ac⟩
 obtain⟨qs,Q⟩:=Xa (bothP A B)
 rw[Q]at K ad
 have FD:Hid (fdiff (hasS b) A B=(qs.map (chgOf A B)).filter (told (hasS b))):=by show _=_;rw[ZjK,Q]
 obtain⟨qn,P⟩:=Xa qs.length
 rw[P]at K ad;have HQ:Hid (qs.length=qn):=P;clear ha I hl hk hL ac Q P;go_enter func98,ntmps98;go_wp2_with fail;refine K.mono ?_;rintro e w1 ⟨a1,c1,rfl,R1,B1⟩
 have F:Hid (Rd w1 a1 qs/\An w.heap.size w w1):=⟨R1,B1⟩
 clear R1 B1 K;go_wp2_with fail;go_loopg[7,9] qn (λ k ov v wr=>∃i:Nat,v=Ab Ak i/\i+k=qn/\Hid (OwnG encC 196 wr w1.heap.size ov (((qs.take i).map (chgOf A B)).filter (told (hasS b)))/\An w1.heap.size w1 wr))
 case atStart=>exact⟨0,rfl,by omega,OwnG.nil _ _ _ _,Ao _ _⟩
 case round =>
  obtain⟨i,rfl,hi,g⟩:=hrel;by_cases ah:i<qn
  ·have id:(i:Int)<(qn:Int):=by omega
   have au:(0:Int)<=(i:Int):=by omega
   obtain⟨b1,C,rfl,t,ab⟩:=F.o.1 (by rw[HQ.o];omega);have S:=Zl4 (hasS b) A B (qs:=qs) (i:=i) (by rw[HQ.o];exact ah);have cy:=ab i (by rw[HQ.o];omega)
   obtain⟨p,hp⟩:=Xa (el qs i)
   rw[hp]at S cy
   have D:Hid (w1.cell? ⟨b1,C+i,none⟩=some (Ae ⟨p.toArray⟩)/\b1<w1.heap.size):=⟨cy,t⟩
   have aa:wr.cell? ⟨b1,C+i,none⟩=some (Ae ⟨p.toArray⟩):=(g.o.2.cell (p:=⟨b1,C+i,none⟩) t).trans cy
   obtain⟨x,hx⟩:=Xa (blobOf A p)
   obtain⟨y,hy⟩:=Xa (blobOf B p)
   have ST:Hid (((qs.take (i+1)).map (chgOf A B)).filter (told (hasS b))=((qs.take i).map (chgOf A B)).filter (told (hasS b))++(if((x != y)&&hasS b p)=true then[(p,x,y)]else[])):=by
    show _=_;rw[S]
    have:chgOf A B p=(p,x,y):=by unfold chgOf;rw[hx,hy]
    rw[this]
    rfl
   have XY:Hid (blobOf A p=x/\blobOf B p=y):=⟨hx,hy⟩
   have aj:((((qs.take i).map (chgOf A B)).filter (told (hasS b)))).length<=200000:=by
    refine Nat.le_trans (List.length_filter_le _ _) ?_;rw[AQ];have:=CH i qs;omega
   obtain⟨out,M⟩:=Xa (((qs.take i).map (chgOf A B)).filter (told (hasS b)))
   rw[M]at g ST aj
   have O:=λ(u:Ap) (I:An w.heap.size w u)=>Zhi (c:=c) p u (H.o.1.below I) H.o.2.2.1 (by omega) x XY.o.1
   have J:=λ(u:Ap) (I:An w.heap.size w u)=>Zhi (c:=d) p u (H.o.2.1.below I) H.o.2.2.2.1 (by omega) y XY.o.2
   have W0:Hid (An w.heap.size w wr.drew):=F.o.2.trans ((g.o.2.mono F.o.2.size).trans (Ao _ wr).drew);clear S hp hx hy M cy t ab
   go_upto_region 6 with fail
   go_cut[10] (λ pv u=>Hid (∃R,pv=.pointer (some ⟨R,0,none⟩)/\Box3 u R 196 (tx p) (Ab Al (x.toNat:Int)) (Ab Al (y.toNat:Int))/\An wr.heap.size wr u))
   case first =>
    have ar:=Gr wr ⟨b1,C+i,none⟩ aa
    have j:Hid (∀u:Ap,An wr.heap.size wr u->An w.heap.size w u/\u.cell? ⟨b1,C+i,none⟩=some (Ae ⟨p.toArray⟩)):=by
     intro u hu;exact⟨F.o.2.trans ((g.o.2.trans (hu.mono g.o.2.size)).mono F.o.2.size),((g.o.2.trans (hu.mono g.o.2.size)).cell (p:=⟨b1,C+i,none⟩) D.o.2).trans D.o.1⟩
    have W1:Hid (An wr.heap.size wr wr.drew):=(Ao _ wr).drew
    have l:Hid (An wr.heap.size wr (wr.alloc (.cells #[Ae ⟨#[]⟩,Ab Al 0,Ab Al 0] 196)).drew/\Box3 (wr.alloc (.cells #[Ae ⟨#[]⟩,Ab Al 0,Ab Al 0] 196)).drew wr.heap.size 196 (Ae ⟨#[]⟩) (Ab Al 0) (Ab Al 0)):=⟨(bz1 wr _).drew,Box3.below (Box3.new wr 196 (Ae ⟨#[]⟩) (Ab Al 0) (Ab Al 0)) (Ao _ _).drew⟩
    have al:=(j.o _ l.o.1).2
    go_region_held3 (λ u=>u.cell? ⟨b1,C+i,none⟩=some (Ae ⟨p.toArray⟩)) (first | with_reducible exact L | with_reducible exact af | with_reducible exact U | with_reducible exact al | go_keep)
     (first
      | (go_at_call 161;(with_reducible refine(J _ (j.o _ q.o.1).1).mono ?_);rintro e W ⟨rfl,E⟩;have r:Hid (An wr.heap.size wr W):=q.o.1.trans (E.mono q.o.1.size);have L:=(j.o _ r.o).2;have a:=q.o.2.below E;obtain⟨s0,s1,s2⟩:=a.cells;obtain⟨f0,f1,f2⟩:=a.thaw;have Z:Hid _:=a;clear E a)
      | (go_at_call 161;(with_reducible refine(J _ (j.o _ h.o).1).mono ?_);have Y:=XX.o;rintro e W ⟨rfl,E⟩;have r:Hid (An wr.heap.size wr W):=h.o.trans (E.mono h.o.size);have L:=(j.o _ r.o).2;have a:=Y.below E;obtain⟨s0,s1,s2⟩:=a.cells;obtain⟨f0,f1,f2⟩:=a.thaw;have Z:Hid _:=a;clear E a Y)
      | (go_at_call 161;(with_reducible refine(J _ (j.o _ h.o).1).mono ?_);rintro e W ⟨rfl,E⟩;have r:Hid (An wr.heap.size wr W):=h.o.trans (E.mono h.o.size);have L:=(j.o _ r.o).2;have aq:=Gr W ⟨b1,C+i,none⟩ L;clear E)
      | (go_at_call 161;(with_reducible refine(O _ (j.o _ W1.o).1).mono ?_);rintro e G ⟨rfl,V⟩;have h:Hid (An wr.heap.size wr G):=W1.o.trans (V.mono W1.o.size);have U:=(j.o _ h.o).2;have ap:=Gr G ⟨b1,C+i,none⟩ U;have q:Hid (An wr.heap.size wr (G.alloc (.cells #[Ae ⟨#[]⟩,Ab Al 0,Ab Al 0] 196))/\Box3 (G.alloc (.cells #[Ae ⟨#[]⟩,Ab Al 0,Ab Al 0] 196)) G.heap.size 196 (Ae ⟨#[]⟩) (Ab Al 0) (Ab Al 0)):=⟨h.o.trans ((bz1 G _).mono h.o.size),Box3.new G 196 _ _ _⟩;have af:=(j.o _ q.o.1).2;clear V)
      | (go_at_call 161;(with_reducible refine(O _ (j.o _ l.o.1).1).mono ?_);rintro e G ⟨rfl,V⟩;have h:Hid (An wr.heap.size wr G):=l.o.1.trans (V.mono l.o.1.size);have U:=(j.o _ h.o).2;have XX:Hid (Box3 G wr.heap.size 196 (Ae ⟨#[]⟩) (Ab Al 0) (Ab Al 0)):=l.o.2.below V;clear V))
    all_goals
     go_wp2_with fail;go_meet
     first
      | exact⟨_,rfl,Box3.new _ 196 _ _ _,r.o.trans ((bz1 _ _).mono r.o.size)⟩
      | exact⟨_,rfl,(ZcQ Z.o r.o h.o.size _ _ _).1,(ZcQ Z.o r.o h.o.size _ _ _).2⟩
      | exact⟨_,rfl,(ZcQ Z.o r.o (Nat.le_refl _) _ _ _).1,(ZcQ Z.o r.o (Nat.le_refl _) _ _ _).2⟩
   case rest =>
    obtain⟨R,ak,BX,BW⟩:=hcut.o;subst ak;have WC:An w1.heap.size w1 wc:=g.o.2.trans (BW.mono g.o.2.size);have WW:An w.heap.size w wc:=F.o.2.trans (WC.mono F.o.2.size);have ag:wc.cell? ⟨b1,C+i,none⟩=some (Ae ⟨p.toArray⟩):=(WC.cell (p:=⟨b1,C+i,none⟩) D.o.2).trans D.o.1;obtain⟨j0,j1,j2⟩:=BX.cells
    have N:Hid (Box3 wc R 196 (tx p) (Ab Al (x.toNat:Int)) (Ab Al (y.toNat:Int))/\OwnG encC 196 wc w1.heap.size u7 out/\An w1.heap.size w1 wc/\An w.heap.size w wc):=⟨BX,g.o.1.below BW,WC,WW⟩
    clear hcut BX BW WC WW O J W0 aa;by_cases T:x=y
    ·subst T
     have S0:Hid (((qs.take (i+1)).map (chgOf A B)).filter (told (hasS b))=out):=by
      show _=_;rw[ST.o];simp
     go_wp2;go_roundg (gk - 1)
     case measure=>omega
     case rel=>exact⟨i+1,by go_num,by omega,by rw[S0.o];exact N.o.2.1,N.o.2.2.1⟩
    ·have ai:¬(x.toNat:Int)=(y.toNat:Int):=λ e=>T (UInt64.toNat_inj.1 (by omega))
     have am:((x.toNat:Int)==(y.toNat:Int))=false:=by simpa using ai
     obtain⟨f,hf⟩:=Xa (hasS b p)
     have ae:=ZpE (c:=lc) p wc (H.o.2.2.2.2.1.below N.o.2.2.2) H.o.2.2.2.2.2 (by omega) f hf
     have S0:Hid (((qs.take (i+1)).map (chgOf A B)).filter (told (hasS b))=out++(if f=true then[(p,x,y)]else[])):=by
      show _=_
      have I:(x != y)=true:=by simpa using T
      rw[ST.o,I,hf,Bool.true_and]
     clear hf;go_wp2_with fail;refine ae.mono ?_;rintro e w6 ⟨rfl,B6⟩;obtain⟨k0,k1,k2⟩:=(N.o.1.below B6).cells
     have X:Hid (OwnG encC 196 w6 w1.heap.size u7 out/\An w1.heap.size w1 w6):=⟨N.o.2.1.below B6,N.o.2.2.1.trans (B6.mono N.o.2.2.1.size)⟩
     clear B6 ae j0 j1 j2 ag
     cases f with
     | false =>
      have S1:Hid (((qs.take (i+1)).map (chgOf A B)).filter (told (hasS b))=out):=by
       show _=_;rw[S0.o];simp
      go_wp2;go_roundg (gk - 1)
      case measure=>omega
      case rel=>exact⟨i+1,by go_num,by omega,by rw[S1.o];exact X.o.1,X.o.2⟩
     | true =>
      have S1:Hid (((qs.take (i+1)).map (chgOf A B)).filter (told (hasS b))=out++[(p,x,y)]):=by
       show _=_;rw[S0.o];simp
      go_wp2_with(at_builtin;refine Zag encC 196 193 32 (.agg #[Ae ⟨#[]⟩,Ab Al 0,Ab Al 0]) rfl Tryz.info196 underlying193 rfl (.tmp 50) (.tmp 52) rfl w1.heap.size _ out (p,x,y) _ rfl X.o.1 rfl (by omega) (by simp only[maxLen];omega) X.o.2.size _ rfl ?_;intro v8 w8 z s _ _;have G8:Hid (OwnG encC 196 w8 w1.heap.size v8 (out++[(p,x,y)])/\An w1.heap.size w1 w8):=⟨z,X.o.2.trans s⟩;clear z s);go_roundg (gk - 1)
      case measure=>omega
      case rel=>exact⟨i+1,by go_num,by omega,by rw[S1.o];exact G8.o.1,G8.o.2⟩
  ·obtain rfl:i=qn:=by omega
   have e:qs.take i=qs:=Av (by rw[HQ.o];omega);rw[e]at g;clear e;go_wp2;go_ret;exact⟨_,rfl,by rw[FD.o];exact OwnG.low g.o.1 F.o.2.size,F.o.2.trans (g.o.2.mono F.o.2.size)⟩
structure RE(B:Nat)(u:Ap)(d:Dk)(vf:Ar)(oa:Option Addr)(on oc:Nat)(vr vt:Ar)(st:St):Prop where
 box:Zco u B d vf (Aa oa on oc) vr vt
 ob:RdG encO u oa st.objs
theorem RE.next{B:Nat}{u u':World}{vf vr vt:Value}(h:RE B u d vf oa on oc vr vt st)(a:An u.heap.size u u'):RE B u' d vf oa on oc vr vt st:=⟨h.box.below a h.box.lt,h.ob.below a⟩
theorem RE.new{w:Ap}(h:RdG encO w oa st.objs):RE w.heap.size (w.alloc (nineC d vf (Aa oa on oc) vr vt)) d vf oa on oc vr vt st:=⟨Nine.new _ _ _ _ _ _ _ _ _ _,h.below (bz1 _ _)⟩
theorem Zkc(u:Ap)(t:Int)(a:Option Addr)(n c:Nat)(dt:Int)(nt:ByteArray):(Instr.field 101 (.agg #[Ab Al t,Aa a n c,Ab Ak dt,Ae nt]) 0).run Am u=.ok (Ab Al t) u:=by kernel_rfl
theorem Zgh{w:World}(h:RdG encO w oa st.objs)(hl:st.objs.length=on)(hn:on<=1000000)(hb:∀o∈st.objs,o.body.length<=8192)(x:UInt64):
  At Am 40 #[rm d vf (Aa oa on oc) vr vt,Ab Al (x.toNat:Int)] w λ e w'=>∃v,e=Aj v/\Hid (Own w' w.heap.size v (st.chg (st.com x))/\An w.heap.size w w'):=by
 obtain⟨f,z⟩:=Xa w.heap.size
 obtain⟨Y,E⟩:=Xb (w.alloc (nineC d vf (Aa oa on oc) vr vt))
 obtain⟨cm,O⟩:=Xa (st.com x)
 have R0:RE f Y d vf oa on oc vr vt st:=by rw[E,<- z];exact RE.new h
 have B0:An f w Y:=by rw[E,<- z];exact bz1 _ _
 have H:Hid (st.objs.length=on/\(∀o∈st.objs,o.body.length<=8192)/\w.heap.size=f/\An f w Y/\RE f Y d vf oa on oc vr vt st):=⟨hl,hb,z,B0,R0⟩
 have q:=Zjj (vf:=vf) (d:=d) (vr:=vr) (vt:=vt) (oc:=oc) R0.ob hl hn hb x cm O;rw[z,O];obtain⟨k0,k1,k2,k3,k4,k5,k6,k7,k8⟩:=R0.box.cells;clear h hl hb R0 B0 O;go_enter func40,ntmps40
 go_upto_region 1 with fail
 rw[<- E];clear E z;go_wp2_with fail;refine q.mono ?_;rintro e w1 ⟨pa,pc,rfl,J1⟩;clear q k0 k1 k2 k3 k4 k5 k6 k7 k8
 obtain⟨pn,U⟩:=Xa cm.ps.length
 obtain⟨C,V⟩:=Xa cm.tree
 rw[U,V]
 obtain⟨b,s⟩:=Xb (w1.alloc (.cells #[Ab Al (C.toNat:Int),Aa pa pn pc,Ab Ak cm.date,tx cm.note] 101))
 obtain⟨Z,hZ⟩:=Xa w1.heap.size
 have D:b.heap[Z]? = some (.cells #[Ab Al (C.toNat:Int),Aa pa pn pc,Ab Ak cm.date,tx cm.note] 101 (0,0)):=by rw[s,<- hZ];exact heap_alloc_new _ _
 have W:Hid (cm.ps.length=pn/\cm.tree=C/\RdG encU b pa cm.ps/\An Y.heap.size Y b/\b.heap[Z]? = some (.cells #[Ab Al (C.toNat:Int),Aa pa pn pc,Ab Ak cm.date,tx cm.note] 101 (0,0))):=by
  refine⟨U,V,?_,?_,D⟩
  ·rw[s];exact J1.o.1.below (bz1 _ _)
  ·rw[s];exact J1.o.2.2.trans ((bz1 _ _).mono J1.o.2.2.size)
 have J:Hid (∀u,An b.heap.size b u->RE f u d vf oa on oc vr vt st/\u.cell? ⟨Z,0,none⟩=some (Ab Al (C.toNat:Int))/\u.cell? ⟨Z,1,none⟩=some (Aa pa pn pc)/\RdG encU u pa cm.ps/\An f w u):=by
  intro u B;have ab:u.heap[Z]? = some (.cells #[Ab Al (C.toNat:Int),Aa pa pn pc,Ab Ak cm.date,tx cm.note] 101 (0,0)):=(B.block Z (Array.getElem?_eq_some_iff.1 D).1).trans D;have b2:=W.o.2.2.2.1;have b3:=b2.trans (B.mono b2.size);refine⟨H.o.2.2.2.2.next b3,by simp[World.cell?,ab],by simp[World.cell?,ab],W.o.2.2.1.below B,H.o.2.2.2.1.trans (b3.mono ?_)⟩;have:=H.o.2.2.2.1.size;have:=H.o.2.2.1;omega
 have z1:=(J.o b (Ao _ _)).2.2.1;clear J1 U V D
 go_upto_region 3 with fail
 rw[<- s];clear s hZ
 go_upto_if 16 with fail
 go_cut[6] (λ wv u=>∃a n c,wv=Aa a n c/\Hid (RdG encE u a (st.was cm)/\(st.was cm).length=n/\An b.heap.size b u))
 case first =>
  cases m:cm.ps with
  | nil =>
   have p0:pn=0:=by rw[<- W.o.1,m];rfl
   subst p0
   have hw:st.was cm=[]:=by unfold St.was;rw[m]
   have l:Hid (RdG encE b none (st.was cm)/\(st.was cm).length=0/\An b.heap.size b b):=by
    rw[hw];exact⟨RdG.nil _ _ _,rfl,Ao _ _⟩
   clear hw m;go_wp2_with fail;go_meet;exact⟨none,0,0,rfl,l.o⟩
  | cons p t =>
   have p0:(0:Int)<(pn:Int):=by
    rw[<- W.o.1,m,List.length_cons];omega
   have p1:0<pn:=by omega
   have g:cm.ps[0]? = some p:=by rw[m];rfl
   obtain⟨pb,off,rfl,_⟩:=W.o.2.2.1.some_of g
   have hw:st.was cm=st.files (st.com p).tree:=by unfold St.was;rw[m]
   have HW:Hid (st.was cm=st.files (st.com p).tree):=hw
   obtain⟨K,N⟩:=Xa (st.com p)
   obtain⟨G,A⟩:=Xa K.tree
   rw[N,A]at HW
   have q:∀u,An b.heap.size b u->_:=λ u B=>Zjj (vf:=vf) (d:=d) (vr:=vr) (vt:=vt) (oc:=oc) (J.o u B).1.ob H.o.1 hn H.o.2.1 p K N
   have y:∀u,An b.heap.size b u->_:=λ u B=>Zfm (vf:=vf) (d:=d) (vr:=vr) (vt:=vt) (oc:=oc) (J.o u B).1.ob H.o.1 hn H.o.2.1 G
   obtain⟨F,M⟩:∃F:ByteArray,(⟨K.note.toArray⟩:ByteArray)=F:=⟨_,rfl⟩
   rw[A,show tx K.note=Ae F by rw[<- M]]at q;have QG:Hid _:=q;have QF:Hid _:=y
   have KZ:Hid (∀u,An b.heap.size b u->u.cell? ⟨f,0,none⟩=some vf/\u.cell? ⟨f,1,none⟩=some (Ab Ak (d.writes:Int))/\u.cell? ⟨f,2,none⟩=some (Ad d.armed)/\u.cell? ⟨f,3,none⟩=some (Ad d.dead)/\u.cell? ⟨f,4,none⟩=some (Ab Ak (d.after:Int))/\u.cell? ⟨f,5,none⟩=some (Ab Ak (d.keep:Int))/\u.cell? ⟨f,6,none⟩=some (Aa oa on oc)/\u.cell? ⟨f,7,none⟩=some vr/\u.cell? ⟨f,8,none⟩=some vt/\u.cell? ⟨Z,1,none⟩=some (Aa (some ⟨pb,off,none⟩) pn pc)/\u.cell? ⟨pb,off,none⟩=some (Ab Al (p.toNat:Int))):=by
    intro u B;obtain⟨k0,k1,k2,k3,k4,k5,k6,k7,k8⟩:=(J.o u B).1.box.cells;have:=((J.o u B).2.2.2.1.nums g).2;rw[Nat.add_zero]at this;exact⟨k0,k1,k2,k3,k4,k5,k6,k7,k8,(J.o u B).2.2.1,this⟩
   clear g hw m N A q y z1 M;have z1:=(J.o b (Ao _ _)).2.2.1
   go_upto_region 4 with fail
   clear z1;have V0:Hid (An b.heap.size b b.drew):=(Ao _ b).drew;have af:=KZ.o _ V0.o
   have aj:=λ(u:World) (qa:Option Addr) (qc:Nat)=>Zkc u (G.toNat:Int) qa K.ps.length qc K.date F
   go_region_held3 (λ u=>u.cell? ⟨f,0,none⟩=some vf/\u.cell? ⟨f,1,none⟩=some (Ab Ak (d.writes:Int))/\u.cell? ⟨f,2,none⟩=some (Ad d.armed)/\u.cell? ⟨f,3,none⟩=some (Ad d.dead)/\u.cell? ⟨f,4,none⟩=some (Ab Ak (d.after:Int))/\u.cell? ⟨f,5,none⟩=some (Ab Ak (d.keep:Int))/\u.cell? ⟨f,6,none⟩=some (Aa oa on oc)/\u.cell? ⟨f,7,none⟩=some vr/\u.cell? ⟨f,8,none⟩=some vt/\u.cell? ⟨Z,1,none⟩=some (Aa (some ⟨pb,off,none⟩) pn pc)/\u.cell? ⟨pb,off,none⟩=some (Ab Al (p.toNat:Int)))
    (first | with_reducible exact af | with_reducible exact ag | with_reducible exact ah)
    (first
     | (go_at_call 97;(with_reducible refine(QF.o _ V1.o).mono ?_);rintro e j ⟨fv,rfl,X2⟩;have V2:Hid (An b.heap.size b j/\OwnG encE 233 j 0 fv (st.files G)):=⟨V1.o.trans (X2.o.2.mono V1.o.size),X2.o.1.low (Nat.zero_le _)⟩;have ah:=KZ.o _ V2.o.1)
     | (go_at_call 38;(with_reducible refine(QG.o _ V0.o).mono ?_);rintro e w4 ⟨qa,qc,rfl,X1⟩;have V1:Hid (An b.heap.size b w4):=V0.o.trans (X1.o.2.2.mono V0.o.size);have ag:=KZ.o _ V1.o))
   obtain⟨fa,fc,rfl,_,_,f3,_⟩:=V2.o.2.form
   have l:Hid (RdG encE j fa (st.was cm)/\(st.was cm).length=(st.files G).length/\An b.heap.size b j):=by
    rw[HW.o];exact⟨f3,rfl,V2.o.1⟩
   clear V0 V1 V2 af ag ah X1 X2 f3 QG QF KZ aj;go_wp2_with fail;go_meet;exact⟨fa,_,fc,rfl,l.o⟩
 case rest =>
  obtain⟨a,n,c,rfl,HA⟩:=hcut;clear z1;have KU:=J.o wc HA.o.2.2;obtain⟨k0,k1,k2,k3,k4,k5,k6,k7,k8⟩:=KU.1.box.cells;have z0:=KU.2.1;have y:=Zfm (vf:=vf) (d:=d) (vr:=vr) (vt:=vt) (oc:=oc) KU.1.ob H.o.1 hn H.o.2.1 C;have BU:Hid (An f w wc):=KU.2.2.2.2;clear KU;go_wp2_with fail;refine y.mono ?_;rintro e w4 ⟨fv,rfl,J4⟩;obtain⟨fa,fc,rfl,f1,f2,f3,_⟩:=J4.o.1.form
  obtain⟨fn,S⟩:=Xa ((st.files C).length)
  rw[S]at f1 ⊢;have Q:=ZkY (c:=c) (d:=fc) (lc:=0) w4 (HA.o.1.below J4.o.2) f3 HA.o.2.1 S (by have:=(Zfo st cm).1;have:=HA.o.2.1;omega) (by have:=ZcM st C;omega) (Rd.nil w4 none) rfl (by decide);have al:w.heap.size=f:=H.o.2.2.1;have B4:Hid (An f w w4):=BU.o.trans (J4.o.2.mono (by have:=BU.o.size;omega))
  obtain⟨cs,P⟩:=Xa (fdiff (hasS []) (st.was cm) (st.files C))
  rw[P]at Q
  have aa:Hid (st.chg cm=cs.map (·.1)):=by
   show St.chg _ _=_;unfold St.chg;rw[W.o.2.1,P]
  clear y J4 f1 f2 f3 S P z0 k0 k1 k2 k3 k4 k5 k6 k7 k8 al;go_wp2_with fail;refine Q.mono ?_;rintro e j ⟨dv,rfl,O5,b5⟩;obtain⟨da,dc,rfl,_,_,d3,_⟩:=O5.form
  obtain⟨dn,R⟩:=Xa cs.length
  rw[R]
  have am:dn<=128:=by
   have:=(ZgX st cm).1;rw[aa.o,AQ]at this;omega
  have X:Hid (RdG encC j da cs/\cs.length=dn/\An f w j):=⟨d3,R,B4.o.trans (b5.mono (by have:=B4.o.size;have:=H.o.2.2.1;omega))⟩
  clear Q O5 b5 d3 R B4;go_wp2_with fail;go_loopg[8,9] dn (λ k bv iv wr=>∃i:Nat,iv=Ab Ak i/\i+k=dn/\Hid (Own wr j.heap.size bv ((cs.take i).map (·.1))/\An j.heap.size j wr))
  case atStart=>exact⟨0,rfl,by omega,Own.nil _ _,Ao _ _⟩
  case round =>
   obtain⟨i,rfl,hi,I⟩:=hrel;by_cases ak:i<dn
   ·have id:(i:Int)<(dn:Int):=by omega
    have an:(0:Int)<=(i:Int):=by omega
    obtain⟨x,g⟩:∃x,cs[i]? = some x:=⟨_,List.getElem?_eq_getElem (by rw[X.o.2.1];exact ak)⟩
    obtain⟨pb,off,rfl,_⟩:=X.o.1.some_of g;obtain⟨c0,c1,K⟩:=(X.o.1.below I.o.2).chgs4 g
    have r:(cs.take (i+1)).map (·.1)=(cs.take i).map (·.1)++[x.1]:=by
     rw[List.take_add_one,g,BS]
     rfl
    obtain⟨xp,xo,xn⟩:=x;simp only at c0 r;have ai:wr.cell? ⟨pb,off+i*3,none⟩=some (Ae ⟨xp.toArray⟩):=c0;have HT:Hid ((cs.take (i+1)).map (·.1)=(cs.take i).map (·.1)++[xp]):=r;have hO:=I.o.1;have ae:j.heap.size<=wr.heap.size:=I.o.2.size
    have L:((cs.take i).map (·.1)).length<=4000000:=by rw[AQ,List.length_take];omega
    clear g r c0 c1 K;go_wp2_with(at_builtin;refine ZaZ rfl (.tmp 38) (.tmp 44) rfl j.heap.size _ _ xp _ rfl hO rfl L ae ?_;intro v7 w7 ad ac)
    have l:Hid (Own w7 j.heap.size v7 ((cs.take (i+1)).map (·.1))/\An j.heap.size j w7):=by
     rw[HT.o];exact⟨ad,I.o.2.trans ac⟩
    clear ad ac hO ae L ai;go_wp2_with fail;go_roundg (gk - 1)
    case measure=>omega
    case rel=>exact⟨i+1,by go_num,by omega,l.o⟩
   ·obtain rfl:i=dn:=by omega
    have id:¬(i:Int)<(i:Int):=by omega
    have r:cs.take i=cs:=Av (by rw[X.o.2.1];exact Nat.le_refl _);rw[r,<- aa.o]at I
    have T:f<=j.heap.size:=by
     have h1:=X.o.2.2.size;have h2:=H.o.2.2.1;omega
    have l:=shidL (And.intro (Zbm I.o.1 T) (X.o.2.2.trans (I.o.2.mono T)));clear r I T;go_wp2;go_ret;exact⟨_,rfl,l.o⟩
end Go.Proofs.YtlojblelpaegpaaGreat
