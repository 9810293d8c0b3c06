/-
  Several texts, laid together.
-/
import Derived.Test.YtlojblelpaegpaaGreatM09
set_option maxHeartbeats 6400000
set_option maxRecDepth 100000
open Go renaming World->Ap,Calls->At,bodyPost_ret->As,results_tmp2->AA,TypeId->AP,Value->Ar,callFunc->Cq
open List renaming take_length->DH,isPrefixOf_iff_prefix->Df,cons_append->Cs,take_succ_eq_append_getElem->Be,length_take->AM,take_of_length_le->Av,getD_eq_getElem?_getD->CS
open Go.Ending renaming returned->Aj
open Go.Value renaming bool->Ad,slice->Aa,int->Ab,string->Ae
open Bool renaming eq_iff_iff->C8,eq_false_iff->GS,or_eq_true->DR
open Go.RowKit renaming Below->An
open Nat renaming le_refl->Az
open Go.RowKit.Below renaming refl->Ao
open Go.Obj renaming cells->Ai
open Go.Proofs.Tryz renaming prog->Am
open Go.Proofs.Tryz
namespace Go.Proofs.YtlojblelpaegpaaGreat
open Go.RowKit
variable{a:List Bs}{ao:Option Addr}{c i n:Nat}{d l p:Bs}{es:List En}{w:Ap}
theorem Zat(s:ByteArray)(l:s.size<=9223372036854775807)(w:Ap):
  At Am 129 #[Ae s] w λ e w'=>e=Aj (Ad (isName s.data.toList))/\w'=w:=by
 have E:Hid (s.size=s.data.toList.length):=bsize s;go_enter func129,ntmps129;go_wp2_with fail;go_loopg[3] s.size (λ k v wr=>∃i:Nat,v=Ab .i64 i/\i+k=s.size/\wr=w/\Hid ((s.data.toList.take i).all okB=true))
 case atStart=>exact⟨0,rfl,by omega,rfl,by simp[Hid]⟩
 case round =>
  obtain⟨i,rfl,hi,rfl,a⟩:=hrel;by_cases d:i<s.size
  ·obtain⟨c,h⟩:∃c:Int,(s[i].toNat:Int)=c:=⟨_,rfl⟩
   have f:Hid ((s[i].toNat:Int)=c):=h;go_wp2_with fail
   all_goals first
    | (have ok:okI c=true:=by(clear a f h E;simp_all [okI];try omega)
       go_roundg (gk - 1)
       case measure=>omega
       case rel=>exact⟨i+1,by go_num,by omega,rfl,Zhm (E.o ▸ d) a.o (f.o ▸ ok)⟩)
    | (have ok:okI c=false:=by(clear a f h E;simp_all [okI];try omega)
       go_ret
       exact⟨by rw[Zjt (E.o ▸ d) (f.o ▸ ok)];rfl,rfl⟩)
  ·obtain rfl:i=s.size:=by omega
   have g:=a.o;rw[E.o,DH]at g
   have e:isName s.data.toList=(decide (1<=s.size)&&decide (s.size<=16)):=by rw[isName,g,<- E.o,Bool.and_true]
   have j:Hid (isName s.data.toList=(decide (1<=s.size)&&decide (s.size<=16))):=e;clear g e a;go_wp2
   all_goals go_ret
   all_goals refine⟨A4 (λ b=>Aj (Ad b)) ?_,rfl⟩
   all_goals(rw[j.o,C8];simp;try omega)
theorem Zh6(h:p.length<d.length):under p d=false:=by
 rw[GS];intro q;simp only[under,DR,Df,Ep]at q
 rcases q with rfl|q
 ·omega
 ·have:=q.length_le;simp at this;omega
theorem Zj5(q:under p d=true):p.take d.length=d:=by
 simp only[under,DR,Df,Ep]at q
 rcases q with rfl|⟨u,rfl⟩
 ·simp
 ·simp
theorem Znk(h:p.take d.length≠d):under p d=false:=by
 rw[GS]
 exact λ q=>h (Zj5 q)
theorem Zn9(h:p.take d.length=d)(a:p.length=d.length):under p d=true:=by
 rw[<- a,DH]at h;simp[under,h]
theorem ZoP(h:p.take d.length=d)(e:d.length<p.length):under p d=decide (((p[d.length]).toNat:Int)=47):=by
 obtain⟨u,rfl⟩:∃u,p=d++u:=⟨p.drop d.length,by
  have:=List.take_append_drop d.length p;rw[h]at this
  exact this.symm⟩
 cases u with
 | nil=>simp at e
 | cons c t =>
  have b:(d++c::t)[d.length]=c:=by simp
  rw[b,C8];simp only[under,DR,Df,Ep,A5]
  constructor
  ·rintro(q|⟨u,q⟩)
   ·simp at q
   ·rw[List.append_assoc,List.append_cancel_left_eq]at q;simp at q;rw[<- q.1];rfl
  ·intro q
   right
   have a:c.toNat=(47:UInt8).toNat:=by show c.toNat=47;omega
   have:c=47:=UInt8.toNat_inj.1 a;subst this;exact⟨t,by simp⟩
theorem Zqz{p d:ByteArray}:((p.extract 0 d.size).toList==d.toList)=(p.data.toList.take d.data.toList.length==d.data.toList):=by
 rw[Zb5,ByteArray.toList_mk,ByteArray.toList_eq,bsize]
theorem Ze7(p d:ByteArray)(w:Ap):
  At Am 184 #[Ae p,Ae d] w λ e w'=>e=Aj (Ad (under p.data.toList d.data.toList))/\w'=w:=by
 have hp:Hid _:=bsize p;have hd:Hid _:=bsize d;by_cases h:p.size<d.size
 ·rw[Zh6 (by rw[<- hp.o,<- hd.o];exact h)];go_enter func184,ntmps184;go_wp2;go_ret;exact⟨rfl,rfl⟩
 ·have X:=@Zqz p d
  obtain⟨f,a⟩:=Xa (((p.extract 0 d.size).toList==d.toList))
  cases f with
  | false =>
   rw[Znk (by rw[a]at X;simpa using X.symm)]
   have c:(!(p.extract 0 d.size).toList==d.toList)=true:=by rw[a];rfl
   have j:¬List.take d.size p.data.toList=d.data.toList:=by rw[a]at X;rw[hd.o];simpa using X.symm
   go_enter func184,ntmps184;go_wp2
   all_goals go_ret
   all_goals first
    | exact⟨rfl,rfl⟩
    | (exfalso;clear X hp hd;simp_all;done)
  | true =>
   have T:p.data.toList.take d.data.toList.length=d.data.toList:=by rw[a]at X;simpa using X.symm
   have c:(!(p.extract 0 d.size).toList==d.toList)=false:=by rw[a];rfl
   by_cases i:p.size=d.size
   ·rw[Zn9 T (by rw[<- hp.o,<- hd.o];exact i)];clear X T;go_enter func184,ntmps184;go_wp2
    all_goals go_ret
    all_goals exact⟨rfl,rfl⟩
   ·have g:d.size<p.size:=by omega
    have U:=ZoP T (by rw[<- hp.o,<- hd.o];exact g);rw[U]
    have e:(p.data.toList[d.data.toList.length]'(by rw[<- hp.o,<- hd.o];exact g))=p[d.size]:=by
     show p.data.toList[d.data.toList.length]'_=p.data.toList[d.size]'_
     congr 1
    rw[e];clear X T U;go_enter func184,ntmps184;go_wp2
    all_goals go_ret
    all_goals refine⟨A4 (λ b=>Aj (Ad b)) ?_,rfl⟩
    all_goals(rw[C8];simp;try omega)
def addB(ns:List Bs)(b:UInt8):List Bs:=if b=47 then ns++[[]]else ns.dropLast++[ns.getLastD []++[b]]
theorem Zfe:∀(l:Bs) (b:UInt8),names (l++[b])=addB (names l) b
 | [],b=>by
  by_cases h:b=47 <;> simp[names,addB,h]
 | a::t,b=>by
  have g:=Zfe t b;have c:=ZcS t;by_cases f:a=47
  ·simp only[Cs,names,f,Fa,g];by_cases d:b=47
   ·simp[addB,d]
   ·cases e:names t with
    | nil=>exact absurd e c
    | cons x y=>simp[addB,d]
  ·simp only[Cs,names,f,Eg,g];by_cases d:b=47
   ·cases e:names t with
    | nil=>exact absurd e c
    | cons x y=>simp[addB,d]
   ·cases e:names t with
    | nil=>exact absurd e c
    | cons x y=>cases y <;> simp[addB,d]
theorem ZeC(l:Bs):(names l).length<=l.length+1:=by
 have:=Zcd l;omega
theorem ZlI(h:i<l.length):l.take (i+1)=l.take i++[l[i]]:=Be h
theorem ZnD{c:List Bs}{k:Nat}{b:UInt8}(g:c.length=k+1)(i:¬b=47):addB c b=c.set k (el c k++[b]):=by
 rw[addB,Aw i]
 have f:c≠[]:=by intro e;rw[e]at g;simp at g
 obtain⟨a,y,rfl⟩:∃a y,c=a++[y]:=⟨c.dropLast,c.getLast f,(List.dropLast_concat_getLast f).symm⟩
 have d:a.length=k:=by simpa using g
 have h:el (a++[y]) k=y:=by rw[Za9 (by omega)];simp[<- d]
 rw[h];simp[<- d]
theorem ZiO:∀(b:List Bs) (x:Bs),x∈b->x.length<=b.flatten.length
 | a::t,x,h=>by
  rcases List.mem_cons.1 h with e|e
  ·subst e;simp
  ·have:=ZiO t x e;rw[List.flatten_cons,List.length_append];omega
theorem Zc0{x:Bs}(h:x∈names l):x.length<=l.length:=by
 have a:=ZiO _ _ h;have b:=Zcd l;have c:0<(names l).length:=List.length_pos_of_mem h;omega
theorem Zoq(a:Ap)(b:UInt8):
  (convert 61 9 (Aa (some ⟨a.heap.size,0,none⟩) 1 1)).run Am (a.alloc (Ai #[Ab .u8 b.toNat] 5)).drew=.ok (Ae ⟨#[b]⟩) (a.alloc (Ai #[Ab .u8 b.toNat] 5)).drew:=by
 have h:=run_convert_bytes_back (P:=Am) (a.alloc (Ai #[Ab .u8 b.toNat] 5)).drew 61 9 5 ⟨a.heap.size,0,none⟩ 1 [b] underlying61 underlying5 underlying9 (by
  intro j d
  have c:j=0:=by simpa using d
  subst c;show(a.alloc (Ai #[Ab .u8 b.toNat] 5)).cell? _=_;rw[ZcU,World.cell?_alloc_new]
  rfl)
 exact h
theorem ZeS(s:ByteArray)(hs:s.size<=102)(w:Ap):
  At Am 204 #[Ae s] w λ e w'=>∃v',e=Aj v'/\Own w' w.heap.size v' (names s.data.toList)/\An w.heap.size w w':=by
 have E:Hid (s.size=s.data.toList.length):=bsize s;go_enter func204,ntmps204;go_wp2_with fail;go_loopg[3,4] s.size (λ k ov v wr=>∃(i:Nat),v=Ab .i64 i/\i+k=s.size/\Hid (Own wr w.heap.size ov (names (s.data.toList.take i))/\An w.heap.size w wr))
 case atStart=>exact⟨0,rfl,by omega,World.ownsRow_lit w _ 1 (Az _) (by decide) rfl,(Ao _ w).alloc (Az _) _⟩
 case round =>
  obtain⟨i,rfl,hi,d⟩:=hrel;by_cases K:i<s.size
  ·have f:names (s.data.toList.take (i+1))=addB (names (s.data.toList.take i)) s[i]:=by
    rw[ZlI (by rw[<- E.o];exact K),Zfe]
    rfl
   obtain⟨b,U⟩:=Xa (s[i])
   rw[U]at f
   obtain⟨z,t⟩:=Xa (names (s.data.toList.take i))
   have r:=ZeC (s.data.toList.take i);have G:=ZcS (s.data.toList.take i);rw[t]at f r G d;have L:Hid _:=f;rw[AM]at r
   have Q:z.length<=103:=by omega
   clear f r;by_cases m:b=47
   ·subst m;have I:((47:UInt8).toNat:Int)=47:=rfl;go_wp2_with(at_builtin;refine ZaZ rfl (.tmp 16) (.tmp 17) rfl w.heap.size _ z [] _ rfl d.o.1 rfl (by omega) d.o.2.size ?_;intro v' w4 u n);go_roundg (gk - 1)
    case measure=>omega
    case rel=>exact⟨i+1,by go_num,by omega,by rw[L.o,addB,AE rfl];exact u,d.o.2.trans n⟩
   ·have I:((b.toNat:Int)==47)=false:=by
     rw[A7];intro e;exact m (UInt8.toNat_inj.1 (show b.toNat=47 by omega))
    obtain⟨k,P⟩:∃k,z.length=k+1:=⟨z.length - 1,by cases z with
     | nil=>exact absurd rfl G
     | cons x y=>simp⟩
    obtain⟨ao,cap,rfl,O,W,R⟩:=d.o.1.form
    obtain⟨g,J⟩:∃g,ao=some ⟨g,0,none⟩:=(ZfF d.o.1).elim λ a h=>h.elim λ c h=>by
     have:=h.2.2.2 (by omega);obtain⟨g,J⟩:=this;exact⟨g,by have:=h.1;cases this;exact J⟩
    subst J;rw[P]at d ⊢
    obtain⟨x,H⟩:=Xa (el z k)
    have C:=Zql d.o.1 (i:=k) (by omega);rw[H]at C;obtain⟨N,Y⟩:=C
    obtain⟨xb,l⟩:∃xb:ByteArray,(⟨x.toArray⟩:ByteArray)=xb:=⟨_,rfl⟩
    rw[l]at N
    have aa:xb.size<=102:=by
     have F:x∈names (s.data.toList.take i):=by rw[t,<- H];exact Zcj (by omega)
     have T:=Zc0 F;rw[AM]at T;rw[<- l,bsize];show x.length<=102;omega
    have D:g<wr.heap.size:=(d.o.1.lt g rfl).2
    have V:∀o,(wr.alloc o).cell? ⟨g,k,none⟩=some (Ae xb):=λ o=>(((Ao _ wr).alloc (Az _) o).cell (p:=⟨g,k,none⟩) D).trans N
    have Z:∀o,(wr.alloc o).frozen? ⟨g,k,none⟩=false:=λ o=>(((Ao _ wr).alloc (Az _) o).frozen (p:=⟨g,k,none⟩) D).trans Y
    have X:=λ ww=>Zoq ww b
    have M:Hid (el z k=x/\(⟨x.toArray⟩:ByteArray)=xb):=⟨H,l⟩
    clear R H l t;go_wp2_with fail;go_region;go_wp2;go_roundg (gk - 1)
    case measure=>omega
    case rel =>
     have S:xb++⟨#[b]⟩=⟨(x++[b]).toArray⟩:=by
      rw[<- M.o.2];apply ByteArray.ext;rw[ByteArray.data_append];simp
     rw[S]
     have A:An w.heap.size w (wr.setCell ⟨g,k,none⟩ (Ae ⟨(x++[b]).toArray⟩)) :=
      d.o.2.trans ((Zaa.refl (λ k=>k=g) wr).setCell (.inl rfl) _ |>.below d.o.2.size (λ j hj q=>by have:=(d.o.1.lt g rfl).1;omega))
     have B:An (wr.setCell ⟨g,k,none⟩ (Ae ⟨(x++[b]).toArray⟩)).heap.size (wr.setCell ⟨g,k,none⟩ (Ae ⟨(x++[b]).toArray⟩)) ((wr.setCell ⟨g,k,none⟩ (Ae ⟨(x++[b]).toArray⟩)).alloc (Ai #[Ab .u8 b.toNat] 5)).drew:=((Ao _ _).alloc (Az _) _).drew;refine⟨i+1,by go_num,by omega,?_,A.trans (B.mono A.size)⟩;rw[L.o,ZnD P m,M.o.1];exact(ZpG d.o.1 k (x++[b])).below B
  ·obtain rfl:i=s.size:=by omega
   rw[E.o,DH]at d;go_wp2;go_ret;exact⟨_,rfl,d.o.1,d.o.2⟩
theorem Zno{p:Bs->Bool}(h:i<a.length)(b:(a.take i).all p=true)(c:p (el a i)=true):(a.take (i+1)).all p=true:=by
 rw[Be h,List.all_append,b,<- Za9 h];simp[c]
theorem ZnL{p:Bs->Bool}(h:i<a.length)(b:p (el a i)=false):a.all p=false :=
 List.all_eq_false.2 ⟨_,Zcj h,by simp[b]⟩
theorem Zi8(l:Bs)(b:l.length<=9223372036854775807)(f:Bool)(a:isName l=f)(w:Ap):
  At Am 129 #[Ae ⟨l.toArray⟩] w λ e w'=>e=Aj (Ad f)/\w'=w:=by
 subst a;exact Zat ⟨l.toArray⟩ (by rw[bsize];exact b) w
theorem Zh0(s:ByteArray)(w:Ap):
  At Am 183 #[Ae s] w λ e w'=>e=Aj (Ad (isPath s.data.toList))/\An w.heap.size w w':=by
 have E:Hid (s.size=s.data.toList.length):=bsize s;by_cases h:s.size<=102
 ·have J:¬(102:Int)<s.size:=by omega
  have z:=ZeS s h w
  obtain⟨a,c⟩:=Xa (names s.data.toList)
  have m:isPath s.data.toList=(a.all isName&&decide (a.length<=6)):=by rw[isPath,Zd7,c]
  have l:∀x∈a,x.length<=102:=by
   intro x H;rw[<- c]at H;have:=Zc0 H;rw[<- E.o]at this;omega
  have j:=ZeC s.data.toList;rw[c,<- E.o]at j;rw[c]at z
  have P:Hid (isPath s.data.toList=(a.all isName&&decide (a.length<=6))/\∀x∈a,x.length<=102):=⟨m,l⟩
  clear m l c;go_enter func183,ntmps183;go_wp2_with fail;refine z.mono ?_;rintro e w1 ⟨M,rfl,F,C⟩;obtain⟨ao,cap,rfl,_,_,R⟩:=F.form
  obtain⟨n,f⟩:=Xa a.length
  have G:Hid (Rd w1 ao a/\a.length=n/\An w.heap.size w w1):=⟨R,f,C⟩
  rw[f]at j ⊢;clear F C R z f;go_wp2_with fail;go_loopg[4] n (λ k v wr=>∃(i:Nat),v=Ab .i64 i/\i+k=n/\wr=w1/\Hid ((a.take i).all isName=true))
  case atStart=>exact⟨0,rfl,by omega,rfl,rfl⟩
  case round =>
   obtain⟨i,rfl,hi,rfl,B⟩:=hrel;by_cases d:i<n
   ·have id:(i:Int)<(n:Int):=by omega
    obtain⟨b1,L,rfl,D,g⟩:=G.o.1 (by rw[G.o.2.1];omega)
    obtain⟨y,r⟩:=Xa (el a i)
    have I:=g i (by rw[G.o.2.1];omega);rw[r]at I
    have K:y.length<=102:=by rw[<- r];exact P.o.2 _ (Zcj (by rw[G.o.2.1];exact d))
    have X:Hid (el a i=y):=r;clear g r
    cases q:isName y with
    | true =>
     have u:=Zi8 y (by omega) true q;go_wp2_with fail;refine(u _).mono ?_;rintro e w' ⟨rfl,rfl⟩;go_wp2;go_roundg (gk - 1)
     case measure=>omega
     case rel=>exact⟨i+1,by go_num,by omega,rfl,Zno (by rw[G.o.2.1];exact d) B.o (by rw[X.o];exact q)⟩
    | false =>
     have u:=Zi8 y (by omega) false q;go_wp2_with fail;refine(u _).mono ?_;rintro e w' ⟨rfl,rfl⟩;go_wp2;go_ret;exact⟨by rw[P.o.1,ZnL (p:=isName) (i:=i) (by rw[G.o.2.1];exact d) (by rw[X.o];exact q)];rfl,G.o.2.2⟩
   ·obtain rfl:i=n:=by omega
    have t:=B.o;rw[Av (by rw[G.o.2.1];omega)]at t;have A:Hid (a.all isName=true):=t;clear t;go_wp2;go_ret;refine⟨A4 (λ b=>Aj (Ad b)) ?_,G.o.2.2⟩;rw[P.o.1,A.o,G.o.2.1,C8];simp
    try omega
 ·have J:(102:Int)<s.size:=by omega
  have m:isPath s.data.toList=false:=by
   rw[<- ZfG,refIs,<- E.o];simp;omega
  rw[m];go_enter func183,ntmps183;go_wp2;go_ret;exact⟨rfl,Ao _ _⟩
theorem Zl6(l:Bs)(f:Bool)(a:isPath l=f)(w:Ap):
  At Am 183 #[Ae ⟨l.toArray⟩] w λ e w'=>e=Aj (Ad f)/\An w.heap.size w w':=by
 subst a;exact Zh0 ⟨l.toArray⟩ w
theorem Zid(w:Ap)(s:RdG encE w ao es)(r:es.length=n)(E:n*24<=140737488355328):
  At Am 65 #[Aa ao n c] w λ e w'=>∃v,e=Aj v/\Hid (OwnG encE 233 w' w.heap.size v es/\An w.heap.size w w'):=by
 have H:Hid (RdG encE w ao es/\es.length=n):=⟨s,r⟩
 clear s r;go_enter func65,ntmps65;go_wp2_with fail;go_loopg[3,4] n (λ m rv D wr=>∃i:Nat,D=Ab .i64 i/\i+m=n/\Hid (OwnG encE 233 wr w.heap.size rv (es.take i)/\An w.heap.size w wr))
 case atStart=>exact⟨0,rfl,by omega,OwnG.nil _ _ _ _,Ao _ _⟩
 case round =>
  obtain⟨i,rfl,hi,a⟩:=hrel;by_cases l:i<n
  ·have id:(i:Int)<(n:Int):=by omega
   have C:(0:Int)<=(i:Int):=by omega
   obtain⟨e,h⟩:=Zaf H.o.2 l;obtain⟨b,off,rfl,y⟩:=H.o.1.some_of h;obtain⟨x,t,u⟩:=(H.o.1.below a.o.2).ents h;have g:=ZbE h;obtain⟨d,z⟩:=e;simp only at t u
   have f:(es.take i).length=i:=by rw[AM,H.o.2];omega
   have j:Hid (es.take (i+1)=es.take i++[(d,z)]/\(es.take i).length=i):=⟨g,f⟩
   clear h g f;go_wp2_with fail;go_region_law(refine Za2 encE 233 148 24 _ rfl Tryz.info233 underlying148 rfl (.tmp 11) (.tmp 23) rfl w.heap.size _ (es.take i) (d,z) rfl (a.o.1.below ((Ao _ wr).drew.trans (bz1 wr.drew _))) wr.heap.size rfl (Zau encE wr.drew (d,z) 233) (by rw[j.o.2];omega) (by rw[j.o.2];simp only[maxLen];omega) (by have:=a.o.2.size;simp;omega) ?_;intro v4 F p k A B)
   all_goals
    go_wp2;go_roundg (gk - 1)
    case measure=>omega
    case rel=>exact⟨i+1,by go_num,by omega,by rw[j.o.1];exact p,a.o.2.trans ((((bz1 wr _).drew).mono a.o.2.size).trans k)⟩
  ·obtain rfl:i=n:=by omega
   have q:es.take i=es:=Av (by rw[H.o.2];omega);rw[q]at a;go_wp2;go_ret;exact⟨_,rfl,a.o.1,a.o.2⟩
theorem Zma(p:Bs)(w:Ap)(s:RdG encE w ao es)(q:es.length=n)(A:n<=4000000000000000000)(o:Option UInt64)(r:ffind es p=o):
  At Am 207 #[Aa ao n c,tx p] w λ e w'=>e=Aj (.tuple #[Ab .u64 ((o.getD 0).toNat:Int),Ad o.isSome])/\An w.heap.size w w':=by
 have H:Hid (RdG encE w ao es/\es.length=n/\ffind es p=o):=⟨s,q,r⟩
 clear s q r;go_enter func207,ntmps207;go_wp2_with fail;go_loopg[6] n (λ m x wr=>∃i:Nat,x=Ab .i64 i/\i+m=n/\Hid ((es.take i).any (λ e=>e.1==p)=false/\An w.heap.size w wr))
 case atStart=>exact⟨0,rfl,by omega,rfl,Ao _ _⟩
 case round =>
  obtain⟨i,rfl,hi,f⟩:=hrel;by_cases j:i<n
  ·have id:(i:Int)<(n:Int):=by omega
   obtain⟨e,h⟩:=Zaf H.o.2.1 j;obtain⟨b,off,rfl,v⟩:=H.o.1.some_of h;obtain⟨_,t,u⟩:=(H.o.1.below f.o.2).ents h;obtain⟨d,z⟩:=e;simp only at t u;have l:Hid (es[i]? = some (d,z)):=h;clear h;by_cases g:d=p
   ·subst g;have a:=ZpK f.o.1 l.o rfl;rw[H.o.2.2]at a;subst a;go_wp2;refine As (AA rfl _ _ _) rfl ?_;exact⟨rfl,f.o.2⟩
   ·have y:(d==p)=false:=by simpa using g
    go_wp2;go_roundg (gk - 1)
    case measure=>omega
    case rel=>exact⟨i+1,by go_num,by omega,ZeB (p:=λ e:En=>e.1==p) l.o f.o.1 y,f.o.2⟩
  ·obtain rfl:i=n:=by omega
   have k:es.take i=es:=Av (by rw[H.o.2.1];omega);rw[k]at f;have a:=ZpJ f.o.1;rw[H.o.2.2]at a;subst a;go_wp2;refine As (AA rfl _ _ _) rfl ?_;exact⟨rfl,f.o.2⟩
def pickU(ids:List UInt64)(n:Int):UInt64:=if ids.length=0∨n<0 then 12345 else ids.getD (n.toNat % ids.length) 0
def pickI(ns:List Int)(i:Nat):Int:=ns.getD i 0
theorem ZbF{a:Option Addr}{L:Nat}{ids:List UInt64}(h:RdG encU w a ids)(f:ids.length=L)(v:L<=4000000000000000000)(n:Int)(x:Int)(d:((pickU ids n).toNat:Int)=x):
  At Am 11 #[Aa a L c,Ab .i64 n] w λ e w'=>e=Aj (Ab .u64 x)/\w'=w:=by
 by_cases q:L=0
 ·have e:x=12345:=by rw[<- d];unfold pickU;rw[AE (.inl (by omega))];rfl
  subst q e;clear h f d;go_enter func11,ntmps11;go_wp2;go_ret;exact⟨rfl,rfl⟩
 have z0:((L:Int)==0)=false:=by rw[A7];omega
 have A:¬(L:Int)=0:=by omega
 by_cases s:n<0
 ·have e:x=12345:=by rw[<- d];unfold pickU;rw[AE (.inr s)];rfl
  subst e;clear h f d;go_enter func11,ntmps11;go_wp2;go_ret;exact⟨rfl,rfl⟩
 obtain⟨m,rfl⟩:∃m:Nat,n=(m:Int):=⟨n.toNat,by omega⟩
 obtain⟨r,i⟩:=Xa (m % L)
 have k:r<L:=by rw[<- i];exact Nat.mod_lt _ (by omega)
 have u:(m:Int).tmod (L:Int)=(r:Int):=by rw[<- i];rfl
 obtain⟨y,j⟩:=Zaf f k
 have p:x=(y.toNat:Int):=by
  rw[<- d];unfold pickU;rw[Aw (by omega)];simp only[Int.toNat_natCast,f,i];rw[CS,j]
  rfl
 subst p;obtain⟨b,off,rfl,t⟩:=h.some_of j;obtain⟨_,o⟩:=h.nums j
 obtain⟨l,g⟩:∃l:Int,(y.toNat:Int)=l:=⟨_,rfl⟩
 rw[g]at o ⊢
 have w1:IntKind.i64.wrap (r:Int)=(r:Int):=by rw[IntKind.wrap_i64];omega
 have z:(r:Int)<(L:Int):=by omega
 clear h f d j g i;go_enter func11,ntmps11;go_wp2;go_ret;exact⟨rfl,rfl⟩
theorem ZcO{w:Ap}{a:Option Addr}{L c:Nat}{ns:List Int}(h:RdG encI w a ns)(hl:ns.length=L)(_hL:L<=4000000000000000000)(i:Nat)(x:Int)(hx:pickI ns i=x):
  At Am 71 #[Aa a L c,Ab .i64 (i:Int)] w λ e w'=>e=Aj (Ab .i64 x)/\w'=w:=by
 by_cases hi:i<L
 ·obtain⟨y,hy⟩:=Zaf hl hi
  have ex:y=x:=by rw[<- hx];unfold pickI;rw[CS,hy];rfl
  subst ex;obtain⟨b,off,rfl,hlt⟩:=h.some_of hy;have c0:=h.ints hy
  have iI:(i:Int)<(L:Int):=by omega
  have iJ:¬(L:Int)<=(i:Int):=by omega
  clear h hl hx hy;go_enter func71,ntmps71;go_wp2;go_ret;exact⟨rfl,rfl⟩
 ·have ex:x=0:=by rw[<- hx];unfold pickI;rw[CS,List.getElem?_eq_none (by omega)];rfl
  subst ex
  have iJ:(L:Int)<=(i:Int):=by omega
  clear h hl hx;go_enter func71,ntmps71;go_wp2;go_ret;exact⟨rfl,rfl⟩
def encT:Enc Bs:=⟨λ s=>[tx s],1,λ _=>rfl,by decide,by intro x u h;simp at h;subst h;rfl⟩
theorem RdG.txts {w:World} {b off:Nat} {ss:List Bs} (h:RdG encT w (some ⟨b,off,none⟩) ss) {i:Nat} {s:Bs} (hx:ss[i]? = some s):b<w.heap.size/\w.cell? ⟨b,off+i,none⟩=some (tx s):=by
 obtain ⟨b', off', e', hlt, hc⟩ := h (by rcases Nat.lt_or_ge i ss.length with q | q
                                         · omega
                                         · rw [List.getElem?_eq_none q] at hx; cases hx)
 obtain ⟨rfl,rfl⟩:b=b'/\off=off':=by simpa using e'
 have h0:=hc i s hx 0 _ rfl;exact ⟨hlt,by simpa [encT] using h0⟩
def BoxA(w:Ap)(B:Nat)(t:AP)(cs:Array Ar):Prop:=w.heap[B]? = some (Ai cs t (0,0))
section
variable{w w':World}{B:Nat}{t:TypeId}{cs:Array Value}
theorem BoxA.lt(h:BoxA w B t cs):B<w.heap.size:=(Array.getElem?_eq_some_iff.1 h).1
theorem BoxA.below{K:Nat}(h:BoxA w B t cs)(b:An K w w')(a:B<K):BoxA w' B t cs:=(b.block B a).trans h
theorem BoxA.turned{S:Nat->Prop}(h:BoxA w B t cs)(b:Zaa S w w')(a:¬S B):BoxA w' B t cs:=(b.block B h.lt a).trans h
theorem BoxA.cell(h:BoxA w B t cs){j:Nat}{v:Ar}(a:cs[j]? = some v):w.cell? ⟨B,j,none⟩=some v:=by
 unfold BoxA at h;simp[World.cell?,h,a]
theorem BoxA.thaw(h:BoxA w B t cs)(j:Nat):w.frozen? ⟨B,j,none⟩=false:=by
 unfold BoxA at h;simp[World.frozen?,h]
theorem BoxA.new(w:Ap)(t:AP)(cs:Array Ar):BoxA (w.alloc (Ai cs t)) w.heap.size t cs:=by
 unfold BoxA World.alloc;simp
theorem BoxA.put(h:BoxA w B t cs)(j:Nat)(v:Ar):BoxA (w.setCell ⟨B,j,none⟩ v) B t (cs.setIfInBounds j v):=by
 unfold BoxA at h ⊢;simp[World.setCell,Array.getElem?_modify,h]
end
abbrev actC(k:Int)(dv pv qv:Ar)(nm:ByteArray)(dt kp:Int):Array Ar:=#[Ab .i64 k,dv,pv,qv,Ae nm,Ab .i64 dt,Ab .i64 kp]
abbrev actV(k:Int)(dv pv qv:Ar)(nm:ByteArray)(dt kp:Int):Ar:=.agg (actC k dv pv qv nm dt kp)
def aent(ps:List Bs)(qs:List Int)(ids:List UInt64)(i:Nat):En:=(ps.getD i [],pickU ids (pickI qs i))
def aents(ps:List Bs)(qs:List Int)(ids:List UInt64):List En:=(List.range ps.length).map (aent ps qs ids)
theorem Za5{b:Array Oper}{o:Oper}{a:Act}{K:Act->Ap->Prop}{Q:Exit->Act->Ap->Prop}{X:Prop}(k:o.guard=none)(x y:Operand)(f:Nat)(ts:Array AP)
  (c:o.op=.call { callee:=.value (.func f),args:=#[x,y],argTypes:=ts }) (g:∀args w,(Cq f args).run Am w=.ok (.enter f args) w) (d u2 v:Ar) (m:a.eval x=d) (n:a.eval y=u2)
  (i:At Am f #[d,u2] w λ e w'=>e=Aj v/\w'=w) (h:K (a.put o.dst v) w) :
  if Region.wanted o (yielded b a.tmps)=true then Oper.wp Am o a w K Q else X:=by
 have l:Region.wanted o (yielded b a.tmps)=true:=by simp[Region.wanted,k]
 rw[AE l];unfold Oper.wp
 have e:(execOp a.eval o).run Am w=.ok (.enter f #[d,u2]) w:=by
  have j:a.eval (.func f)=.func (.func f) #[] #[]:=rfl;simp[execOp,c,resolve,invoke,m,n,j,Deferred.ofValue,g]
 rw[e,Oper.upon_enter];refine i.mono ?_;rintro e w' ⟨rfl,rfl⟩;exact h
theorem Zct:∀args w,(Cq 71 args).run Am w=.ok (.enter 71 args) w:=enters_of func71 (by kernel_rfl) rfl
theorem Zbk:∀args w,(Cq 11 args).run Am w=.ok (.enter 11 args) w:=enters_of func11 (by kernel_rfl) rfl
theorem Zcl(w:Ap)(a b c:Array Ar)(t1 t2 t3:AP):
  BoxA (((w.alloc (Ai a t1)).alloc (Ai b t2)).alloc (Ai c t3)) w.heap.size t1 a /\
  BoxA (((w.alloc (Ai a t1)).alloc (Ai b t2)).alloc (Ai c t3)) (w.heap.size+1) t2 b /\
  BoxA (((w.alloc (Ai a t1)).alloc (Ai b t2)).alloc (Ai c t3)) (w.heap.size+2) t3 c /\
  An w.heap.size w (((w.alloc (Ai a t1)).alloc (Ai b t2)).alloc (Ai c t3)):=by
 have e:(w.alloc (Ai a t1)).heap.size=w.heap.size+1:=by simp
 have f:((w.alloc (Ai a t1)).alloc (Ai b t2)).heap.size=w.heap.size+2:=by simp
 have b1:=bz1 (w.alloc (Ai a t1)) (Ai b t2);have b2:=bz1 ((w.alloc (Ai a t1)).alloc (Ai b t2)) (Ai c t3);have g:=BoxA.new w t1 a;have n2:=BoxA.new (w.alloc (Ai a t1)) t2 b;have d:=BoxA.new ((w.alloc (Ai a t1)).alloc (Ai b t2)) t3 c;rw[e]at b1 n2;rw[f]at b2 d;exact⟨(g.below b1 (by omega)).below b2 (by omega),n2.below b2 (by omega),d,((bz1 w _).trans (b1.mono (by omega))).trans (b2.mono (by omega))⟩
end Go.Proofs.YtlojblelpaegpaaGreat
