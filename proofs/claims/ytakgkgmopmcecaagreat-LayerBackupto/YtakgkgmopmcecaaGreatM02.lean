import Derived.Test.YtakgkgmopmcecaaGreatM01
import Derived.Shelf.LaysM
import Derived.Shelf.SlIter.Sorted
set_option maxHeartbeats 6400000
set_option maxRecDepth 100000
open Go renaming World->Ap,Calls->At,bodyPost_ret->As,results_tmp2->AD,maxLen->AH,Value->Ar,heap_alloc_new->Cg
open Bool renaming false_and->FZ,true_and->Ci,and_eq_true->Bn
open Go.RowKit renaming Below->An
open Go.RowKit.Below renaming refl->Ao
open List renaming take_of_length_le->Av,length_take->AE,take_sublist->GZ,take_add_one->AW,mem_of_getElem?->A8,length_append->Ax,any_eq_false->Es,find?_eq_none->GU,nodup_append->Cr,map->If
open Nat renaming lt_succ_self->Fu,le_refl->AA,zero_le->Bw,lt_of_lt_of_le->AK
open UInt8 renaming ofNat->AX,toNat_ofNat'->Bm
open Go.Value renaming int->Ab,slice->Aa,bool->Ad,string->Ae,tuple->Af,agg->Ag,pointer->Ah
open Go.IntKind renaming u8->Em,i64->Ak,u64->Al
open Go.Obj renaming cells->Ai
open Go.Ending renaming returned->Aj
open Go.Proofs.Tryz renaming prog->Am
open Go.Proofs.Tryz
namespace Go.Proofs.YtakgkgmopmcecaaGreat
open Go.RowKit
variable {B R c i m n:Nat}{ao:Option Addr}{bs own p x:Bs}{d d':Dk}{e:En}{es:List En}{l v z:Ar}{r:Rs}{w w':Ap}{xs:List UInt64}{xss:List Bs}
theorem QZ(p d:ByteArray)(r:Bs)(f:Bool)(a:d.data.toList.isPrefixOf p.data.toList=f)(b:r=if f then p.data.toList.drop d.data.toList.length else p.data.toList)(w:Ap):
  At Am 222 #[Ae p,Ae d] w λ e w'=>e=Aj (Af #[Ae ⟨r.toArray⟩,Ad f])/\w'=w:=by
 have h:=Any.strings_CutPrefix mJ p d w;subst a b;exact h
theorem gC(r:Bs)(g:Bool)(a:[47].isPrefixOf r=g)(w:Ap):
  At Am 223 #[Ae ⟨r.toArray⟩,Ae ⟨#[47]⟩] w λ e w'=>e=Aj (Ad g)/\w'=w:=by
 subst a;exact Any.strings_HasPrefix mN ⟨r.toArray⟩ ⟨#[47]⟩ w
theorem Tz(p d:ByteArray)(w:Ap):
  At Am 212 #[Ae p,Ae d] w λ e w'=>e=Aj (Ad (under p.data.toList d.data.toList))/\w'=w:=by
 have U:=Yw p.data.toList d.data.toList
 obtain⟨f,a⟩:=Xa (d.data.toList.isPrefixOf p.data.toList)
 rw[<- U,a]
 cases f with
 | false =>
  have c:=QZ p d _ false a rfl;rw[FZ];clear U a;go_enter func212,ntmps212;go_wp2_with fail;refine(c _).mono ?_;rintro e w' ⟨rfl,rfl⟩;go_wp2;go_ret;exact⟨rfl,rfl⟩
 | true =>
  obtain⟨r,b⟩:=Xa (p.data.toList.drop d.data.toList.length);have c:=QZ p d r true a b.symm;rw[b,Ci];clear U a b
  cases b:r==[]with
  | true =>
   obtain rfl:r=[]:=by simpa using b
   go_enter func212,ntmps212;go_wp2_with fail;refine(c _).mono ?_;rintro e w' ⟨rfl,rfl⟩;go_wp2;go_ret;exact⟨rfl,rfl⟩
  | false =>
   obtain⟨g,h⟩:=Xa ([47].isPrefixOf r);have i:=gC r g h;rw[h];clear h;go_enter func212,ntmps212;go_wp2_with fail;refine(c _).mono ?_;rintro e w' ⟨rfl,rfl⟩;go_wp2_with fail;refine(i _).mono ?_;rintro e w' ⟨rfl,rfl⟩;go_wp2;go_ret;exact⟨rfl,rfl⟩
def gZ:ju En:=⟨λ e=>[tx e.1,Ab Al (e.2.toNat:Int)],2,λ _=>rfl,by decide,by intro x u h;simp at h;rcases h with rfl|rfl <;> rfl⟩
theorem Tryz.info125:(Am.info? 125).map (λ i=>(i.zero,i.size,i.bytes))=some (some (Ag #[Ae ⟨#[]⟩,Ab Al 0]),2,24):=by kernel_rfl
theorem Tryz.info203:(Am.info? 203).map (λ i=>(i.zero,i.size,i.bytes))=some (some (Ag #[Ae ⟨#[]⟩,Ab Al 0]),2,24):=by kernel_rfl
theorem Tryz.info63:(Am.info? 63).map (λ i=>(i.zero,i.size,i.bytes))=some (some (Ab Al 0),1,8):=by kernel_rfl
theorem Tryz.info61:(Am.info? 61).map (λ i=>(i.zero,i.size,i.bytes))=some (some (Ab Al 0),1,8):=by kernel_rfl
theorem gQ.ents {w:World} {b off:Nat} {es:List En} (h:gQ gZ w (some ⟨b,off,none⟩) es) {i:Nat} {e:En} (hx:es[i]? = some e):b<w.heap.size/\w.cell? ⟨b,off+i*2,none⟩=some (tx e.1)/\w.cell? ⟨b,off+i*2+1,none⟩=some (.int .u64 (e.2.toNat:Int)):=by
 obtain ⟨b', off', e', hlt, hc⟩ := h (by rcases Nat.lt_or_ge i es.length with q | q
                                         omega
                                         rw [List.getElem?_eq_none q] at hx; cases hx)
 obtain ⟨rfl,rfl⟩:b=b'/\off=off':=by simpa using e'
 have h0:=hc i e hx 0 _ rfl;have h1:=hc i e hx 1 _ rfl;exact ⟨hlt,by simpa [gZ] using h0,by simpa [gZ,Nat.add_assoc] using h1⟩
theorem RQ(p:Bs)(B:Nat)(d:Bs)(z:Int)(w:Ap)(b:w.cell? ⟨B,0,none⟩=some (tx p))(f:Bool)(a:under p d=f):
  At Am 218 #[Ag #[tx d,Ab Al z],Ah (some ⟨B,0,none⟩)] w λ e w'=>e=Aj (Ad f)/\Iz w w':=by
 have c:B<w.heap.size:=World.block_lt_of_cell? w _ b;have h:=Tz ⟨p.toArray⟩ ⟨d.toArray⟩ (w.alloc (Ai #[tx d,Ab Al z] 125))
 change At Am 212 #[Ae ⟨p.toArray⟩,Ae ⟨d.toArray⟩] _ λ e w'=>e=Aj (Ad (under p d))/\w'=_ at h
 rw[a]at h
 have ne:B≠w.heap.size:=by omega
 clear a;go_enter func218,ntmps218;go_wp2_with fail;refine h.mono ?_;rintro e w' ⟨rfl,rfl⟩;go_wp2;go_ret;exact⟨rfl,gW _ _⟩
theorem VZ:∀args w,(callFunc 218 args).run Am w=.ok (.enter 218 args) w:=enters_of func218 (by kernel_rfl) rfl
theorem VO(p:Bs)(w:Ap)(m:w.cell? ⟨B,0,none⟩=some (tx p))(x:gQ gZ w ao es)(y:es.length=n)(G:n<=4000000000000000000):
  At Am 225 #[Aa ao n c,.func (.func 218) #[] #[Ah (some ⟨B,0,none⟩)]] w λ e w'=>∃r:Int,e=Aj (Ab Ak r)/\decide (0<=r)=es.any (λ e=>under p e.1)/\Iz w w':=by
 have H:=I4 x y m (World.block_lt_of_cell? w _ m:B<w.heap.size)
 clear x y m;have F:=VZ;go_enter func225,ntmps225;go_wp2_with fail;go_loopg[5,8] n (λ k _ v wr=>∃(i:Nat),v=Ab Ak i/\i+k=n/\Hid ((es.take i).any (λ e=>under p e.1)=false)/\Hid (Iz w wr))
 case atStart=>exact⟨0,rfl,by omega,rfl,Ao _ _⟩
 case round =>
  obtain⟨i,rfl,hi,t,h⟩:=hrel;by_cases q:i<n
  have id:(i:Int)<(n:Int):=by omega
  obtain⟨e,l⟩:=BK H.o.2.1 q;obtain⟨b,off,rfl,E⟩:=H.o.1.some_of l;obtain⟨_,D,u⟩:=(H.o.1.below h.o).ents l;obtain⟨d,z⟩:=e;obtain⟨C,A⟩:=Xa ((z.toNat:Int));simp only at D u;rw[A]at u;have f:wr.cell? ⟨B,0,none⟩=some (tx p):=(h.o.cell H.o.2.2.2).trans H.o.2.2.1;have s:=Ih l;clear l A
  cases g:under p d with
  | true =>
   have a:=RQ p B d C wr f true g;clear f;go_wp2_with(go_at_fn 218;refine a.mono ?_;rintro e w' ⟨rfl,j⟩);go_ret;exact⟨i,rfl,by rw[Tq (p:=λ e=>under p e.1) s.o g];simp,h.o.trans (j.mono h.o.size)⟩
  | false =>
   have a:=RQ p B d C wr f false g;clear f;go_wp2_with(go_at_fn 218;refine a.mono ?_;rintro e w' ⟨rfl,j⟩);go_roundg (gk - 1)
   case measure=>omega
   case rel=>exact⟨i+1,by go_num,by omega,MB (es:=es) (p:=λ e:En=>under p e.1) s.o t.o g,h.o.trans (j.mono h.o.size)⟩
  obtain rfl:i=n:=by omega
  go_wp2;go_ret;refine⟨-1,rfl,?_,h.o⟩;have e:=t.o;rw[Av (by rw[H.o.2.1];omega)]at e;rw[e]
  rfl
theorem Qf(p:Bs)(w:Ap)(a:w.cell? ⟨B,0,none⟩=some (tx p))(b:gQ gZ w ao es)(g:es.length=n)(k:n<=4000000000000000000)(f:Bool)(d:es.any (λ e=>under p e.1)=f):
  At Am 217 #[Aa ao n c,.func (.func 218) #[] #[Ah (some ⟨B,0,none⟩)]] w λ e w'=>e=Aj (Ad f)/\Iz w w':=by
 have h:=VO (c:=c) p w a b g k;rw[d]at h;clear a b g d;go_enter func217,ntmps217;go_wp2_with fail;refine h.mono ?_;rintro e w' ⟨r,rfl,i,j⟩;have R:=Ih i;clear i;go_wp2;go_ret;exact⟨by rw[<- R.o];rfl,j⟩
theorem fS(p:Bs)(w:Ap):
  At Am 200 #[tx p,Aa ao 0 c] w λ e w'=>e=Aj (Ad true)/\Iz w w':=by
 have b:∀m,_:=λ m=>Qf (ao:=ao) (c:=c) (n:=0) (B:=w.heap.size) (es:=[]) p ((w.alloc (Ai #[tx p] 9)).drewN m) (((jq _ m).cell (by simp)).trans (by simp)) (gQ.nil _ _ _) rfl (by omega) false rfl
 go_enter func200,ntmps200;go_wp2_with fail;go_quiet (fail);go_wp2_with fail;refine(b _).mono ?_;rintro e w' ⟨rfl,a⟩;go_wp2;go_ret;exact⟨rfl,((gW w _).trans ((jq _ _).mono (gW w _).size)).trans (a.mono (gW w _).size)⟩
theorem U6(p:Bs)(w:Ap)(l:gQ gZ w ao es)(r:es.length=m+1)(C:m+1<=4000000000000000000):
  At Am 200 #[tx p,Aa ao (m+1) c] w λ e w'=>e=Aj (Ad (fits p es))/\Iz w w':=by
 obtain⟨e,q⟩:=BK r (Fu m);obtain⟨b,off,rfl,a⟩:=l.some_of q
 obtain⟨W,s⟩:=Xa (w.alloc (Ai #[tx p] 9))
 have j:Iz w W:=by rw[<- s];exact gW _ _
 have x:W.cell? ⟨w.heap.size,0,none⟩=some (tx p):=by rw[<- s];simp
 have t:W.heap.size=w.heap.size+1:=by rw[<- s];simp
 obtain⟨A,v,_⟩:=(l.below j).ents q;obtain⟨d,z⟩:=e;simp only at v
 have i:fits p es=(decide (d<p)&&!(es.any λ e=>under p e.1)):=by
  unfold fits
  have:es.getLast? = some (d,z):=by rw[List.getLast?_eq_getElem?,r];exact q
  rw[this]
 obtain⟨f,g⟩:=Xa ((es.any λ e=>under p e.1))
 rw[g]at i
 have u:∀k,_:=λ k=>Qf (ao:=some ⟨b,off,none⟩) (c:=c) (n:=m+1) (B:=w.heap.size) p (W.drewN k) (((jq _ k).cell (by rw[t];exact Fu _)).trans x) ((l.below j).below (jq _ k)) r C f g
 have H:=I2 j t
 have h:=Ho d p;clear j t l q g r;by_cases a:d<p
 ·have D:Op.bytesLess p d=false:=by rw[Ho,Az];exact List.lt_asymm a
  have E:(p==d)=false:=by rw[A3];rintro rfl;exact List.lt_irrefl _ a
  rw[i,F0 a,Ci];clear i h a;go_enter func200,ntmps200;go_wp2_with fail;go_quiet (fail);go_wp2_with fail;refine(u _).mono ?_;rintro e w' ⟨rfl,y⟩;go_wp2;go_ret;exact⟨rfl,(H.o.1.trans ((jq _ _).mono H.o.1.size)).trans (y.mono H.o.1.size)⟩
 ·rw[i,Dd a,FZ];clear u i h;by_cases hq:p=d
  ·subst hq;clear a;go_enter func200,ntmps200;go_wp2_with fail;go_quiet (fail);go_wp2;go_ret;exact⟨rfl,H.o.1.trans ((jq _ _).mono H.o.1.size)⟩
  ·have D:Op.bytesLess p d=true:=by
    rw[Ho,CZ];by_cases k:p<d
    ·exact k
    ·exact absurd (List.le_antisymm a k) hq
   clear a hq;go_enter func200,ntmps200;go_wp2_with fail;go_quiet (fail);go_wp2;go_ret;exact⟨rfl,H.o.1.trans ((jq _ _).mono H.o.1.size)⟩
theorem Zz(p:Bs)(w:Ap)(b:gQ gZ w ao es)(a:es.length=n)(g:n<=4000000000000000000)(f:Bool)(d:fits p es=f):
  At Am 200 #[tx p,Aa ao n c] w λ e w'=>e=Aj (Ad f)/\Iz w w':=by
 subst d
 cases n with
 | zero =>
  obtain rfl:es=[]:=List.eq_nil_of_length_eq_zero a;exact fS p w
 | succ m=>exact U6 p w b a g
theorem Yt(x:UInt64)(w:Ap)(j:gQ gR w ao xs)(l:xs.length=n)(t:n<=4000000000000000000):
  At Am 219 #[Aa ao n c,Ab Al (x.toNat:Int)] w λ e w'=>∃r:Int,e=Aj (Ab Ak r)/\decide (0<=r)=xs.any (λ y=>x==y)/\w'=w:=by
 have H:=I2 j l
 clear j l;go_enter func219,ntmps219;go_wp2_with fail;go_loopg[5,8] n (λ k _ v wr=>∃(i:Nat),v=Ab Ak i/\i+k=n/\wr=w/\Hid ((xs.take i).any (λ y=>x==y)=false))
 case atStart=>exact⟨0,rfl,by omega,rfl,rfl⟩
 case round =>
  obtain⟨i,rfl,hi,rfl,h⟩:=hrel;by_cases f:i<n
  ·have id:(i:Int)<(n:Int):=by omega
   obtain⟨y,d⟩:=BK H.o.2 f;obtain⟨b,off,rfl,m⟩:=H.o.1.some_of d;obtain⟨_,s⟩:=H.o.1.nums d;have g:=Ih d;clear d;by_cases a:x=y
   ·subst a;go_wp2;go_ret;exact⟨i,rfl,by rw[Tq (p:=λ y=>x==y) g.o (by simp)];simp,rfl⟩
   ·have u:((x.toNat:Int)==(y.toNat:Int))=false:=by
     rw[A3];intro q;exact a (UInt64.toNat_inj.1 (by omega))
    have z:(x.toNat==y.toNat)=false:=by
     rw[A3];intro q;exact a (UInt64.toNat_inj.1 q)
    go_wp2;go_roundg (gk - 1)
    case measure=>omega
    case rel=>exact⟨i+1,by go_num,by omega,rfl,MB (p:=λ y=>x==y) g.o h.o (by simpa using a)⟩
  ·obtain rfl:i=n:=by omega
   go_wp2;go_ret;refine⟨-1,rfl,?_,rfl⟩;have e:=h.o;rw[Av (by rw[H.o.2];omega)]at e;rw[e]
   rfl
theorem YG(x:UInt64)(w:Ap)(a:gQ gR w ao xs)(d:xs.length=n)(i:n<=4000000000000000000)(f:Bool)(b:xs.any (λ y=>x==y)=f):
  At Am 201 #[Aa ao n c,Ab Al (x.toNat:Int)] w λ e w'=>e=Aj (Ad f)/\w'=w:=by
 have h:=Yt (c:=c) x w a d i;rw[b]at h;clear a d b;go_enter func201,ntmps201;go_wp2_with fail;refine h.mono ?_;rintro e w' ⟨r,rfl,g,rfl⟩;have R:=Ih g;clear g;go_wp2;go_ret;exact⟨by rw[<- R.o];rfl,rfl⟩
structure lR(w:Ap)(R:Nat)(r:Rs):Prop where
 at_:∃a c,jo w R 305 (Aa a r.1.length c) (Ad r.2)/\∀u,An R w u->iE u (Aa a r.1.length c) r.1
theorem lR.lt(h:lR w R r):R<w.heap.size:=by
 obtain⟨a,c,b,_⟩:=h.at_;exact b.lt
theorem lR.over(h:lR w R r)(b:An (R+1) w w'):lR w' R r:=by
 obtain⟨a,c,d,e⟩:=h.at_;exact⟨a,c,(b.block R (Fu R)).trans d,λ u f=>e u ((b.mono (Nat.le_succ R)).trans f)⟩
theorem lR.below(h:lR w R r)(a:Iz w w'):lR w' R r:=h.over (a.mono h.lt)
theorem lR.new{a:Option Addr}(h:iE w (Aa a n c) bs)(b:bs.length=n):lR (w.alloc (Ai #[Aa a n c,Ad false] 305)) w.heap.size (bs,false):=by
 subst b;exact⟨a,c,jo.new _ _ _ _,λ u d=>h.below ((gW w _).trans d)⟩
theorem Zw(h:lR w R r)(k:Nat)(g:r.1.length<k):
  At Am 208 #[Ah (some ⟨R,0,none⟩),Ab Ak (k:Int)] w λ e w'=>e=Aj (Aa none 0 0)/\Hid (lR w' R ([],true)/\Aw (λ i=>i=R) w w'):=by
 obtain⟨a,c,b,f⟩:=h.at_
 obtain⟨n,d⟩:=Xa r.1.length
 rw[d]at b g
 have q:(n:Int)<(k:Int):=by omega
 obtain⟨m,s⟩:=b.cells;obtain⟨j,l⟩:=b.thaw;have H:=Ih b;clear h b f d;go_enter func208,ntmps208;go_wp2;go_ret;refine⟨rfl,⟨none,0,H.o.put _ _,λ u _=>⟨none,0,rfl,AA _,by omega,gQ.nil _ _ _⟩⟩,?_⟩;exact((Aw.refl (λ i=>i=R) w).setCell (p:=⟨R,0,none⟩) (.inl (show R=R from rfl)) _).setCell (p:=⟨R,1,none⟩) (.inl (show R=R from rfl)) _
theorem eS(h:lR w R r)(k:Nat)(D:¬r.1.length<k):
  At Am 208 #[Ah (some ⟨R,0,none⟩),Ab Ak (k:Int)] w λ e w'=>∃a c,e=Aj (Aa a k c)/\Hid (iE w' (Aa a k c) (r.1.take k)/\lR w' R (r.1.drop k,r.2)/\Aw (λ i=>i=R) w w'):=by
 obtain⟨a,c,d,g⟩:=h.at_
 obtain⟨n,j⟩:=Xa r.1.length
 rw[j]at d g D
 have q:decide ((n:Int)<(k:Int))=false:=by rw[Az];omega
 have o:(n<=c/\c<=9223372036854775807)/\∀u,An R w u->gQ gP u a r.1:=by
  constructor
  obtain⟨ao,c',e,x,y,_⟩:=g w (Ao _ _);rw[j]at e x;cases e;exact⟨x,y⟩;intro u b;obtain⟨ao,c',e,_,_,E⟩:=g u b;cases e;exact E
 obtain⟨a2,f,s2,z,F,B⟩:=Kl (ao:=a) (n:=n) (c:=c) (k:=k) o.1.1 (by omega);obtain⟨a3,m,s3,A,G,C⟩:=Kq (ao:=a) (n:=n) (c:=c) (k:=k) o.1.1 (by omega);obtain⟨K,L⟩:=d.cells;obtain⟨I,J⟩:=d.thaw
 have s:(r.1.take k).length=k:=by rw[AE];omega
 have l:(r.1.drop k).length=n - k:=by rw[List.length_drop];omega
 have H:Hid (jo w R 305 (Aa a n c) (Ad r.2)/\(∀u,An R w u->iE u (Aa a3 k m) (r.1.take k))/\(∀u,An R w u->iE u (Aa a2 (n - k) f) (r.1.drop k))/\(r.1.drop k).length=n - k):=by
  have y:=o.1.2;refine⟨d,λ u b=>⟨a3,m,by rw[s],by rw[s];exact A,by omega,C u _ (o.2 u b)⟩,λ u b=>⟨a2,f,by rw[l],by rw[l];exact z,by omega,B u _ j (o.2 u b)⟩,l⟩
 clear h d g j o z F A G B C s l;go_enter func208,ntmps208;go_wp2;go_ret;have v:Aw (λ i=>i=R) w (w.setCell ⟨R,0,none⟩ (Aa a2 (n - k) f)):=(Aw.refl (λ i=>i=R) w).setCell (p:=⟨R,0,none⟩) (.inl (show R=R from rfl)) _;have t:=JR H.o.1.lt v;refine⟨a3,m,rfl,H.o.2.1 _ t,⟨a2,f,?_⟩,v⟩;simp only;rw[H.o.2.2.2];exact⟨H.o.1.put0 _,λ u b=>H.o.2.2.1 u (t.trans b)⟩
theorem NT(h:lR w R r)(k:Nat):
  At Am 208 #[Ah (some ⟨R,0,none⟩),Ab Ak (k:Int)] w λ e w'=>∃a n c,e=Aj (Aa a n c)/\Hid (n=(ie k r).1.length/\iE w' (Aa a n c) (ie k r).1/\lR w' R (ie k r).2/\Aw (λ i=>i=R) w w'):=by
 by_cases b:r.1.length<k
 have e:ie k r=([],([],true)):=by unfold ie;rw[AC b]
 rw[e];refine(Zw h k b).mono ?_;rintro e w' ⟨rfl,J⟩;exact⟨none,0,0,rfl,rfl,⟨none,0,rfl,AA _,by omega,gQ.nil _ _ _⟩,J.o.1,J.o.2⟩
 have e:ie k r=(r.1.take k,(r.1.drop k,r.2)):=by unfold ie;rw[Ay b]
 rw[e];refine(eS h k b).mono ?_;rintro e w' ⟨a,c,rfl,J⟩;exact⟨a,k,c,rfl,by rw[AE];omega,J.o.1,J.o.2.1,J.o.2.2⟩
theorem LY(h:lR w R r)(v:Nat)(k:Rs)(g:iX r=(v,k)):
  At Am 185 #[Ah (some ⟨R,0,none⟩)] w λ e w'=>e=Aj (Ab Al (v:Int))/\Hid (lR w' R k/\Aw (λ i=>i=R) w w'):=by
 have j:=NT h 8;have b:=IV 8 r;unfold iX at g
 obtain⟨t,d⟩:=Xa (ie 8 r)
 rw[d]at j g b
 obtain⟨f,rfl⟩:val t.1=v/\t.2=k:=by simpa using g
 clear g d h;go_enter func185,ntmps185;go_wp2_with fail;refine j.mono ?_;rintro e w1 ⟨a,n,c,rfl,J⟩;have l:=QB J.o.2.1 J.o.1.symm (by rw[J.o.1];exact b);rw[f]at l;clear j f;go_wp2_with fail;refine l.mono ?_;rintro e m ⟨rfl,rfl⟩;go_wp2;go_ret;exact⟨rfl,J.o.2.2.1,J.o.2.2.2⟩
theorem Sb(h:lR w R r)(v:Nat)(l:Rs)(d:jM r=(v,l)):
  At Am 186 #[Ah (some ⟨R,0,none⟩)] w λ e w'=>e=Aj (Ab Ak (v:Int))/\Hid (lR w' R l/\Aw (λ i=>i=R) w w'):=by
 have j:=NT h 1;have g:=IV 1 r;have k:=NM r;rw[d]at k;unfold jM at d
 obtain⟨t,b⟩:=Xa (ie 1 r)
 rw[b]at j d g
 obtain⟨f,rfl⟩:val t.1=v/\t.2=l:=by simpa using d
 clear d b h;go_enter func186,ntmps186;go_wp2_with fail;refine j.mono ?_;rintro e w1 ⟨a,n,c,rfl,J⟩;have m:=QB J.o.2.1 J.o.1.symm (by rw[J.o.1];omega);rw[f]at m
 have p:Ak.wrap (v:Int)=(v:Int):=by rw[IntKind.wrap_i64];omega
 clear j f;go_wp2_with fail;refine m.mono ?_;rintro e q ⟨rfl,rfl⟩;go_wp2;go_ret;exact⟨rfl,J.o.2.2.1,J.o.2.2.2⟩
theorem QX(h:lR w R r)(t:ByteArray)(k:Rs)(d:jQ r=(t.data.toList,k)):
  At Am 187 #[Ah (some ⟨R,0,none⟩)] w λ e w'=>e=Aj (Ae t)/\Hid (lR w' R k/\Aw (λ i=>i=R) w w'):=by
 obtain⟨n,f,g⟩:∃n f,jM r=(n,f):=⟨_,_,rfl⟩
 have b:=Sb h n f g;unfold jQ at d;rw[g]at d;simp only at d;have p:=Ih d;clear d g h;go_enter func187,ntmps187;go_wp2_with fail;refine b.mono ?_;rintro e w1 ⟨rfl,J⟩;have j:=NT J.o.1 n;rw[p.o]at j;clear b;go_wp2_with fail;refine j.mono ?_;rintro e l ⟨a,m,c,rfl,K⟩
 have s:(convert 24 9 (Aa a m c)).run Am l=.ok (Ae t) l:=by
  have:=Ga K.o.2.1;simpa using this
 clear j;go_wp2;go_ret;exact⟨rfl,K.o.2.2.1,J.o.2.trans K.o.2.2.2 (λ _ _ q=>q)⟩
theorem Zn(h:¬Tr (es.take i)):¬Tr es:=λ q=>h (List.Pairwise.sublist (GZ i es) q)
theorem KF{α:Type}{es:List α}{e:α}(h:es[i]? = some e):es.take (i+1)=es.take i++[e]:=by
 rw[AW,h]
 rfl
theorem S7(h:es[i]? = some e)(a:((es.take i).all λ e=>gV e.1)=true)(b:gV e.1=true):((es.take (i+1)).all λ e=>gV e.1)=true:=by
 rw[KF h,List.all_append,a];simp[b]
theorem Tc(h:es[i]? = some e)(a:gV e.1=false):(es.all λ e=>gV e.1)=false :=
 List.all_eq_false.2 ⟨e,A8 h,by simp[a]⟩
def kV(es:List En):Prop:=∀e∈es,e.1.length<=9223372036854775807
theorem K7(w:Ap)(W:gQ gZ w ao es)(U:es.length=n)(R:kV es)(Q:n<=c):
  At Am 164 #[Aa ao n c] w λ e w'=>e=Aj (Ab Ak (iM es))/\Iz w w':=by
 by_cases C:64<n
 ·have q:(64:Int)<(n:Int):=by omega
  have e:iM es=4:=by unfold iM;rw[AC (by omega)]
  rw[e];clear W U R e Q;go_enter func164,ntmps164;go_wp2;go_ret;exact⟨rfl,Ao _ _⟩
 have q:decide ((64:Int)<(n:Int))=false:=by rw[Az];omega
 have H:=I4 W U R Q
 clear W U R Q;go_enter func164,ntmps164;go_wp2_with fail;go_loopg[13] n (λ m Y wr=>∃i:Nat,Y=Ab Ak i/\i+m=n/\Hid (((es.take i).all λ e=>gV e.1)=true/\Iz w wr))
 case atStart=>exact⟨0,rfl,by omega,rfl,Ao _ _⟩
 case round =>
  obtain⟨i,rfl,hi,a⟩:=hrel;by_cases s:i<n
  ·have id:(i:Int)<(n:Int):=by omega
   obtain⟨e,p⟩:=BK H.o.2.1 s;obtain⟨b,off,rfl,V⟩:=H.o.1.some_of p;obtain⟨_,P,B⟩:=(H.o.1.below a.o.2).ents p;have r:=H.o.2.2.1 e (A8 p);obtain⟨d,z⟩:=e
   obtain⟨K,J⟩:=Xa ((z.toNat:Int))
   simp only at P B r;rw[J]at B;have M:=Ih p;clear p J
   have t:(⟨d.toArray⟩:ByteArray).size<=9223372036854775807:=by show d.toArray.size<=_;simpa using r
   cases hp:gV d with
   | true =>
    have h:=Kj ⟨d.toArray⟩ t true hp (wr.alloc (Ai #[tx d,Ab Al K] 125));rw[show mP true=0 from rfl]at h;clear t r;go_wp2_with fail;refine h.mono ?_;rintro e w2 ⟨rfl,m2,rfl⟩;go_wp2;go_roundg (gk - 1)
    case measure=>omega
    case rel=>exact⟨i+1,by go_num,by omega,S7 M.o a.o.1 hp,a.o.2.trans (((gW wr _).trans ((jq _ _).mono (gW wr _).size)).mono a.o.2.size)⟩
   | false =>
    have h:=Kj ⟨d.toArray⟩ t false hp (wr.alloc (Ai #[tx d,Ab Al K] 125));rw[show mP false=2 from rfl]at h
    have j:iM es=2:=by
     unfold iM;rw[Ay (by rw[H.o.2.1];exact C),AC (Tc M.o hp)]
    clear t r;go_wp2_with fail;refine h.mono ?_;rintro e w2 ⟨rfl,m2,rfl⟩;go_wp2;go_ret;exact⟨by rw[j];rfl,a.o.2.trans (((gW wr _).trans ((jq _ _).mono (gW wr _).size)).mono a.o.2.size)⟩
  ·obtain rfl:i=n:=by omega
   have g:=a.o.1;rw[Av (by rw[H.o.2.1];omega)]at g
   have L:=I2 g a.o.2
   obtain⟨w1,G⟩:=Xb wr
   rw[<- G]at L ⊢;clear g G a wr s hi;go_wp2_with fail;go_loopg[26] i (λ m Y wr=>∃k:Nat,Y=Ab Ak k/\k+m=i/\Hid (Tr (es.take k)/\Iz w wr))
   case atStart=>exact⟨0,rfl,by omega,List.Pairwise.nil,L.o.2⟩
   case round =>
    obtain⟨k,rfl,hi,a⟩:=hrel;by_cases s:k<i
    ·have id:(k:Int)<(i:Int):=by omega
     have aa:(0:Int)<=(k:Int):=by omega
     obtain⟨e,p⟩:=BK H.o.2.1 s;obtain⟨b,off,rfl,V⟩:=H.o.1.some_of p;obtain⟨_,P,B⟩:=(H.o.1.below a.o.2).ents p;obtain⟨d,z⟩:=e
     obtain⟨K,J⟩:=Xa ((z.toNat:Int))
     simp only at P B;rw[J]at B;have M:=Ih p;obtain⟨a3,c3,s3,o3,_,Z⟩:=Ni gZ 125 118 24 _ Tryz.info125 underlying118 (by kernel_rfl) (ao:=some ⟨b,off,none⟩) (k:=k) H.o.2.2.2 (by omega)
     obtain⟨l,D⟩:=Xa (wr.alloc (Ai #[tx d,Ab Al K] 125))
     have b2:Iz wr l:=by rw[<- D];exact gW _ _
     have bx:jo l wr.heap.size 125 (tx d) (Ab Al K):=by rw[<- D];exact jo.new _ _ _ _
     have NE:Nonempty (SW (gN l)):=⟨⟨l,Ao _ _⟩⟩
     have k0:∀u:SW (gN l),u.w.cell? ⟨wr.heap.size,0,none⟩=some (tx d):=λ u=>((bx.below u.ok).cells).1
     obtain⟨f,y⟩:=Xa (fits d (es.take k))
     have E:∀u:SW (gN l),At Am 200 #[tx d,Aa a3 k c3] u.w λ e w'=>e=Aj (Ad f)/\∃u':SW (gN l),w'=u'.w:=λ u=>by
      refine(Zz d u.w (Z u.w es (((H.o.1.below a.o.2).below b2).below u.ok)) (by rw[AE,H.o.2.1];omega) (by omega) f y).mono ?_;rintro e w' ⟨rfl,hb⟩;exact⟨rfl,⟨w',u.ok.trans (hb.mono u.ok.size)⟩,rfl⟩
     have N:=I2 y (a.o.2.trans (b2.mono a.o.2.size))
     clear p J bx b2 Z o3 y;go_wp2_with fail;refine Bb (S:=gN l) (by kernel_rfl) (by kernel_rfl) (Ao _ l).drew ?_
     repeat(go_big_quiet_step (with_reducible exact E _))
     refine wpQuiet_nil ?_;intro _ X;obtain⟨u,F⟩:=X;subst F;have O:=Ih (N.o.2.trans (u.ok.mono N.o.2.size))
     obtain⟨w4,I⟩:=Xb u.w
     rw[<- I]at O ⊢;clear I k0 E NE u;have v:=Uu (x:=(d,z)) a.o.1;rw[<- KF M.o]at v;simp only at v;rw[N.o.1]at v
     cases f with
     | true =>
      have T:Hid (Tr (es.take (k+1))):=v.1 rfl;clear v;go_wp2;go_roundg (gk - 1)
      case measure=>omega
      case rel=>exact⟨k+1,by go_num,by omega,T.o,O.o⟩
     | false =>
      have j:iM es=12:=by
       unfold iM;rw[Ay (by rw[H.o.2.1];exact C),Ay (by rw[L.o.1];decide),Ay (Zn (i:=k+1) (λ q=>by have:=v.2 q;cases this))]
      clear v;go_wp2;go_ret;exact⟨by rw[j];rfl,O.o⟩
    ·obtain rfl:k=i:=by omega
     have A:=a.o.1;rw[Av (by rw[H.o.2.1];omega)]at A;have j:iM es=0:=SU (by rw[H.o.2.1];omega) L.o.1 A;clear A;go_wp2;go_ret;exact⟨by rw[j];rfl,a.o.2⟩
theorem RJ(h:es[i]? = some e):gX (es.take (i+1))=gX (es.take i)++(AX e.1.length::e.1)++b8 e.2:=by
 rw[KF h,Ox];simp[lB]
theorem NP:∀{es:List En},Sm es->(gX es).length<=264*es.length
 | [],_=>by simp[gX]
 | e::t,h=>by
  have:=NP (es:=t) (λ x a=>h x (List.mem_cons_of_mem _ a));have b:=h e List.mem_cons_self;simp only[gX,List.flatMap_cons,Ax,Lz,List.length_cons]at this ⊢;omega
theorem gx(w:Ap)(j:gQ gZ w ao es)(i:es.length=n)(g:kV es)(f:n<=c)(a:Int)(h:iM es=a)(d:a≠0):
  At Am 101 #[Aa ao n c] w λ e w'=>e=Aj (Af #[Aa none 0 0,Ab Ak a])/\Iz w w':=by
 have b:=K7 w j i g f;rw[h]at b
 have l:(a==0)=false:=by simpa using d
 have m:(a != 0)=true:=by simpa using d
 clear j i g f h d;go_enter func101,ntmps101;go_wp2_with fail;refine b.mono ?_;rintro e w1 ⟨rfl,k⟩;go_wp2;refine As (AD rfl _ _ _) rfl ?_;exact⟨rfl,k⟩
theorem WT(w:Ap)(I:gQ gZ w ao es)(C:es.length=n)(O:kV es)(N:n<=c)(h:iM es=0):
  At Am 101 #[Aa ao n c] w λ e w'=>∃v,e=Aj (Af #[v,Ab Ak 0])/\Hid (gM gP 5 w' w.heap.size v (gX es)/\Iz w w'):=by
 have k:=K7 w I C O N;rw[h]at k
 have hn:n<=64:=by rw[<- C];exact(It h).1
 have H:=I3 I C (Jr h)
 clear I C O N h;go_enter func101,ntmps101;go_wp2_with fail;refine k.mono ?_;rintro e w1 ⟨rfl,y⟩;have P:=Ih y;clear y k;go_wp2_with fail;go_loopg[5,15] n (λ m rv W wr=>∃i:Nat,W=Ab Ak i/\i+m=n/\Hid (gM gP 5 wr w.heap.size rv (gX (es.take i))/\Iz w wr))
 case atStart=>exact⟨0,rfl,by omega,gM.nil _ _ _ _,P.o⟩
 case round =>
  obtain⟨i,rfl,hi,f⟩:=hrel;by_cases G:i<n
  have id:(i:Int)<(n:Int):=by omega
  obtain⟨e,A⟩:=BK H.o.2.1 G;obtain⟨b,off,rfl,U⟩:=H.o.1.some_of A;obtain⟨_,L,M⟩:=(H.o.1.below f.o.2).ents A;have a:=H.o.2.2 e (A8 A)
  have j:(gX (es.take i)).length<=264*64:=by
   have R:=NP (es:=es.take i) (λ x V=>H.o.2.2 x (List.mem_of_mem_take V))
   have S:(es.take i).length<=64:=by rw[AE,H.o.2.1];omega
   omega
  obtain⟨d,z⟩:=e;have l:=RJ A;simp only at L M a l;obtain⟨B,s⟩:=Xa (wr.alloc (Ai #[tx d,Ab Al (z.toNat:Int)] 125))
  have b2:Iz wr B:=by rw[<- s];exact gW _ _
  have bx:jo B wr.heap.size 125 (tx d) (Ab Al (z.toNat:Int)):=by rw[<- s];exact jo.new _ _ _ _
  have D:=f.o.2.trans (b2.mono f.o.2.size);have u:=Qw d a (f.o.1.below b2) D.size (by omega);have p:=I6 bx D (λ g T=>(f.o.1.lt g T).2:(∀g,u5.ownBlock=some g->g<wr.heap.size)) l j a
  obtain⟨y0,y1⟩:=bx.cells;clear A bx b2 D l j a;go_wp2_with fail;refine u.mono ?_;rintro e X ⟨v3,rfl,F⟩;clear y0 y1;have r:=p.o.1.turned F.o.2.2 (λ q=>by have:=p.o.2.2.1 _ q;omega);obtain⟨Y,Z⟩:=r.cells;have E:=p.o.2.1.trans F.o.2.1;have t:=Lv z.toNat F.o.1 E.size (by rw[Ax];have R:=p.o.2.2.2.2.1;have S:=p.o.2.2.2.2.2;simp;omega);have Q:=Ih E;clear u E L M r;go_wp2_with fail;refine t.mono ?_;rintro e w4 ⟨v4,rfl,K⟩;clear t Y Z;go_wp2;go_roundg (gk - 1)
  case measure=>omega
  case rel=>exact⟨i+1,by go_num,by omega,by rw[p.o.2.2.2.1];exact K.o.1,Q.o.trans K.o.2.1⟩
  obtain rfl:i=n:=by omega
  have J:es.take i=es:=Av (by rw[H.o.2.1];omega);rw[J]at f;go_wp2;refine As (AD rfl _ _ _) rfl ?_;exact⟨_,rfl,f.o.1,f.o.2⟩
theorem YE(w:Ap)(f:gQ gZ w ao es)(d:es.length=n)(b:kV es)(a:n<=c):
  At Am 101 #[Aa ao n c] w λ e w'=>∃v,e=Aj (Af #[v,Ab Ak (iC es).2])/\Hid (gM gP 5 w' w.heap.size v (iC es).1/\Iz w w'):=by
 unfold iC;by_cases h:iM es=0
 rw[AC h];exact WT w f d b a h
 rw[Ay h];refine(gx w f d b a _ rfl h).mono ?_;rintro e w' ⟨rfl,g⟩;exact⟨_,rfl,gM.nil _ _ _ _,g⟩
def lh(es:List En)(p:Bs):Option UInt64:=(es.find? (λ e=>e.1==p)).map (·.2)
theorem Vr(h:es.any (λ e=>e.1==p)=false):lh es p=none:=by
 unfold lh;rw[Es]at h;rw[GU.2 (λ x a=>by simpa using h x a)]
 rfl
theorem YZ(h:(es.take i).any (λ e=>e.1==p)=false)(b:es[i]? = some e)(hp:e.1=p):lh es p=some e.2:=by
 unfold lh;rw[Es]at h;obtain⟨hi,a⟩:=List.getElem?_eq_some_iff.1 b
 have:es=es.take i++e::es.drop (i+1):=by rw[<- a,List.getElem_cons_drop,List.take_append_drop]
 rw[this,List.find?_append,GU.2 (λ x c=>by simpa using h x c)];simp[hp]
theorem Qo{x:UInt64}(h:xs[i]? = some x)(g:(xs.take i).Nodup)(c:(xs.take i).any (λ y=>x==y)=false):(xs.take (i+1)).Nodup:=by
 rw[AW,h];show(xs.take i++[x]).Nodup;rw[Cr];refine⟨g,by simp,?_⟩;intro a d b f
 obtain rfl:b=x:=by simpa using f
 rw[Es]at c;have:=c a d;intro e;subst e;simp at this
theorem TT{x:UInt64}(h:xs[i]? = some x)(d:(xs.take i).any (λ y=>x==y)=true):¬xs.Nodup:=by
 intro c;obtain⟨y,f,e⟩:=List.any_eq_true.1 d
 obtain rfl:x=y:=by simpa using e
 have b:(xs.take (i+1)).Nodup:=c.sublist (GZ _ _);rw[AW,h]at b;have a:=b;rw[Cr]at a;exact a.2.2 x f x (by simp) rfl
section
variable {w:World}{c:Cm}{pa:Option Addr}{pn pc:Nat}
theorem MG(u:gQ gR w pa c.ps)(t:c.ps.length=pn)(j:pn<=pc)(nt:ByteArray)(h:nt=⟨c.note.toArray⟩)(dt:Int)(g:c.date=dt)(C:Int):
  At Am 168 #[Ag #[Ab Al C,Aa pa pn pc,Ab Ak dt,Ae nt]] w λ e w'=>e=Aj (Ab Ak (jm c))/\An w.heap.size w w':=by
 have p:nt.size=c.note.length:=by rw[h];show c.note.toArray.size=_;simp
 by_cases U:8<pn
 ·have q:(8:Int)<(pn:Int):=by omega
  have e:jm c=4:=by unfold jm;rw[AC (by omega)]
  rw[e];clear u t h p e j g;go_enter func168,ntmps168;go_wp2;go_ret;exact⟨rfl,gW _ _⟩
 have q:decide ((8:Int)<(pn:Int))=false:=by rw[Az];omega
 by_cases M:64<nt.size
 ·have R:(64:Int)<(nt.size:Int):=by omega
  have e:jm c=4:=by unfold jm;rw[AC (by omega)]
  rw[e];clear u t h p e j g;go_enter func168,ntmps168;go_wp2;go_ret;exact⟨rfl,gW _ _⟩
 have R:decide ((64:Int)<(nt.size:Int))=false:=by rw[Az];omega
 have E:¬(8<c.ps.length∨64<c.note.length):=by omega
 obtain⟨W,F⟩:=Xa (w.alloc (Ai #[Ab Al C,Aa pa pn pc,Ab Ak dt,Ae nt] 104))
 have z:An w.heap.size w W:=by rw[<- F];exact gW _ _
 have bx:ib W w.heap.size 104 (Ab Al C) (Aa pa pn pc) (Ab Ak dt) (Ae nt):=by rw[<- F];exact ib.new _ _ _ _ _ _
 obtain⟨V,X,Y,Z⟩:=bx.cells
 have H:=I6 (u.below z) t j z E g
 clear u t h p j z bx E g;go_enter func168,ntmps168;go_wp2_with fail;go_loopg[18] pn (λ m P wr=>∃i:Nat,P=Ab Ak i/\i+m=pn/\wr=W/\Hid ((c.ps.take i).Nodup))
 case atStart=>exact⟨0,rfl,by omega,rfl,by simp[Hid]⟩
 case round =>
  obtain⟨i,rfl,hi,rfl,D⟩:=hrel;by_cases B:i<pn
  ·have id:(i:Int)<(pn:Int):=by omega
   have O:(0:Int)<=(i:Int):=by omega
   obtain⟨x,v⟩:=BK H.o.2.1 B;obtain⟨b,off,rfl,N⟩:=H.o.1.some_of v;obtain⟨_,T⟩:=H.o.1.nums v;obtain⟨a3,J,s3,Q,_,I⟩:=Ni gR 63 35 8 _ Tryz.info63 underlying35 (by kernel_rfl) (ao:=some ⟨b,off,none⟩) (k:=i) H.o.2.2.1 (by omega)
   obtain⟨f,A⟩:=Xa ((c.ps.take i).any (λ y=>x==y))
   have G:=YG (n:=i) (c:=J) x wr (I wr _ H.o.1) (by rw[AE,H.o.2.1];omega) (by omega) f A
   have s:=I2 v A
   clear v A I Q
   cases f with
   | true =>
    have a:jm c=6:=by
     unfold jm;rw[Ay H.o.2.2.2.2.1,AC (TT s.o.1 s.o.2)]
    go_wp2_with fail;refine G.mono ?_;rintro e S ⟨rfl,r⟩;rw[r];go_wp2;go_ret;exact⟨by first|rfl|(rw[a];rfl),H.o.2.2.2.1⟩
   | false =>
    go_wp2_with fail;refine G.mono ?_;rintro e S ⟨rfl,r⟩;rw[r];go_wp2;go_roundg (gk - 1)
    case measure=>omega
    case rel=>exact⟨i+1,by go_num,by omega,rfl,Qo s.o.1 D.o s.o.2⟩
  ·obtain rfl:i=pn:=by omega
   have d:=D.o;rw[Av (by rw[H.o.2.1];omega)]at d;by_cases hd:dt<0
   ·have K:decide (dt<0)=true:=by simpa using hd
    have a:jm c=3:=by
     unfold jm;rw[Ay H.o.2.2.2.2.1,Ay (by simpa using d),AC (by rw[H.o.2.2.2.2.2];exact .inl hd)]
    clear d;go_wp2;go_ret;exact⟨by first | rfl | (rw[a];rfl),H.o.2.2.2.1⟩
   ·have K:decide (dt<0)=false:=by simpa using hd
    by_cases l:1099511627776<dt
    ·have L:decide (1099511627776<dt)=true:=by simpa using l
     have a:jm c=3:=by
      unfold jm;rw[Ay H.o.2.2.2.2.1,Ay (by simpa using d),AC (by rw[H.o.2.2.2.2.2];exact .inr l)]
     clear d;go_wp2;go_ret;exact⟨by first | rfl | (rw[a];rfl),H.o.2.2.2.1⟩
    ·have L:decide (1099511627776<dt)=false:=by simpa using l
     have a:jm c=0:=by
      unfold jm;rw[Ay H.o.2.2.2.2.1,Ay (by simpa using d),Ay (by rw[H.o.2.2.2.2.2];omega)]
     clear d;go_wp2;go_ret;exact⟨by first | rfl | (rw[a];rfl),H.o.2.2.2.1⟩
theorem RU{d:Int}(g:0<=d):low 8 d.toNat=b8 (dw d):=by
 unfold b8
 have key:∀k a b,a % 256 ^ k=b % 256 ^ k->low k a=low k b:=by
  intro k a b h;have c:=Ka (low k a);have f:=Ka (low k b);rw[Bp,Jo]at c f;rw[<- c,<- f,h]
 apply key;have:=PJ d
 have e:256 ^ 8=18446744073709551616:=by decide
 omega
theorem Uz(n:gQ gR w pa c.ps)(m:c.ps.length=pn)(g:pn<=pc)(nt:ByteArray)(f:nt=⟨c.note.toArray⟩)(dt:Int)(d:c.date=dt)(i:Int)(a:Int)(h:jm c=a)(k:a≠0):
  At Am 105 #[Ag #[Ab Al i,Aa pa pn pc,Ab Ak dt,Ae nt]] w λ e w'=>e=Aj (Af #[Aa none 0 0,Ab Ak a])/\Iz w w':=by
 obtain⟨W,l⟩:=Xa (w.alloc (Ai #[Ab Al i,Aa pa pn pc,Ab Ak dt,Ae nt] 104))
 have j:Iz w W:=by rw[<- l];exact gW _ _
 have bx:ib W w.heap.size 104 (Ab Al i) (Aa pa pn pc) (Ab Ak dt) (Ae nt):=by rw[<- l];exact ib.new _ _ _ _ _ _
 obtain⟨s,t,u,v⟩:=bx.cells;have b:=MG (n.below j) m g nt f dt d i;rw[h]at b
 have q:(a==0)=false:=by simpa using k
 have r:(a != 0)=true:=by simpa using k
 have H:=Ih j;clear n m g f d h k j bx;go_enter func105,ntmps105;go_wp2_with fail;refine b.mono ?_;rintro e w1 ⟨rfl,p⟩;go_wp2;refine As (AD rfl _ _ _) rfl ?_;exact⟨rfl,H.o.trans (p.mono H.o.size)⟩
theorem dE(S:gQ gR w pa c.ps)(R:c.ps.length=pn)(C:pn<=pc)(nt:ByteArray)(q:nt=⟨c.note.toArray⟩)(dt:Int)(k:c.date=dt)(h:jm c=0):
  At Am 105 #[Ag #[Ab Al (c.tree.toNat:Int),Aa pa pn pc,Ab Ak dt,Ae nt]] w λ e w'=>∃v,e=Aj (Af #[v,Ab Ak 0])/\Hid (gM gP 5 w' w.heap.size v (kl c)/\Iz w w'):=by
 obtain⟨W,P⟩:=Xa (w.alloc (Ai #[Ab Al (c.tree.toNat:Int),Aa pa pn pc,Ab Ak dt,Ae nt] 104))
 have G:Iz w W:=by rw[<- P];exact gW _ _
 have sW:W.heap.size=w.heap.size+1:=by rw[<- P];simp
 have bx:ib W w.heap.size 104 (Ab Al (c.tree.toNat:Int)) (Aa pa pn pc) (Ab Ak dt) (Ae nt):=by rw[<- P];exact ib.new _ _ _ _ _ _
 obtain⟨a,d,f,g⟩:=bx.cells;have n:=MG (S.below G) R C nt q dt k (c.tree.toNat:Int);rw[h]at n;obtain⟨g1,g2,_,N,g5⟩:=GV h;rw[k]at N g5
 have ab:pn<=8:=by omega
 have T:Al.wrap dt=(dt.toNat:Int):=by rw[IntKind.wrap_u64];omega
 obtain⟨y,U⟩:∃y:UInt8,AX pn=y:=⟨_,rfl⟩
 have HY:Hid ((y.toNat:Int)=(pn:Int)):=by show _=_;rw[<- U,Bm];omega
 obtain⟨dn,p⟩:=Xa dt.toNat
 rw[p]at T
 have z:low 8 dn=b8 (dw c.date):=by rw[<- p,k];exact RU N
 have H:=I9 G sW bx (S.below G) R U z q g2
 clear S R C q k h G bx sW U z p g1 g2 N g5;go_enter func105,ntmps105;go_wp2_with fail;refine n.mono ?_;rintro e w1 ⟨rfl,t⟩;have J:=Ih t;clear t n a d f g;obtain⟨a,d,f,g⟩:=(H.o.2.2.1.below J.o (by have:=H.o.2.1;omega)).cells;have O:=Lv c.tree.toNat (gM.nil gP 5 w1 W.heap.size) J.o.size (by simp);rw[List.nil_append]at O;go_wp2_with fail;refine O.mono ?_;rintro e w2 ⟨v2,rfl,V⟩;have K:=Ih (J.o.trans V.o.2.1);clear O a d f g;obtain⟨a,d,f,g⟩:=(H.o.2.2.1.below K.o (by have:=H.o.2.1;omega)).cells;have j:(low 8 c.tree.toNat).length=8:=Bp _ _;go_wp2_with(at_builtin;refine BA gP 5 24 1 (Ab .u8 0) rfl Tryz.info5 underlying24 rfl (.tmp 16) (.tmp 21) rfl W.heap.size _ _ y _ rfl V.o.1 rfl (by rw[j];omega) (by rw[j];simp only[AH];omega) K.o.size _ (by show _=#[Ab .u8 (y.toNat:Int)];rw[HY.o]) ?_;intro v3 w3 B u _ _;have L:=I2 (K.o.trans u) B;clear B u a d f g;have x4:=(H.o.2.2.1.below L.o.1 (by have:=H.o.2.1;omega)).cells;obtain⟨a,d,f,g⟩:=x4);go_loopg[5,26] pn (λ m bv iv wr=>∃i:Nat,iv=Ab Ak i/\i+m=pn/\Hid (gM gP 5 wr W.heap.size bv (low 8 c.tree.toNat++[y]++kZ (c.ps.take i))/\Iz W wr))
 case atStart=>exact⟨0,rfl,by omega,by simpa[kZ]using L.o.2,L.o.1⟩
 case round =>
  obtain⟨i,rfl,hi,r⟩:=hrel;by_cases Q:i<pn
  ·have id:(i:Int)<(pn:Int):=by omega
   obtain⟨x,I⟩:=BK H.o.2.2.2.2.1 Q;obtain⟨b,off,rfl,aa⟩:=H.o.2.2.2.1.some_of I;obtain⟨_,c0⟩:=(H.o.2.2.2.1.below r.o.2).nums I
   have D:kZ (c.ps.take (i+1))=kZ (c.ps.take i)++b8 x:=by rw[AW,I];exact LC _ _
   have A:(low 8 c.tree.toNat++[y]++kZ (c.ps.take i)).length<=1000:=by
    rw[Ax,Ax,j,JB,AE];simp;omega
   have s:=Lv x.toNat r.o.1 r.o.2.size (by omega);have HP:=Ih D;clear D A I;go_wp2_with fail;refine s.mono ?_;rintro e w4 ⟨v4,rfl,X⟩;clear s;go_wp2;go_roundg (gk - 1)
   case measure=>omega
   case rel=>exact⟨i+1,by go_num,by omega,by rw[HP.o,<- List.append_assoc];exact X.o.1,r.o.2.trans X.o.2.1⟩
  ·obtain rfl:i=pn:=by omega
   have E:c.ps.take i=c.ps:=Av (by have:=H.o.2.2.2.2.1;omega)
   have F:Hid (gM gP 5 wr W.heap.size u5 (low 8 c.tree.toNat++[y]++kZ c.ps)/\Iz W wr):=by
    have:=r.o;rw[E]at this;exact this
   have A:(low 8 c.tree.toNat++[y]++kZ c.ps).length<=1000:=by
    rw[Ax,Ax,j,JB];have:=H.o.2.2.2.2.1;simp;omega
   have s:=Lv dn F.o.1 F.o.2.size (by omega);clear a d f g;obtain⟨a,d,f,g⟩:=(H.o.2.2.1.below F.o.2 (by have:=H.o.2.1;omega)).cells;clear E r;go_wp2_with fail;refine s.mono ?_;rintro e w5 ⟨v5,rfl,Y⟩;have M:=Ih (F.o.2.trans Y.o.2.1);clear s a d f g;obtain⟨a,d,f,g⟩:=(H.o.2.2.1.below M.o (by have:=H.o.2.1;omega)).cells;have l:=Qw c.note (by have:=H.o.2.2.2.2.2.2.2.2;omega) Y.o.1 M.o.size (by rw[Ax,Bp];omega);rw[show tx c.note=Ae nt by rw[H.o.2.2.2.2.2.2.2.1]]at l;go_wp2_with fail;refine l.mono ?_;rintro e w6 ⟨v6,rfl,Z⟩;have B6:=Ih (M.o.trans Z.o.2.1);clear l a d f g;go_wp2;refine As (AD rfl _ _ _) rfl ?_
   have ec:low 8 c.tree.toNat++[y]++kZ c.ps++low 8 dn++AX c.note.length::c.note=kl c:=by
    unfold kl;rw[H.o.2.2.2.2.2.2.1,H.o.2.2.2.2.1,H.o.2.2.2.2.2.1];simp[b8]
   refine⟨_,rfl,?_,H.o.1.trans (B6.o.mono H.o.1.size)⟩;rw[<- ec];exact Z.o.1.low H.o.1.size
theorem Ug(g:gQ gR w pa c.ps)(f:c.ps.length=pn)(d:pn<=pc)(nt:ByteArray)(b:nt=⟨c.note.toArray⟩)(dt:Int)(a:c.date=dt):
  At Am 105 #[Ag #[Ab Al (c.tree.toNat:Int),Aa pa pn pc,Ab Ak dt,Ae nt]] w λ e w'=>∃v,e=Aj (Af #[v,Ab Ak (je c).2])/\Hid (gM gP 5 w' w.heap.size v (je c).1/\Iz w w'):=by
 unfold je;by_cases h:jm c=0
 rw[AC h];exact dE g f d nt b dt a h
 rw[Ay h];refine(Uz g f d nt b dt a _ _ rfl h).mono ?_;rintro e w' ⟨rfl,i⟩;exact⟨_,rfl,gM.nil _ _ _ _,i⟩
end
theorem Tj(bs:Bs):gP.all bs=bs.map (λ x=>Ab .u8 (x.toNat:Int)):=by
 induction bs with
 | nil=>rfl
 | cons x t a =>
  show gP.cells x++gP.all t=_;rw[a]
  rfl
theorem Pp(w:Ap)(bs:Bs)(base:Nat)(a:base<=w.heap.size)(e:bs.length<=1000000)(c:Array Ar)(b:c=(bs.map (λ x=>Ab .u8 (x.toNat:Int))).toArray)(n:Nat)(d:n=bs.length):gM gP 5 (w.alloc (Ai c 5)) base (Aa (some ⟨w.heap.size,0,none⟩) n n) bs:=by
 subst b d;refine⟨gP.all_length bs,.inr ⟨w.heap.size,bs.length,_,rfl,a,Cg w _,AA _,by simp only[AH];omega,?_,?_⟩⟩
 show(If _ bs).toArray.size=bs.length*1;simp
 rw[Tj];show List.take (bs.length*1) (If _ bs)=_;rw[Av (by simp)]
theorem pF(u:Ap)(a b c:Obj):Iz u (((u.alloc a).alloc b).alloc c).drew:=((lE u a b).trans ((gW _ c).mono (lE u a b).size)).drew
theorem Wz{u:Ar}{y t:Bs}(h:iE w u x)(k:iE w v y)(m:iE w z t)(ty:TypeId):D4 (w.alloc (Ai #[u,v,z] ty)) (Aa (some ⟨w.heap.size,0,none⟩) 3 3) [x,y,t]:=by
 refine⟨_,3,rfl,λ _=>⟨w.heap.size,0,rfl,by simp⟩,λ j q b off a c=>?_⟩;cases c
 match j,a with
 | 0,a =>
  cases a;exact⟨u,by simp,h.below (gW w _)⟩
 | 1,a =>
  cases a;exact⟨v,by simp,k.below (gW w _)⟩
 | 2,a =>
  cases a;exact⟨z,by simp,m.below (gW w _)⟩
 | j+3,a=>simp at a
theorem Ry(n:Nat)(a:n<4294967296)(w:Ap):
  At Am 202 #[Ab .u32 (n:Int)] w λ e w'=>∃cs,e=Aj (Aa (some ⟨w.heap.size,0,none⟩) 4 4)/\w'=w.alloc (Ai cs 5)/\Hid (cs=((b4 n).map (λ x=>Ab .u8 (x.toNat:Int))).toArray):=by
 refine(Xo n a w).mono ?_;rintro e w' ⟨rfl,rfl⟩;exact⟨_,rfl,rfl,rfl⟩
theorem Si(u:Ap)(n:Nat)(y:UInt8)(cs:Array Ar)(a:cs=((b4 n).map (λ x=>Ab .u8 (x.toNat:Int))).toArray):gM gP 5 ((u.alloc (Ai cs 5)).alloc (Ai #[Ab .u8 (y.toNat:Int)] 5)) u.heap.size (Aa (some ⟨u.heap.size,0,none⟩) 4 4) (b4 n) /\
  ∀j v,(gP.cells y)[j]? = some v->((u.alloc (Ai cs 5)).alloc (Ai #[Ab .u8 (y.toNat:Int)] 5)).cell? ((⟨u.heap.size+1,0,none⟩:Addr).add j)=some v:=by
 refine⟨(Pp u (b4 n) u.heap.size (AA _) (by rw[Ge];decide) cs a 4 (Ge n).symm).below (gW _ _),?_⟩;have:=GQ gP (u.alloc (Ai cs 5)) y 5;rw[show(u.alloc (Ai cs 5)).heap.size=u.heap.size+1 by simp]at this;exact this
theorem QV(u:Ap)(n:Nat)(y:UInt8)(cs:Array Ar)(a:cs=((b4 n).map (λ x=>Ab .u8 (x.toNat:Int))).toArray):gM gP 5 ((u.alloc (Ai #[Ab .u8 (y.toNat:Int)] 5)).alloc (Ai cs 5)) u.heap.size (Aa (some ⟨u.heap.size+1,0,none⟩) 4 4) (b4 n) /\
  ∀j v,(gP.cells y)[j]? = some v->((u.alloc (Ai #[Ab .u8 (y.toNat:Int)] 5)).alloc (Ai cs 5)).cell? ((⟨u.heap.size,0,none⟩:Addr).add j)=some v:=by
 constructor
 have:=Pp (u.alloc (Ai #[Ab .u8 (y.toNat:Int)] 5)) (b4 n) u.heap.size (by simp) (by rw[Ge];decide) cs a 4 (Ge n).symm;rw[show(u.alloc (Ai #[Ab .u8 (y.toNat:Int)] 5)).heap.size=u.heap.size+1 by simp]at this;exact this
 intro j v h;have b:=GQ gP u y 5 j v h;rw[<- b];exact(gW (u.alloc (Ai #[Ab .u8 (y.toNat:Int)] 5)) _).cell (by rw[JZ];simp)
theorem LN(w:Ap)(h:D4 w v xss)(c:xss.length<=1000000)(a:Nat)(b:ls xss.flatten=a):
  At Am 25 #[v] w λ e w'=>e=Aj (Ab .u32 (a:Int))/\w'=w:=by
 rw[<- b];exact WJ w h c
theorem WK(u:Ap)(c d:Ar)(xs ys:Bs)(g:iE u c xs)(h:iE u d ys)(l:xs.length+ys.length<=10000)(a:Nat)(cs:Array Ar)(b:cs=((b4 a).map (λ x=>Ab .u8 (x.toNat:Int))).toArray)(A:Array Ar)(t:TypeId):
  At Am 97 #[Aa (some ⟨u.heap.size+1+1,0,none⟩) 3 3] (((u.alloc (Ai A t)).alloc (Ai cs 5)).alloc (Ai #[c,d,Aa (some ⟨u.heap.size+1,0,none⟩) 4 4] 24)) λ e w'=>∃v,e=Aj v/\Hid (gM gP 5 w' u.heap.size v (xs++ys++b4 a)/\Iz u w'):=by
 have s1:(u.alloc (Ai A t)).heap.size=u.heap.size+1:=by simp
 have s2:((u.alloc (Ai A t)).alloc (Ai cs 5)).heap.size=u.heap.size+1+1:=by simp
 have b1:Iz u ((u.alloc (Ai A t)).alloc (Ai cs 5)):=lE _ _ _
 have i:iE ((u.alloc (Ai A t)).alloc (Ai cs 5)) (Aa (some ⟨u.heap.size+1,0,none⟩) 4 4) (b4 a):=by
  have:=Mg (u.alloc (Ai A t)) (b4 a) 5 (0,0) cs b 4 (Ge a).symm (by rw[Ge];decide);rw[s1]at this;exact this
 have hp:=Wz (g.below b1) (h.below b1) i 24;rw[s2]at hp
 have e:([xs,ys,b4 a]:List Bs).flatten=xs++ys++b4 a:=by simp
 refine(Le _ hp (by simp) (by rw[e];simp[Ge];omega)).mono ?_;rintro k w' ⟨v,rfl,f,j⟩;rw[e]at f;have b2:=b1.trans ((gW ((u.alloc (Ai A t)).alloc (Ai cs 5)) (Ai #[c,d,Aa (some ⟨u.heap.size+1,0,none⟩) 4 4] 24)).mono b1.size);exact⟨v,rfl,f.low b2.size,b2.trans (j.mono b2.size)⟩
section
variable {w:World}{k:Int}{a:Option Addr}{n c:Nat}{body:Bs}
theorem Yh(h:k<0∨255<k):At Am 169 #[Ag #[Ab Ak k,Aa a n c]] w λ e w'=>e=Aj (Af #[Aa none 0 0,Ab Ak 3])/\An w.heap.size w w':=by
 by_cases b:k<0
 ·have q:decide (k<0)=true:=by simpa using b
  go_enter func169,ntmps169;go_wp2;refine As (AD rfl _ _ _) rfl ?_;exact⟨rfl,gW _ _⟩
 ·have q:decide (k<0)=false:=by simpa using b
  have d:decide (255<k)=true:=by simp;omega
  go_enter func169,ntmps169;go_wp2;refine As (AD rfl _ _ _) rfl ?_;exact⟨rfl,gW _ _⟩
theorem UO(b:¬k<0)(d:¬255<k)(h:8192<n):At Am 169 #[Ag #[Ab Ak k,Aa a n c]] w λ e w'=>e=Aj (Af #[Aa none 0 0,Ab Ak 4])/\Iz w w':=by
 have q:decide (k<0)=false:=by simpa using b
 have f:decide (255<k)=false:=by simpa using d
 have g:(8192:Int)<(n:Int):=by omega
 go_enter func169,ntmps169;go_wp2;refine As (AD rfl _ _ _) rfl ?_;exact⟨rfl,gW _ _⟩
theorem cU(E:¬k<0)(F:¬255<k)(I:body.length=n)(R:¬8192<n)(G:iE w (Aa a n c) body):At Am 169 #[Ag #[Ab Ak k,Aa a n c]] w λ e w'=>∃v,e=Aj (Af #[v,Ab Ak 0])/\Hid (gM gP 5 w' w.heap.size v (lw k body)/\Iz w w'):=by
 have q:decide (k<0)=false:=by simpa using E
 have q2:decide (255<k)=false:=by simpa using F
 have q3:decide ((8192:Int)<(n:Int))=false:=by rw[Az];omega
 obtain⟨W,s⟩:=Xa (w.alloc (Ai #[Ab Ak k,Aa a n c] 213))
 have t:Iz w W:=by rw[<- s];exact gW _ _
 have T:jo W w.heap.size 213 (Ab Ak k) (Aa a n c):=by rw[<- s];exact jo.new w _ _ _
 have M:W.heap.size=w.heap.size+1:=by rw[<- s];simp
 have H:=I8 t T (G.below t) I (by omega:n<=8192) M (by omega:0<=k) (by omega:k<=255)
 obtain⟨x0,x1⟩:=T.cells
 obtain⟨y,B⟩:∃y:UInt8,AX k.toNat=y:=⟨_,rfl⟩
 have A:k % 256=(y.toNat:Int):=by rw[<- B,Bm];omega
 have N:=Ih B
 have J:IntKind.u32.wrap (n:Int)=(n:Int):=by rw[IntKind.wrap_u32];omega
 have Q:Em.wrap k=(y.toNat:Int):=by
  rw[show Em.wrap k=k % 256 by simp[IntKind.wrap,IntKind.bits,IntKind.signed]];exact A
 clear t T M I G B;go_enter func169,ntmps169
 go_upto_region 5 with fail
 clear E F q q2 q3 R s
 go_region_held3 (λ u=>u.cell? ⟨w.heap.size,0,none⟩=some (Ab Ak k)/\u.cell? ⟨w.heap.size,1,none⟩=some (Aa a n c)) (go_keep)
  (first
   | (refine Ix gP 5 24 1 _ rfl Tryz.info5 underlying24 rfl (.tmp 21) (.tmp 25) rfl W.heap.size _ (b4 n) y rfl (Si W.drew n y cs g.o).1 (W.heap.size+1) rfl (Si W.drew n y cs g.o).2 (by rw[Ge];decide) (by rw[Ge];decide) (by simp;omega) ?_;intro v5 b h f j l;have i:=I2 h ((lE W.drew _ _).trans f:An W.heap.size W.drew b);clear h f j l;have K:=(H.o.2.1.below ((Ao _ W).drew.trans i.o.2)).cells)
   | (refine Ix gP 5 24 1 _ rfl Tryz.info5 underlying24 rfl (.tmp 21) (.tmp 25) rfl W.heap.size _ (b4 n) y rfl (QV W.drew n y cs g.o).1 W.heap.size rfl (QV W.drew n y cs g.o).2 (by rw[Ge];decide) (by rw[Ge];decide) (by simp;omega) ?_;intro v5 b h f j l;have i:=I2 h ((lE W.drew _ _).trans f:An W.heap.size W.drew b);clear h f j l;have K:=(H.o.2.1.below ((Ao _ W).drew.trans i.o.2)).cells)
   | (go_at_call 202;refine(Ry n (by have:=H.o.2.2.2.2.1;omega) _).mono ?_;rintro e w2 ⟨cs,rfl,rfl,g⟩))
 all_goals
  obtain⟨a5,O,rfl,_,_,_,L⟩:=gM.form i.o.1
  have C:(b4 n++[y]).length=5:=by rw[Ax,Ge];rfl
  rw[C]at i ⊢;obtain⟨P,rfl⟩:=L (by rw[C];decide);have D:Iz w b.drew:=(H.o.1.trans (((Ao _ W).drew.trans i.o.2).mono H.o.1.size)).drew
  have hd:([b4 n++[y],body]:List Bs).flatten=ki k body:=by
   rw[ki,H.o.2.2.2.1,N.o];simp
  obtain⟨m,p⟩:=Xa (ls (ki k body))
  have d:Hid (iE b.drew (Aa (some ⟨P,0,none⟩) 5 O) (b4 n++[y])/\iE b.drew (Aa a n c) body/\Iz w b.drew/\jo b w.heap.size 213 (Ab Ak k) (Aa a n c)/\([b4 n++[y],body]:List Bs).flatten=ki k body/\ls (ki k body)=m) :=
   ⟨iW.at (gM.low (i.o.1.below (Ao _ b).drew) (Bw _)),(H.o.2.2.1.below ((Ao _ W).drew.trans i.o.2)).below (Ao _ b).drew,D,H.o.2.1.below ((Ao _ W).drew.trans i.o.2),hd,p⟩
  have S:=d.o.2.2.2.1.cells;obtain⟨U,V⟩:=S;have l6:=d.o.2.2.2.1.lt
  have X:w.heap.size≠b.heap.size:=by omega
  have Y:w.heap.size≠b.heap.size+1:=by omega
  have Z:w.heap.size≠b.heap.size+1+1:=by omega
  clear K x0 x1 L D hd p g C i;go_wp2_with fail
  go_region_held3 (λ u=>u.cell? ⟨w.heap.size,0,none⟩=some (Ab Ak k)/\u.cell? ⟨w.heap.size,1,none⟩=some (Aa a n c)) (first | with_reducible exact(d.o.2.2.2.1.below (pF _ _ _ _)).cells | go_keep)
   (first
    | (go_at_call 97;refine(WK b.drew _ _ _ _ d.o.1 d.o.2.1 (by rw[Ax,Ge];have:=H.o.2.2.2.1;have:=H.o.2.2.2.2.1;simp;omega) m z r.o _ 24).mono ?_;rintro e w8 ⟨v8,rfl,x⟩;have k8:=(d.o.2.2.2.1.below ((Ao _ b).drew.trans x.o.2)).cells)
    | (go_at_call 202;refine(Ry m (by rw[<- d.o.2.2.2.2.2];exact IF _) _).mono ?_;rintro e w7 ⟨z,rfl,rfl,r⟩)
    | (go_at_call 25;refine(LN _ (Sc d.o.1 d.o.2.1 24) (by simp) m (by rw[d.o.2.2.2.2.1];exact d.o.2.2.2.2.2)).mono ?_;rintro e w6 ⟨rfl,rfl⟩))
  go_wp2;refine As (AD rfl _ _ _) rfl ?_;refine⟨_,rfl,?_,d.o.2.2.1.trans (x.o.2.mono d.o.2.2.1.size)⟩
  have e:b4 n++[y]++body++b4 m=lw k body:=by
   rw[lw,d.o.2.2.2.2.2,<- d.o.2.2.2.2.1];simp
  rw[<- e];exact x.o.1.low d.o.2.2.1.size
theorem du(b:iE w (Aa a n c) body)(g:body.length=n):At Am 169 #[Ag #[Ab Ak k,Aa a n c]] w λ e w'=>∃v,e=Aj (Af #[v,Ab Ak (jB (k,body)).2])/\Hid (gM gP 5 w' w.heap.size v (jB (k,body)).1/\Iz w w'):=by
 unfold jB;by_cases d:k<0∨255<k
 rw[AC d];refine(Yh d).mono ?_;rintro e w' ⟨rfl,b⟩;exact⟨_,rfl,gM.nil _ _ _ _,b⟩
 rw[Ay d];by_cases f:8192<body.length
 rw[AC f];refine(UO (by omega) (by omega) (by omega)).mono ?_;rintro e w' ⟨rfl,b⟩;exact⟨_,rfl,gM.nil _ _ _ _,b⟩
 rw[Ay f];exact cU (by omega) (by omega) g (by omega) b
end
end Go.Proofs.YtakgkgmopmcecaaGreat
namespace Go.Proofs.YtakgkgmopmcecaaGreat
open Go.Shelf
variable {B R c i m n:Nat}{ao:Option Addr}{bs own p x:Bs}{d d':Dk}{e:En}{es:List En}{l v z:Ar}{r:Rs}{w w':Ap}{xs:List UInt64}{xss:List Bs}
def YW:Go.Shelf.Ren:=⟨λ | 316=>216 | n=>n,λ | 9=>9 | 3=>3 | 4=>4 | 37=>24 | 0=>0 | 127=>336 | 5=>5 | n=>n,λ | n=>n⟩
theorem nw:Go.Proofs.LaysM.n316 Am YW:={
 mixed:=by kernel_rfl
 f316:=Tryz.func216.trans (A7 some (by kernel_rfl))
 t0:=underlying0
 a0:=Tryz.isAgg0
 z0:=Tryz.sizeOf0
 v0:=Tryz.zeroValue0
 t3:=underlying3
 a3:=Tryz.isAgg3
 z3:=Tryz.sizeOf3
 v3:=Tryz.zeroValue3
 t4:=underlying4
 a4:=Tryz.isAgg4
 z4:=Tryz.sizeOf4
 v4:=Tryz.zeroValue4
 t9:=underlying9
 a9:=Tryz.isAgg9
 z9:=Tryz.sizeOf9
 v9:=Tryz.zeroValue9
 t37:=underlying24
 a37:=Tryz.isAgg24
 z37:=Tryz.sizeOf24
 v37:=Tryz.zeroValue24
 t127:=underlying336
 a127:=Tryz.isAgg336
 z127:=Tryz.sizeOf336
 v127:=Tryz.zeroValue336
 t5:=underlying5
 a5:=Tryz.isAgg5
 z5:=Tryz.sizeOf5
 v5:=Tryz.zeroValue5
 i0:=by kernel_rfl
 i3:=by kernel_rfl
 i4:=by kernel_rfl
 i5:=by kernel_rfl
 i9:=by kernel_rfl
 i37:=by kernel_rfl
 i127:=by kernel_rfl }
def Vl:Go.Shelf.Ren:=⟨λ | 190=>214 | 125=>82 | 258=>224 | 128=>132 | 129=>133 | 302=>229 | 303=>230 | 304=>231 | 305=>232 | 306=>233 | 307=>234 | 308=>235 | 309=>236 | 310=>237 | 333=>242 | 329=>180 | 330=>181 | 334=>243 | 335=>244 | 336=>245 | 344=>248 | n=>n,λ | 31=>67 | 9=>9 | 3=>3 | 46=>54 | 0=>0 | 51=>79 | 53=>61 | 4=>4 | 183=>237 | 182=>236 | 131=>159 | 5=>5 | 218=>297 | 222=>301 | 228=>321 | 229=>322 | n=>n,λ | n=>n⟩
theorem mh:Go.Proofs.Lays.n190 Am Vl:={
 mixed:=by kernel_rfl
 f125:=Tryz.func82.trans (A7 some (by kernel_rfl))
 f128:=Tryz.func132.trans (A7 some (by kernel_rfl))
 f129:=Tryz.func133.trans (A7 some (by kernel_rfl))
 f190:=Tryz.func214.trans (A7 some (by kernel_rfl))
 f258:=Tryz.func224.trans (A7 some (by kernel_rfl))
 f302:=Tryz.func229.trans (A7 some (by kernel_rfl))
 f303:=Tryz.func230.trans (A7 some (by kernel_rfl))
 f304:=Tryz.func231.trans (A7 some (by kernel_rfl))
 f305:=Tryz.func232.trans (A7 some (by kernel_rfl))
 f306:=Tryz.func233.trans (A7 some (by kernel_rfl))
 f307:=Tryz.func234.trans (A7 some (by kernel_rfl))
 f308:=Tryz.func235.trans (A7 some (by kernel_rfl))
 f309:=Tryz.func236.trans (A7 some (by kernel_rfl))
 f310:=Tryz.func237.trans (A7 some (by kernel_rfl))
 f329:=Tryz.func180.trans (A7 some (by kernel_rfl))
 f330:=Tryz.func181.trans (A7 some (by kernel_rfl))
 f333:=Tryz.func242.trans (A7 some (by kernel_rfl))
 f334:=Tryz.func243.trans (A7 some (by kernel_rfl))
 f335:=Tryz.func244.trans (A7 some (by kernel_rfl))
 f336:=Tryz.func245.trans (A7 some (by kernel_rfl))
 f344:=Tryz.func248.trans (A7 some (by kernel_rfl))
 t0:=underlying0
 a0:=Tryz.isAgg0
 z0:=Tryz.sizeOf0
 v0:=Tryz.zeroValue0
 t3:=underlying3
 a3:=Tryz.isAgg3
 z3:=Tryz.sizeOf3
 v3:=Tryz.zeroValue3
 t4:=underlying4
 a4:=Tryz.isAgg4
 z4:=Tryz.sizeOf4
 v4:=Tryz.zeroValue4
 t5:=underlying5
 a5:=Tryz.isAgg5
 z5:=Tryz.sizeOf5
 v5:=Tryz.zeroValue5
 t9:=underlying9
 a9:=Tryz.isAgg9
 z9:=Tryz.sizeOf9
 v9:=Tryz.zeroValue9
 t31:=underlying67
 a31:=Tryz.isAgg67
 z31:=Tryz.sizeOf67
 v31:=Tryz.zeroValue67
 t46:=underlying54
 a46:=Tryz.isAgg54
 z46:=Tryz.sizeOf54
 v46:=Tryz.zeroValue54
 t51:=underlying79
 a51:=Tryz.isAgg79
 z51:=Tryz.sizeOf79
 v51:=Tryz.zeroValue79
 t53:=underlying61
 a53:=Tryz.isAgg61
 z53:=Tryz.sizeOf61
 v53:=Tryz.zeroValue61
 t131:=underlying159
 a131:=Tryz.isAgg159
 z131:=Tryz.sizeOf159
 v131:=Tryz.zeroValue159
 t182:=underlying236
 a182:=Tryz.isAgg236
 z182:=Tryz.sizeOf236
 v182:=Tryz.zeroValue236
 t183:=underlying237
 a183:=Tryz.isAgg237
 z183:=Tryz.sizeOf237
 v183:=Tryz.zeroValue237
 t218:=underlying297
 a218:=Tryz.isAgg297
 z218:=Tryz.sizeOf297
 v218:=Tryz.zeroValue297
 t222:=underlying301
 a222:=Tryz.isAgg301
 z222:=Tryz.sizeOf301
 v222:=Tryz.zeroValue301
 t228:=underlying321
 a228:=Tryz.isAgg321
 z228:=Tryz.sizeOf321
 v228:=Tryz.zeroValue321
 t229:=underlying322
 a229:=Tryz.isAgg322
 z229:=Tryz.sizeOf322
 v229:=Tryz.zeroValue322 }
end Go.Proofs.YtakgkgmopmcecaaGreat
namespace Go.Proofs.YtakgkgmopmcecaaGreat
open Go.RowKit
end Go.Proofs.YtakgkgmopmcecaaGreat
namespace Go.Proofs.YtakgkgmopmcecaaGreat
open Go.RowKit Go.Maps Go.Sort Go.Shelf
variable {B R c i m n:Nat}{ao:Option Addr}{bs own p x:Bs}{d d':Dk}{e:En}{es:List En}{l v z:Ar}{r:Rs}{w w':Ap}{xs:List UInt64}{xss:List Bs}
theorem Ul(s:ByteArray)(w:Ap)(a:s.size<=281474976710656):
  At Am 197 #[Ae s] w λ e w'=>e=Aj (Ae s)/\Iz w w':=by
 have c:=Any.stringslite_Clone nw s w a
 go_enter func197,ntmps197;go_wp2_with fail;refine c.mono ?_;rintro e w1 ⟨rfl,b⟩;go_wp2;go_ret;exact⟨rfl,b⟩
end Go.Proofs.YtakgkgmopmcecaaGreat
namespace Go.Proofs.YtakgkgmopmcecaaGreat
open Go.RowKit
variable {B R c i m n:Nat}{ao:Option Addr}{bs own p x:Bs}{d d':Dk}{e:En}{es:List En}{l v z:Ar}{r:Rs}{w w':Ap}{xs:List UInt64}{xss:List Bs}
theorem Mq(h:d.dead=true):ij d=(d,false,false):=by simp[ij,h]
theorem Kp(h:d.dead=false)(b:d.armed=true)(a:d.after=0):ij d=({ d with dead:=true,armed:=false },false,true):=by simp[ij,h,b,a]
theorem K1(h:d.dead=false)(b:d.armed=true)(a:d.after≠0):ij d=({ d with after:=d.after - 1,writes:=d.writes+1 },true,false):=by simp[ij,h,b,a]
theorem Ma(h:d.dead=false)(a:d.armed=false):ij d=({ d with writes:=d.writes+1 },true,false):=by simp[ij,h,a]
section
variable {S:Nat->Prop}{w:World}{b m:Nat}{f:Bs->Option Value}{a k:Int}{d:Dk}
theorem Ww(h:Bq w b m f a k d S)(hd:d.dead=true):
  At Am 150 #[Ah (some ⟨b,0,none⟩)] w λ e w'=>e=Aj (Ab Ak 8)/\w'=w:=by
 obtain⟨g,i,c,j,l,n,o⟩:=h.cell;rw[hd]at c;have H:Hid _:=h;clear h hd;go_enter func150,ntmps150;go_wp2;go_ret;exact⟨rfl,rfl⟩
theorem Ua(h:Bq w b m f a k d S)(hd:d.dead=false)(c:d.armed=true)(r:d.after=0):
  At Am 150 #[Ah (some ⟨b,0,none⟩)] w λ e w'=>e=Aj (Ab Ak 8)/\Bq w' b m f a k { d with dead:=true,armed:=false } S/\Aw (λ i=>i=b) w w':=by
 obtain⟨t,u,n,p,v,x,g⟩:=h.cell;have f2:=g 2;have y:=g 3;have j:=(h.cut c).1;rw[r]at j;subst j;rw[hd]at n;rw[c]at p;have H:Hid _:=h;clear h g;have l:Hid _:=And.intro hd c;clear hd c;go_enter func150,ntmps150;go_wp2;go_ret;have s:=JH (JH H.o.cells 3 (Ad false)) 2 (Ad true);have t1:Aw (λ i=>i=b) w ((w.setCell ⟨b,3,none⟩ (Ad false)).setCell ⟨b,2,none⟩ (Ad true)):=(BR 3 _).trans (BR 2 _) (λ _ _ q=>q);refine⟨rfl,Bq.wrote H.o t1 (d':={ d with dead:=true,armed:=false }) rfl (by rw[s];simp[l.o]) (by simp),t1⟩
theorem gm(h:Bq w b m f a k d S)(hd:d.dead=false)(c:d.armed=true)(y:d.after≠0)(B:d.after<9223372036854775808)(D:d.writes<4611686018427387904):
  At Am 150 #[Ah (some ⟨b,0,none⟩)] w λ e w'=>∃t,e=Aj (Ab Ak 0)/\Bq w' b m f t k { d with after:=d.after - 1,writes:=d.writes+1 } S/\Aw (λ i=>i=b) w w':=by
 obtain⟨E,u,v,x,F,G,g⟩:=h.cell;have I:=g 1;have J:=g 4;obtain⟨r,s⟩:=h.cut c;rw[hd]at v;rw[c]at x;have H:Hid _:=h;clear h g;have p:Hid _:=And.intro hd (And.intro c s);clear hd c s
 obtain⟨n,l⟩:∃n,d.after=n+1:=⟨d.after - 1,by omega⟩
 have N:=Ih l
 have C:n<9223372036854775807:=by omega
 have j:a=((n+1:Nat):Int):=by rw[r,l]
 clear l r y B;subst j
 have z:(((n+1:Nat):Int)==0)=false:=by simp;omega
 obtain⟨q,hq⟩:=Xa d.writes
 rw[hq]at u D;go_enter func150,ntmps150;go_wp2;go_ret;have A:=JH (JH H.o.cells 4 (Ab Ak (n:Int))) 1 (Ab Ak ((q:Int)+1));have t1:Aw (λ i=>i=b) w ((w.setCell ⟨b,4,none⟩ (Ab Ak (n:Int))).setCell ⟨b,1,none⟩ (Ab Ak ((q:Int)+1))):=(BR 4 _).trans (BR 1 _) (λ _ _ q=>q);refine⟨n,rfl,Bq.wrote H.o t1 (d':={ d with after:=d.after - 1,writes:=d.writes+1 }) rfl (by rw[A];simp[p.o,hq]) (λ _=>⟨by rw[N.o];rfl,p.o.2.2⟩),t1⟩
theorem XS(h:Bq w b m f a k d S)(hd:d.dead=false)(c:d.armed=false)(s:d.writes<4611686018427387904):
  At Am 150 #[Ah (some ⟨b,0,none⟩)] w λ e w'=>e=Aj (Ab Ak 0)/\Bq w' b m f a k { d with writes:=d.writes+1 } S/\Aw (λ i=>i=b) w w':=by
 obtain⟨t,l,n,p,u,v,j⟩:=h.cell;have x:=j 1;rw[hd]at n;rw[c]at p;have H:Hid _:=h;clear h j;have g:Hid _:=And.intro hd c;clear hd c
 obtain⟨q,hq⟩:=Xa d.writes
 rw[hq]at l s;go_enter func150,ntmps150;go_wp2;go_ret;have r:=JH H.o.cells 1 (Ab Ak ((q:Int)+1));have t1:Aw (λ i=>i=b) w (w.setCell ⟨b,1,none⟩ (Ab Ak ((q:Int)+1))):=BR 1 _;refine⟨rfl,Bq.wrote H.o t1 (d':={ d with writes:=d.writes+1 }) rfl (by rw[r];simp[g.o,hq]) (λ e=>by rw[show({ d with writes:=d.writes+1 }:Dk).armed=d.armed from rfl,g.o.2]at e;cases e),t1⟩
theorem OU(h:Bq w b m f a k d S)(p:d.after<9223372036854775808)(o:d.writes<4611686018427387904):
  At Am 150 #[Ah (some ⟨b,0,none⟩)] w λ e w'=>∃r n,e=Aj (Ab Ak r)/\Hid (r=if(ij d).2.1 then 0 else 8)/\Bq w' b m f n k (ij d).1 S/\Aw (λ i=>i=b) w w':=by
 by_cases hd:d.dead=true
 refine(Ww h hd).mono ?_;rintro e w' ⟨rfl,rfl⟩;rw[Mq hd];exact⟨8,a,rfl,rfl,h,Aw.refl _ _⟩
 have hd:d.dead=false:=by simpa using hd
 by_cases c:d.armed=true
 by_cases l:d.after=0
 refine(Ua h hd c l).mono ?_;rintro e w' ⟨rfl,g,j⟩;rw[Kp hd c l];exact⟨8,a,rfl,rfl,g,j⟩
 refine(gm h hd c l p o).mono ?_;rintro e w' ⟨n,rfl,g,j⟩;rw[K1 hd c l];exact⟨0,n,rfl,rfl,g,j⟩
 have c:d.armed=false:=by simpa using c
 refine(XS h hd c o).mono ?_;rintro e w' ⟨rfl,g,j⟩;rw[Ma hd c];exact⟨0,a,rfl,rfl,g,j⟩
end
theorem Zm(w:Ap)(m:Nat)(S:Nat->Prop)(a:w.heap[m]? = some (.map #[] 0)):IK w m S [] (λ _=>none) (λ _=>False) where
 map:=⟨.map [],⟨#[],0,a,⟨by simp,MapKept.stamped_empty 0,by simp⟩,AA _,rfl⟩,rfl,λ _=>rfl,λ _ _ h=>by cases h⟩
 no:=λ _ _=>rfl
 yes:=λ x bs h=>by simp[ip]at h
 apart:=λ x y u v g _ h=>by cases h
 own:=λ x v g h=>by cases h
theorem Uq(w:Ap):At Am 43 #[] w λ e w'=>∃b,e=Aj (Ah (some ⟨b,0,none⟩))/\D7 w' b lM (λ i=>w.heap.size<=i/\i<w'.heap.size)/\Iz w w':=by
 have c:=run_makeMap (P:=Am) 173 w;go_enter func43,ntmps43;go_wp2;go_ret
 have e:(w.alloc (.map #[] 0)).heap.size=w.heap.size+1:=by simp
 have a:∀o,((w.alloc (.map #[] 0)).alloc o).heap.size=w.heap.size+2:=by intro o;simp
 refine⟨w.heap.size+1,rfl,⟨w.heap.size,λ _=>none,0,0,⟨?_,by simp[lM],Zm _ _ _ ?_,⟨⟨by omega,by rw[a];omega⟩,⟨AA _,by rw[a];omega⟩⟩,λ i hi=>hi.2⟩⟩,lE _ _ _⟩
 have:=Cg (w.alloc (.map #[] 0)) (Ai #[.map (some w.heap.size),Ab Ak 0,Ad false,Ad false,Ab Ak 0,Ab Ak 0] 177);rw[e]at this;exact this
 exact(Below.heap_alloc _ _ w.heap.size (by simp)).trans (Cg w _)
theorem Is(n:Bs):(⟨n.toArray⟩:ByteArray).size=n.length:=by simp[ByteArray.size]
section
variable {S:Nat->Prop}{X:Bs->Prop}{w:World}{b m:Nat}{f:Bs->Option Value}{a k:Int}{d:Dk}
theorem CK.look(h:CK w b m f a k d S X)(n:Bs)(c:n.length<=AH)(o:Option Ar)(e:f n=o):
  (Instr.lookup 173 (.map (some m)) (tx n) true).run Am w=.ok (Af #[o.getD (Aa none 0 0),Ad o.isSome]) w:=by
 subst e;exact h.files.map.look ⟨n.toArray⟩ (by rw[Is];exact c)
theorem CK.look1(h:CK w b m f a k d S X)(n:Bs)(c:n.length<=AH)(o:Option Ar)(e:f n=o):
  (Instr.lookup 173 (.map (some m)) (tx n) false).run Am w=.ok (o.getD (Aa none 0 0)) w:=by
 subst e;exact h.files.map.look1 ⟨n.toArray⟩ (by rw[Is];exact c)
theorem Tp(h:Bq w b m f a k d S)(n:Bs)(r:n.length<=AH)(o:Option Ar)(l:f n=o)(bs:Bs)(c:iE w (o.getD (Aa none 0 0)) bs)(x:bs.length<=262144):
  At Am 89 #[Ah (some ⟨b,0,none⟩),tx n] w λ e w'=>∃v,e=Aj (Af #[v,Ad o.isSome])/\gM gP 5 w' w.heap.size v bs/\Iz w w':=by
 have i:=Xg w c (by omega);have s:=h.look n r o l;have t:=h.cell.1;have H:Hid _:=h;clear l h c
 obtain⟨u,p⟩:=Xa (o.getD (Aa none 0 0))
 obtain⟨g,j⟩:=Xa o.isSome
 rw[p,j]at s;rw[p]at i;rw[j];go_enter func89,ntmps89;go_wp2_with fail;refine i.mono ?_;rintro e w1 ⟨v,rfl,q,c⟩;go_wp2;refine As (AD rfl _ _ _) rfl ?_;exact⟨v,rfl,q,c⟩
theorem eC(h:D7 w b d S)(n:Bs)(i:n.length<=AH)(j:∀bs,ip d.files n=some bs->bs.length<=262144):
  At Am 89 #[Ah (some ⟨b,0,none⟩),tx n] w λ e w'=>∃v,e=Aj (Af #[v,Ad (ip d.files n).isSome])/\gM gP 5 w' w.heap.size v ((ip d.files n).getD [])/\Iz w w':=by
 obtain⟨m,f,a,k,h⟩:=h
 rcases h.file n with⟨c,g⟩ | ⟨bs,v,c,g,l⟩
 rw[c];exact Tp h n i none g [] (iW.at (gM.nil _ _ _ _)) (by simp)
 rw[c];exact Tp h n i (some v) g bs (iW.at (l.elim False.elim id)) (j bs c)
theorem Mm(h:Bq w b m f a k d S)(n:Bs)(Z:n.length<=AH)(z:Nat)(hz:z<=262144)(hp:D4 w v xss)(X:xss.length<=1000000)(l:∀x∈xss,x.length<=140737488355328)
  (g:Bool) (r:(decide (z+xss.flatten.length<=262144)&&((ip d.files n).isSome||decide (d.files.length<32)))=g) :
  At Am 172 #[Ah (some ⟨b,0,none⟩),tx n,Ab Ak (z:Int),v] w λ e w'=>e=Aj (Ad g)/\w'=w:=by
 obtain⟨ao,c,rfl,J,P⟩:=hp
 obtain⟨N,I⟩:=Xa xss.length
 rw[I]at X J ⊢;have T:=h.look n Z _ rfl;rw[h.some_iff n]at T
 obtain⟨u,F⟩:=Xa ((f n).getD (Aa none 0 0))
 obtain⟨q,hq⟩:=Xa ((ip d.files n).isSome)
 obtain⟨L,Q⟩:=Xa d.files.length
 rw[F,hq]at T;rw[hq,Q]at r;have C:=h.files.map.len;rw[Q]at C;have c0:=h.cell.1;have A:=Ih J;have B:=Ih P
 have H:=I3 r I l
 clear J P r I l F hq h;go_enter func172,ntmps172;go_wp2;go_loopg[2,15] N (λ k sv iv wr=>wr=w/\∃i s:Nat,iv=Ab Ak i/\i+k=N/\sv=Ab Ak (s:Int)/\s<=262144/\Hid (s=z+(xss.take i).flatten.length))
 case atStart=>exact⟨rfl,0,z,rfl,by omega,rfl,hz,rfl⟩
 case round =>
  obtain⟨U,i,s,rfl,hi,rfl,hs,G⟩:=hrel;have M:=U.symm;subst M;clear U;by_cases K:i<N
  ·have id:(i:Int)<(N:Int):=by omega
   obtain⟨x,l⟩:=BK H.o.2.1 K;obtain⟨b1,o1,rfl,Y⟩:=A.o (by omega);obtain⟨u,F,a2,c2,rfl,_,_,_⟩:=B.o i x b1 o1 l rfl;have D:=LU xss (i+1);rw[IW l,Ax]at D;have O:=H.o.2.2 x (A8 l);obtain⟨y,p⟩:=Xa x.length;rw[p]at O F D;have E:=I2 D (by rw[IW l,Ax,p,G.o];omega:s+y=z+(xss.take (i+1)).flatten.length);clear D l p;by_cases R:262144<s+y
   have t:decide ((262144:Int)<(s:Int)+(y:Int))=true:=by simp;omega
   have V:g=false:=by
    rw[<- H.o.1]
    have:decide (z+xss.flatten.length<=262144)=false:=by
     have e3:=E.o.1;have e4:=G.o;rw[Az];omega
    rw[this]
    rfl
   subst V;go_wp2;go_ret;exact⟨rfl,rfl⟩
   ·have t:decide ((262144:Int)<(s:Int)+(y:Int))=false:=by simp;omega
    go_wp2;go_roundg (gk - 1)
    all_goals first
     | omega
     | exact⟨rfl,i+1,s+y,by go_num,by omega,by go_num,by omega,E.o.2⟩
  obtain rfl:i=N:=by omega
  have e0:s=z+xss.flatten.length:=by rw[G.o,Av (by rw[H.o.2.1];exact AA _)]
  have r:(q||decide (L<32))=g:=by
   rw[<- H.o.1]
   have:decide (z+xss.flatten.length<=262144)=true:=by rw[A9];omega
   rw[this]
   rfl
  clear e0;cases q
  have W:decide ((L:Int)<32)=g:=by rw[<- r,Bool.false_or];exact Ed.2 (by omega)
  clear r;go_wp2;go_ret;exact⟨rfl,rfl⟩;subst r;go_wp2;go_ret;exact⟨rfl,rfl⟩
end
section
variable {S:Nat->Prop}{X:Bs->Prop}{w:World}{b m:Nat}{f:Bs->Option Value}{a k:Int}{d:Dk}
theorem Q3{w w':Ap}{m:Nat}(h:w.grownBy w' (some m)):Aw (λ i=>i=m) w w':=(Aw.refl _ w).grown h (λ i _ e=>by cases e;rfl)
theorem ZL{w w':Ap}{m:Nat}(h:w.grownBy w' (some m)){p:Addr}(hp:p.block<w.heap.size)(a:p.block≠m):w'.cell? p=w.cell? p:=(Q3 h).cell hp a
theorem CK.putIn(h:CK w b m f a k d S X)(D:Gg d.files){n:Bs}(K:∀x,X x->x=n)(I:iW w v bs)(z:∀y u g,y≠n->f y=some u->u.ownBlock=some g->v.ownBlock≠some g)(F:∀g,v.ownBlock=some g->S g)(l:w.grownBy w' (some m))(A:FF w' m (mA f n v) (if(f n).isSome then d.files.length else d.files.length+1)):
  Bq w' b m (mA f n v) a k { d with files:=ig d.files n bs } S:=by
 have E:Aw (λ i=>i=m) w w':=(Aw.refl _ w).grown l (λ i _ e=>by cases e;rfl)
 have p:∀{u:Ar} {cs:Bs} {g:Nat},iW w u cs->u.ownBlock=some g->g≠m:=by
  intro u cs g C l e;obtain⟨J,H⟩:=C.block l;obtain⟨es,c,B⟩:=h.files.map.block;rw[e,B]at H;cases H
 refine⟨?_,h.cut,?_,h.mine,λ i hi=>AK (h.lt i hi) l.size⟩
 rw[E.block b h.lt_b (λ e=>h.m_ne e.symm)];exact h.cells
 refine⟨?_,?_,?_,?_,?_⟩
 rw[NX n bs D,<- h.some_iff n];cases e:(f n).isSome
 rw[e]at A;exact A
 rw[e]at A;exact A
 intro x j;rw[MH n bs x D]at j;by_cases e:n=x
 rw[AC e]at j;cases j
 rw[Ay e]at j;unfold mA;rw[Ay (λ q=>e q.symm)];exact h.files.no x j
 intro x cs j;rw[MH n bs x D]at j;unfold mA;by_cases e:n=x
 rw[AC e]at j;cases j;rw[AC e.symm];exact⟨v,rfl,.inr (I.turned E (λ g l=>p I l))⟩
 rw[Ay e]at j;rw[Ay (λ q=>e q.symm)];obtain⟨u,o,C⟩:=h.files.yes x cs j;refine⟨u,o,.inr ?_⟩
 rcases C with q|q
 exact absurd (K x q).symm e
 exact q.turned E (λ g l=>p q l)
 intro x y u v' g r j s o;unfold mA at j s;by_cases t:x=n
 rw[AC t]at j;cases j;rw[Ay (λ q=>r (by rw[t,q]))]at s;intro q;exact z y v' g (λ q=>r (by rw[t,q])) s q o
 rw[Ay t]at j;by_cases G:y=n
 rw[AC G]at s;cases s;exact z x u g t j o
 rw[Ay G]at s;exact h.files.apart x y u v' g r j s o
 intro x u g j o;unfold mA at j;by_cases e:x=n
 rw[AC e]at j;cases j;exact F g o
 rw[Ay e]at j;exact h.files.own x u g j o
theorem TG(h:CK w b m f a k d S X)(C:Gg d.files)(B:d.files.length<=1000){n:Bs}(L:n.length<=140737488355328)(A:∀x,X x->x=n)(E:iW w v bs)(r:∀y u g,y≠n->f y=some u->u.ownBlock=some g->v.ownBlock≠some g)(t:∀g,v.ownBlock=some g->S g):
  At Am 151 #[Ah (some ⟨b,0,none⟩),tx n,v] w λ e w'=>e=Aj (Af #[])/\Bq w' b m (mA f n v) a k { d with files:=ig d.files n bs } S/\Aw (λ i=>i=m) w w':=by
 have K:=h.cell.1
 have H:=I7 h C B A E r t
 clear h C B A E r t;go_enter func151,ntmps151;go_wp2_with fail
 go_region_held3 (λ u=>u.cell? ⟨b,0,none⟩=some (.map (some m))) (go_keep)
  (first|(go_at_call 197;refine(Ul ⟨n.toArray⟩ _ (by rw[Is];omega)).mono ?_;rintro e w1 ⟨rfl,z⟩;have l:=DU z;obtain⟨F,D,s,c⟩:=(H.o.1.below l).files.map.put ⟨n.toArray⟩ (by rw[Is];simp only[AH];omega) (by have:=H.o.2.2.1;simp only[AH];omega) v;have J:=(H.o.1.below l).cell.1;have N:=(ZL c (p:=⟨b,0,none⟩) (H.o.1.below l).lt_b (λ e=>H.o.1.m_ne e.symm)).trans J;have M:=I3 l c s;clear z l s c))
 go_end0;have j:=M.o.1;have G:=H.o.1.below j;have I:=H.o.2.2.2.2.1.turned (Aw.ofBelow (S:=λ _=>False) j) (λ _ _ q=>q);exact⟨rfl,CK.putIn G H.o.2.1 H.o.2.2.2.1 I H.o.2.2.2.2.2.1 H.o.2.2.2.2.2.2 M.o.2.1 M.o.2.2,(Aw.ofBelow j).trans (Q3 M.o.2.1) (λ _ _ q=>q)⟩
theorem Bq.row_lt(h:Bq w b m f a k d S){g:Nat}(e:f x=some v)(c:v.ownBlock=some g):g<w.heap.size:=h.lt g (h.files.own x v g e c)
theorem SM{w1 z s:Ap}{n cs:Bs}{r v3:Ar}{D:Int}(h:Bq w b m f a k d S)(l:∀g,r.ownBlock=some g->f n=some r)(C:Iz w w1)(j:Bq z b m f D k d' S)(v:Aw (λ i=>i=b) w1 z)
  (G:iW s v3 cs) (E:Dw z r v3) (p:Aw (λ i=>r.ownBlock=some i) z s) :
  CK s b m f D k d' (B9 S w s) (λ x=>x=n)/\(∀y u g,y≠n->f y=some u->u.ownBlock=some g->v3.ownBlock≠some g)/\(∀g,v3.ownBlock=some g->B9 S w s g)/\Aw S w s:=by
 have H:∀i,S i->i<s.heap.size:=λ i hi=>AK (j.lt i hi) p.size
 have o:∀g,r.ownBlock=some g->g≠b/\g≠m/\S g:=λ g c=>⟨(Bq.row_ne j (l g c) c).1,(Bq.row_ne j (l g c) c).2,j.files.own n r g (l g c) c⟩
 have I:=Nat.le_trans C.size v.size;refine⟨⟨?_,j.cut,?_,⟨.inl j.mine.1,.inl j.mine.2⟩,?_⟩,?_,?_,?_⟩
 rw[p.block b j.lt_b (λ e=>(o b e).1 rfl)];exact j.cells
 refine(IK.mono j.files (S':=B9 S w s) (X':=λ x=>x=n) (λ i hi=>.inl hi) (λ _ q=>q.elim)).turned p (λ e=>(o m e).2.1 rfl) ?_;intro x u g J B A c;exact j.files.apart x n u r g B J (l g c) A c
 intro i hi
 rcases hi with q|q
 exact H i q
 exact q.2
 intro y u g K A c q
 rcases E with e|e
 have t:r.ownBlock=some g:=by rw[<- e];exact q
 exact j.files.apart y n u r g K A (l g t) c t
 have F:=e g q;have L:=Bq.row_lt j A c;omega
 intro g c
 rcases E with e|e
 exact .inl (o g (by rw[<- e];exact c)).2.2
 have F:=e g c;exact .inr ⟨by omega,(G.lt g c).2⟩
 refine((Aw.ofBelow C).trans (v.mono (T:=S) (λ i _ e=>by rw[e];exact h.mine.1)) (λ _ _ q=>q)).trans (p.mono (T:=S) (λ i _ e=>(o i e).2.2)) (λ _ _ q=>q)
theorem Pd{c a:Ap}{d:Int}{f:Bs->Option Ar}(l:S m)(j:Aw S w c)(g:Bq a b m f d k d' (B9 S w c))(h:Aw (λ i=>i=m) c a):D7 a b d' (B9 S w a)/\Aw S w a:=by
 refine⟨⟨m,f,d,k,CK.mono g (λ i hi=>?_) (λ _ q=>q) (λ i hi=>?_)⟩,j.trans (h.mono (T:=S) (λ i _ e=>by rw[e];exact l)) (λ _ _ q=>q)⟩
 rcases hi with q|q
 exact .inl q
 exact .inr ⟨q.1,AK q.2 h.size⟩
 rcases hi with q|q
 exact g.lt i (.inl q)
 exact q.2
theorem WO(b:Nat)(n:Bs)(a:gS n=false)(d v:Ar):At Am 114 #[Ah (some ⟨b,0,none⟩),tx n,d,v] w λ e w'=>e=Aj (Ab Ak 2)/\w'=w:=by
 have c:=IM n false a w;clear a;go_enter func114,ntmps114;go_wp2_with fail;refine c.mono ?_;rintro e w1 ⟨rfl,rfl⟩;go_wp2;go_ret;exact⟨rfl,rfl⟩
theorem gd(h:Bq w b m f a k d S)(n:Bs)(i:gS n=true)(q:n.length<=AH)(c:iW w l own)(s:own.length<=262144)(hp:D4 w v xss)(p:xss.length<=1000000)(j:∀x∈xss,x.length<=140737488355328)
  (g:(decide (own.length+xss.flatten.length<=262144)&&((ip d.files n).isSome||decide (d.files.length<32)))=false) :
  At Am 114 #[Ah (some ⟨b,0,none⟩),tx n,l,v] w λ e w'=>e=Aj (Ab Ak 7)/\w'=w:=by
 have o:=IM n true i w;have r:=Mm h n q own.length s hp p j false g;obtain⟨ao,cc,rfl,_⟩:=gM.form c;clear i h c hp j g;go_enter func114,ntmps114;go_wp2_with fail;refine o.mono ?_;rintro e w1 ⟨rfl,rfl⟩;go_wp2_with fail;refine r.mono ?_;rintro e w1 ⟨rfl,rfl⟩;go_wp2;go_ret;exact⟨rfl,rfl⟩
theorem WY(h:Bq w b m f a k d S)(hd:d.dead=true)(n:Bs)(i:gS n=true)(r:n.length<=AH)(c:iW w l own)(t:own.length<=262144)(hp:D4 w v xss)(q:xss.length<=1000000)(j:∀x∈xss,x.length<=140737488355328)
  (g:(decide (own.length+xss.flatten.length<=262144)&&((ip d.files n).isSome||decide (d.files.length<32)))=true) :
  At Am 114 #[Ah (some ⟨b,0,none⟩),tx n,l,v] w λ e w'=>e=Aj (Ab Ak 8)/\w'=w:=by
 have p:=IM n true i w;have s:=Mm h n r own.length t hp q j true g;have o:=h.cell.2.2.1;rw[hd]at o;obtain⟨ao,cc,rfl,_⟩:=gM.form c;clear i h c hp j g hd;go_enter func114,ntmps114;go_wp2_with fail;refine p.mono ?_;rintro e w1 ⟨rfl,rfl⟩;go_wp2_with fail;refine s.mono ?_;rintro e w1 ⟨rfl,rfl⟩;go_wp2;go_ret;exact⟨rfl,rfl⟩
theorem ZJ(h:Bq w b m f a k d S)(A:Gg d.files)(z:d.files.length<=1000)(hd:d.dead=false)(y:(ij d).2.1=true)(hb:d.after<9223372036854775808)(hw:d.writes<4611686018427387904)(n:Bs)(s:gS n=true)(hn:n.length<=140737488355328){D:Ar}
  (t:iW w D own) (B:∀g,D.ownBlock=some g->f n=some D) (hz:own.length<=262144) (hp:D4 w v xss) (W:xss.length<=1000000) (Y:∀x∈xss,x.length<=140737488355328)
  (G:(decide (own.length+xss.flatten.length<=262144)&&((ip d.files n).isSome||decide (d.files.length<32)))=true) :
  At Am 114 #[Ah (some ⟨b,0,none⟩),tx n,D,v] w λ e w'=>e=Aj (Ab Ak 0)/\D7 w' b { (ij d).1 with files:=ig d.files n (own++xss.flatten) } (B9 S w w')/\Aw S w w':=by
 have hc:=IM n true s w;have N:=Mm h n (by simp only[AH];omega) own.length hz hp W Y true G
 have l:own.length+xss.flatten.length<=262144:=by
  simp only[Bn,A9]at G;exact G.1
 have c2:=h.cell.2.2.1;rw[hd]at c2;have u:=Le w hp W (by omega);have p:=t;obtain⟨ao,cc,rfl,_⟩:=gM.form t
 have H:=I7 h A z y p B l
 clear s h t hp Y G hd A z y p B l;go_enter func114,ntmps114;go_wp2_with fail;refine hc.mono ?_;rintro e w1 ⟨rfl,c⟩;rw[c];clear c w1;go_wp2_with fail;refine N.mono ?_;rintro e w1 ⟨rfl,c⟩;rw[c];clear c w1;go_wp2_with fail;refine u.mono ?_;rintro e w1 ⟨Z,rfl,Q,J⟩;have C:=OU (H.o.1.below J) hb hw
 have F:=I2 Q J
 clear Q J u;go_wp2_with fail;refine C.mono ?_;rintro e I ⟨r,a',rfl,A,V,j⟩
 have er:r=0:=by rw[A.o,AC H.o.2.2.2.1]
 subst er
 have U:=I2 V j
 have b2:Hid (iE I Z xss.flatten/\iW I (Aa ao own.length cc) own):=by
  refine⟨?_,?_⟩;refine iW.at (iW.turned (gM.low F.o.1 (Bw _)) j (λ g s e=>?_));have:=(F.o.1.lt g s).1;have:=H.o.1.lt_b;rw[e]at *;omega;refine iW.turned (gM.below H.o.2.2.2.2.1 F.o.2) j (λ g s e=>?_);exact(Bq.row_ne H.o.1 (H.o.2.2.2.2.2.1 g s) s).1 e
 clear C A V j;go_wp2_with(at_builtin;(refine nG rfl (.tmp 46) (.tmp 47) rfl 0 _ _ own xss.flatten rfl b2.o.2 rfl b2.o.1 (by have:=H.o.2.2.2.2.2.2;omega) (Bw _) ?_;intro v3 w3 K _ P R));have L:=SM H.o.1 H.o.2.2.2.2.2.1 F.o.2 U.o.1 U.o.2 K P R;have M:=Ot d;have X:=TG L.1 (by rw[M];exact H.o.2.1) (by rw[M];exact H.o.2.2.1) hn (λ x q=>q) K L.2.1 L.2.2.1;have LH:=Ih L.2.2.2;clear L K P R;go_wp2_with fail;refine X.mono ?_;rintro e w4 ⟨rfl,O,T⟩;have E:=Pd H.o.1.mine.2 LH.o O T;rw[M]at E;clear O T X;go_wp2;go_ret;exact⟨rfl,E.1,E.2⟩
theorem YQ(h:Bq w b m f a k d S)(D:Gg d.files)(C:d.files.length<=1000)(hd:d.dead=false)(ha:d.armed=true)(h0:d.after=0)(hb:d.after<9223372036854775808)(hw:d.writes<4611686018427387904)(n:Bs)(s:gS n=true)(hn:n.length<=140737488355328){I:Ar}
  (t:iW w I own) (F:∀g,I.ownBlock=some g->f n=some I) (hz:own.length<=262144) (hp:D4 w v xss) (hl:xss.length<=1000000) (hx:∀x∈xss,x.length<=140737488355328)
  (O:(decide (own.length+xss.flatten.length<=262144)&&((ip d.files n).isSome||decide (d.files.length<32)))=true) :
  At Am 114 #[Ah (some ⟨b,0,none⟩),tx n,I,v] w λ e w'=>e=Aj (Ab Ak 8)/\D7 w' b { (ij d).1 with files:=ig d.files n (own++xss.flatten.take d.keep) } (B9 S w w')/\Aw S w w':=by
 have hc:=IM n true s w;have Y:=Mm h n (by simp only[AH];omega) own.length hz hp hl hx true O
 have l:own.length+xss.flatten.length<=262144:=by
  simp only[Bn,A9]at O;exact O.1
 have B:(ij d).2.1=false:=by rw[Kp hd ha h0]
 have ek:k=(d.keep:Int):=(h.cut ha).2;subst ek;have c2:=h.cell.2.2.1;rw[hd]at c2;have A:=Le w hp hl (by omega);have p:=t;obtain⟨ao,cc,rfl,_⟩:=gM.form t
 have H:=I7 h D C B p F l
 clear s h t hp hx O hd D C B p F l;go_enter func114,ntmps114;go_wp2_with fail;refine hc.mono ?_;rintro e w1 ⟨rfl,c⟩;rw[c];clear c w1;go_wp2_with fail;refine Y.mono ?_;rintro e w1 ⟨rfl,c⟩;rw[c];clear c w1;go_wp2_with fail;refine A.mono ?_;rintro e w1 ⟨vb,rfl,O1,P⟩;have G:=OU (H.o.1.below P) hb hw
 have N:=I2 O1 P
 clear O1 P A;go_wp2_with fail;refine G.mono ?_;rintro e M ⟨r,a',rfl,D,hD,j⟩
 have er:r=8:=by rw[D.o,Ay (by rw[H.o.2.2.2.1];simp)]
 subst er
 have R:=I2 hD j
 have b2:Hid (iE M vb xss.flatten/\iW M (Aa ao own.length cc) own):=by
  refine⟨?_,?_⟩;refine iW.at (iW.turned (gM.low N.o.1 (Bw _)) j (λ g s e=>?_));have:=(N.o.1.lt g s).1;have:=H.o.1.lt_b;rw[e]at *;omega;refine iW.turned (gM.below H.o.2.2.2.2.1 N.o.2) j (λ g s e=>?_);exact(Bq.row_ne H.o.1 (H.o.2.2.2.2.2.1 g s) s).1 e
 clear G D hD j;have c5:=R.o.1.cell.2.2.2.2.2.1
 obtain⟨K,eK⟩:=Xa d.keep
 rw[eK]at c5;have b3:=b2.o.1;obtain⟨U,V,rfl,X,y,z⟩:=b3
 obtain⟨L,eL⟩:=Xa xss.flatten.length
 obtain⟨J,eJ⟩:=Xa (min K L)
 have mj:min (K:Int) (L:Int)=(J:Int):=by omega
 have b4:Hid (iE M (Aa U J V) (xss.flatten.take K)):=by
  have e:(xss.flatten.take K).length=J:=by rw[AE,eL,eJ]
  exact⟨U,V,by rw[e],by rw[e];omega,y,z.take K⟩
 have hJ:J<=L:=by omega
 have aa:(J:Int)<=(V:Int):=by omega
 rw[eL];have W:=Ot d
 have tl:(xss.flatten.take K).length<=xss.flatten.length:=by rw[AE];omega
 have T:Hid (own.length+(xss.flatten.take K).length<=262144):=by have:=H.o.2.2.2.2.2.2;show _<=_;omega
 clear X y z eJ tl;cases U
 all_goals go_wp2_with(at_builtin;(refine nG rfl (.tmp 46) (.tmp 47) rfl 0 _ _ own (xss.flatten.take K) rfl b2.o.2 rfl b4.o (by have:=T.o;omega) (Bw _) ?_;intro v3 w3 Q _ M3 T3))
 all_goals have u:=SM H.o.1 H.o.2.2.2.2.2.1 N.o.2 R.o.1 R.o.2 Q M3 T3
 all_goals have hs:=TG u.1 (by rw[W];exact H.o.2.1) (by rw[W];exact H.o.2.2.1) hn (λ x q=>q) Q u.2.1 u.2.2.1
 all_goals have LH:=Ih u.2.2.2
 all_goals clear u Q M3 T3
 all_goals go_wp2_with fail
 all_goals refine hs.mono ?_
 all_goals rintro e w4 ⟨rfl,Z,T4⟩
 all_goals have E:=Pd H.o.1.mine.2 LH.o Z T4
 all_goals rw[W]at E
 all_goals clear Z T4 hs
 all_goals go_wp2
 all_goals go_ret
 all_goals exact⟨rfl,by rw[eK];exact E.1,E.2⟩
structure Dk.ok(d:Dk):Prop where
 rise:Gg d.files
 few:d.files.length<=32
 each:∀f∈d.files,gS f.1=true/\f.2.length<=262144
 after:d.after<9223372036854775808
theorem Dk.ok.get(h:Dk.ok d){n:Bs}(a:ip d.files n=some bs):bs.length<=262144:=(h.each _ (Pq a)).2
theorem XW(S:Nat->Prop)(w:Ap):∀i,B9 S w w i->S i:=by
 intro i h
 rcases h with q|q
 exact q
 omega
theorem Bq.same(h:Bq w b m f a k d S):D7 w b d (B9 S w w):=⟨m,f,a,k,CK.mono h (λ _ q=>.inl q) (λ _ q=>q) (λ i hi=>h.lt i (XW S w i hi))⟩
theorem TK(h:Bq w b m f a k d S)(o:d.ok)(I:d.writes<4611686018427387904)(n:Bs)(H:n.length<=140737488355328)
  (l:iW w z own) (y:∀g,z.ownBlock=some g->f n=some z) (E:own.length<=262144) (hp:D4 w v xss) (C:xss.length<=1000000) (D:∀x∈xss,x.length<=140737488355328) :
  At Am 114 #[Ah (some ⟨b,0,none⟩),tx n,z,v] w λ e w'=>∃r,e=Aj (Ab Ak r)/\Hid (r=(mz d n own xss.flatten).2)/\D7 w' b (mz d n own xss.flatten).1 (B9 S w w')/\Aw S w w':=by
 have u:n.length<=AH:=by simp only[AH];omega
 unfold mz;by_cases B:gS n=false
 refine(WO b n B z v).mono ?_;rintro e w' ⟨rfl,rfl⟩;rw[AC B];exact⟨2,rfl,rfl,Bq.same h,Aw.refl _ _⟩
 rw[Ay B]
 have j:gS n=true:=by simpa using B
 by_cases c:262144<own.length+xss.flatten.length∨(ip d.files n=none/\32<=d.files.length)
 have t:(decide (own.length+xss.flatten.length<=262144)&&((ip d.files n).isSome||decide (d.files.length<32)))=false:=by
  rcases c with q|⟨K,J⟩
  rw[Dd (by omega)];rfl;rw[K,Dd (p:=d.files.length<32) (by omega)];simp
 refine(gd h n j u l E hp C D t).mono ?_;rintro e w' ⟨rfl,rfl⟩;rw[AC c];exact⟨7,rfl,rfl,Bq.same h,Aw.refl _ _⟩
 rw[Ay c]
 have t:(decide (own.length+xss.flatten.length<=262144)&&((ip d.files n).isSome||decide (d.files.length<32)))=true:=by
  rw[F0 (by omega),Ci]
  cases q:ip d.files n with
  | none=>rw[F0 (p:=d.files.length<32) (by have:¬(32<=d.files.length):=λ J=>c (.inr ⟨q,J⟩);omega)];rfl
  | some _=>rfl
 by_cases hd:d.dead=true
 refine(WY h hd n j u l E hp C D t).mono ?_;rintro e w' ⟨rfl,rfl⟩;rw[Mq hd];exact⟨8,rfl,rfl,Bq.same h,Aw.refl _ _⟩
 have hd:d.dead=false:=by simpa using hd
 by_cases i:d.armed=true/\d.after=0
 refine(YQ h o.rise (by have:=o.few;omega) hd i.1 i.2 o.after I n j H l y E hp C D t).mono ?_;rintro e w' ⟨rfl,A,F⟩;rw[Kp hd i.1 i.2]at A ⊢;exact⟨8,rfl,rfl,A,F⟩
 have s:(ij d).2.1=true:=by
  by_cases G:d.armed=true;rw[K1 hd G (λ q=>i ⟨G,q⟩)];rw[Ma hd (by simpa using G)]
 refine(ZJ h o.rise (by have:=o.few;omega) hd s o.after I n j H l y E hp C D t).mono ?_;rintro e w' ⟨rfl,A,F⟩;rw[AC s];exact⟨0,rfl,rfl,A,F⟩
theorem dy(h:D7 w b d S)(j:d.ok)(A:d.writes<4611686018427387904)(n:Bs)(y:n.length<=140737488355328)(hp:D4 w v xss)(t:xss.length<=1000000)(B:∀x∈xss,x.length<=140737488355328):
  At Am 68 #[Ah (some ⟨b,0,none⟩),tx n,v] w λ e w'=>∃r,e=Aj (Ab Ak r)/\Hid (r=(kf d n xss.flatten).2)/\D7 w' b (kf d n xss.flatten).1 (B9 S w w')/\Aw S w w':=by
 obtain⟨m,f,a,k,h⟩:=h;have l:=h.look1 n (by simp only[AH];omega) _ rfl;have D:=h.cell.1
 have q:At Am 114 #[Ah (some ⟨b,0,none⟩),tx n,(f n).getD (Aa none 0 0),v] w λ e w'=>∃r,e=Aj (Ab Ak r)/\Hid (r=(kf d n xss.flatten).2)/\D7 w' b (kf d n xss.flatten).1 (B9 S w w')/\Aw S w w':=by
  unfold kf
  rcases h.file n with⟨i,c⟩ | ⟨bs,u,i,c,C⟩
  rw[i,c];exact TK h j A n y (gM.nil gP 5 w 0) (λ g s=>by simp[Value.ownBlock]at s) (by simp) hp t B;rw[i,c];exact TK h j A n y (C.elim False.elim id) (λ g s=>c) (j.get i) hp t B
 obtain⟨u,z⟩:=Xa ((f n).getD (Aa none 0 0))
 rw[z]at q l;clear h hp z;go_enter func68,ntmps68;go_wp2_with fail;refine q.mono ?_;rintro e w1 ⟨r,rfl,i,c,p⟩;have H:Hid _:=And.intro c p;clear c p;go_wp2;go_ret;exact⟨r,rfl,i,H.o.1,H.o.2⟩
end
end Go.Proofs.YtakgkgmopmcecaaGreat
