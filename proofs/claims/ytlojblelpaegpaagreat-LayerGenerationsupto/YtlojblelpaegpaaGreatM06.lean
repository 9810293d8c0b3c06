/-
  Several texts, laid together.
-/
import Derived.Test.YtlojblelpaegpaaGreatM05
set_option maxHeartbeats 6400000
set_option maxRecDepth 100000
open Go renaming World->Ap,Calls->At,bodyPost_ret->As,results_tmp2->AA
open Go.RowKit renaming Below->An
open Go.RowKit.Below renaming refl->Ao
open List renaming take_of_length_le->Av,length_take->AM,take_sublist->GQ,take_add_one->AO,mem_of_getElem?->AY,length_append->AD,any_eq_false->Em,find?_eq_none->GJ,nodup_append->Cg
open Nat renaming lt_succ_self->Gc,le_refl->Az
open UInt8 renaming ofNat->AW
open Go.Value renaming slice->Aa,int->Ab,bool->Ad,string->Ae,tuple->Af,agg->Ag,pointer->Ah
open Go.Obj renaming cells->Ai
open Go.Ending renaming returned->Aj
open Go.IntKind renaming i64->Ak,u64->Al
open Go.Proofs.Tryz renaming prog->Am
open Go.Proofs.Tryz
namespace Go.Proofs.YtlojblelpaegpaaGreat
open Go.RowKit
variable{B R c i n:Nat}{ao:Option Addr}{e:En}{es:List En}{p:Bs}{r:Rs}{w w':Ap}{x:UInt64}{xs:List UInt64}
theorem Zdi(p d:ByteArray)(r:Bs)(f:Bool)(a:d.data.toList.isPrefixOf p.data.toList=f)(b:r=if f then p.data.toList.drop d.data.toList.length else p.data.toList)(w:Ap):
  At Am 230 #[Ae p,Ae d] w λ e w'=>e=Aj (Af #[Ae ⟨r.toArray⟩,Ad f])/\w'=w:=by
 have h:=Any.strings_CutPrefix layCutPrefix p d w;subst a b;exact h
theorem Zhl(r:Bs)(g:Bool)(a:[47].isPrefixOf r=g)(w:Ap):
  At Am 231 #[Ae ⟨r.toArray⟩,Ae ⟨#[47]⟩] w λ e w'=>e=Aj (Ad g)/\w'=w:=by
 subst a;exact Any.strings_HasPrefix layHasPrefix ⟨r.toArray⟩ ⟨#[47]⟩ w
theorem Zhh(p d:ByteArray)(w:Ap):
  At Am 221 #[Ae p,Ae d] w λ e w'=>e=Aj (Ad (under p.data.toList d.data.toList))/\w'=w:=by
 have U:=Zkq p.data.toList d.data.toList
 obtain⟨f,a⟩:=Xa (d.data.toList.isPrefixOf p.data.toList)
 rw[<- U,a]
 cases f with
 | false =>
  have c:=Zdi p d _ false a rfl;rw[Bool.false_and];clear U a;go_enter func221,ntmps221;go_wp2_with fail;refine(c _).mono ?_;rintro e w' ⟨rfl,rfl⟩;go_wp2;go_ret;exact⟨rfl,rfl⟩
 | true =>
  obtain⟨r,b⟩:=Xa (p.data.toList.drop d.data.toList.length)
  have c:=Zdi p d r true a b.symm;rw[b,Bool.true_and];clear U a b
  cases b:r==[]with
  | true =>
   obtain rfl:r=[]:=by simpa using b
   go_enter func221,ntmps221;go_wp2_with fail;refine(c _).mono ?_;rintro e w' ⟨rfl,rfl⟩;go_wp2;go_ret;exact⟨rfl,rfl⟩
  | false =>
   obtain⟨g,h⟩:=Xa ([47].isPrefixOf r)
   have i:=Zhl r g h;rw[h];clear h;go_enter func221,ntmps221;go_wp2_with fail;refine(c _).mono ?_;rintro e w' ⟨rfl,rfl⟩;go_wp2_with fail;refine(i _).mono ?_;rintro e w' ⟨rfl,rfl⟩;go_wp2;go_ret;exact⟨rfl,rfl⟩
def encE:Enc En:=⟨λ e=>[tx e.1,Ab Al (e.2.toNat:Int)],2,λ _=>rfl,by decide,by intro x u h;simp at h;rcases h with rfl|rfl <;> rfl⟩
theorem Tryz.info152:(Am.info? 152).map (λ i=>(i.zero,i.size,i.bytes))=some (some (Ag #[Ae ⟨#[]⟩,Ab Al 0]),2,24):=by kernel_rfl
theorem Tryz.info233:(Am.info? 233).map (λ i=>(i.zero,i.size,i.bytes))=some (some (Ag #[Ae ⟨#[]⟩,Ab Al 0]),2,24):=by kernel_rfl
theorem Tryz.info44:(Am.info? 44).map (λ i=>(i.zero,i.size,i.bytes))=some (some (Ab Al 0),1,8):=by kernel_rfl
theorem Tryz.info43:(Am.info? 43).map (λ i=>(i.zero,i.size,i.bytes))=some (some (Ab Al 0),1,8):=by kernel_rfl
theorem RdG.ents {w:World} {b off:Nat} {es:List En} (h:RdG encE w (some ⟨b,off,none⟩) es) {i:Nat} {e:En} (hx:es[i]? = some e):b<w.heap.size/\w.cell? ⟨b,off+i*2,none⟩=some (tx e.1)/\w.cell? ⟨b,off+i*2+1,none⟩=some (.int .u64 (e.2.toNat:Int)):=by
 obtain ⟨b', off', e', hlt, hc⟩ := h (by rcases Nat.lt_or_ge i es.length with q | q
                                         · omega
                                         · rw [List.getElem?_eq_none q] at hx; cases hx)
 obtain ⟨rfl,rfl⟩:b=b'/\off=off':=by simpa using e'
 have h0:=hc i e hx 0 _ rfl;have h1:=hc i e hx 1 _ rfl;exact ⟨hlt,by simpa [encE] using h0,by simpa [encE,Nat.add_assoc] using h1⟩
theorem Ze9(p:Bs)(B:Nat)(d:Bs)(z:Int)(w:Ap)(b:w.cell? ⟨B,0,none⟩=some (tx p))(f:Bool)(a:under p d=f):
  At Am 227 #[Ag #[tx d,Ab Al z],Ah (some ⟨B,0,none⟩)] w λ e w'=>e=Aj (Ad f)/\An w.heap.size w w':=by
 have c:B<w.heap.size:=World.block_lt_of_cell? w _ b;have h:=Zhh ⟨p.toArray⟩ ⟨d.toArray⟩ (w.alloc (Ai #[tx d,Ab Al z] 152))
 change At Am 221 #[Ae ⟨p.toArray⟩,Ae ⟨d.toArray⟩] _ λ e w'=>e=Aj (Ad (under p d))/\w'=_ at h
 rw[a]at h
 have g:B≠w.heap.size:=by omega
 clear a;go_enter func227,ntmps227;go_wp2_with fail;refine h.mono ?_;rintro e w' ⟨rfl,rfl⟩;go_wp2;go_ret;exact⟨rfl,bz1 _ _⟩
theorem ZlZ:∀args w,(callFunc 227 args).run Am w=.ok (.enter 227 args) w:=enters_of func227 (by kernel_rfl) rfl
theorem ZpZ(p:Bs)(w:Ap)(m:w.cell? ⟨B,0,none⟩=some (tx p))(x:RdG encE w ao es)(y:es.length=n)(G:n<=4000000000000000000):
  At Am 233 #[Aa ao n c,.func (.func 227) #[] #[Ah (some ⟨B,0,none⟩)]] w λ e w'=>∃r:Int,e=Aj (Ab Ak r)/\decide (0<=r)=es.any (λ e=>under p e.1)/\An w.heap.size w w':=by
 have H:Hid (RdG encE w ao es/\es.length=n/\w.cell? ⟨B,0,none⟩=some (tx p)/\B<w.heap.size):=⟨x,y,m,World.block_lt_of_cell? w _ m⟩
 clear x y m;have F:=ZlZ;go_enter func233,ntmps233;go_wp2_with fail;go_loopg[5,8] n (λ k _ v wr=>∃(i:Nat),v=Ab Ak i/\i+k=n/\Hid ((es.take i).any (λ e=>under p e.1)=false)/\Hid (An w.heap.size w wr))
 case atStart=>exact⟨0,rfl,by omega,rfl,Ao _ _⟩
 case round =>
  obtain⟨i,rfl,hi,t,h⟩:=hrel;by_cases q:i<n
  ·have id:(i:Int)<(n:Int):=by omega
   obtain⟨e,l⟩:=Zaf H.o.2.1 q;obtain⟨b,off,rfl,E⟩:=H.o.1.some_of l;obtain⟨_,D,u⟩:=(H.o.1.below h.o).ents l;obtain⟨d,z⟩:=e
   obtain⟨C,A⟩:=Xa ((z.toNat:Int))
   simp only at D u;rw[A]at u;have f:wr.cell? ⟨B,0,none⟩=some (tx p):=(h.o.cell H.o.2.2.2).trans H.o.2.2.1;have s:Hid (es[i]? = some (d,z)):=l;clear l A
   cases g:under p d with
   | true =>
    have a:=Ze9 p B d C wr f true g;clear f;go_wp2_with(go_at_fn 227;refine a.mono ?_;rintro e w' ⟨rfl,j⟩);go_ret;exact⟨i,rfl,by rw[Zjo (p:=λ e=>under p e.1) s.o g];simp,h.o.trans (j.mono h.o.size)⟩
   | false =>
    have a:=Ze9 p B d C wr f false g;clear f;go_wp2_with(go_at_fn 227;refine a.mono ?_;rintro e w' ⟨rfl,j⟩);go_roundg (gk - 1)
    case measure=>omega
    case rel=>exact⟨i+1,by go_num,by omega,ZeB (es:=es) (p:=λ e:En=>under p e.1) s.o t.o g,h.o.trans (j.mono h.o.size)⟩
  ·obtain rfl:i=n:=by omega
   go_wp2;go_ret;refine⟨-1,rfl,?_,h.o⟩;have e:=t.o;rw[Av (by rw[H.o.2.1];omega)]at e;rw[e]
   rfl
theorem Zdp(p:Bs)(w:Ap)(a:w.cell? ⟨B,0,none⟩=some (tx p))(b:RdG encE w ao es)(g:es.length=n)(k:n<=4000000000000000000)(f:Bool)(d:es.any (λ e=>under p e.1)=f):
  At Am 226 #[Aa ao n c,.func (.func 227) #[] #[Ah (some ⟨B,0,none⟩)]] w λ e w'=>e=Aj (Ad f)/\An w.heap.size w w':=by
 have h:=ZpZ (c:=c) p w a b g k;rw[d]at h;clear a b g d;go_enter func226,ntmps226;go_wp2_with fail;refine h.mono ?_;rintro e w' ⟨r,rfl,i,j⟩;have R:Hid (decide (0<=r)=f):=i;clear i;go_wp2;go_ret;exact⟨by rw[<- R.o];rfl,j⟩
theorem ZkK(p:Bs)(w:Ap):
  At Am 215 #[tx p,Aa ao 0 c] w λ e w'=>e=Aj (Ad true)/\An w.heap.size w w':=by
 have b:∀m,_:=λ m=>Zdp (ao:=ao) (c:=c) (n:=0) (B:=w.heap.size) (es:=[]) p ((w.alloc (Ai #[tx p] 9)).drewN m) (((bdrewN _ m).cell (by simp)).trans (by simp)) (RdG.nil _ _ _) rfl (by omega) false rfl
 go_enter func215,ntmps215;go_wp2_with fail;go_quiet (fail);go_wp2_with fail;refine(b _).mono ?_;rintro e w' ⟨rfl,a⟩;go_wp2;go_ret;exact⟨rfl,((bz1 w _).trans ((bdrewN _ _).mono (bz1 w _).size)).trans (a.mono (bz1 w _).size)⟩
theorem Zl3{m:Nat}(p:Bs)(w:Ap)(l:RdG encE w ao es)(r:es.length=m+1)(C:m+1<=4000000000000000000):
  At Am 215 #[tx p,Aa ao (m+1) c] w λ e w'=>e=Aj (Ad (fits p es))/\An w.heap.size w w':=by
 obtain⟨e,q⟩:=Zaf r (Gc m);obtain⟨b,off,rfl,a⟩:=l.some_of q
 obtain⟨W,s⟩:=Xa (w.alloc (Ai #[tx p] 9))
 have j:An w.heap.size w W:=by rw[<- s];exact bz1 _ _
 have x:W.cell? ⟨w.heap.size,0,none⟩=some (tx p):=by rw[<- s];simp
 have t:W.heap.size=w.heap.size+1:=by rw[<- s];simp
 obtain⟨A,v,_⟩:=(l.below j).ents q;obtain⟨d,z⟩:=e;simp only at v
 have i:fits p es=(decide (d<p)&&!(es.any λ e=>under p e.1)):=by
  unfold fits
  have:es.getLast? = some (d,z):=by rw[List.getLast?_eq_getElem?,r];exact q
  rw[this]
 obtain⟨f,g⟩:=Xa ((es.any λ e=>under p e.1))
 rw[g]at i
 have u:∀k,_:=λ k=>Zdp (ao:=some ⟨b,off,none⟩) (c:=c) (n:=m+1) (B:=w.heap.size) p (W.drewN k) (((bdrewN _ k).cell (by rw[t];exact Gc _)).trans x) ((l.below j).below (bdrewN _ k)) r C f g
 have H:Hid (An w.heap.size w W/\W.heap.size=w.heap.size+1):=⟨j,t⟩
 have h:=ZaY d p;clear j t l q g r;by_cases a:d<p
 ·have D:Op.bytesLess p d=false:=by rw[ZaY,Ax];exact List.lt_asymm a
  have E:(p==d)=false:=by rw[A7];rintro rfl;exact List.lt_irrefl _ a
  rw[i,FW a,Bool.true_and];clear i h a;go_enter func215,ntmps215;go_wp2_with fail;go_quiet (fail);go_wp2_with fail;refine(u _).mono ?_;rintro e w' ⟨rfl,y⟩;go_wp2;go_ret;exact⟨rfl,(H.o.1.trans ((bdrewN _ _).mono H.o.1.size)).trans (y.mono H.o.1.size)⟩
 ·rw[i,CW a,Bool.false_and];clear u i h;by_cases hq:p=d
  ·subst hq;clear a;go_enter func215,ntmps215;go_wp2_with fail;go_quiet (fail);go_wp2;go_ret;exact⟨rfl,H.o.1.trans ((bdrewN _ _).mono H.o.1.size)⟩
  ·have D:Op.bytesLess p d=true:=by
    rw[ZaY,CR];by_cases k:p<d
    ·exact k
    ·exact absurd (List.le_antisymm a k) hq
   clear a hq;go_enter func215,ntmps215;go_wp2_with fail;go_quiet (fail);go_wp2;go_ret;exact⟨rfl,H.o.1.trans ((bdrewN _ _).mono H.o.1.size)⟩
theorem Zos(p:Bs)(w:Ap)(b:RdG encE w ao es)(a:es.length=n)(g:n<=4000000000000000000)(f:Bool)(d:fits p es=f):
  At Am 215 #[tx p,Aa ao n c] w λ e w'=>e=Aj (Ad f)/\An w.heap.size w w':=by
 subst d
 cases n with
 | zero =>
  obtain rfl:es=[]:=List.eq_nil_of_length_eq_zero a;exact ZkK p w
 | succ m=>exact Zl3 p w b a g
theorem Zpx(x:UInt64)(w:Ap)(j:RdG encU w ao xs)(l:xs.length=n)(t:n<=4000000000000000000):
  At Am 208 #[Aa ao n c,Ab Al (x.toNat:Int)] w λ e w'=>∃r:Int,e=Aj (Ab Ak r)/\decide (0<=r)=xs.any (λ y=>x==y)/\w'=w:=by
 have H:Hid (RdG encU w ao xs/\xs.length=n):=⟨j,l⟩
 clear j l;go_enter func208,ntmps208;go_wp2_with fail;go_loopg[5,8] n (λ k _ v wr=>∃(i:Nat),v=Ab Ak i/\i+k=n/\wr=w/\Hid ((xs.take i).any (λ y=>x==y)=false))
 case atStart=>exact⟨0,rfl,by omega,rfl,rfl⟩
 case round =>
  obtain⟨i,rfl,hi,rfl,h⟩:=hrel;by_cases f:i<n
  ·have id:(i:Int)<(n:Int):=by omega
   obtain⟨y,d⟩:=Zaf H.o.2 f;obtain⟨b,off,rfl,m⟩:=H.o.1.some_of d;obtain⟨_,s⟩:=H.o.1.nums d;have g:Hid (xs[i]? = some y):=d;clear d;by_cases a:x=y
   ·subst a;go_wp2;go_ret;exact⟨i,rfl,by rw[Zjo (p:=λ y=>x==y) g.o (by simp)];simp,rfl⟩
   ·have u:((x.toNat:Int)==(y.toNat:Int))=false:=by
     rw[A7];intro q;exact a (UInt64.toNat_inj.1 (by omega))
    have z:(x.toNat==y.toNat)=false:=by
     rw[A7];intro q;exact a (UInt64.toNat_inj.1 q)
    go_wp2;go_roundg (gk - 1)
    case measure=>omega
    case rel=>exact⟨i+1,by go_num,by omega,rfl,ZeB (p:=λ y=>x==y) g.o h.o (by simpa using a)⟩
  ·obtain rfl:i=n:=by omega
   go_wp2;go_ret;refine⟨-1,rfl,?_,rfl⟩;have e:=h.o;rw[Av (by rw[H.o.2];omega)]at e;rw[e]
   rfl
theorem Zgy(x:UInt64)(w:Ap)(a:RdG encU w ao xs)(d:xs.length=n)(i:n<=4000000000000000000)(f:Bool)(b:xs.any (λ y=>x==y)=f):
  At Am 166 #[Aa ao n c,Ab Al (x.toNat:Int)] w λ e w'=>e=Aj (Ad f)/\w'=w:=by
 have h:=Zpx (c:=c) x w a d i;rw[b]at h;clear a d b;go_enter func166,ntmps166;go_wp2_with fail;refine h.mono ?_;rintro e w' ⟨r,rfl,g,rfl⟩;have R:Hid (decide (0<=r)=f):=g;clear g;go_wp2;go_ret;exact⟨by rw[<- R.o];rfl,rfl⟩
structure Rdr(w:Ap)(R:Nat)(r:Rs):Prop where
 at_:∃a c,Box w R 199 (Aa a r.1.length c) (Ad r.2)/\∀u,An R w u->BAt u (Aa a r.1.length c) r.1
theorem Rdr.lt(h:Rdr w R r):R<w.heap.size:=by
 obtain⟨a,c,b,_⟩:=h.at_;exact b.lt
theorem Rdr.over(h:Rdr w R r)(b:An (R+1) w w'):Rdr w' R r:=by
 obtain⟨a,c,d,e⟩:=h.at_;exact⟨a,c,(b.block R (Gc R)).trans d,λ u f=>e u ((b.mono (Nat.le_succ R)).trans f)⟩
theorem Rdr.below(h:Rdr w R r)(a:An w.heap.size w w'):Rdr w' R r:=h.over (a.mono h.lt)
theorem Rdr.new{a:Option Addr}{bs:Bs}(h:BAt w (Aa a n c) bs)(b:bs.length=n):Rdr (w.alloc (Ai #[Aa a n c,Ad false] 199)) w.heap.size (bs,false):=by
 subst b;exact⟨a,c,Box.new _ _ _ _,λ u d=>h.below ((bz1 w _).trans d)⟩
theorem Zjz(h:Rdr w R r)(k:Nat)(g:r.1.length<k):
  At Am 165 #[Ah (some ⟨R,0,none⟩),Ab Ak (k:Int)] w λ e w'=>e=Aj (Aa none 0 0)/\Hid (Rdr w' R ([],true)/\Zaa (λ i=>i=R) w w'):=by
 obtain⟨a,c,b,f⟩:=h.at_
 obtain⟨n,d⟩:=Xa r.1.length
 rw[d]at b g
 have q:(n:Int)<(k:Int):=by omega
 obtain⟨m,s⟩:=b.cells;obtain⟨j,l⟩:=b.thaw;have H:Hid (Box w R 199 (Aa a n c) (Ad r.2)):=b;clear h b f d;go_enter func165,ntmps165;go_wp2;go_ret;refine⟨rfl,⟨none,0,H.o.put _ _,λ u _=>⟨none,0,rfl,Az _,by omega,RdG.nil _ _ _⟩⟩,?_⟩;exact((Zaa.refl (λ i=>i=R) w).setCell (p:=⟨R,0,none⟩) (.inl (show R=R from rfl)) _).setCell (p:=⟨R,1,none⟩) (.inl (show R=R from rfl)) _
theorem ZmQ(h:Rdr w R r)(k:Nat)(D:¬r.1.length<k):
  At Am 165 #[Ah (some ⟨R,0,none⟩),Ab Ak (k:Int)] w λ e w'=>∃a c,e=Aj (Aa a k c)/\Hid (BAt w' (Aa a k c) (r.1.take k)/\Rdr w' R (r.1.drop k,r.2)/\Zaa (λ i=>i=R) w w'):=by
 obtain⟨a,c,d,g⟩:=h.at_
 obtain⟨n,j⟩:=Xa r.1.length
 rw[j]at d g D
 have q:decide ((n:Int)<(k:Int))=false:=by rw[Ax];omega
 have o:(n<=c/\c<=9223372036854775807)/\∀u,An R w u->RdG encB u a r.1:=by
  constructor
  ·obtain⟨ao,c',e,x,y,_⟩:=g w (Ao _ _);rw[j]at e x;cases e;exact⟨x,y⟩
  ·intro u b;obtain⟨ao,c',e,_,_,E⟩:=g u b;cases e;exact E
 obtain⟨a2,f,s2,z,F,B⟩:=ZfM (ao:=a) (n:=n) (c:=c) (k:=k) o.1.1 (by omega);obtain⟨a3,m,s3,A,G,C⟩:=ZfC (ao:=a) (n:=n) (c:=c) (k:=k) o.1.1 (by omega);obtain⟨K,L⟩:=d.cells;obtain⟨I,J⟩:=d.thaw
 have s:(r.1.take k).length=k:=by rw[AM];omega
 have l:(r.1.drop k).length=n - k:=by rw[List.length_drop];omega
 have H:Hid (Box w R 199 (Aa a n c) (Ad r.2)/\(∀u,An R w u->BAt u (Aa a3 k m) (r.1.take k))/\(∀u,An R w u->BAt u (Aa a2 (n - k) f) (r.1.drop k))/\(r.1.drop k).length=n - k):=by
  have y:=o.1.2;refine⟨d,λ u b=>⟨a3,m,by rw[s],by rw[s];exact A,by omega,C u _ (o.2 u b)⟩,λ u b=>⟨a2,f,by rw[l],by rw[l];exact z,by omega,B u _ j (o.2 u b)⟩,l⟩
 clear h d g j o z F A G B C s l;go_enter func165,ntmps165;go_wp2;go_ret;have v:Zaa (λ i=>i=R) w (w.setCell ⟨R,0,none⟩ (Aa a2 (n - k) f)):=(Zaa.refl (λ i=>i=R) w).setCell (p:=⟨R,0,none⟩) (.inl (show R=R from rfl)) _;have t:=Zpd H.o.1.lt v;refine⟨a3,m,rfl,H.o.2.1 _ t,⟨a2,f,?_⟩,v⟩;simp only;rw[H.o.2.2.2];exact⟨H.o.1.put0 _,λ u b=>H.o.2.2.1 u (t.trans b)⟩
theorem Zf0(h:Rdr w R r)(k:Nat):
  At Am 165 #[Ah (some ⟨R,0,none⟩),Ab Ak (k:Int)] w λ e w'=>∃a n c,e=Aj (Aa a n c)/\Hid (n=(rtake k r).1.length/\BAt w' (Aa a n c) (rtake k r).1/\Rdr w' R (rtake k r).2/\Zaa (λ i=>i=R) w w'):=by
 by_cases b:r.1.length<k
 ·have e:rtake k r=([],([],true)):=by unfold rtake;rw[AE b]
  rw[e];refine(Zjz h k b).mono ?_;rintro e w' ⟨rfl,J⟩;exact⟨none,0,0,rfl,rfl,⟨none,0,rfl,Az _,by omega,RdG.nil _ _ _⟩,J.o.1,J.o.2⟩
 ·have e:rtake k r=(r.1.take k,(r.1.drop k,r.2)):=by unfold rtake;rw[Aw b]
  rw[e];refine(ZmQ h k b).mono ?_;rintro e w' ⟨a,c,rfl,J⟩;exact⟨a,k,c,rfl,by rw[AM];omega,J.o.1,J.o.2.1,J.o.2.2⟩
theorem ZfU(h:Rdr w R r)(v:Nat)(k:Rs)(g:rnum r=(v,k)):
  At Am 101 #[Ah (some ⟨R,0,none⟩)] w λ e w'=>e=Aj (Ab Al (v:Int))/\Hid (Rdr w' R k/\Zaa (λ i=>i=R) w w'):=by
 have j:=Zf0 h 8;have b:=ZbT 8 r;unfold rnum at g
 obtain⟨t,d⟩:=Xa (rtake 8 r)
 rw[d]at j g b
 obtain⟨f,rfl⟩:val t.1=v/\t.2=k:=by simpa using g
 clear g d h;go_enter func101,ntmps101;go_wp2_with fail;refine j.mono ?_;rintro e w1 ⟨a,n,c,rfl,J⟩;have l:=Zdl J.o.2.1 J.o.1.symm (by rw[J.o.1];exact b);rw[f]at l;clear j f;go_wp2_with fail;refine l.mono ?_;rintro e m ⟨rfl,rfl⟩;go_wp2;go_ret;exact⟨rfl,J.o.2.2.1,J.o.2.2.2⟩
theorem Zmq(h:Rdr w R r)(v:Nat)(l:Rs)(d:rcnt r=(v,l)):
  At Am 102 #[Ah (some ⟨R,0,none⟩)] w λ e w'=>e=Aj (Ab Ak (v:Int))/\Hid (Rdr w' R l/\Zaa (λ i=>i=R) w w'):=by
 have j:=Zf0 h 1;have g:=ZbT 1 r;have k:=ZiE r;rw[d]at k;unfold rcnt at d
 obtain⟨t,b⟩:=Xa (rtake 1 r)
 rw[b]at j d g
 obtain⟨f,rfl⟩:val t.1=v/\t.2=l:=by simpa using d
 clear d b h;go_enter func102,ntmps102;go_wp2_with fail;refine j.mono ?_;rintro e w1 ⟨a,n,c,rfl,J⟩;have m:=Zdl J.o.2.1 J.o.1.symm (by rw[J.o.1];omega);rw[f]at m
 have p:Ak.wrap (v:Int)=(v:Int):=by rw[IntKind.wrap_i64];omega
 clear j f;go_wp2_with fail;refine m.mono ?_;rintro e q ⟨rfl,rfl⟩;go_wp2;go_ret;exact⟨rfl,J.o.2.2.1,J.o.2.2.2⟩
theorem Zk0(h:Rdr w R r)(t:ByteArray)(k:Rs)(d:rtxt r=(t.data.toList,k)):
  At Am 103 #[Ah (some ⟨R,0,none⟩)] w λ e w'=>e=Aj (Ae t)/\Hid (Rdr w' R k/\Zaa (λ i=>i=R) w w'):=by
 obtain⟨n,f,g⟩:∃n f,rcnt r=(n,f):=⟨_,_,rfl⟩
 have b:=Zmq h n f g;unfold rtxt at d;rw[g]at d;simp only at d;have p:Hid (rtake n f=(t.data.toList,k)):=d;clear d g h;go_enter func103,ntmps103;go_wp2_with fail;refine b.mono ?_;rintro e w1 ⟨rfl,J⟩;have j:=Zf0 J.o.1 n;rw[p.o]at j;clear b;go_wp2_with fail;refine j.mono ?_;rintro e l ⟨a,m,c,rfl,K⟩
 have s:(convert 61 9 (Aa a m c)).run Am l=.ok (Ae t) l:=by
  have:=Za1 K.o.2.1;simpa using this
 clear j;go_wp2;go_ret;exact⟨rfl,K.o.2.2.1,J.o.2.trans K.o.2.2.2 (λ _ _ q=>q)⟩
theorem ZqA(h:¬Tr (es.take i)):¬Tr es:=λ q=>h (List.Pairwise.sublist (GQ i es) q)
theorem ZbE{α:Type}{es:List α}{e:α}(h:es[i]? = some e):es.take (i+1)=es.take i++[e]:=by
 rw[AO,h]
 rfl
theorem Zgv(h:es[i]? = some e)(a:((es.take i).all λ e=>isPath e.1)=true)(b:isPath e.1=true):((es.take (i+1)).all λ e=>isPath e.1)=true:=by
 rw[ZbE h,List.all_append,a];simp[b]
theorem Zg4(h:es[i]? = some e)(a:isPath e.1=false):(es.all λ e=>isPath e.1)=false :=
 List.all_eq_false.2 ⟨e,AY h,by simp[a]⟩
def Fine(es:List En):Prop:=∀e∈es,e.1.length<=9223372036854775807
theorem ZcC(w:Ap)(W:RdG encE w ao es)(U:es.length=n)(R:Fine es)(Q:n<=c):
  At Am 185 #[Aa ao n c] w λ e w'=>e=Aj (Ab Ak (ctree es))/\An w.heap.size w w':=by
 by_cases C:64<n
 ·have q:(64:Int)<(n:Int):=by omega
  have e:ctree es=4:=by unfold ctree;rw[AE (by omega)]
  rw[e];clear W U R e Q;go_enter func185,ntmps185;go_wp2;go_ret;exact⟨rfl,Ao _ _⟩
 have q:decide ((64:Int)<(n:Int))=false:=by rw[Ax];omega
 have H:Hid (RdG encE w ao es/\es.length=n/\Fine es/\n<=c):=⟨W,U,R,Q⟩
 clear W U R Q;go_enter func185,ntmps185;go_wp2_with fail;go_loopg[13] n (λ m Y wr=>∃i:Nat,Y=Ab Ak i/\i+m=n/\Hid (((es.take i).all λ e=>isPath e.1)=true/\An w.heap.size w wr))
 case atStart=>exact⟨0,rfl,by omega,rfl,Ao _ _⟩
 case round =>
  obtain⟨i,rfl,hi,a⟩:=hrel;by_cases s:i<n
  ·have id:(i:Int)<(n:Int):=by omega
   obtain⟨e,p⟩:=Zaf H.o.2.1 s;obtain⟨b,off,rfl,V⟩:=H.o.1.some_of p;obtain⟨_,P,B⟩:=(H.o.1.below a.o.2).ents p;have r:=H.o.2.2.1 e (AY p);obtain⟨d,z⟩:=e
   obtain⟨K,J⟩:=Xa ((z.toNat:Int))
   simp only at P B r;rw[J]at B;have M:Hid (es[i]? = some (d,z)):=p;clear p J
   have t:(⟨d.toArray⟩:ByteArray).size<=9223372036854775807:=by show d.toArray.size<=_;simpa using r
   cases hp:isPath d with
   | true =>
    have h:=ZbZ ⟨d.toArray⟩ t true hp (wr.alloc (Ai #[tx d,Ab Al K] 152));rw[show err true=0 from rfl]at h;clear t r;go_wp2_with fail;refine h.mono ?_;rintro e w2 ⟨rfl,m2,rfl⟩;go_wp2;go_roundg (gk - 1)
    case measure=>omega
    case rel=>exact⟨i+1,by go_num,by omega,Zgv M.o a.o.1 hp,a.o.2.trans (((bz1 wr _).trans ((bdrewN _ _).mono (bz1 wr _).size)).mono a.o.2.size)⟩
   | false =>
    have h:=ZbZ ⟨d.toArray⟩ t false hp (wr.alloc (Ai #[tx d,Ab Al K] 152));rw[show err false=2 from rfl]at h
    have j:ctree es=2:=by
     unfold ctree;rw[Aw (by rw[H.o.2.1];exact C),AE (Zg4 M.o hp)]
    clear t r;go_wp2_with fail;refine h.mono ?_;rintro e w2 ⟨rfl,m2,rfl⟩;go_wp2;go_ret;exact⟨by rw[j];rfl,a.o.2.trans (((bz1 wr _).trans ((bdrewN _ _).mono (bz1 wr _).size)).mono a.o.2.size)⟩
  ·obtain rfl:i=n:=by omega
   have g:=a.o.1;rw[Av (by rw[H.o.2.1];omega)]at g
   have L:Hid (((es.all λ e=>isPath e.1)=true)/\An w.heap.size w wr):=⟨g,a.o.2⟩
   obtain⟨w1,G⟩:=Xb wr
   rw[<- G]at L ⊢;clear g G a wr s hi;go_wp2_with fail;go_loopg[26] i (λ m Y wr=>∃k:Nat,Y=Ab Ak k/\k+m=i/\Hid (Tr (es.take k)/\An w.heap.size w wr))
   case atStart=>exact⟨0,rfl,by omega,List.Pairwise.nil,L.o.2⟩
   case round =>
    obtain⟨k,rfl,hi,a⟩:=hrel;by_cases s:k<i
    ·have id:(k:Int)<(i:Int):=by omega
     have aa:(0:Int)<=(k:Int):=by omega
     obtain⟨e,p⟩:=Zaf H.o.2.1 s;obtain⟨b,off,rfl,V⟩:=H.o.1.some_of p;obtain⟨_,P,B⟩:=(H.o.1.below a.o.2).ents p;obtain⟨d,z⟩:=e
     obtain⟨K,J⟩:=Xa ((z.toNat:Int))
     simp only at P B;rw[J]at B;have M:Hid (es[k]? = some (d,z)):=p;obtain⟨a3,c3,s3,o3,_,Z⟩:=Zf6 encE 152 145 24 _ Tryz.info152 underlying145 (by kernel_rfl) (ao:=some ⟨b,off,none⟩) (k:=k) H.o.2.2.2 (by omega)
     obtain⟨l,D⟩:=Xa (wr.alloc (Ai #[tx d,Ab Al K] 152))
     have b2:An wr.heap.size wr l:=by rw[<- D];exact bz1 _ _
     have bx:Box l wr.heap.size 152 (tx d) (Ab Al K):=by rw[<- D];exact Box.new _ _ _ _
     have NE:Nonempty (SW (Grew l)):=⟨⟨l,Ao _ _⟩⟩
     have k0:∀u:SW (Grew l),u.w.cell? ⟨wr.heap.size,0,none⟩=some (tx d):=λ u=>((bx.below u.ok).cells).1
     obtain⟨f,y⟩:=Xa (fits d (es.take k))
     have E:∀u:SW (Grew l),At Am 215 #[tx d,Aa a3 k c3] u.w λ e w'=>e=Aj (Ad f)/\∃u':SW (Grew l),w'=u'.w:=λ u=>by
      refine(Zos d u.w (Z u.w es (((H.o.1.below a.o.2).below b2).below u.ok)) (by rw[AM,H.o.2.1];omega) (by omega) f y).mono ?_;rintro e w' ⟨rfl,hb⟩;exact⟨rfl,⟨w',u.ok.trans (hb.mono u.ok.size)⟩,rfl⟩
     have N:Hid (fits d (es.take k)=f/\An w.heap.size w l):=⟨y,a.o.2.trans (b2.mono a.o.2.size)⟩
     clear p J bx b2 Z o3 y;go_wp2_with fail;refine Zab (S:=Grew l) (by kernel_rfl) (by kernel_rfl) (Ao _ l).drew ?_
     repeat(go_big_quiet_step (with_reducible exact E _))
     refine wpQuiet_nil ?_;intro _ X;obtain⟨u,F⟩:=X;subst F;have O:Hid (An w.heap.size w u.w):=N.o.2.trans (u.ok.mono N.o.2.size)
     obtain⟨w4,I⟩:=Xb u.w
     rw[<- I]at O ⊢;clear I k0 E NE u;have v:=ZoJ (x:=(d,z)) a.o.1;rw[<- ZbE M.o]at v;simp only at v;rw[N.o.1]at v
     cases f with
     | true =>
      have T:Hid (Tr (es.take (k+1))):=v.1 rfl;clear v;go_wp2;go_roundg (gk - 1)
      case measure=>omega
      case rel=>exact⟨k+1,by go_num,by omega,T.o,O.o⟩
     | false =>
      have j:ctree es=12:=by
       unfold ctree;rw[Aw (by rw[H.o.2.1];exact C),Aw (by rw[L.o.1];decide),Aw (ZqA (i:=k+1) (λ q=>by have:=v.2 q;cases this))]
      clear v;go_wp2;go_ret;exact⟨by rw[j];rfl,O.o⟩
    ·obtain rfl:k=i:=by omega
     have A:=a.o.1;rw[Av (by rw[H.o.2.1];omega)]at A;have j:ctree es=0:=ZiI (by rw[H.o.2.1];omega) L.o.1 A;clear A;go_wp2;go_ret;exact⟨by rw[j];rfl,a.o.2⟩
theorem Zff(h:es[i]? = some e):treeB (es.take (i+1))=treeB (es.take i)++(AW e.1.length::e.1)++b8 e.2:=by
 rw[ZbE h,Zc3];simp[entB]
theorem Zek:∀{es:List En},Sm es->(treeB es).length<=264*es.length
 | [],_=>by simp[treeB]
 | e::t,h=>by
  have:=Zek (es:=t) (λ x a=>h x (List.mem_cons_of_mem _ a));have b:=h e List.mem_cons_self;simp only[treeB,List.flatMap_cons,AD,ZdH,List.length_cons]at this ⊢;omega
theorem ZnO(w:Ap)(j:RdG encE w ao es)(i:es.length=n)(g:Fine es)(f:n<=c)(a:Int)(h:ctree es=a)(d:a≠0):
  At Am 120 #[Aa ao n c] w λ e w'=>e=Aj (Af #[Aa none 0 0,Ab Ak a])/\An w.heap.size w w':=by
 have b:=ZcC w j i g f;rw[h]at b
 have l:(a==0)=false:=by simpa using d
 have m:(a != 0)=true:=by simpa using d
 clear j i g f h d;go_enter func120,ntmps120;go_wp2_with fail;refine b.mono ?_;rintro e w1 ⟨rfl,k⟩;go_wp2;refine As (AA rfl _ _ _) rfl ?_;exact⟨rfl,k⟩
theorem Zpi(w:Ap)(I:RdG encE w ao es)(C:es.length=n)(O:Fine es)(N:n<=c)(h:ctree es=0):
  At Am 120 #[Aa ao n c] w λ e w'=>∃v,e=Aj (Af #[v,Ab Ak 0])/\Hid (OwnG encB 5 w' w.heap.size v (treeB es)/\An w.heap.size w w'):=by
 have k:=ZcC w I C O N;rw[h]at k
 have hn:n<=64:=by rw[<- C];exact(ZaS h).1
 have H:Hid (RdG encE w ao es/\es.length=n/\Sm es):=⟨I,C,ZbI h⟩
 clear I C O N h;go_enter func120,ntmps120;go_wp2_with fail;refine k.mono ?_;rintro e w1 ⟨rfl,y⟩;have P:Hid (An w.heap.size w w1):=y;clear y k;go_wp2_with fail;go_loopg[5,15] n (λ m rv W wr=>∃i:Nat,W=Ab Ak i/\i+m=n/\Hid (OwnG encB 5 wr w.heap.size rv (treeB (es.take i))/\An w.heap.size w wr))
 case atStart=>exact⟨0,rfl,by omega,OwnG.nil _ _ _ _,P.o⟩
 case round =>
  obtain⟨i,rfl,hi,f⟩:=hrel;by_cases G:i<n
  ·have id:(i:Int)<(n:Int):=by omega
   obtain⟨e,A⟩:=Zaf H.o.2.1 G;obtain⟨b,off,rfl,U⟩:=H.o.1.some_of A;obtain⟨_,L,M⟩:=(H.o.1.below f.o.2).ents A;have a:=H.o.2.2 e (AY A)
   have j:(treeB (es.take i)).length<=264*64:=by
    have R:=Zek (es:=es.take i) (λ x V=>H.o.2.2 x (List.mem_of_mem_take V))
    have S:(es.take i).length<=64:=by rw[AM,H.o.2.1];omega
    omega
   obtain⟨d,z⟩:=e;have l:=Zff A;simp only at L M a l
   obtain⟨B,s⟩:=Xa (wr.alloc (Ai #[tx d,Ab Al (z.toNat:Int)] 152))
   have b2:An wr.heap.size wr B:=by rw[<- s];exact bz1 _ _
   have bx:Box B wr.heap.size 152 (tx d) (Ab Al (z.toNat:Int)):=by rw[<- s];exact Box.new _ _ _ _
   have D:=f.o.2.trans (b2.mono f.o.2.size);have u:=Zd9 d a (f.o.1.below b2) D.size (by omega)
   have p:Hid (Box B wr.heap.size 152 (tx d) (Ab Al (z.toNat:Int))/\An w.heap.size w B/\(∀g,u5.ownBlock=some g->g<wr.heap.size)/\treeB (es.take (i+1))=treeB (es.take i)++(AW d.length::d)++b8 z/\(treeB (es.take i)).length<=264*64/\d.length<=255):=⟨bx,D,λ g T=>(f.o.1.lt g T).2,l,j,a⟩
   obtain⟨y0,y1⟩:=bx.cells;clear A bx b2 D l j a;go_wp2_with fail;refine u.mono ?_;rintro e X ⟨v3,rfl,F⟩;clear y0 y1;have r:=p.o.1.turned F.o.2.2 (λ q=>by have:=p.o.2.2.1 _ q;omega);obtain⟨Y,Z⟩:=r.cells;have E:=p.o.2.1.trans F.o.2.1;have t:=Zch z.toNat F.o.1 E.size (by rw[AD];have R:=p.o.2.2.2.2.1;have S:=p.o.2.2.2.2.2;simp;omega);have Q:Hid (An w.heap.size w X):=E;clear u E L M r;go_wp2_with fail;refine t.mono ?_;rintro e w4 ⟨v4,rfl,K⟩;clear t Y Z;go_wp2;go_roundg (gk - 1)
   case measure=>omega
   case rel=>exact⟨i+1,by go_num,by omega,by rw[p.o.2.2.2.1];exact K.o.1,Q.o.trans K.o.2.1⟩
  ·obtain rfl:i=n:=by omega
   have J:es.take i=es:=Av (by rw[H.o.2.1];omega);rw[J]at f;go_wp2;refine As (AA rfl _ _ _) rfl ?_;exact⟨_,rfl,f.o.1,f.o.2⟩
theorem Zog(w:Ap)(f:RdG encE w ao es)(d:es.length=n)(b:Fine es)(a:n<=c):
  At Am 120 #[Aa ao n c] w λ e w'=>∃v,e=Aj (Af #[v,Ab Ak (ftree es).2])/\Hid (OwnG encB 5 w' w.heap.size v (ftree es).1/\An w.heap.size w w'):=by
 unfold ftree;by_cases h:ctree es=0
 ·rw[AE h];exact Zpi w f d b a h
 ·rw[Aw h];refine(ZnO w f d b a _ rfl h).mono ?_;rintro e w' ⟨rfl,g⟩;exact⟨_,rfl,OwnG.nil _ _ _ _,g⟩
def ffind(es:List En)(p:Bs):Option UInt64:=(es.find? (λ e=>e.1==p)).map (·.2)
theorem ZpJ(h:es.any (λ e=>e.1==p)=false):ffind es p=none:=by
 unfold ffind;rw[Em]at h;rw[GJ.2 (λ x a=>by simpa using h x a)]
 rfl
theorem ZpK(h:(es.take i).any (λ e=>e.1==p)=false)(b:es[i]? = some e)(hp:e.1=p):ffind es p=some e.2:=by
 unfold ffind;rw[Em]at h;obtain⟨hi,a⟩:=List.getElem?_eq_some_iff.1 b
 have:es=es.take i++e::es.drop (i+1):=by rw[<- a,List.getElem_cons_drop,List.take_append_drop]
 rw[this,List.find?_append,GJ.2 (λ x c=>by simpa using h x c)];simp[hp]
theorem ZeX(h:xs[i]? = some x)(g:(xs.take i).Nodup)(c:(xs.take i).any (λ y=>x==y)=false):(xs.take (i+1)).Nodup:=by
 rw[AO,h];show(xs.take i++[x]).Nodup;rw[Cg];refine⟨g,by simp,?_⟩;intro a d b f
 obtain rfl:b=x:=by simpa using f
 rw[Em]at c;have:=c a d;intro e;subst e;simp at this
theorem Zgu(h:xs[i]? = some x)(d:(xs.take i).any (λ y=>x==y)=true):¬xs.Nodup:=by
 intro c;obtain⟨y,f,e⟩:=List.any_eq_true.1 d
 obtain rfl:x=y:=by simpa using e
 have b:(xs.take (i+1)).Nodup:=c.sublist (GQ _ _);rw[AO,h]at b;have a:(xs.take i++[x]).Nodup:=b;rw[Cg]at a;exact a.2.2 x f x (by simp) rfl
section
variable{w:World}{c:Cm}{pa:Option Addr}{pn pc:Nat}
theorem Zfu(u:RdG encU w pa c.ps)(t:c.ps.length=pn)(j:pn<=pc)(nt:ByteArray)(h:nt=⟨c.note.toArray⟩)(dt:Int)(g:c.date=dt)(C:Int):
  At Am 104 #[Ag #[Ab Al C,Aa pa pn pc,Ab Ak dt,Ae nt]] w λ e w'=>e=Aj (Ab Ak (ccom c))/\An w.heap.size w w':=by
 have p:nt.size=c.note.length:=by rw[h];show c.note.toArray.size=_;simp
 by_cases U:8<pn
 ·have q:(8:Int)<(pn:Int):=by omega
  have e:ccom c=4:=by unfold ccom;rw[AE (by omega)]
  rw[e];clear u t h p e j g;go_enter func104,ntmps104;go_wp2;go_ret;exact⟨rfl,bz1 _ _⟩
 have q:decide ((8:Int)<(pn:Int))=false:=by rw[Ax];omega
 by_cases M:64<nt.size
 ·have R:(64:Int)<(nt.size:Int):=by omega
  have e:ccom c=4:=by unfold ccom;rw[AE (by omega)]
  rw[e];clear u t h p e j g;go_enter func104,ntmps104;go_wp2;go_ret;exact⟨rfl,bz1 _ _⟩
 have R:decide ((64:Int)<(nt.size:Int))=false:=by rw[Ax];omega
 have E:¬(8<c.ps.length∨64<c.note.length):=by omega
 obtain⟨W,F⟩:=Xa (w.alloc (Ai #[Ab Al C,Aa pa pn pc,Ab Ak dt,Ae nt] 58))
 have z:An w.heap.size w W:=by rw[<- F];exact bz1 _ _
 have bx:Box4 W w.heap.size 58 (Ab Al C) (Aa pa pn pc) (Ab Ak dt) (Ae nt):=by rw[<- F];exact Box4.new _ _ _ _ _ _
 obtain⟨V,X,Y,Z⟩:=bx.cells
 have H:Hid (RdG encU W pa c.ps/\c.ps.length=pn/\pn<=pc/\An w.heap.size w W/\¬(8<c.ps.length∨64<c.note.length)/\c.date=dt):=⟨u.below z,t,j,z,E,g⟩
 clear u t h p j z bx E g;go_enter func104,ntmps104;go_wp2_with fail;go_loopg[18] pn (λ m P wr=>∃i:Nat,P=Ab Ak i/\i+m=pn/\wr=W/\Hid ((c.ps.take i).Nodup))
 case atStart=>exact⟨0,rfl,by omega,rfl,by simp[Hid]⟩
 case round =>
  obtain⟨i,rfl,hi,rfl,D⟩:=hrel;by_cases B:i<pn
  ·have id:(i:Int)<(pn:Int):=by omega
   have O:(0:Int)<=(i:Int):=by omega
   obtain⟨x,v⟩:=Zaf H.o.2.1 B;obtain⟨b,off,rfl,N⟩:=H.o.1.some_of v;obtain⟨_,T⟩:=H.o.1.nums v;obtain⟨a3,J,s3,Q,_,I⟩:=Zf6 encU 44 34 8 _ Tryz.info44 underlying34 (by kernel_rfl) (ao:=some ⟨b,off,none⟩) (k:=i) H.o.2.2.1 (by omega)
   obtain⟨f,A⟩:=Xa ((c.ps.take i).any (λ y=>x==y))
   have G:=Zgy (n:=i) (c:=J) x wr (I wr _ H.o.1) (by rw[AM,H.o.2.1];omega) (by omega) f A
   have s:Hid (c.ps[i]? = some x/\(c.ps.take i).any (λ y=>x==y)=f):=⟨v,A⟩
   clear v A I Q
   cases f with
   | true =>
    have a:ccom c=6:=by
     unfold ccom;rw[Aw H.o.2.2.2.2.1,AE (Zgu s.o.1 s.o.2)]
    go_wp2_with fail;refine G.mono ?_;rintro e S ⟨rfl,r⟩;rw[r];go_wp2;go_ret;exact⟨by first|rfl|(rw[a];rfl),H.o.2.2.2.1⟩
   | false =>
    go_wp2_with fail;refine G.mono ?_;rintro e S ⟨rfl,r⟩;rw[r];go_wp2;go_roundg (gk - 1)
    case measure=>omega
    case rel=>exact⟨i+1,by go_num,by omega,rfl,ZeX s.o.1 D.o s.o.2⟩
  ·obtain rfl:i=pn:=by omega
   have d:=D.o;rw[Av (by rw[H.o.2.1];omega)]at d;by_cases hd:dt<0
   ·have K:decide (dt<0)=true:=by simpa using hd
    have a:ccom c=3:=by
     unfold ccom;rw[Aw H.o.2.2.2.2.1,Aw (by simpa using d),AE (by rw[H.o.2.2.2.2.2];exact .inl hd)]
    clear d;go_wp2;go_ret;exact⟨by first | rfl | (rw[a];rfl),H.o.2.2.2.1⟩
   ·have K:decide (dt<0)=false:=by simpa using hd
    by_cases l:1099511627776<dt
    ·have L:decide (1099511627776<dt)=true:=by simpa using l
     have a:ccom c=3:=by
      unfold ccom;rw[Aw H.o.2.2.2.2.1,Aw (by simpa using d),AE (by rw[H.o.2.2.2.2.2];exact .inr l)]
     clear d;go_wp2;go_ret;exact⟨by first | rfl | (rw[a];rfl),H.o.2.2.2.1⟩
    ·have L:decide (1099511627776<dt)=false:=by simpa using l
     have a:ccom c=0:=by
      unfold ccom;rw[Aw H.o.2.2.2.2.1,Aw (by simpa using d),Aw (by rw[H.o.2.2.2.2.2];omega)]
     clear d;go_wp2;go_ret;exact⟨by first | rfl | (rw[a];rfl),H.o.2.2.2.1⟩
theorem Zo2{d:Int}(g:0<=d):low 8 d.toNat=b8 (dw d):=by
 unfold b8
 have key:∀k a b,a % 256 ^ k=b % 256 ^ k->low k a=low k b:=by
  intro k a b h;have c:=Zh4 (low k a);have f:=Zh4 (low k b);rw[Zar,Zii]at c f;rw[<- c,<- f,h]
 apply key;have:=Zja d
 have e:256 ^ 8=18446744073709551616:=by decide
 omega
theorem ZpH(n:RdG encU w pa c.ps)(m:c.ps.length=pn)(g:pn<=pc)(nt:ByteArray)(f:nt=⟨c.note.toArray⟩)(dt:Int)(d:c.date=dt)(i:Int)(a:Int)(h:ccom c=a)(k:a≠0):
  At Am 124 #[Ag #[Ab Al i,Aa pa pn pc,Ab Ak dt,Ae nt]] w λ e w'=>e=Aj (Af #[Aa none 0 0,Ab Ak a])/\An w.heap.size w w':=by
 obtain⟨W,l⟩:=Xa (w.alloc (Ai #[Ab Al i,Aa pa pn pc,Ab Ak dt,Ae nt] 58))
 have j:An w.heap.size w W:=by rw[<- l];exact bz1 _ _
 have bx:Box4 W w.heap.size 58 (Ab Al i) (Aa pa pn pc) (Ab Ak dt) (Ae nt):=by rw[<- l];exact Box4.new _ _ _ _ _ _
 obtain⟨s,t,u,v⟩:=bx.cells;have b:=Zfu (n.below j) m g nt f dt d i;rw[h]at b
 have q:(a==0)=false:=by simpa using k
 have r:(a != 0)=true:=by simpa using k
 have H:Hid (An w.heap.size w W):=j;clear n m g f d h k j bx;go_enter func124,ntmps124;go_wp2_with fail;refine b.mono ?_;rintro e w1 ⟨rfl,p⟩;go_wp2;refine As (AA rfl _ _ _) rfl ?_;exact⟨rfl,H.o.trans (p.mono H.o.size)⟩
theorem Zqo(S:RdG encU w pa c.ps)(R:c.ps.length=pn)(C:pn<=pc)(nt:ByteArray)(q:nt=⟨c.note.toArray⟩)(dt:Int)(k:c.date=dt)(h:ccom c=0):
  At Am 124 #[Ag #[Ab Al (c.tree.toNat:Int),Aa pa pn pc,Ab Ak dt,Ae nt]] w λ e w'=>∃v,e=Aj (Af #[v,Ab Ak 0])/\Hid (OwnG encB 5 w' w.heap.size v (comB c)/\An w.heap.size w w'):=by
 obtain⟨W,P⟩:=Xa (w.alloc (Ai #[Ab Al (c.tree.toNat:Int),Aa pa pn pc,Ab Ak dt,Ae nt] 58))
 have G:An w.heap.size w W:=by rw[<- P];exact bz1 _ _
 have sW:W.heap.size=w.heap.size+1:=by rw[<- P];simp
 have bx:Box4 W w.heap.size 58 (Ab Al (c.tree.toNat:Int)) (Aa pa pn pc) (Ab Ak dt) (Ae nt):=by rw[<- P];exact Box4.new _ _ _ _ _ _
 obtain⟨a,d,f,g⟩:=bx.cells;have n:=Zfu (S.below G) R C nt q dt k (c.tree.toNat:Int);rw[h]at n;obtain⟨g1,g2,_,N,g5⟩:=Zbj h;rw[k]at N g5
 have ab:pn<=8:=by omega
 have T:Al.wrap dt=(dt.toNat:Int):=by rw[IntKind.wrap_u64];omega
 obtain⟨y,U⟩:∃y:UInt8,AW pn=y:=⟨_,rfl⟩
 have HY:Hid ((y.toNat:Int)=(pn:Int)):=by show _=_;rw[<- U,UInt8.toNat_ofNat'];omega
 obtain⟨dn,p⟩:=Xa dt.toNat
 rw[p]at T
 have z:low 8 dn=b8 (dw c.date):=by rw[<- p,k];exact Zo2 N
 have H:Hid (An w.heap.size w W/\W.heap.size=w.heap.size+1/\Box4 W w.heap.size 58 (Ab Al (c.tree.toNat:Int)) (Aa pa pn pc) (Ab Ak dt) (Ae nt)/\RdG encU W pa c.ps/\c.ps.length=pn/\AW pn=y/\low 8 dn=b8 (dw c.date)/\nt=⟨c.note.toArray⟩/\c.note.length<=64):=⟨G,sW,bx,S.below G,R,U,z,q,g2⟩
 clear S R C q k h G bx sW U z p g1 g2 N g5;go_enter func124,ntmps124;go_wp2_with fail;refine n.mono ?_;rintro e w1 ⟨rfl,t⟩;have J:Hid (An W.heap.size W w1):=t;clear t n a d f g;obtain⟨a,d,f,g⟩:=(H.o.2.2.1.below J.o (by have:=H.o.2.1;omega)).cells;have O:=Zch c.tree.toNat (OwnG.nil encB 5 w1 W.heap.size) J.o.size (by simp);rw[List.nil_append]at O;go_wp2_with fail;refine O.mono ?_;rintro e w2 ⟨v2,rfl,V⟩;have K:Hid (An W.heap.size W w2):=J.o.trans V.o.2.1;clear O a d f g;obtain⟨a,d,f,g⟩:=(H.o.2.2.1.below K.o (by have:=H.o.2.1;omega)).cells;have j:(low 8 c.tree.toNat).length=8:=Zar _ _;go_wp2_with(at_builtin;refine Zag encB 5 61 1 (Ab .u8 0) rfl Tryz.info5 underlying61 rfl (.tmp 16) (.tmp 21) rfl W.heap.size _ _ y _ rfl V.o.1 rfl (by rw[j];omega) (by rw[j];simp only[maxLen];omega) K.o.size _ (by show _=#[Ab .u8 (y.toNat:Int)];rw[HY.o]) ?_;intro v3 w3 B u _ _;have L:Hid (An W.heap.size W w3/\OwnG encB 5 w3 W.heap.size v3 (low 8 c.tree.toNat++[y])):=⟨K.o.trans u,B⟩;clear B u a d f g;have x4:=(H.o.2.2.1.below L.o.1 (by have:=H.o.2.1;omega)).cells;obtain⟨a,d,f,g⟩:=x4);go_loopg[5,26] pn (λ m bv iv wr=>∃i:Nat,iv=Ab Ak i/\i+m=pn/\Hid (OwnG encB 5 wr W.heap.size bv (low 8 c.tree.toNat++[y]++psB (c.ps.take i))/\An W.heap.size W wr))
 case atStart=>exact⟨0,rfl,by omega,by simpa[psB]using L.o.2,L.o.1⟩
 case round =>
  obtain⟨i,rfl,hi,r⟩:=hrel;by_cases Q:i<pn
  ·have id:(i:Int)<(pn:Int):=by omega
   obtain⟨x,I⟩:=Zaf H.o.2.2.2.2.1 Q;obtain⟨b,off,rfl,aa⟩:=H.o.2.2.2.1.some_of I;obtain⟨_,c0⟩:=(H.o.2.2.2.1.below r.o.2).nums I
   have D:psB (c.ps.take (i+1))=psB (c.ps.take i)++b8 x:=by rw[AO,I];exact Zdv _ _
   have A:(low 8 c.tree.toNat++[y]++psB (c.ps.take i)).length<=1000:=by
    rw[AD,AD,j,Zc9,AM];simp;omega
   have s:=Zch x.toNat r.o.1 r.o.2.size (by omega);have HP:Hid (psB (c.ps.take (i+1))=psB (c.ps.take i)++b8 x):=D;clear D A I;go_wp2_with fail;refine s.mono ?_;rintro e w4 ⟨v4,rfl,X⟩;clear s;go_wp2;go_roundg (gk - 1)
   case measure=>omega
   case rel=>exact⟨i+1,by go_num,by omega,by rw[HP.o,<- List.append_assoc];exact X.o.1,r.o.2.trans X.o.2.1⟩
  ·obtain rfl:i=pn:=by omega
   have E:c.ps.take i=c.ps:=Av (by have:=H.o.2.2.2.2.1;omega)
   have F:Hid (OwnG encB 5 wr W.heap.size u5 (low 8 c.tree.toNat++[y]++psB c.ps)/\An W.heap.size W wr):=by
    have:=r.o;rw[E]at this;exact this
   have A:(low 8 c.tree.toNat++[y]++psB c.ps).length<=1000:=by
    rw[AD,AD,j,Zc9];have:=H.o.2.2.2.2.1;simp;omega
   have s:=Zch dn F.o.1 F.o.2.size (by omega);clear a d f g;obtain⟨a,d,f,g⟩:=(H.o.2.2.1.below F.o.2 (by have:=H.o.2.1;omega)).cells;clear E r;go_wp2_with fail;refine s.mono ?_;rintro e w5 ⟨v5,rfl,Y⟩;have M:Hid (An W.heap.size W w5):=F.o.2.trans Y.o.2.1;clear s a d f g;obtain⟨a,d,f,g⟩:=(H.o.2.2.1.below M.o (by have:=H.o.2.1;omega)).cells;have l:=Zd9 c.note (by have:=H.o.2.2.2.2.2.2.2.2;omega) Y.o.1 M.o.size (by rw[AD,Zar];omega);rw[show tx c.note=Ae nt by rw[H.o.2.2.2.2.2.2.2.1]]at l;go_wp2_with fail;refine l.mono ?_;rintro e w6 ⟨v6,rfl,Z⟩;have B6:Hid (An W.heap.size W w6):=M.o.trans Z.o.2.1;clear l a d f g;go_wp2;refine As (AA rfl _ _ _) rfl ?_
   have ec:low 8 c.tree.toNat++[y]++psB c.ps++low 8 dn++AW c.note.length::c.note=comB c:=by
    unfold comB;rw[H.o.2.2.2.2.2.2.1,H.o.2.2.2.2.1,H.o.2.2.2.2.2.1];simp[b8]
   refine⟨_,rfl,?_,H.o.1.trans (B6.o.mono H.o.1.size)⟩;rw[<- ec];exact Z.o.1.low H.o.1.size
theorem ZpO(g:RdG encU w pa c.ps)(f:c.ps.length=pn)(d:pn<=pc)(nt:ByteArray)(b:nt=⟨c.note.toArray⟩)(dt:Int)(a:c.date=dt):
  At Am 124 #[Ag #[Ab Al (c.tree.toNat:Int),Aa pa pn pc,Ab Ak dt,Ae nt]] w λ e w'=>∃v,e=Aj (Af #[v,Ab Ak (fcom c).2])/\Hid (OwnG encB 5 w' w.heap.size v (fcom c).1/\An w.heap.size w w'):=by
 unfold fcom;by_cases h:ccom c=0
 ·rw[AE h];exact Zqo g f d nt b dt a h
 ·rw[Aw h];refine(ZpH g f d nt b dt a _ _ rfl h).mono ?_;rintro e w' ⟨rfl,i⟩;exact⟨_,rfl,OwnG.nil _ _ _ _,i⟩
end
end Go.Proofs.YtlojblelpaegpaaGreat
