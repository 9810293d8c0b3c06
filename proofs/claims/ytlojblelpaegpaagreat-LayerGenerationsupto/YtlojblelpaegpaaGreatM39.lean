/-
  Several texts, laid together.
-/
import Derived.Test.YtlojblelpaegpaaGreatM38
set_option maxHeartbeats 6400000
set_option maxRecDepth 100000
open Go renaming World->Ap,Calls->At,wpQuiet_nil->AN,Value->Ar,bodyPost_ret->As,maxLen->AG
open Go.RowKit renaming Below->An
open Go.RowKit.Below renaming refl->Ao
open List renaming getElem?_eq_getElem->Aq,mem_of_getElem?->AY,zipWith->Dm,take_add_one->AO,length_take->AM,length_zipWith->Dp,take_of_length_le->Av,getElem?_eq_some_iff->AC,getElem?_zipWith->C4,ext_getElem?->Cu,getElem?_map->Bc,getElem?_eq_none->AL,length_map->AQ,mem_append->AK,getElem_of_mem->Cv,getElem_zipWith->FE,length_append->AD,mem_singleton->A2,mem_map_of_mem->EK,mem_map->Bu,map_singleton->ES
open Nat renaming le_refl->Az,le_trans->AZ
open Go.Value renaming slice->Aa,int->Ab,bool->Ad,string->Ae,agg->Ag
open Go.Obj renaming cells->Ai
open Go.Ending renaming returned->Aj
open Go.IntKind renaming i64->Ak,u64->Al
open Go.Proofs.Tryz renaming prog->Am
open Go.Proofs.Tryz
namespace Go.Proofs.YtlojblelpaegpaaGreat
open Go.RowKit
variable{B c i j n s:Nat}{G:List Int}{Q cl gr:List UInt64}{R a d:List Rw}{S:Nat->Prop}{b g m:Ar}{oa:Option Addr}{r:Int}{st:St}{u u' w w':Ap}{v:RV}{vs:List LV}{x:UInt64}
structure RvR(w:Ap)(v:RV)(r:Rw):Prop where
 id:v.id=r.id
 tree:v.tree=r.tree
 date:v.date=r.date
 gen:v.gen=r.gen
 ps:RdG encI w v.pa r.ps
 len:r.ps.length=v.pn
 fb:v.fb=r.fb
theorem RvO.rd{r:Rw}(h:RvO w B v r):RvR w v r:=⟨h.id,h.tree,h.date,h.gen,h.ps.rdc.1,Zam h.ps,h.fb⟩
theorem RvR.below{r:Rw}(h:RvR w v r)(a:An w.heap.size w w'):RvR w' v r:=⟨h.id,h.tree,h.date,h.gen,h.ps.below a,h.len,h.fb⟩
structure RvsR(w:Ap)(a:Option Addr)(rs:List Rw):Prop where
 rd:∃vs,RdG encRv w a vs/\vs.length=rs.length/\∀(i:Nat) (v:RV) (r:Rw),vs[i]? = some v->rs[i]? = some r->RvR w v r
theorem RvsR.below{a:Option Addr}{c:List Rw}(h:RvsR w a c)(b:An w.heap.size w w'):RvsR w' a c:=by
 obtain⟨vs,d,e,f⟩:=h.rd;exact⟨vs,d.below b,e,λ i v r g j=>(f i v r g j).below b⟩
theorem RvsO.rd{a:Option Addr}{vs:List RV}{b:List Rw}{t:TypeId}{d:Nat}(h:RvsO w B vs b)(e:OwnG encRv t w d (Aa a n c) vs):RvsR w a b:=⟨vs,e.rdc.1,h.len,λ i v r f g=>(h.at_ i v r f g).rd⟩
theorem Zej{a b:Option Addr}{c':Nat}{s:List Rw}(ha:RvsR w a s)(hb:RvsR w b s)(hl:s.length=n)(hn:n<=1000000)(hp:∀r∈s,r.ps.length<=1000000):
  At Am 15 #[Aa a n c,Aa b n c'] w λ e w'=>e=Aj (Ad true)/\An w.heap.size w w':=by
 obtain⟨V,a1,a2,a3⟩:=ha.rd;obtain⟨W,b1,b2,b3⟩:=hb.rd
 have H:Hid (RdG encRv w a V/\V.length=n/\(∀(i:Nat) (v:RV) (r:Rw),V[i]? = some v->s[i]? = some r->RvR w v r)/\RdG encRv w b W/\W.length=n/\(∀(i:Nat) (v:RV) (r:Rw),W[i]? = some v->s[i]? = some r->RvR w v r)/\s.length=n/\∀r∈s,r.ps.length<=1000000):=⟨a1,by omega,a3,b1,by omega,b3,hl,hp⟩
 clear ha hb a1 a2 a3 b1 b2 b3 hl hp;go_enter func15,ntmps15;go_wp2_with fail;go_loopg[5] n (λ k v wr=>∃i:Nat,v=Ab Ak i/\i+k=n/\Hid (An w.heap.size w wr))
 case atStart=>exact⟨0,rfl,by omega,Ao _ _⟩
 case round =>
  obtain⟨i,rfl,hi,h⟩:=hrel;by_cases B:i<n
  ·have id:(i:Int)<(n:Int):=by omega
   have ad:(0:Int)<=(i:Int):=by omega
   obtain⟨go,A⟩:=Xb gk
   rw[<- A]at hi;have GO:Hid (go=gk):=A;clear A
   obtain⟨r,Q⟩:∃r,s[i]? = some r:=⟨_,Aq (by rw[H.o.2.2.2.2.2.2.1];exact B)⟩
   obtain⟨x,T⟩:∃x,V[i]? = some x:=⟨_,Aq (by rw[H.o.2.1];exact B)⟩
   obtain⟨y,U⟩:∃y,W[i]? = some y:=⟨_,Aq (by rw[H.o.2.2.2.2.1];exact B)⟩
   obtain⟨l,ao,rfl,_⟩:=H.o.1.some_of T;obtain⟨m,bo,rfl,_⟩:=H.o.2.2.2.1.some_of U;have f:=H.o.2.2.1 i x r T Q;have g:=H.o.2.2.2.2.2.1 i y r U Q
   obtain⟨pn,p⟩:=Xa r.ps.length
   have ac:=H.o.2.2.2.2.2.2.2 r (AY Q);rw[p]at ac
   have t:Hid (∀u,An w.heap.size w u->(u.cell? ⟨l,ao+i*6,none⟩=some (Ab Al (r.id.toNat:Int))/\u.cell? ⟨l,ao+i*6+1,none⟩=some (Ab Al (r.tree.toNat:Int))/\u.cell? ⟨l,ao+i*6+2,none⟩=some (Ab Ak r.date)/\u.cell? ⟨l,ao+i*6+3,none⟩=some (Aa x.pa pn x.pc)/\u.cell? ⟨l,ao+i*6+4,none⟩=some (Ab Ak r.gen)/\u.cell? ⟨l,ao+i*6+5,none⟩=some (tx r.fb))/\(u.cell? ⟨m,bo+i*6,none⟩=some (Ab Al (r.id.toNat:Int))/\u.cell? ⟨m,bo+i*6+1,none⟩=some (Ab Al (r.tree.toNat:Int))/\u.cell? ⟨m,bo+i*6+2,none⟩=some (Ab Ak r.date)/\u.cell? ⟨m,bo+i*6+3,none⟩=some (Aa y.pa pn y.pc)/\u.cell? ⟨m,bo+i*6+4,none⟩=some (Ab Ak r.gen)/\u.cell? ⟨m,bo+i*6+5,none⟩=some (tx r.fb))/\RdG encI u x.pa r.ps/\RdG encI u y.pa r.ps):=by
    intro u R;have k1:=(H.o.1.below R).rrows T;have k2:=(H.o.2.2.2.1.below R).rrows U;rw[f.id,f.tree,f.date,f.gen,f.fb,<- f.len,p]at k1;rw[g.id,g.tree,g.date,g.gen,g.fb,<- g.len,p]at k2;exact⟨k1,k2,f.ps.below R,g.ps.below R⟩
   obtain⟨E,F⟩:∃E:ByteArray,(⟨r.fb.toArray⟩:ByteArray)=E:=⟨_,rfl⟩
   obtain⟨z0,M⟩:∃z0:Int,(r.id.toNat:Int)=z0:=⟨_,rfl⟩
   obtain⟨X,N⟩:∃X:Int,(r.tree.toNat:Int)=X:=⟨_,rfl⟩
   obtain⟨Y,O⟩:∃Y:Int,r.date=Y:=⟨_,rfl⟩
   obtain⟨z4,P⟩:∃z4:Int,r.gen=z4:=⟨_,rfl⟩
   obtain⟨xa,G⟩:=Xa x.pa
   obtain⟨xc,I⟩:=Xa x.pc
   obtain⟨ya,J⟩:=Xa y.pa
   obtain⟨yc,K⟩:=Xa y.pc
   rw[M,N,O,P,G,I,J,K,show tx r.fb=Ae E by rw[<- F]]at t;have HL:Hid (r.ps.length=pn):=p
   have NE:Nonempty (SW (Grew wr)):=⟨⟨wr,Ao _ wr⟩⟩
   have d:=λ(u:SW (Grew wr))=>t.o u.w (h.o.trans (u.ok.mono h.o.size))
   have p0:∀u:SW (Grew wr),u.w.cell? ⟨l,ao+i*6,none⟩=some (Ab Al z0):=λ u=>(d u).1.1
   have p1:∀u:SW (Grew wr),u.w.cell? ⟨l,ao+i*6+1,none⟩=some (Ab Al X):=λ u=>(d u).1.2.1
   have p2:∀u:SW (Grew wr),u.w.cell? ⟨l,ao+i*6+2,none⟩=some (Ab Ak Y):=λ u=>(d u).1.2.2.1
   have p3:∀u:SW (Grew wr),u.w.cell? ⟨l,ao+i*6+3,none⟩=some (Aa xa pn xc):=λ u=>(d u).1.2.2.2.1
   have p4:∀u:SW (Grew wr),u.w.cell? ⟨l,ao+i*6+4,none⟩=some (Ab Ak z4):=λ u=>(d u).1.2.2.2.2.1
   have p5:∀u:SW (Grew wr),u.w.cell? ⟨l,ao+i*6+5,none⟩=some (Ae E):=λ u=>(d u).1.2.2.2.2.2
   have q0:∀u:SW (Grew wr),u.w.cell? ⟨m,bo+i*6,none⟩=some (Ab Al z0):=λ u=>(d u).2.1.1
   have q1:∀u:SW (Grew wr),u.w.cell? ⟨m,bo+i*6+1,none⟩=some (Ab Al X):=λ u=>(d u).2.1.2.1
   have q2:∀u:SW (Grew wr),u.w.cell? ⟨m,bo+i*6+2,none⟩=some (Ab Ak Y):=λ u=>(d u).2.1.2.2.1
   have q3:∀u:SW (Grew wr),u.w.cell? ⟨m,bo+i*6+3,none⟩=some (Aa ya pn yc):=λ u=>(d u).2.1.2.2.2.1
   have q4:∀u:SW (Grew wr),u.w.cell? ⟨m,bo+i*6+4,none⟩=some (Ab Ak z4):=λ u=>(d u).2.1.2.2.2.2.1
   have q5:∀u:SW (Grew wr),u.w.cell? ⟨m,bo+i*6+5,none⟩=some (Ae E):=λ u=>(d u).2.1.2.2.2.2.2
   clear d Q T U f g F M N O P G I J K p
   go_upto_region 6 with fail
   go_cut[95] (λ tv u=>tv=Ad false/\Hid (An wr.heap.size wr u))
   case first =>
    simp only[List.append];refine Zab (S:=Grew wr) (by kernel_rfl) (by kernel_rfl) (Ao _ wr).drew ?_
    repeat(go_big_quiet_step (fail))
    refine AN ?_;intro _ C;obtain⟨u,q⟩:=C;subst q;go_wp2_with fail;go_meet;exact⟨rfl,u.ok⟩
   case rest =>
    obtain⟨rfl,D⟩:=hcut;clear NE p0 p1 p2 p3 p4 p5 q0 q1 q2 q3 q4 q5;have HB:Hid (An w.heap.size w wc):=h.o.trans (D.o.mono h.o.size);have c3:=(t.o wc HB.o).1.2.2.2.1;clear D h;go_wp2_with fail;go_loopg[6] pn (λ k v wr=>∃j:Nat,v=Ab Ak j/\j+k=pn/\Hid (An w.heap.size w wr))
    case atStart=>exact⟨0,rfl,by omega,HB.o⟩
    case round =>
     obtain⟨j,rfl,hj,h⟩:=hrel;clear HB c3;have c3:=(t.o wr h.o).1.2.2.2.1;by_cases aa:j<pn
     ·have jd:(j:Int)<(pn:Int):=by omega
      have ae:(0:Int)<=(j:Int):=by omega
      obtain⟨z,L⟩:∃z,r.ps[j]? = some z:=⟨_,Aq (by rw[HL.o];exact aa)⟩
      obtain⟨xb,xo,rfl,_⟩:=(t.o wr h.o).2.2.1.some_of L;obtain⟨yb,yo,rfl,_⟩:=(t.o wr h.o).2.2.2.some_of L
      have d:=λ(u:SW (Grew wr))=>t.o u.w (h.o.trans (u.ok.mono h.o.size))
      have p3:∀u:SW (Grew wr),u.w.cell? ⟨l,ao+i*6+3,none⟩=some (Aa (some ⟨xb,xo,none⟩) pn xc):=λ u=>(d u).1.2.2.2.1
      have q3:∀u:SW (Grew wr),u.w.cell? ⟨m,bo+i*6+3,none⟩=some (Aa (some ⟨yb,yo,none⟩) pn yc):=λ u=>(d u).2.1.2.2.2.1
      have p6:∀u:SW (Grew wr),u.w.cell? ⟨xb,xo+j,none⟩=some (Ab Ak z):=λ u=>(d u).2.2.1.ints L
      have q6:∀u:SW (Grew wr),u.w.cell? ⟨yb,yo+j,none⟩=some (Ab Ak z):=λ u=>(d u).2.2.2.ints L
      have NE:Nonempty (SW (Grew wr)):=⟨⟨wr,Ao _ wr⟩⟩
      clear d L
      go_upto_region 11 with fail
      go_cut[122] (λ tv u=>tv=Ad false/\Hid (An wr.heap.size wr u))
      case first =>
       refine Zab (S:=Grew wr) (by kernel_rfl) (by kernel_rfl) (Ao _ wr).drew ?_
       repeat(go_big_quiet_step (fail))
       refine AN ?_;intro _ C;obtain⟨u,q⟩:=C;subst q;go_wp2_with fail;go_meet;exact⟨rfl,u.ok⟩
      case rest =>
       obtain⟨rfl,D⟩:=hcut;have Z:Hid (An w.heap.size w wc):=h.o.trans (D.o.mono h.o.size);clear NE p3 q3 p6 q6 D c3;go_wp2_with fail;go_roundg (gk - 1)
       case measure=>omega
       case rel=>exact⟨j+1,by go_num,by omega,Z.o⟩
     ·obtain rfl:j=pn:=by omega
      have jd:¬(j:Int)<(j:Int):=by omega
      go_wp2_with fail;go_roundg (go - 1)
      case measure=>have:=GO.o;omega
      case rel=>exact⟨i+1,by go_num,by omega,h.o⟩
  ·obtain rfl:i=n:=by omega
   have id:¬(i:Int)<(i:Int):=by omega
   go_wp2;go_ret;exact⟨rfl,h.o⟩
def LV.rv(v:LV)(r:Rw):RV:=⟨v.id,v.tree,v.date,v.pa,v.pn,v.pc,v.gen,r.fb⟩
theorem LvAt.rv{v:LV}{r:Rw}(h:LvAt w v r):RvR w (v.rv r) r:=⟨h.1,h.2.1,h.2.2.1,h.2.2.2.1,h.2.2.2.2.1,h.2.2.2.2.2.1,rfl⟩
theorem Zio(w:Ap)(a b:Array Ar)(t1 t2:TypeId):BoxA ((w.alloc (Ai a t1)).alloc (Ai b t2)) w.heap.size t1 a/\BoxA ((w.alloc (Ai a t1)).alloc (Ai b t2)) (w.heap.size+1) t2 b:=by
 have h:=BoxA.new (w.alloc (Ai a t1)) t2 b
 have e:(w.alloc (Ai a t1)).heap.size=w.heap.size+1:=by simp
 rw[e]at h;exact⟨(BoxA.new w t1 a).below (bz1 _ _) (BoxA.new w t1 a).lt,h⟩
theorem Zl2{id tree:UInt64}{date gen:Int}{pa fa:Option Addr}{pn pc fn fc:Nat}{fb:Bs}(h:BAt w (Aa fa fn fc) fb):
  At Am 42 #[Ag #[Ab Al (id.toNat:Int),Ab Al (tree.toNat:Int),Ab Ak date,Aa pa pn pc,Ab Ak gen,Aa fa fn fc]] w λ e w'=>e=Aj (Ag #[Ab Al (id.toNat:Int),Ab Al (tree.toNat:Int),Ab Ak date,Aa pa pn pc,Ab Ak gen,tx fb])/\An w.heap.size w w':=by
 obtain⟨k,a⟩:=Xa w.heap.size
 obtain⟨W,d⟩:=Xb ((w.alloc (Ai #[Ab Al (id.toNat:Int),Ab Al (tree.toNat:Int),Ab Ak date,Aa pa pn pc,Ab Ak gen,Aa fa fn fc] 63)).alloc (Ai #[Ab Al 0,Ab Al 0,Ab Ak 0,Aa none 0 0,Ab Ak 0,Ae ⟨#[]⟩] 106))
 have g:An w.heap.size w W:=by rw[d];exact bz2 _ _ _
 have l:=Zio w #[Ab Al (id.toNat:Int),Ab Al (tree.toNat:Int),Ab Ak date,Aa pa pn pc,Ab Ak gen,Aa fa fn fc] #[Ab Al 0,Ab Al 0,Ab Ak 0,Aa none 0 0,Ab Ak 0,Ae ⟨#[]⟩] 63 106;rw[<- d,a]at l;obtain⟨b1,b2⟩:=l
 obtain⟨c,b⟩:∃c:ByteArray,(⟨fb.toArray⟩:ByteArray)=c:=⟨_,rfl⟩
 have i:=Za1 (h.below g);rw[show tx fb=Ae c by rw[<- b]]at i;have s:=b1.cell (j:=0) rfl;have t:=b1.cell (j:=1) rfl;have u:=b1.cell (j:=2) rfl;have x:=b1.cell (j:=3) rfl;have y:=b1.cell (j:=4) rfl;have z:=b1.cell (j:=5) rfl;have A:=b2.cell (j:=0) rfl;have B:=b2.cell (j:=1) rfl;have C:=b2.cell (j:=2) rfl;have D:=b2.cell (j:=3) rfl;have E:=b2.cell (j:=4) rfl;have F:=b2.cell (j:=5) rfl;have m:=b2.thaw 0;have n:=b2.thaw 1;have f2:=b2.thaw 2;have p:=b2.thaw 3;have q:=b2.thaw 4;have r:=b2.thaw 5;rw[show tx fb=Ae c by rw[<- b]]
 have f:Hid (An k w W/\BoxA W (k+1) 106 #[Ab Al 0,Ab Al 0,Ab Ak 0,Aa none 0 0,Ab Ak 0,Ae ⟨#[]⟩]/\w.heap.size=k):=⟨by rw[<- a];exact g,b2,a⟩
 rw[a];clear h g b1 b2 b;go_enter func42,ntmps42
 go_upto_region 1 with fail
 rw[<- d];clear d a;go_wp2;refine As (v:=Ag #[Ab Al (id.toNat:Int),Ab Al (tree.toNat:Int),Ab Ak date,Aa pa pn pc,Ab Ak gen,Ae c]) ?_ rfl ⟨rfl,?_⟩
 ·simp[results,Tryz.f42];go_simp
 ·exact Zbp f.o.1 (by have:=f.o.1.size;have:=f.o.2.2;omega) (by omega) _ _ _ _ _ _
theorem Zc1{a:Option Addr}(h:RdG encL w a vs)(hl:vs.length=n)(hV:Lvs w vs d)(hn:n<=100000):
  At Am 16 #[Aa a n c] w λ e w'=>∃A c',e=Aj (Aa A n c')/\Hid (RvsR w' A d/\An w.heap.size w w'):=by
 obtain⟨l,y⟩:=Xa w.heap.size
 have H:Hid (RdG encL w a vs/\vs.length=n/\Lvs w vs d/\w.heap.size=l):=⟨h,hl,hV,y⟩
 rw[y];clear h hl hV y;go_enter func16,ntmps16;go_wp2_with fail;go_loopg[3,4] n (λ k bv iv wr=>∃i:Nat,iv=Ab Ak i/\i+k=n/\Hid (OwnG encRv 106 wr l bv (Dm LV.rv (vs.take i) (d.take i))/\An l w wr))
 case atStart=>exact⟨0,rfl,by omega,OwnG.nil _ _ _ _,Ao _ _⟩
 case round =>
  obtain⟨i,rfl,hi,m⟩:=hrel;have p:=H.o.2.2.2;by_cases D:i<n
  ·have id:(i:Int)<(n:Int):=by omega
   have aa:(0:Int)<=(i:Int):=by omega
   obtain⟨v,s⟩:∃v,vs[i]? = some v:=⟨_,Aq (by rw[H.o.2.1];exact D)⟩
   obtain⟨r,P⟩:∃r,d[i]? = some r:=⟨_,Aq (by rw[<- H.o.2.2.1.len,H.o.2.1];exact D)⟩
   have B:=H.o.2.2.1.at_ i v r s P
   have j:An w.heap.size w wr:=by rw[p];exact m.o.2
   obtain⟨b,off,rfl,_⟩:=H.o.1.some_of s;obtain⟨S,T,U,V,W,X⟩:=(H.o.1.below j).lrows s;have u:=B.2.2.2.2.2.2.1.below j
   have K:Dm LV.rv (vs.take (i+1)) (d.take (i+1))=Dm LV.rv (vs.take i) (d.take i)++[v.rv r]:=by
    rw[AO,AO,s,P,List.zipWith_append (by rw[AM,AM];have:=H.o.2.2.1.len;omega)]
    rfl
   obtain⟨rid,g,f,pa,pn,pc,rgen,fa,fn,fc⟩:=v;simp only at S T U V W X u;have I:=Zl2 (id:=rid) (tree:=g) (date:=f) (gen:=rgen) (pa:=pa) (pn:=pn) (pc:=pc) u
   have E:(Dm LV.rv (vs.take i) (d.take i)).length<=100000:=by
    rw[Dp,AM];omega
   have HT:Hid (Dm LV.rv (vs.take (i+1)) (d.take (i+1))=Dm LV.rv (vs.take i) (d.take i)++[LV.rv ⟨rid,g,f,pa,pn,pc,rgen,fa,fn,fc⟩ r]):=K;clear s P B j u K;go_wp2_with fail;refine I.mono ?_;rintro e R ⟨rfl,L⟩;have hO:=m.o.1.below L;have x:An l w R:=m.o.2.trans (L.mono (by have:=m.o.2.size;omega))
   have J:l<=R.heap.size:=by have:=x.size;omega
   have M:Hid (An l w R):=x;clear I L S T U V W X x;go_wp2_with(at_builtin;refine Zag encRv 106 40 72 (Ag #[Ab Al 0,Ab Al 0,Ab Ak 0,Aa none 0 0,Ab Ak 0,Ae ⟨#[]⟩]) rfl infoRv sliceRv rfl (.tmp 11) (.tmp 17) rfl l _ _ (LV.rv ⟨rid,g,f,pa,pn,pc,rgen,fa,fn,fc⟩ r) _ rfl hO rfl (by omega) (by simp only[AG];omega) J _ rfl ?_;intro v4 w4 F C O Q)
   have t:Hid (OwnG encRv 106 w4 l v4 (Dm LV.rv (vs.take (i+1)) (d.take (i+1)))/\An l w w4):=by
    rw[HT.o];exact⟨F,M.o.trans C⟩
   clear F C O Q hO J E p;go_wp2_with fail;go_roundg (gk - 1)
   case measure=>omega
   case rel=>exact⟨i+1,by go_num,by omega,t.o⟩
  ·obtain rfl:i=n:=by omega
   have id:¬(i:Int)<(i:Int):=by omega
   have q:d.length=i:=by rw[<- H.o.2.2.1.len];exact H.o.2.1
   have Y:vs.take i=vs:=Av (by rw[H.o.2.1];exact Az _);have Z:d.take i=d:=Av (by rw[q];exact Az _);rw[Y,Z]at m
   have z:(Dm LV.rv vs d).length=i:=by rw[Dp,q,H.o.2.1,Nat.min_self]
   obtain⟨A,c',rfl,_,G⟩:=m.o.1.whole z
   have j:An w.heap.size w wr:=by rw[p];exact m.o.2
   have t:Hid (RvsR wr A d/\An l w wr):=by
    refine⟨⟨Dm LV.rv vs d,G,by rw[z,q],λ k v r h1 N=>?_⟩,m.o.2⟩
    have hk:k<i:=by
     have:=(AC.1 N).1;omega
    obtain⟨v0,s⟩:∃v0,vs[k]? = some v0:=⟨_,Aq (by rw[H.o.2.1];exact hk)⟩
    rw[C4,s,N]at h1;cases h1;exact(H.o.2.2.1.at_ k v0 r s N).rv.below j
   clear m Y Z z G j p q;go_wp2;go_ret;exact⟨A,⟨c',rfl⟩,t.o⟩
theorem ZfA{a:Option Addr}{l:List UInt64}(h:RdG encU w a l)(F:l.length=n)(N:n<=100000):
  At Am 14 #[Aa a n c] w λ e w'=>∃p c',e=Aj (Aa p n c')/\Hid (RdG encU w' p l/\n<=c'/\An w.heap.size w w'):=by
 obtain⟨f,j⟩:=Xa w.heap.size
 have H:Hid (RdG encU w a l/\l.length=n/\w.heap.size=f):=⟨h,F,j⟩
 rw[j];clear h F j;go_enter func14,ntmps14;go_wp2_with fail;go_loopg[3,4] n (λ k J M wr=>∃i:Nat,M=Ab Ak i/\i+k=n/\Hid (OwnG encU 43 wr f J (l.take i)/\An f w wr))
 case atStart=>exact⟨0,rfl,by omega,OwnG.nil _ _ _ _,Ao _ _⟩
 case round =>
  obtain⟨i,rfl,hi,d⟩:=hrel;have m:=H.o.2.2;by_cases z:i<n
  ·have id:(i:Int)<(n:Int):=by omega
   have L:(0:Int)<=(i:Int):=by omega
   obtain⟨x,y⟩:∃x,l[i]? = some x:=⟨_,Aq (by rw[H.o.2.1];exact z)⟩
   have r:An w.heap.size w wr:=by rw[m];exact d.o.2
   obtain⟨b,off,rfl,_⟩:=H.o.1.some_of y;have K:=((H.o.1.below r).nums y).2
   have I:Hid (l.take (i+1)=l.take i++[x]):=by show _=_;rw[AO,y];rfl
   have D:=d.o.1
   have v:f<=wr.heap.size:=by have:=d.o.2.size;omega
   have s:(l.take i).length<=100000:=by rw[AM];omega
   clear y r;go_wp2_with(at_builtin;refine Zag encU 43 51 8 (Ab Al 0) rfl infoU Zjb rfl (.tmp 11) (.tmp 16) rfl f _ _ x _ rfl D rfl (by omega) (by simp only[AG];omega) v _ rfl ?_;intro v4 G t q A B)
   have g:Hid (OwnG encU 43 G f v4 (l.take (i+1))/\An f w G):=by
    rw[I.o];exact⟨t,d.o.2.trans q⟩
   clear t q A B D v s m K;go_wp2_with fail;go_roundg (gk - 1)
   case measure=>omega
   case rel=>exact⟨i+1,by go_num,by omega,g.o⟩
  ·obtain rfl:i=n:=by omega
   have id:¬(i:Int)<(i:Int):=by omega
   have C:l.take i=l:=Av (by rw[H.o.2.1];exact Az _);rw[C]at d;obtain⟨p,c',rfl,E,u⟩:=d.o.1.whole H.o.2.1
   have g:Hid (RdG encU wr p l/\i<=c'/\An f w wr):=⟨u,E,d.o.2⟩
   clear d C u E m;go_wp2;go_ret;exact⟨p,c',rfl,g.o⟩
theorem LvsO.ids(h:LvsO w B vs a):vs.map (·.id)=a.map (·.id):=by
 refine Cu (λ i=>?_);rw[Bc,Bc];by_cases hi:i<vs.length
 ·have b:i<a.length:=by rw[<- h.len];exact hi
  rw[Aq hi,Aq b];exact A4 some (h.at_ i _ _ (Aq hi) (Aq b)).id
 ·rw[AL (by omega),AL (by rw[<- h.len];omega)]
  rfl
theorem LvsO.gens(h:LvsO w B vs a):vs.map (·.gen)=a.map (·.gen):=by
 refine Cu (λ i=>?_);rw[Bc,Bc];by_cases hi:i<vs.length
 ·have b:i<a.length:=by rw[<- h.len];exact hi
  rw[Aq hi,Aq b];exact A4 some (h.at_ i _ _ (Aq hi) (Aq b)).gen
 ·rw[AL (by omega),AL (by rw[<- h.len];omega)]
  rfl
theorem RvsO.gens{vs:List RV}(h:RvsO w B vs a):vs.map (·.gen)=a.map (·.gen):=by
 refine Cu (λ i=>?_);rw[Bc,Bc];by_cases hi:i<vs.length
 ·have b:i<a.length:=by rw[<- h.len];exact hi
  rw[Aq hi,Aq b];exact A4 some (h.at_ i _ _ (Aq hi) (Aq b)).gen
 ·rw[AL (by omega),AL (by rw[<- h.len];omega)]
  rfl
theorem LvsO.lvs(h:LvsO w B vs a):Lvs w vs a:=⟨h.len,λ i v r b c=>(h.at_ i v r b c).at⟩
structure Stk(R:List Rw):Prop where
 nd:(R.map (·.id)).Nodup
 gen:∀r∈R,1<=r.gen/\r.gen<=250
 ps:∀r∈R,r.ps.length<=8
theorem Stk.nil:Stk []:=⟨by simp,by simp,by simp⟩
theorem Zi4{xs:List UInt64}(h:G.length=xs.length):(st.rows Q xs G).map (·.id)=xs:=by
 unfold St.rows;refine Cu (λ i=>?_);rw[Bc,C4];by_cases hi:i<xs.length
 ·rw[Aq hi,Aq (by omega:i<G.length)]
  rfl
 ·rw[AL (by omega)]
  rfl
theorem Stk.app(h:Stk R)(k:st.told (R.map (·.id)) G gr r d)(g:st.free (R.map (·.id)) gr->Gens (R.map (·.gen)) (st.pss (R.map (·.id)++risU gr) (risU gr)) G):Stk (R++d)/\d.length<=gr.length:=by
 have a:Stk (R++[])/\([]:List Rw).length<=gr.length:=by rw[List.append_nil];exact⟨h,by simp⟩
 cases k with
 | twice _=>exact a
 | missing _ _=>exact a
 | open_ _ _ _=>exact a
 | rows e =>
  have f:=g e
  have j:G.length=(risU gr).length:=by rw[f.len];unfold St.pss;rw[AQ]
  refine⟨⟨?_,λ x c=>?_,λ x c=>?_⟩,?_⟩
  ·rw[List.map_append,Zi4 j];exact ZbS.2 e.nd
  ·rcases AK.1 c with q|q
   ·exact h.gen x q
   ·unfold St.rows at q;obtain⟨i,hi,rfl⟩:=Cv q;rw[FE]
    have b:i<G.length:=by rw[Dp]at hi;omega
    exact f.pos _ (List.getElem_mem b)
  ·rcases AK.1 c with q|q
   ·exact h.ps x q
   ·unfold St.rows at q;obtain⟨i,hi,rfl⟩:=Cv q;rw[FE];show(pps _ _).length<=8;unfold pps;rw[AQ];exact Zg3 st _
  ·unfold St.rows;rw[Dp,Zb7];omega
structure SS(st:St)(B:Nat)(u:Ap)(rv wv gv:Ar)(cl:List UInt64)(i:Nat)(vs:List LV)(ws:List RV)(R:List Rw)(gr:List UInt64):Prop where
 rows:OwnG encL 63 u B rv vs
 lv:LvsO u B vs R
 want:OwnG encRv 106 u B wv ws
 rvs:RvsO u B ws R
 grp:OwnG encU 44 u B gv gr
 stk:Stk R
 len:R.length+gr.length<=i
 mem:∀x∈gr,x∈cl
 sg:SG st cl i R gr
theorem SS.below{rv d:Ar}{c:List RV}(h:SS st B u rv d b cl i vs c R gr)(a:An u.heap.size u u'):SS st B u' rv d b cl i vs c R gr :=
 ⟨h.rows.below a,h.lv.below a,h.want.below a,h.rvs.below a,h.grp.below a,h.stk,h.len,h.mem,h.sg⟩
theorem SS.group{rv f a:Ar}{l:List RV}(h:SS st B u rv m f cl i vs l R gr)(o:OwnG encU 44 u' B a (gr++[x]))(c:Zaa (λ k=>f.ownBlock=some k) u u')(j:cl[i]? = some x)(n:¬(x∈R.map (·.id)∨x∈gr)):SS st B u' rv m a cl (i+1) vs l R (gr++[x]):=by
 have b:=h.grp.noIB (by decide) (by decide);refine⟨h.rows.stays c (λ g d e=>h.grp.ne_own h.rows (by decide) e d),h.lv.stays c b,h.want.stays c (λ g d e=>h.grp.ne_own h.want (by decide) e d),h.rvs.stays c b,o,h.stk,by rw[AD];have:=h.len;simp;omega,λ y p=>?_,h.sg.group j n⟩
 rcases AK.1 p with q|q
 ·exact h.mem y q
 ·rw[A2]at q;rw[q];exact AY j
theorem SS.more{rv c a:Ar}{b:List RV}(h:SS st B u rv c a cl i vs b R gr)(e:cl[i]? = some x)(d:x∈R.map (·.id)∨x∈gr):SS st B u rv c a cl (i+1) vs b R gr :=
 ⟨h.rows,h.lv,h.want,h.rvs,h.grp,h.stk,by have:=h.len;omega,h.mem,h.sg.more e d⟩
def Zg2(Q gr:List UInt64)(x:UInt64)(b:Bool):Prop:=b=true↔x∈Q∨x∈gr
theorem Zkf(h:Zg2 Q (gr.take j) x true):Zg2 Q (gr.take (j+1)) x true:=⟨λ _=>(h.1 rfl).imp id (λ q=>List.take_subset_take_left gr (by omega) q),λ _=>rfl⟩
theorem Zk1(h:gr[j]? = some x):Zg2 Q (gr.take (j+1)) x true:=⟨λ _=>.inr (by rw[ZdD h];simp),λ _=>rfl⟩
theorem Zl9{y:UInt64}(h:Zg2 Q (gr.take j) x false)(b:gr[j]? = some y)(a:¬y=x):Zg2 Q (gr.take (j+1)) x false:=by
 refine⟨λ q=>(by cases q),λ q=>?_⟩;rw[ZdD b,AK,A2]at q
 rcases q with q|q|q
 ·exact h.2 (.inl q)
 ·exact h.2 (.inr q)
 ·exact absurd q.symm a
theorem SS.laid{t u2:Ap}{rv E F l:Ar}{c:List LV}{v d:List RV}{n:List Rw}{w x:Nat}(h:SS st B u rv E F cl i vs v R gr)(I:CC st cl)(H:An u.heap.size u u')
  (J:LvsO u' w c n) (o:B<=w) (K:RvsO u' x d n) (p:B<=x) (j:OwnG encL 63 t B l (vs++c)) (a:Zaa (λ k=>rv.ownBlock=some k) u' t) (s:OwnG encRv 106 u2 B m (v++d)) (b:Zaa (λ k=>E.ownBlock=some k) t u2)
  (A:st.told (R.map (·.id)) G gr r n) (y:st.free (R.map (·.id)) gr->Gens (R.map (·.gen)) (st.pss (R.map (·.id)++risU gr) (risU gr)) G):SS st B u2 l m (Aa none 0 0) cl i (vs++c) (v++d) (R++n) []:=by
 have f:=h.below H;have C:=f.rows.noIB (by decide) (by decide);have w1:=f.want.stays a (λ g q e=>f.rows.ne_own f.want (by decide) e q);have D:=w1.noIB (by decide) (by decide);have z:=h.stk.app A y;refine⟨j.stays b (λ g q e=>w1.ne_own j (by decide) e q),((f.lv.app (J.low o)).stays a C).stays b D,s,((f.rvs.app (K.low p)).stays a C).stays b D,OwnG.nil _ _ _ _,z.1,?_,by simp,h.sg.laid I A y Zi4⟩;have:=h.len;have:=z.2;rw[AD,List.length_nil];omega
theorem SS.lgen{rv a:Ar}{f:List RV}(h:SS st B u rv g a cl i vs f R gr):∀v∈vs,1<=v.gen/\v.gen<=250:=λ v e=>by
 have d:v.gen∈R.map (·.gen):=by rw[<- h.lv.gens];exact EK e
 obtain⟨r,b,c⟩:=Bu.1 d;rw[<- c];exact h.stk.gen r b
theorem SS.rgen{rv:Ar}{a:List RV}(h:SS st B u rv g b cl i vs a R gr):∀v∈a,0<=v.gen/\v.gen<=250:=λ v f=>by
 have e:v.gen∈R.map (·.gen):=by rw[<- h.rvs.gens];exact EK f
 obtain⟨r,c,d⟩:=Bu.1 e;rw[<- d];have:=h.stk.gen r c;omega
theorem Zip(c:Ordd st)(b:R.length=n):∃G rk,st.free (R.map (·.id)) gr->Zaz n (st.pss (R.map (·.id)++risU gr) (risU gr)) rk/\Gens (R.map (·.gen)) (st.pss (R.map (·.id)++risU gr) (risU gr)) G:=by
 obtain⟨G,rk,a⟩:=ZnQ c (R.map (·.id)) (R.map (·.gen)) (by rw[AQ,AQ]) gr;rw[AQ,b]at a;exact⟨G,rk,a⟩
structure SE(u:Ap)(s b:Nat)(st:St)(S:Nat->Prop)(oa za ca:Option Addr)(cl:List UInt64)(cuts:List Int)(K:Nat)(cs:Array Ar):Prop where
 store:Zac u s b st S
 objs:RdG encO u oa st.objs
 coms:RdG encU u za cl
 cut:RdG encI u ca cuts
 box:BoxA u K 36 cs
theorem SE.below{b:Nat}{e d:Option Addr}{a:List Int}{K:Nat}{cs:Array Ar}(h:SE u s b st S oa e d cl a K cs)(c:An u.heap.size u u'):SE u' s b st S oa e d cl a K cs :=
 ⟨h.store.below c,h.objs.below c,h.coms.below c,h.cut.below c,h.box.below c h.box.lt⟩
def ZoQ(st:St)(m0:Nat)(w w':Ap)(rv wv:Ar)(cl:List UInt64)(zn:Nat):Prop:=∃B vs ws R gv,m0<=B/\SS st B w' rv wv gv cl zn vs ws R []/\An m0 w w'
theorem Zhk{b:Nat}{d:Dk}{vf vr vt xb xt:Ar}{za ca:Option Addr}{on oc z zc cn cc:Nat}{n:List Int}
  (hS:Zac w s b st S) (hO:RdG encO w oa st.objs) (a5:st.objs.length=on) (br:on<=1000000) (a4:∀o∈st.objs,o.body.length<=8192) (az:Ordd st) (aT:CC st cl)
  (hC:RdG encU w za cl) (aU:cl.length=z) (bJ:z<=10000) (aW:RdG encI w ca n) (aV:n.length=cn) (bF:cn<=4000000000000000000) :
  At Am 10 #[Ag (wdV s b d vf (Aa oa on oc) vr vt xb xt (Aa za z zc)),Aa ca cn cc] w λ e w'=>∃rv wv,e=Aj (.tuple #[rv,wv,Ad true])/\Hid (ZoQ st w.heap.size w w' rv wv cl z):=by
 obtain⟨t,ao⟩:=Xa w.heap.size
 obtain⟨V,am⟩:=Xb (w.alloc (Ai (wdV s b d vf (Aa oa on oc) vr vt xb xt (Aa za z zc)) 36))
 have B0:An w.heap.size w V:=by rw[am];exact bz1 _ _
 have E0:Hid (SE V s b st S oa za ca cl n t (wdV s b d vf (Aa oa on oc) vr vt xb xt (Aa za z zc))):=⟨hS.below B0,hO.below B0,hC.below B0,aW.below B0,by rw[am,<- ao];exact BoxA.new _ _ _⟩
 obtain⟨B,hB⟩:=Xa V.heap.size
 have H:Hid (st.objs.length=on/\(∀o∈st.objs,o.body.length<=8192)/\Ordd st/\cl.length=z/\n.length=cn/\An w.heap.size w V/\V.heap.size=B/\w.heap.size=t):=⟨a5,a4,az,aU,aV,B0,hB,ao⟩
 have bd:Hid (CC st cl):=aT;rw[ao];clear aT hS hO a5 a4 az hC aU aW aV B0 hB;go_enter func10,ntmps10
 go_upto_region 1 with fail
 rw[<- am];clear am ao;go_wp2_with fail;go_loopg[7,8,9,10] z (λ k rv wv gv iv wr=>∃i:Nat,iv=Ab Ak i/\i+k=z/\Hid (An B V wr/\∃vs K R gr,SS st B wr rv wv gv cl i vs K R gr/\(i=z->gr=[])))
 case atStart=>exact⟨0,rfl,by omega,Ao _ _,[],[],[],[],⟨OwnG.nil _ _ _ _,LvsO.nil _ _,OwnG.nil _ _ _ _,RvsO.nil _ _,OwnG.nil _ _ _ _,Stk.nil,by simp,by simp,SG.nil _ _⟩,λ _=>rfl⟩
 case round =>
  obtain⟨i,rfl,hi,HR⟩:=hrel;have HE:Hid (SE wr s b st S oa za ca cl n t (wdV s b d vf (Aa oa on oc) vr vt xb xt (Aa za z zc))):=E0.o.below (by rw[H.o.2.2.2.2.2.2.1];exact HR.o.1);obtain⟨aO,vs,K,R,gr,hs,aZ⟩:=HR.o
  obtain⟨v,ah⟩:=Xa R.length
  have W:vs.length=v:=hs.lv.len.trans ah;have J:K.length=v:=hs.rvs.len.trans ah
  obtain⟨gn,an⟩:=Xa gr.length
  obtain⟨ra,rc,rfl,_,bC⟩:=hs.rows.whole W;obtain⟨wa,E,rfl,_,aN⟩:=hs.want.whole J;obtain⟨ga,gc,rfl,_,aE⟩:=hs.grp.whole an;have bo:=hs.len;rw[ah,an]at bo
  have F:Hid (SS st B wr (Aa ra v rc) (Aa wa v E) (Aa ga gn gc) cl i vs K R gr/\An B V wr/\R.length=v/\vs.length=v/\K.length=v/\gr.length=gn/\RdG encU wr ga gr/\(i=z->gr=[])):=⟨hs,aO,ah,W,J,an,aE,aZ⟩
  clear HR aO hs ah W an bC aZ
  obtain⟨Wo,bi⟩:=Xb wr
  subst bi;by_cases bm:i<z
  ·have id:(i:Int)<(z:Int):=by omega
   have bK:(0:Int)<=(i:Int):=by omega
   obtain⟨x,hx⟩:∃x,cl[i]? = some x:=⟨_,Aq (by rw[H.o.2.2.2.1];exact bm)⟩
   obtain⟨zb,zo,rfl,_⟩:=HE.o.coms.some_of hx;have cx:=(HE.o.coms.nums hx).2;have Y:=HE.o.box.cell (j:=13) rfl
   obtain⟨r1,aL⟩:=Xa (plI (K.map (·.id)) x)
   have a6:=Zcp (c:=E) aN J (by omega) x r1 aL
   obtain⟨k0,a0⟩:=Xa (decide ((0:Int)<=r1))
   have HX:Hid (cl[i]? = some x):=hx
   have bf:Hid (Zg2 (R.map (·.id)) (gr.take 0) x k0):=by show k0=true↔_;rw[<- a0,A5,<- aL,Zer,F.o.1.rvs.ids];simp
   clear hx aN J aL aE;go_wp2_with fail;refine a6.mono ?_;rintro e w1 ⟨rfl,au⟩;rw[au];clear a6 au
   go_upto_region 8 with fail
   clear a0;go_wp2_with fail;go_loopg[11,12] gn (λ m kv jv u=>∃(kb:Bool) (j:Nat),kv=Ad kb/\jv=Ab Ak j/\j+m=gn/\Hid (An Wo.heap.size Wo u/\Zg2 (R.map (·.id)) (gr.take j) x kb))
   case atStart=>exact⟨k0,0,rfl,rfl,by omega,Ao _ _,bf.o⟩
   case round =>
    obtain⟨kb,j,rfl,rfl,hj,l⟩:=hrel;clear cx Y;have cx:=((HE.o.coms.below l.o.1).nums HX.o).2;have Y:=(HE.o.box.below l.o.1 HE.o.box.lt).cell (j:=13) rfl;by_cases aG:j<gn
    ·have jd:(j:Int)<(gn:Int):=by omega
     have bw:(0:Int)<=(j:Int):=by omega
     obtain⟨y,hy⟩:∃y,gr[j]? = some y:=⟨_,Aq (by rw[F.o.2.2.2.2.2.1];exact aG)⟩
     obtain⟨gb,go,rfl,_⟩:=F.o.2.2.2.2.2.2.1.some_of hy;have cy:=((F.o.2.2.2.2.2.2.1.below l.o.1).nums hy).2;have HY:Hid (gr[j]? = some y):=hy;clear hy
     go_upto_region 11 with fail
     cases kb with
     | true =>
      go_quiet (fail);go_wp2_with fail;go_roundg (gk - 1)
      case measure=>omega
      case rel=>exact⟨true,j+1,rfl,by go_num,by omega,l.o.1.trans ((bdrewN _ _).mono l.o.1.size),Zkf l.o.2⟩
     | false =>
      by_cases X:y=x
      ·subst X;go_quiet (fail);go_wp2_with fail;go_roundg (gk - 1)
       case measure=>omega
       case rel=>exact⟨true,j+1,rfl,by go_num,by omega,l.o.1.trans ((bdrewN _ _).mono l.o.1.size),Zk1 HY.o⟩
      ·have hn:¬(y.toNat:Int)=(x.toNat:Int):=λ q=>X (UInt64.toNat_inj.1 (Int.ofNat.inj q))
       have hd:((y.toNat:Int)==(x.toNat:Int))=false:=by simpa using hn
       go_quiet (fail);go_wp2_with fail;go_roundg (gk - 1)
       case measure=>omega
       case rel=>exact⟨false,j+1,rfl,by go_num,by omega,l.o.1.trans ((bdrewN _ _).mono l.o.1.size),Zl9 l.o.2 HY.o X⟩
    ·obtain rfl:j=gn:=by omega
     have jd:¬(j:Int)<(j:Int):=by omega
     have M:B<=Wo.heap.size:=by have:=F.o.2.1.size;have:=H.o.2.2.2.2.2.2.1;omega
     have L:Hid (An B V wr/\SS st B wr (Aa ra v rc) (Aa wa v E) (Aa ga j gc) cl i vs K R gr/\B<=wr.heap.size):=⟨F.o.2.1.trans (l.o.1.mono M),F.o.1.below l.o.1,AZ M l.o.1.size⟩
     have HK:Hid (Zg2 (R.map (·.id)) gr x kb):=by have q:=l.o.2;rw[Av (by rw[F.o.2.2.2.2.2.1];exact Az _)]at q;exact q
     clear l M
     obtain⟨Wk,bg⟩:=Xb wr
     subst bg
     go_upto_if 54 with fail
     go_cut[9] (λ gv u=>Hid (An B V u/\∃gr,SS st B u (Aa ra v rc) (Aa wa v E) gv cl (i+1) vs K R gr))
     case first =>
      cases kb with
      | true =>
       go_wp2_with fail;go_meet;exact⟨L.o.1,gr,L.o.2.1.more HX.o (HK.o.1 rfl)⟩
      | false =>
       have hO:=L.o.2.1.grp;have bG:=F.o.2.2.2.2.2.1;have ar:=L.o.2.2;go_wp2_with(at_builtin;refine Zag encU 44 34 8 _ rfl Tryz.info44 underlying34 rfl (.tmp 55) (.tmp 61) rfl B _ _ x _ rfl hO rfl (by omega) (by simp only[AG];omega) ar _ rfl ?_;intro v4 w4 bq bj bI bs);go_meet;exact⟨L.o.1.trans bj,_,L.o.2.1.group bq bs HX.o (λ q=>by have:=HK.o.2 q;cases this)⟩
     case rest =>
      obtain⟨ak,f,aq⟩:=hcut.o
      obtain⟨D,P⟩:=Xa f.length
      obtain⟨aD,af,bl,_,_⟩:=aq.grp.whole P;subst bl
      obtain⟨uP,bu⟩:=Xb wc
      subst bu;have bn:=aq.len;rw[F.o.2.2.1,P]at bn
      have U:Hid (SS st B uP (Aa ra v rc) (Aa wa v E) (Aa aD D af) cl (i+1) vs K R f/\An B V uP/\R.length=v/\vs.length=v/\K.length=v/\f.length=D/\B<=uP.heap.size):=⟨aq,ak,F.o.2.2.1,F.o.2.2.2.1,F.o.2.2.2.2.1,P,by have:=ak.size;have:=H.o.2.2.2.2.2.2.1;omega⟩
      have ab:Hid (SE uP s b st S oa (some ⟨zb,zo,none⟩) ca cl n t (wdV s b d vf (Aa oa on oc) vr vt xb xt (Aa (some ⟨zb,zo,none⟩) z zc))):=E0.o.below (by rw[H.o.2.2.2.2.2.2.1];exact ak);clear hcut ak aq P L F HE cx Y;have Y:=ab.o.box.cell (j:=13) rfl
      obtain⟨e0,aX⟩:=Xa (((i:Int)==(z:Int) - 1))
      have be:Hid (i+1=z->e0=true):=λ q=>by rw[<- aX,Ep];omega
      go_upto_region 15 with fail
      clear aX;go_wp2_with fail;go_loopg[13,14] cn (λ m ev jv u=>∃(eb:Bool) (j:Nat),ev=Ad eb/\jv=Ab Ak j/\j+m=cn/\Hid ((i+1=z->eb=true)/\An uP.heap.size uP u))
      case atStart=>exact⟨e0,0,rfl,rfl,by omega,be.o,Ao _ _⟩
      case round =>
       obtain⟨eb,jj,rfl,rfl,bH,l⟩:=hrel;clear Y;by_cases aG:jj<cn
       ·have jd:(jj:Int)<(cn:Int):=by omega
        have bw:(0:Int)<=(jj:Int):=by omega
        obtain⟨y,hy⟩:∃y,n[jj]? = some y:=⟨_,Aq (by rw[H.o.2.2.2.2.1];exact aG)⟩
        obtain⟨gb,go,rfl,_⟩:=ab.o.cut.some_of hy;have cy:=(ab.o.cut.below l.o.2).ints hy;clear hy
        cases eb with
        | true =>
         go_wp2_with fail;go_roundg (gk - 1)
         case measure=>omega
         case rel=>exact⟨true,jj+1,rfl,by go_num,by omega,λ _=>rfl,l.o.2⟩
        | false =>
         by_cases X:y=(i:Int)
         ·have hd:(y==(i:Int))=true:=by simpa using X
          go_wp2_with fail;go_roundg (gk - 1)
          case measure=>omega
          case rel=>exact⟨true,jj+1,rfl,by go_num,by omega,λ _=>rfl,l.o.2⟩
         ·have hd:(y==(i:Int))=false:=by simpa using X
          go_wp2_with fail;go_roundg (gk - 1)
          case measure=>omega
          case rel=>exact⟨false,jj+1,rfl,by go_num,by omega,l.o.1,l.o.2⟩
       ·obtain rfl:jj=cn:=by omega
        have jd:¬(jj:Int)<(jj:Int):=by omega
        have M:B<=uP.heap.size:=U.o.2.2.2.2.2.2
        have h:Hid (SS st B wr (Aa ra v rc) (Aa wa v E) (Aa aD D af) cl (i+1) vs K R f/\An B V wr/\B<=wr.heap.size/\(i+1=z->eb=true)):=⟨U.o.1.below l.o.2,U.o.2.1.trans (l.o.2.mono M),AZ M l.o.2.size,l.o.1⟩
        have ad:Hid (SE wr s b st S oa (some ⟨zb,zo,none⟩) ca cl n t (wdV s b d vf (Aa oa on oc) vr vt xb xt (Aa (some ⟨zb,zo,none⟩) z zc))):=ab.o.below l.o.2;clear l M ab
        obtain⟨Wl,bh⟩:=Xb wr
        subst bh
        cases eb with
        | false =>
         go_wp2_with fail;go_roundg (z - (i+1))
         case measure=>omega
         case rel=>exact⟨i+1,by go_num,by omega,h.o.2.1,vs,K,R,f,h.o.1,λ q=>Bool.noConfusion (h.o.2.2.2 q)⟩
        | true =>
         by_cases aY:D=0
         ·subst aY;go_wp2_with fail;go_roundg (z - (i+1))
          case measure=>omega
          case rel=>exact⟨i+1,by go_num,by omega,h.o.2.1,vs,K,R,f,h.o.1,λ _=>List.eq_nil_of_length_eq_zero U.o.2.2.2.2.2.1⟩
         ·have hd:((D:Int)==0)=false:=by simpa using aY
          obtain⟨G,rk,hG⟩:=Zip (gr:=f) H.o.2.2.1 U.o.2.2.1;have aI:=ZbB (bc:=rc) (c:=af) (G:=G) (rk:=rk) ad.o.store h.o.1.rows.rdc.1 U.o.2.2.2.1 h.o.1.lgen (by rw[h.o.1.lv.ids];exact h.o.1.stk.nd) h.o.1.grp.rdc.1 U.o.2.2.2.2.2.1 (by omega) (by rw[h.o.1.lv.ids,h.o.1.lv.gens];exact hG);rw[h.o.1.lv.ids]at aI;have HG:Hid (st.free (R.map (·.id)) f->Zaz v (st.pss (R.map (·.id)++risU f) (risU f)) rk/\Gens (R.map (·.gen)) (st.pss (R.map (·.id)++risU f) (risU f)) G):=hG;have p1:=ad.o.box.cell (j:=1) rfl;clear hG;go_wp2_with fail;refine aI.mono ?_;rintro e p ⟨lv,r5,rfl,J5⟩;clear aI p1;obtain⟨N,rs,aM,aJ,aH,A⟩:=J5.o;clear J5
          obtain⟨n2,ap⟩:=Xa rs.length
          obtain⟨la,lc,rfl,_,bB⟩:=aJ.whole (aH.len.trans ap);have aF:=h.o.1.stk.app aM (λ q=>(HG.o q).2)
          have bE:n2<=D:=by have:=aF.2;rw[U.o.2.2.2.2.2.1,ap]at this;exact this
          have KZ:Hid (∀u,An p.heap.size p u->u.cell? ⟨t,2,none⟩=some vf/\u.cell? ⟨t,3,none⟩=some (Ab Ak (d.writes:Int))/\u.cell? ⟨t,4,none⟩=some (Ad d.armed)/\u.cell? ⟨t,5,none⟩=some (Ad d.dead)/\u.cell? ⟨t,6,none⟩=some (Ab Ak (d.after:Int))/\u.cell? ⟨t,7,none⟩=some (Ab Ak (d.keep:Int))/\u.cell? ⟨t,8,none⟩=some (Aa oa on oc)/\u.cell? ⟨t,9,none⟩=some vr/\u.cell? ⟨t,10,none⟩=some vt):=by
           intro u hu;have T:=ad.o.box.below (A.trans (hu.mono A.size)) ad.o.box.lt;exact⟨T.cell (j:=2) rfl,T.cell (j:=3) rfl,T.cell (j:=4) rfl,T.cell (j:=5) rfl,T.cell (j:=6) rfl,T.cell (j:=7) rfl,T.cell (j:=8) rfl,T.cell (j:=9) rfl,T.cell (j:=10) rfl⟩
          have a7:∀u,An p.heap.size p u->_:=λ u hu=>ZfA (c:=af) ((h.o.1.below (A.trans (hu.mono A.size))).grp.rdc.1) U.o.2.2.2.2.2.1 (by omega)
          have aK:∀u (a:Option Addr) (c:Nat),An p.heap.size p u->RdG encU u a f->D<=c->_:=λ u a c hu h1 h2=>Zel (d:=d) (vf:=vf) (vr:=vr) (vt:=vt) (oc:=oc) (bc:=E) (G:=G) (rk:=rk) (ad.o.below (A.trans (hu.mono A.size))).objs H.o.1 br H.o.2.1 ((h.o.1.below (A.trans (hu.mono A.size))).want.rdc.1) U.o.2.2.2.2.1 h.o.1.rgen (by rw[h.o.1.rvs.ids];exact h.o.1.stk.nd) h1 U.o.2.2.2.2.2.1 h2 (by omega) (by rw[h.o.1.rvs.ids,h.o.1.rvs.gens];exact HG.o)
          rw[h.o.1.rvs.ids]at aK;have QI:Hid _:=a7;have QR:Hid _:=aK
          have I:Hid (st.told (R.map (·.id)) G f r5 rs/\OwnG encL 63 p Wl.heap.size (Aa la n2 lc) N/\LvsO p Wl.heap.size N rs/\An Wl.heap.size Wl p/\rs.length=n2/\Stk (R++rs)/\Wl.heap.size<=p.heap.size):=⟨aM,aJ,aH,A,ap,aF.1,A.size⟩
          clear aM aJ aH A ap aF bB a7 aK
          go_upto_region 21 with fail
          go_cut[17,18] (λ mv fv u=>fv=Ab Ak r5/\Hid (∃C mw,OwnG encRv 106 u mw mv C/\p.heap.size<=mw/\RvsO u mw C rs/\An p.heap.size p u))
          case first =>
           have V0:Hid (An p.heap.size p p.drew):=(Ao _ p).drew;have bx:=KZ.o _ V0.o
           go_region_held3 (λ u=>u.cell? ⟨t,2,none⟩=some vf/\u.cell? ⟨t,3,none⟩=some (Ab Ak (d.writes:Int))/\u.cell? ⟨t,4,none⟩=some (Ad d.armed)/\u.cell? ⟨t,5,none⟩=some (Ad d.dead)/\u.cell? ⟨t,6,none⟩=some (Ab Ak (d.after:Int))/\u.cell? ⟨t,7,none⟩=some (Ab Ak (d.keep:Int))/\u.cell? ⟨t,8,none⟩=some (Aa oa on oc)/\u.cell? ⟨t,9,none⟩=some vr/\u.cell? ⟨t,10,none⟩=some vt)
            (first | with_reducible exact bx | with_reducible exact bz | with_reducible exact bA | go_keep)
            (first
             | (go_at_call 13;(with_reducible refine(QR.o _ ia ic V1.o.1 V1.o.2.1 V1.o.2.2).mono ?_);rintro e w7 ⟨mv,r7,rfl,X2⟩;have V2:Hid (An p.heap.size p w7):=(by obtain⟨_,_,_,_,_,b⟩:=X2.o;exact V1.o.1.trans (b.mono V1.o.1.size));have bA:=KZ.o _ V2.o)
             | (go_at_call 14;(with_reducible refine(QI.o _ V0.o).mono ?_);rintro e w6 ⟨ia,ic,rfl,X1⟩;have V1:Hid (An p.heap.size p w6/\RdG encU w6 ia f/\D<=ic):=⟨V0.o.trans (X1.o.2.2.mono V0.o.size),X1.o.1,X1.o.2.1⟩;have bz:=KZ.o _ V1.o.1))
           all_goals
            go_wp2_with fail;go_meet;obtain⟨C,bL,t2,o2,l2,b2⟩:=X2.o;obtain⟨e1,e2⟩:=I.o.1.uniq t2;rw[<- e1];rw[<- e2]at l2;exact⟨rfl,C,_,o2,V1.o.1.size,l2,V2.o⟩
          case rest =>
           obtain⟨bk,HM⟩:=hcut;subst bk;obtain⟨C,mw,o2,a3,l2,b2⟩:=HM.o;obtain⟨ma,mc,bp,_,_⟩:=o2.whole (l2.len.trans I.o.2.2.2.2.1);subst bp
           obtain⟨uM,bt⟩:=Xb wc
           subst bt;have aS:=Zc1 (c:=lc) ((I.o.2.1.below b2).rdc.1) (I.o.2.2.1.len.trans I.o.2.2.2.2.1) ((I.o.2.2.1.below b2).lvs) (by omega)
           have HU:Hid (OwnG encRv 106 uM mw (Aa ma n2 mc) C/\p.heap.size<=mw/\RvsO uM mw C rs/\An p.heap.size p uM):=⟨o2,a3,l2,b2⟩
           clear HM o2 a3 l2 b2 QI QR KZ;go_wp2_with fail;refine aS.mono ?_;rintro e w8 ⟨aa,ac,rfl,J8⟩;clear aS;have a9:=Zej (c:=ac) (c':=mc) J8.o.1 ((HU.o.2.2.1.rd HU.o.1).below J8.o.2) I.o.2.2.2.2.1 (by omega) (λ r hr=>by have:=I.o.2.2.2.2.2.1.ps r (AK.2 (.inr hr));omega);go_wp2_with fail;refine a9.mono ?_;rintro e Z ⟨rfl,b9⟩;clear a9;have aj:An p.heap.size p Z:=HU.o.2.2.2.trans ((J8.o.2.trans (b9.mono J8.o.2.size)).mono HU.o.2.2.2.size);have ae:An Wl.heap.size Wl Z:=I.o.2.2.2.1.trans (aj.mono I.o.2.2.2.2.2.2);have aC:An uM.heap.size uM Z:=J8.o.2.trans (b9.mono J8.o.2.size);have a8:=h.o.1.below ae;have o9:=HU.o.1.below aC
           have O:Hid (SS st B Z (Aa ra v rc) (Aa wa v E) (Aa aD D af) cl (i+1) vs K R f/\OwnG encRv 106 Z mw (Aa ma n2 mc) C/\OwnG encL 63 Z Wl.heap.size (Aa la n2 lc) N/\LvsO Z Wl.heap.size N rs/\RvsO Z mw C rs/\An Wl.heap.size Wl Z/\B<=Z.heap.size/\B<=mw/\An B V Z/\C.length=n2/\N.length=n2):=⟨a8,o9,I.o.2.1.below aj,I.o.2.2.1.below aj,HU.o.2.2.1.below aC,ae,AZ h.o.2.2.1 ae.size,AZ h.o.2.2.1 (AZ I.o.2.2.2.2.2.2 HU.o.2.1),h.o.2.1.trans (ae.mono h.o.2.2.1),HU.o.2.2.1.len.trans I.o.2.2.2.2.1,I.o.2.2.1.len.trans I.o.2.2.2.2.1⟩
           clear J8 b9 aj ae aC a8 o9 HU;have al:=O.o.1.rows;have aQ:=O.o.2.2.1.rdc.1;have W:=U.o.2.2.2.1;have J:=U.o.2.2.2.2.1;have ar:=O.o.2.2.2.2.2.2.1;have bv:=O.o.2.2.2.2.2.2.2.2.2.2;have au:=O.o.2.2.2.2.2.2.2.2.2.1
           go_upto_region 25 with(at_builtin;refine Za7 encL 63 39 80 _ rfl infoL sliceL rfl (.tmp 118) (.tmp 119) rfl B _ _ _ la n2 lc rfl al rfl aQ bv (by rw[W];omega) (by rw[W];simp only[AG];omega) ar ?_;intro ba av ax ag a1 Q)
           have aP:=O.o.1.want.stays Q (λ g hg e=>al.ne_own O.o.1.want (by decide) e hg);have aR:=(O.o.2.1.stays Q (λ g hg e=>al.ne_own O.o.2.1 (by decide) e hg)).rdc.1;have aA:B<=av.heap.size:=AZ ar ag.size
           have HT:Hid (OwnG encL 63 av B ba (vs++N)/\An B Z av/\Zaa (λ k=>(Aa ra v rc).ownBlock=some k) Z av):=⟨ax,ag,Q⟩
           clear al aQ ax ag a1 Q
           go_upto_region 26 with(at_builtin;refine Za7 encRv 106 40 72 _ rfl infoRv sliceRv rfl (.tmp 121) (.tmp 122) rfl B _ _ _ ma n2 mc rfl aP rfl aR au (by rw[J];omega) (by rw[J];simp only[AG];omega) aA ?_;intro bD bb ay aw a2 aB)
           have ai:Hid (An B V bb/\SS st B bb ba bD (Aa none 0 0) cl (i+1) (vs++N) (K++C) (R++rs) []) :=
            ⟨O.o.2.2.2.2.2.2.2.2.1.trans (HT.o.2.1.trans aw),h.o.1.laid bd.o O.o.2.2.2.2.2.1 O.o.2.2.2.1 h.o.2.2.1 O.o.2.2.2.2.1 O.o.2.2.2.2.2.2.2.1 HT.o.1 HT.o.2.2 ay aB I.o.1 (λ q=>(HG.o q).2)⟩
           clear aP aR aA ay aw a2 aB HT;go_wp2_with fail;go_roundg (z - (i+1))
           case measure=>omega
           case rel=>exact⟨i+1,by go_num,by omega,ai.o.1,_,_,_,_,ai.o.2,λ _=>rfl⟩
  ·obtain rfl:i=z:=by omega
   have id:¬(i:Int)<(i:Int):=by omega
   have Y:=HE.o.box.cell (j:=13) rfl
   have ai:Hid (ZoQ st t w Wo (Aa ra v rc) (Aa wa v E) cl i):=by
    have hg:=F.o.2.2.2.2.2.2.2 rfl;have h1:=F.o.1;rw[hg]at h1;have hb:=H.o.2.2.2.2.2.1;have T:=hb.size;rw[H.o.2.2.2.2.2.2.2]at hb T;rw[H.o.2.2.2.2.2.2.1]at T;exact⟨B,vs,K,R,_,T,h1,hb.trans (F.o.2.1.mono T)⟩
   clear F HE aN J aE;go_wp2_with fail;refine As (results_tmp3 rfl _ _ _) rfl ?_;exact⟨_,_,rfl,ai.o⟩
theorem ZiW{α:Type}(E:Enc α)(w:Ap)(xs:List α)(t:TypeId)(c:Array Ar)(d:c=(E.all xs).toArray):RdG E (w.alloc (Ai c t)) (some ⟨w.heap.size,0,none⟩) xs:=by
 subst d;intro _;refine⟨w.heap.size,0,rfl,by simp,λ i x g j u b=>?_⟩
 have e:j<E.size:=by
  have:=(AC.1 b).1;rw[E.len]at this;exact this
 have a:=E.all_get xs i j x g e;rw[b]at a;have f:=heap_alloc_new w (Ai (E.all xs).toArray t);unfold World.cell?;simp only[f,Nat.zero_add];rw[List.getElem?_toArray];exact a
theorem bzs(h:An n w u)(a:n<=u.heap.size)(o:Obj):An n w (u.alloc o):=h.trans ((bz1 u o).mono a)
def awA:List Ac:=[⟨0,[120],[],[],[],0⟩,⟨1,[],[[97]],[],[],0⟩,⟨2,[],[],[0],[],0⟩,⟨2,[],[],[0,0],[],1⟩]
def awL(h:Nat):List AV:=[⟨0,some ⟨h,0,none⟩,1,1,none,0,0,none,0,0,⟨#[]⟩,0,0⟩,⟨1,none,0,0,some ⟨h+1,0,none⟩,1,1,none,0,0,⟨#[]⟩,0,0⟩,⟨2,none,0,0,none,0,0,some ⟨h+1+1,0,none⟩,1,1,⟨#[]⟩,0,0⟩,⟨2,none,0,0,none,0,0,some ⟨h+1+1+1,0,none⟩,2,2,⟨#[]⟩,1,0⟩]
def awV:Wd:=bwd (awA.take 40)
theorem aw_cl:awV.cl=[15955446209180732947,16895835702100498982]:=by kernel_rfl
theorem aw_h0:awV.st.has 3 15955446209180732947=true:=by kernel_rfl
theorem Zqv:awV.st.has 3 16895835702100498982=true:=by kernel_rfl
theorem Zqb:(awV.st.com 15955446209180732947).ps=[]:=by kernel_rfl
theorem ZkQ:(awV.st.com 16895835702100498982).ps=[15955446209180732947]:=by kernel_rfl
abbrev aw1(w:Ap):Ap:=w.alloc (Ai #[Ab .u8 120] 5 (1,2))
abbrev aw2(w:Ap):Ap:=(aw1 w).alloc (Ai #[Ae ⟨#[97]⟩] 9)
abbrev aw3(w:Ap):Ap:=(aw2 w).alloc (Ai #[Ab Ak 0] 3)
abbrev aw4(w:Ap):Ap:=(aw3 w).alloc (Ai #[Ab Ak 0,Ab Ak 0] 3)
abbrev awC(h:Nat):Array Ar:=#[Ab Ak 0,Aa (some ⟨h,0,none⟩) 1 1,Aa none 0 0,Aa none 0 0,Ae ⟨#[]⟩,Ab Ak 0,Ab Ak 0,
 Ab Ak 1,Aa none 0 0,Aa (some ⟨h+1,0,none⟩) 1 1,Aa none 0 0,Ae ⟨#[]⟩,Ab Ak 0,Ab Ak 0,
 Ab Ak 2,Aa none 0 0,Aa none 0 0,Aa (some ⟨h+1+1,0,none⟩) 1 1,Ae ⟨#[]⟩,Ab Ak 0,Ab Ak 0,
 Ab Ak 2,Aa none 0 0,Aa none 0 0,Aa (some ⟨h+1+1+1,0,none⟩) 2 2,Ae ⟨#[]⟩,Ab Ak 1,Ab Ak 0]
abbrev awW(w:Ap):Ap:=(aw4 w).alloc (Ai (awC w.heap.size) 81)
theorem Zk7(w:Ap):(aw1 w).heap.size=w.heap.size+1/\(aw2 w).heap.size=w.heap.size+1+1/\(aw3 w).heap.size=w.heap.size+1+1+1/\(aw4 w).heap.size=w.heap.size+1+1+1+1:=by simp
theorem Zp9(w:Ap):An w.heap.size w (awW w) :=
 bzs (bzs (bzs (bzs (bz1 w _) (by simp) _) (by simp <;> omega) _) (by simp <;> omega) _) (by simp <;> omega) _
theorem Zh5(w:Ap):BAt w (Aa none 0 0) []:=⟨none,0,rfl,Az _,by omega,RdG.nil _ _ _⟩
theorem ZfK{a:AV}{data:Bs}{ps:List Bs}{qs:List Int}(hd:BAt w (Aa a.da a.dn a.dc) data)(dl:data.length=a.dn)(hp:RdG encT w a.pa ps)(pl:ps.length=a.pn)(pf:∀p∈ps,p.length<=10)(hq:RdG encI w a.qa qs)(ql:qs.length=a.qn)(h:a.dn<=10/\a.pn<=10/\a.qn<=10):Zds w a data ps qs :=
 ⟨hd,dl,by omega,hp,pl,by omega,λ p q=>AZ (pf p q) (by omega),hq,ql,by omega⟩
theorem Zqg(w:Ap):∀(i:Nat) (a:AV),(awL w.heap.size)[i]? = some a->∃data ps qs,Zds (awW w) a data ps qs/\awA[i]? = some (a.ac data ps qs):=by
 obtain⟨s1,s2,s3,f⟩:=Zk7 w;have b:BAt (awW w) (Aa (some ⟨w.heap.size,0,none⟩) 1 1) [120]:=(ZfY w [120] 5 (1,2) _ rfl 1 rfl (by simp)).below (bzs (bzs (bzs (bz1 (aw1 w) _) (by simp) _) (by simp <;> omega) _) (by simp <;> omega) _)
 have c:RdG encT (awW w) (some ⟨w.heap.size+1,0,none⟩) [[97]]:=by
  have:=(ZiW encT (aw1 w) [[97]] 9 #[Ae ⟨#[97]⟩] rfl).below (bzs (bzs (bz1 (aw2 w) (Ai #[Ab Ak 0] 3)) (by simp) (Ai #[Ab Ak 0,Ab Ak 0] 3)) (by simp <;> omega) (Ai (awC w.heap.size) 81));rw[s1]at this;exact this
 have d:RdG encI (awW w) (some ⟨w.heap.size+1+1,0,none⟩) [0]:=by
  have:=(ZiW encI (aw2 w) [0] 3 #[Ab Ak 0] rfl).below (bzs (bz1 (aw3 w) (Ai #[Ab Ak 0,Ab Ak 0] 3)) (by simp) (Ai (awC w.heap.size) 81));rw[s2]at this;exact this
 have e:RdG encI (awW w) (some ⟨w.heap.size+1+1+1,0,none⟩) [0,0]:=by
  have:=(ZiW encI (aw3 w) [0,0] 3 #[Ab Ak 0,Ab Ak 0] rfl).below (bz1 (aw4 w) (Ai (awC w.heap.size) 81));rw[s3]at this;exact this
 intro i a h
 match i,h with
 | 0,h=>cases h;exact⟨[120],[],[],ZfK b rfl (RdG.nil _ _ _) rfl (by simp) (RdG.nil _ _ _) rfl (by simp),rfl⟩
 | 1,h=>cases h;exact⟨[],[[97]],[],ZfK (Zh5 _) rfl c rfl (by simp) (RdG.nil _ _ _) rfl (by simp),rfl⟩
 | 2,h=>cases h;exact⟨[],[],[0],ZfK (Zh5 _) rfl (RdG.nil _ _ _) rfl (by simp) d rfl (by simp),rfl⟩
 | 3,h=>cases h;exact⟨[],[],[0,0],ZfK (Zh5 _) rfl (RdG.nil _ _ _) rfl (by simp) e rfl (by simp),rfl⟩
 | i+4,h=>simp[awL]at h
theorem Zp2(w:Ap):Acts (awW w) (some ⟨w.heap.size+1+1+1+1,0,none⟩) 4 (awL w.heap.size):=by
 refine⟨?_,rfl,λ a e=>?_⟩
 ·have:=ZiW encA (aw4 w) (awL w.heap.size) 81 (awC w.heap.size) rfl;rw[(Zk7 w).2.2.2]at this;exact this
 ·obtain⟨i,hi⟩:=List.mem_iff_getElem?.1 e;obtain⟨b,c,d,h,_⟩:=Zqg w i a hi;exact⟨b,c,d,h⟩
theorem Zqd(w:Ap):ZgF (awW w) (awL w.heap.size) awA:=⟨rfl,Zqg w⟩
theorem aw_nm(h:Nat):∀a∈awL h,a.nm.size<=140737488355328:=by
 intro a b;simp only[awL,List.mem_cons,List.not_mem_nil,or_false]at b
 rcases b with rfl|rfl|rfl|rfl <;> exact Nat.zero_le _
theorem ZcP(x:UInt64):risU [x]=[x]:=by
 unfold risU;exact List.mergeSort_singleton x
theorem aw_f0:awV.st.free [] [15955446209180732947]:=⟨by decide,by intro x a;rw[A2]at a;rw[a];exact aw_h0,by intro x a p hp;rw[A2]at a;rw[a,Zqb]at hp;cases hp⟩
theorem aw_f1:awV.st.free [15955446209180732947] [16895835702100498982]:=⟨by decide,by intro x a;rw[A2]at a;rw[a];exact Zqv,by intro x a p hp;rw[A2]at a;rw[a,ZkQ,A2]at hp;rw[hp];decide⟩
theorem aw_g0:awV.st.free [] [15955446209180732947]->Zaz 0 (awV.st.pss ([]++risU [15955446209180732947]) (risU [15955446209180732947])) (λ _=>0)/\Gens [] (awV.st.pss ([]++risU [15955446209180732947]) (risU [15955446209180732947])) [1]:=by
 intro _
 have e:awV.st.pss ([]++risU [15955446209180732947]) (risU [15955446209180732947])=[[]]:=by
  rw[ZcP];unfold St.pss;rw[ES,Zqb]
  rfl
 rw[e];refine⟨⟨by simp,by simp,λ i ps h q hq=>?_⟩,rfl,λ i ps h=>?_⟩
 ·match i,h with
  | 0,h=>cases h;simp at hq
  | i+1,h=>simp at h
 ·match i,h with
  | 0,h=>cases h;rfl
  | i+1,h=>simp at h
theorem aw_g1:awV.st.free [15955446209180732947] [16895835702100498982]->Zaz 1 (awV.st.pss ([15955446209180732947]++risU [16895835702100498982]) (risU [16895835702100498982])) (λ _=>0)/\Gens [1] (awV.st.pss ([15955446209180732947]++risU [16895835702100498982]) (risU [16895835702100498982])) [2]:=by
 intro _
 have e:awV.st.pss ([15955446209180732947]++risU [16895835702100498982]) (risU [16895835702100498982])=[[0]]:=by
  rw[ZcP];unfold St.pss;rw[ES,ZkQ]
  rfl
 rw[e];refine⟨⟨by simp,by simp,λ i ps h q hq=>?_⟩,rfl,λ i ps h=>?_⟩
 ·match i,h with
  | 0,h =>
   cases h;rw[A2]at hq;omega
  | i+1,h=>simp at h
 ·match i,h with
  | 0,h=>cases h;rfl
  | i+1,h=>simp at h
theorem aw_g2:awV.st.free [] [16895835702100498982]->Zaz 0 (awV.st.pss ([]++risU [16895835702100498982]) (risU [16895835702100498982])) (λ _=>0)/\Gens [] (awV.st.pss ([]++risU [16895835702100498982]) (risU [16895835702100498982])) []:=by
 intro h;have:=h.shut _ (A2.2 rfl) 15955446209180732947 (by rw[ZkQ];decide);exact absurd this (by decide)
theorem aw_t0(h:awV.st.told [] [1] [15955446209180732947] r a):r=0/\∃x,a=[x]/\x.id=15955446209180732947/\x.gen=1:=by
 obtain⟨b,c⟩:=h.uniq (.rows aw_f0);refine⟨b,awV.st.row ([]++risU [15955446209180732947]) 15955446209180732947 1,?_,rfl,rfl⟩;rw[c,ZcP]
 rfl
theorem Zqa(st:St)(Q:List UInt64)(x:UInt64)(g:Int):(st.row Q x g).ps=pps Q (st.com x).ps:=rfl
theorem aw_t1(h:awV.st.told [15955446209180732947] [2] [16895835702100498982] r a):r=0/\∃x,a=[x]/\x.gen=2/\x.ps=[0]:=by
 obtain⟨b,c⟩:=h.uniq (.rows aw_f1);refine⟨b,awV.st.row ([15955446209180732947]++risU [16895835702100498982]) 16895835702100498982 2,?_,rfl,?_⟩
 ·rw[c,ZcP];unfold St.rows;rw[List.zipWith_cons_cons,List.zipWith_nil_left]
 ·rw[Zqa,ZkQ,ZcP]
  rfl
theorem aw_t2{b:List Rw}(h:awV.st.told [] [] [16895835702100498982] r b):r=14:=by
 refine(h.uniq (.open_ (by decide) (λ x a=>?_) (λ q=>?_))).1
 ·rw[A2]at a;rw[a];exact Zqv
 ·have:=q _ (A2.2 rfl) 15955446209180732947 (by rw[ZkQ];decide);exact absurd this (by decide)
theorem ZkB(w:Ap):At Am 21 #[Aa none 0 0] w λ e w'=>e=Aj (.tuple #[Ab Ak 0,Aa none 0 0,Ab Ak 9])/\w'=w:=by
 go_enter func21,ntmps21;go_wp2_with fail;go_ret3;exact⟨rfl,rfl⟩
end Go.Proofs.YtlojblelpaegpaaGreat
