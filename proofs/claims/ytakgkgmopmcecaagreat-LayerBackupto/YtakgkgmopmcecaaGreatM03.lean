import Derived.Test.YtakgkgmopmcecaaGreatM02
set_option maxHeartbeats 6400000
set_option maxRecDepth 100000
open Go renaming Value->Ar,World->Ap,Calls->At,maxLen->AH,bodyPost_ret->As,results_tmp2->AD
open Go.Instr renaming lookup->CM,mapUpdate->DM
open List renaming take_add_one->AW,mem_of_getElem?->A8,take_of_length_le->Av,length_append->Ax,length_drop->AO,length_take->AE
open Go.RowKit renaming Below->An
open Go.RowKit.Below renaming refl->Ao
open Nat renaming lt_of_lt_of_le->AK,le_refl->AA,le_succ->E9,le_trans->AU,zero_le->Bw
open UInt64 renaming toNat_inj->BG,ofNat->AL
open Go.Value renaming string->Ae,slice->Aa,int->Ab,bool->Ad,tuple->Af,agg->Ag,pointer->Ah
open Go.Obj renaming cells->Ai
open Go.Ending renaming returned->Aj
open Go.IntKind renaming i64->Ak,u64->Al
open Go.Proofs.Tryz renaming prog->Am
open Go.Proofs.Tryz
namespace Go.Proofs.YtakgkgmopmcecaaGreat
open Go.RowKit
variable {L c i k m n pc pn:Nat}{S S':Nat->Prop}{W h w w' w1:Ap}{a ao pa:Option Addr}{body bs:Bs}{cm:Cm}{d':Dk}{es:List En}{l:List (Nm UInt64)}{r:Rs}{v:Ar}{xss:List Bs}{α:Type}
theorem S9(k:Int)(w:Ap)(h:D4 w v xss)(a:xss.length<=1000000)(x:UInt64)(c:jC k xss.flatten=x):
  At Am 160 #[Ab Ak k,v] w λ e w'=>e=Aj (Ab Al (x.toNat:Int))/\w'=w:=by
 refine(TC k v _ w (h.parts a)).mono ?_;rintro e w' ⟨rfl,b⟩;exact⟨by rw[Yn,Su,c],b⟩
theorem KP(k:Int)(w:Ap)(h:iE w v bs)(x:UInt64)(b:jC k bs=x):
  At Am 156 #[Ab Ak k,v] w λ e w'=>e=Aj (Ab Al (x.toNat:Int))/\w'=w:=by
 refine(NG k v _ w h.bytes).mono ?_;rintro e w' ⟨rfl,a⟩;exact⟨by rw[Su,b],a⟩
section
variable {w:World}{s b:Nat}{M:Nat->Nat}{r t:Nat}{F:Nat->UInt64->Option Value}{st:St}{S:Nat->Prop}
theorem CI.look(h:CI w s b M r t F st S)(c:k<4)(i:UInt64):
  ∃v,(CM 179 (.map (some (M k))) (Ab Al (i.toNat:Int)) true).run Am w=.ok (Af #[v,Ad (st.has (k:Int) i)]) w/\(∀bs,iq st.objs (k:Int) i=some bs->iE w v bs/\Jq S v)/\(iq st.objs (k:Int) i=none->v=Aa none 0 0):=by
 obtain⟨n,_,m⟩:=h.objs k c;have a:=m.look underlying179 (nL w) i trivial;have a:=a;unfold St.has
 cases e:iq st.objs (k:Int) i with
 | none =>
  have f:=h.gone k c i e;rw[f]at a;exact⟨_,a,λ bs q=>(by cases q),λ _=>rfl⟩
 | some bs =>
  obtain⟨v,g,j,l⟩:=h.there k c i bs e;rw[g]at a;exact⟨v,a,λ d q=>(by cases q;exact⟨j,l⟩),λ q=>(by cases q)⟩
theorem ox(h:CI w s b M r t F st S)(j:k<4)(i:UInt64)(g:Bool)(c:st.has (k:Int) i=g):
  At Am 167 #[Ah (some ⟨s,0,none⟩),Ab Ak (k:Int),Ab Al (i.toNat:Int)] w λ e w'=>e=Aj (Ad g)/\w'=w:=by
 obtain⟨v,d,_⟩:=h.look j i;rw[c]at d;obtain⟨l,m,n,o,p,q,u⟩:=h.cell;clear h c
 obtain⟨x,f⟩:∃x:Int,(i.toNat:Int)=x:=⟨_,rfl⟩
 rw[f]at d ⊢;clear f
 have a:k=0∨k=1∨k=2∨k=3:=by omega
 rcases a with rfl|rfl|rfl|rfl
 all_goals
  go_enter func167,ntmps167;go_wp2;go_ret;exact⟨rfl,rfl⟩
theorem Ll(h:A1 w s b st S)(c:k<4)(i:UInt64)(g:Bool)(a:st.has (k:Int) i=g):
  At Am 167 #[Ah (some ⟨s,0,none⟩),Ab Ak (k:Int),Ab Al (i.toNat:Int)] w λ e w'=>e=Aj (Ad g)/\w'=w:=by
 obtain⟨M,r,t,F,h⟩:=h;exact ox h c i g a
end
theorem Mh{es:List α}{p:α->Bool}{e:α}(h:es[i]? = some e)(a:(es.take i).all p=true)(b:p e=true):(es.take (i+1)).all p=true:=by
 rw[AW,h,List.all_append,a];simp[b]
theorem K9{es:List α}{p:α->Bool}{e:α}(h:es[i]? = some e)(a:p e=false):es.all p=false:=by
 rw[List.all_eq_false];exact⟨e,A8 h,by simp[a]⟩
section
variable {w:World}{s b:Nat}{st:St}{S:Nat->Prop}
theorem XJ(h:A1 w s b st S)(A:gQ gZ w ao es)(y:es.length=n)(F:n<=4000000000000000000)(g:Bool)(p:st.blobs es=g):
  At Am 102 #[Ah (some ⟨s,0,none⟩),Aa ao n c] w λ e w'=>e=Aj (Ad g)/\Iz w w':=by
 have H:=I4 h A y p
 clear h A y p;go_enter func102,ntmps102;go_wp2_with fail;go_loopg[9] n (λ m E wr=>∃i:Nat,E=Ab Ak i/\i+m=n/\Hid ((es.take i).all (λ e=>st.has 1 e.2)=true/\Iz w wr))
 case atStart=>exact⟨0,rfl,by omega,rfl,Ao _ _⟩
 case round =>
  obtain⟨i,rfl,hi,j⟩:=hrel;by_cases t:i<n
  have id:(i:Int)<(n:Int):=by omega
  obtain⟨e,r⟩:=BK H.o.2.2.1 t;obtain⟨b1,off,rfl,D⟩:=H.o.2.1.some_of r;obtain⟨_,C,x⟩:=(H.o.2.1.below j.o.2).ents r;obtain⟨d,z⟩:=e;simp only at C x;have v:=Ih r;clear r
  have l:=λ(q:Bool) (hq:st.has 1 z=q)=>Ll ((H.o.1.below j.o.2).below (gW wr (Ai #[tx d,Ab Al (z.toNat:Int)] 125))) (k:=1) (by omega) z q hq
  obtain⟨G,B⟩:=Xa ((z.toNat:Int));rw[B]at x l;clear B
  cases hp:st.has 1 z with
  | true =>
   have l:=l true hp;go_wp2_with fail;refine l.mono ?_;rintro e u ⟨rfl,f⟩;rw[f];clear f u;go_wp2;go_roundg (gk - 1)
   case measure=>omega
   case rel=>exact⟨i+1,by go_num,by omega,Mh v.o j.o.1 hp,j.o.2.trans ((gW wr _).mono j.o.2.size)⟩
  | false =>
   have l:=l false hp
   have p:g=false:=by rw[<- H.o.2.2.2];exact K9 v.o hp
   subst p;go_wp2_with fail;refine l.mono ?_;rintro e u ⟨rfl,f⟩;rw[f];clear f u;go_wp2;go_ret;exact⟨rfl,j.o.2.trans ((gW wr _).mono j.o.2.size)⟩
  obtain rfl:i=n:=by omega
  have a:=j.o.1;rw[Av (by rw[H.o.2.2.1];omega)]at a
  have p:g=true:=by rw[<- H.o.2.2.2];exact a
  subst p;clear a;go_wp2;go_ret;exact⟨rfl,j.o.2⟩
theorem Us(h:A1 w s b st S)(B:gQ gR w pa cm.ps)(A:cm.ps.length=pn)(I:pn<=4000000000000000000)(dt:Int)(nt:ByteArray)(g:Bool)(f:st.above cm=g):
  At Am 106 #[Ah (some ⟨s,0,none⟩),Ag #[Ab Al (cm.tree.toNat:Int),Aa pa pn pc,Ab Ak dt,Ae nt]] w λ e w'=>e=Aj (Ad g)/\Iz w w':=by
 have j:=λ(W:Ap) (t:Iz w W) (q:Bool) (hq:st.has 2 cm.tree=q)=>Ll (h.below t) (k:=2) (by omega) cm.tree q hq
 obtain⟨D,n⟩:=Xa ((cm.tree.toNat:Int))
 rw[n]at j ⊢;clear n
 obtain⟨W,t⟩:=Xa (w.alloc (Ai #[Ab Al D,Aa pa pn pc,Ab Ak dt,Ae nt] 104))
 have l:Iz w W:=by rw[<- t];exact gW _ _
 have bx:ib W w.heap.size 104 (Ab Al D) (Aa pa pn pc) (Ab Ak dt) (Ae nt):=by rw[<- t];exact ib.new _ _ _ _ _ _
 obtain⟨J,K,L,M⟩:=bx.cells;have j:=j W l
 have H:=I5 (h.below l) (B.below l) A f l
 clear h B A f l bx;go_enter func106,ntmps106;go_wp2_with fail;go_loopg[10] pn (λ m G wr=>∃i:Nat,G=Ab Ak i/\i+m=pn/\wr=W/\Hid ((cm.ps.take i).all (λ p=>st.has 3 p)=true))
 case atStart=>exact⟨0,rfl,by omega,rfl,rfl⟩
 case round =>
  obtain⟨i,rfl,hi,rfl,z⟩:=hrel;by_cases v:i<pn
  have id:(i:Int)<(pn:Int):=by omega
  obtain⟨x,u⟩:=BK H.o.2.2.1 v;obtain⟨b1,off,rfl,F⟩:=H.o.2.1.some_of u;obtain⟨_,E⟩:=H.o.2.1.nums u;have y:=Ih u;clear u
  have d:=λ(q:Bool) (hq:st.has 3 x=q)=>Ll H.o.1 (k:=3) (by omega) x q hq
  obtain⟨N,C⟩:=Xa ((x.toNat:Int));rw[C]at E d;clear C
  cases hp:st.has 3 x with
  | true =>
   have d:=d true hp;go_wp2_with fail;refine d.mono ?_;rintro e r ⟨rfl,a⟩;rw[a];clear a r;go_wp2;go_roundg (gk - 1)
   case measure=>omega
   case rel=>exact⟨i+1,by go_num,by omega,rfl,Mh y.o z.o hp⟩
  | false =>
   have d:=d false hp
   have f:g=false:=by rw[<- H.o.2.2.2.1];unfold St.above;rw[K9 y.o hp];rfl
   subst f;go_wp2_with fail;refine d.mono ?_;rintro e r ⟨rfl,a⟩;rw[a];clear a r;go_wp2;go_ret;exact⟨rfl,H.o.2.2.2.2⟩
  obtain rfl:i=pn:=by omega
  have c:=z.o;rw[Av (by rw[H.o.2.2.1];omega)]at c
  have f:st.has 2 cm.tree=g:=by
   rw[<- H.o.2.2.2.1];unfold St.above;rw[c]
   rfl
  have j:=j g f;clear c f;go_wp2_with fail;refine j.mono ?_;rintro e r ⟨rfl,a⟩;rw[a];clear a r;go_wp2;go_ret;exact⟨rfl,H.o.2.2.2.2⟩
end
theorem N3{o:Obj}(h:An (W.drew.alloc o).heap.size (W.drew.alloc o) w1):Iz W w1:=DU ((gW W.drew o).trans (h.mono (gW W.drew o).size))
theorem fG(k:Int)(w:Ap)(h:D4 w v xss)(a:xss.length<=1000000)(x:UInt64)(b:jC k xss.flatten=x):
  At Am 160 #[Ab Ak k,v] w λ e w'=>e=Aj (Ab Al (x.toNat:Int))/\Iz w w':=by
 refine(S9 k w h a x b).mono ?_;rintro e w' ⟨rfl,rfl⟩;exact⟨rfl,Ao _ _⟩
theorem Nq(h:w.grownBy w' (some m)):Aw (λ i=>i=m) w w':=(Aw.refl _ _).grown h (λ k _ e=>by cases e;rfl)
theorem II{d:Ap}(b:Iz W w1)(f:Aw (λ x=>x=m) w1 d){p:Addr}(hp:p.block<W.heap.size)(a:p.block≠m)(e:W.cell? p=some v):w1.cell? p=some v/\d.cell? p=some v:=by
 have c:w1.cell? p=some v:=(b.cell hp).trans e;exact⟨c,(f.cell (AK hp b.size) a).trans c⟩
section
variable {w:World}{s b:Nat}{M:Nat->Nat}{r t:Nat}{F:Nat->UInt64->Option Value}{st:St}{S:Nat->Prop}
theorem CI.update(h:CI w s b M r t F st S)(g:Iz w w1)(j:k<4)(i:UInt64)(m:st.objs.length<=1000000)(v:Ar):
  ∃a n,(DM 179 (.map (some (M k))) (Ab Al (i.toNat:Int)) v).run Am w1=.ok () a/\jb kU a (M k) (kM (F k) i v) n/\n<=st.objs.length+1/\Aw (λ x=>x=M k) w1 a:=by
 obtain⟨n,l,c⟩:=(h.below g).objs k j;obtain⟨a,d,e,f⟩:=c.put underlying179 i trivial (by simp only[AH];omega) v;refine⟨a,_,d,e,?_,Nq f⟩
 split <;> omega
theorem Zt(h:CI w s b M r t F st S)(J:∀i,S i->S' i)(K:∀i,S' i->i<w.heap.size)(aa:1<=k)(N:k<4)(z:Int)(A:(k:Int)=z)(hv:iE w (Aa a n c) body)(L:Jq S' (Aa a n c))(i:UInt64)(hi:jC z body=i)(R:iq st.objs z i=none)(hn:st.objs.length<=1000000):
  At Am 148 #[Ah (some ⟨s,0,none⟩),Ag #[Ab Ak z,Aa a n c]] w λ e w'=>e=Aj (Af #[])/\A1 w' s b { st with objs:=st.objs++[⟨z,i,body⟩] } S'/\Aw S w w':=by
 obtain⟨W,hW⟩:=Xa (w.alloc (Ai #[Ab Ak z,Aa a n c] 213))
 have U:Iz w W:=by rw[<- hW];exact gW _ _
 have bx:jo W w.heap.size 213 (Ab Ak z) (Aa a n c):=by rw[<- hW];exact jo.new _ _ _ _
 have V:=(h.mono J K).below U;have C:=h.own.2.2.2 k N;obtain⟨Z,x1⟩:=bx.cells;obtain⟨c0,c1,c2,c3,c4,c5,c6⟩:=V.cell
 have H:=I8 V (hv.below U) L hi R hn U bx
 have I:∀w1 g m,Iz W w1->jb kU g (M k) (kM (F k) i (Aa a n c)) m->m<=st.objs.length+1->Aw (λ x=>x=M k) w1 g->A1 g s b { st with objs:=st.objs++[⟨z,i,body⟩] } S'/\Aw S w g:=by
  intro w1 g m Y q2 q3 q4;have:=(H.o.1.below Y).add N (by rw[A];exact H.o.2.2.2.2.1) (H.o.2.1.below Y) H.o.2.2.1 q2 q3 q4;rw[A]at this;refine⟨⟨M,r,t,_,this⟩,?_⟩;refine(Aw.ofBelow (S:=S) (H.o.2.2.2.2.2.2.1.trans (Y.mono H.o.2.2.2.2.2.2.1.size))).trans q4 (λ j _ e=>?_);have e:=e;rw[e];exact C
 have up:=λ w1 hb=>CI.update (w1:=w1) H.o.1 hb N i H.o.2.2.2.2.2.1 (Aa a n c)
 have ne:=H.o.1.map_ne.2.2 k N
 obtain⟨x,hx⟩:∃x:Int,(i.toNat:Int)=x:=⟨_,rfl⟩
 have E:=λ u (v:Ar) (hu:D4 u v [body])=>fG z u hu (by simp) i (by simpa using hi)
 rw[hx]at E up;have O:=V.lt_s;have P:=bx.lt
 have Q:w.heap.size≠M k:=λ e=>by
  have:=h.lt _ (h.own.2.2.2 k N);omega
 have f:Hid ((∀w1 g m,Iz W w1->jb kU g (M k) (kM (F k) i (Aa a n c)) m->m<=st.objs.length+1->Aw (λ x=>x=M k) w1 g->A1 g s b { st with objs:=st.objs++[⟨z,i,body⟩] } S'/\Aw S w g)
  /\ (∀w1,Iz W w1->∃g T,(DM 179 (.map (some (M k))) (Ab Al x) (Aa a n c)).run Am w1=.ok () g/\jb kU g (M k) (kM (F k) i (Aa a n c)) T/\T<=st.objs.length+1/\Aw (λ x=>x=M k) w1 g)
  /\ (∀u v,D4 u v [body]->At Am 160 #[Ab Ak z,v] u λ e w'=>e=Aj (Ab Al x)/\Iz u w')/\iE W (Aa a n c) body/\s<W.heap.size/\w.heap.size<W.heap.size/\s≠M k/\w.heap.size≠M k):=⟨I,up,E,H.o.2.1,O,P,ne.symm,Q⟩
 clear h hv L hi R hn U bx V I up E hx H O P Q ne C J K
 have X:k=1∨k=2∨k=3:=by omega
 rcases X with rfl|rfl|rfl
 ·obtain rfl:z=1:=by rw[<- A];rfl
  go_enter func148,ntmps148;go_wp2_with fail
  go_region_held3 (λ u=>u.cell? ⟨w.heap.size,0,none⟩=some (Ab Ak 1)/\u.cell? ⟨w.heap.size,1,none⟩=some (Aa a n c)/\u.cell? ⟨s,2,none⟩=some (.map (some (M 1))))
   (go_keep)
   (first|(go_at_call 160;refine(f.o.2.2.1 _ _ (IT (f.o.2.2.2.1.below (jq W 1)) 24)).mono ?_;rintro e w1 ⟨rfl,B⟩;have l:=N3 B;obtain⟨g,m2,D,q,y,d⟩:=f.o.2.1 w1 l;obtain⟨k0,l0⟩:=II l d (p:=⟨w.heap.size,0,none⟩) f.o.2.2.2.2.2.1 f.o.2.2.2.2.2.2.2 Z;obtain⟨k1,l1⟩:=II l d (p:=⟨w.heap.size,1,none⟩) f.o.2.2.2.2.2.1 f.o.2.2.2.2.2.2.2 x1;obtain⟨k2,l2⟩:=II l d (p:=⟨s,2,none⟩) f.o.2.2.2.2.1 f.o.2.2.2.2.2.2.1 c2;have G:=Ih (f.o.1 w1 g m2 l q y d);clear B l q y d))
  go_end0;exact⟨rfl,G.o⟩
 ·obtain rfl:z=2:=by rw[<- A];rfl
  go_enter func148,ntmps148;go_wp2_with fail
  go_region_held3 (λ u=>u.cell? ⟨w.heap.size,0,none⟩=some (Ab Ak 2)/\u.cell? ⟨w.heap.size,1,none⟩=some (Aa a n c)/\u.cell? ⟨s,3,none⟩=some (.map (some (M 2))))
   (go_keep)
   (first|(go_at_call 160;refine(f.o.2.2.1 _ _ (IT (f.o.2.2.2.1.below (jq W 1)) 24)).mono ?_;rintro e w1 ⟨rfl,B⟩;have l:=N3 B;obtain⟨g,m2,D,q,y,d⟩:=f.o.2.1 w1 l;obtain⟨k0,l0⟩:=II l d (p:=⟨w.heap.size,0,none⟩) f.o.2.2.2.2.2.1 f.o.2.2.2.2.2.2.2 Z;obtain⟨k1,l1⟩:=II l d (p:=⟨w.heap.size,1,none⟩) f.o.2.2.2.2.2.1 f.o.2.2.2.2.2.2.2 x1;obtain⟨k2,l2⟩:=II l d (p:=⟨s,3,none⟩) f.o.2.2.2.2.1 f.o.2.2.2.2.2.2.1 c3;have G:=Ih (f.o.1 w1 g m2 l q y d);clear B l q y d))
  go_end0;exact⟨rfl,G.o⟩
 ·obtain rfl:z=3:=by rw[<- A];rfl
  go_enter func148,ntmps148;go_wp2_with fail
  go_region_held3 (λ u=>u.cell? ⟨w.heap.size,0,none⟩=some (Ab Ak 3)/\u.cell? ⟨w.heap.size,1,none⟩=some (Aa a n c)/\u.cell? ⟨s,4,none⟩=some (.map (some (M 3))))
   (go_keep)
   (first|(go_at_call 160;refine(f.o.2.2.1 _ _ (IT (f.o.2.2.2.1.below (jq W 1)) 24)).mono ?_;rintro e w1 ⟨rfl,B⟩;have l:=N3 B;obtain⟨g,m2,D,q,y,d⟩:=f.o.2.1 w1 l;obtain⟨k0,l0⟩:=II l d (p:=⟨w.heap.size,0,none⟩) f.o.2.2.2.2.2.1 f.o.2.2.2.2.2.2.2 Z;obtain⟨k1,l1⟩:=II l d (p:=⟨w.heap.size,1,none⟩) f.o.2.2.2.2.2.1 f.o.2.2.2.2.2.2.2 x1;obtain⟨k2,l2⟩:=II l d (p:=⟨s,4,none⟩) f.o.2.2.2.2.1 f.o.2.2.2.2.2.2.1 c4;have G:=Ih (f.o.1 w1 g m2 l q y d);clear B l q y d))
  go_end0;exact⟨rfl,G.o⟩
theorem Xy(h:A1 w s b st S)(d:∀i,S i->S' i)(f:∀i,S' i->i<w.heap.size)(k:Int)(o:k=1∨k=2∨k=3)(m:iE w (Aa a n c) body)(g:Jq S' (Aa a n c))(j:iq st.objs k (jC k body)=none)(l:st.objs.length<=1000000):
  At Am 148 #[Ah (some ⟨s,0,none⟩),Ag #[Ab Ak k,Aa a n c]] w λ e w'=>e=Aj (Af #[])/\A1 w' s b (st.take (k,body)) S'/\Aw S w w':=by
 obtain⟨M,r,t,F,h⟩:=h
 have e:st.take (k,body)={ st with objs:=st.objs++[⟨k,jC k body,body⟩] }:=by
  unfold St.take;rw[Ay (by show ¬k=4;omega),Ay (by show ¬k=5;omega)]
 rw[e];exact Zt h d f (k:=k.toNat) (by omega) (by omega) k (by omega) m g _ rfl j l
end
end Go.Proofs.YtakgkgmopmcecaaGreat
namespace Go.Proofs.YtakgkgmopmcecaaGreat
variable {L c i k m n pc pn:Nat}{S S':Nat->Prop}{W h w w' w1:Ap}{a ao pa:Option Addr}{body bs:Bs}{cm:Cm}{d':Dk}{es:List En}{l:List (Nm UInt64)}{r:Rs}{v:Ar}{xss:List Bs}{α:Type}
variable {d:Dk}
theorem Ya(d:Dk):(ij d).1.after<=d.after:=by
 unfold ij
 split
 exact AA _
 ·split
  exact AA _
  ·show(if d.armed then d.after - 1 else d.after)<=d.after
   split <;> omega
theorem ew(d:Dk):(ij d).1.writes<=d.writes+1:=by
 unfold ij
 split
 exact E9 _
 split
 exact E9 _
 exact AA _
theorem Dk.ok.next(h:d.ok):(ij d).1.ok:=by
 have e:=Ot d;exact⟨by rw[e];exact h.rise,by rw[e];exact h.few,by rw[e];exact h.each,Nat.lt_of_le_of_lt (Ya d) h.after⟩
theorem Dk.ok.with(h:d.ok)(b:d'.ok){n:Bs}(g:gS n=true)(c:bs.length<=262144)(a:ip d.files n≠none∨d.files.length<32):({ d' with files:=ig d.files n bs }:Dk).ok:=by
 refine⟨Qj n bs h.rise,?_,?_,b.after⟩
 show(ig d.files n bs).length<=32;rw[NX n bs h.rise];have:=h.few
 cases e:ip d.files n with
 | none =>
  have:d.files.length<32:=a.elim (λ q=>absurd e q) id;simp;omega
 | some _=>simpa using this
 intro f a
 rcases MP _ _ _ _ a with rfl|q
 exact⟨g,c⟩
 exact h.each f q
theorem Yl(h:d.ok){n own b:Bs}:(mz d n own b).1.ok:=by
 unfold mz
 split
 exact h
 ·rename_i g
  have c:gS n=true:=by simpa using g
  split
  exact h
  ·rename_i f
   have e:own.length+b.length<=262144:=by omega
   have a:ip d.files n≠none∨d.files.length<32:=by
    by_cases q:ip d.files n=none;exact .inr (by have:¬32<=d.files.length:=λ r=>f (.inr ⟨q,r⟩);omega);exact .inl q
   split
   exact h.with h.next c (by simp;omega) a
   split
   exact h.with h.next c (by simp;omega) a
   exact h.next
theorem OD(h:d.ok)(n v:Bs):(kf d n v).1.ok:=Yl h
theorem PV(d:Dk)(n own a:Bs):(mz d n own a).1.writes<=d.writes+1:=by
 unfold mz
 repeat' split
 all_goals first | exact ew d | exact E9 _
end Go.Proofs.YtakgkgmopmcecaaGreat
namespace Go.Proofs.YtakgkgmopmcecaaGreat
open Go.RowKit
variable {L c i k m n pc pn:Nat}{S S':Nat->Prop}{W h w w' w1:Ap}{a ao pa:Option Addr}{body bs:Bs}{cm:Cm}{d':Dk}{es:List En}{l:List (Nm UInt64)}{r:Rs}{v:Ar}{xss:List Bs}{α:Type}
def mC(a:Option Addr)(n:Nat):Nat->Prop:=λ i=>0<n/\∃p,a=some p/\p.block=i
theorem iE.blk(h:iE w (Aa a n c) bs):∀i,mC a n i->i<w.heap.size:=by
 rintro i ⟨f,p,hp,rfl⟩;obtain⟨ao,c',e,k,l,j⟩:=h;cases e;obtain⟨g,off,d,b,_⟩:=j f;rw[hp]at d;cases d;exact b
def Jw(U:Nat->Prop)(w w':Ap)(a:Option Addr)(n:Nat):Nat->Prop:=λ i=>B9 U w w' i∨mC a n i
section
variable {w:World}{s b:Nat}{st:St}{d:Dk}{U:Nat->Prop}{a:Option Addr}{n c:Nat}{body:Bs}
theorem SC{k l:Ap}{T:Nat->Prop}{j:St}(p:∀i,S i->i<w.heap.size)(f:∀i,S i->¬T i)(e:∀i,S i∨T i->U i)(m:∀i,U i->i<w.heap.size)(h:∀i,mC a n i->¬U i)(g:∀i,mC a n i->i<w.heap.size)
  (d:Iz w w1) (hd:D7 k b d' (B9 T w1 k)) (o:Aw T w1 k) (t:A1 l s b j (λ i=>S i∨mC a n i)) (c:Aw S k l):jK l s b j d' (Jw U w l a n)/\Aw U w l:=by
 have t2:Aw U w k:=(Aw.ofBelow d).trans o (λ i _ q=>e i (.inr q));refine⟨⟨_,_,t,hd.stays c ?_,?_,?_,?_⟩,t2.trans c (λ i _ q=>e i (.inl q))⟩
 intro i hi q
 rcases hi with r|r
 exact f i q r
 have:=p i q;have:=d.size;omega
 intro i hi q
 rcases hi with r|r
 rcases q with q|q
 exact f i r q
 have:=p i r;have:=d.size;omega
 rcases q with q|q
 exact h i r (e i (.inr q))
 have:=g i r;have:=d.size;omega
 intro i hi
 rcases hi with(r|r) | (r|r)
 exact .inl (.inl (e i (.inl r)))
 exact .inr r
 exact .inl (.inl (e i (.inr r)))
 exact .inl (.inr ⟨by have:=d.size;omega,AK r.2 c.size⟩)
 intro i hi;have sz:=AU t2.size c.size
 rcases hi with(r|r) | r
 exact AK (m i r) sz
 exact r.2
 exact AK (g i r) sz
theorem QD(hD:jK w s b st d U)(hv:iE w (Aa a n c) body)(x:∀i,mC a n i->¬U i)(hl:body.length=n)(hn:n<=8192)(k:Int)(ab:0<=k)(hk:k<=255)(Z:d.ok)(hw:d.writes<=1000000)
  (j:∀f S,(∀i,S i->U i)->A1 f s b st S->iE f (Aa a n c) body->(∀i,S i∨mC a n i->i<f.heap.size) ->
   At Am 148 #[Ah (some ⟨s,0,none⟩),Ag #[Ab Ak k,Aa a n c]] f λ e w'=>e=Aj (Af #[])/\A1 w' s b (st.take (k,body)) (λ i=>S i∨mC a n i)/\Aw S f w') :
  At Am 108 #[Ah (some ⟨s,0,none⟩),Ag #[Ab Ak k,Aa a n c]] w λ e w'=>∃r,e=Aj (Ab Ak r)/\Hid (r=(iB st d (k,body)).2.2/\jK w' s b (iB st d (k,body)).1 (iB st d (k,body)).2.1 (Jw U w w' a n)/\Aw U w w'):=by
 obtain⟨S,T,hS,hT,X,hU,R⟩:=hD
 obtain⟨W,hW⟩:=Xa (w.alloc (Ai #[Ab Ak k,Aa a n c] 213))
 have v:Iz w W:=by rw[<- hW];exact gW _ _
 have bx:jo W w.heap.size 213 (Ab Ak k) (Aa a n c):=by rw[<- hW];exact jo.new _ _ _ _
 obtain⟨x0,x1⟩:=bx.cells;have A:=du (k:=k) (hv.below v) hl
 have N:(jB (k,body)).2=0:=by
  unfold jB;rw[Ay (by show ¬(k<0∨255<k);omega),Ay (by show ¬8192<body.length;omega)]
 have g:(jB (k,body)).1.length<=100000:=by
  unfold jB;rw[Ay (by show ¬(k<0∨255<k);omega),Ay (by show ¬8192<body.length;omega)];show(lw k body).length<=_;rw[RM];omega
 obtain⟨C,m⟩:=Xa ((jB (k,body)).1)
 obtain⟨d',z⟩:=Xa ((kf d jI C).1)
 obtain⟨cd,y⟩:=Xa ((kf d jI C).2)
 have O:iB st d (k,body)=(if cd=0 then st.take (k,body)else st,d',cd):=by
  unfold iB;rw[m,z,y]
 rw[N,m]at A;rw[m]at g;rw[O];obtain⟨M,r,t,F,V⟩:=hS;have P:∀i,S i->i<w.heap.size:=V.lt;have Y:=hv.blk
 have H:Hid (A1 W s b st S/\D7 W b d T/\iE W (Aa a n c) body/\Iz w W/\jo W w.heap.size 213 (Ab Ak k) (Aa a n c)):=⟨⟨M,r,t,F,V.below v⟩,hT.below v,hv.below v,v,bx⟩
 have G:Hid ((∀i,S i->i<w.heap.size)/\(∀i,S i->¬T i)/\(∀i,S i∨T i->U i)/\(∀i,U i->i<w.heap.size)/\(∀i,mC a n i->¬U i)/\(∀i,mC a n i->i<w.heap.size)):=⟨P,X,hU,R,x,Y⟩
 have K:Hid (∀f S,(∀i,S i->U i)->A1 f s b st S->iE f (Aa a n c) body->(∀i,S i∨mC a n i->i<f.heap.size)->At Am 148 #[Ah (some ⟨s,0,none⟩),Ag #[Ab Ak k,Aa a n c]] f λ e w'=>e=Aj (Af #[])/\A1 w' s b (st.take (k,body)) (λ i=>S i∨mC a n i)/\Aw S f w'):=j
 have C0:Hid (W.cell? ⟨s,0,none⟩=some (Ah (some ⟨b,0,none⟩))/\s<W.heap.size):=⟨(V.below v).cell.1,(V.below v).lt_s⟩
 have Q:Hid (d.ok/\d.writes<=1000000/\C.length<=100000/\(kf d jI C).1=d'/\(kf d jI C).2=cd):=⟨Z,hw,g,z,y⟩
 clear hv x hl hn ab hk Z hw j hT X hU R v bx N g m z y O V P Y;go_enter func108,ntmps108;go_wp2_with fail;refine A.mono ?_;rintro e w1 ⟨v1,rfl,u⟩
 obtain⟨a1,l,B,ac⟩:∃a1 l B,v1=Aa a1 B l:=by
  obtain⟨a1,l,e,_⟩:=gM.form u.o.1;exact⟨a1,l,_,e⟩
 subst ac;have p0:w1.cell? ⟨s,0,none⟩=some (Ah (some ⟨b,0,none⟩)):=(u.o.2.cell C0.o.2).trans C0.o.1;have B1:Hid (Iz w w1):=H.o.2.2.2.1.trans (u.o.2.mono H.o.2.2.2.1.size);have h:=dy ((H.o.2.1.below u.o.2).below (gW w1 (Ai #[Aa a1 B l] 24))) Q.o.1 (by have:=Q.o.2.1;omega) jI (by decide) (IT (iW.at (gM.low u.o.1 (Bw _))) 24) (by simp) (by have:=Q.o.2.2.1;simp;omega)
 have L:[C].flatten=C:=by simp
 rw[L,Q.o.2.2.2.1,Q.o.2.2.2.2]at h;clear A;go_wp2_with fail;refine h.mono ?_;rintro e f ⟨r2,rfl,aa,D2,I⟩;have er:r2=cd:=aa.o;subst er;clear aa h L p0;have J:=gW w1 (Ai #[Aa a1 B l] 24);have D:Hid (Iz w (w1.alloc (Ai #[Aa a1 B l] 24))):=B1.o.trans (J.mono B1.o.size);have S2:Hid (A1 f s b st S):=((H.o.1.below u.o.2).below J).stays I G.o.2.1;have V2:Hid (iE f (Aa a n c) body):=((H.o.2.2.1.below u.o.2).below J).turned I (λ h0 p hp q=>G.o.2.2.2.2.1 _ ⟨h0,p,hp,rfl⟩ (G.o.2.2.1 _ (.inr q)))
 have DT:Hid (D7 f b d' (B9 T (w1.alloc (Ai #[Aa a1 B l] 24)) f)/\Aw T (w1.alloc (Ai #[Aa a1 B l] 24)) f):=⟨D2,I⟩
 have y0:f.cell? ⟨w.heap.size,0,none⟩=some (Ab Ak k)/\f.cell? ⟨w.heap.size,1,none⟩=some (Aa a n c):=((((H.o.2.2.2.2.below u.o.2).below J).turned I (λ q=>by have:=G.o.2.2.2.1 _ (G.o.2.2.1 _ (.inr q));omega))).cells;obtain⟨y0,y1⟩:=y0;clear D2 I J;by_cases hz:r2=0
 ·subst hz;have kc:=K.o f S (λ i hi=>G.o.2.2.1 i (.inl hi)) S2.o V2.o (λ i hi=>hi.elim (S2.o.lt i) (V2.o.blk i));go_wp2_with fail;refine kc.mono ?_;rintro e w3 ⟨rfl,S3,T3⟩;have E:Hid _:=SC G.o.1 G.o.2.1 G.o.2.2.1 G.o.2.2.2.1 G.o.2.2.2.2.1 G.o.2.2.2.2.2 D.o DT.o.1 DT.o.2 S3 T3;clear S3 T3 kc;go_wp2;go_ret;exact⟨0,rfl,rfl,E.o.1,E.o.2⟩
 ·have m0:(r2 != 0)=true:=by simpa using hz
  go_wp2;go_ret;have S3:A1 f s b st (λ i=>S i∨mC a n i):=S2.o.mono (λ i q=>.inl q) (λ i hi=>hi.elim (S2.o.lt i) (V2.o.blk i));have E:=SC G.o.1 G.o.2.1 G.o.2.2.1 G.o.2.2.2.1 G.o.2.2.2.2.1 G.o.2.2.2.2.2 D.o DT.o.1 DT.o.2 S3 (Aw.refl _ _);exact⟨_,rfl,rfl,E.1,E.2⟩
theorem Qs{u:Ar}{xs ys:Bs}(a:iE w u xs)(b:iE w v ys)(g:Bool)(c:(xs==ys)=g):
  At Am 80 #[u,v] w λ e w'=>e=Aj (Ad g)/\w'=w:=by
 have d:=Ga a;have f:=Ga b;clear a b;subst c;go_enter func80,ntmps80;go_wp2;go_ret;exact⟨by simp,rfl⟩
theorem jK.grown{w w':Ap}(e:jK w s b st d U)(f:∀i,mC a n i->i<w.heap.size)(c:Iz w w'):jK w' s b st d (Jw U w w' a n) :=
 (e.below c).mono (λ i hi=>.inl (.inl hi)) (λ i hi=>by
  rcases hi with(r|r) | r
  exact AK (e.lt i r) c.size;exact r.2
  exact AK (f i r) c.size)
theorem jK.regrown{w w1 w':Ap}{c:St}{d':Dk}(d:Iz w w1)(h:jK w' s b c d' (Jw U w1 w' a n))(f:w1.heap.size<=w'.heap.size)(e:∀i,U i∨mC a n i->i<w.heap.size):jK w' s b c d' (Jw U w w' a n) :=
 h.mono (λ i hi=>by
  rcases hi with(r|r) | r
  exact .inl (.inl r);exact .inl (.inr ⟨by have:=d.size;omega,r.2⟩)
  exact .inr r) (λ i hi=>by
  have:=d.size
  rcases hi with(r|r) | r
  have:=e i (.inl r);omega;exact r.2
  have:=e i (.inr r);omega)
theorem oC(P:jK w s b st d U)(hv:iE w (Aa a n c) body)(u:∀i,mC a n i->¬U i)(hl:body.length=n)(hn:n<=8192)(k:Nat)(ah:1<=k)(hk:k<4)(g:Int)(K:(k:Int)=g)(N:d.ok)(hw:d.writes<=1000000)(L:st.objs.length<=1000000):
  At Am 96 #[Ah (some ⟨s,0,none⟩),Ab Ak g,Aa a n c] w λ e w'=>∃i r,e=Aj (Af #[Ab Al i,Ab Ak r])/\Hid (i=((iy st d g body).2.1.toNat:Int)/\r=(iy st d g body).2.2/\jK w' s b (iy st d g body).1.1 (iy st d g body).1.2 (Jw U w w' a n)/\Aw U w w'):=by
 have ad:g=1∨g=2∨g=3:=by omega
 obtain⟨W,hW⟩:=Xa (w.alloc (Ai #[Aa a n c] 24))
 have I:Iz w W:=by rw[<- hW];exact gW _ _
 have D:=P.lt;have E:=hv.blk;obtain⟨S,T,hS,hT,J,hU,_⟩:=P;obtain⟨M,r,t,F,hX⟩:=hS
 have P:jK w s b st d U:=⟨S,T,⟨M,r,t,F,hX⟩,hT,J,hU,D⟩
 obtain⟨x,O⟩:=Xa (jC g body)
 have y:=S9 g W (by rw[<- hW];exact IT hv 24) (by simp) x (by simpa using O);obtain⟨v,C,h,l⟩:=(hX.below I).look hk x;rw[K]at C h l;obtain⟨c0,c1,c2,c3,c4,c5,c6⟩:=(hX.below I).cell
 have same:∀(z:UInt64) (e:Int),iy st d g body=((st,d),z,e)->jK W s b (iy st d g body).1.1 (iy st d g body).1.2 (Jw U w W a n)/\Aw U w W:=by
  intro z e q;rw[q];exact⟨P.grown E I,Aw.ofBelow I⟩
 have Y:=hv.below I
 have H:(x.toNat:Int)=0↔x=0:=by
  constructor
  intro q;exact BG.1 (by simpa using q);rintro rfl;rfl
 cases G:iq st.objs g x with
 | some Q =>
  have X:st.has g x=true:=by unfold St.has;rw[G];rfl
  rw[X]at C;have hO:=(h Q G).1;clear h l
  cases hq:(Q==body)with
  | true =>
   have eq:Q=body:=by simpa using hq
   have e:iy st d g body=((st,d),x,0):=by unfold iy;rw[O,G];simp[eq]
   have bq:=Qs hO Y true hq;have A:Hid _:=same x 0 e;rw[e]at A ⊢;obtain⟨xi,j⟩:=Xa ((x.toNat:Int));rw[j]at y C;have HX:=Ih j;clear hv u hl N hw L hT J hU hX P O hO Y same G X D E I hq eq e H j
   have B:k=1∨k=2∨k=3:=by omega
   rcases B with rfl|rfl|rfl
   all_goals
    subst K;go_enter func96,ntmps96;go_wp2_with fail;refine y.mono ?_;rintro e w1 ⟨rfl,f⟩;rw[f];clear f w1;go_wp2_with fail;refine bq.mono ?_;rintro e w1 ⟨rfl,f⟩;rw[f];clear f w1;go_wp2;refine As (AD rfl _ _ _) rfl ?_;exact⟨_,_,rfl,HX.o.symm,rfl,A.o⟩
  | false =>
   have eq:¬Q=body:=by simpa using hq
   have e:iy st d g body=((st,d),0,13):=by unfold iy;rw[O,G];simp[eq]
   have bq:=Qs hO Y false hq;have A:Hid _:=same 0 13 e;rw[e]at A ⊢;obtain⟨xi,j⟩:=Xa ((x.toNat:Int));rw[j]at y C;clear hv u hl N hw L hT J hU hX P O hO Y same G X D E I hq eq e H j
   have B:k=1∨k=2∨k=3:=by omega
   rcases B with rfl|rfl|rfl
   all_goals
    subst K;go_enter func96,ntmps96;go_wp2_with fail;refine y.mono ?_;rintro e w1 ⟨rfl,f⟩;rw[f];clear f w1;go_wp2_with fail;refine bq.mono ?_;rintro e w1 ⟨rfl,f⟩;rw[f];clear f w1;go_wp2;refine As (AD rfl _ _ _) rfl ?_;exact⟨_,_,rfl,rfl,rfl,A.o⟩
 | none =>
  have X:st.has g x=false:=by unfold St.has;rw[G];rfl
  rw[X]at C;have af:=l G;subst af;clear h l;by_cases R:x=0
  ·have e:iy st d g body=((st,d),0,13):=by unfold iy;rw[O,G];simp[R]
   have A:Hid _:=same 0 13 e;rw[e]at A ⊢;rw[H.2 R]at y C;clear hv u hl N hw L hT J hU hX P O Y same G X D E I e H R
   have B:k=1∨k=2∨k=3:=by omega
   rcases B with rfl|rfl|rfl
   all_goals
    subst K;go_enter func96,ntmps96;go_wp2_with fail;refine y.mono ?_;rintro e w1 ⟨rfl,f⟩;rw[f];clear f w1;go_wp2;refine As (AD rfl _ _ _) rfl ?_;exact⟨_,_,rfl,rfl,rfl,A.o⟩
  ·have e:iy st d g body=(((iB st d (g,body)).1,(iB st d (g,body)).2.1),if(iB st d (g,body)).2.2=0 then x else 0,(iB st d (g,body)).2.2):=by unfold iy;rw[O,G];simp[R]
   have ac:=QD (P.below I) Y u hl hn g (by omega) (by omega) N hw (λ w2 S ag aa ab ae =>
    Xy aa (λ i q=>.inl q) ae g ad ab (λ p m c2 e R=>by cases e;exact .inr ⟨R,p,rfl,rfl⟩) (by rw[O];exact G) L)
   obtain⟨Z,hZ⟩:=Xa (iy st d g body);have EZ:=Ih (hZ.symm.trans e);rw[hZ]
   have n0:¬(x.toNat:Int)=0:=λ q=>R (H.1 q)
   have V:=I2 I (λ i q=>q.elim (D i) (E i):∀i,U i∨mC a n i->i<w.heap.size);obtain⟨xi,j⟩:=Xa ((x.toNat:Int));rw[j]at y C n0
   have m1:(xi==0)=false:=by simpa using n0
   have HX:=Ih j;clear hv u hl hn N hw L hT J hU hX P O Y same G X D E I e H R j n0 hZ
   have B:k=1∨k=2∨k=3:=by omega
   rcases B with rfl|rfl|rfl
   all_goals
    subst K;go_enter func96,ntmps96;go_wp2_with fail;refine y.mono ?_;rintro e w1 ⟨rfl,f⟩;rw[f];clear f w1;go_wp2_with fail;refine ac.mono ?_;rintro e w2 ⟨r2,rfl,R2⟩;have A:Hid _:=And.intro R2.o.1 (And.intro (jK.regrown V.o.1 R2.o.2.1 R2.o.2.2.size V.o.2) ((Aw.ofBelow (S:=U) V.o.1).trans R2.o.2.2 (λ _ _ q=>q)));clear R2;by_cases hz:r2=0;subst hz;go_wp2;refine As (AD rfl _ _ _) rfl ?_;exact⟨_,_,rfl,by rw[EZ.o];exact⟨by rw[AC A.o.1.symm];exact HX.o.symm,A.o.1,A.o.2⟩⟩
    have m0:(r2 != 0)=true:=by simpa using hz
    go_wp2;refine As (AD rfl _ _ _) rfl ?_;exact⟨_,_,rfl,by rw[EZ.o];exact⟨by rw[Ay (λ q=>hz (A.o.1.trans q))];rfl,A.o.1,A.o.2⟩⟩
end
section
variable {w:World}{s b:Nat}{st:St}{d:Dk}{U:Nat->Prop}
theorem Mv(F:jK h s b st d U)(t:Iz h W)(x:gM gP 5 W h.heap.size v body)(J:body.length<=8192)(u:1<=k)(I:k<4)(j:Int)(w:(k:Int)=j)(z:d.ok)(K:d.writes<=1000000)(y:st.objs.length<=1000000):
  At Am 96 #[Ah (some ⟨s,0,none⟩),Ab Ak j,v] W λ e w'=>∃i r,e=Aj (Af #[Ab Al i,Ab Ak r])/\Hid (i=((iy st d j body).2.1.toNat:Int)/\r=(iy st d j body).2.2/\jK w' s b (iy st d j body).1.1 (iy st d j body).1.2 (B9 U h w')/\Aw U h w'):=by
 have a:=F.lt
 have f:∀p n c,v=Aa (some p) n c->0<n->h.heap.size<=p.block:=by
  intro p n c e l
  exact(x.lt p.block (by
   obtain⟨ao,c',A,B,C,D,E⟩:=gM.form x;rw[A]at e;cases e;obtain⟨g,H⟩:=E l;cases H;rw[A]
   rfl)).1
 obtain⟨ao,c,rfl,B,C,D,E⟩:=gM.form x
 have G:iE W (Aa ao body.length c) body:=⟨ao,c,rfl,B,C,D⟩
 have m:∀i,mC ao body.length i->¬U i:=by
  rintro i ⟨l,p,rfl,rfl⟩ q;have:=f p _ c rfl l;have:=a _ q;omega
 refine(oC (F.below t) G m rfl J k u I j w z K y).mono ?_;rintro e w' ⟨i,r,rfl,R⟩;refine⟨i,r,rfl,R.o.1,R.o.2.1,R.o.2.2.1.mono ?_ ?_,(Aw.ofBelow (S:=U) t).trans R.o.2.2.2 (λ _ _ q=>q)⟩
 intro i hi;have sz:=R.o.2.2.2.size
 rcases hi with(q|q) | q
 exact .inl q
 exact .inr ⟨by have:=t.size;omega,q.2⟩
 obtain⟨l,p,rfl,rfl⟩:=q;exact .inr ⟨f p _ c rfl l,AK (G.blk _ ⟨l,p,rfl,rfl⟩) sz⟩
 intro i hi
 rcases hi with q|q
 exact AK (a i q) (AU t.size R.o.2.2.2.size)
 exact q.2
theorem jK.since{a:Ap}(c:jK a s b st d U)(e:Iz a W):jK W s b st d (B9 U a W) :=
 (c.below e).mono (λ _ q=>.inl q) (λ i q=>q.elim (λ q=>AK (c.lt i q) e.size) (λ q=>q.2))
theorem Wr(Q:jK w s b st d U)(hp:D4 w v xss)(S:xss.length<=1000000)(a:∀x∈xss,x.length<=140737488355328)(m:d.ok)(p:d.writes<=1000000)(l:st.objs.length<=1000000):
  At Am 46 #[Ah (some ⟨s,0,none⟩),v] w λ e w'=>∃i r,e=Aj (Af #[Ab Al i,Ab Ak r])/\Hid (i=((jk st d xss.flatten).2.1.toNat:Int)/\r=(jk st d xss.flatten).2.2/\jK w' s b (jk st d xss.flatten).1.1 (jk st d xss.flatten).1.2 (B9 U w w')/\Aw U w w'):=by
 have P:=Ih hp;obtain⟨ao,c,rfl,D,O⟩:=hp
 obtain⟨N,C⟩:=Xa xss.length
 rw[C]at S D P ⊢
 obtain⟨Z,F⟩:=Xa (jk st d xss.flatten)
 rw[F];have A:=Ih D;have B:=Ih O
 have H:=I7 F C a Q m p l
 clear D O C a Q m p l F;go_enter func46,ntmps46;go_wp2_with fail;go_loopg[6,11] N (λ k sv iv wr=>wr=w/\∃i s:Nat,iv=Ab Ak i/\i+k=N/\sv=Ab Ak (s:Int)/\s<=4096/\Hid (s+(xss.take i).flatten.length=4096))
 case atStart=>exact⟨rfl,0,4096,rfl,by omega,rfl,by omega,rfl⟩
 case round =>
  obtain⟨p,i,s1,rfl,hi,rfl,hs,z⟩:=hrel;have J:=p.symm;subst J;clear p;by_cases I:i<N
  ·have id:(i:Int)<(N:Int):=by omega
   obtain⟨x,a⟩:=BK H.o.2.1 I;obtain⟨b1,o1,rfl,X⟩:=A.o (by omega);obtain⟨u,Y,a2,c2,rfl,_,_,_⟩:=B.o i x b1 o1 a rfl;have q:=LU xss (i+1);rw[IW a,Ax]at q;have K:=H.o.2.2.1 x (A8 a)
   obtain⟨g,f⟩:=Xa x.length
   rw[f]at K Y q
   have E:=I2 q (by rw[IW a,Ax,f]:(xss.take (i+1)).flatten.length=(xss.take i).flatten.length+g)
   clear q a f;by_cases R:s1<g
   ·have t:(s1:Int)<(g:Int):=by omega
    have y:Z=((st,d),0,4):=by
     rw[<- H.o.1];unfold jk;rw[AC (by have:=E.o.1;have:=z.o;omega)]
    subst y;go_wp2;refine As (AD rfl _ _ _) rfl ?_;exact⟨_,_,rfl,rfl,rfl,H.o.2.2.2.1.since (Ao _ _),Aw.refl _ _⟩
   ·have t:decide ((s1:Int)<(g:Int))=false:=by rw[Az];omega
    go_wp2;go_roundg (gk - 1)
    case measure=>omega
    case rel=>exact⟨rfl,i+1,s1 - g,by go_num,by omega,by go_num,by omega,by have:=E.o.2;have:=z.o;show s1 - g+_=_;omega⟩
  ·obtain rfl:i=N:=by omega
   have G:s1+xss.flatten.length=4096:=by
    have:=z.o;rw[Av (by rw[H.o.2.1];omega)]at this;exact this
   have y:Z=iy st d 1 xss.flatten:=by
    rw[<- H.o.1];unfold jk;rw[Ay (by omega)]
   have h:=Le w P.o (by rw[H.o.2.1];exact S) (by omega)
   have V:Hid (xss.flatten.length<=8192):=by show _<=_;omega
   have T:=Ih y;clear G y;go_wp2_with fail;refine h.mono ?_;rintro e w1 ⟨v1,rfl,M,L⟩;have n:=Mv H.o.2.2.2.1 L M V.o (k:=1) (by omega) (by omega) 1 rfl H.o.2.2.2.2.1 H.o.2.2.2.2.2.1 H.o.2.2.2.2.2.2;rw[<- T.o]at n;clear h M L;go_wp2_with fail;refine n.mono ?_;rintro e w2 ⟨i2,r2,rfl,W⟩;go_wp2;refine As (AD rfl _ _ _) rfl ?_;exact⟨_,_,rfl,W.o⟩
theorem Yk(z:jK w s b st d U)(F:gQ gZ w ao es)(E:es.length=n)(hn:n<=4000000000000000000)(M:kV es)(K:n<=c)(v:d.ok)(N:d.writes<=1000000)(u:st.objs.length<=1000000):
  At Am 51 #[Ah (some ⟨s,0,none⟩),Aa ao n c] w λ e w'=>∃i r,e=Aj (Af #[Ab Al i,Ab Ak r])/\Hid (i=((ja st d es).2.1.toNat:Int)/\r=(ja st d es).2.2/\jK w' s b (ja st d es).1.1 (ja st d es).1.2 (B9 U w w')/\Aw U w w'):=by
 obtain⟨Z,B⟩:=Xa (ja st d es)
 rw[B]
 obtain⟨fe,a⟩:=Xa ((iC es).2)
 obtain⟨fb,f⟩:=Xa ((iC es).1)
 have h:=YE w F E M K;rw[a,f]at h;by_cases I:fe=0
 subst I
 have m:iM es=0:=by
  unfold iC at a
  split at a
  assumption
  exact a
 have p:fb.length<=8192:=by
  rw[<- f];unfold iC;rw[AC m];show(gX es).length<=_;have aa:=(It m).1
  have:∀l:List En,(∀e∈l,e.1.length<=102)->(gX l).length<=111*l.length:=by
   intro l
   induction l with
   | nil=>intro _;simp[gX]
   | cons x t ih =>
    intro V;have:=ih (λ e L=>V e (List.mem_cons_of_mem _ L));have e1:=V x List.mem_cons_self
    have e2:(gX (x::t)).length=(lB x).length+(gX t).length:=by simp[gX]
    rw[e2,Lz,List.length_cons];omega
  have h2:=this es (λ e L=>Ks (List.all_eq_true.1 (It m).2.1 e L));omega
 obtain⟨g,R⟩:=Xa (st.blobs es)
 obtain⟨S,T,J,O,C,P,A⟩:=z
 have z:jK w s b st d U:=⟨S,T,J,O,C,P,A⟩
 have H:Hid (A1 w s b st S/\gQ gZ w ao es/\es.length=n/\jK w s b st d U/\d.ok/\d.writes<=1000000/\st.objs.length<=1000000/\fb.length<=8192/\st.blobs es=g/\ja st d es=Z/\(iC es).2=0/\(iC es).1=fb):=⟨J,F,E,z,v,N,u,p,R,B,a,f⟩
 clear F E M K v N u p R B a f J O C P A z m;go_enter func51,ntmps51;go_wp2_with fail;refine h.mono ?_;rintro e w1 ⟨W,rfl,j⟩;have Q:=XJ (c:=c) (H.o.1.below j.o.2) (H.o.2.1.below j.o.2) H.o.2.2.1 hn g H.o.2.2.2.2.2.2.2.2.1;clear h;go_wp2_with fail;refine Q.mono ?_;rintro e X ⟨rfl,G⟩;have q:=Ih (j.o.2.trans (G.mono j.o.2.size));have Y:=Ih (j.o.1.below G);clear Q G j
 cases g with
 | false =>
  have y:Z=((st,d),0,5):=by
   rw[<- H.o.2.2.2.2.2.2.2.2.2.1];unfold ja;rw[Ay (by rw[H.o.2.2.2.2.2.2.2.2.2.2.1];simp),AC H.o.2.2.2.2.2.2.2.2.1]
  subst y;go_wp2;refine As (AD rfl _ _ _) rfl ?_;exact⟨_,_,rfl,rfl,rfl,H.o.2.2.2.1.since q.o,Aw.ofBelow q.o⟩
 | true =>
  have y:Z=iy st d 2 fb:=by
   rw[<- H.o.2.2.2.2.2.2.2.2.2.1];unfold ja;rw[Ay (by rw[H.o.2.2.2.2.2.2.2.2.2.2.1];simp),Ay (by rw[H.o.2.2.2.2.2.2.2.2.1];simp),H.o.2.2.2.2.2.2.2.2.2.2.2]
  have D:=Mv H.o.2.2.2.1 q.o Y.o H.o.2.2.2.2.2.2.2.1 (k:=2) (by omega) (by omega) 2 rfl H.o.2.2.2.2.1 H.o.2.2.2.2.2.1 H.o.2.2.2.2.2.2.1;rw[<- y]at D;clear y;go_wp2_with fail;refine D.mono ?_;rintro e w3 ⟨i2,r2,rfl,R2⟩;go_wp2;refine As (AD rfl _ _ _) rfl ?_;exact⟨_,_,rfl,R2.o⟩
 have y:Z=((st,d),0,fe):=by
  rw[<- B];unfold ja;rw[AC (by rw[a];exact I),a]
 have m0:(fe != 0)=true:=by simpa using I
 have H:=Ih z;subst y;clear F E M K v N u B a f z;go_enter func51,ntmps51;go_wp2_with fail;refine h.mono ?_;rintro e w1 ⟨W,rfl,j⟩;clear h;go_wp2;refine As (AD rfl _ _ _) rfl ?_;exact⟨_,_,rfl,rfl,rfl,H.o.since j.o.2,Aw.ofBelow j.o.2⟩
theorem VN(D:jK w s b st d U)(N:gQ gR w pa cm.ps)(M:cm.ps.length=pn)(hn:pn<=4000000000000000000)(A:pn<=pc)(nt:ByteArray)(x:nt=⟨cm.note.toArray⟩)(dt:Int)(v:cm.date=dt)(z:d.ok)(R:d.writes<=1000000)(y:st.objs.length<=1000000):
  At Am 55 #[Ah (some ⟨s,0,none⟩),Ag #[Ab Al (cm.tree.toNat:Int),Aa pa pn pc,Ab Ak dt,Ae nt]] w λ e w'=>∃i r,e=Aj (Af #[Ab Al i,Ab Ak r])/\Hid (i=((jV st d cm).2.1.toNat:Int)/\r=(jV st d cm).2.2/\jK w' s b (jV st d cm).1.1 (jV st d cm).1.2 (B9 U w w')/\Aw U w w'):=by
 obtain⟨Z,G⟩:=Xa (jV st d cm)
 rw[G]
 obtain⟨fe,a⟩:=Xa ((je cm).2)
 obtain⟨fb,m⟩:=Xa ((je cm).1)
 have h:=λ(W:Ap) (j:Iz w W)=>Ug (c:=cm) (N.below j) M A nt x dt v
 have f:=λ(W:Ap) (S:Nat->Prop) (E:A1 W s b st S) (j:Iz w W) (g:Bool) (K:st.above cm=g)=>Us (pc:=pc) (cm:=cm) E (N.below j) M hn dt nt g K
 obtain⟨O,B⟩:=Xa ((cm.tree.toNat:Int))
 rw[B]at h f ⊢
 obtain⟨W,hW⟩:=Xa (w.alloc (Ai #[Ab Al O,Aa pa pn pc,Ab Ak dt,Ae nt] 104))
 have j:Iz w W:=by rw[<- hW];exact gW _ _
 have bx:ib W w.heap.size 104 (Ab Al O) (Aa pa pn pc) (Ab Ak dt) (Ae nt):=by rw[<- hW];exact ib.new _ _ _ _ _ _
 obtain⟨x0,x1,x2,x3⟩:=bx.cells;have l:=h W j;rw[a,m]at l;by_cases Q:fe=0
 subst Q
 have n:jm cm=0:=by
  unfold je at a
  split at a
  assumption
  exact a
 have q:fb.length<=8192:=by
  rw[<- m];unfold je;rw[AC n];show(kl cm).length<=_;have h1:=(JA n).2.1;have h2:=GV n;omega
 obtain⟨g,K⟩:=Xa (st.above cm)
 obtain⟨S,T,E,X,I,Y,F⟩:=D
 have D:jK w s b st d U:=⟨S,T,E,X,I,Y,F⟩
 have J:=λ u (b2:Iz W u)=>f u S (E.below (j.trans (b2.mono j.size))) (j.trans (b2.mono j.size)) g K
 have HB:=Ih J
 have H:Hid (Iz w W/\ib W w.heap.size 104 (Ab Al O) (Aa pa pn pc) (Ab Ak dt) (Ae nt)/\jK w s b st d U/\d.ok/\d.writes<=1000000/\st.objs.length<=1000000/\fb.length<=8192/\st.above cm=g/\jV st d cm=Z/\(je cm).2=0/\(je cm).1=fb):=⟨j,bx,D,z,R,y,q,K,G,a,m⟩
 clear N M A x v z R y q K G a m E X I Y F D n J f h B j bx;go_enter func55,ntmps55;go_wp2_with fail;refine l.mono ?_;rintro e w1 ⟨v1,rfl,p⟩;have hb:=HB.o w1 p.o.2;obtain⟨y0,y1,y2,y3⟩:=(H.o.2.1.below p.o.2 H.o.2.1.lt).cells;clear l;go_wp2_with fail;refine hb.mono ?_;rintro e w2 ⟨rfl,P⟩;have t:=Ih (H.o.1.trans ((p.o.2.trans (P.mono p.o.2.size)).mono H.o.1.size));have O2:Hid (gM gP 5 w2 w.heap.size v1 fb):=(p.o.1.low H.o.1.size).below P;clear hb P p y0 y1 y2 y3
 cases g with
 | false =>
  have C:Z=((st,d),0,5):=by
   rw[<- H.o.2.2.2.2.2.2.2.2.1];unfold jV;rw[Ay (by rw[H.o.2.2.2.2.2.2.2.2.2.1];simp),AC H.o.2.2.2.2.2.2.2.1]
  subst C;go_wp2;refine As (AD rfl _ _ _) rfl ?_;exact⟨_,_,rfl,rfl,rfl,H.o.2.2.1.since t.o,Aw.ofBelow t.o⟩
 | true =>
  have C:Z=iy st d 3 fb:=by
   rw[<- H.o.2.2.2.2.2.2.2.2.1];unfold jV;rw[Ay (by rw[H.o.2.2.2.2.2.2.2.2.2.1];simp),Ay (by rw[H.o.2.2.2.2.2.2.2.1];simp),H.o.2.2.2.2.2.2.2.2.2.2]
  have L:=Mv H.o.2.2.1 t.o O2.o H.o.2.2.2.2.2.2.1 (k:=3) (by omega) (by omega) 3 rfl H.o.2.2.2.1 H.o.2.2.2.2.1 H.o.2.2.2.2.2.1;rw[<- C]at L;clear C;go_wp2_with fail;refine L.mono ?_;rintro e w3 ⟨i2,r2,rfl,R2⟩;go_wp2;refine As (AD rfl _ _ _) rfl ?_;exact⟨_,_,rfl,R2.o⟩
 have C:Z=((st,d),0,fe):=by
  rw[<- G];unfold jV;rw[AC (by rw[a];exact Q),a]
 have m0:(fe != 0)=true:=by simpa using Q
 have H:=I2 D j
 subst C;clear N M A z R y G a m D f h B j bx x v;go_enter func55,ntmps55;go_wp2_with fail;refine l.mono ?_;rintro e w1 ⟨v1,rfl,p⟩;clear l;go_wp2;refine As (AD rfl _ _ _) rfl ?_;have V:=H.o.2.trans (p.o.2.mono H.o.2.size);exact⟨_,_,rfl,rfl,rfl,H.o.1.since V,Aw.ofBelow V⟩
end
theorem PZ(h:iE w (Aa a L c) bs)(r:bs.length=L)(D:8<=L):
  At Am 196 #[Aa a L c] w λ e w'=>e=Aj (Af #[tx (iL bs),Ab Al ((jf bs).toNat:Int)])/\w'=w:=by
 obtain⟨j,s,l⟩:L<=c/\c<=9223372036854775807/\gQ gP w a bs:=by
  obtain⟨ao,c',e,j,s,l⟩:=h;cases e;exact⟨j,s,l⟩
 clear h;obtain⟨a1,S,s1,U,_,G⟩:=Kq (ao:=a) (k:=8) j D;obtain⟨a2,C,s2,P,Q,I⟩:=Kl (ao:=a) (k:=8) j D;have M:((8:Nat):Int)=8:=rfl;rw[M]at s1 s2;have t:=Ga (w:=w) (v:=Aa a2 (L - 8) C) (bs:=bs.drop 8) ⟨a2,C,by rw[AO,r],by rw[AO,r];exact P,by omega,I w bs r l⟩;have F:(jf bs).toNat=val (bs.take 8):=Jn (by rw[AE];omega)
 have H:=I2 (G w bs l) (by rw[AE];omega:(bs.take 8).length=8)
 rw[F];unfold iL
 obtain⟨tl,q⟩:∃tl,tx (bs.drop 8)=Ae tl:=⟨_,rfl⟩
 rw[q]at t ⊢
 obtain⟨hd,p⟩:=Xa (bs.take 8)
 rw[p]at H ⊢;clear j s l G I F p q r;go_enter func196,ntmps196;go_wp2_with fail;go_loopg[4,10] 8 (λ m R O wr=>wr=w/\∃(i v:Nat),O=Ab Ak i/\i+m=8/\R=Ab Al (v:Int)/\Hid (val (hd.take i)=v))
 case atStart=>exact⟨rfl,0,0,rfl,by omega,rfl,rfl⟩
 case round =>
  obtain⟨z,i,v,rfl,hi,rfl,B⟩:=hrel;subst z;by_cases u:i<8
  have id:(i:Int)<8:=by omega
  obtain⟨b,off,rfl,N,E⟩:=H.o.1 (by rw[H.o.2];omega)
  have g:i<hd.length:=by rw[H.o.2];exact u
  obtain⟨y,A⟩:=Xa (hd[i])
  have T:wr.cell? ⟨b,off+i,none⟩=some (Ab .u8 (y.toNat:Int)):=by
   have:=E i y (by rw[List.getElem?_eq_getElem g,A]) 0 _ rfl;rw[show i*gP.size+0=i from(by show i*1+0=i;omega)]at this;exact this
  have d:=Lq hd i g;have f:=IP (hd.take i);rw[B.o]at d f;rw[A]at d
  have x:v<72057594037927936:=by
   have:(hd.take i).length<=7:=by rw[AE];omega
   have:=Nat.pow_le_pow_right (n:=256) (by decide) this
   have e:256 ^ 7=72057594037927936:=by decide
   omega
  have mO:=Nj y x;have K:=Ih d;clear d f g E A;go_wp2;go_roundg (gk - 1)
  case measure=>omega
  case rel=>exact⟨rfl,i+1,v*256+y.toNat,by go_num,by omega,by go_num,K.o⟩
  obtain rfl:i=8:=by omega
  have e:hd.take 8=hd:=Av (by rw[H.o.2];omega)
  have J:Hid (val hd=v):=by rw[<- e];exact B.o
  clear e;go_wp2;refine As (AD rfl _ _ _) rfl ?_;exact⟨by rw[J.o];rfl,rfl⟩
theorem TX{wr a:Ap}{nm:Bs}{v5:Ar}(l:jo W w.heap.size 213 (Ab Ak 0) (Aa none 0 0))(g:An (w.heap.size+1) W wr)(k:gM gP 5 a (w.heap.size+1) v5 (low (8 - 0) (n / 256 ^ 0)++nm))(f:An (w.heap.size+1) wr a):
  ∃a5 d h,v5=Aa a5 h d/\Hid (h=8+nm.length)/\Hid (gM gP 5 a (w.heap.size+1) v5 (low 8 n++nm)/\An (w.heap.size+1) W a)/\a.cell? ⟨w.heap.size,0,none⟩=some (Ab Ak 0)/\a.cell? ⟨w.heap.size,1,none⟩=some (Aa none 0 0)/\a.frozen? ⟨w.heap.size,0,none⟩=false/\a.frozen? ⟨w.heap.size,1,none⟩=false/\w.heap.size<a.heap.size:=by
 have b:gM gP 5 a (w.heap.size+1) v5 (low 8 n++nm):=by simpa using k
 have c:jo a w.heap.size 213 (Ab Ak 0) (Aa none 0 0):=((g.trans f).block _ (by omega)).trans l;obtain⟨a5,d,e,p,_⟩:=gM.form b;obtain⟨m,o⟩:=c.cells;obtain⟨i,j⟩:=c.thaw;exact⟨a5,d,_,e,(by show _=_;rw[Ax,Bp]),⟨b,g.trans f⟩,m,o,i,j,c.lt⟩
theorem NB(k:Int)(nm:Bs)(t:nm.length<=1000000)(i:UInt64)(w:Ap):
  At Am 109 #[Ab Ak k,tx nm,Ab Al (i.toNat:Int)] w λ e w'=>∃a c,e=Aj (Ag #[Ab Ak k,Aa a (8+nm.length) c])/\Hid (iE w' (Aa a (8+nm.length) c) (ji i nm)/\(∀j,mC a (8+nm.length) j->w.heap.size<=j)/\Iz w w'):=by
 obtain⟨n,C⟩:=Xa i.toNat
 have L:ji i nm=low 8 n++nm:=by unfold ji b8;rw[C]
 rw[C,L]
 obtain⟨W,A⟩:=Xa (w.alloc (Ai #[Ab Ak 0,Aa none 0 0] 213))
 have K:Iz w W:=by rw[<- A];exact gW _ _
 have bx:jo W w.heap.size 213 (Ab Ak 0) (Aa none 0 0):=by rw[<- A];exact jo.new _ _ _ _
 have N:W.heap.size=w.heap.size+1:=by rw[<- A];simp
 obtain⟨s,f⟩:∃s:ByteArray,s=⟨nm.toArray⟩:=⟨_,rfl⟩
 rw[show tx nm=Ae s by rw[f]]
 have H:=I5 K bx f t N
 clear K bx f t L C N;go_enter func109,ntmps109;go_wp2_with fail;go_loopg[7,8] 8 (λ m Q Y wr=>Y=Ab Ak (8*(m:Int) - 8)/\m<=8/\Hid (gM gP 5 wr (w.heap.size+1) Q (low (8 - m) (n / 256 ^ m))/\An (w.heap.size+1) W wr))
 case atStart=>exact⟨rfl,AA _,by simpa[low]using gM.nil gP 5 W (w.heap.size+1),Ao _ _⟩
 case round =>
  obtain⟨rfl,hm,d⟩:=hrel
  cases gk with
  | zero =>
   have r:(low (8 - 0) (n / 256 ^ 0)).length<=8:=by rw[Bp];omega
   go_wp2_with(at_builtin;refine ow rfl (.tmp 21) (.tmp 22) rfl (w.heap.size+1) _ _ nm rfl d.o.1 (by show Ae s=_;rw[H.o.2.2.1]) (by have:=H.o.2.2.2.1;omega) (by have:=d.o.2.size;have:=H.o.2.2.2.2;omega) ?_;intro v5 x u l E;obtain⟨a5,z,M,F,J,b,x0,x1,f0,f1,Z⟩:=TX H.o.2.1 d.o.2 u l;subst F;clear u l E r);refine As (v:=Ag #[Ab Ak k,Aa a5 M z]) ?_ rfl ⟨a5,z,by rw[J.o],?_⟩;simp[results,Tryz.f109];go_simp;have O:Aw (λ j=>j=w.heap.size) x ((x.setCell ⟨w.heap.size,0,none⟩ (Ab Ak k)).setCell ⟨w.heap.size,1,none⟩ (Aa a5 M z)):=((Aw.refl (λ j=>j=w.heap.size) x).setCell (p:=⟨w.heap.size,0,none⟩) (.inl rfl) _).setCell (p:=⟨w.heap.size,1,none⟩) (.inl rfl) _;have I:=b.o.1.stays O (λ g U q=>by have:=(b.o.1.lt g U).1;omega);have bel:Iz w x:=H.o.1.trans (b.o.2.mono (by omega));refine⟨?_,?_,bel.trans (O.below bel.size (λ j hj q=>by omega))⟩;have:=iW.at (gM.low I (Bw _));rw[<- J.o];exact this
   rintro j ⟨h0,p,rfl,rfl⟩;obtain⟨a6,c6,h,_,_,_,q4⟩:=gM.form I;simp only[Value.slice.injEq]at h;obtain⟨g,S⟩:=q4 (by rw[Ax,Bp];omega);rw[S]at h;obtain⟨h,-,-⟩:=h;cases h;have:=(I.lt g rfl).1;show w.heap.size<=g;omega
  | succ gk =>
   obtain⟨y,G⟩:∃y:UInt8,UInt8.ofNat (n / 256 ^ gk)=y:=⟨_,rfl⟩
   have T:(n:Int) / 2 ^ (8*(gk+1) - 8) % 256=(y.toNat:Int):=by
    have R:((2:Int) ^ (8*gk))=((256 ^ gk:Nat):Int):=by
     rw[show(256:Nat) ^ gk=2 ^ (8*gk) by rw[Nat.pow_mul]];exact(Int.natCast_pow 2 (8*gk)).symm
    rw[<- G,UInt8.toNat_ofNat',show 8*(gk+1) - 8=8*gk by omega,R,<- Int.natCast_ediv];omega
   have f:low (8 - gk) (n / 256 ^ gk)=low (8 - (gk+1)) (n / 256 ^ (gk+1))++[y]:=by
    rw[show 8 - gk=(8 - (gk+1))+1 by omega,low,G,Nat.div_div_eq_div_mul,<- Nat.pow_succ]
   have P:Hid _:=f
   have r:(low (8 - (gk+1)) (n / 256 ^ (gk+1))).length<=8:=by
    rw[Bp];omega
   clear f G;go_wp2_with(at_builtin;refine BA gP 5 24 1 (Ab .u8 0) rfl Tryz.info5 underlying24 rfl (.tmp 13) (.tmp 18) rfl (w.heap.size+1) _ _ y _ rfl d.o.1 rfl (by omega) (by simp only[AH];omega) (by have:=d.o.2.size;have:=H.o.2.2.2.2;omega) _ (by first | rfl | (rw[T];rfl)) ?_;intro v4 w4 D B V X);go_wp2;go_roundg gk
   case measure=>omega
   case rel=>exact⟨by go_num,by omega,by rw[P.o];exact D,d.o.2.trans B⟩
theorem fh(l:List (Nm UInt64))(n:Bs)(i:UInt64):kM (jU l) n (oi i)=jU (jp l n i):=by
 funext m
 unfold kM jU;rw[Om];by_cases e:m=n
 rw[AC e,AC e.symm];rfl
 rw[Ay e,Ay (λ q=>e q.symm)]
theorem eV(l:List (Nm UInt64))(n:Bs)(v:Ar):mY (kM (jU l) n v) n=jU (kh l n):=by
 funext m
 unfold mY kM jU;rw[J0];by_cases e:m=n
 rw[AC e,AC e.symm];rfl
 rw[Ay e,Ay e,Ay (λ q=>e q.symm)]
theorem PQ(l:List (Nm UInt64))(n:Bs):(jU l n).isSome=(iu l n).isSome:=by
 unfold jU
 cases iu l n <;> rfl
theorem oY(w:Ap):(zeroValue 63).run Am w=.ok (Ab Al 0) w:=by
 obtain⟨i0,a,b,_,_⟩:=info_parts Tryz.info63;simp[zeroValue,typeInfo,a,b]
theorem X5{α:Type}[DecidableEq α]{K:nv α}{ops:Array Oper}{rest:List Oper}{o:Oper}{a:Act}{Q:Exit->Act->Ap->Prop}(g:o.guard=none)(k x:Operand)(t j e:TypeId)(r:Am.underlying t=some (.map K.ty e))
  (i:o.op=.call { callee:=.builtin .delete,args:=#[k,x],argTypes:=#[t,j] }) (m c:Nat) (f:α->Option Ar) (p:a.eval k=.map (some m)) (h:jb K w m f c) (n:α) (q:K.fit n) (s:a.eval x=K.val n) (hi:(f n).isSome=true)
  (l:∀w',jb K w' m (mY f n) (c - 1)->w.grownBy w' (some m)->wpList Am ops Q rest (a.put o.dst (Af #[])) w'):wpList Am ops Q (o::rest) a w:=by
 refine wpList_plain g λ y d=>?_
 obtain⟨w',b,u,v⟩:=h.del r n q hi j o.type;unfold Oper.wp;simp[execOp,i,resolve,invoke,builtin,p,s,b,Result.andThen];exact d _ _ (l w' u v)
section
variable {w w':World}{s b:Nat}{M:Nat->Nat}{r t:Nat}{F:Nat->UInt64->Option Value}{st:St}{S:Nat->Prop}
theorem CI.refs'(h:CI w s b M r t F st S)(m:jb kS w' r (jU l) l.length)(c:Aw (λ i=>i=r) w w'):CI w' s b M r t F { st with refs:=l } S:=by
 obtain⟨es,cl,a⟩:=h.refs.block;refine⟨(c.block s h.lt_s (λ e=>h.map_ne.1 e.symm)).trans h.cells,?_,m,h.tags.turned c (λ q=>h.apart.2 q.symm),h.gone,?_,h.inj,h.apart,h.own,λ i hi=>AK (h.lt i hi) c.size⟩
 intro k d;obtain⟨n,f,g⟩:=h.objs k d;exact⟨n,f,g.turned c (λ q=>(h.apart.1 k d).1 q)⟩
 intro k d i bs o;obtain⟨v,f,g,j⟩:=h.there k d i bs o;exact⟨v,f,Lp g a c,j⟩
theorem CI.tags'(h:CI w s b M r t F st S)(m:jb kS w' t (jU l) l.length)(c:Aw (λ i=>i=t) w w'):CI w' s b M r t F { st with tags:=l } S:=by
 obtain⟨es,cl,a⟩:=h.tags.block;refine⟨(c.block s h.lt_s (λ e=>h.map_ne.2.1 e.symm)).trans h.cells,?_,h.refs.turned c (λ q=>h.apart.2 q),m,h.gone,?_,h.inj,h.apart,h.own,λ i hi=>AK (h.lt i hi) c.size⟩
 intro k d;obtain⟨n,f,g⟩:=h.objs k d;exact⟨n,f,g.turned c (λ q=>(h.apart.1 k d).2 q)⟩
 intro k d i bs o;obtain⟨v,f,g,j⟩:=h.there k d i bs o;exact⟨v,f,Lp g a c,j⟩
theorem Rf(h:jb kS w m (jU l) l.length)(e:GL l)(f:l.length<=1000000)(n:Bs)(g:n.length<=1000000)(i:UInt64):
  ∃a,(DM 178 (.map (some m)) (Ae ⟨n.toArray⟩) (Ab Al (i.toNat:Int))).run Am w=.ok () a/\jb kS a m (jU (jp l n i)) (jp l n i).length/\Aw (λ x=>x=m) w a/\jb kS a m (kM (jU l) n (oi i)) (jp l n i).length:=by
 obtain⟨a,c,b,d⟩:=h.put underlying178 n (by show n.length<=AH;simp only[AH];omega) (by simp only[AH];omega) (oi i);rw[PQ,<- Lk n i e]at b;exact⟨a,c,by rw[<- fh];exact b,Nq d,b⟩
theorem Rr(h:jb kS w m (jU l) l.length)(n:Bs)(a:n.length<=140737488355328):
  (CM 178 (.map (some m)) (Ae ⟨n.toArray⟩) true).run Am w=.ok (Af #[Ab Al (((iu l n).getD 0).toNat:Int),Ad (iu l n).isSome]) w:=by
 have:=h.look underlying178 (oY w) n (by show n.length<=AH;simp only[AH];omega);rw[PQ]at this
 have e:(jU l n).getD (Ab Al 0)=Ab Al (((iu l n).getD 0).toNat:Int):=by
  unfold jU
  cases iu l n <;> rfl
 rw[e]at this;exact this
theorem VU(h:A1 w s b st S)(A:GL st.tags)(z:st.tags.length<=1000000)(B:iE w (Aa a L c) bs)(x:bs.length=L)(C:8<=L)(N:L<=100000):
  At Am 148 #[Ah (some ⟨s,0,none⟩),Ag #[Ab Ak 5,Aa a L c]] w λ e w'=>e=Aj (Af #[])/\A1 w' s b (st.take (5,bs)) S/\Aw S w w':=by
 obtain⟨M,r,t,F,h⟩:=h
 obtain⟨W,y⟩:=Xa (w.alloc (Ai #[Ab Ak 5,Aa a L c] 213))
 have p:Iz w W:=by rw[<- y];exact gW _ _
 have bx:jo W w.heap.size 213 (Ab Ak 5) (Aa a L c):=by rw[<- y];exact jo.new _ _ _ _
 obtain⟨O,P⟩:=bx.cells;have q:=h.below p;obtain⟨D,E,G,H,I,J,K⟩:=q.cell;have l:=PZ (B.below p) x C;obtain⟨u,m,k,f,_⟩:=Rf q.tags A z (iL bs) (by unfold iL;rw[AO];omega) (jf bs)
 have g:A1 u s b (st.take (5,bs)) S/\Aw S w u:=by
  refine⟨⟨M,r,t,F,?_⟩,(Aw.ofBelow (S:=S) p).trans f (λ j _ e=>by have e:=e;rw[e];exact h.own.2.2.1)⟩;have:=q.tags' k f;unfold St.take;rw[Ay (by show ¬(5:Int)=4;omega),AC rfl];exact this
 have v:=Ih g
 obtain⟨nm,d⟩:∃nm:ByteArray,(⟨(iL bs).toArray⟩:ByteArray)=nm:=⟨_,rfl⟩
 obtain⟨i,hi⟩:∃i:Int,((jf bs).toNat:Int)=i:=⟨_,rfl⟩
 rw[d,hi]at m;rw[show tx (iL bs)=Ae nm by rw[<- d],hi]at l;clear h q B x A z p bx g k f d hi;go_enter func148,ntmps148;go_wp2_with fail;refine l.mono ?_;rintro e w1 ⟨rfl,n⟩;rw[n];clear n w1;go_wp2;go_end0;exact⟨rfl,v.o⟩
theorem eZ(h:A1 w s b st S)(E:GL st.refs)(J:st.refs.length<=1000000)(N:iE w (Aa a L c) bs)(I:bs.length=L)(U:8<=L)(hb:L<=100000)(H:jf bs=0->(iu st.refs (iL bs)).isSome=true):
  At Am 148 #[Ah (some ⟨s,0,none⟩),Ag #[Ab Ak 4,Aa a L c]] w λ e w'=>e=Aj (Af #[])/\A1 w' s b (st.take (4,bs)) S/\Aw S w w':=by
 obtain⟨M,r,t,F,h⟩:=h
 obtain⟨W,O⟩:=Xa (w.alloc (Ai #[Ab Ak 4,Aa a L c] 213))
 have B:Iz w W:=by rw[<- O];exact gW _ _
 have bx:jo W w.heap.size 213 (Ab Ak 4) (Aa a L c):=by rw[<- O];exact jo.new _ _ _ _
 obtain⟨x0,x1⟩:=bx.cells;have v:=h.below B;obtain⟨X,Y,Z,c3,c4,T,c6⟩:=v.cell;have m:=PZ (N.below B) I U
 have l:(iL bs).length<=1000000:=by unfold iL;rw[AO];omega
 obtain⟨y,x,A,g,f⟩:=Rf v.refs E J (iL bs) l (jf bs);have own:=h.own.2.1;have ts:Aw S w y:=(Aw.ofBelow (S:=S) B).trans g (λ j _ e=>by have e:j=r:=e;rw[e];exact own);have e5:y.cell? ⟨s,5,none⟩=some (.map (some r)):=(g.cell (p:=⟨s,5,none⟩) v.lt_s (λ e=>v.map_ne.1 e.symm)).trans T;by_cases u:jf bs=0
 ·have hi:((jf bs).toNat:Int)=0:=by rw[u];rfl
  have z:Hid (∀n,jb kS n r (mY (kM (jU st.refs) (iL bs) (oi (jf bs))) (iL bs)) ((jp st.refs (iL bs) (jf bs)).length - 1)->y.grownBy n (some r)->A1 n s b (st.take (4,bs)) S/\Aw S w n):=by
   intro n P V;have t3:=Nq V;refine⟨⟨M,r,t,F,?_⟩,ts.trans t3 (λ j _ e=>by have e:=e;rw[e];exact own)⟩
   have len:(jp st.refs (iL bs) (jf bs)).length - 1=(kh st.refs (iL bs)).length:=by
    rw[Lk _ _ E,AC (H u)];have:=Oj E (H u);omega
   rw[eV,len]at P;have:=v.refs' P (g.trans t3 (λ _ _ q=>q));unfold St.take;rw[AC rfl,AC u];exact this
  have G:=I2 f l
  obtain⟨nm,d⟩:∃nm:ByteArray,(⟨(iL bs).toArray⟩:ByteArray)=nm:=⟨_,rfl⟩
  rw[d,hi]at x;rw[show tx (iL bs)=Ae nm by rw[<- d],hi]at m;have R:=Ih d;clear h v N I E J B bx A g f d hi own ts l H u;go_enter func148,ntmps148;go_wp2_with fail;refine m.mono ?_;rintro e w1 ⟨rfl,k⟩;rw[k];clear k w1;go_wp2_with(at_delete;(refine X5 (K:=kS) rfl (.tmp 44) (.tmp 45) 178 9 _ underlying178 rfl r _ _ rfl G.o.1 (iL bs) (by show _<=AH;have:=G.o.2;simp only[AH];omega) (by show Ae nm=Ae _;rw[R.o]) (by simp[kM]) ?_;intro n f D;have Q:=Ih (z.o n f D);clear f D));go_wp2;go_end0;exact⟨rfl,Q.o⟩
 ·have C:A1 y s b (st.take (4,bs)) S/\Aw S w y:=by
   refine⟨⟨M,r,t,F,?_⟩,ts⟩;have:=v.refs' A g;unfold St.take;rw[AC rfl,Ay u];exact this
  have z:=Ih C
  obtain⟨nm,d⟩:∃nm:ByteArray,(⟨(iL bs).toArray⟩:ByteArray)=nm:=⟨_,rfl⟩
  obtain⟨i,hi⟩:∃i:Int,((jf bs).toNat:Int)=i:=⟨_,rfl⟩
  have m0:(i==0)=false:=by
   rw[<- hi]
   have:¬(jf bs).toNat=0:=λ q=>u (BG.1 (by rw[q];rfl))
   simpa using this
  rw[d,hi]at x;rw[show tx (iL bs)=Ae nm by rw[<- d],hi]at m;clear h v N I E J B bx C A g f d hi own ts l H u;go_enter func148,ntmps148;go_wp2_with fail;refine m.mono ?_;rintro e w1 ⟨rfl,k⟩;rw[k];clear k w1;go_wp2;go_end0;exact⟨rfl,z.o⟩
end
theorem Ji{n:Bs}(h:gS n=true):n.length<=16:=by
 unfold gS at h;simp at h;omega
section
variable {w:World}{s b:Nat}{st:St}{d:Dk}{U:Nat->Prop}
theorem MQ(B:jK h s b st d U)(u:Iz h W)(D:iE W (Aa a L c) body)(v:body.length=L)(A:8<=L)(H:L<=8192)(g:∀j,mC a L j->h.heap.size<=j)(k:Int)(G:k=4∨k=5)(x:d.ok)(K:d.writes<=1000000)
  (I:GL st.refs) (J:GL st.tags) (y:st.refs.length<=1000000) (z:st.tags.length<=1000000) (M:k=4->jf body=0->(iu st.refs (iL body)).isSome=true) :
  At Am 108 #[Ah (some ⟨s,0,none⟩),Ag #[Ab Ak k,Aa a L c]] W λ e w'=>∃r,e=Aj (Ab Ak r)/\Hid (r=(iB st d (k,body)).2.2/\jK w' s b (iB st d (k,body)).1 (iB st d (k,body)).2.1 (B9 U h w')/\Aw U h w'):=by
 have f:=B.lt
 have n:∀i,mC a L i->¬U i:=λ i q r=>by
  have:=g i q;have:=f i r;omega
 refine(QD (B.below u) D n v H k (by omega) (by omega) x K ?_).mono ?_
 intro E S F C p w
 have m:∀w',A1 w' s b (st.take (k,body)) S->Aw S E w'->A1 w' s b (st.take (k,body)) (λ i=>S i∨mC a L i)/\Aw S E w' :=
  λ w' t l=>⟨t.mono (λ _ q=>.inl q) (λ i q=>AK (w i q) l.size),l⟩
 rcases G with rfl|rfl
 refine(eZ C I y p v A (by omega) (M rfl)).mono ?_;rintro e w' ⟨rfl,t,l⟩;exact⟨rfl,m w' t l⟩
 refine(VU C J z p v A (by omega)).mono ?_;rintro e w' ⟨rfl,t,l⟩;exact⟨rfl,m w' t l⟩
 rintro e w' ⟨r,rfl,R⟩;refine⟨r,rfl,R.o.1,R.o.2.1.mono ?_ ?_,(Aw.ofBelow (S:=U) u).trans R.o.2.2 (λ _ _ q=>q)⟩
 intro i hi
 rcases hi with(q|q) | q
 exact .inl q
 exact .inr ⟨by have:=u.size;omega,q.2⟩
 exact .inr ⟨g i q,AK (D.blk i q) R.o.2.2.size⟩
 intro i hi
 rcases hi with q|q
 exact AK (f i q) (AU u.size R.o.2.2.size)
 exact q.2
def mD(st:St)(n:Bs)(i:UInt64):Int:=if gS n=false then 2 else if st.has 3 i=false then 5 else 0
theorem Qb(h:A1 w s b st S)(n:Bs)(i:UInt64)(x:Int)(p:(i.toNat:Int)=x)(o:Int)(d:mD st n i=o):
  At Am 107 #[Ah (some ⟨s,0,none⟩),tx n,Ab Al x] w λ e w'=>e=Aj (Ab Ak o)/\w'=w:=by
 have f:=λ g m=>Ll h (k:=3) (by omega) i g m
 rw[p]at f
 have c:=λ g m=>IM n g m w
 unfold mD at d
 cases j:gS n with
 | false =>
  rw[j]at d;have c:=c false j;rw[show mP false=2 from rfl]at c;simp at d;subst d;clear h f;go_enter func107,ntmps107;go_wp2_with fail;refine c.mono ?_;rintro e w1 ⟨rfl,a⟩;rw[a];clear a w1;go_wp2;go_ret;exact⟨rfl,rfl⟩
 | true =>
  rw[j]at d;have c:=c true j;rw[show mP true=0 from rfl]at c
  cases l:st.has 3 i with
  | false =>
   rw[l]at d;simp at d;subst d;have f:=f false l;clear h;go_enter func107,ntmps107;go_wp2_with fail;refine c.mono ?_;rintro e w1 ⟨rfl,a⟩;rw[a];clear a w1;go_wp2_with fail;refine f.mono ?_;rintro e w1 ⟨rfl,a⟩;rw[a];clear a w1;go_wp2;go_ret;exact⟨rfl,rfl⟩
  | true =>
   rw[l]at d;simp at d;subst d;have f:=f true l;clear h;go_enter func107,ntmps107;go_wp2_with fail;refine c.mono ?_;rintro e w1 ⟨rfl,a⟩;rw[a];clear a w1;go_wp2_with fail;refine f.mono ?_;rintro e w1 ⟨rfl,a⟩;rw[a];clear a w1;go_wp2;go_ret;exact⟨rfl,rfl⟩
theorem YA(u:jK w s b st d U)(h:st.ok)(n:Bs)(i:UInt64)(m:d.ok)(N:d.writes<=1000000)(p:st.refs.length<=1000000)(t:st.tags.length<=1000000):
  At Am 58 #[Ah (some ⟨s,0,none⟩),tx n,Ab Al (i.toNat:Int)] w λ e w'=>∃r,e=Aj (Ab Ak r)/\Hid (r=(kH st d n i).2.2/\jK w' s b (kH st d n i).1 (kH st d n i).2.1 (B9 U w w')/\Aw U w w'):=by
 obtain⟨Z,v⟩:=Xa (kH st d n i)
 rw[v];obtain⟨S,T,E,K,l,M,k⟩:=u
 have u:jK w s b st d U:=⟨S,T,E,K,l,M,k⟩
 obtain⟨C,a⟩:=Xa (mD st n i)
 obtain⟨x,A⟩:=Xa ((i.toNat:Int))
 have O:=Qb E n i x A C a;by_cases I:C=0
 ·subst I
  have g:gS n=true:=by
   unfold mD at a
   split at a
   ·cases a
   ·simpa using ‹¬gS n=false›
  have F:st.has 3 i=true:=by
   unfold mD at a;rw[g]at a;simp at a;exact a
  have D:Z=iB st d (4,ji i n):=by
   rw[<- v];unfold kH;rw[Ay (by simp[g]),Ay (by simp[F])]
  have j:=Ji g;have f:=NB 4 n (by omega) i w
  have z:jf (ji i n)=0->(iu st.refs (iL (ji i n))).isSome=true:=by
   rw[IR];intro q;rw[q,LO h]at F;cases F
  rw[A]at f ⊢
  have H:=I9 u h m N p t j z D
  obtain⟨L,J⟩:=Xa (8+n.length)
  rw[J]at f;have G:=Ih J;clear u h m N p t j z D E K l M k a A g F v J;go_enter func58,ntmps58;go_wp2_with fail;refine O.mono ?_;rintro e w1 ⟨rfl,c⟩;rw[c];clear c w1;go_wp2_with fail;refine f.mono ?_;rintro e X ⟨a2,R,rfl,B⟩;have y:=MQ H.o.1 B.o.2.2 B.o.1 (by rw[Gq];exact G.o) (by have:=G.o;omega) (by have:=G.o;have:=H.o.2.2.2.2.2.2.1;omega) B.o.2.1 4 (.inl rfl) H.o.2.2.1 H.o.2.2.2.1 H.o.2.1.refs H.o.2.1.tags H.o.2.2.2.2.1 H.o.2.2.2.2.2.1 (λ _=>H.o.2.2.2.2.2.2.2.1);rw[<- H.o.2.2.2.2.2.2.2.2]at y;clear f B;go_wp2_with fail;refine y.mono ?_;rintro e Y ⟨W,rfl,P⟩;go_wp2;go_ret;exact⟨_,rfl,P.o⟩
 ·have D:Z=(st,d,C):=by
   rw[<- v];unfold kH;unfold mD at a
   split at a
   ·rename_i q
    rw[AC q,<- a]
   ·rename_i q
    rw[Ay q]
    split at a
    ·rename_i Q
     rw[AC Q,<- a]
    ·exact absurd a.symm I
  have V:(C != 0)=true:=by simpa using I
  have H:=Ih u;rw[A];subst D;clear u h m N p t E K l M k a A v;go_enter func58,ntmps58;go_wp2_with fail;refine O.mono ?_;rintro e w1 ⟨rfl,c⟩;rw[c];clear c w1;go_wp2;go_ret;exact⟨_,rfl,rfl,H.o.since (Ao _ _),Aw.refl _ _⟩
theorem Vy(u:jK w s b st d U)(m:st.ok)(n:Bs)(hn:n.length<=140737488355328)(i:UInt64)(k:d.ok)(Q:d.writes<=1000000)(l:st.refs.length<=1000000)(p:st.tags.length<=1000000):
  At Am 60 #[Ah (some ⟨s,0,none⟩),tx n,Ab Al (i.toNat:Int)] w λ e w'=>∃r,e=Aj (Ab Ak r)/\Hid (r=(kq st d n i).2.2/\jK w' s b (kq st d n i).1 (kq st d n i).2.1 (B9 U w w')/\Aw U w w'):=by
 obtain⟨Z,z⟩:=Xa (kq st d n i)
 rw[z];obtain⟨S,T,J,K,h,N,g⟩:=u
 have u:jK w s b st d U:=⟨S,T,J,K,h,N,g⟩
 obtain⟨I,a⟩:=Xa (mD st n i)
 obtain⟨x,B⟩:=Xa ((i.toNat:Int))
 have X:=Qb J n i x B I a;by_cases V:I=0
 subst V
 have f:gS n=true:=by
  unfold mD at a
  split at a
  cases a;simpa using ‹¬gS n=false›
 have P:st.has 3 i=true:=by
  unfold mD at a;rw[f]at a;simp at a;exact a
 obtain⟨M,r,t,F,O⟩:=J;have A:=Rr O.tags n hn;obtain⟨c0,c1,c2,c3,c4,c5,c6⟩:=O.cell
 obtain⟨y,Y⟩:∃y:Int,(((iu st.tags n).getD 0).toNat:Int)=y:=⟨_,rfl⟩
 rw[Y]at A
 cases D:(iu st.tags n).isSome with
 | true =>
  rw[D]at A
  have C:Z=(st,d,6):=by
   rw[<- z];unfold kq;rw[Ay (by simp[f]),Ay (by simp[P]),AC D]
  have H:=Ih u;rw[B];subst C;clear u m k Q l p K h N g a B z O f P Y D;go_enter func60,ntmps60;go_wp2_with fail;refine X.mono ?_;rintro e w1 ⟨rfl,c⟩;rw[c];clear c w1;go_wp2;go_ret;exact⟨_,rfl,rfl,H.o.since (Ao _ _),Aw.refl _ _⟩
 | false =>
  rw[D]at A
  have C:Z=iB st d (5,ji i n):=by
   rw[<- z];unfold kq;rw[Ay (by simp[f]),Ay (by simp[P]),Ay (by simp[D])]
  have v:=Ji f;have j:=NB 5 n (by omega) i w;rw[B]at j ⊢;have H:=I8 u m k Q l p v C;obtain⟨L,W⟩:=Xa (8+n.length);rw[W]at j;have R:=Ih W;clear u m k Q l p v C K h N g a B f P z O Y D W;go_enter func60,ntmps60;go_wp2_with fail;refine X.mono ?_;rintro e w1 ⟨rfl,c⟩;rw[c];clear c w1;go_wp2_with fail;refine j.mono ?_;rintro e w2 ⟨a2,c2,rfl,G⟩;have E:=MQ H.o.1 G.o.2.2 G.o.1 (by rw[Gq];exact R.o) (by have:=R.o;omega) (by have:=R.o;have:=H.o.2.2.2.2.2.2.1;omega) G.o.2.1 5 (.inr rfl) H.o.2.2.1 H.o.2.2.2.1 H.o.2.1.refs H.o.2.1.tags H.o.2.2.2.2.1 H.o.2.2.2.2.2.1 (λ q=>by omega);rw[<- H.o.2.2.2.2.2.2.2]at E;clear j G;go_wp2_with fail;refine E.mono ?_;rintro e w3 ⟨r3,rfl,R3⟩;go_wp2;go_ret;exact⟨_,rfl,R3.o⟩
 ·have C:Z=(st,d,I):=by
   rw[<- z];unfold kq;unfold mD at a
   split at a
   ·rename_i q
    rw[AC q,<- a]
   ·rename_i q
    rw[Ay q]
    split at a
    ·rename_i q2
     rw[AC q2,<- a]
    exact absurd a.symm V
  have m0:(I != 0)=true:=by simpa using V
  have H:=Ih u;rw[B];subst C;clear u m k Q l p J K h N g a B z;go_enter func60,ntmps60;go_wp2_with fail;refine X.mono ?_;rintro e w1 ⟨rfl,c⟩;rw[c];clear c w1;go_wp2;go_ret;exact⟨_,rfl,rfl,H.o.since (Ao _ _),Aw.refl _ _⟩
theorem Vd(p:jK w s b st d U)(k:st.ok)(n:Bs)(R:n.length<=140737488355328)(i:d.ok)(G:d.writes<=1000000)(j:st.refs.length<=1000000)(l:st.tags.length<=1000000):
  At Am 62 #[Ah (some ⟨s,0,none⟩),tx n] w λ e w'=>∃r,e=Aj (Ab Ak r)/\Hid (r=(jx st d n).2.2/\jK w' s b (jx st d n).1 (jx st d n).2.1 (B9 U w w')/\Aw U w w'):=by
 obtain⟨Z,q⟩:=Xa (jx st d n)
 rw[q];obtain⟨S,T,N,C,g,D,f⟩:=p
 have p:jK w s b st d U:=⟨S,T,N,C,g,D,f⟩
 have I:=Ih p
 cases a:gS n with
 | false =>
  have z:=IM n false a w;rw[show mP false=2 from rfl]at z
  have x:Z=(st,d,2):=by
   rw[<- q];unfold jx;rw[AC a]
  subst x;clear p k i G j l C g D f q a N;go_enter func62,ntmps62;go_wp2_with fail;refine z.mono ?_;rintro e w1 ⟨rfl,c⟩;rw[c];clear c w1;go_wp2;go_ret;exact⟨_,rfl,rfl,I.o.since (Ao _ _),Aw.refl _ _⟩
 | true =>
  have z:=IM n true a w;rw[show mP true=0 from rfl]at z;obtain⟨M,r,t,F,E⟩:=N;have u:=Rr E.refs n R;obtain⟨V,W,Q,X,Y,c5,c6⟩:=E.cell
  obtain⟨y,O⟩:∃y:Int,(((iu st.refs n).getD 0).toNat:Int)=y:=⟨_,rfl⟩
  rw[O]at u
  cases v:(iu st.refs n).isSome with
  | false =>
   rw[v]at u
   have x:Z=(st,d,5):=by
    rw[<- q];unfold jx;rw[Ay (by simp[a]),AC v]
   subst x;clear p k i G j l C g D f q E a O v;go_enter func62,ntmps62;go_wp2_with fail;refine z.mono ?_;rintro e w1 ⟨rfl,c⟩;rw[c];clear c w1;go_wp2;go_ret;exact⟨_,rfl,rfl,I.o.since (Ao _ _),Aw.refl _ _⟩
  | true =>
   rw[v]at u
   have x:Z=iB st d (4,ji 0 n):=by
    rw[<- q];unfold jx;rw[Ay (by simp[a]),Ay (by simp[v])]
   have m:=Ji a;have h:=NB 4 n (by omega) 0 w;rw[show((0:UInt64).toNat:Int)=0 from rfl]at h;have H:=I9 p k i G j l m x (by rw[IJ];exact v:(iu st.refs (iL (ji 0 n))).isSome=true);obtain⟨L,K⟩:=Xa (8+n.length);rw[K]at h;have J:=Ih K;clear p k i G j l m x C g D f a q E O v K I;go_enter func62,ntmps62;go_wp2_with fail;refine z.mono ?_;rintro e w1 ⟨rfl,c⟩;rw[c];clear c w1;go_wp2_with fail;refine h.mono ?_;rintro e w2 ⟨a2,Q,rfl,B⟩;have A:=MQ H.o.1 B.o.2.2 B.o.1 (by rw[Gq];exact J.o) (by have:=J.o;omega) (by have:=J.o;have:=H.o.2.2.2.2.2.2.1;omega) B.o.2.1 4 (.inl rfl) H.o.2.2.1 H.o.2.2.2.1 H.o.2.1.refs H.o.2.1.tags H.o.2.2.2.2.1 H.o.2.2.2.2.2.1 (λ _ _=>H.o.2.2.2.2.2.2.2.2);rw[<- H.o.2.2.2.2.2.2.2.1]at A;clear h B;go_wp2_with fail;refine A.mono ?_;rintro e w3 ⟨r3,rfl,P⟩;go_wp2;go_ret;exact⟨_,rfl,P.o⟩
end
theorem Pl(e:r.2=false)(a:r.1≠[]):
  ((iX (jQ r).2).2.2=false/\one r.1=some (((jQ r).1,AL (iX (jQ r).2).1),(iX (jQ r).2).2.1))∨((iX (jQ r).2).2=([],true)/\one r.1=none):=by
 obtain⟨l,s⟩:=r;simp only at e a;subst e
 cases l with
 | nil=>exact absurd rfl a
 | cons x t =>
  have i:=x.toNat_lt
  have f:jM (x::t,false)=(x.toNat,(t,false)):=by
   have:=M9 x.toNat (by omega) t false;simpa using this
  have g:jQ (x::t,false)=ie x.toNat (t,false):=by
   unfold jQ;rw[f]
  rw[g];by_cases c:t.length<x.toNat
  right
  have b:ie x.toNat (t,false)=([],([],true)):=by unfold ie;rw[AC c]
  rw[b];refine⟨by unfold iX ie;simp,?_⟩;simp only[one];rw[AC (by omega)]
  have b:ie x.toNat (t,false)=(t.take x.toNat,(t.drop x.toNat,false)):=by unfold ie;rw[Ay c]
  rw[b];by_cases d:t.length<x.toNat+8
  right
  refine⟨?_,?_⟩;unfold iX ie;simp only;rw[AC (by rw[AO];omega)];simp only[one];rw[AC d]
  left
  have h:ie 8 (t.drop x.toNat,false)=((t.drop x.toNat).take 8,((t.drop x.toNat).drop 8,false)):=by
   unfold ie;simp only;rw[Ay (by rw[AO];omega)]
  unfold iX;simp only;rw[h];refine⟨rfl,?_⟩;simp only[one];rw[Ay d,List.drop_drop]
theorem Wg(c:r.2=false)(a:r.1≠[]):(iX (jQ r).2).2.1.length<r.1.length:=by
 rcases Pl c a with⟨_,h⟩ | ⟨h,_⟩
 have:=(L8 h).1;have l:=A7 List.length this;rw[Ax,Lz]at l;omega
 rw[h]
 cases b:r.1 with
 | nil=>exact absurd b a
 | cons x t=>simp
def IS(bs:Bs)(es:List En)(r:Rs):Prop:=es.length<=65/\Sm es/\((r.2=false/\bs=gX es++r.1)∨(r=([],true)/\RT bs [] 9))
theorem IS.start(bs:Bs):IS bs [] (bs,false):=⟨by simp,λ e h=>by simp at h,.inl ⟨rfl,by simp[gX]⟩⟩
theorem IS.step(h:IS bs es r)(a:r.1≠[])(g:es.length<=64):
  IS bs (es++[((jQ r).1,AL (iX (jQ r).2).1)]) (iX (jQ r).2).2/\(iX (jQ r).2).2.1.length<r.1.length:=by
 obtain⟨_,e,b⟩:=h
 rcases b with⟨b,f⟩ | ⟨b,_⟩
 refine⟨⟨by simp;omega,e.snoc (Z2 r),?_⟩,Wg b a⟩
 rcases Pl b a with⟨c,d⟩ | ⟨c,d⟩
 left
 refine⟨c,?_⟩;rw[Ox,List.append_assoc,<- (L8 d).1];exact f
 right
 exact⟨c,Q8 e f a d⟩
 rw[b]at a;exact absurd rfl a
theorem Z1(w:Ap)(hb:iE w (Aa a n c) bs)(hl:bs.length=n):
  At Am 135 #[Aa a n c] w λ e w'=>∃es er v,e=Aj (Af #[v,Ab Ak er])/\Hid (RT bs es er/\gM gZ 125 w' w.heap.size v es/\An w.heap.size w w'):=by
 have H:Hid (lR (w.alloc (Ai #[Aa a n c,Ad false] 305)) w.heap.size (bs,false)/\An w.heap.size w (w.alloc (Ai #[Aa a n c,Ad false] 305))/\(w.alloc (Ai #[Aa a n c,Ad false] 305)).heap.size=w.heap.size+1/\bs.length=n) :=
  ⟨lR.new hb hl,gW _ _,by simp,hl⟩
 clear hb hl;go_enter func135,ntmps135;go_wp2_with fail;go_loopg[5] n (λ m lv wr=>∃(es:List En) (r:Rs) (la:Option Addr) (lc L:Nat),lv=Aa la L lc/\L<=65/\m=r.1.length/\Hid (L=es.length/\IS bs es r/\lR wr w.heap.size r/\gM gZ 125 wr (w.heap.size+1) lv es/\An w.heap.size w wr/\w.heap.size+1<=wr.heap.size))
 case atStart=>exact⟨[],(bs,false),none,0,0,rfl,by omega,H.o.2.2.2.symm,rfl,IS.start bs,H.o.1,gM.nil _ _ _ _,H.o.2.1,by rw[H.o.2.2.1];exact AA _⟩
 case round =>
  obtain⟨es,r,la,lc,L,rfl,hL,K,b⟩:=hrel;obtain⟨ra,rc,z,_⟩:=b.o.2.2.1.at_;rw[<- K]at z;obtain⟨x0,x1⟩:=z.cells;clear z;by_cases h0:gk=0
  ·subst h0;have D:=List.eq_nil_of_length_eq_zero K.symm;have hh:=b.o.2.1;obtain⟨_,d,hq⟩:=hh;clear K
   cases F:r.2 with
   | true =>
    rw[F]at x1
    have l:RT bs [] 9:=by
     rcases hq with⟨q1,_⟩ | ⟨_,q2⟩
     ·rw[F]at q1;cases q1
     ·exact q2
    have s:=Ih l;clear hq l F D d;go_wp2;refine As (AD rfl _ _ _) rfl ?_;exact⟨[],9,_,rfl,s.o,gM.nil _ _ _ _,b.o.2.2.2.2.1⟩
   | false =>
    rw[F]at x1
    have Q:bs=gX es:=by
     rcases hq with⟨_,q2⟩ | ⟨q1,_⟩
     ·rw[D,List.append_nil]at q2;exact q2
     ·rw[q1]at F;cases F
    obtain⟨aa,O,P,I,_,x,_⟩:=gM.form b.o.2.2.2.1;rw[<- b.o.1]at P I;cases P;have j:=K7 wr x b.o.1.symm (λ e he=>by have:=d e he;omega) I
    obtain⟨Y,h⟩:=Xa (iM es)
    rw[h]at j
    have s:=I3 Q d h
    clear hq Q d h I x F D;by_cases u:Y=0
    ·subst u;go_wp2_with fail;refine j.mono ?_;rintro e w2 ⟨rfl,f⟩;go_wp2;refine As (AD rfl _ _ _) rfl ?_;exact⟨es,0,_,rfl,.inl ⟨rfl,s.o.2.2,s.o.1.symm⟩,(b.o.2.2.2.1.below f).low (E9 _),b.o.2.2.2.2.1.trans (f.mono b.o.2.2.2.2.1.size)⟩
    ·have m0:(Y==0)=false:=by simpa using u
     have m1:(Y != 0)=true:=by simpa using u
     go_wp2_with fail;refine j.mono ?_;rintro e w2 ⟨rfl,f⟩;go_wp2;refine As (AD rfl _ _ _) rfl ?_;exact⟨[],9,_,rfl,OZ s.o.2.1 s.o.1.symm (by rw[s.o.2.2];exact u),gM.nil _ _ _ _,b.o.2.2.2.2.1.trans (f.mono b.o.2.2.2.2.1.size)⟩
  ·have d0:(0:Int)<(gk:Int):=by omega
   have A:r.1≠[]:=by intro q;rw[q]at K;simp at K;exact h0 K
   by_cases ab:L<=64
   ·have d1:(L:Int)<=64:=by omega
    have p:=b.o.2.1.step A (by rw[<- b.o.1];exact ab)
    obtain⟨t,ht⟩:∃t:ByteArray,t=⟨(jQ r).1.toArray⟩:=⟨_,rfl⟩
    have G:=QX b.o.2.2.1 t (jQ r).2 (by rw[ht])
    obtain⟨V,S⟩:=Xa ((jQ r).2)
    rw[S]at G p
    obtain⟨v,Z⟩:=Xa ((iX V).1)
    obtain⟨J,E⟩:=Xa ((iX V).2)
    have T:iX V=(v,J):=by rw[<- Z,<- E]
    have U:(AL v).toNat=v:=by
     have:=KV V;rw[Z]at this;rw[UInt64.toNat_ofNat'];omega
    rw[Z,E]at p
    have N:=I5 p.1 p.2 T ht U
    clear p S Z E T U ht;go_wp2_with fail;refine G.mono ?_;rintro e w2 ⟨rfl,J2⟩;have R:=LY J2.o.1 v J N.o.2.2.1;clear G x0 x1;go_wp2_with fail;refine R.mono ?_;rintro e M ⟨rfl,J3⟩;have X:Aw (λ i=>i=w.heap.size) wr M:=J2.o.2.trans J3.o.2 (λ _ _ q=>q);have B3:An w.heap.size w M:=b.o.2.2.2.2.1.trans (X.below b.o.2.2.2.2.1.size (λ k hk q=>by have q':k=w.heap.size:=q;omega));have x:=b.o.2.2.2.1.stays X (λ g hg q=>by have:=(b.o.2.2.2.1.lt g hg).1;have q':=q;omega);have s3:=AU b.o.2.2.2.2.2 X.size
    have W:=I3 x B3 s3
    clear X B3 x s3 R;go_wp2_with(at_builtin;refine BA gZ 125 118 24 _ rfl Tryz.info125 underlying118 rfl (.tmp 19) (.tmp 23) rfl (w.heap.size+1) _ es ((jQ r).1,AL v) _ rfl W.o.1 rfl (by rw[<- b.o.1];omega) (by rw[<- b.o.1];simp only[AH];omega) W.o.2.2 _ (by show _=#[tx (jQ r).1,Ab Al ((AL v).toNat:Int)];rw[N.o.2.2.2.2,N.o.2.2.2.1]) ?_;intro v4 w4 B y ac ad);obtain⟨a4,c4,rfl,_,_,_,_⟩:=gM.form B
    have l4:(es++[((jQ r).1,AL v)]).length=L+1:=by rw[Ax,<- b.o.1];rfl
    rw[l4]at B ⊢;go_wp2;go_roundg J.1.length
    case measure=>have:=N.o.2.1;omega
    case rel =>
     exact⟨_,J,a4,c4,L+1,rfl,by omega,rfl,l4.symm,N.o.1,J3.o.1.over y,B,W.o.2.1.trans (y.mono (E9 _)),AU W.o.2.2 y.size⟩
   ·have d1:decide ((L:Int)<=64)=false:=by rw[Az];omega
    have hh:=b.o.2.1;obtain⟨_,d,hq⟩:=hh
    have C:r.2=false/\bs=gX es++r.1:=by
     rcases hq with q|⟨q,_⟩
     ·exact q
     ·rw[q]at A;exact absurd rfl A
    rw[C.1]at x1;have l:RT bs [] 9:=SO d (by rw[<- b.o.1];omega) C.2;obtain⟨aa,O,P,I,_,x,_⟩:=gM.form b.o.2.2.2.1;rw[<- b.o.1]at P I;cases P;have j:=K7 wr x b.o.1.symm (λ e he=>by have:=d e he;omega) I
    have h:iM es=4:=by unfold iM;rw[AC (by rw[<- b.o.1];omega)]
    rw[h]at j;have s:=Ih l;clear hq C d h I x l;go_wp2_with fail;refine j.mono ?_;rintro e w2 ⟨rfl,f⟩;go_wp2;refine As (AD rfl _ _ _) rfl ?_;exact⟨[],9,_,rfl,s.o,gM.nil _ _ _ _,b.o.2.2.2.2.1.trans (f.mono b.o.2.2.2.2.1.size)⟩
theorem Zl{xs:List UInt64}(I:gQ gR w pa xs)(G:xs.length=pn)(hn:pn*8<=140737488355328)(nt:ByteArray)(dt d:Int):
  At Am 54 #[Ag #[Ab Al d,Aa pa pn pc,Ab Ak dt,Ae nt]] w λ e w'=>∃qa qc,e=Aj (Ag #[Ab Al d,Aa qa pn qc,Ab Ak dt,Ae nt])/\Hid (gQ gR w' qa xs/\pn<=qc/\Iz w w'):=by
 have H:=I2 I G
 clear I G;go_enter func54,ntmps54;go_wp2_with fail;go_loopg[4] pn (λ m W wr=>∃(i:Nat) (qa:Option Addr) (qc:Nat),W=Ab Ak i/\i+m=pn/\Hid (ib wr w.heap.size 104 (Ab Al d) (Aa pa pn pc) (Ab Ak dt) (Ae nt)/\ib wr (w.heap.size+1) 129 (Ab Al 0) (Aa none 0 0) (Ab Ak 0) (Ae ⟨#[]⟩)/\ib wr (w.heap.size+1+1) 129 (Ab Al d) (Aa qa i qc) (Ab Ak dt) (Ae nt)/\gM gR 61 wr (w.heap.size+3) (Aa qa i qc) (xs.take i)/\Iz w wr))
 case atStart =>
  have y:=Z3 w (Ab Al d) (Aa pa pn pc) (Ab Ak dt) (Ae nt) (Ab Al 0) (Aa none 0 0) (Ab Ak 0) (Ae ⟨#[]⟩) (Ab Al d) (Aa none 0 0) (Ab Ak dt) (Ae nt) 104 129 129;exact⟨0,none,0,rfl,by omega,y.1,y.2.1,y.2.2,gM.nil _ _ _ _,nC _ _ _ _⟩
 case round =>
  obtain⟨i,qa,qc,rfl,hi,a⟩:=hrel;obtain⟨x0,x1,x2,x3⟩:=a.o.1.cells;by_cases A:i<pn
  ·have id:(i:Int)<(pn:Int):=by omega
   have V:(0:Int)<=(i:Int):=by omega
   obtain⟨x,u⟩:=BK H.o.2 A;obtain⟨b,off,rfl,R⟩:=H.o.1.some_of u;obtain⟨O,c0⟩:=(H.o.1.below a.o.2.2.2.2).nums u;obtain⟨X,Y,Z,y3⟩:=a.o.2.2.1.cells;obtain⟨K,L,f2,M⟩:=a.o.2.2.1.thaw;have T:=a.o.2.2.1.lt
   have h:(xs.take i).length=i:=by rw[AE,H.o.2];omega
   have c:xs.take (i+1)=xs.take i++[x]:=by rw[AW,u];rfl
   have t:=I3 c h (by rw[Ax,h];rfl:(xs.take i++[x]).length=i+1)
   clear u c h;go_wp2_with fail;go_region_law(refine Ix gR 61 75 8 _ rfl Tryz.info61 underlying75 rfl (.tmp 20) (.tmp 26) rfl (w.heap.size+3) _ (xs.take i) x rfl (a.o.2.2.2.1.below ((Ao _ wr).drew.trans (gW wr.drew _))) wr.heap.size rfl (GQ gR wr.drew x 61) (by rw[t.o.2.1];omega) (by rw[t.o.2.1];simp only[AH];omega) (by simp;omega) ?_;intro v4 p j s B C;obtain⟨a4,n,F,_,_,_,_⟩:=gM.form j;rw[t.o.2.2]at F;subst F;have f:=I2 j (((gW wr _).drew.mono (by omega)).trans s:An (w.heap.size+3) wr p);have z4:=(a.o.2.2.1.below f.o.2 (by omega)).cells;have N:=(a.o.2.2.1.below f.o.2 (by omega)).thaw;obtain⟨z0,z1,z2,z3⟩:=z4;obtain⟨g0,g1,g2,g3⟩:=N;clear j s B C)
   all_goals
    have J:Hid ((∀S:Ap,S=p.setCell ⟨w.heap.size+1+1,1,none⟩ (Aa a4 (i+1) n)->ib S w.heap.size 104 (Ab Al d) (Aa (some ⟨b,off,none⟩) pn pc) (Ab Ak dt) (Ae nt)/\ib S (w.heap.size+1) 129 (Ab Al 0) (Aa none 0 0) (Ab Ak 0) (Ae ⟨#[]⟩)/\ib S (w.heap.size+1+1) 129 (Ab Al d) (Aa a4 (i+1) n) (Ab Ak dt) (Ae nt)/\gM gR 61 S (w.heap.size+3) (Aa a4 (i+1) n) (xs.take (i+1))/\Iz w S)):=by
     rintro S rfl;have l:Aw (λ k=>k=w.heap.size+1+1) p (p.setCell ⟨w.heap.size+1+1,1,none⟩ (Aa a4 (i+1) n)):=BR 1 _;have U:=f.o.2.size;refine⟨(a.o.1.below f.o.2 (by omega)).turned l (by omega),(a.o.2.1.below f.o.2 (by omega)).turned l (by omega),(a.o.2.2.1.below f.o.2 (by omega)).put1 _,?_,?_⟩;rw[t.o.1];exact f.o.1.stays l (λ g z q=>by have:=(f.o.1.lt g z).1;have D:=q;omega);have b1:Iz w p:=a.o.2.2.2.2.trans (f.o.2.mono (by omega));exact b1.trans (l.below b1.size (λ k Q q=>by have D:=q;omega))
    go_wp2;go_roundg (gk - 1)
    case measure=>omega
    case rel=>exact⟨i+1,a4,n,by go_num,by omega,J.o _ rfl⟩
  obtain rfl:i=pn:=by omega
  obtain⟨X,Y,Z,y3⟩:=a.o.2.2.1.cells;obtain⟨z0,z1,z2,z3⟩:=a.o.2.1.cells;obtain⟨K,L,f2,M⟩:=a.o.2.1.thaw;have c:xs.take i=xs:=Av (by rw[H.o.2];omega)
  have E:Hid (gM gR 61 wr (w.heap.size+3) (Aa qa i qc) xs):=by
   have:=a.o.2.2.2.1;rw[c]at this;exact this
  clear c;go_wp2;refine As (v:=Ag #[Ab Al d,Aa qa i qc,Ab Ak dt,Ae nt]) ?_ rfl ?_
  simp[results,Tryz.f54];go_simp;have l:=GR wr (w.heap.size+1) (Ab Al d) (Aa qa i qc) (Ab Ak dt) (Ae nt);have o:=E.o.stays l (λ g z q=>by have:=(E.o.lt g z).1;have D:=q;omega);obtain⟨r,P⟩:=o.rdc;exact⟨qa,qc,rfl,r,P,a.o.2.2.2.2.trans (l.below a.o.2.2.2.2.size (λ k Q q=>by have D:=q;omega))⟩
end Go.Proofs.YtakgkgmopmcecaaGreat
