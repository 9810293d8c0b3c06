import Derived.Test.YtakgkgmopmcecaaGreatM09
import Derived.Sort.Defs
set_option maxHeartbeats 6400000
set_option maxRecDepth 100000
open List.Pairwise renaming nil->Cq
open List renaming length_map->A4,length_append->Ax,mem_map->BJ,mem_append->AN,length_cons->A2,getElem?_eq_getElem->Aq,take_add_one->AW,map_append->BV,length_take->AE,take_of_length_le->Av,append_assoc->AT,drop_zero->Hq,drop_eq_getElem_cons->BT,getElem_mem->Cy,getD->Cn,drop_of_length_le->C4,mem_cons_self->Bj,mem_cons_of_mem->Bl,replicate->Bk,getElem?_map->Bo,mem_of_getElem?->A8,getElem?_eq_some_iff->AG,replicate_succ->EK,count_cons->Hj,getElem?_set_self->Cp,getElem?_set_ne->CH,pairwise_cons->Br,pairwise_append->Di,mem_singleton->AZ,getLast?_append->GH,take_append_drop->BC,take_left'->DV,set_append_right->Fo,getElem?_eq_none->AM,idxOf_append->D0,nodup_append->Cr
open Nat renaming le_trans->AU,le_refl->AA,le_of_lt->CJ,not_lt_zero->DE,lt_or_ge->Ct
open Go renaming World->Ap,Calls->At,Value->Ar,maxLen->AH,bodyPost_ret->As,results_tmp2->AD,TypeId->AP
open Go.RowKit renaming Below->An
open Go.RowKit.Below renaming refl->Ao
open Go.IntKind renaming i64->Ak,wrap_i64->Au,u64->Al,wrap_u64->A5
open Go.Value renaming ownBlock->BQ,slice->Aa,int->Ab,bool->Ad,tuple->Af,pointer->Ah
open Array renaming getElem?_eq_some_iff->Ba
open Go.World.ownsRow renaming lt->C6
open Go.Instr renaming makeMap->Hf,lookup->CM
open Go.Obj renaming cells->Ai
open Go.Ending renaming returned->Aj
open Go.Proofs.Tryz renaming prog->Am
open Go.Proofs.Tryz
namespace Go.Proofs.YtakgkgmopmcecaaGreat
open Go.RowKit
variable {A Bg G K X ps:List Int}{B R a base bc bn c i k kc kn m n pc pn q rc rg:Nat}{Q:List UInt64}{S:Nat->Prop}{W:List Nat}{ba pa:Option Addr}{bs:Bs}{g p:Int}{r:Rs}{rk:Nat->Nat}{t:AP}{u w w':Ap}{v:Ar}{x:UInt64}{α:Type}
def St.was(st:St)(c:Cm):List En:=match c.ps with
 | []=>[]
 | p::_=>st.files (st.com p).tree
def St.chg(st:St)(c:Cm):List Bs:=(jY (jt []) (st.was c) (st.files c.tree)).map (·.1)
def St.fil(st:St)(c:Cm):Bs:=lS (st.chg c)
theorem Mn(st:St)(i:UInt64):(st.files i).length<=64:=by
 unfold St.files
 cases e:iq st.objs 2 i with
 | none=>simp
 | some b =>
  simp only[Option.bind_some]
  cases a:jE b with
  | none=>simp
  | some es =>
   have:=(It (JC a).1).1;simpa using this
theorem LI(st:St)(i:UInt64):kk (st.files i)/\∀e∈st.files i,e.1.length<=255:=by
 unfold St.files
 cases e:iq st.objs 2 i with
 | none=>exact⟨Cq,by simp⟩
 | some b =>
  simp only[Option.bind_some]
  cases a:jE b with
  | none=>exact⟨Cq,by simp⟩
  | some es=>exact⟨(It (JC a).1).2.2.rise,Jr (JC a).1⟩
theorem ZF(st:St)(i:UInt64):kV (st.files i):=λ e a=>by
 have:=(LI st i).2 e a;omega
theorem Jz(st:St)(c:Cm):(st.was c).length<=64/\kk (st.was c)/\∀e∈st.was c,e.1.length<=255:=by
 unfold St.was
 split
 exact⟨by simp,Cq,by simp⟩
 exact⟨Mn _ _,LI _ _⟩
theorem Kg(st:St)(c:Cm):(st.chg c).length<=128/\∀x∈st.chg c,x.length<=255:=by
 unfold St.chg jY
 constructor
 rw[A4];refine AU (List.length_filter_le _ _) ?_;rw[A4];unfold kj;have f:=Jp ((st.was c).map (·.1)++(st.files c.tree).map (·.1));rw[Ax,A4,A4]at f;have h:=(Jz st c).1;have i:=Mn st c.tree;omega
 intro x g;obtain⟨d,hd,rfl⟩:=BJ.1 g;obtain⟨y,b,rfl⟩:=BJ.1 (List.mem_filter.1 hd).1;unfold kj at b
 rcases AN.1 ((Ir _ _).1 b)with q|q
 obtain⟨e,a,rfl⟩:=BJ.1 q;exact(Jz st c).2.2 e a
 obtain⟨e,a,rfl⟩:=BJ.1 q;exact(LI st c.tree).2 e a
theorem gQ.chgs4 {w:World} {b off:Nat} {cs:List nX} (h:gQ kQ w (some ⟨b,off,none⟩) cs) {i:Nat} {c:nX} (hx:cs[i]? = some c):w.cell? ⟨b,off+i*3,none⟩=some (tx c.1)/\w.cell? ⟨b,off+i*3+1,none⟩=some (.int .u64 (c.2.1.toNat:Int))/\w.cell? ⟨b,off+i*3+2,none⟩=some (.int .u64 (c.2.2.toNat:Int)):=by
 obtain ⟨b', off', e, hlt, hc⟩ := h (by rcases Nat.lt_or_ge i cs.length with q | q
                                        omega
                                        rw [List.getElem?_eq_none q] at hx; cases hx)
 obtain ⟨rfl,rfl⟩:b=b'/\off=off':=by simpa using e
 have h0:=hc i c hx 0 _ rfl;have h1:=hc i c hx 1 _ rfl;have h2:=hc i c hx 2 _ rfl;exact ⟨by simpa [kQ] using h0,by simpa [kQ,Nat.add_assoc] using h1,by simpa [kQ,Nat.add_assoc] using h2⟩
theorem gG{s b:Nat}{st:St}{r:UInt64}{dt:Int}{nt:Bs}{cm:Cm}(h:A1 w s b st S)(hP:gQ gR w pa cm.ps)(hn:cm.ps.length=pn)(ah:cm.tree=r):
  At Am 42 #[Ah (some ⟨s,0,none⟩),.agg #[Ab Al (r.toNat:Int),Aa pa pn pc,Ab Ak dt,tx nt]] w λ e w'=>∃v,e=Aj v/\Hid (gM gP 5 w' w.heap.size v (st.fil cm)/\An w.heap.size w w'):=by
 obtain⟨q,l⟩:=Xa w.heap.size
 obtain⟨d,y⟩:=Xb (w.alloc (Ai #[Ab Al (r.toNat:Int),Aa pa pn pc,Ab Ak dt,tx nt] 104))
 have z0:d.cell? ⟨q,0,none⟩=some (Ab Al (r.toNat:Int)):=by rw[y,<- l];simp
 have z1:d.cell? ⟨q,1,none⟩=some (Aa pa pn pc):=by rw[y,<- l];simp
 have B0:An q w d:=by rw[y,<- l];exact gW _ _
 have O:An w.heap.size w d:=by rw[l];exact B0
 have H:=I7 (h.below O) (hP.below O) hn ah l B0 (by rw[y];simp;omega:q<d.heap.size)
 have Z0:=Ih z0;rw[l];clear h hP hn ah B0 O z0;go_enter func42,ntmps42
 go_upto_region 2 with fail
 rw[<- y];clear y l
 go_upto_if 16 with fail
 go_cut[5] (λ wv u=>∃a n c,wv=Aa a n c/\Hid (gQ gZ u a (st.was cm)/\(st.was cm).length=n/\n<=c/\An d.heap.size d u))
 case first =>
  cases m:cm.ps with
  | nil =>
   have p0:pn=0:=by rw[<- H.o.2.2.1,m];rfl
   subst p0
   have hw:st.was cm=[]:=by unfold St.was;rw[m]
   have j:Hid (gQ gZ d none (st.was cm)/\(st.was cm).length=0/\0<=0/\An d.heap.size d d):=by
    rw[hw];exact⟨gQ.nil _ _ _,rfl,AA _,Ao _ _⟩
   clear hw m;go_wp2_with fail;go_meet;exact⟨none,0,0,rfl,j.o⟩
  | cons p t =>
   have p0:(0:Int)<(pn:Int):=by
    rw[<- H.o.2.2.1,m,A2];omega
   have p1:0<pn:=by omega
   have f:cm.ps[0]? = some p:=by rw[m];rfl
   obtain⟨pb,off,rfl,_⟩:=H.o.2.1.some_of f;have cx:=(H.o.2.1.nums f).2
   have hw:st.was cm=st.files (st.com p).tree:=by unfold St.was;rw[m]
   have HW:=Ih hw;obtain⟨gb,ac⟩:=Xa (st.has 3 p);have F:=Rk H.o.1 p gb ac;obtain⟨P,ab⟩:=Xa (st.com p);rw[ab]at F HW;obtain⟨A,N⟩:=Xa P.tree;rw[N]at F HW;clear f hw m ac ab N;rw[Nat.add_zero]at cx;go_wp2_with fail;refine F.mono ?_;rintro e X ⟨qa,qc,rfl,J⟩;clear F cx z1;have SA:=I2 (H.o.1.below J.o.2.2.1) J.o.2.2.1;obtain⟨W3,E⟩:=Xb (X.alloc (Ai #[Ab Al (A.toNat:Int),Aa qa P.ps.length qc,Ab Ak P.date,tx P.note] 104));obtain⟨Z,hZ⟩:=Xa X.heap.size
   have y0:W3.cell? ⟨Z,0,none⟩=some (Ab Al (A.toNat:Int)):=by rw[E,<- hZ];simp
   have B3:Hid (An X.heap.size X W3):=by rw[E];exact gW _ _
   clear J;go_upto_region 4 with fail;rw[<- E];clear E hZ;obtain⟨fb,C⟩:=Xa (st.has 2 A);have D:=Sr (SA.o.1.below B3.o) A fb C;clear C;go_wp2_with fail;refine D.mono ?_;rintro e Y ⟨fv,rfl,L⟩;obtain⟨fa,fc,rfl,W,f2,f3,_⟩:=L.o.1.form
   have j:Hid (gQ gZ Y fa (st.was cm)/\(st.was cm).length=(st.files A).length/\(st.files A).length<=fc/\An d.heap.size d Y):=by
    rw[HW.o];exact⟨f3,rfl,W,(SA.o.2.trans (B3.o.mono SA.o.2.size)).trans (L.o.2.mono (AU SA.o.2.size B3.o.size))⟩
   clear D L W f2 f3 y0;go_wp2_with fail;go_meet;exact⟨fa,_,fc,rfl,j.o⟩
 case rest =>
  obtain⟨a,n,c,rfl,G⟩:=hcut;clear z1;have z0:wc.cell? ⟨q,0,none⟩=some (Ab Al (r.toNat:Int)):=(G.o.2.2.2.cell H.o.2.2.2.2.2.2).trans Z0.o;obtain⟨fb,C⟩:=Xa (st.has 2 r);have D:=Sr (H.o.1.below G.o.2.2.2) r fb C;clear C;go_wp2_with fail;refine D.mono ?_;rintro e Y ⟨fv,rfl,L⟩;obtain⟨fa,fc,rfl,W,f2,f3,_⟩:=L.o.1.form;obtain⟨fn,U⟩:=Xa ((st.files r).length);rw[U]at W ⊢;have R:=eA (K:=max c fc) (lc:=0) Y (G.o.1.below L.o.2) f3 G.o.2.1 U G.o.2.2.1 W (Nat.le_max_left _ _) (Nat.le_max_right _ _) (by have:=(Jz st cm).1;have:=G.o.2.1;omega) (by have:=Mn st r;omega) (Jz st cm).2.1 (LI st r).1 (λ e he=>by have:=(Jz st cm).2.2 e he;omega) (ZF st r) (Rd.nil Y none) rfl (by decide)
  have B4:Hid (An q w Y):=by
   have h1:=G.o.2.2.2.trans (L.o.2.mono G.o.2.2.2.size);exact H.o.2.2.2.2.2.1.trans (h1.mono (CJ H.o.2.2.2.2.2.2))
  obtain⟨cs,Q⟩:=Xa (jY (jt []) (st.was cm) (st.files r));rw[Q]at R
  have HC:Hid (st.chg cm=cs.map (·.1)):=by
   show St.chg _ _=_;unfold St.chg;rw[H.o.2.2.2.1,Q]
  clear D L W f2 f3 U Q z0;go_wp2_with fail;refine R.mono ?_;rintro e g ⟨dv,rfl,O5,b5⟩;obtain⟨da,dc,rfl,_,_,d3,_⟩:=O5.form;obtain⟨dn,T⟩:=Xa cs.length;rw[T]
  have aj:dn<=128:=by
   have:=(Kg st cm).1;rw[HC.o,A4]at this;omega
  have V:=I3 d3 T (B4.o.trans (b5.mono (by rw[<- H.o.2.2.2.2.1];exact B4.o.size)):An q w g);have S0:=I2 (Own.nil _ _:Own g q (Aa none 0 0) ((cs.take 0).map (·.1))) (Ao _ _:An g.heap.size g g)
  clear R O5 b5 d3 T B4;go_wp2_with fail;go_loopg[10,45] dn (λ k bv iv wr=>∃i:Nat,iv=Ab Ak i/\i+k=dn/\Hid (Own wr g.heap.size bv ((cs.take i).map (·.1))/\An g.heap.size g wr))
  case atStart=>exact⟨0,rfl,by omega,Own.nil _ _,Ao _ _⟩
  case round =>
   obtain⟨i,rfl,hi,I⟩:=hrel;clear S0;by_cases ai:i<dn
   have id:(i:Int)<(dn:Int):=by omega
   have ad:i<cs.length:=by rw[V.o.2.1];exact ai
   obtain⟨x,hx⟩:=Xa (cs[i])
   have f:cs[i]? = some x:=by rw[Aq ad,hx]
   obtain⟨pb,off,rfl,_⟩:=V.o.1.some_of f;obtain⟨c0,c1,P⟩:=(V.o.1.below I.o.2).chgs4 f
   have z:(cs.take (i+1)).map (·.1)=(cs.take i).map (·.1)++[x.1]:=by
    rw[AW,f,BV]
    rfl
   obtain⟨xp,xo,xn⟩:=x;simp only at c0 c1 P z;obtain⟨W6,B⟩:=Xb (wr.alloc (Ai #[tx xp,Ab Al (xo.toNat:Int),Ab Al (xn.toNat:Int)] 171));obtain⟨Z,hZ⟩:=Xa wr.heap.size
   have y0:W6.cell? ⟨Z,0,none⟩=some (.string ⟨xp.toArray⟩):=by rw[B,<- hZ];simp[tx]
   have HT:=I2 z (by rw[B];exact I.o.2.trans ((gW _ _).mono I.o.2.size):An g.heap.size g W6);have hO:=I.o.1.below (gW wr (Ai #[tx xp,Ab Al (xo.toNat:Int),Ab Al (xn.toNat:Int)] 171));rw[<- B]at hO;have ag:=HT.o.2.size
   have M:((cs.take i).map (·.1)).length<=4000000:=by rw[A4,AE];omega
   clear ad hx f z;go_upto_region 10 with fail;rw[<- B];clear B hZ c0 c1 P;go_wp2_with(at_builtin;refine Hl rfl (.tmp 49) (.tmp 52) rfl g.heap.size _ _ xp _ rfl hO rfl M ag ?_;intro v7 w7 af aa)
   have j:Hid (Own w7 g.heap.size v7 ((cs.take (i+1)).map (·.1))/\An g.heap.size g w7):=by
    rw[HT.o.1];exact⟨af,HT.o.2.trans aa⟩
   clear af aa hO ag M y0;go_wp2_with fail;go_roundg (gk - 1)
   case measure=>omega
   case rel=>exact⟨i+1,by go_num,by omega,j.o⟩
   obtain rfl:i=dn:=by omega
   have id:¬(i:Int)<(i:Int):=by omega
   have z:cs.take i=cs:=Av (by rw[V.o.2.1];exact AA _);rw[z,<- HC.o]at I;obtain⟨va,vc,rfl,v1,v2,v3⟩:=I.o.1.form;have ae:=Xj (c:=vc) wr v3 rfl (by have:=(Kg st cm).1;omega) (λ x hx=>by have:=(Kg st cm).2 x hx;omega)
   have FB:Hid (An q w wr/\q<=wr.heap.size):=by
    have h0:=V.o.2.2.size;have h1:=I.o.2.size;have h2:=H.o.2.2.2.2.1;exact⟨V.o.2.2.trans (I.o.2.mono (by omega)),by omega⟩
   clear z v1 v2 v3;go_wp2_with fail;refine ae.mono ?_;rintro e w8 ⟨v8,rfl,o8,b8⟩;have j:=I2 (o8.low FB.o.2) (FB.o.1.trans (b8.mono FB.o.2));clear o8 b8 ae;go_wp2;go_ret;exact⟨_,rfl,j.o⟩
theorem Sy{a:Option Addr}{L:Nat}(h:iE w (Aa a L c) bs)(s:bs.length=L)(D:L<=8):
  At Am 28 #[Aa a L c] w λ e w'=>e=Aj (Ab Al (val bs:Int))/\w'=w:=by
 have H:Hid (gQ gP w a bs/\bs.length=L):=by
  obtain⟨ao,c',e,_,_,x⟩:=h;cases e;exact⟨x,s⟩
 clear h s;go_enter func28,ntmps28;go_wp2_with fail;go_loopg[3,8] L (λ m B A wr=>wr=w/\∃(i v:Nat),A=Ab Ak i/\i+m=L/\B=Ab Al (v:Int)/\Hid (val (bs.take i)=v))
 case atStart=>exact⟨rfl,0,0,rfl,by omega,rfl,rfl⟩
 case round =>
  obtain⟨l,i,v,rfl,hi,rfl,q⟩:=hrel;subst l;by_cases j:i<L
  have id:(i:Int)<(L:Int):=by omega
  obtain⟨b,off,rfl,z,r⟩:=H.o.1 (by rw[H.o.2];omega)
  have g:i<bs.length:=by rw[H.o.2];exact j
  obtain⟨y,p⟩:=Xa (bs[i])
  have C:wr.cell? ⟨b,off+i,none⟩=some (Ab .u8 (y.toNat:Int)):=by
   have:=r i y (by rw[Aq g,p]) 0 _ rfl;rw[show i*gP.size+0=i from(by show i*1+0=i;omega)]at this;exact this
  have d:=Lq bs i g;have f:=IP (bs.take i);rw[q.o]at d f;rw[p]at d
  have k:v<72057594037927936:=by
   have:(bs.take i).length<=7:=by rw[AE];omega
   have:=Nat.pow_le_pow_right (n:=256) (by decide) this
   have e:256 ^ 7=72057594037927936:=by decide
   omega
  have mO:=Nj y k;have u:=Ih d;clear d f g r p;go_wp2;go_roundg (gk - 1)
  case measure=>omega
  case rel=>exact⟨rfl,i+1,v*256+y.toNat,by go_num,by omega,by go_num,u.o⟩
  obtain rfl:i=L:=by omega
  have e:bs.take i=bs:=Av (by rw[H.o.2];omega)
  have t:Hid (val bs=v):=by rw[<- e];exact q.o
  clear e;go_wp2;go_ret;exact⟨by rw[t.o];rfl,rfl⟩
structure jJ(w:Ap)(R:Nat)(r:Rs):Prop where
 at_:∃a c,jo w R 87 (Aa a r.1.length c) (Ad r.2)/\∀u,An R w u->iE u (Aa a r.1.length c) r.1
theorem jJ.lt(h:jJ w R r):R<w.heap.size:=by
 obtain⟨a,c,b,_⟩:=h.at_;exact b.lt
theorem jJ.over(h:jJ w R r)(b:An (R+1) w w'):jJ w' R r:=by
 obtain⟨a,c,d,e⟩:=h.at_;exact⟨a,c,(b.block R (Nat.lt_succ_self R)).trans d,λ u f=>e u ((b.mono (Nat.le_succ R)).trans f)⟩
theorem jJ.below(h:jJ w R r)(a:Iz w w'):jJ w' R r:=h.over (a.mono h.lt)
theorem jJ.new{a:Option Addr}(h:iE w (Aa a n c) bs)(b:bs.length=n):jJ (w.alloc (Ai #[Aa a n c,Ad false] 87)) w.heap.size (bs,false):=by
 subst b;exact⟨a,c,jo.new _ _ _ _,λ u d=>h.below ((gW w _).trans d)⟩
theorem Zg(h:jJ w R r)(k:Nat)(g:r.1.length<k):
  At Am 29 #[Ah (some ⟨R,0,none⟩),Ab Ak (k:Int)] w λ e w'=>e=Aj (Aa none 0 0)/\Hid (jJ w' R ([],true)/\Aw (λ i=>i=R) w w'):=by
 obtain⟨a,c,b,f⟩:=h.at_
 obtain⟨n,d⟩:=Xa r.1.length
 rw[d]at b g
 have q:(n:Int)<(k:Int):=by omega
 obtain⟨m,s⟩:=b.cells;obtain⟨j,l⟩:=b.thaw;have H:=Ih b;clear h b f d;go_enter func29,ntmps29;go_wp2;go_ret;refine⟨rfl,⟨none,0,H.o.put _ _,λ u _=>⟨none,0,rfl,AA _,by omega,gQ.nil _ _ _⟩⟩,?_⟩;exact((Aw.refl (λ i=>i=R) w).setCell (p:=⟨R,0,none⟩) (.inl (show R=R from rfl)) _).setCell (p:=⟨R,1,none⟩) (.inl (show R=R from rfl)) _
theorem Uc(h:jJ w R r)(k:Nat)(D:¬r.1.length<k):
  At Am 29 #[Ah (some ⟨R,0,none⟩),Ab Ak (k:Int)] w λ e w'=>∃a c,e=Aj (Aa a k c)/\Hid (iE w' (Aa a k c) (r.1.take k)/\jJ w' R (r.1.drop k,r.2)/\Aw (λ i=>i=R) w w'):=by
 obtain⟨a,c,d,g⟩:=h.at_
 obtain⟨n,j⟩:=Xa r.1.length
 rw[j]at d g D
 have q:decide ((n:Int)<(k:Int))=false:=by rw[Az];omega
 have o:(n<=c/\c<=9223372036854775807)/\∀u,An R w u->gQ gP u a r.1:=by
  constructor
  obtain⟨ao,c',e,x,y,_⟩:=g w (Ao _ _);rw[j]at e x;cases e;exact⟨x,y⟩;intro u b;obtain⟨ao,c',e,_,_,E⟩:=g u b;cases e;exact E
 obtain⟨a2,f,s2,z,F,B⟩:=Kl (ao:=a) (n:=n) (c:=c) (k:=k) o.1.1 (by omega);obtain⟨a3,m,s3,A,G,C⟩:=Kq (ao:=a) (n:=n) (c:=c) (k:=k) o.1.1 (by omega);obtain⟨K,L⟩:=d.cells;obtain⟨I,J⟩:=d.thaw
 have s:(r.1.take k).length=k:=by rw[AE];omega
 have l:(r.1.drop k).length=n - k:=by rw[List.length_drop];omega
 have H:Hid (jo w R 87 (Aa a n c) (Ad r.2)/\(∀u,An R w u->iE u (Aa a3 k m) (r.1.take k))/\(∀u,An R w u->iE u (Aa a2 (n - k) f) (r.1.drop k))/\(r.1.drop k).length=n - k):=by
  have y:=o.1.2;refine⟨d,λ u b=>⟨a3,m,by rw[s],by rw[s];exact A,by omega,C u _ (o.2 u b)⟩,λ u b=>⟨a2,f,by rw[l],by rw[l];exact z,by omega,B u _ j (o.2 u b)⟩,l⟩
 clear h d g j o z F A G B C s l;go_enter func29,ntmps29;go_wp2;go_ret;have v:Aw (λ i=>i=R) w (w.setCell ⟨R,0,none⟩ (Aa a2 (n - k) f)):=(Aw.refl (λ i=>i=R) w).setCell (p:=⟨R,0,none⟩) (.inl (show R=R from rfl)) _;have t:=JR H.o.1.lt v;refine⟨a3,m,rfl,H.o.2.1 _ t,⟨a2,f,?_⟩,v⟩;simp only;rw[H.o.2.2.2];exact⟨H.o.1.put0 _,λ u b=>H.o.2.2.1 u (t.trans b)⟩
theorem MJ(h:jJ w R r)(k:Nat):
  At Am 29 #[Ah (some ⟨R,0,none⟩),Ab Ak (k:Int)] w λ e w'=>∃a n c,e=Aj (Aa a n c)/\Hid (n=(ie k r).1.length/\iE w' (Aa a n c) (ie k r).1/\jJ w' R (ie k r).2/\Aw (λ i=>i=R) w w'):=by
 by_cases b:r.1.length<k
 have e:ie k r=([],([],true)):=by unfold ie;rw[AC b]
 rw[e];refine(Zg h k b).mono ?_;rintro e w' ⟨rfl,J⟩;exact⟨none,0,0,rfl,rfl,⟨none,0,rfl,AA _,by omega,gQ.nil _ _ _⟩,J.o.1,J.o.2⟩
 have e:ie k r=(r.1.take k,(r.1.drop k,r.2)):=by unfold ie;rw[Ay b]
 rw[e];refine(Uc h k b).mono ?_;rintro e w' ⟨a,c,rfl,J⟩;exact⟨a,k,c,rfl,by rw[AE];omega,J.o.1,J.o.2.1,J.o.2.2⟩
theorem IG(h:jJ w R r)(k:Nat)(p:k<=8)(v:Nat)(l:Rs)(j:(val (ie k r).1,(ie k r).2)=(v,l)):
  At Am 30 #[Ah (some ⟨R,0,none⟩),Ab Ak (k:Int)] w λ e w'=>e=Aj (Ab Al (v:Int))/\Hid (jJ w' R l/\Aw (λ i=>i=R) w w'):=by
 have g:=MJ h k;have f:=IV k r
 obtain⟨t,b⟩:=Xa (ie k r)
 rw[b]at g j f
 obtain⟨d,rfl⟩:val t.1=v/\t.2=l:=by simpa using j
 clear j b h;go_enter func30,ntmps30;go_wp2_with fail;refine g.mono ?_;rintro e w1 ⟨a,n,c,rfl,J⟩;have m:=Sy J.o.2.1 J.o.1.symm (by rw[J.o.1];omega);rw[d]at m;clear g d;go_wp2_with fail;refine m.mono ?_;rintro e q ⟨rfl,rfl⟩;go_wp2;go_ret;exact⟨rfl,J.o.2.2.1,J.o.2.2.2⟩
theorem IE(z n:Nat)(I:1<=z)(L:z<=8)(s:gM gP 5 w base v bs)(q:base<=w.heap.size)(r:bs.length<=100000000000000):
  At Am 23 #[v,Ab Ak (z:Int),Ab Al (n:Int)] w λ e w'=>∃v',e=Aj v'/\Hid (gM gP 5 w' base v' (bs++low z n)/\An base w w'/\Aw (λ k=>v.ownBlock=some k) w w'):=by
 have H:=I3 s q r
 obtain⟨b,j⟩:=Xa (z - 1)
 obtain⟨c,l⟩:=Xa (8*b)
 have x:(z:Int) - 1=(b:Int):=by omega
 have A:Ak.wrap (b:Int)=(b:Int):=by rw[Au];omega
 have B:8*(b:Int)=(c:Int):=by omega
 have C:Ak.wrap (c:Int)=(c:Int):=by rw[Au];omega
 have D:Hid ((c:Int)=8*(z:Int) - 8):=by show _=_;omega
 clear s q r j l;go_enter func23,ntmps23;go_wp2_with fail;go_loopg[0,7] z (λ m p J wr=>J=Ab Ak (8*(m:Int) - 8)/\m<=z/\Hid (gM gP 5 wr base p (bs++low (z - m) (n / 256 ^ m))/\An base w wr/\Aw (λ k=>v.ownBlock=some k) w wr/\Dw w v p))
 case atStart=>exact⟨by rw[D.o],AA _,by simpa[low]using H.o.1,Ao _ _,Aw.refl _ _,Dw.refl _ _⟩
 case round =>
  clear x A B C;obtain⟨rfl,K,a⟩:=hrel
  cases gk with
  | zero =>
   go_wp2;go_ret;exact⟨_,rfl,by simpa using a.o.1,a.o.2.1,a.o.2.2.1⟩
  | succ gk =>
   obtain⟨y,i⟩:∃y:UInt8,UInt8.ofNat (n / 256 ^ gk)=y:=⟨_,rfl⟩
   have F:(n:Int) / 2 ^ (8*(gk+1) - 8) % 256=(y.toNat:Int):=by
    have E:((2:Int) ^ (8*gk))=((256 ^ gk:Nat):Int):=by
     rw[show(256:Nat) ^ gk=2 ^ (8*gk) by rw[Nat.pow_mul]];exact(Int.natCast_pow 2 (8*gk)).symm
    rw[<- i,UInt8.toNat_ofNat',show 8*(gk+1) - 8=8*gk by omega,E,<- Int.natCast_ediv];omega
   have t:low (z - gk) (n / 256 ^ gk)=low (z - (gk+1)) (n / 256 ^ (gk+1))++[y]:=by
    rw[show z - gk=(z - (gk+1))+1 by omega,low,i,Nat.div_div_eq_div_mul,<- Nat.pow_succ]
   have u:Hid _:=t
   have G:(bs++low (z - (gk+1)) (n / 256 ^ (gk+1))).length<=100000000000008:=by
    rw[Ax,Bp];have:=H.o.2.2;omega
   clear t i;go_wp2_with(at_builtin;refine BA gP 5 24 1 (Ab .u8 0) rfl Tryz.info5 underlying24 rfl (.tmp 15) (.tmp 20) rfl base _ _ y _ rfl a.o.1 rfl (by omega) (by simp only[AH];omega) (AU H.o.2.1 a.o.2.1.size) _ (by first | rfl | (rw[F];rfl)) ?_;intro v4 M g d f h);go_wp2;go_roundg gk
   case measure=>omega
   case rel=>exact⟨by go_num,by omega,by rw[u.o,<- AT];exact g,a.o.2.1.trans d,a.o.2.2.1.chain a.o.2.2.2 h,a.o.2.2.2.chain a.o.2.1.size f⟩
def lU(K:List Int)(p:Int):Int:=K.getD p.toNat 0
def lu(K:List Int):List Int->Int×Bool
 | []=>(0,false)
 | p::ps=>if lU K p=0 then(p,true)else lu K ps
def kz(K:List Int)(ps:List Int)(g:Int):Int:=ps.foldl (λ g p=>max g (lU K p)) g
theorem TM(K:List Int):∀(ps:List Int) (g:Int),g<=kz K ps g
 | [],_=>Int.le_refl _
 | p::ps,g=>by
  have:=TM K ps (max g (lU K p));show g<=kz K ps (max g (lU K p));omega
theorem dP{G:Option Addr}(I:gQ encI w G K)(L:K.length=kn)(J:gQ encI w pa ps)(hp:ps.length=pn)(g:∀p∈ps,0<=p/\p<(kn:Int))(O:pn<=4000000000000000000)(r:Int×Bool)(M:lu K ps=r):
  At Am 84 #[Aa G kn kc,Aa pa pn pc] w λ e w'=>e=Aj (Af #[Ab Ak r.1,Ad r.2])/\w'=w:=by
 have H:Hid (gQ encI w G K/\K.length=kn/\gQ encI w pa ps/\ps.length=pn/\∀p∈ps,0<=p/\p<(kn:Int)):=⟨I,L,J,hp,g⟩
 have u:=Ih M;obtain⟨q,s⟩:=r;clear I L J hp g M;go_enter func84,ntmps84;go_wp2_with fail;go_loopg[10] pn (λ k v wr=>wr=w/\∃i:Nat,v=Ab Ak i/\i+k=pn/\Hid (lu K (ps.drop i)=(q,s)))
 case atStart=>exact⟨rfl,0,rfl,by omega,by rw[Hq];exact u⟩
 case round =>
  obtain⟨E,i,rfl,hi,t⟩:=hrel;subst E;clear u;by_cases g:i<pn
  have id:(i:Int)<(pn:Int):=by omega
  have d:i<ps.length:=by rw[H.o.2.2.2.1];exact g
  obtain⟨x,z⟩:=Xa (ps[i])
  have j:ps[i]? = some x:=by rw[Aq d,z]
  have m:ps.drop i=x::ps.drop (i+1):=by rw[BT d,z]
  have l:=H.o.2.2.2.2 x (by rw[<- z];exact Cy d);obtain⟨b,off,rfl,_⟩:=H.o.2.2.1.some_of j;have P:=H.o.2.2.1.ints j
  obtain⟨c,rfl⟩:∃c:Nat,x=(c:Int):=⟨x.toNat,by omega⟩
  have n:c<K.length:=by rw[H.o.2.1];omega
  obtain⟨y,F⟩:=Xa (K[c])
  have f:K[c]? = some y:=by rw[Aq n,F]
  obtain⟨R,N,rfl,_⟩:=H.o.1.some_of f;have Q:=H.o.1.ints f
  have h:lU K (c:Int)=y:=by
   show K.getD c 0=y;simp[Cn,f]
  have T:=l.2;have S:=l.1
  have A:Hid (lu K ((c:Int)::ps.drop (i+1))=(q,s)):=by
   have:=t.o;rw[m]at this;exact this
  by_cases D:y=0
  have a:Hid (((c:Int),true)=(q,s)):=by
   have:=A.o;unfold lu at this;rw[h,AC D]at this;exact this
  subst D;clear t A m z j F f h l d n;go_wp2;refine As (AD rfl _ _ _) rfl ?_;have B:q=(c:Int):=(A7 Prod.fst a.o).symm;have C:s=true:=(A7 Prod.snd a.o).symm;rw[B,C];exact⟨rfl,rfl⟩
  have a:Hid (lu K (ps.drop (i+1))=(q,s)):=by
   have:=A.o;unfold lu at this;rw[h,Ay D]at this;exact this
  clear t A m z j F f h l d n;go_wp2;go_roundg (gk - 1)
  case measure=>omega
  case rel=>exact⟨rfl,i+1,by go_num,by omega,a.o⟩
  have a:Hid ((0,false)=(q,s)):=by
   have:=t.o;rw[C4 (by rw[H.o.2.2.2.1];omega)]at this;exact this
  have id:¬(i:Int)<(pn:Int):=by omega
  clear t;go_wp2;refine As (AD rfl _ _ _) rfl ?_;have B:q=0:=(A7 Prod.fst a.o).symm;have C:s=false:=(A7 Prod.snd a.o).symm;rw[B,C];exact⟨rfl,rfl⟩
theorem Yc{D:Option Addr}(E:gQ encI w D K)(G:K.length=kn)(F:gQ encI w pa ps)(hp:ps.length=pn)(c:∀p∈ps,0<=p/\p<(kn:Int))(P:pn<=4000000000000000000)(r:Int)(I:min (kz K ps 0) 249+1=r):
  At Am 85 #[Aa D kn kc,Aa pa pn pc] w λ e w'=>e=Aj (Ab Ak r)/\w'=w:=by
 have H:Hid (gQ encI w D K/\K.length=kn/\gQ encI w pa ps/\ps.length=pn/\∀p∈ps,0<=p/\p<(kn:Int)):=⟨E,G,F,hp,c⟩
 have A:=Ih I;clear E G F hp c I;go_enter func85,ntmps85;go_wp2_with fail;go_loopg[5,10] pn (λ k M v wr=>wr=w/\∃(i:Nat) (g:Int),v=Ab Ak i/\M=Ab Ak g/\i+k=pn/\0<=g/\Hid (kz K (ps.drop i) g=kz K ps 0))
 case atStart=>exact⟨rfl,0,0,rfl,rfl,by omega,Int.le_refl _,by rw[Hq];exact(rfl:kz K ps 0=kz K ps 0)⟩
 case round =>
  obtain⟨C,i,g,rfl,rfl,hi,T,u⟩:=hrel;subst C;by_cases c:i<pn
  ·have id:(i:Int)<(pn:Int):=by omega
   have a:i<ps.length:=by rw[H.o.2.2.2.1];exact c
   obtain⟨x,z⟩:=Xa (ps[i])
   have h:ps[i]? = some x:=by rw[Aq a,z]
   have n:ps.drop i=x::ps.drop (i+1):=by rw[BT a,z]
   have j:=H.o.2.2.2.2 x (by rw[<- z];exact Cy a);obtain⟨b,off,rfl,_⟩:=H.o.2.2.1.some_of h;have Q:=H.o.2.2.1.ints h
   obtain⟨f,rfl⟩:∃f:Nat,x=(f:Int):=⟨x.toNat,by omega⟩
   have s:f<K.length:=by rw[H.o.2.1];omega
   obtain⟨y,J⟩:=Xa (K[f])
   have d:K[f]? = some y:=by rw[Aq s,J]
   obtain⟨U,L,rfl,_⟩:=H.o.1.some_of d;have R:=H.o.1.ints d
   have q:lU K (f:Int)=y:=by
    show K.getD f 0=y;simp[Cn,d]
   have X:=j.2;have W:=j.1
   have t:Hid (kz K (ps.drop (i+1)) (max g y)=kz K ps 0):=by
    have:=u.o;rw[n]at this;rw[<- q];exact this
   clear u n z h J d q j a s;by_cases O:g<y
   have m:max g y=y:=by omega
   rw[m]at t;clear m;go_wp2;go_roundg (gk - 1)
   case measure=>omega
   case rel=>exact⟨rfl,i+1,y,by go_num,by first | rfl | go_num,by omega,by omega,t.o⟩
   ·have m:max g y=g:=by omega
    rw[m]at t;clear m;go_wp2
    all_goals
     go_roundg (gk - 1)
     case measure=>omega
     case rel=>exact⟨rfl,i+1,g,by go_num,by first | rfl | (congr 1;omega),by omega,by omega,t.o⟩
  ·have l:Hid (min g 249+1=r):=by
    have:=u.o;rw[C4 (by rw[H.o.2.2.2.1];omega)]at this;have e:g=kz K ps 0:=this;rw[e];exact A.o
   have id:¬(i:Int)<(pn:Int):=by omega
   clear u;by_cases S:g<249
   ·have V:Ak.wrap (g+1)=g+1:=by rw[Au];omega
    have e:r=g+1:=by have:=l.o;omega
    subst e;go_wp2
    all_goals
     go_ret
     first
      | exact⟨rfl,rfl⟩
      | exact⟨by rw[show min g 249=g by omega];rfl,rfl⟩
   ·have e:r=250:=by have:=l.o;omega
    subst e;by_cases B:g=249
    ·subst B;go_wp2
     all_goals
      go_ret;exact⟨rfl,rfl⟩
    ·have N:249<g:=by omega
     go_wp2
     all_goals
      go_ret
      first
       | exact⟨rfl,rfl⟩
       | exact⟨by rw[show min g 249=249 by omega];rfl,rfl⟩
structure Rw where
 id:UInt64
 tree:UInt64
 date:Int
 ps:List Int
 gen:Int
 fb:Bs
structure LV where
 id:UInt64
 tree:UInt64
 date:Int
 pa:Option Addr
 pn:Nat
 pc:Nat
 gen:Int
 fa:Option Addr
 fn:Nat
 fc:Nat
variable {bvs vs:List LV}
def LV.cells(v:LV):List Ar:=[Ab Al (v.id.toNat:Int),Ab Al (v.tree.toNat:Int),Ab Ak v.date,Aa v.pa v.pn v.pc,Ab Ak v.gen,Aa v.fa v.fn v.fc]
def mU(w:Ap)(v:LV)(r:Rw):Prop:=v.id=r.id/\v.tree=r.tree/\v.date=r.date/\v.gen=r.gen/\gQ encI w v.pa r.ps/\r.ps.length=v.pn/\iE w (Aa v.fa v.fn v.fc) r.fb/\r.fb.length=v.fn
theorem mU.below{v:LV}{r:Rw}(h:mU w v r)(a:Iz w w'):mU w' v r:=⟨h.1,h.2.1,h.2.2.1,h.2.2.2.1,h.2.2.2.2.1.below a,h.2.2.2.2.2.1,h.2.2.2.2.2.2.1.below a,h.2.2.2.2.2.2.2⟩
def wu(z:Int):Nat:=(z % 18446744073709551616).toNat
theorem Jf(z:Int):Al.wrap z=(wu z:Int):=by
 rw[A5];unfold wu;omega
theorem On(h:n<18446744073709551616):wu (n:Int)=n:=by
 unfold wu;omega
def lJ(ps:List Int):Bs:=ps.flatMap λ p=>low 4 (wu p)
def iJ(r:Rw):Bs:=low 8 r.id.toNat++low 8 r.tree.toNat++low 8 (wu r.date)++low 1 r.ps.length++lJ r.ps++low 1 (wu r.gen)++low 2 r.fb.length++r.fb
theorem Jj:∀ps:List Int,(lJ ps).length=4*ps.length
 | []=>rfl
 | p::ps=>by
  have:=Jj ps;unfold lJ at this ⊢;rw[List.flatMap_cons,Ax,Bp,this,A2];omega
theorem Rx(h:i<ps.length):lJ (ps.take (i+1))=lJ (ps.take i)++low 4 (wu ps[i]):=by
 unfold lJ;rw[List.take_succ_eq_append_getElem h,List.flatMap_append];simp
theorem gM.ne_box{E:ju α}{c:AP}{xs:List α}{C:Array Ar}(h:gM E t w base v xs)(b:w.heap[B]? = some (Ai C c (0,0)))(a:t≠c):¬v.ownBlock=some B:=by
 intro e
 rcases h.2 with⟨rfl,_⟩ | ⟨g,cap,d,rfl,i,f,_⟩
 simp[BQ]at e
 have:g=B:=by simpa[BQ]using e
 subst this;rw[f]at b;cases b;exact a rfl
theorem mr{p:Prop}(h:p):Hid p:=h
structure AR(w:Ap)(B:Nat)(rv:List Ar)(base:Nat)(u:Ap)(v:Ar)(bs:Bs)(m:Nat):Prop where
 own:gM gP 5 u base v bs
 bel:An base w u
 box:u.heap[B]? = some (Ai rv.toArray 65 (0,0))
 len:bs.length<=m
theorem AR.next{w u u':World}{rv:List Value}{m':Nat}{v v':Value}{a:Bs}(h:AR w B rv base u v bs m)(b:gM gP 5 u' base v' a)(c:An base u u')(d:Aw (λ k=>v.ownBlock=some k) u u')(e:a.length<=m'):AR w B rv base u' v' a m' :=
 ⟨b,h.bel.trans c,(d.block B (Ba.1 h.box).1 (h.own.ne_box h.box (by decide))).trans h.box,e⟩
theorem AR.cell{a b c d e f:Ar}(h:AR w B [a,b,c,d,e,f] base u v bs m):
  u.cell? ⟨B,0,none⟩=some a/\u.cell? ⟨B,1,none⟩=some b/\u.cell? ⟨B,2,none⟩=some c/\u.cell? ⟨B,3,none⟩=some d/\u.cell? ⟨B,4,none⟩=some e/\u.cell? ⟨B,5,none⟩=some f:=by
 have g:=h.box;simp[World.cell?,g]
theorem AR.new(w:Ap)(rv:List Ar)(h:gM gP 5 w base v bs)(a:base<=w.heap.size)(b:bs.length<=m):AR w w.heap.size rv base (w.alloc (Ai rv.toArray 65)) v bs m :=
 ⟨h.below (gW w _),(gW w _).mono a,by show(w.heap.push _)[w.heap.size]? = _;simp,b⟩
theorem Vs{rid b:UInt64}{a rgen:Int}{fa:Option Addr}{fn fc:Nat}{r:Rw}(ho:gM gP 5 w base v bs)(hb:base<=w.heap.size)(hl:bs.length<=10000000000000)(Y:∀u,An base w u->mU u ⟨rid,b,a,pa,pn,pc,rgen,fa,fn,fc⟩ r)(hp:pn<=1000000000000)(hf:fn<=10000000000000):
  At Am 24 #[v,.agg #[Ab Al (rid.toNat:Int),Ab Al (b.toNat:Int),Ab Ak a,Aa pa pn pc,Ab Ak rgen,Aa fa fn fc]] w λ e w'=>∃v',e=Aj v'/\Hid (gM gP 5 w' base v' (bs++iJ r)/\An base w w'):=by
 obtain⟨B,hB⟩:=Xa w.heap.size
 obtain⟨u0,H⟩:=Xb (w.alloc (Ai #[Ab Al (rid.toNat:Int),Ab Al (b.toNat:Int),Ab Ak a,Aa pa pn pc,Ab Ak rgen,Aa fa fn fc] 65))
 have q:Hid (AR w B [Ab Al (rid.toNat:Int),Ab Al (b.toNat:Int),Ab Ak a,Aa pa pn pc,Ab Ak rgen,Aa fa fn fc] base u0 v bs 10000000000000):=by
  rw[H,<- hB];exact AR.new w [Ab Al (rid.toNat:Int),Ab Al (b.toNat:Int),Ab Ak a,Aa pa pn pc,Ab Ak rgen,Aa fa fn fc] ho hb hl
 have HR:Hid (∀u,An base w u->gQ encI u pa r.ps/\iE u (Aa fa fn fc) r.fb):=λ u hu=>⟨(Y u hu).2.2.2.2.1,(Y u hu).2.2.2.2.2.2.1⟩
 have p:=Y w (Ao _ _)
 have EQ:Hid (iJ r=low 8 rid.toNat++low 8 b.toNat++low 8 (wu a)++low 1 pn++lJ r.ps++low 1 (wu rgen)++low 2 fn++r.fb):=by
  show _=_;unfold iJ;rw[<- p.1,<- p.2.1,<- p.2.2.1,<- p.2.2.2.1,p.2.2.2.2.2.1,p.2.2.2.2.2.2.2]
 have J:=I2 p.2.2.2.2.2.1 p.2.2.2.2.2.2.2
 have d1:=Jf a;have d2:=Jf rgen
 have d3:Al.wrap (pn:Int)=(pn:Int):=by rw[A5];omega
 have d4:Al.wrap (fn:Int)=(fn:Int):=by rw[A5];omega
 clear ho hl Y p;go_enter func24,ntmps24
 go_upto_region 1 with fail
 rw[<- H];have d:=Ih hb;clear H hb hB;have c:=IE 8 rid.toNat (by decide) (by decide) q.o.own (AU d.o q.o.bel.size) (by have:=q.o.len;omega);obtain⟨f,g,j,l,m,n⟩:=q.o.cell;go_wp2_with fail;refine c.mono ?_;rintro e u1 ⟨v1,rfl,R⟩;have s:=mr (q.o.next (m':=10000000000008) R.o.1 R.o.2.1 R.o.2.2 (by have:=q.o.len;rw[Ax,Bp];omega));clear c f g j l m n q R;have c:=IE 8 b.toNat (by decide) (by decide) s.o.own (AU d.o s.o.bel.size) (by have:=s.o.len;omega);obtain⟨f,g,j,l,m,n⟩:=s.o.cell;go_wp2_with fail;refine c.mono ?_;rintro e u2 ⟨v2,rfl,S⟩;have t:=mr (s.o.next (m':=10000000000016) S.o.1 S.o.2.1 S.o.2.2 (by have:=s.o.len;rw[Ax,Bp];omega));clear c f g j l m n s S;have c:=IE 8 (wu a) (by decide) (by decide) t.o.own (AU d.o t.o.bel.size) (by have:=t.o.len;omega);obtain⟨f,g,j,l,m,n⟩:=t.o.cell;go_wp2_with fail;refine c.mono ?_;rintro e u3 ⟨v3,rfl,T⟩;have y:=mr (t.o.next (m':=10000000000024) T.o.1 T.o.2.1 T.o.2.2 (by have:=t.o.len;rw[Ax,Bp];omega));clear c f g j l m n t T;have c:=IE 1 pn (by decide) (by decide) y.o.own (AU d.o y.o.bel.size) (by have:=y.o.len;omega);obtain⟨f,g,j,l,m,n⟩:=y.o.cell;go_wp2_with fail;refine c.mono ?_;rintro e u4 ⟨v4,rfl,U⟩;have X:=mr (y.o.next (m':=10000000000032) U.o.1 U.o.2.1 U.o.2.2 (by have:=y.o.len;rw[Ax,Bp];omega));clear c f g j l m n y U;obtain⟨f,g,j,l,m,n⟩:=X.o.cell
 obtain⟨Q,C⟩:=Xa (bs++low 8 rid.toNat++low 8 b.toNat++low 8 (wu a)++low 1 pn)
 have E4:=Ih C;rw[C]at X;clear C;go_wp2_with fail;go_loopg[0,29] pn (λ k bv iv wr=>∃i:Nat,iv=Ab Ak i/\i+k=pn/\Hid (AR w B [Ab Al (rid.toNat:Int),Ab Al (b.toNat:Int),Ab Ak a,Aa pa pn pc,Ab Ak rgen,Aa fa fn fc] base wr bv (Q++lJ (r.ps.take i)) 14000000000032))
 case atStart=>exact⟨0,rfl,by omega,by
  have h:=X.o
  exact⟨by simpa[lJ]using h.own,h.bel,h.box,by have:=h.len;simp[lJ];omega⟩⟩
 case round =>
  obtain⟨i,rfl,hi,SR⟩:=hrel;clear f g j l m n;by_cases ac:i<pn
  ·have id:(i:Int)<(pn:Int):=by omega
   have D:i<r.ps.length:=by rw[J.o.1];exact ac
   obtain⟨x,hx⟩:=Xa (r.ps[i])
   have I:r.ps[i]? = some x:=by rw[Aq D,hx]
   have rr:=(HR.o wr SR.o.bel).1;obtain⟨pb,ah,rfl,_⟩:=rr.some_of I;have cx:=rr.ints I;have aa:=X.o.len
   have ae:(lJ (r.ps.take (i+1))).length<=4*pn:=by rw[Jj,AE];have:=J.o.1;omega
   have N:(lJ (r.ps.take i)).length<=4*pn:=by rw[Jj,AE];have:=J.o.1;omega
   have G:=Rx D;rw[hx]at G;have w1:=Jf x;have c:=IE 4 (wu x) (by decide) (by decide) SR.o.own (AU d.o SR.o.bel.size) (by have:=SR.o.len;omega)
   have SN:=I2 G (by rw[Ax];omega:(Q++lJ (r.ps.take (i+1))).length<=14000000000032)
   clear G hx I D aa ae N rr;go_wp2_with fail;refine c.mono ?_;rintro e u5 ⟨v5,rfl,J5⟩;clear c;go_wp2;go_roundg (gk - 1)
   case measure=>omega
   case rel=>exact⟨i+1,by go_num,by omega,SR.o.next (by rw[SN.o.1,<- AT];exact J5.o.1) J5.o.2.1 J5.o.2.2 SN.o.2⟩
  ·have M:i=pn:=by omega
   have id:¬(i:Int)<(pn:Int):=by omega
   have P:r.ps.take pn=r.ps:=Av (by rw[J.o.1];exact AA _);rw[M,P]at SR;clear M;have z:=SR;clear SR P;have c:=IE 1 (wu rgen) (by decide) (by decide) z.o.own (AU d.o z.o.bel.size) (by have:=z.o.len;omega);obtain⟨f,g,j,l,m,n⟩:=z.o.cell;go_wp2_with fail;refine c.mono ?_;rintro e u6 ⟨v6,rfl,V⟩;have A:=mr (z.o.next (m':=14000000000040) V.o.1 V.o.2.1 V.o.2.2 (by have:=z.o.len;rw[Ax,Bp];omega));clear c f g j l m n z V;have c:=IE 2 fn (by decide) (by decide) A.o.own (AU d.o A.o.bel.size) (by have:=A.o.len;omega);obtain⟨f,g,j,l,m,n⟩:=A.o.cell;go_wp2_with fail;refine c.mono ?_;rintro e u7 ⟨v7,rfl,W⟩;have K:=mr (A.o.next (m':=14000000000048) W.o.1 W.o.2.1 W.o.2.2 (by have:=A.o.len;rw[Ax,Bp];omega));clear c f g j l m n A W;obtain⟨f,g,j,l,m,n⟩:=K.o.cell;have BF:=(HR.o u7 K.o.bel).2;have ab:=J.o.2;have af:=K.o.len;have O:=K.o.own;have F:=K.o.bel;go_wp2_with(at_builtin;refine nG rfl (.tmp 49) (.tmp 51) rfl base v7 (Aa fa fn fc) _ r.fb (by simp[Act.eval]) O (by simp[Act.eval]) BF (by rw[ab];omega) (AU d.o F.size) ?_;intro v9 w9 E L ad ag)
   have Z:Hid (gM gP 5 w9 base v9 (bs++iJ r)/\An base w w9):=by
    refine⟨?_,F.trans L⟩;rw[EQ.o];rw[<- E4.o]at E;simpa only[AT]using E
   clear E L ad ag af O F BF;go_wp2;go_ret;exact⟨_,rfl,Z⟩
def iG:ju LV:=⟨λ v=>v.cells,6,λ _=>rfl,by decide,by intro x u h;simp[LV.cells]at h;rcases h with rfl|rfl|rfl|rfl|rfl|rfl <;> rfl⟩
theorem gQ.lrows {w:World} {b off:Nat} {vs:List LV} (h:gQ iG w (some ⟨b,off,none⟩) vs) {i:Nat} {v:LV} (hx:vs[i]? = some v) :
  w.cell? ⟨b,off+i*6,none⟩=some (.int .u64 (v.id.toNat:Int))/\w.cell? ⟨b,off+i*6+1,none⟩=some (.int .u64 (v.tree.toNat:Int))/\w.cell? ⟨b,off+i*6+2,none⟩=some (.int .i64 v.date)/\w.cell? ⟨b,off+i*6+3,none⟩=some (.slice v.pa v.pn v.pc)/\w.cell? ⟨b,off+i*6+4,none⟩=some (.int .i64 v.gen)/\w.cell? ⟨b,off+i*6+5,none⟩=some (.slice v.fa v.fn v.fc):=by
 obtain ⟨b', off', e, hlt, hc⟩ := h (by rcases Nat.lt_or_ge i vs.length with q | q
                                        omega
                                        rw [List.getElem?_eq_none q] at hx; cases hx)
 obtain ⟨rfl,rfl⟩:b=b'/\off=off':=by simpa using e
 have h0:=hc i v hx 0 _ rfl;have h1:=hc i v hx 1 _ rfl;have h2:=hc i v hx 2 _ rfl;have h3:=hc i v hx 3 _ rfl;have h4:=hc i v hx 4 _ rfl;have h5:=hc i v hx 5 _ rfl;exact ⟨by simpa [iG] using h0,by simpa [iG,Nat.add_assoc] using h1,by simpa [iG,Nat.add_assoc] using h2,by simpa [iG,Nat.add_assoc] using h3,by simpa [iG,Nat.add_assoc] using h4,by simpa [iG,Nat.add_assoc] using h5⟩
structure oe(w:Ap)(vs:List LV)(rs:List Rw):Prop where
 len:vs.length=rs.length
 at_:∀(i:Nat) (v:LV) (r:Rw),vs[i]? = some v->rs[i]? = some r->mU w v r
def km(below:Int)(rs:List Rw):Bs:=[70,66,76,49]++low 4 (wu below)++low 4 rs.length++rs.flatMap iJ
def lD(K ps:List Int):Int:=min (kz K ps 0) 249+1
theorem OI(K ps:List Int):1<=lD K ps:=by
 have:=TM K ps 0;unfold lD;omega
theorem TB(K ps:List Int):lD K ps<=250:=by
 unfold lD;omega
theorem Tw{K a:List Int}:∀(ps:List Int) (g:Int),(∀p∈ps,lU K p=lU a p)->kz K ps g=kz a ps g
 | [],_,_=>rfl
 | p::ps,g,h=>by
  show kz K ps (max g (lU K p))=kz a ps (max g (lU a p));rw[h p Bj];exact Tw ps _ (λ q hq=>h q (Bl _ hq))
theorem KB{a:List Int}(h:∀p∈ps,lU K p=lU a p):lD K ps=lD a ps:=by
 unfold lD;rw[Tw ps 0 h]
theorem Iq{B:List Int}(a:0<=p)(h:p<(A.length:Int)):lU (A++B) p=lU A p:=by
 unfold lU Cn;rw[List.getElem?_append_left (by omega)]
theorem Iu{B:List Int}(q:Nat):lU (A++B) ((A.length+q:Nat):Int)=B.getD q 0:=by
 unfold lU Cn;rw[show((A.length+q:Nat):Int).toNat=A.length+q by omega,List.getElem?_append_right (by omega)]
 congr 2
 omega
structure kx(Bg:List Int)(pss:List (List Int))(G:List Int):Prop where
 len:G.length=pss.length
 eq:∀(i:Nat) (ps:List Int),pss[i]? = some ps->G[i]? = some (lD (Bg++G) ps)
structure EA(b:Nat)(pss:List (List Int))(rk:Nat->Nat):Prop where
 in_:∀ps∈pss,∀p∈ps,0<=p/\p<((b+pss.length:Nat):Int)
 le:∀i,i<pss.length->rk i<=pss.length
 lt:∀(i:Nat) (ps:List Int),pss[i]? = some ps->∀q:Nat,((b+q:Nat):Int)∈ps->rk q<rk i
def nS(Bg:List Int)(pss:List (List Int))(G:List Int):List Int:=pss.map (λ ps=>lD (Bg++G) ps)
def lQ(Bg:List Int)(pss:List (List Int)):Nat->List Int
 | 0=>Bk pss.length 0
 | k+1=>nS Bg pss (lQ Bg pss k)
theorem d8(Bg:List Int)(pss:List (List Int)):∀k,(lQ Bg pss k).length=pss.length
 | 0=>by simp[lQ]
 | k+1=>by simp[lQ,nS]
theorem MV{pss:List (List Int)}(h:pss[i]? = some ps):(lQ Bg pss (k+1))[i]? = some (lD (Bg++lQ Bg pss k) ps):=by
 show(pss.map _)[i]? = _;rw[Bo,h]
 rfl
theorem PF{pss:List (List Int)}(h:EA Bg.length pss rk):∀(k m i:Nat) (ps:List Int),pss[i]? = some ps->rk i<k->rk i<m->(lQ Bg pss k)[i]? = (lQ Bg pss m)[i]?
 | 0,_,_,_,_,h1,_=>absurd h1 (DE _)
 | _+1,0,_,_,_,_,h2=>absurd h2 (DE _)
 | k+1,m+1,i,ps,hi,h1,h2=>by
  rw[MV hi,MV hi]
  congr 1
  refine KB (λ p hp=>?_);obtain⟨b,d⟩:=h.in_ ps (A8 hi) p hp;by_cases a:p<(Bg.length:Int);rw[Iq b a,Iq b a]
  obtain⟨q,rfl⟩:∃q:Nat,p=((Bg.length+q:Nat):Int):=⟨p.toNat - Bg.length,by omega⟩
  have hq:q<pss.length:=by omega
  have c:=h.lt i ps hi q hp;have:=PF h k m q pss[q] (Aq hq) (by omega) (by omega);rw[Iu,Iu,Cn,Cn,this]
theorem dh{pss:List (List Int)}(h:EA Bg.length pss rk):∃G,kx Bg pss G:=by
 refine⟨lQ Bg pss (pss.length+1),d8 _ _ _,λ i ps hi=>?_⟩;rw[MV hi]
 congr 1
 have a:i<pss.length:=(AG.1 hi).1;refine KB (λ p hp=>?_);obtain⟨c,f⟩:=h.in_ ps (A8 hi) p hp;by_cases b:p<(Bg.length:Int)
 rw[Iq c b,Iq c b]
 obtain⟨q,rfl⟩:∃q:Nat,p=((Bg.length+q:Nat):Int):=⟨p.toNat - Bg.length,by omega⟩
 have hq:q<pss.length:=by omega
 have e:=h.lt i ps hi q hp;have d:=h.le i a;have:=PF h pss.length (pss.length+1) q pss[q] (Aq hq) (by omega) (by omega);rw[Iu,Iu,Cn,Cn,this]
theorem kx.pos{pss:List (List Int)}(h:kx Bg pss G):∀g∈G,1<=g/\g<=250:=by
 intro g a;obtain⟨i,hi,rfl⟩:=List.getElem_of_mem a
 have hp:i<pss.length:=by rw[<- h.len];exact hi
 have:=h.eq i pss[i] (Aq hp);rw[Aq hi,Option.some_inj]at this;rw[this];exact⟨OI _ _,TB _ _⟩
def LV.wg(v:LV)(g:Int):LV:={ v with gen:=g }
def ly(vs:List LV)(X:List Int):List LV:=List.zipWith LV.wg vs X
theorem gB(h:X.length=vs.length):(ly vs X).length=vs.length:=by simp[ly,h]
theorem LQ{v:LV}(h:vs[q]? = some v)(a:X[q]? = some g):(ly vs X)[q]? = some (v.wg g):=by
 unfold ly;rw[List.getElem?_zipWith,h,a]
theorem Q7:∀{vs:List LV} {X:List Int} {q:Nat} {v:LV} (g:Int),vs[q]? = some v->(ly vs X).set q (v.wg g)=ly vs (X.set q g)
 | [],_,_,_,_,h=>by simp at h
 | _::_,[],_,_,_,_=>by simp[ly]
 | x::t,y::s,0,v,g,h=>by
  have e:x=v:=by simpa using h
  subst e;simp[ly]
 | x::t,y::s,q+1,v,g,h=>by
  have:=Q7 (vs:=t) (X:=s) g (by simpa using h:t[q]? = some v);simp only[ly]at this;simp[ly,this]
theorem PE:∀{vs:List LV},(∀v∈vs,v.gen=0)->ly vs (Bk vs.length 0)=vs
 | [],_=>rfl
 | x::t,h=>by
  have:=PE (vs:=t) (λ v a=>h v (Bl _ a));simp only[ly]at this
  have e:x.wg 0=x:=by
   have:=h x Bj;unfold LV.wg;cases x
   simp_all
  simp[ly,EK,this,e]
def nz(X:List Int):Nat:=X.count 0
theorem MU:∀{X:List Int} {q:Nat} {g:Int},X[q]? = some 0->g≠0->nz (X.set q g)+1=nz X
 | [],_,_,h,_=>by simp at h
 | x::t,0,g,h,hg=>by
  have e:x=0:=by simpa using h
  subst e;simp[nz,hg]
 | x::t,q+1,g,h,hg=>by
  have:=MU (X:=t) (by simpa using h:t[q]? = some 0) hg;unfold nz at this ⊢;rw[List.set_cons_succ,Hj,Hj];omega
theorem Yb(h:X[q]? = some g):X.set q g=X:=by
 obtain⟨hq,e⟩:=AG.1 h;rw[<- e,List.set_getElem_self]
structure XI(G X:List Int):Prop where
 len:X.length=G.length
 or_:∀(q:Nat) (g:Int),G[q]? = some g->X[q]? = some 0∨X[q]? = some g
theorem XI.zero(G:List Int):XI G (Bk G.length 0):=⟨by simp,λ q g h=>by
 have:=(AG.1 h).1
 exact .inl (by rw[List.getElem?_replicate,AC this])⟩
theorem XI.set(h:XI G X)(b:G[q]? = some g):XI G (X.set q g):=by
 refine⟨by rw[List.length_set,h.len],λ j x a=>?_⟩;by_cases e:q=j
 subst e;rw[b]at a;cases a;have:=(AG.1 b).1;exact .inr (by rw[Cp (by rw[h.len];exact this)])
 rw[CH e];exact h.or_ j x a
theorem PN:∀{ps:List Int} {p:Int},lu K ps=(p,true)->p∈ps/\lU K p=0
 | [],_,h=>by simp[lu]at h
 | x::t,p,h=>by
  unfold lu at h
  split at h
  ·rename_i e
   cases h;exact⟨Bj,e⟩
  have:=PN h;exact⟨Bl _ this.1,this.2⟩
theorem Pw{K:List Int}:∀{ps:List Int} {r:Int},lu K ps=(r,false)->∀p∈ps,lU K p≠0
 | [],_,_=>by simp
 | x::t,r,h=>by
  unfold lu at h
  split at h
  cases h
  ·rename_i e
   intro p hp
   rcases List.mem_cons.1 hp with rfl|q
   exact e;exact Pw h p q
section
variable {Bg:List Int}{pss:List (List Int)}{G X:List Int}{rk:Nat->Nat}{ps:List Int}{i:Nat}
theorem UE(j:∀g∈Bg,1<=g)(d:EA Bg.length pss rk)(m:X.length=pss.length)(hi:pss[i]? = some ps)(h:lu (Bg++X) ps=(p,true)):∃q:Nat,p=((Bg.length+q:Nat):Int)/\q<pss.length/\X[q]? = some 0/\rk q<rk i:=by
 obtain⟨c,b⟩:=PN h;obtain⟨l,n⟩:=d.in_ ps (A8 hi) p c;by_cases k:p<(Bg.length:Int)
 rw[Iq l k]at b
 have f:p.toNat<Bg.length:=by omega
 have e:lU Bg p=Bg[p.toNat]:=by
  unfold lU;rw[Cn,Aq f]
  rfl
 have:=j _ (Cy f);omega
 obtain⟨q,rfl⟩:∃q:Nat,p=((Bg.length+q:Nat):Int):=⟨p.toNat - Bg.length,by omega⟩
 have hq:q<pss.length:=by omega
 rw[Iu]at b
 have a:q<X.length:=by omega
 rw[Cn,Aq a]at b;exact⟨q,rfl,hq,by rw[Aq a];exact A7 some b,d.lt i ps hi q c⟩
theorem UB(f:EA Bg.length pss rk)(b:kx Bg pss G)(g:XI G X)(hi:pss[i]? = some ps){r:Int}(h:lu (Bg++X) ps=(r,false)):G[i]? = some (lD (Bg++X) ps):=by
 rw[b.eq i ps hi]
 congr 1
 refine KB (λ p hp=>?_);have a:=Pw h p hp;obtain⟨d,j⟩:=f.in_ ps (A8 hi) p hp;by_cases c:p<(Bg.length:Int)
 rw[Iq d c,Iq d c]
 obtain⟨q,rfl⟩:∃q:Nat,p=((Bg.length+q:Nat):Int):=⟨p.toNat - Bg.length,by omega⟩
 have hq:q<G.length:=by rw[b.len];omega
 rw[Iu]at a;rw[Iu,Iu]
 rcases g.or_ q G[q] (Aq hq)with e|e
 rw[Cn,e]at a;exact absurd rfl a
 rw[Cn,Cn,e,Aq hq]
end
structure WQ(rk:Nat->Nat)(n i:Nat)(G X:List Int)(W:List Nat):Prop where
 falls:W.Pairwise (λ a b=>rk b<rk a)
 open_:∀q∈W.tail,X[q]? = some 0
 in_:∀q∈W,q<n
 head:W.head? = some i∨(W=[]/\X[i]? = G[i]?)
def mu(rk:Nat->Nat)(n:Nat)(X:List Int)(W:List Nat):Nat:=nz X*(n+2)+(match W.getLast? with
 | none=>0
 | some q=>rk q+1)
theorem Sa:∀{W:List Nat} {a:Nat},(a::W).Pairwise (λ a b=>rk b<rk a)->(a::W).length<=rk a+1
 | [],_,_=>by simp
 | b::t,a,h=>by
  have c:=Sa (Br.1 h).2;have d:=(Br.1 h).1 b Bj;simp only[A2]at c ⊢;omega
theorem WQ.short(h:WQ rk n i G X W)(b:∀j,j<n->rk j<=n):W.length<=n+1:=by
 cases W with
 | nil=>simp
 | cons a t =>
  have c:=Sa h.falls;have d:=b a (h.in_ a Bj);omega
theorem WQ.push{p:Nat}(h:WQ rk n i G X (W++[q]))(hp:p<n)(j:X[p]? = some 0)(g:rk p<rk q):WQ rk n i G X (W++[q]++[p])/\mu rk n X (W++[q]++[p])<mu rk n X (W++[q]):=by
 constructor
 refine⟨?_,?_,?_,.inl ?_⟩
 refine Di.2 ⟨h.falls,by simp,λ a c b f=>?_⟩;rw[AZ]at f;subst f
 rcases AN.1 c with c|c
 have:=(Di.1 h.falls).2.2 a c q (by simp);omega
 rw[AZ]at c;subst c;exact g
 intro x d;rw[List.tail_append_of_ne_nil (by simp)]at d
 rcases AN.1 d with c|c
 exact h.open_ x c
 rw[AZ]at c;rw[c];exact j
 intro x d
 rcases AN.1 d with c|c
 exact h.in_ x c
 rw[AZ]at c;rw[c];exact hp
 rcases h.head with e|⟨e,_⟩
 rw[List.head?_append,e]
 rfl
 simp at e
 unfold mu;rw[GH,GH];simp;omega
theorem WQ.pop {rk:Nat->Nat} {n i q:Nat} {G X:List Int} {W:List Nat} {g:Int} (h:WQ rk n i G X (W++[q])) (hX:XI G X) (hg:G[q]? = some g) (h0:g≠0) (hrk:∀ j,j<n->rk j<=n):WQ rk n i G (X.set q g) W/\mu rk n (X.set q g) W<mu rk n X (W++[q]):=by
 have hq:q<X.length:=by rw [hX.len]; exact (List.getElem?_eq_some_iff.1 hg).1
 obtain ⟨f1,_,f3⟩:=List.pairwise_append.1 h.falls
 have hne:∀ a∈W,a≠q:=λ a ha e=>by
  have:=f3 a ha q (by simp);rw [e] at this;omega
 constructor
 refine ⟨f1,λ x hx=>?_,λ x hx=>h.in_ x (List.mem_append.2 (.inl hx)),?_⟩
 have hm:=List.mem_of_mem_tail hx;rw [List.getElem?_set_ne (hne x hm).symm];refine h.open_ x ?_
 cases W with
 | nil=>simp at hx
 | cons a t =>
  rw [List.cons_append,List.tail_cons];exact List.mem_append.2 (.inl hx)
 cases W with
 | nil =>
  refine .inr ⟨rfl,?_⟩
  rcases h.head with e | ⟨e,_⟩
  have e2:q=i:=by simpa using e
  subst e2;rw [List.getElem?_set_self hq,hg];simp at e
 | cons a t =>
  refine .inl ?_
  rcases h.head with e | ⟨e,_⟩
  simpa using e;simp at e
 unfold mu;rw [List.getLast?_append];simp only [List.getLast?_singleton,Option.some_or]
 cases W with
 | nil =>
  simp only [List.getLast?_nil]
  rcases hX.or_ q g hg with e | e
  have:=MU e h0;rw [<- this,Nat.add_mul];omega;rw [Yb e];omega
 | cons a t =>
  have e:=h.open_ q (by simp);have:=MU e h0;rw [<- this,Nat.add_mul]
  cases hl:(a::t).getLast? with
  | none => simp
            omega
  | some z =>
   have hz:=List.mem_of_getLast? hl;have:=hrk z (h.in_ z (List.mem_append.2 (.inl hz)));simp only;omega
theorem Sl(h:gM iG 65 u base (Aa (some ⟨rg,0,none⟩) c rc) vs){v:LV}(f:vs[i]? = some v):
  u.cell? ⟨rg,i*6+3,none⟩=some (Aa v.pa v.pn v.pc)/\u.cell? ⟨rg,i*6+4,none⟩=some (Ab Ak v.gen)/\u.frozen? ⟨rg,i*6+4,none⟩=false:=by
 obtain⟨_,_,_,a,b,_⟩:=h.rdc.1.lrows f;rw[Nat.zero_add]at a b;refine⟨a,b,?_⟩;have e:=DC h;subst e;have d:=h;exact d.frozenAt _
theorem U3(h:gM iG 65 u base (Aa (some ⟨rg,0,none⟩) a rc) vs){v:LV}(b:vs[i]? = some v)(g:Int):
  gM iG 65 (u.setCell ⟨rg,i*6+4,none⟩ (Ab Ak g)) base (Aa (some ⟨rg,0,none⟩) a rc) (vs.set i (v.wg g)) :=
 gM.put h (i:=i) (j:=4) b (by decide) (v.wg g) (Ab Ak g) (by simp[iG,LV.cells,LV.wg])
theorem gM.ne_own{n:Type}{E:ju α}{d:ju n}{c:AP}{v':Ar}{xs:List α}{ys:List n}(h:gM E t w base v xs)(j:gM d c w a v' ys)(b:t≠c){g:Nat}(l:v.ownBlock=some g):v'.ownBlock≠some g:=by
 rcases j.2 with⟨rfl,_⟩ | ⟨g2,cap,f,rfl,m,k,_⟩
 simp[BQ]
 intro e
 have i:g2=g:=by simpa[BQ]using e
 subst i;exact h.ne_box k b l
theorem gM.front{E:ju α}{g cap:Nat}{xs:List α}(h:gM E t w base (Aa (some ⟨g,0,none⟩) n cap) xs)(o:k<=n):gM E t w base (Aa (some ⟨g,0,none⟩) k cap) (xs.take k):=by
 have p:=DC h
 have a:(xs.take k).length=k:=by rw[AE];omega
 have m:(E.all xs).take (k*E.size)=E.all (xs.take k):=by
  have e:E.all xs=E.all (xs.take k)++E.all (xs.drop k):=by rw[<- E.all_append,BC]
  rw[e,DV (by rw[E.all_length,a])]
 refine⟨by rw[E.all_length],?_⟩
 rcases h.2 with⟨e,_⟩ | ⟨g2,c,b,e,d,f,q,i,j,l⟩
 cases e
 cases e;refine .inr ⟨g,cap,b,by rw[a],d,f,by rw[a];omega,i,j,?_⟩;rw[a,<- m,<- l,List.take_take,p,Nat.min_eq_left (Nat.mul_le_mul_right _ o)]
theorem cW(E:ju α)(t:AP)(w:Ap)(x:α)(base:Nat)(a:base<=w.heap.size)(c:Array Ar)(b:c=(E.cells x).toArray):gM E t (w.alloc (Ai c t)) base (Aa (some ⟨w.heap.size,0,none⟩) 1 1) [x]:=by
 subst b;refine⟨E.all_length [x],.inr ⟨w.heap.size,1,_,rfl,a,heap_alloc_new w _,AA _,by simp only[AH];omega,by simp[E.len],?_⟩⟩;simp[ju.all,E.len,Av]
def oJ(w:Ap)(rg:Nat)(vs:List LV)(pss:List (List Int)):Prop:=∀(i:Nat) (v:LV) (ps:List Int),vs[i]? = some v->pss[i]? = some ps->ps.length=v.pn/\v.pn<=1000000/\∀u,Aw (λ k=>k=rg) w u->gQ encI u v.pa ps
structure GI(w u:Ap)(base rg rn rc kg kn:Nat)(vs:List LV)(Bg X:List Int):Prop where
 rows:gM iG 65 u base (Aa (some ⟨rg,0,none⟩) rn rc) (ly vs X)
 known:gM encI 3 u kg (Aa (some ⟨kg,0,none⟩) kn kn) (Bg++X)
 turn:Aw (λ k=>k=rg) w u
theorem GI.next {w u u':World} {base rg rn rc kg kn:Nat} {vs:List LV} {Bg X:List Int} {v:Value} (h:GI w u base rg rn rc kg kn vs Bg X) (hkg:w.heap.size=kg) (ht:Aw (λ k=>v.ownBlock=some k) u u') (h1:∀ g,v.ownBlock=some g->kg<=g/\g≠kg) (hr:rg<kg):GI w u' base rg rn rc kg kn vs Bg X :=
 ⟨h.rows.stays ht (fun g q r => by have := (h1 g r).1; have e : rg = g := by simpa [Value.ownBlock] using q
                                   omega), h.known.stays ht (fun g q r => by have := (h1 g r).2; have e : kg = g := by simpa [Value.ownBlock] using q
                                                                             omega),
  h.turn.trans ht (λ k hk q=>by have:=(h1 k q).1; omega)⟩
theorem VW{pss:List (List Int)}
  (hB:gQ iG w ba bvs) (aj:bvs.length=bn) (ai:∀v∈bvs,1<=v.gen/\v.gen<=250) (l:gM iG 65 w base (Aa (some ⟨rg,0,none⟩) c rc) vs) (hz:∀v∈vs,v.gen=0)
  (hP:oJ w rg vs pss)
  (aw:pss.length=c) (hR:EA bn pss rk) (hG:kx (bvs.map (·.gen)) pss G) (hs:bn+c<=100000) :
  At Am 41 #[Aa ba bn bc,Aa (some ⟨rg,0,none⟩) c rc] w λ e w'=>e=Aj (Af #[])/\Hid (gM iG 65 w' base (Aa (some ⟨rg,0,none⟩) c rc) (ly vs G)/\Aw (λ k=>k=rg) w w'):=by
 obtain⟨kn,a0⟩:=Xa (bn+c)
 obtain⟨a,aa⟩:=Xa w.heap.size
 obtain⟨Bg,I⟩:=Xa (bvs.map (·.gen))
 (try unfold Iz at *);rw[I]at hG
 have ah:Bg.length=bn:=by (try unfold Iz at *);rw[<- I,A4];exact aj
 have aT:=DC l
 have aE:G.length=c:=by (try unfold Iz at *);rw[hG.len];exact aw
 have aO:rg<a:=by (try unfold Iz at *);rw[<- aa];exact(C6 l rg rfl).2
 have aD:∀g∈Bg,1<=g:=by
  intro g hg;(try unfold Iz at *);rw[<- I]at hg;obtain⟨v,hv,rfl⟩:=BJ.1 hg;exact(ai v hv).1
 obtain⟨w1,aq,O1,B1⟩:=RX kn (by omega) w
 have en:(kn:Int)=(bn:Int)+(c:Int):=by omega
 (try unfold Iz at *);rw[en]at aq;(try unfold Iz at *);rw[aa]at aq O1 B1
 have H:=I7 hB ai l hz (by (try unfold Iz at *);rw[ah];exact hR:EA Bg.length pss rk) hG aD
 have HP:=Ih hP
 have n:=I9 I ah aT aE aw a0 aa aO aj
 have G1:=I2 (by simpa using O1:gM encI 3 w1 a (Aa (some ⟨a,0,none⟩) kn kn) (Bg.take 0++Bk (kn - 0) 0)) B1
 clear hB ai l hz hP hR hG I ah aT aE aO aD O1 B1 aa aw aj;go_enter func41,ntmps41;go_wp2_with fail;clear aq en;go_loopg[21] bn (λ k v wr=>∃i:Nat,v=Ab Ak i/\i+k=bn/\Hid (gM encI 3 wr a (Aa (some ⟨a,0,none⟩) kn kn) (Bg.take i++Bk (kn - i) 0)/\An a w wr))
 case atStart=>exact⟨0,rfl,by omega,G1.o⟩
 case round =>
  obtain⟨i,rfl,hi,t⟩:=hrel;clear G1;by_cases aY:i<bn
  ·have id:(i:Int)<(bn:Int):=by omega
   have ik:(i:Int)<(kn:Int):=by omega
   have am:i<bvs.length:=by (try unfold Iz at *);rw[n.o.2.2.2.2.2.2.2.2];exact aY
   obtain⟨y,hy⟩:=Xa (bvs[i])
   have af:bvs[i]? = some y:=by (try unfold Iz at *);rw[Aq am,hy]
   have M:An w.heap.size w wr:=by (try unfold Iz at *);rw[n.o.2.2.2.2.2.2.1];exact t.o.2
   obtain⟨b,off,rfl,_⟩:=H.o.1.some_of af;obtain⟨c0,c1,c2,c3,c4,c5⟩:=(H.o.1.below M).lrows af;have aV:=H.o.2.1 y (by (try unfold Iz at *);rw[<- hy];exact Cy am)
   have K:Bg[i]? = some y.gen:=by (try unfold Iz at *);rw[<- n.o.1,Bo,af];rfl
   obtain⟨rid,aC,aB,pa,pn,pc,rgen,fa,fn,fc⟩:=y;simp only at c0 c1 c2 c3 c4 c5 aV K
   obtain⟨W1,J⟩:=Xb (wr.alloc (Ai #[Ab Al (rid.toNat:Int),Ab Al (aC.toNat:Int),Ab Ak aB,Aa pa pn pc,Ab Ak rgen,Aa fa fn fc] 65))
   obtain⟨Z,hZ⟩:=Xa wr.heap.size
   have z4:W1.cell? ⟨Z,4,none⟩=some (Ab Ak rgen):=by (try unfold Iz at *);rw[J,<- hZ];simp
   have O:(Bg.take i++Bk (kn - i) 0).length=kn:=by
    have:=n.o.2.1;(try unfold Iz at *);rw[Ax,AE,List.length_replicate];omega
   have OW:gM encI 3 W1 a (Aa (some ⟨a,0,none⟩) kn kn) (Bg.take i++Bk (kn - i) 0):=by (try unfold Iz at *);rw[J];exact t.o.1.below (gW _ _)
   obtain⟨k0,f0⟩:=Kr OW (i:=i) (by (try unfold Iz at *);rw[O];omega)
   obtain⟨z,hz⟩:∃z,W1.cell? ⟨a,i,none⟩=some z:=⟨_,k0⟩
   have Q:=MO OW (i:=i) (by (try unfold Iz at *);rw[O];omega) rgen
   have ag:(Bg.take i++Bk (kn - i) 0).set i rgen=Bg.take (i+1)++Bk (kn - (i+1)) 0:=by
    have be:=n.o.2.1
    have V:(Bg.take i).length=i:=by (try unfold Iz at *);rw[AE];omega
    (try unfold Iz at *);rw[Fo _ _ (by omega),V,Nat.sub_self,show kn - i=(kn - (i+1))+1 by omega,EK,List.set_cons_zero,AW,K];simp
   (try unfold Iz at *);rw[ag]at Q
   have PU:Hid (gM encI 3 (W1.setCell ⟨a,i,none⟩ (Ab Ak rgen)) a (Aa (some ⟨a,0,none⟩) kn kn) (Bg.take (i+1)++Bk (kn - (i+1)) 0)/\An a w (W1.setCell ⟨a,i,none⟩ (Ab Ak rgen))):=by
    refine⟨Q,?_⟩;have az:=n.o.2.2.2.2.2.2.1
    have b2:An a w W1:=by (try unfold Iz at *);rw[J];exact t.o.2.trans ((gW wr _).mono (by have:=t.o.2.size;omega))
    exact b2.trans ((BR i _).below (by have:=b2.size;omega) (λ k E e=>by have e':=e;omega))
   have m1:¬rgen<1:=by omega
   have m2:(if(1:Int)<rgen then rgen else 1)=rgen:=by split <;> omega
   clear ag Q OW k0 O K aV hy af am M t
   go_upto_region 4 with fail
   (try unfold Iz at *);rw[<- J];clear J hZ c0 c1 c2 c3 c4 c5;go_wp2_with fail;go_roundg (gk - 1)
   case measure=>omega
   case rel=>exact⟨i+1,by go_num,by omega,by first | exact PU.o | ((try unfold Iz at *);rw[show max 1 rgen=rgen by omega];exact PU.o)⟩
  ·obtain rfl:i=bn:=by omega
   have id:¬(i:Int)<(i:Int):=by omega
   have G2:Hid (∃X,GI w wr base rg c rc a kn vs Bg X/\XI G X/\∀j,j<0->X[j]? = G[j]?):=by
    obtain⟨l1,l2,l3,l4,l5,l6,l7,l8,l9⟩:=n.o
    have M:An w.heap.size w wr:=by (try unfold Iz at *);rw[l7];exact t.o.2
    refine⟨Bk G.length 0,⟨?_,?_,Aw.ofBelow M⟩,XI.zero G,λ j hj=>absurd hj (DE _)⟩
    ·(try unfold Iz at *);rw[l4,<- l3,PE H.o.2.2.2.1,l3];exact H.o.2.2.1.below M
    ·have h:=t.o.1;(try unfold Iz at *);rw[Av (by omega),show kn - i=G.length by omega]at h;exact h
   clear t;go_wp2_with fail;go_loopg[35] c (λ k v wr=>∃j:Nat,v=Ab Ak j/\j+k=c/\Hid (∃X,GI w wr base rg c rc a kn vs Bg X/\XI G X/\∀q,q<j->X[q]? = G[q]?))
   case atStart=>exact⟨0,rfl,by omega,G2.o⟩
   case round =>
    obtain⟨j,rfl,hj,t⟩:=hrel;clear G2;by_cases aZ:j<c
    ·obtain⟨go,ak⟩:=Xb gk
     (try unfold Iz at *);rw[<- ak]at hj;have GO:=Ih ak;clear ak
     have jd:(j:Int)<(c:Int):=by omega
     have w1:Ak.wrap ((i:Int)+(j:Int))=(i:Int)+(j:Int):=by (try unfold Iz at *);rw[Au];omega
     obtain⟨X,s⟩:=t.o
     have L3:Hid (∃X' W,mu rk c X' W=mu rk c X [j]/\WQ rk c j G X' W/\GI w (wr.alloc (Ai #[Ab Ak ((i:Int)+(j:Int))] 3)) base rg c rc a kn vs Bg X'/\XI G X'/\(∀q,q<j->X'[q]? = G[q]?)/\gM encI 3 (wr.alloc (Ai #[Ab Ak ((i:Int)+(j:Int))] 3)) a (Aa (some ⟨wr.heap.size,0,none⟩) 1 1) (W.map (λ q=>((i+q:Nat):Int)))/\(Aa (some ⟨wr.heap.size,0,none⟩) 1 1).ownBlock≠some a):=by
      obtain⟨l1,l2,l3,l4,l5,l6,l7,l8,l9⟩:=n.o;have E:=s.1.turn.size;have bf:=(C6 s.1.known a rfl).2;refine⟨X,[j],rfl,⟨by simp,by simp,by simpa using aZ,.inl rfl⟩,?_,s.2.1,s.2.2,?_,?_⟩
      ·exact⟨s.1.rows.below (gW _ _),s.1.known.below (gW _ _),s.1.turn.alloc _⟩
      ·exact cW encI 3 wr _ a (by omega) _ (by simp[encI])
      ·intro e
       have T:wr.heap.size=a:=by simpa[BQ]using e
       omega
     obtain⟨m0,aK⟩:=Xa (mu rk c X [j])
     (try unfold Iz at *);rw[aK]at L3;clear s aK t;go_wp2_with fail;go_loopg[8] m0 (λ m wv u=>Hid (∃X W,mu rk c X W=m/\WQ rk c j G X W/\GI w u base rg c rc a kn vs Bg X/\XI G X/\(∀q,q<j->X[q]? = G[q]?)/\gM encI 3 u a wv (W.map (λ q=>((i+q:Nat):Int)))/\wv.ownBlock≠some a))
     case atStart=>exact L3.o
     case round =>
      have t:=hrel;clear hrel L3;obtain⟨X,W,hm,hW,C,s,hd,l,P⟩:=t.o;clear t;obtain⟨ao,cap,rfl,o1,o2,o3,o4⟩:=l.form
      rcases List.eq_nil_or_concat W with rfl|⟨W',q,rfl⟩
      ·have B:Hid (∃X,GI w wr base rg c rc a kn vs Bg X/\XI G X/\∀q,q<j+1->X[q]? = G[q]?):=by
        refine⟨X,C,s,λ q hq=>?_⟩
        rcases Ct q j with h|h
        ·exact hd q h
        ·obtain rfl:q=j:=by omega
         rcases hW.head with e|e
         ·simp at e
         ·exact e.2
       clear hm hW C s hd l P o1 o2 o3 o4;simp only[List.map_nil,List.length_nil];go_wp2_with fail;go_roundg (go - 1)
       case measure=>have:=GO.o;omega
       case rel=>exact⟨j+1,by go_num,by omega,B.o⟩
      ·have hq:q<c:=hW.in_ q (by simp);obtain⟨l1,l2,l3,l4,l5,l6,l7,l8,l9⟩:=n.o
       have f:((W'.concat q).map (λ q=>((i+q:Nat):Int))).length=W'.length+1:=by simp
       obtain⟨g,rfl⟩:=o4 (by (try unfold Iz at *);rw[f];omega);(try unfold Iz at *);rw[f]at l P o1 ⊢
       obtain⟨L,hL⟩:=Xa W'.length
       (try unfold Iz at *);rw[hL]at l P o1 f ⊢
       have aP:∀j,j<c->rk j<=c:=by (try unfold Iz at *);rw[<- l5];exact H.o.2.2.2.2.1.le
       have bd:L<=100000:=by
        have:=hW.short aP;simp at this;omega
       obtain⟨A,an⟩:∃A:Nat,i+q=A:=⟨_,rfl⟩
       have aF:=(Kr l (i:=L) (by (try unfold Iz at *);rw[f];omega)).1
       have aH:((W'.concat q).map (λ q=>((i+q:Nat):Int)))[L]'(by (try unfold Iz at *);rw[f];omega)=(A:Int):=by
        (try unfold Iz at *);rw[<- an];simp[<- hL]
       (try unfold Iz at *);rw[aH]at aF
       obtain⟨v,hv⟩:∃v,vs[q]? = some v:=⟨_,Aq (by omega)⟩
       obtain⟨ps,ae⟩:∃ps,pss[q]? = some ps:=⟨_,Aq (by omega)⟩
       obtain⟨x,hx⟩:∃x,X[q]? = some x:=⟨_,Aq (by (try unfold Iz at *);rw[s.len];omega)⟩
       have R:=LQ hv hx;obtain⟨r3,r4,f4⟩:=Sl C.rows R;obtain⟨p1,p2,p3⟩:=HP.o q v ps hv ae;have ad:=H.o.2.2.2.2.1.in_ ps (A8 ae);(try unfold Iz at *);rw[l2,l5,l6]at ad
       have ap:(Bg++X).length=kn:=by (try unfold Iz at *);rw[Ax,s.len];omega
       obtain⟨pa,ab⟩:=Xa v.pa
       obtain⟨pn,ac⟩:=Xa v.pn
       obtain⟨pc,av⟩:=Xa v.pc
       have a8:wr.cell? ⟨rg,q*6+3,none⟩=some (Aa pa pn pc):=by (try unfold Iz at *);rw[<- ab,<- ac,<- av];exact r3
       have a9:=r4;(try unfold Iz at *);rw[ab]at p3;(try unfold Iz at *);rw[ac]at p1 p2
       obtain⟨ur,aA⟩:=Xa (lu (Bg++X) ps)
       have aS:=dP (w:=wr) (kc:=kn) (pc:=pc) C.known.rdc.1 ap (p3 wr C.turn) p1 ad (by omega) ur aA
       have V:Ak.wrap ((A:Int) - (i:Int))=(q:Int):=by (try unfold Iz at *);rw[Au];omega
       have qd:(q:Int)<(c:Int):=by omega
       have q0:(0:Int)<=(q:Int):=by omega
       have Ld:(L:Int)<((L+1:Nat):Int):=by omega
       have d:Hid (mu rk c X (W'++[q])=gk/\WQ rk c j G X (W'++[q])/\GI w wr base rg c rc a kn vs Bg X/\XI G X/\(∀q,q<j->X[q]? = G[q]?)/\gM encI 3 wr a (Aa (some ⟨g,0,none⟩) (L+1) cap) ((W'++[q]).map (λ q=>((i+q:Nat):Int)))/\(Aa (some ⟨g,0,none⟩) (L+1) cap).ownBlock≠some a/\i+q=A/\W'.length=L):=by
        (try unfold Iz at *);rw[List.concat_eq_append]at hm hW l;exact⟨hm,hW,C,s,hd,l,P,an,hL⟩
       have D:Hid (vs[q]? = some v/\pss[q]? = some ps/\X[q]? = some x/\v.pa=pa/\v.pn=pn/\v.pc=pc/\ps.length=pn/\pn<=1000000/\(∀p∈ps,0<=p/\p<(kn:Int))/\(Bg++X).length=kn/\lu (Bg++X) ps=ur/\∀u,Aw (λ k=>k=rg) w u->gQ encI u pa ps):=⟨hv,ae,hx,ab,ac,av,p1,p2,ad,ap,aA,p3⟩
       have bg:(A:Int)<(kn:Int):=by omega
       clear hm hW C s hd l P o1 o2 o3 o4 f hL aH an hv ae hx R r3 r4 p1 p2 p3 ad ap ab ac av aA l1 l2 l3 l4 l5 l6 l7 l8 l9;go_wp2_with fail;refine aS.mono ?_;rintro e w2 ⟨rfl,rfl⟩;clear aS aF;obtain⟨up,ub⟩:=ur
       cases ub with
       | true =>
        obtain⟨q',au,ay,aU,aN⟩:=UE H.o.2.2.2.2.2.2 H.o.2.2.2.2.1 (by (try unfold Iz at *);rw[d.o.2.2.2.1.len,n.o.2.2.2.1,n.o.2.2.2.2.1]) D.o.2.1 D.o.2.2.2.2.2.2.2.2.2.2.1;(try unfold Iz at *);rw[n.o.2.1]at au;(try unfold Iz at *);rw[n.o.2.2.2.2.1]at ay;have ax:=d.o.2.1.push ay aU aN;have l:=d.o.2.2.2.2.2.1
        have az:a<=w2.heap.size:=by (try unfold Iz at *);rw[<- n.o.2.2.2.2.2.2.1];exact d.o.2.2.1.turn.size
        have f:=DC l
        have PP:=I3 au ax.1 (by (try unfold Iz at *);rw[<- d.o.1];exact ax.2:mu rk c X (W'++[q]++[q'])<gk)
        clear au ay aU aN ax;go_wp2_with(at_builtin;refine BA encI 3 23 8 (Ab Ak 0) rfl Tryz.info3 underlying23 rfl (.tmp 68) (.tmp 70) rfl a _ _ up _ rfl l rfl (by (try unfold Iz at *);rw[f];omega) (by (try unfold Iz at *);rw[f];simp only[AH];omega) az _ rfl ?_;intro v4 w4 ar aW aL aR)
        have B:Hid (∃X' W,mu rk c X' W=mu rk c X (W'++[q]++[q'])/\WQ rk c j G X' W/\GI w w4 base rg c rc a kn vs Bg X'/\XI G X'/\(∀q,q<j->X'[q]? = G[q]?)/\gM encI 3 w4 a v4 (W.map (λ q=>((i+q:Nat):Int)))/\v4.ownBlock≠some a):=by
         refine⟨X,W'++[q]++[q'],rfl,PP.o.2.1,d.o.2.2.1.next n.o.2.2.2.2.2.2.1 aR (λ k E=>⟨(C6 l k E).1,λ e=>?_⟩) n.o.2.2.2.2.2.2.2.1,d.o.2.2.2.1,d.o.2.2.2.2.1,?_,?_⟩
         ·(try unfold Iz at *);rw[e]at E;exact d.o.2.2.2.2.2.2.1 E
         ·(try unfold Iz at *);rw[BV (l₁:=W'++[q])];(try unfold Iz at *);rw[PP.o.1]at ar;exact ar
         ·rcases aL with e|e
          ·(try unfold Iz at *);rw[e];exact d.o.2.2.2.2.2.2.1
          ·intro T;have h1:=e a T;have h2:=(C6 d.o.2.2.1.known a rfl).2;omega
        clear ar aW aL aR l az f;go_wp2_with fail;go_roundg (mu rk c X (W'++[q]++[q']))
        case measure=>exact PP.o.2.2
        case rel=>exact B.o
       | false =>
        have F:=UB H.o.2.2.2.2.1 H.o.2.2.2.2.2.1 d.o.2.2.2.1 D.o.2.1 D.o.2.2.2.2.2.2.2.2.2.2.1
        obtain⟨r,al⟩:=Xa (lD (Bg++X) ps)
        (try unfold Iz at *);rw[al]at F
        have aX:r≠0:=by
         have:=OI (Bg++X) ps;omega
        have aM:=d.o.2.1.pop d.o.2.2.2.1 F aX aP;have aG:=Yc (w:=w2) (kc:=kn) (pc:=pc) d.o.2.2.1.known.rdc.1 D.o.2.2.2.2.2.2.2.2.2.1 (D.o.2.2.2.2.2.2.2.2.2.2.2 w2 d.o.2.2.1.turn) D.o.2.2.2.2.2.2.1 D.o.2.2.2.2.2.2.2.2.1 (by have:=D.o.2.2.2.2.2.2.2.1;omega) r al;clear al;go_wp2_with fail;refine aG.mono ?_;rintro e w3 ⟨rfl,rfl⟩;clear aG
        obtain⟨U,Y⟩:=Xb (w3.setCell ⟨rg,q*6+4,none⟩ (Ab Ak r))
        have C:=d.o.2.2.1;have l:=d.o.2.2.2.2.2.1;have R:=LQ D.o.1 D.o.2.2.1
        have T4:Aw (λ k=>k=rg) w3 U:=by (try unfold Iz at *);rw[Y];exact BR _ _
        have R4:gM iG 65 U base (Aa (some ⟨rg,0,none⟩) c rc) (ly vs (X.set q r)):=by
         have:=U3 C.rows R r;have e:(v.wg x).wg r=v.wg r:=rfl;(try unfold Iz at *);rw[e,Q7 r D.o.1]at this;(try unfold Iz at *);rw[Y];exact this
        have aI:g≠rg:=by
         intro e;have:=(C6 l g rfl).1;have:=n.o.2.2.2.2.2.2.2.1;omega
        have aJ:a≠rg:=by
         have:=n.o.2.2.2.2.2.2.2.1;omega
        have O4:=l.stays T4 (λ k E e=>by
         have V:g=k:=by simpa[BQ]using E
         have T:=e
         exact aI (V.trans T))
        have K4:=C.known.stays T4 (λ k E e=>by
         have V:a=k:=by simpa[BQ]using E
         have T:=e
         exact aJ (V.trans T))
        have N:A<(Bg++X).length:=by
         (try unfold Iz at *);rw[D.o.2.2.2.2.2.2.2.2.2.1];omega
        have f:=DC l
        have c1:U.cell? ⟨g,L,none⟩=some (Ab Ak (A:Int)):=by
         have h:=(Kr O4 (i:=L) (by (try unfold Iz at *);rw[f];omega)).1
         have e:((W'++[q]).map (λ q=>((i+q:Nat):Int)))[L]'(by (try unfold Iz at *);rw[f];omega)=(A:Int):=by
          (try unfold Iz at *);rw[<- d.o.2.2.2.2.2.2.2.1];simp[<- d.o.2.2.2.2.2.2.2.2]
         (try unfold Iz at *);rw[e]at h;exact h
        have c2:U.cell? ⟨rg,q*6+4,none⟩=some (Ab Ak r):=(Sl R4 (LQ D.o.1 (Cp (by (try unfold Iz at *);rw[d.o.2.2.2.1.len];exact(AG.1 F).1)))).2.1;obtain⟨c3,f3⟩:=Kr K4 N
        obtain⟨z,hz⟩:∃z,U.cell? ⟨a,A,none⟩=some z:=⟨_,c3⟩
        have K5:=MO K4 N r
        have aQ:(Bg++X).set A r=Bg++X.set q r:=by
         have h1:=n.o.2.1;have h2:=d.o.2.2.2.2.2.2.2.1;(try unfold Iz at *);rw[Fo _ _ (by omega),show A - Bg.length=q by omega]
        (try unfold Iz at *);rw[aQ]at K5
        have B:Hid (∃X' W,mu rk c X' W=mu rk c (X.set q r) W'/\WQ rk c j G X' W/\GI w (U.setCell ⟨a,A,none⟩ (Ab Ak r)) base rg c rc a kn vs Bg X'/\XI G X'/\(∀q,q<j->X'[q]? = G[q]?)/\gM encI 3 (U.setCell ⟨a,A,none⟩ (Ab Ak r)) a (Aa (some ⟨g,0,none⟩) L cap) (W.map (λ q=>((i+q:Nat):Int)))/\(Aa (some ⟨g,0,none⟩) L cap).ownBlock≠some a):=by
         have T5:Aw (λ k=>k=a) U (U.setCell ⟨a,A,none⟩ (Ab Ak r)):=BR _ _;refine⟨X.set q r,W',rfl,aM.1,⟨R4.stays T5 (λ k E e=>?_),K5,(C.turn.trans T4 (λ k _ e=>e)).trans T5 (λ k E e=>?_)⟩,d.o.2.2.2.1.set F,λ y hy=>?_,?_,d.o.2.2.2.2.2.2.1⟩
         ·have V:rg=k:=by simpa[BQ]using E
          have T:=e;omega
         ·have T:=e;have:=n.o.2.2.2.2.2.2.1;omega
         ·by_cases e:q=y
          ·subst e;(try unfold Iz at *);rw[Cp (by (try unfold Iz at *);rw[d.o.2.2.2.1.len];exact(AG.1 F).1),F]
          ·(try unfold Iz at *);rw[CH e];exact d.o.2.2.2.2.1 y hy
         ·have h:=(O4.stays T5 (λ k E e=>by
           have V:g=k:=by simpa[BQ]using E
           have T:=e
           exact d.o.2.2.2.2.2.2.1 (by simp[BQ,V,T]))).front (k:=L) (by omega)
          have e:((W'++[q]).map (λ q=>((i+q:Nat):Int))).take L=W'.map (λ q=>((i+q:Nat):Int)):=by
           (try unfold Iz at *);rw[BV,DV (by (try unfold Iz at *);rw[A4];exact d.o.2.2.2.2.2.2.2.2)]
          (try unfold Iz at *);rw[e]at h;exact h
        have bb:=l.rdc.2
        have MS:Hid (mu rk c (X.set q r) W'<gk):=by (try unfold Iz at *);rw[<- d.o.1];exact aM.2
        clear C l R T4 R4 O4 K4 N f K5 aQ c3 aI aJ
        go_upto_region 17 with fail
        (try unfold Iz at *);rw[<- Y];clear Y f4 a8 a9
        have Lc:(L:Int)<=(cap:Int):=by omega
        have L0:(0:Int)<=(L:Int):=by omega
        have i0:(0:Int)<=(A:Int):=by omega
        go_region;go_wp2_with fail;go_roundg (mu rk c (X.set q r) W')
        case measure=>exact MS.o
        case rel =>
         obtain⟨X',W,a1,a2,a3,a4,a5,a6,a7⟩:=B.o;exact⟨X',W,a1,a2,⟨a3.rows.below (Ao _ _).drew,a3.known.below (Ao _ _).drew,a3.turn.trans (Aw.ofBelow (S:=λ _=>False) (Ao _ _).drew) (λ _ _ q=>q.elim)⟩,a4,a5,a6.below (Ao _ _).drew,a7⟩
    ·obtain rfl:j=c:=by omega
     have jd:¬(j:Int)<(j:Int):=by omega
     have B:Hid (gM iG 65 wr base (Aa (some ⟨rg,0,none⟩) j rc) (ly vs G)/\Aw (λ k=>k=rg) w wr):=by
      obtain⟨X,C,s,hd⟩:=t.o
      have e:X=G:=by
       refine List.ext_getElem? (λ q=>?_)
       rcases Ct q j with h|h
       ·exact hd q h
       ·(try unfold Iz at *);rw[AM (by (try unfold Iz at *);rw[s.len,n.o.2.2.2.1];exact h),AM (by (try unfold Iz at *);rw[n.o.2.2.2.1];exact h)]
      subst e;exact⟨C.rows,C.turn⟩
     clear t;go_wp2;refine bodyPost_end (v:=Af #[]) (results_none rfl _ _ _) rfl ?_;exact⟨rfl,B.o⟩
def pj(Q:List UInt64)(x:UInt64):Option Nat:=if x∈Q then some (Q.idxOf x)else none
def mF(Q:List UInt64):UInt64->Option Ar:=λ x=>(pj Q x).map (λ i=>Ab Ak (i:Int))
theorem OS(h:x∈Q):pj Q x=some (Q.idxOf x):=AC h
theorem Ow(h:¬x∈Q):pj Q x=none:=Ay h
theorem ZE(h:¬x∈Q):kM (mF Q) x (Ab Ak (Q.length:Int))=mF (Q++[x]):=by
 funext y
 unfold kM mF pj;by_cases e:y=x
 subst e;rw[AC rfl,AC (by simp),D0,Ay h];simp
 rw[Ay e];by_cases a:y∈Q
 rw[AC a,AC (by simp[a]),D0,AC a]
 rw[Ay a,Ay (by simp[a,e])]
theorem nV(w:Ap):(zeroValue 3).run Am w=.ok (Ab Ak 0) w:=by
 obtain⟨i0,a,b,_,_⟩:=info_parts Tryz.info3;simp[zeroValue,typeInfo,a,b]
theorem nO:Am.underlying 97=some (.map kU.ty 3):=by kernel_rfl
theorem Yv(z:Int)(w:Ap):(Hf 97 (some (Ab Ak z))).run Am w=.ok (.map (some w.heap.size)) (w.alloc (.map #[] 0)):=by
 simp[Hf,run_underlying nO,asInt,asIntOf]
structure PM(w u:Ap)(m:Nat)(Q:List UInt64):Prop where
 map:jb kU u m (mF Q) Q.length
 bel:An m w u
 size:w.heap.size=m
theorem PM.below{u':Ap}(h:PM w u m Q)(a:Iz u u'):PM w u' m Q :=
 ⟨h.map.turned (S:=λ _=>False) (Aw.ofBelow a) (λ q=>q),h.bel.trans (a.mono (CJ h.map.lt)),h.size⟩
theorem PM.put(h:PM w u m Q)(x:UInt64)(b:¬x∈Q)(j:Q.length<=1000000)(z:Int)(f:z=(Q.length:Int)):
  ∃u',(Instr.mapUpdate 97 (.map (some m)) (Ab Al (x.toNat:Int)) (Ab Ak z)).run Am u=.ok () u'/\PM w u' m (Q++[x]):=by
 subst f;obtain⟨u',c,a,d⟩:=h.map.put nO x trivial (by simp only[AH];omega) (Ab Ak (Q.length:Int));refine⟨u',c,⟨?_,h.bel.trans (((Aw.refl (λ k=>k=m) u).grown d (λ k _ e=>(Option.some.inj e).symm)).below (CJ h.map.lt) (λ k i e=>by have g:=e;omega)),h.size⟩⟩;rw[ZE b]at a
 have e:(mF Q x).isSome=false:=by
  unfold mF;rw[Ow b]
  rfl
 rw[e]at a;rw[Ax];exact a
theorem SX(h:Q.Nodup)(d:¬x∈Q):(Q++[x]).Nodup:=by
 rw[Cr];exact⟨h,by simp,λ a f b c e=>by rw[AZ]at c;rw[<- c,<- e]at d;exact d f⟩
theorem Xm{W:Option Addr}{ids:List UInt64}(hB:gQ iG w ba bvs)(D:bvs.length=bn)(F:(bvs.map (·.id)).Nodup)(hI:gQ gR w W ids)(hn:ids.length=n)(hs:bn+n<=100000):
  At Am 38 #[Aa ba bn bc,Aa W n c] w λ e w'=>∃X r,e=Aj (Af #[X,Ab Ak r])/\Hid ((((bvs.map (·.id)++ids).Nodup/\r=0/\X=.map (some w.heap.size)/\PM w w' w.heap.size (bvs.map (·.id)++ids))∨(¬(bvs.map (·.id)++ids).Nodup/\r=6/\X=.map none))/\An w.heap.size w w'):=by
 obtain⟨m,E⟩:=Xa w.heap.size
 obtain⟨d,t⟩:=Xa (bvs.map (·.id))
 have O:=Yv ((bn:Int)+(n:Int)) w
 have aa:Ak.wrap ((bn:Int)+(n:Int))=(bn:Int)+(n:Int):=by rw[Au];omega
 rw[E]at O;rw[t]at F
 have H:Hid (gQ iG w ba bvs/\bvs.length=bn/\d.Nodup/\gQ gR w W ids/\ids.length=n/\bvs.map (·.id)=d/\d.length=bn/\w.heap.size=m):=⟨hB,D,F,hI,hn,t,by rw[<- t,A4];exact D,E⟩
 have Y:Hid (PM w (w.alloc (.map #[] 0)) m (d.take 0)):=⟨by
  rw[<- E];have h:jb kU (w.alloc (.map #[] 0)) w.heap.size (λ _=>none) 0:=jb.new (by unfold World.alloc;simp)
  have e:mF (d.take 0)=λ _=>none:=by funext x;simp[mF,pj]
  rw[e]
  exact h,by rw[<- E];exact gW _ _,E⟩
 rw[t,E];clear hB D F hI hn t E;go_enter func38,ntmps38;go_wp2_with fail;clear O;go_loopg[21] bn (λ k v wr=>∃i:Nat,v=Ab Ak i/\i+k=bn/\Hid (PM w wr m (d.take i)))
 case atStart=>exact⟨0,rfl,by omega,Y.o⟩
 case round =>
  obtain⟨i,rfl,hi,f⟩:=hrel;clear Y;by_cases S:i<bn
  ·have id:(i:Int)<(bn:Int):=by omega
   have p:i<bvs.length:=by rw[H.o.2.1];exact S
   obtain⟨y,hy⟩:=Xa (bvs[i])
   have C:bvs[i]? = some y:=by rw[Aq p,hy]
   have l:An w.heap.size w wr:=by rw[f.o.size];exact f.o.bel
   obtain⟨b,off,rfl,_⟩:=H.o.1.some_of C;obtain⟨c0,c1,c2,c3,c4,c5⟩:=(H.o.1.below l).lrows C;have R:=H.o.2.2.2.2.2.2.1
   have L:d[i]? = some y.id:=by rw[<- H.o.2.2.2.2.2.1,Bo,C];rfl
   have M:i<d.length:=by omega
   have a:d.take (i+1)=d.take i++[y.id]:=by rw[AW,L];rfl
   have G:¬y.id∈d.take i:=by
    have h:=H.o.2.2.1;rw[<- BC (i+1) d,a]at h;have h2:=(Cr.1 (Cr.1 h).1).2.2;intro q;exact h2 _ q _ (by simp) rfl
   obtain⟨rid,J,I,pa,pn,pc,rgen,fa,fn,fc⟩:=y;simp only at c0 c1 c2 c3 c4 c5 a G
   obtain⟨W1,B⟩:=Xb (wr.alloc (Ai #[Ab Al (rid.toNat:Int),Ab Al (J.toNat:Int),Ab Ak I,Aa pa pn pc,Ab Ak rgen,Aa fa fn fc] 65))
   obtain⟨Z,hZ⟩:=Xa wr.heap.size
   have z0:W1.cell? ⟨Z,0,none⟩=some (Ab Al (rid.toNat:Int)):=by rw[B,<- hZ];simp
   have K:PM w W1 m (d.take i):=by rw[B];exact f.o.below (gW _ _)
   have z:(d.take i).length=i:=by rw[AE];omega
   obtain⟨Q,U,u⟩:=K.put rid G (by omega) (i:Int) (by rw[z])
   have g:Hid (PM w Q m (d.take (i+1))):=by rw[a];exact u
   clear p hy C l R L M a G K z u f
   go_upto_region 5 with fail
   rw[<- B];clear B hZ c0 c1 c2 c3 c4 c5;go_wp2_with fail;go_roundg (gk - 1)
   case measure=>omega
   case rel=>exact⟨i+1,by go_num,by omega,g.o⟩
  ·obtain rfl:i=bn:=by omega
   have id:¬(i:Int)<(i:Int):=by omega
   have a:d.take i=d:=Av (by rw[H.o.2.2.2.2.2.2.1];exact AA _)
   have G1:Hid (PM w wr m (d++ids.take 0)/\(d++ids.take 0).Nodup):=by
    have h:=f.o;rw[a]at h;simpa using⟨h,H.o.2.2.1⟩
   clear f a;go_wp2_with fail;go_loopg[33] n (λ k v wr=>∃j:Nat,v=Ab Ak j/\j+k=n/\Hid (PM w wr m (d++ids.take j)/\(d++ids.take j).Nodup))
   case atStart=>exact⟨0,rfl,by omega,G1.o⟩
   case round =>
    obtain⟨j,rfl,hj,f⟩:=hrel;clear G1;by_cases T:j<n
    ·have jd:(j:Int)<(n:Int):=by omega
     have p:j<ids.length:=by rw[H.o.2.2.2.2.1];exact T
     obtain⟨x,V⟩:=Xa (ids[j])
     have A:ids[j]? = some x:=by rw[Aq p,V]
     have l:An w.heap.size w wr:=by rw[f.o.1.size];exact f.o.1.bel
     obtain⟨b,off,rfl,_⟩:=H.o.2.2.2.1.some_of A;have cx:=((H.o.2.2.2.1.below l).nums A).2;have s:=f.o.1.map.look nO (nV wr) x trivial
     have a:ids.take (j+1)=ids.take j++[x]:=by rw[AW,A];rfl
     have e1:Ak.wrap ((i:Int)+(j:Int))=(i:Int)+(j:Int):=by rw[Au];omega
     by_cases hq:x∈d++ids.take j
     ·have P:mF (d++ids.take j) x=some (Ab Ak ((d++ids.take j).idxOf x:Int)):=by unfold mF;rw[OS hq];rfl
      rw[P]at s;have N:(CM 97 (.map (some m)) (Ab Al (x.toNat:Int)) true).run Am wr=.ok (Af #[Ab Ak ((d++ids.take j).idxOf x:Int),Ad true]) wr:=s
      have g:Hid (¬(d++ids).Nodup/\An m w wr):=by
       refine⟨λ q=>?_,f.o.1.bel⟩;rw[<- BC (j+1) ids,a,<- AT,<- AT]at q;exact(Cr.1 (Cr.1 q).1).2.2 x hq x (by simp) rfl
      clear f s p V A l a hq P;go_wp2_with fail;refine As (AD rfl _ _ _) rfl ?_;exact⟨_,_,rfl,.inr ⟨g.o.1,rfl,rfl⟩,g.o.2⟩
     ·have P:mF (d++ids.take j) x=none:=by unfold mF;rw[Ow hq];rfl
      rw[P]at s;have N:(CM 97 (.map (some m)) (Ab Al (x.toNat:Int)) true).run Am wr=.ok (Af #[Ab Ak 0,Ad false]) wr:=s
      have z:(d++ids.take j).length=i+j:=by
       have:=H.o.2.2.2.2.2.2.1;rw[Ax,AE];omega
      obtain⟨Q,U,u⟩:=f.o.1.put x hq (by omega) ((i:Int)+(j:Int)) (by rw[z];omega)
      have g:Hid (PM w Q m (d++ids.take (j+1))/\(d++ids.take (j+1)).Nodup):=by
       rw[a,<- AT];exact⟨u,SX f.o.2 hq⟩
      clear f s p V A l a hq P u z;go_wp2_with fail;go_roundg (gk - 1)
      case measure=>omega
      case rel=>exact⟨j+1,by go_num,by omega,g.o⟩
    ·obtain rfl:j=n:=by omega
     have jd:¬(j:Int)<(j:Int):=by omega
     have a:ids.take j=ids:=Av (by rw[H.o.2.2.2.2.1];exact AA _);rw[a]at f;clear a;go_wp2;refine As (AD rfl _ _ _) rfl ?_;exact⟨_,_,rfl,.inl ⟨f.o.2,rfl,rfl,f.o.1⟩,f.o.1.bel⟩
def kL(Q:List UInt64)(ps:List UInt64):List Int:=ps.map (λ p=>(Q.idxOf p:Int))
theorem V6{tree:UInt64}{date:Int}{note:Bs}{ps:List UInt64}(M:jb kU w m (mF Q) Q.length)(O:gQ gR w pa ps)(R:ps.length=pn)(Y:pn<=1000000):
  At Am 40 #[.map (some m),.agg #[Ab Al (tree.toNat:Int),Aa pa pn pc,Ab Ak date,tx note]] w λ e w'=>∃v r,e=Aj (Af #[v,Ab Ak r])/\Hid ((((∀p∈ps,p∈Q)/\r=0/\gM encI 3 w' w.heap.size v (kL Q ps))∨(¬(∀p∈ps,p∈Q)/\r=14/\v=Aa none 0 0))/\An w.heap.size w w'):=by
 obtain⟨d,g⟩:=Xa w.heap.size
 have H:Hid (jb kU w m (mF Q) Q.length/\gQ gR w pa ps/\ps.length=pn/\w.heap.size=d):=⟨M,O,R,g⟩
 obtain⟨C,l⟩:=Xb (w.alloc (Ai #[Ab Al (tree.toNat:Int),Aa pa pn pc,Ab Ak date,tx note] 104))
 have W:C.cell? ⟨d,1,none⟩=some (Aa pa pn pc):=by rw[l,<- g];simp
 have J:Hid (An d w C):=by rw[l,<- g];exact gW _ _
 rw[g];clear M O R;go_enter func40,ntmps40
 go_upto_region 2 with fail
 rw[<- l];clear l g
 have L:Hid (gM encI 3 C d (Aa none 0 0) (kL Q (ps.take 0))/\An d w C/\∀p∈ps.take 0,p∈Q):=⟨gM.nil _ _ _ _,J.o,by simp⟩
 clear J;go_wp2_with fail;clear W;go_loopg[6,14] pn (λ k U V wr=>∃i:Nat,V=Ab Ak i/\i+k=pn/\Hid (gM encI 3 wr d U (kL Q (ps.take i))/\An d w wr/\∀p∈ps.take i,p∈Q))
 case atStart=>exact⟨0,rfl,by omega,L.o⟩
 case round =>
  obtain⟨i,rfl,hi,f⟩:=hrel;clear L;by_cases E:i<pn
  ·have id:(i:Int)<(pn:Int):=by omega
   have s:i<ps.length:=by rw[H.o.2.2.1];exact E
   obtain⟨x,D⟩:=Xa (ps[i])
   have h:ps[i]? = some x:=by rw[Aq s,D]
   have n:An w.heap.size w wr:=by rw[H.o.2.2.2];exact f.o.2.1
   obtain⟨b,off,rfl,_⟩:=H.o.2.1.some_of h;have X:=((H.o.2.1.below n).nums h).2;have a:=(H.o.1.turned (S:=λ _=>False) (Aw.ofBelow n) (λ q=>q)).look nO (nV wr) x trivial
   have c:ps.take (i+1)=ps.take i++[x]:=by rw[AW,h];rfl
   by_cases hq:x∈Q
   ·have B:mF Q x=some (Ab Ak (Q.idxOf x:Int)):=by unfold mF;rw[OS hq];rfl
    rw[B]at a
    obtain⟨z,I⟩:∃z:Int,(Q.idxOf x:Int)=z:=⟨_,rfl⟩
    rw[I]at a;have u:(CM 97 (.map (some m)) (Ab Al (x.toNat:Int)) true).run Am wr=.ok (Af #[Ab Ak z,Ad true]) wr:=a
    have P:(kL Q (ps.take i)).length<=1000000:=by
     unfold kL;rw[A4,AE];omega
    have K:Hid (kL Q (ps.take (i+1))=kL Q (ps.take i)++[z]/\(∀p∈ps.take (i+1),p∈Q)):=by
     rw[c];refine⟨by unfold kL;rw[BV,<- I];rfl,λ p hp=>?_⟩
     rcases AN.1 hp with q|q
     ·exact f.o.2.2 p q
     ·rw[AZ]at q;rw[q];exact hq
    have A:d<=wr.heap.size:=by rw[<- H.o.2.2.2];exact f.o.2.1.size
    have N:=f.o.1;clear a s D h n c hq B I;go_wp2_with(at_builtin;refine BA encI 3 23 8 (Ab Ak 0) rfl Tryz.info3 underlying23 rfl (.tmp 26) (.tmp 28) rfl d _ _ z _ rfl N rfl (by omega) (by simp only[AH];omega) A _ rfl ?_;intro v4 T y t F G)
    have j:Hid (gM encI 3 T d v4 (kL Q (ps.take (i+1)))/\An d w T/\∀p∈ps.take (i+1),p∈Q):=⟨by rw[K.o.1];exact y,f.o.2.1.trans t,K.o.2⟩
    clear y t F G N A;go_wp2_with fail;go_roundg (gk - 1)
    case measure=>omega
    case rel=>exact⟨i+1,by go_num,by omega,j.o⟩
   ·have B:mF Q x=none:=by unfold mF;rw[Ow hq];rfl
    rw[B]at a;have u:(CM 97 (.map (some m)) (Ab Al (x.toNat:Int)) true).run Am wr=.ok (Af #[Ab Ak 0,Ad false]) wr:=a
    have j:Hid (¬(∀p∈ps,p∈Q)/\An d w wr):=⟨λ q=>hq (q x (by rw[<- D];exact Cy s)),f.o.2.1⟩
    clear f a s D h n c hq B;go_wp2_with fail;refine As (AD rfl _ _ _) rfl ?_;exact⟨_,_,rfl,.inr ⟨j.o.1,rfl,rfl⟩,j.o.2⟩
  ·obtain rfl:i=pn:=by omega
   have id:¬(i:Int)<(i:Int):=by omega
   have c:ps.take i=ps:=Av (by rw[H.o.2.2.1];exact AA _);rw[c]at f;clear c;go_wp2;refine As (AD rfl _ _ _) rfl ?_;exact⟨_,_,rfl,.inl ⟨f.o.2.2,rfl,f.o.1⟩,f.o.2.1⟩
end Go.Proofs.YtakgkgmopmcecaaGreat
namespace Go.Proofs.YtakgkgmopmcecaaGreat
open Go.RowKit Go.Sort
variable {A Bg G K X ps:List Int}{B R a base bc bn c i k kc kn m n pc pn q rc rg:Nat}{Q:List UInt64}{S:Nat->Prop}{W:List Nat}{ba pa:Option Addr}{bs:Bs}{bvs vs:List LV}{g p:Int}{r:Rs}{rk:Nat->Nat}{t:AP}{u w w':Ap}{v:Ar}{x:UInt64}{α:Type}
abbrev uv(x:UInt64):Ar:=Ab Al (x.toNat:Int)
def ltU(x y:UInt64):Bool:=decide (x<y)
def SR(w:Ap)(g:Nat)(d:Array UInt64):Prop:=∃cur:Array Ar,w.heap[g]? = some (Ai cur 63 (0,0))/\∀i,i<d.size->cur[i]? = some (uv d[i]!)
section
variable {w w':World}{g:Nat}{d:Array UInt64}
theorem SR.lt(h:SR w g d):g<w.heap.size:=by
 obtain⟨a,h,_⟩:=h;exact(Ba.1 h).1
theorem SR.cell(h:SR w g d)(hi:i<d.size):w.cell? ⟨g,i,none⟩=some (uv d[i]!):=by
 obtain⟨a,b,c⟩:=h;simp[World.cell?,b,c i hi]
theorem SR.thaw(h:SR w g d)(i:Nat):w.frozen? ⟨g,i,none⟩=false:=by
 obtain⟨a,b,c⟩:=h;simp[World.frozen?,b]
theorem SR.below(h:SR w g d)(e:Iz w w'):SR w' g d:=by
 have f:=h.lt;obtain⟨a,b,c⟩:=h;exact⟨a,(e.block g f).trans b,c⟩
theorem SR.turned(h:SR w g d)(i:Aw S w w')(e:¬S g):SR w' g d:=by
 have f:=h.lt;obtain⟨a,b,c⟩:=h;exact⟨a,(i.block g f e).trans b,c⟩
theorem SR.set (h:SR w g d) (i:Nat) (x:UInt64):SR (w.setCell ⟨g,i,none⟩ (uv x)) g (d.setIfInBounds i x):=by
 obtain ⟨cur,h1,h2⟩:=h;refine ⟨cur.setIfInBounds i (uv x),?_,?_⟩
 ·simp [World.setCell,Array.getElem?_modify,h1]
 ·intro j hj
  have hj':j<d.size:=by simpa using hj
  have h3:=h2 j hj';have hjc:j<cur.size:=(Array.getElem?_eq_some_iff.1 h3).1;by_cases e:j=i
  ·subst e;simp [hjc,hj',getElem!_pos]
  ·rw [Array.getElem?_setIfInBounds_ne (Ne.symm e),h3]
   congr 2
   simp [getElem!_pos,hj',Ne.symm e]
theorem SR.swap(h:SR w g d)(i j:Nat):SR ((w.setCell ⟨g,i,none⟩ (uv d[j]!)).setCell ⟨g,j,none⟩ (uv d[i]!)) g (swp d i j):=(h.set i d[j]!).set j d[i]!
theorem ET(d:Array UInt64)(i j:Nat):(swp d i j).size=d.size:=by simp[swp]
theorem Tm{a:Ap}(h:Aw S a w)(b:S g)(i j:Nat)(p q:Ar):Aw S a ((w.setCell ⟨g,i,none⟩ p).setCell ⟨g,j,none⟩ q):=(h.setCell (.inl b) p).setCell (.inl b) q
end
theorem gM.sr {w:World} {base g n cap:Nat} {xs:List UInt64} (h:gM gR 63 w base (.slice (some ⟨g,0,none⟩) n cap) xs):SR w g xs.toArray/\xs.length=n:=by
 rcases h.2 with ⟨e,_⟩ | ⟨g',cap',cur,e,h1,h2,h3,h4,h5,h6⟩
 ·cases e
 ·cases e;refine ⟨⟨cur,h2,λ i hi=>?_⟩,rfl⟩
  have hi':i<xs.length:=by simpa using hi
  obtain ⟨b',off',e',_,hc⟩:=h.rdc.1 (by omega);cases e';have h7:=hc i xs[i] (List.getElem?_eq_getElem hi') 0 _ rfl
  have h8:w.cell? ⟨g,i,none⟩=some (uv xs[i]):=by simpa [gR] using h7
  have h9:w.cell? ⟨g,i,none⟩=cur[i]? := by simp [World.cell?,h2]
  rw [<- h9,h8]
  congr 2
  simp [getElem!_pos,hi']
theorem Xu(x:Int)(w:Ap):At Am 184 #[Ab Al x] w λ e w'=>e=Aj (Ad false)/\w'=w:=by
 go_enter func184,ntmps184;go_wp2;go_ret;exact⟨by simp,rfl⟩
theorem Yj(x y:UInt64)(f:Bool)(a:ltU x y=f)(w:Ap):At Am 129 #[uv x,uv y] w λ e w'=>e=Aj (Ad f)/\w'=w:=by
 have e:decide (x.toNat<y.toNat)=f:=by
  rw[<- a];unfold ltU;rw[Ed,UInt64.lt_iff_toNat_lt]
 have b:=Xu (x.toNat:Int) w;clear a;go_enter func129,ntmps129;go_wp2_with fail;refine b.mono ?_;rintro c w1 ⟨rfl,rfl⟩;clear b;go_wp2;go_ret;exact⟨by rw[<- e];rfl,rfl⟩
end Go.Proofs.YtakgkgmopmcecaaGreat
