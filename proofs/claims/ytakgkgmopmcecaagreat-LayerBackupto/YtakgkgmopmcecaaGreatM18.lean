import Derived.Test.YtakgkgmopmcecaaGreatM17
set_option maxHeartbeats 6400000
set_option maxRecDepth 100000
open Go renaming World->Ap,Value->Ar,Calls->At,maxLen->AH,bodyPost_ret->As,results->AI
open List renaming getElem?_eq_some_iff->AG,mem_cons->Bv,mem_singleton->AZ,map_singleton->EU,map_nil->FT,length_append->Ax,append_assoc->AT,getElem?_eq_getElem->Aq,flatMap_append->DH,append_nil->Bz,length_take->AE,length_drop->AO,drop_drop->Be,eq_nil_of_length_eq_zero->AQ,flatMap_cons->Ca,take_left'->DV,drop_left'->FK,take_append_drop->BC,length_cons->A2,take_add->Hx
open Go.World renaming cell?->Bf
open Go.RowKit renaming Below->An
open Nat renaming le_refl->AA,zero_le->Bw,add_zero->DI,lt_of_lt_of_le->AK,pow_le_pow_right->CB,mod_eq_of_lt->CR
open Go.Value renaming slice->Aa,ownBlock->BQ,int->Ab,string->Ae,tuple->Af,pointer->Ah
open Go.RowKit.Below renaming refl->Ao
open Go.IntKind renaming u64->Al,wrap_u64->A5,i64->Ak,wrap_i64->Au
open UInt64 renaming ofNat->AL,toNat_ofNat'->Cf
open Prod.mk renaming inj->Dv
open Go.Obj renaming cells->Ai
open Go.Ending renaming returned->Aj
open Go.Proofs.Tryz renaming prog->Am
open Go.Proofs.Tryz
namespace Go.Proofs.YtakgkgmopmcecaaGreat
open Go.RowKit
variable {B C k m off z:Nat}{R rs:List Rw}{T X bs:Bs}{a c d dt e n:Int}{b f v:Ar}{r:Rs}{u w:Ap}{vs:List LV}{x:Rw}{xs:List Int}
theorem Lm{α:Type}(E:ju α)(w:Ap)(xs:List α)(t:TypeId)(c:Array Ar)(d:c=(E.all xs).toArray):gQ E (w.alloc (Ai c t)) (some ⟨w.heap.size,0,none⟩) xs:=by
 subst d;intro _;refine⟨w.heap.size,0,rfl,by simp,λ i x g j u b=>?_⟩
 have e:j<E.size:=by
  have:=(AG.1 b).1;rw[E.len]at this;exact this
 have a:=E.all_get xs i j x g e;rw[b]at a;have f:=heap_alloc_new w (Ai (E.all xs).toArray t);unfold Bf;simp only[f,Nat.zero_add];rw[List.getElem?_toArray];exact a
theorem nN{n:Nat}(h:An n w u)(a:n<=u.heap.size)(o:Obj):An n w (u.alloc o):=h.trans ((gW u o).mono a)
def oX:List Ac:=[⟨0,[120],[],[],[],0⟩,⟨1,[],[[97]],[],[],0⟩,⟨2,[],[],[0],[],0⟩,⟨2,[],[],[0,0],[],1⟩]
def nY(h:Nat):List AV:=[⟨0,some ⟨h,0,none⟩,1,1,none,0,0,none,0,0,⟨#[]⟩,0,0⟩,⟨1,none,0,0,some ⟨h+1,0,none⟩,1,1,none,0,0,⟨#[]⟩,0,0⟩,⟨2,none,0,0,none,0,0,some ⟨h+1+1,0,none⟩,1,1,⟨#[]⟩,0,0⟩,⟨2,none,0,0,none,0,0,some ⟨h+1+1+1,0,none⟩,2,2,⟨#[]⟩,1,0⟩]
def mq:Wd:=mW (oX.take 40)
theorem oo:mq.cl=[15955446209180732947,16895835702100498982]:=by kernel_rfl
theorem oV:mq.st.has 3 15955446209180732947=true:=by kernel_rfl
theorem Ts:mq.st.has 3 16895835702100498982=true:=by kernel_rfl
theorem Qq:(mq.st.com 15955446209180732947).ps=[]:=by kernel_rfl
theorem Kd:(mq.st.com 16895835702100498982).ps=[15955446209180732947]:=by kernel_rfl
abbrev pu(w:Ap):Ap:=w.alloc (Ai #[Ab .u8 120] 5 (1,2))
abbrev pw(w:Ap):Ap:=(pu w).alloc (Ai #[Ae ⟨#[97]⟩] 9)
abbrev pq(w:Ap):Ap:=(pw w).alloc (Ai #[Ab Ak 0] 3)
abbrev pt(w:Ap):Ap:=(pq w).alloc (Ai #[Ab Ak 0,Ab Ak 0] 3)
abbrev oU(h:Nat):Array Ar:=#[Ab Ak 0,Aa (some ⟨h,0,none⟩) 1 1,Aa none 0 0,Aa none 0 0,Ae ⟨#[]⟩,Ab Ak 0,Ab Ak 0,
 Ab Ak 1,Aa none 0 0,Aa (some ⟨h+1,0,none⟩) 1 1,Aa none 0 0,Ae ⟨#[]⟩,Ab Ak 0,Ab Ak 0,
 Ab Ak 2,Aa none 0 0,Aa none 0 0,Aa (some ⟨h+1+1,0,none⟩) 1 1,Ae ⟨#[]⟩,Ab Ak 0,Ab Ak 0,
 Ab Ak 2,Aa none 0 0,Aa none 0 0,Aa (some ⟨h+1+1+1,0,none⟩) 2 2,Ae ⟨#[]⟩,Ab Ak 1,Ab Ak 0]
abbrev nM(w:Ap):Ap:=(pt w).alloc (Ai (oU w.heap.size) 69)
theorem QW(w:Ap):(pu w).heap.size=w.heap.size+1/\(pw w).heap.size=w.heap.size+1+1/\(pq w).heap.size=w.heap.size+1+1+1/\(pt w).heap.size=w.heap.size+1+1+1+1:=by simp
theorem gy(w:Ap):Iz w (nM w) :=
 nN (nN (nN (nN (gW w _) (by simp) _) (by simp <;> omega) _) (by simp <;> omega) _) (by simp <;> omega) _
theorem M7(w:Ap):iE w (Aa none 0 0) []:=⟨none,0,rfl,AA _,by omega,gQ.nil _ _ _⟩
theorem Li{a:AV}{data:Bs}{ps:List Bs}{qs:List Int}(hd:iE w (Aa a.da a.dn a.dc) data)(dl:data.length=a.dn)(hp:gQ ms w a.pa ps)(pl:ps.length=a.pn)(pf:∀p∈ps,p.length<=10)(hq:gQ encI w a.qa qs)(ql:qs.length=a.qn)(h:a.dn<=10/\a.pn<=10/\a.qn<=10):H7 w a data ps qs :=
 ⟨hd,dl,by omega,hp,pl,by omega,λ p q=>Nat.le_trans (pf p q) (by omega),hq,ql,by omega⟩
theorem OX(w:Ap):∀(i:Nat) (a:AV),(nY w.heap.size)[i]? = some a->∃data ps qs,H7 (nM w) a data ps qs/\oX[i]? = some (a.ac data ps qs):=by
 obtain⟨s1,s2,s3,f⟩:=QW w;have b:iE (nM w) (Aa (some ⟨w.heap.size,0,none⟩) 1 1) [120]:=(Mg w [120] 5 (1,2) _ rfl 1 rfl (by simp)).below (nN (nN (nN (gW (pu w) _) (by simp) _) (by simp <;> omega) _) (by simp <;> omega) _)
 have c:gQ ms (nM w) (some ⟨w.heap.size+1,0,none⟩) [[97]]:=by
  have:=(Lm ms (pu w) [[97]] 9 #[Ae ⟨#[97]⟩] rfl).below (nN (nN (gW (pw w) (Ai #[Ab Ak 0] 3)) (by simp) (Ai #[Ab Ak 0,Ab Ak 0] 3)) (by simp <;> omega) (Ai (oU w.heap.size) 69));rw[s1]at this;exact this
 have d:gQ encI (nM w) (some ⟨w.heap.size+1+1,0,none⟩) [0]:=by
  have:=(Lm encI (pw w) [0] 3 #[Ab Ak 0] rfl).below (nN (gW (pq w) (Ai #[Ab Ak 0,Ab Ak 0] 3)) (by simp) (Ai (oU w.heap.size) 69));rw[s2]at this;exact this
 have e:gQ encI (nM w) (some ⟨w.heap.size+1+1+1,0,none⟩) [0,0]:=by
  have:=(Lm encI (pq w) [0,0] 3 #[Ab Ak 0,Ab Ak 0] rfl).below (gW (pt w) (Ai (oU w.heap.size) 69));rw[s3]at this;exact this
 intro i a h
 match i,h with
 | 0,h=>cases h;exact⟨[120],[],[],Li b rfl (gQ.nil _ _ _) rfl (by simp) (gQ.nil _ _ _) rfl (by simp),rfl⟩
 | 1,h=>cases h;exact⟨[],[[97]],[],Li (M7 _) rfl c rfl (by simp) (gQ.nil _ _ _) rfl (by simp),rfl⟩
 | 2,h=>cases h;exact⟨[],[],[0],Li (M7 _) rfl (gQ.nil _ _ _) rfl (by simp) d rfl (by simp),rfl⟩
 | 3,h=>cases h;exact⟨[],[],[0,0],Li (M7 _) rfl (gQ.nil _ _ _) rfl (by simp) e rfl (by simp),rfl⟩
 | i+4,h=>simp[nY]at h
theorem Yz(w:Ap):nA (nM w) (some ⟨w.heap.size+1+1+1+1,0,none⟩) 4 (nY w.heap.size):=by
 refine⟨?_,rfl,λ a e=>?_⟩
 have:=Lm kY (pt w) (nY w.heap.size) 69 (oU w.heap.size) rfl;rw[(QW w).2.2.2]at this;exact this
 obtain⟨i,hi⟩:=List.mem_iff_getElem?.1 e;obtain⟨b,c,d,h,_⟩:=OX w i a hi;exact⟨b,c,d,h⟩
theorem Xh(w:Ap):JX (nM w) (nY w.heap.size) oX:=⟨rfl,OX w⟩
theorem oR(h:Nat):∀a∈nY h,a.nm.size<=140737488355328:=by
 intro a b;simp only[nY,Bv,List.not_mem_nil,or_false]at b
 rcases b with rfl|rfl|rfl|rfl <;> exact Bw _
theorem Kx(x:UInt64):gY [x]=[x]:=by
 unfold gY;exact List.mergeSort_singleton x
theorem oj:mq.st.free [] [15955446209180732947]:=⟨by decide,by intro x a;rw[AZ]at a;rw[a];exact oV,by intro x a p hp;rw[AZ]at a;rw[a,Qq]at hp;cases hp⟩
theorem oA:mq.st.free [15955446209180732947] [16895835702100498982]:=⟨by decide,by intro x a;rw[AZ]at a;rw[a];exact Ts,by intro x a p hp;rw[AZ]at a;rw[a,Kd,AZ]at hp;rw[hp];decide⟩
theorem oQ:mq.st.free [] [15955446209180732947]->EA 0 (mq.st.pss ([]++gY [15955446209180732947]) (gY [15955446209180732947])) (λ _=>0)/\kx [] (mq.st.pss ([]++gY [15955446209180732947]) (gY [15955446209180732947])) [1]:=by
 intro _
 have e:mq.st.pss ([]++gY [15955446209180732947]) (gY [15955446209180732947])=[[]]:=by
  rw[Kx];unfold St.pss;rw[EU,Qq]
  rfl
 rw[e];refine⟨⟨by simp,by simp,λ i ps h q hq=>?_⟩,rfl,λ i ps h=>?_⟩
 match i,h with
 | 0,h=>cases h;simp at hq
 | i+1,h=>simp at h
 match i,h with
 | 0,h=>cases h;rfl
 | i+1,h=>simp at h
theorem oI:mq.st.free [15955446209180732947] [16895835702100498982]->EA 1 (mq.st.pss ([15955446209180732947]++gY [16895835702100498982]) (gY [16895835702100498982])) (λ _=>0)/\kx [1] (mq.st.pss ([15955446209180732947]++gY [16895835702100498982]) (gY [16895835702100498982])) [2]:=by
 intro _
 have e:mq.st.pss ([15955446209180732947]++gY [16895835702100498982]) (gY [16895835702100498982])=[[0]]:=by
  rw[Kx];unfold St.pss;rw[EU,Kd]
  rfl
 rw[e];refine⟨⟨by simp,by simp,λ i ps h q hq=>?_⟩,rfl,λ i ps h=>?_⟩
 match i,h with
 | 0,h =>
  cases h;rw[AZ]at hq;omega
 | i+1,h=>simp at h
 match i,h with
 | 0,h=>cases h;rfl
 | i+1,h=>simp at h
theorem oy:mq.st.free [] [16895835702100498982]->EA 0 (mq.st.pss ([]++gY [16895835702100498982]) (gY [16895835702100498982])) (λ _=>0)/\kx [] (mq.st.pss ([]++gY [16895835702100498982]) (gY [16895835702100498982])) []:=by
 intro h;have:=h.shut _ (AZ.2 rfl) 15955446209180732947 (by rw[Kd];decide);exact absurd this (by decide)
theorem oG{r:Int}(h:mq.st.told [] [1] [15955446209180732947] r rs):r=0/\∃x,rs=[x]/\x.id=15955446209180732947/\x.gen=1:=by
 obtain⟨a,b⟩:=h.uniq (.rows oj);refine⟨a,mq.st.row ([]++gY [15955446209180732947]) 15955446209180732947 1,?_,rfl,rfl⟩;rw[b,Kx]
 rfl
theorem WV(st:St)(Q:List UInt64)(x:UInt64)(g:Int):(st.row Q x g).ps=kL Q (st.com x).ps:=rfl
theorem pg{r:Int}(h:mq.st.told [15955446209180732947] [2] [16895835702100498982] r rs):r=0/\∃x,rs=[x]/\x.gen=2/\x.ps=[0]:=by
 obtain⟨a,b⟩:=h.uniq (.rows oA);refine⟨a,mq.st.row ([15955446209180732947]++gY [16895835702100498982]) 16895835702100498982 2,?_,rfl,?_⟩
 rw[b,Kx];unfold St.rows;rw[List.zipWith_cons_cons,List.zipWith_nil_left]
 rw[WV,Kd,Kx]
 rfl
theorem oZ{r:Int}(h:mq.st.told [] [] [16895835702100498982] r rs):r=14:=by
 refine(h.uniq (.open_ (by decide) (λ x a=>?_) (λ q=>?_))).1
 rw[AZ]at a;rw[a];exact Ts
 have:=q _ (AZ.2 rfl) 15955446209180732947 (by rw[Kd];decide);exact absurd this (by decide)
theorem gw(w:Ap):At Am 11 #[Aa none 0 0] w λ e w'=>e=Aj (Af #[Ab Ak 0,Aa none 0 0,Ab Ak 9])/\w'=w:=by
 go_enter func11,ntmps11;go_wp2_with fail;go_ret3;exact⟨rfl,rfl⟩
structure PR(u:Ap)(ra wa aa:Option Addr)(vs:List LV)(ws:List RV)(R:List Rw)(ak:List UInt64)(n m:Nat):Prop where
 rows:gQ iG u ra vs
 lid:vs.map (·.id)=R.map (·.id)
 lge:vs.map (·.gen)=R.map (·.gen)
 want:gQ im u wa ws
 rid:ws.map (·.id)=R.map (·.id)
 rge:ws.map (·.gen)=R.map (·.gen)
 ask:gQ gR u aa ak
 stk:nD R
 len:R.length=n
 alen:ak.length=m
theorem WI.parts{E:Nat->Prop}{s b:Nat}{vf vr vt xb xt:Ar}{oa j:Option Addr}{on oc zc:Nat}{U:Nat->Prop}{st:St}{d:Dk}{bl tl cl:List UInt64}(h:WI B E w s b vf (Aa oa on oc) vr vt xb xt (Aa j k zc) U st d bl tl cl):
  (∃S,A1 w s b st S)/\gQ iH w oa st.objs/\st.objs.length=on/\gQ gR w j cl/\cl.length=k:=by
 obtain⟨S,_,m,_⟩:=h.duo;obtain⟨fa,n,fc,c,g,f,o,p,rc,q,r,tc,e,_,i,_,_⟩:=h.ref
 have l:Aa oa on oc=Aa c g f:=by
  simp only[rm,Value.agg.injEq]at e;have:=A7 (λ a:Array Ar=>a[6]?) e;simpa using this
 cases l;exact⟨⟨S,m⟩,i.rd,i.len,h.oc.rdc.1,DC h.oc⟩
structure pP(v:Wd)(x0 x1:UInt64):Prop where
 cl:v.cl=[x0,x1]
 g0:v.st.free [] [x0]->EA 0 (v.st.pss ([]++gY [x0]) (gY [x0])) (λ _=>0)/\kx [] (v.st.pss ([]++gY [x0]) (gY [x0])) [1]
 g1:v.st.free [x0] [x1]->EA 1 (v.st.pss ([x0]++gY [x1]) (gY [x1])) (λ _=>0)/\kx [1] (v.st.pss ([x0]++gY [x1]) (gY [x1])) [2]
 g2:v.st.free [] [x1]->EA 0 (v.st.pss ([]++gY [x1]) (gY [x1])) (λ _=>0)/\kx [] (v.st.pss ([]++gY [x1]) (gY [x1])) []
 t0:∀{r:Int} {rs:List Rw},v.st.told [] [1] [x0] r rs->r=0/\∃x,rs=[x]/\x.id=x0/\x.gen=1
 t1:∀{r:Int} {rs:List Rw},v.st.told [x0] [2] [x1] r rs->r=0/\∃x,rs=[x]/\x.gen=2/\x.ps=[0]
 t2:∀{r:Int} {rs:List Rw},v.st.told [] [] [x1] r rs->r=14
theorem pE:∃a b,pP (mW (oX.take 40)) a b:=⟨_,_,oo,oQ,oI,oy,oG,pg,oZ⟩
theorem QP(f:gM iG 65 u B v vs)(d:iY u B vs rs)(g:rs=[x]):∃b lc a,v=Aa b 1 lc/\gQ iG u b [a]/\lW u B a x:=by
 subst g;have c:=d.len;obtain⟨a,rfl⟩:=List.length_eq_one_iff.1 c;obtain⟨b,lc,e,_,h⟩:=f.whole c;exact⟨b,lc,a,e,h,d.at_ 0 a x rfl rfl⟩
theorem Sd{b:Nat}{a:LV}(h:gQ iG u (some ⟨b,off,none⟩) [a]):u.cell? ⟨b,off+3,none⟩=some (Aa a.pa a.pn a.pc)/\u.cell? ⟨b,off+4,none⟩=some (Ab Ak a.gen):=by
 obtain⟨_,_,_,c,d,_⟩:=h.lrows (i:=0) rfl;rw[Nat.zero_mul,DI]at c d;exact⟨c,d⟩
theorem Ue(w:Ap):
  At Am 6 #[] w λ e w'=>e=Aj (.bool true)/\Iz w w':=by
 have kc:=λ(w:Ap) (C:Array Ar) (n c:Nat)=>Lib.run_convert_bytes_const (P:=Am) w 24 5 C n c underlying24 underlying5
 have ab:=TD (w:=nM w) (c:=4) (Yz w) (Xh w) (oR _) (by omega);have HA:=Ih (gy w);go_enter func6,ntmps6;go_wp2_with fail;refine ab.mono ?_;rintro e w2 ⟨u,rfl,J2⟩;clear ab kc;obtain⟨x,l,hF⟩:=pE
 obtain⟨v,hv⟩:=Xa (mW (oX.take 40))
 rw[hv]at hF J2;clear hv;obtain⟨s,b,fa,fl,fc,oa,on,oc,ra,rn,rc,ta,tn,tc,xa,xn,xc,ya,yn,yc,za,zn,zc,U,rfl,hW,B2⟩:=J2.o;obtain⟨st,d,bl,tl,cl⟩:=v;have Y:=Ih hF;have ai:=hF.cl;subst ai;simp only at hW;obtain⟨⟨S,q1⟩,q2,q3,q4,q5⟩:=hW.parts;obtain rfl:zn=2:=q5.symm;obtain⟨m,p,rfl,_⟩:=q4.some_of (i:=0) rfl
 obtain⟨K,hK⟩:=Xa w2.heap.size
 obtain⟨k,L⟩:=Xb (w2.alloc (Ai (iS s b d (Aa fa fl fc) (Aa oa on oc) (Aa ra rn rc) (Aa ta tn tc) (Aa xa xn xc) (Aa ya yn yc) (Aa (some ⟨m,p,none⟩) 2 zc)) 37))
 have B:Iz w2 k:=by rw[L];exact gW _ _
 have T:=HA.o.trans (B2.mono HA.o.size)
 have E3:Hid (SE k s b st S oa (some ⟨m,p,none⟩) none [x,l] [] K (iS s b d (Aa fa fl fc) (Aa oa on oc) (Aa ra rn rc) (Aa ta tn tc) (Aa xa xn xc) (Aa ya yn yc) (Aa (some ⟨m,p,none⟩) 2 zc))):=⟨q1.below B,q2.below B,q4.below B,gQ.nil _ _ _,by rw[L,<- hK];exact gT.new _ _ _⟩
 have H3:=Ih (T.trans (B.mono T.size));clear J2 hF hW q1 q2 q3 q4 q5 B2 B T HA
 go_upto_region 2 with fail
 rw[<- L];clear L hK;have aj:=E3.o.box.cell (j:=13) rfl
 go_upto_region 4 with fail
 clear aj
 have t:Hid (∀u,Iz k u->u.cell? ⟨K,1,none⟩=some (Ah (some ⟨s,0,none⟩))/\u.cell? ⟨K,13,none⟩=some (Aa (some ⟨m,p,none⟩) 2 zc)/\u.cell? ⟨m,p,none⟩=some (Ab Al (x.toNat:Int))):=by
  intro u A;have E:=E3.o.below A;have hc:=(E.coms.nums (i:=0) rfl).2;exact⟨E.box.cell (j:=1) rfl,E.box.cell (j:=13) rfl,by simpa using hc⟩
 have hq:∀u (a:Option Addr),Iz k u->gQ gR u a [x]->_:=λ u a A D=>Mk (ba:=none) (bn:=0) (n:=1) (bc:=0) (c:=1) (bvs:=[]) (G:=[1]) (rk:=λ _=>0) (E3.o.below A).store (gQ.nil _ _ _) rfl (by simp) (by simp) D rfl (by omega) Y.o.g0
 simp only[FT]at hq;have M:Hid _:=hq;clear hq
 go_upto_region 4 with fail
 go_cut[3,4] (λ lv fv u=>∃y lc,lv=Aa y 1 lc/\fv=Ab Ak 0/\Hid (∃r z Z,gQ iG u y [r]/\lW u Z r z/\z.id=x/\z.gen=1/\Iz k u))
 case first =>
  have V0:Hid (Iz k k.drew):=(Ao _ k).drew;have f:=I2 ((gW k _).drew:Iz k (k.alloc (Ai #[Ab Al (x.toNat:Int)] 63)).drew) ((Nh gR k x 63 _ rfl).below (Ao _ _).drew:gQ gR (k.alloc (Ai #[Ab Al (x.toNat:Int)] 63)).drew (some ⟨k.heap.size,0,none⟩) [x]);have H:=t.o _ V0.o;have q:=t.o _ f.o.1
  go_region_held3 (λ u=>u.cell? ⟨K,1,none⟩=some (Ah (some ⟨s,0,none⟩))/\u.cell? ⟨K,13,none⟩=some (Aa (some ⟨m,p,none⟩) 2 zc)/\u.cell? ⟨m,p,none⟩=some (Ab Al (x.toNat:Int)))
   (first | with_reducible exact H | with_reducible exact q | with_reducible exact I | go_keep)
   (first|(go_at_call 17;(with_reducible refine(M.o _ _ f.o.1 f.o.2).mono ?_);rintro e w7 ⟨mv,r7,rfl,O⟩;have N:Hid (Iz k w7):=(by obtain⟨_,_,_,_,_,b⟩:=O.o;exact f.o.1.trans (b.mono f.o.1.size));have I:=t.o _ N.o))
  all_goals
   go_wp2_with fail;go_meet;obtain⟨ae,rs,t2,o2,X,b2⟩:=O.o;obtain⟨e1,z,e2,e3,e4⟩:=Y.o.t0 t2;obtain⟨y,lc,r,e5,e6,e7⟩:=QP o2 X e2;rw[e1,e5];exact⟨y,lc,rfl,rfl,r,z,_,e6,e7,e3,e4,N.o⟩
 case rest =>
  obtain⟨y,lc,V,F,HM⟩:=hcut;subst V F;obtain⟨h,ag⟩:=Xb wc;subst ag;obtain⟨r,z,Z,D,Q,h3,h4,R⟩:=HM.o;have E4:=Ih (E3.o.below R);have J:=I5 D Q (H3.o.trans (R.mono H3.o.size)) (Q.id.trans h3) (Q.gen.trans h4);clear HM D Q h3 h4 R E3 H3 M t
  have t:Hid (∀u,Iz h u->u.cell? ⟨K,1,none⟩=some (Ah (some ⟨s,0,none⟩))/\u.cell? ⟨K,13,none⟩=some (Aa (some ⟨m,p,none⟩) 2 zc)/\u.cell? ⟨m,p+1,none⟩=some (Ab Al (l.toNat:Int))):=by
   intro u A;have E:=E4.o.below A;have hc:=(E.coms.nums (i:=1) rfl).2;exact⟨E.box.cell (j:=1) rfl,E.box.cell (j:=13) rfl,by simpa using hc⟩
  have hq:∀u (a:Option Addr),Iz h u->gQ gR u a [l]->_:=λ u a A D=>Mk (ba:=y) (bn:=1) (n:=1) (bc:=lc) (c:=1) (bvs:=[r]) (G:=[2]) (rk:=λ _=>0) (E4.o.below A).store (J.o.1.below A) rfl (λ v hv=>by rw[AZ]at hv;rw[hv,J.o.2.2.2.2];decide) (by simp) D rfl (by omega) (by rw[EU,EU,J.o.2.2.2.1,J.o.2.2.2.2];exact Y.o.g1)
  simp only[FT,List.map_cons]at hq;have M:Hid _:=hq;clear hq;go_upto_region 5 with fail
  go_cut[5,6] (λ lv fv u=>∃y lc,lv=Aa y 1 lc/\fv=Ab Ak 0/\Hid (∃r z Z,gQ iG u y [r]/\lW u Z r z/\z.gen=2/\z.ps=[0]/\Iz h u))
  case first =>
   have V0:Hid (Iz h h.drew):=(Ao _ h).drew;have f:=I2 ((gW h _).drew:Iz h (h.alloc (Ai #[Ab Al (l.toNat:Int)] 63)).drew) ((Nh gR h l 63 _ rfl).below (Ao _ _).drew:gQ gR (h.alloc (Ai #[Ab Al (l.toNat:Int)] 63)).drew (some ⟨h.heap.size,0,none⟩) [l]);have H:=t.o _ V0.o;have q:=t.o _ f.o.1
   go_region_held3 (λ u=>u.cell? ⟨K,1,none⟩=some (Ah (some ⟨s,0,none⟩))/\u.cell? ⟨K,13,none⟩=some (Aa (some ⟨m,p,none⟩) 2 zc)/\u.cell? ⟨m,p+1,none⟩=some (Ab Al (l.toNat:Int)))
    (first | with_reducible exact H | with_reducible exact q | with_reducible exact I | go_keep)
    (first|(go_at_call 17;(with_reducible refine(M.o _ _ f.o.1 f.o.2).mono ?_);rintro e w7 ⟨mv,r7,rfl,O⟩;have N:Hid (Iz h w7):=(by obtain⟨_,_,_,_,_,b⟩:=O.o;exact f.o.1.trans (b.mono f.o.1.size));have I:=t.o _ N.o))
   all_goals
    go_wp2_with fail;go_meet;obtain⟨ae,rs,t2,o2,X,b2⟩:=O.o;rw[J.o.2.2.2.1]at t2;obtain⟨e1,z,e2,e3,e4⟩:=Y.o.t1 t2;obtain⟨y,lc,r,e5,e6,e7⟩:=QP o2 X e2;rw[e1,e5];exact⟨y,lc,rfl,rfl,r,z,_,e6,e7,e3,e4,N.o⟩
  case rest =>
   obtain⟨ma,mc,V,F,HM⟩:=hcut;subst V F;obtain⟨g,ah⟩:=Xb wc;subst ah;obtain⟨v2,r2,B2,D,Q,h3,h4,R⟩:=HM.o;have E5:=Ih (E4.o.below R);have aa:=I6 (J.o.1.below R) J.o.2.2.2.2 D (Q.gen.trans h3) (by have:=Q.ps;rw[h4]at this;exact this:gM encI 3 g B2 (Aa v2.pa v2.pn v2.pc) [0]) (J.o.2.2.1.trans (R.mono J.o.2.2.1.size));clear HM D Q h3 h4 R E4 J M t
   have t:Hid (∀u,Iz g u->u.cell? ⟨K,1,none⟩=some (Ah (some ⟨s,0,none⟩))/\u.cell? ⟨K,13,none⟩=some (Aa (some ⟨m,p,none⟩) 2 zc)/\u.cell? ⟨m,p+1,none⟩=some (Ab Al (l.toNat:Int))):=by
    intro u A;have E:=E5.o.below A;have hc:=(E.coms.nums (i:=1) rfl).2;exact⟨E.box.cell (j:=1) rfl,E.box.cell (j:=13) rfl,by simpa using hc⟩
   have hq:∀u (a:Option Addr),Iz g u->gQ gR u a [l]->_:=λ u a A D=>Mk (ba:=none) (bn:=0) (n:=1) (bc:=0) (c:=1) (bvs:=[]) (G:=[]) (rk:=λ _=>0) (E5.o.below A).store (gQ.nil _ _ _) rfl (by simp) (by simp) D rfl (by omega) Y.o.g2
   simp only[FT]at hq;have M:Hid _:=hq;clear hq;go_upto_region 6 with fail
   go_cut[7,8] (λ lv fv u=>fv=Ab Ak 14/\Hid (Iz g u))
   case first =>
    have V0:Hid (Iz g g.drew):=(Ao _ g).drew;have f:=I2 ((gW g _).drew:Iz g (g.alloc (Ai #[Ab Al (l.toNat:Int)] 63)).drew) ((Nh gR g l 63 _ rfl).below (Ao _ _).drew:gQ gR (g.alloc (Ai #[Ab Al (l.toNat:Int)] 63)).drew (some ⟨g.heap.size,0,none⟩) [l]);have H:=t.o _ V0.o;have q:=t.o _ f.o.1
    go_region_held3 (λ u=>u.cell? ⟨K,1,none⟩=some (Ah (some ⟨s,0,none⟩))/\u.cell? ⟨K,13,none⟩=some (Aa (some ⟨m,p,none⟩) 2 zc)/\u.cell? ⟨m,p+1,none⟩=some (Ab Al (l.toNat:Int)))
     (first | with_reducible exact H | with_reducible exact q | with_reducible exact I | go_keep)
     (first|(go_at_call 17;(with_reducible refine(M.o _ _ f.o.1 f.o.2).mono ?_);rintro e w7 ⟨mv,r7,rfl,O⟩;have N:Hid (Iz g w7):=(by obtain⟨_,_,_,_,_,b⟩:=O.o;exact f.o.1.trans (b.mono f.o.1.size));have I:=t.o _ N.o))
    all_goals
     go_wp2_with fail;go_meet;obtain⟨ae,rs,t2,o2,X,b2⟩:=O.o;rw[Y.o.t2 t2];exact⟨rfl,N.o⟩
   case rest =>
    obtain⟨F,HB⟩:=hcut;subst F;obtain⟨l1,X,l3,l4,l5,l6⟩:=aa.o;have af:=Ih (l6.trans (HB.o.mono l6.size));obtain⟨lb,lo,rfl,_⟩:=l1.some_of (i:=0) rfl;obtain⟨mb,mo,rfl,_⟩:=l3.some_of (i:=0) rfl;have c1:=(Sd (l1.below HB.o)).2;obtain⟨c2,c3⟩:=Sd (l3.below HB.o);obtain⟨pa,pc,ac,_,W⟩:=l5.whole (n:=1) rfl;rw[ac]at c2;rw[X]at c1;rw[l4]at c3;obtain⟨pb,po,rfl,_⟩:=W.some_of (i:=0) rfl;have c4:=(W.below HB.o).ints (i:=0) rfl;rw[DI]at c4;clear aa HB l1 X l3 l4 l5 l6 ac W M t E5;go_wp2_with fail;refine(gw _).mono ?_;rintro e w9 ⟨rfl,ad⟩;rw[ad];clear ad;go_wp2_with fail;go_ret;exact⟨rfl,af.o⟩

theorem UV {ops:Array Oper} {rest:List Oper} {o:Oper} {a:Act} {w:World} {Q:Exit->Act->World->Prop} (hgd:o.guard=none) (s x:Operand)
  (hop:o.op=.call { callee:=.builtin .append,args:=#[s,x],argTypes:=#[24,24] }) (b off n:Nat) (bs:Bs) (y:UInt8) (ty:TypeId) (hl:bs.length=n) (hn:n<=1000000) (hr:gQ gP w (some ⟨b,off,none⟩) bs)
  (hs:a.eval s=.slice (some ⟨b,off,none⟩) n n) (hx:a.eval x=.slice (some ⟨w.heap.size,0,none⟩) 1 1) (c:Array Value) (hc:c=(gP.cells y).toArray)
  (h:∀ v' w',gM gP 5 w' w.heap.size v' (bs++[y])->Iz w w'->wpList Tryz.prog ops Q rest (a.put o.dst v') w') :
  wpList Tryz.prog ops Q (o::rest) a (w.alloc (.cells c ty)):=by
 subst hc;obtain ⟨i0,hi0,hz0,hz1,hz2⟩:=info_parts Tryz.info5;have ha:Iz w (w.alloc (.cells (gP.cells y).toArray ty)):=gW _ _;refine wpList_append_arg _ hgd s x 24 hop 5 i0 _ 1 1 Tryz.underlying24 hi0 hz0 hz1 hz2 rfl (by decide) b off n n (gP.all bs) hs (by rw [gP.all_length,hl]; rfl) ?_ ⟨w.heap.size,0,none⟩ 1 1 (gP.cells y) hx rfl (GQ gP w y ty) (gP.one y) (λ q=>by omega) (by simp only [maxLen]; omega) (by omega) (λ q=>by omega) ?_
 intro j u hu;rw [Tj,List.getElem?_map] at hu;obtain ⟨z,hz,rfl⟩:=Option.map_eq_some_iff.1 hu
 obtain ⟨b', off', e, _, hcl⟩ := (hr.below ha) (by rcases Nat.lt_or_ge j bs.length with q | q
                                                   omega
                                                   rw [List.getElem?_eq_none q] at hz; cases hz)
 obtain ⟨rfl,rfl⟩:b=b'/\off=off':=by simpa using e
 have:=hcl j z hz 0 _ rfl;simpa [gP] using this
 intro _ v' w' h1 h2;have ht:Aw (λ k=>(none:Option Nat)=some k) (w.alloc (.cells (gP.cells y).toArray ty)) w':=(Aw.refl _ _).grown h2 (λ k _ e=>e);have hb:=ht.below (Nat.le_refl _) (λ k _ e=>by cases e);refine h v' w' ?_ (ha.trans (hb.mono ha.size))
 have h3:gM gP 5 w' (w.alloc (.cells (gP.cells y).toArray ty)).heap.size v' (bs++[y]):=by
  unfold gM;rw [List.length_append,gP.all_append,hl];exact h1
 exact h3.low ha.size
theorem dL{b n0:Nat}(n:Nat)(u:gQ gP w (some ⟨b,off,none⟩) bs)(t:bs.length=n0)(D:n0<=1000):
  At Am 23 #[Aa (some ⟨b,off,none⟩) n0 n0,Ab Ak 4,Ab Al (n:Int)] w λ e w'=>∃v',e=Aj v'/\Hid (gM gP 5 w' w.heap.size v' (bs++low 4 n)/\Iz w w'):=by
 have H:=I2 u t
 clear u t;go_enter func23,ntmps23;go_wp2_with fail;go_loopg[0,7] 4 (λ m r F wr=>F=Ab Ak (8*(m:Int) - 8)/\m<=4/\Hid ((m=4/\r=Aa (some ⟨b,off,none⟩) n0 n0/\wr=w)∨(m<4/\gM gP 5 wr w.heap.size r (bs++low (4 - m) (n / 256 ^ m))/\Iz w wr)))
 case atStart=>exact⟨rfl,AA _,.inl ⟨rfl,rfl,rfl⟩⟩
 case round =>
  obtain⟨rfl,I,d⟩:=hrel
  cases gk with
  | zero =>
   obtain⟨x,z⟩:gM gP 5 wr w.heap.size _ (bs++low (4 - 0) (n / 256 ^ 0))/\Iz w wr:=d.o.elim (λ q=>absurd q.1 (by decide)) (λ q=>q.2)
   have j:=I2 (by simpa using x:gM gP 5 wr w.heap.size _ (bs++low 4 n)) z
   clear d x z;go_wp2;go_ret;exact⟨_,rfl,j.o⟩
  | succ gk =>
   obtain⟨y,l⟩:∃y:UInt8,UInt8.ofNat (n / 256 ^ gk)=y:=⟨_,rfl⟩
   have s:(n:Int) / 2 ^ (8*(gk+1) - 8) % 256=(y.toNat:Int):=by
    have A:((2:Int) ^ (8*gk))=((256 ^ gk:Nat):Int):=by
     rw[show(256:Nat) ^ gk=2 ^ (8*gk) by rw[Nat.pow_mul]];exact(Int.natCast_pow 2 (8*gk)).symm
    rw[<- l,UInt8.toNat_ofNat',show 8*(gk+1) - 8=8*gk by omega,A,<- Int.natCast_ediv];omega
   have v:low (4 - gk) (n / 256 ^ gk)=low (4 - (gk+1)) (n / 256 ^ (gk+1))++[y]:=by
    rw[show 4 - gk=(4 - (gk+1))+1 by omega,low,l,Nat.div_div_eq_div_mul,<- Nat.pow_succ]
   have p:Hid _:=v;clear v l
   rcases d.o with⟨g,h,i⟩ | ⟨g,h,i⟩
   ·subst h;subst i
    have f:=I3 H.o.1 H.o.2 g
    clear g d;go_wp2_with(at_builtin;refine UV rfl (.tmp 15) (.tmp 20) rfl b off n0 bs y _ f.o.2.1 (by omega) f.o.1 rfl rfl _ (by first | rfl | (rw[s];rfl)) ?_;intro v4 G c a);go_wp2;go_roundg gk
    case measure=>omega
    case rel=>exact⟨by go_num,by omega,.inr ⟨by have:=f.o.2.2;omega,by rw[p.o,show 4 - (gk+1)=0 by have:=f.o.2.2;omega];exact c,a⟩⟩
   ·have k:=I2 h i
    have B:(bs++low (4 - (gk+1)) (n / 256 ^ (gk+1))).length<=1008:=by
     rw[Ax,Bp];have:=H.o.2;omega
    clear g h i d;go_wp2_with(at_builtin;refine BA gP 5 24 1 (Ab .u8 0) rfl Tryz.info5 underlying24 rfl (.tmp 15) (.tmp 20) rfl w.heap.size _ _ y _ rfl k.o.1 rfl (by omega) (by simp only[AH];omega) k.o.2.size _ (by first | rfl | (rw[s];rfl)) ?_;intro v4 G c a C E);go_wp2;go_roundg gk
    case measure=>omega
    case rel=>exact⟨by go_num,by omega,.inr ⟨by omega,by rw[p.o,<- AT];exact c,k.o.2.trans a⟩⟩
theorem QK{ra:Option Addr}{f rc:Nat}(a:Int)(hR:gQ iG w ra vs)(hn:rs.length=f)(hV:oe w vs rs)(ai:f<=1000000000000)(hs:∀r∈rs,r.ps.length<=1000000000000/\r.fb.length<=10000000000000)(hT:∀i,((rs.take i).flatMap iJ).length<=1000000000000)(t:Nat)(J:ls (km a rs)=t):
  At Am 9 #[Ab Ak a,Aa ra f rc] w λ e w'=>∃v',e=Aj v'/\Hid (gM gP 5 w' w.heap.size v' (km a rs++low 4 t)/\An w.heap.size w w'):=by
 obtain⟨base,c⟩:=Xa w.heap.size
 obtain⟨q,G⟩:=Xa (km a rs)
 rw[G]at J ⊢
 obtain⟨u0,p⟩:=Xb (w.alloc (Ai #[Ab .u8 70,Ab .u8 66,Ab .u8 76,Ab .u8 49] 5 (4,5)))
 have O:An w.heap.size w u0:=by rw[p];exact gW w _
 have m:u0.heap[base]? = some (Ai #[Ab .u8 70,Ab .u8 66,Ab .u8 76,Ab .u8 49] 5 (4,5)):=by
  rw[p,<- c];show(w.heap.push _)[w.heap.size]? = _;simp
 have R0:gQ gP u0 (some ⟨base,0,none⟩) [70,66,76,49]:=by
  intro _;refine⟨base,0,rfl,by have:=O.size;rw[p,<- c];simp,λ i x d j u E=>?_⟩
  have hj:j=0:=by
   have:=(AG.1 E).1;simp[gP]at this;omega
  subst hj
  have E:Ab .u8 (x.toNat:Int)=u:=by simpa[gP]using E
  subst E
  match i,d with
  | 0,d=>cases d;simp[Bf,m,gP]
  | 1,d=>cases d;simp[Bf,m,gP]
  | 2,d=>cases d;simp[Bf,m,gP]
  | 3,d=>cases d;simp[Bf,m,gP]
  | (i+4),d=>simp at d
 have kc:(convert 24 24 (Aa (some ⟨base,0,none⟩) 4 4)).run Am (w.alloc (Ai #[Ab .u8 70,Ab .u8 66,Ab .u8 76,Ab .u8 49] 5))=.ok (Aa (some ⟨base,0,none⟩) 4 4) u0:=by
  rw[p,<- c];exact Lib.run_convert_bytes_const (P:=Am) w 24 5 #[Ab .u8 70,Ab .u8 66,Ab .u8 76,Ab .u8 49] 4 4 underlying24 underlying5
 have H:=I8 hR hn hV hs hT J c G
 have d1:=Jf a
 have d2:Al.wrap (f:Int)=(f:Int):=by rw[A5];omega
 have h1:=dL (n0:=4) (wu a) R0 rfl (by decide);clear p m R0;clear hR hn hV hs hT J G;go_enter func9,ntmps9
 go_upto_region 2 with fail
 clear kc;go_wp2_with fail;refine h1.mono ?_;rintro e u1 ⟨v1,rfl,J1⟩
 have O1:=I2 (J1.o.1.low (by have:=O.size;omega):gM gP 5 u1 base v1 ([70,66,76,49]++low 4 (wu a))) (by rw[<- c];exact O.trans (J1.o.2.mono O.size):An base w u1)
 clear h1 O J1;have h2:=IE 4 f (by decide) (by decide) O1.o.1 (by have:=O1.o.2.size;omega) (by rw[Ax,Bp];decide);clear c;go_wp2_with fail;refine h2.mono ?_;rintro e u2 ⟨v2,rfl,J2⟩;have B2:=Ih (O1.o.2.trans J2.o.2.1)
 obtain⟨N,z⟩:=Xa ([70,66,76,49]++low 4 (wu a)++low 4 f)
 have EH:=I2 z (by rw[<- z];simp[Bp]:N.length=12)
 have O2:Hid (gM gP 5 u2 base v2 N):=by rw[<- z];exact J2.o.1
 clear h2 z O1 J2;go_wp2_with fail;go_loopg[5,21] f (λ k bv iv wr=>∃(i:Nat) (xv:Ar),iv=Ab Ak i/\xv=bv/\i+k=f/\Hid (gM gP 5 wr base xv (N++(rs.take i).flatMap iJ)/\An base w wr))
 case atStart=>exact⟨0,_,rfl,rfl,by omega,by simpa using O2.o,B2.o⟩
 case round =>
  obtain⟨i,xv,rfl,ah,hi,D⟩:=hrel;subst ah;clear O2 B2;by_cases ab:i<f
  ·have id:(i:Int)<(f:Int):=by omega
   have n:i<rs.length:=by rw[H.o.2.1];exact ab
   have W:i<vs.length:=by rw[H.o.2.2.1.len];exact n
   obtain⟨x,d⟩:=Xa (rs[i])
   have Y:rs[i]? = some x:=by rw[Aq n,d]
   obtain⟨y,hy⟩:=Xa (vs[i])
   have C:vs[i]? = some y:=by rw[Aq W,hy]
   have R:An w.heap.size w wr:=by rw[H.o.2.2.2.2.2.2.1];exact D.o.2
   obtain⟨b,off,rfl,_⟩:=H.o.1.some_of C;obtain⟨c0,c1,c2,c3,c4,c5⟩:=(H.o.1.below R).lrows C
   have F:=λ(u:Ap) (E:An base w u)=>H.o.2.2.1.at_ i y x C Y |>.below (show An w.heap.size w u by rw[H.o.2.2.2.2.2.2.1];exact E)
   have ag:=H.o.2.2.2.1 x (by rw[<- d];exact List.getElem_mem n);have ac:=H.o.2.2.2.2.1 i;have ad:=H.o.2.2.2.2.1 (i+1)
   have T:(rs.take (i+1)).flatMap iJ=(rs.take i).flatMap iJ++iJ x:=by
    rw[List.take_succ_eq_append_getElem n,DH,d];simp
   have h0:=F w (Ao _ _);obtain⟨rid,l,h,pa,pn,pc,rgen,fa,fn,fc⟩:=y;simp only at c0 c1 c2 c3 c4 c5
   have af:pn<=1000000000000:=by have e:=h0.2.2.2.2.2.1;simp only at e;omega
   have B:fn<=10000000000000:=by have e:=h0.2.2.2.2.2.2.2;simp only at e;omega
   obtain⟨s,A⟩:=Xb (wr.alloc (Ai #[Ab Al (rid.toNat:Int),Ab Al (l.toNat:Int),Ab Ak h,Aa pa pn pc,Ab Ak rgen,Aa fa fn fc] 65))
   obtain⟨Z,hZ⟩:=Xa wr.heap.size
   have g:s.heap[Z]? = some (Ai #[Ab Al (rid.toNat:Int),Ab Al (l.toNat:Int),Ab Ak h,Aa pa pn pc,Ab Ak rgen,Aa fa fn fc] 65 (0,0)):=by
    rw[A,<- hZ];show(wr.heap.push _)[wr.heap.size]? = _;simp
   have V:=H.o.2.2.2.2.2.2.1
   have BW:Hid (An base w s/\gM gP 5 s base xv (N++(rs.take i).flatMap iJ)):=by
    rw[A];exact⟨D.o.2.trans ((gW wr _).mono (by have:=D.o.2.size;omega)),D.o.1.below (gW wr _)⟩
   have hA:=Vs (r:=x) BW.o.2 (by have:=BW.o.1.size;omega) (by rw[Ax];have:=EH.o.2;omega) (λ u E=>F u (BW.o.1.trans E)) af B;have FM:=Ih T;clear T d Y hy C n W R F ag ac ad h0 V
   go_upto_region 7 with fail
   rw[<- A]
   have z0:s.cell? ⟨Z,0,none⟩=some (Ab Al (rid.toNat:Int)):=by simp[Bf,g]
   have z1:s.cell? ⟨Z,1,none⟩=some (Ab Al (l.toNat:Int)):=by simp[Bf,g]
   have z2:s.cell? ⟨Z,2,none⟩=some (Ab Ak h):=by simp[Bf,g]
   have z3:s.cell? ⟨Z,3,none⟩=some (Aa pa pn pc):=by simp[Bf,g]
   have z4:s.cell? ⟨Z,4,none⟩=some (Ab Ak rgen):=by simp[Bf,g]
   have z5:s.cell? ⟨Z,5,none⟩=some (Aa fa fn fc):=by simp[Bf,g]
   clear A hZ g c0 c1 c2 c3 c4 c5;go_wp2_with fail;refine hA.mono ?_;rintro e u5 ⟨v5,rfl,J5⟩;clear hA;go_wp2;go_roundg (gk - 1)
   case measure=>omega
   case rel=>exact⟨i+1,v5,by go_num,rfl,by omega,by rw[FM.o,<- AT];exact J5.o.1,BW.o.1.trans J5.o.2⟩
  ·have U:i=f:=by omega
   have id:¬(i:Int)<(f:Int):=by omega
   have M:rs.take i=rs:=List.take_of_length_le (by rw[H.o.2.1];omega)
   have L:q=N++rs.flatMap iJ:=by rw[<- H.o.2.2.2.2.2.2.2];unfold km;rw[H.o.2.1,EH.o.1]
   have OF:gM gP 5 wr base xv q:=by rw[L,<- M];exact D.o.1
   have ae:q.length<=10000000000000:=by rw[L,Ax];have:=EH.o.2;have:=H.o.2.2.2.2.1 f;rw[<- U,M]at this;omega
   have I:=H.o.2.2.2.2.2.1
   obtain⟨bn,Q⟩:=Xa q.length
   obtain⟨xa,xc,rfl,_,_⟩:=OF.whole Q;have S:=LN (wr.alloc (Ai #[Aa xa bn xc] 24)) (v:=Aa (some ⟨wr.heap.size,0,none⟩) 1 1) (xss:=[q]) (IT (iW.at (OF.low (Bw _))) _) (by simp) t (by rw[List.flatten_cons,List.flatten_nil,Bz];exact I)
   have O3:gM gP 5 (wr.alloc (Ai #[Aa xa bn xc] 24)) base (Aa xa bn xc) q/\An base w (wr.alloc (Ai #[Aa xa bn xc] 24)):=⟨OF.below (gW wr _),D.o.2.trans ((gW wr _).mono (by have:=D.o.2.size;have:=H.o.2.2.2.2.2.2.1;omega))⟩
   have K:t<4294967296:=by rw[<- I];exact IF q
   have d5:Al.wrap (t:Int)=(t:Int):=by rw[A5];omega
   have B:=IE 4 t (by decide) (by decide) O3.1 (by have:=O3.2.size;have:=H.o.2.2.2.2.2.2.1;omega) (by omega);have H3:=Ih O3.2;clear D U M L I ae OF O3 K Q;go_wp2_with fail;refine S.mono ?_;rintro e w6 ⟨rfl,X⟩;rw[X];clear S X;go_wp2_with fail;refine B.mono ?_;rintro e w7 ⟨v7,rfl,J7⟩
   have aa:Hid (gM gP 5 w7 w.heap.size v7 (q++low 4 t)/\An w.heap.size w w7):=by
    show _/\_;rw[H.o.2.2.2.2.2.2.1];exact⟨J7.o.1,H3.o.trans J7.o.2.1⟩
   clear B J7;go_wp2;go_ret;exact⟨_,rfl,aa.o⟩
def nk(k:Nat)(r:Rs):Nat×Rs:=(val (ie k r).1,(ie k r).2)
def iA:Nat->Rs->List Int×Rs
 | 0,r=>([],r)
 | k+1,r=>((iA k r).1++[((nk 4 (iA k r).2).1:Int)],(nk 4 (iA k r).2).2)
def ko(r:Rs):Rw×Rs :=
 (⟨AL (nk 8 r).1,AL (nk 8 (nk 8 r).2).1,lK (nk 8 (nk 8 (nk 8 r).2).2).1,(iA (nk 1 (nk 8 (nk 8 (nk 8 r).2).2).2).1 (nk 1 (nk 8 (nk 8 (nk 8 r).2).2).2).2).1,
   ((nk 1 (iA (nk 1 (nk 8 (nk 8 (nk 8 r).2).2).2).1 (nk 1 (nk 8 (nk 8 (nk 8 r).2).2).2).2).2).1:Int),
   (ie (nk 2 (nk 1 (iA (nk 1 (nk 8 (nk 8 (nk 8 r).2).2).2).1 (nk 1 (nk 8 (nk 8 (nk 8 r).2).2).2).2).2).2).1 (nk 2 (nk 1 (iA (nk 1 (nk 8 (nk 8 (nk 8 r).2).2).2).1 (nk 1 (nk 8 (nk 8 (nk 8 r).2).2).2).2).2).2).2).1⟩,
  (ie (nk 2 (nk 1 (iA (nk 1 (nk 8 (nk 8 (nk 8 r).2).2).2).1 (nk 1 (nk 8 (nk 8 (nk 8 r).2).2).2).2).2).2).1 (nk 2 (nk 1 (iA (nk 1 (nk 8 (nk 8 (nk 8 r).2).2).2).1 (nk 1 (nk 8 (nk 8 (nk 8 r).2).2).2).2).2).2).2).2)
theorem Lh:∀(k:Nat) (r:Rs),(iA k r).1.length=k
 | 0,_=>rfl
 | k+1,r=>by simp[iA,Lh k r]
theorem GK(k:Nat)(r:Rs):(nk k r).1<256 ^ k:=AK (IP _) (CB (by decide) (IV k r))
structure RW(w:Ap)(R C:Nat)(i1 i2:Int)(u:Ap)(dt gn:Int)(pv fv:Ar)(xs:List Int)(r:Rs):Prop where
 res:gT u w.heap.size 65 #[Ab Al 0,Ab Al 0,Ab Ak 0,Aa none 0 0,Ab Ak 0,Aa none 0 0]
 row:gT u C 65 #[Ab Al i1,Ab Al i2,Ab Ak dt,pv,Ab Ak gn,fv]
 rdr:jJ u R r
 ps:gM encI 3 u (C+1) pv xs
 tur:Aw (λ k=>k=R) w u
 lo:w.heap.size<C
 lr:R<w.heap.size
theorem RW.turn{u':Ap}{R:Nat}{i:Rs}(h:RW w R C d e u dt c f b xs r)(l:jJ u' R i)(a:Aw (λ k=>k=R) u u'):RW w R C d e u' dt c f b xs i where
 res:=h.res.turned a (by have:=h.lr;omega)
 row:=h.row.turned a (by have:=h.lr;have:=h.lo;omega)
 rdr:=l
 ps:=h.ps.stays a (λ g j q=>by have:=(h.ps.lt g j).1;have:=h.lo;have:=h.lr;have m:=q;omega)
 tur:=h.tur.trans a (λ _ _ q=>q)
 lo:=h.lo
 lr:=h.lr
theorem RW.drew{R:Nat}{b:Int}{e a:Ar}(h:RW w R C c d u dt b e a xs r):RW w R C c d u.drew dt b e a xs r :=
 h.turn (h.rdr.below (Ao _ u).drew) ((Aw.ofBelow ((Ao _ u).drew)))
theorem RW.set{a:Ap}{R:Nat}{m x:Int}{A t d:Ar}{f:List Int}(h:RW w R C m n u dt x A t xs r)(i:An (C+1) u a)(p:Aw (λ k=>C+1<=k) u a)(z:gM encI 3 a (C+1) b f)(j:Nat)(D:(#[Ab Al m,Ab Al n,Ab Ak dt,A,Ab Ak x,t]:Array Ar).setIfInBounds j v=#[Ab Al m,Ab Al n,Ab Ak c,b,Ab Ak e,d]):RW w R C m n (a.setCell ⟨C,j,none⟩ v) c e b d f r:=by
 have l:Aw (λ k=>k=C) a (a.setCell ⟨C,j,none⟩ v):=BR j _;have E:=AK h.row.lt i.size;have lo:=h.lo;have lr:=h.lr;have o:An C a (a.setCell ⟨C,j,none⟩ v):=l.below (by omega) (λ k y q=>by have s:k=C:=q;omega)
 exact {
  res:=(h.res.below i (by omega)).turned l (by omega)
  row:=by rw[<- D];exact(h.row.below i (by omega)).put j v
  rdr:=(h.rdr.over (i.mono (by omega))).over (o.mono (by omega))
  ps:=z.stays l (λ g B q=>by have:=(z.lt g B).1;have s:=q;omega)
  tur:=(h.tur.trans p (λ k y q=>by have s:=q;omega)).trans l (λ k y q=>by have s:=q;omega)
  lo:=lo
  lr:=lr }
theorem RW.put{R:Nat}{i:Int}{g:Ar}(h:RW w R C d e u dt i f g xs r)(j:Nat)(k:(#[Ab Al d,Ab Al e,Ab Ak dt,f,Ab Ak i,g]:Array Ar).setIfInBounds j v=#[Ab Al d,Ab Al e,Ab Ak a,f,Ab Ak c,b]):RW w R C d e (u.setCell ⟨C,j,none⟩ v) a c f b xs r :=
 h.set (Ao _ _) (Aw.refl _ _) h.ps j k
theorem gl{R:Nat}(h:jJ w R r):
  At Am 31 #[Ah (some ⟨R,0,none⟩)] w λ e w'=>∃v:LV,e=Aj (.agg #[Ab Al (v.id.toNat:Int),Ab Al (v.tree.toNat:Int),Ab Ak v.date,Aa v.pa v.pn v.pc,Ab Ak v.gen,Aa v.fa v.fn v.fc])/\Hid (lW w' w.heap.size v (ko r).1/\jJ w' R (ko r).2/\Aw (λ k=>k=R) w w'):=by
 obtain⟨R1,P⟩:=Xa (nk 8 r)
 obtain⟨R2,Q⟩:=Xa (nk 8 R1.2)
 obtain⟨R3,S⟩:=Xa (nk 8 R2.2)
 obtain⟨N,T⟩:=Xa (nk 1 R3.2)
 obtain⟨x,U⟩:=Xa (iA N.1 N.2)
 obtain⟨R6,V⟩:=Xa (nk 1 x.2)
 obtain⟨O,X⟩:=Xa (nk 2 R6.2)
 obtain⟨t,Y⟩:=Xa (ie O.1 O.2)
 have hp:ko r=(⟨AL R1.1,AL R2.1,lK R3.1,x.1,(R6.1:Int),t.1⟩,t.2):=by
  unfold ko;rw[P,Q,S,T,U,V,X,Y]
 have v1:R1.1<18446744073709551616:=by rw[<- P];exact GK 8 _
 have v2:R2.1<18446744073709551616:=by rw[<- Q];exact GK 8 _
 have v3:R3.1<18446744073709551616:=by rw[<- S];exact GK 8 _
 have v4:N.1<256:=by rw[<- T];exact GK 1 _
 have v6:R6.1<256:=by rw[<- V];exact GK 1 _
 have v7:O.1<65536:=by rw[<- X];exact GK 2 _
 have v8:t.1.length<=O.1:=by rw[<- Y];exact IV _ _
 have v5:x.1.length=N.1:=by rw[<- U];exact Lh _ _
 have F:Hid (ko r=(⟨AL R1.1,AL R2.1,lK R3.1,x.1,(R6.1:Int),t.1⟩,t.2)/\nk 8 r=R1/\nk 8 R1.2=R2/\nk 8 R2.2=R3/\nk 1 R3.2=N/\iA N.1 N.2=x/\nk 1 x.2=R6/\nk 2 R6.2=O/\ie O.1 O.2=t/\x.1.length=N.1/\t.1.length<=O.1):=⟨hp,P,Q,S,T,U,V,X,Y,v5,v8⟩
 clear hp P Q S T U V X Y v5 v8;obtain⟨l,r1⟩:=R1;obtain⟨n2,r2⟩:=R2;obtain⟨n3,r3⟩:=R3;obtain⟨cn,f⟩:=N;obtain⟨J,r6⟩:=R6;obtain⟨n7,r7⟩:=O;simp only at F v1 v2 v3 v4 v6 v7;have lr:R<w.heap.size:=h.lt
 obtain⟨W0,Z⟩:=Xb (w.alloc (Ai #[Ab Al 0,Ab Al 0,Ab Ak 0,Aa none 0 0,Ab Ak 0,Aa none 0 0] 65))
 have B0:Iz w W0:=by rw[Z];exact gW _ _
 have X0:Hid (gT W0 w.heap.size 65 #[Ab Al 0,Ab Al 0,Ab Ak 0,Aa none 0 0,Ab Ak 0,Aa none 0 0]/\jJ W0 R r/\Iz w W0):=⟨by rw[Z];exact gT.new _ _ _,h.below B0,B0⟩
 have ai:=IG X0.o.2.1 8 (by decide) l r1 F.o.2.1;clear h B0;go_enter func31,ntmps31
 go_upto_region 1 with fail
 rw[<- Z];clear Z;go_wp2_with fail;refine ai.mono ?_;rintro e w1 ⟨rfl,J1⟩;clear ai;have aj:=IG J1.o.1 8 (by decide) n2 r2 F.o.2.2.1;go_wp2_with fail;refine aj.mono ?_;rintro e w2 ⟨rfl,J2⟩;clear aj
 obtain⟨C,hC⟩:=Xa w2.heap.size
 obtain⟨W3,ab⟩:=Xb (w2.alloc (Ai #[Ab Al (l:Int),Ab Al (n2:Int),Ab Ak 0,Aa none 0 0,Ab Ak 0,Aa none 0 0] 65))
 have s:Hid (RW w R C (l:Int) (n2:Int) W3 0 0 (Aa none 0 0) (Aa none 0 0) [] r2):=by
  have s0:=X0.o.1.lt;have s1:=J1.o.2.size;have s2:=J2.o.2.size
  have lo:w.heap.size<C:=by omega
  have x2:=((X0.o.1.turned J1.o.2 (by omega)).turned J2.o.2 (by omega))
  rw[ab]
  exact {
   res:=x2.below (gW w2 _) x2.lt
   row:=by rw[<- hC];exact gT.new _ _ _
   rdr:=J2.o.1.below (gW w2 _)
   ps:=gM.nil _ _ _ _
   tur:=(((Aw.ofBelow X0.o.2.2).trans J1.o.2 (λ _ _ q=>q)).trans J2.o.2 (λ _ _ q=>q)).trans (Aw.ofBelow (gW w2 _)) (λ _ _ q=>q)
   lo:=lo
   lr:=lr }
 have ak:=IG s.o.rdr 8 (by decide) n3 r3 F.o.2.2.2.1
 obtain⟨dt,ae⟩:=Xa (lK n3)
 have ar:Ak.wrap (n3:Int)=dt:=by rw[<- ae];exact Mi v3
 have HD:Hid (lK n3=dt):=ae;clear J1 J2 X0 ae
 go_upto_region 2 with fail
 rw[<- ab];clear hC ab;go_wp2_with fail;refine ak.mono ?_;rintro e y ⟨rfl,p⟩;have P4:Hid (RW w R C (l:Int) (n2:Int) y 0 0 (Aa none 0 0) (Aa none 0 0) [] r3):=s.o.turn p.o.1 p.o.2;clear ak p s;have x2:=P4.o.row.cell (j:=2) rfl;have f2:=P4.o.row.thaw 2;have P5:Hid (RW w R C (l:Int) (n2:Int) (y.setCell ⟨C,2,none⟩ (Ab Ak dt)) dt 0 (Aa none 0 0) (Aa none 0 0) [] r3):=P4.o.put 2 rfl
 obtain⟨W5,ac⟩:=Xb (y.setCell ⟨C,2,none⟩ (Ab Ak dt))
 rw[<- ac]at P5;have al:=IG P5.o.rdr 1 (by decide) cn f F.o.2.2.2.2.1
 go_upto_region 3 with fail
 rw[<- ac];clear ac x2 f2 ar P4;go_wp2_with fail;refine al.mono ?_;rintro e w6 ⟨rfl,J6⟩;have P6:Hid (RW w R C (l:Int) (n2:Int) w6 dt 0 (Aa none 0 0) (Aa none 0 0) [] f):=P5.o.turn J6.o.1 J6.o.2;clear al J6 P5;go_wp2_with fail;go_loopg[15] cn (λ m iv wr=>∃(i:Nat) (E:Option Addr) (lc:Nat),iv=Ab Al i/\i+m=cn/\Hid (RW w R C (l:Int) (n2:Int) wr dt 0 (Aa E i lc) (Aa none 0 0) (iA i f).1 (iA i f).2))
 case atStart=>exact⟨0,none,0,rfl,by omega,P6.o⟩
 case round =>
  obtain⟨i,E,lc,rfl,hi,HR⟩:=hrel;clear P6;by_cases aw:i<cn
  ·have id:(i:Int)<(cn:Int):=by omega
   have x3:=HR.o.row.cell (j:=3) rfl
   obtain⟨v,r',hv⟩:∃v r',nk 4 (iA i f).2=(v,r'):=⟨_,_,rfl⟩
   have ax:v<4294967296:=by have:=GK 4 (iA i f).2;rw[hv]at this;exact this
   have an:iA (i+1) f=((iA i f).1++[(v:Int)],r'):=by
    show((iA i f).1++[((nk 4 (iA i f).2).1:Int)],(nk 4 (iA i f).2).2)=_;rw[hv]
   have af:(iA i f).1.length=i:=Lh _ _;have HN:Hid (At Am 30 #[Ah (some ⟨R,0,none⟩),Ab Ak 4] wr.drew λ e w'=>e=Aj (Ab Al (v:Int))/\Hid (jJ w' R r'/\Aw (λ i=>i=R) wr.drew w')):=IG HR.o.drew.rdr 4 (by decide) v r' hv
   have HX:Hid (iA (i+1) f=((iA i f).1++[(v:Int)],r')/\(iA i f).1.length=i/\((iA i f).1++[(v:Int)]).length=i+1):=⟨an,af,by rw[Ax,af];rfl⟩
   have az:Ak.wrap (v:Int)=(v:Int):=by rw[Au];omega
   have lo:w.heap.size<C:=HR.o.lo;clear an af hv
   go_upto_region 5 with fail
   go_region_law
    (first
     | (refine Ix encI 3 23 8 _ rfl Tryz.info3 underlying23 rfl (.tmp 18) (.tmp 22) rfl (C+1) _ (iA i f).1 (v:Int) rfl (s.o.ps.below (gW K _)) K.heap.size rfl ap.o (by rw[HX.o.2.1];omega) (by rw[HX.o.2.1];simp only[AH];omega) (by have:=s.o.row.lt;simp;omega) ?_;intro v4 y A H ag I;obtain⟨a4,D,e4,_,_,_,_⟩:=gM.form A;rw[HX.o.2.2]at e4;subst e4;have p:Hid (gM encI 3 y (C+1) (Aa a4 (i+1) D) ((iA i f).1++[(v:Int)])/\An (C+1) K y/\Aw (λ k=>C+1<=k) K y):=⟨A,((gW K _).mono (by have:=s.o.row.lt;omega)).trans H,(Aw.ofBelow (gW K _)).trans I (λ k hk q=>(s.o.ps.lt k q).1)⟩;have z4:=(s.o.row.below p.o.2.1 (by omega)).cell (j:=3) rfl;have g4:=(s.o.row.below p.o.2.1 (by omega)).thaw 3;clear A H ag I)
     | (go_simp;(with_reducible refine HN.o.mono ?_);rintro e K ⟨rfl,J3⟩;have s:Hid (RW w R C (l:Int) (n2:Int) K dt 0 (Aa E i lc) (Aa none 0 0) (iA i f).1 r'):=HR.o.drew.turn J3.o.1 J3.o.2;have k3:=s.o.row.cell (j:=3) rfl;have aA:=(s.o.row.below (gW K (Ai #[Ab Ak (v:Int)] 3)) s.o.row.lt).cell (j:=3) rfl;have ap:Hid (∀j u,(encI.cells (v:Int))[j]? = some u->(K.alloc (Ai #[Ab Ak (v:Int)] 3)).cell? ((⟨K.heap.size,0,none⟩:Addr).add j)=some u):=GQ encI K (v:Int) 3))
   all_goals
    have P4:Hid (RW w R C (l:Int) (n2:Int) (y.setCell ⟨C,3,none⟩ (Aa a4 (i+1) D)) dt 0 (Aa a4 (i+1) D) (Aa none 0 0) (iA (i+1) f).1 (iA (i+1) f).2):=by
     rw[HX.o.1];exact s.o.set p.o.2.1 p.o.2.2 p.o.1 3 rfl
    go_wp2;go_roundg (gk - 1)
    case measure=>omega
    case rel=>exact⟨i+1,a4,D,by go_num,by omega,P4.o⟩
  ·obtain rfl:i=cn:=by omega
   have id:¬(i:Int)<(i:Int):=by omega
   have s:Hid (RW w R C (l:Int) (n2:Int) wr dt 0 (Aa E i lc) (Aa none 0 0) x.1 x.2):=by
    have:=HR.o;rw[F.o.2.2.2.2.2.1]at this;exact this
   have am:=IG s.o.rdr 1 (by decide) J r6 F.o.2.2.2.2.2.2.1
   have aq:Ak.wrap (J:Int)=(J:Int):=by rw[Au];omega
   clear HR;go_wp2_with fail;refine am.mono ?_;rintro e w7 ⟨rfl,J7⟩;have P7:Hid (RW w R C (l:Int) (n2:Int) w7 dt 0 (Aa E i lc) (Aa none 0 0) x.1 r6):=s.o.turn J7.o.1 J7.o.2;clear am J7 s;have x4:=P7.o.row.cell (j:=4) rfl;have f4:=P7.o.row.thaw 4
   obtain⟨W8,ad⟩:=Xb (w7.setCell ⟨C,4,none⟩ (Ab Ak (J:Int)))
   have P8:Hid (RW w R C (l:Int) (n2:Int) W8 dt (J:Int) (Aa E i lc) (Aa none 0 0) x.1 r6):=by rw[ad];exact P7.o.put 4 rfl
   go_upto_region 8 with fail
   rw[<- ad];clear ad x4 f4 aq P7
   have ay:Ak.wrap (n7:Int)=(n7:Int):=by rw[Au];omega
   have HN:Hid (At Am 30 #[Ah (some ⟨R,0,none⟩),Ab Ak 2] W8.drew λ e w'=>e=Aj (Ab Al (n7:Int))/\Hid (jJ w' R r7/\Aw (λ i=>i=R) W8.drew w')):=IG P8.o.drew.rdr 2 (by decide) n7 r7 F.o.2.2.2.2.2.2.2.1
   have HT:Hid (∀u,jJ u R r7->At Am 29 #[Ah (some ⟨R,0,none⟩),Ab Ak (n7:Int)] u λ e w'=>∃a n c,e=Aj (Aa a n c)/\Hid (n=t.1.length/\iE w' (Aa a n c) t.1/\jJ w' R t.2/\Aw (λ i=>i=R) u w')):=λ u hu=>by
    have:=MJ hu n7;rw[F.o.2.2.2.2.2.2.2.2.1]at this;exact this
   have lo:w.heap.size<C:=P8.o.lo;have k5:=P8.o.drew.row.cell (j:=5) rfl
   go_region_law
    (first
     | (refine Jx gP 5 24 1 (Ab .u8 0) rfl Tryz.info5 underlying24 rfl (.tmp 31) (.tmp 36) rfl (C+1) (Aa none 0 0) [] t.1 ta L tc rfl (gM.nil _ _ _ _) rfl z.o.1 z.o.2.1 (by have:=z.o.2.2;simp;omega) (by have:=z.o.2.2;simp only[AH,List.length_nil];omega) (by have:=P9.o.row.lt;omega) ?_;intro v4 y A H ag I;have ah:gM gP 5 y (C+1) v4 t.1:=A;obtain⟨a4,D,e4,_,_,_,_⟩:=gM.form ah;rw[z.o.2.1]at e4;subst e4;have p:Hid (gM gP 5 y (C+1) (Aa a4 L D) t.1/\An (C+1) w9 y/\Aw (λ k=>(Aa none 0 0).ownBlock=some k) w9 y):=⟨ah,H,I⟩;have z4:=(P9.o.row.below p.o.2.1 (by omega)).cell (j:=5) rfl;have g4:=(P9.o.row.below p.o.2.1 (by omega)).thaw 5;clear A ah H ag I)
     | (go_simp;(with_reducible refine(HT.o _ M.o.rdr).mono ?_);rintro e w9 ⟨ta,L,tc,rfl,J9⟩;have P9:Hid (RW w R C (l:Int) (n2:Int) w9 dt (J:Int) (Aa E i lc) (Aa none 0 0) x.1 t.2):=M.o.turn J9.o.2.2.1 J9.o.2.2.2;have av:=P9.o.row.cell (j:=5) rfl;have z:Hid (gQ gP w9 ta t.1/\t.1.length=L/\L<=65536):=(by obtain⟨q1,q2,q3,q4⟩:=J9.o;obtain⟨ao,c9,e9,_,_,r9⟩:=q2;cases e9;exact⟨r9,rfl,by have:=F.o.2.2.2.2.2.2.2.2.2.2;omega⟩))
     | (go_simp;(with_reducible refine HN.o.mono ?_);rintro e w8 ⟨rfl,J8⟩;have M:Hid (RW w R C (l:Int) (n2:Int) w8 dt (J:Int) (Aa E i lc) (Aa none 0 0) x.1 r7):=P8.o.drew.turn J8.o.1 J8.o.2;have au:=M.o.row.cell (j:=5) rfl))
   all_goals
    obtain⟨aa,G⟩:=Xb (y.setCell ⟨C,5,none⟩ (Aa a4 L D))
    have d:Hid (RW w R C (l:Int) (n2:Int) aa dt (J:Int) (Aa E i lc) (Aa a4 L D) x.1 t.2/\gM gP 5 aa (C+1) (Aa a4 L D) t.1):=by
     rw[G];refine⟨P9.o.set p.o.2.1 ((Aw.refl (λ k=>C+1<=k) w9).trans p.o.2.2 (λ k hk q=>by simp[BQ]at q)) (P9.o.ps.stays p.o.2.2 (λ g hg q=>by simp[BQ]at q)) 5 rfl,?_⟩;exact p.o.1.stays (BR (b:=C) 5 _) (λ g hg q=>by have:=(p.o.1.lt g hg).1;have q':g=C:=q;omega)
    go_upto_region 9 with fail
    rw[<- G];have x0:=d.o.1.row.cell (j:=0) rfl;have x1:=d.o.1.row.cell (j:=1) rfl;have x2:=d.o.1.row.cell (j:=2) rfl;have x3:=d.o.1.row.cell (j:=3) rfl;have x4:=d.o.1.row.cell (j:=4) rfl;have x5:=d.o.1.row.cell (j:=5) rfl;have y0:=d.o.1.res.cell (j:=0) rfl;have y1:=d.o.1.res.cell (j:=1) rfl;have y2:=d.o.1.res.cell (j:=2) rfl;have y3:=d.o.1.res.cell (j:=3) rfl;have y4:=d.o.1.res.cell (j:=4) rfl;have y5:=d.o.1.res.cell (j:=5) rfl;have f0:=d.o.1.res.thaw 0;have f1:=d.o.1.res.thaw 1;have f2:=d.o.1.res.thaw 2;have f3:=d.o.1.res.thaw 3;have f4:=d.o.1.res.thaw 4;have f5:=d.o.1.res.thaw 5;clear G z4 g4 k5 au av HN HT P8 M P9 p z J8 J9;go_wp2;refine As (v:=.agg #[Ab Al (l:Int),Ab Al (n2:Int),Ab Ak dt,Aa E i lc,Ab Ak (J:Int),Aa a4 L D]) ?_ rfl ?_
    ·simp[AI,Tryz.f31];go_simp
    ·have e1:(AL l).toNat=l:=by rw[Cf];omega
     have e2:(AL n2).toNat=n2:=by rw[Cf];omega
     have ht:=De (W:=aa) w.heap.size [Ab Al (l:Int),Ab Al (n2:Int),Ab Ak dt,Aa E i lc,Ab Ak (J:Int),Aa a4 L D] 0;have aB:=d.o.1.lo;refine⟨⟨AL l,AL n2,dt,E,i,lc,(J:Int),a4,L,D⟩,by simp only;rw[e1,e2],?_⟩;rw[F.o.1];refine⟨⟨rfl,rfl,HD.o.symm,rfl,?_,?_⟩,?_,?_⟩
     ·exact(d.o.1.ps.stays ht (λ g hg q=>by have:=(d.o.1.ps.lt g hg).1;have q':g=w.heap.size:=q;omega)).low (by omega)
     ·exact(d.o.2.stays ht (λ g hg q=>by have:=(d.o.2.lt g hg).1;have q':g=w.heap.size:=q;omega)).low (by omega)
     ·have hb:=ht.below (B:=R+1) (by have:=d.o.1.res.lt;omega) (λ k hk q=>by have q':k=w.heap.size:=q;omega);exact d.o.1.rdr.over hb
     ·exact d.o.1.tur.trans ht (λ k hk q=>by have q':k=w.heap.size:=q;omega)
def iQ:Nat->List Rw->Rs->List Rw×Rs
 | 0,R,r=>(R,r)
 | m+1,R,r=>if r.2=true then(R,r)else iQ m (R++[(ko r).1]) (ko r).2
def mn(bs:Bs):Bs:=bs.take (bs.length - 4)
def lx(n:Nat)(D:List Rw×Rs):Int×List Rw×Int:=if D.2.2=true∨D.2.1≠[]then(0,[],9)else((n:Int),D.1,0)
def jg(bs:Bs):Int×List Rw×Int :=
 if bs.length<16 then(0,[],9)
 else if val (bs.drop (bs.length - 4))≠ls (mn bs)then(0,[],11)
 else if(mn bs).take 4≠[70,66,76,49]then(0,[],9)
 else lx (val (((mn bs).drop 4).take 4)) (iQ (val (((mn bs).drop 8).take 4)) [] ((mn bs).drop 12,false))
theorem JL{l:Bs}(h:l.length<=4):val l<4294967296:=AK (IP l) (CB (n:=256) (by decide) h:256 ^ l.length<=256 ^ 4)
theorem OE(m:Nat)(R:List Rw)(r:Rs)(h:r.2=true):iQ m R r=(R,r):=by
 cases m with
 | zero=>rfl
 | succ m=>unfold iQ;rw[AC h]
theorem JY{s:Bool}(h:k<=bs.length):ie k (bs,s)=(bs.take k,(bs.drop k,s)):=by
 unfold ie;rw[Ay (by simp only;omega)]
structure DW(w:Ap)(Q:Nat)(u:Ap)(rv:Ar)(vs:List LV)(R:List Rw)(r:Rs):Prop where
 rdr:jJ u Q r
 own:gM iG 65 u (Q+1) rv vs
 lv:iY u (Q+1) vs R
 bel:An w.heap.size w u
 lo:w.heap.size<=Q
theorem jJ.noIB{R:Nat}(h:jJ w R r):nh w (λ k=>k=R):=by
 intro k f C;obtain⟨a,c,e,_⟩:=h.at_;have d:=f;subst d;have b:w.heap[k]? = _:=e;rw[b]
 constructor
 intro q;cases q
 intro q;cases q
theorem DW.add{c u2:Ap}{Q:Nat}{rv d:Ar}{l:Rs}{v:LV}(h:DW w Q u rv vs R r)(a:Aw (λ k=>k=Q) u c)(o:jJ c Q l)(p:lW c u.heap.size v x)(n:gM iG 65 u2 (Q+1) d (vs++[v]))(b:Aw (λ k=>rv.ownBlock=some k) c u2):DW w Q u2 d (vs++[v]) (R++[x]) l:=by
 have hq:=h.rdr.lt;have j:=h.own.stays a (λ g m q=>by have:=(h.own.lt g m).1;have B:=q;omega);have t:=h.lv.stays a h.rdr.noIB;have f:=j.noIB (by decide) (by decide);have b1:=JR hq a;have b2:An (Q+1) c u2:=b.below (by have:=a.size;omega) (λ k A q=>by have:=(j.lt k q).1;omega);refine⟨o.over b2,n,?_,(h.bel.trans (b1.mono h.lo)).trans (b2.mono (by have:=h.lo;omega)),h.lo⟩;refine(t.stays b f).app ⟨rfl,λ i y z e s=>?_⟩
 cases i with
 | zero =>
  cases e;cases s;exact(p.low (by omega)).stays b f
 | succ i=>simp at e
theorem Qe{a:Option Addr}{n c:Nat}(hb:iE w (Aa a n c) bs)(hl:bs.length=n)(hn:n<=100000000000):
  At Am 11 #[Aa a n c] w λ e w'=>∃v,e=Aj (Af #[Ab Ak (jg bs).1,v,Ab Ak (jg bs).2.2])/\Hid ((∃vs,gM iG 65 w' w.heap.size v vs/\iY w' w.heap.size vs (jg bs).2.1)/\An w.heap.size w w'):=by
 by_cases aH:n<16
 ·have hp:jg bs=(0,[],9):=by unfold jg;rw[AC (by omega)]
  rw[hp]
  have q:(n:Int)<16:=by omega
  clear hb hl hp;go_enter func11,ntmps11;go_wp2;refine As (v:=Af #[Ab Ak 0,Aa none 0 0,Ab Ak 9]) ?_ rfl ?_
  ·simp[AI,Tryz.f11]
  ·exact⟨_,rfl,⟨[],gM.nil _ _ _ _,iY.nil _ _⟩,Ao _ _⟩
 obtain⟨d,ai⟩:=Xa (n - 4)
 have aO:¬(n:Int)<16:=by omega
 have aP:(n:Int) - 4=(d:Int):=by omega
 have qw:Ak.wrap (d:Int)=(d:Int):=by rw[Au];omega
 have o:(n<=c/\c<=9223372036854775807)/\∀u,An w.heap.size w u->gQ gP u a bs:=by
  obtain⟨ao,c',e,o1,o2,o3⟩:=hb;rw[hl]at e o1;cases e;exact⟨⟨o1,o2⟩,λ u hu=>o3.below hu⟩
 obtain⟨a2,c2,s2,p1,p2,r2⟩:=Kl (ao:=a) (n:=n) (c:=c) (k:=d) o.1.1 (by omega);obtain⟨a3,I,s3,p3,p4,r3⟩:=Kq (ao:=a) (n:=n) (c:=c) (k:=d) o.1.1 (by omega)
 obtain⟨X,hX⟩:=Xa (mn bs)
 have U:bs.take d=X:=by rw[<- hX,<- ai,<- hl];rfl
 have K:X.length=d:=by rw[<- U,AE];omega
 have l2:(bs.drop d).length=n - d:=by rw[AO];omega
 obtain⟨t1,W⟩:=Xa (val (bs.drop d))
 obtain⟨i,L⟩:=Xa (ls X)
 have H:Hid ((∀u,An w.heap.size w u->iE u (Aa a2 (n - d) c2) (bs.drop d))/\(∀u,An w.heap.size w u->iE u (Aa a3 d I) X)/\X.length=d/\val (bs.drop d)=t1/\ls X=i):=by
  have o2:=o.1.2;refine⟨λ u hu=>⟨a2,c2,by rw[l2],by rw[l2];exact p1,by omega,r2 u _ hl (o.2 u hu)⟩,λ u hu=>⟨a3,I,by rw[K],by rw[K];exact p3,by omega,by rw[<- U];exact r3 u _ (o.2 u hu)⟩,K,W,L⟩
 have E:Hid (jg bs=if t1≠i then(0,[],11)else if X.take 4≠[70,66,76,49]then(0,[],9)else lx (val ((X.drop 4).take 4)) (iQ (val ((X.drop 8).take 4)) [] (X.drop 12,false))):=by
  show _=_;unfold jg;rw[Ay (by omega),hX,hl,ai,W,L]
 have aI:i<4294967296:=by rw[<- L];exact IF _
 have qc:Al.wrap (i:Int)=(i:Int):=by rw[A5];omega
 have aw:n - d<=8:=by omega
 obtain⟨tb,Y⟩:=Xa (((t1:Int) != (i:Int)))
 have A:(t1 != i)=tb:=by
  rw[<- Y];by_cases e:t1=i
  ·subst e;simp
  ·have:¬(t1:Int)=(i:Int):=by omega
   rw[bne,bne,A3.2 e,A3.2 this]
 have G:Hid (tb=true↔t1≠i):=by
  show _↔_;rw[<- A];simp
 clear hb hl o p1 p2 p3 p4 r2 r3 hX U K l2 W L
 have fl:([X]:List Bs).flatten=X:=by simp
 have V1:Hid (An w.heap.size w w.drew):=(Ao _ w).drew;have V2:Hid (An w.heap.size w (w.alloc (Ai #[Aa a3 d I] 24)).drew):=(gW w _).drew;have V3:Hid (An w.heap.size w (w.drew.alloc (Ai #[Aa a3 d I] 24))):=V1.o.trans ((gW w.drew _).mono V1.o.size)
 have HN:Hid (∀u,An w.heap.size w u->At Am 28 #[Aa a2 (n - d) c2] u λ e w'=>e=Aj (Ab Al (t1:Int))/\w'=u):=λ u hu=>by
  have hd:=H.o.1 u hu
  have aj:(bs.drop d).length=n - d:=by
   obtain⟨_,_,e,_⟩:=hd
   injection e with _ e _
   exact e.symm
  have:=Sy hd aj aw;rw[H.o.2.2.2.1]at this;exact this
 have ad:Hid (At Am 25 #[Aa (some ⟨w.heap.size,0,none⟩) 1 1] (w.drew.alloc (Ai #[Aa a3 d I] 24)) λ e w'=>e=Aj (Ab .u32 (i:Int))/\w'=w.drew.alloc (Ai #[Aa a3 d I] 24)):=LN _ (IT (H.o.2.1 w.drew V1.o) 24) (by simp) i (by rw[fl];exact H.o.2.2.2.2);have ae:Hid (At Am 25 #[Aa (some ⟨w.heap.size,0,none⟩) 1 1] (w.alloc (Ai #[Aa a3 d I] 24)).drew λ e w'=>e=Aj (Ab .u32 (i:Int))/\w'=(w.alloc (Ai #[Aa a3 d I] 24)).drew):=LN _ ((IT (H.o.2.1 w (Ao _ _)) 24).below (Ao _ _).drew) (by simp) i (by rw[fl];exact H.o.2.2.2.2);clear fl;go_enter func11,ntmps11
 go_upto_region 4 with fail
 go_cut[26] (λ tv u=>∃y,y=u/\tv=.bool tb/\Hid (An w.heap.size w y))
 case first =>
  go_region_held3 (λ u=>Hid (An w.heap.size w u))
   (first | with_reducible exact V1 | with_reducible exact V2 | with_reducible exact V3 | with_reducible assumption | (refine mi ?_;with_reducible assumption) | (refine mI ?_;with_reducible assumption) | (refine mI (mi ?_);with_reducible assumption))
   (first
    | (go_at_call 25;(with_reducible refine ad.o.mono ?_);rintro e p ⟨rfl,b⟩;rw[b];clear b p)
    | (go_at_call 25;(with_reducible refine ae.o.mono ?_);rintro e p ⟨rfl,b⟩;rw[b];clear b p)
    | (go_at_call 28;(with_reducible refine(HN.o _ V1.o).mono ?_);rintro e p ⟨rfl,b⟩;rw[b];clear b p)
    | (go_at_call 28;(with_reducible refine(HN.o _ V2.o).mono ?_);rintro e p ⟨rfl,b⟩;rw[b];clear b p)
    | (go_at_call 28;(with_reducible refine(HN.o _ V3.o).mono ?_);rintro e p ⟨rfl,b⟩;rw[b];clear b p))
  all_goals
   go_wp2_with fail;go_meet
   first
    | exact⟨_,rfl,rfl,V3.o⟩
    | exact⟨_,rfl,rfl,V2.o⟩
 case rest =>
  obtain⟨w1,ay,rfl,B1⟩:=hcut;subst ay;clear V1 V2 V3 HN ad ae;by_cases B:t1=i
  ·have Z:tb=false:=by
    cases tb with
    | false=>rfl
    | true=>exact absurd B (G.o.1 rfl)
   subst Z
   obtain⟨Q,hQ⟩:=Xa w1.heap.size
   obtain⟨W2,T⟩:=Xb (w1.alloc (Ai #[Aa a3 d I,.bool false] 87))
   have J:w.heap.size<=Q:=by have:=B1.o.size;omega
   have L2:Hid (jJ W2 Q (X,false)/\An w.heap.size w W2):=by
    rw[T,<- hQ];exact⟨jJ.new (H.o.2.1 w1 B1.o) H.o.2.2.1,B1.o.trans ((gW w1 _).mono B1.o.size)⟩
   have e4:ie 4 (X,false)=(X.take 4,(X.drop 4,false)):=JY (by have:=H.o.2.2.1;omega);have aa:=MJ L2.o.1 4;rw[e4]at aa
   obtain⟨m4,t⟩:∃m4:ByteArray,(⟨(X.take 4).toArray⟩:ByteArray)=m4:=⟨_,rfl⟩
   have F:Hid (jg bs=if X.take 4≠[70,66,76,49]then(0,[],9)else lx (val ((X.drop 4).take 4)) (iQ (val ((X.drop 8).take 4)) [] (X.drop 12,false))):=by
    have:=E.o;rw[Ay (by simpa using B)]at this;exact this
   clear E G Y A B
   go_upto_region 7 with fail
   rw[<- T];clear T;go_wp2_with fail;refine aa.mono ?_;rintro e p ⟨ta,tn,tc,rfl,J3⟩;have ah:=Ga J3.o.2.1;rw[show tx (X.take 4)=Ae m4 by rw[<- t]]at ah
   have L3:Hid (jJ p Q (X.drop 4,false)/\An w.heap.size w p):=⟨J3.o.2.2.1,L2.o.2.trans ((JR L2.o.1.lt J3.o.2.2.2).mono J)⟩
   clear aa J3;by_cases x:X.take 4=[70,66,76,49]
   ·have M:(m4.toList==[70,66,76,49])=true:=by
     rw[ByteArray.toList_eq,<- t];simpa using x
    have f:Hid (jg bs=lx (val ((X.drop 4).take 4)) (iQ (val ((X.drop 8).take 4)) [] (X.drop 12,false))):=by
     have:=F.o;rw[Ay (by simpa using x)]at this;exact this
    clear t F x
    obtain⟨nn,O⟩:=Xa (val ((X.drop 4).take 4))
    obtain⟨mm,N⟩:=Xa (val ((X.drop 8).take 4))
    have P:12<=X.length:=by have:=H.o.2.2.1;omega
    have ak:=IG L3.o.1 4 (by decide) nn (X.drop 8,false) (by rw[JY (by rw[AO];omega),O,Be])
    have aK:nn<4294967296:=by rw[<- O];exact JL (by rw[AE];omega)
    have aJ:mm<4294967296:=by rw[<- N];exact JL (by rw[AE];omega)
    have aN:Ak.wrap (nn:Int)=(nn:Int):=by rw[Au];omega
    rw[O,N]at f
    obtain⟨D,hD⟩:=Xa (iQ mm [] (X.drop 12,false))
    rw[hD]at f
    have C:Hid (iQ mm [] (X.drop 12,false)=D/\val ((X.drop 8).take 4)=mm/\12<=X.length):=⟨hD,N,P⟩
    clear O N hD P;go_wp2_with fail;refine ak.mono ?_;rintro e w4 ⟨rfl,J4⟩
    have L4:Hid (jJ w4 Q (X.drop 8,false)/\An w.heap.size w w4):=⟨J4.o.1,L3.o.2.trans ((JR L3.o.1.lt J4.o.2).mono J)⟩
    clear ak J4 L3 ah M;have al:=IG L4.o.1 4 (by decide) mm (X.drop 12,false) (by rw[JY (by rw[AO];have:=C.o.2.2;omega),C.o.2.1,Be]);go_wp2_with fail;refine al.mono ?_;rintro e w5 ⟨rfl,J5⟩
    have L5:Hid (DW w Q w5 (Aa none 0 0) [] [] (X.drop 12,false)):=⟨J5.o.1,gM.nil _ _ _ _,iY.nil _ _,L4.o.2.trans ((JR L4.o.1.lt J5.o.2).mono J),J⟩
    clear al J5 L4 L2 hQ e4;go_wp2_with fail;go_loopg[8,9] mm (λ m rv lv wr=>∃xv:Ar,xv=rv/\lv=Ab Al (m:Int)/\Hid (∃vs R r,DW w Q wr xv vs R r/\iQ m R r=D/\vs.length+m<=4294967296))
    case atStart=>exact⟨_,rfl,rfl,[],[],_,L5.o,C.o.1,by simp;omega⟩
    case round =>
     obtain⟨xv,az,rfl,af⟩:=hrel;subst az;clear L5 C;obtain⟨vs,R,r,hR,l,aM⟩:=af.o
     obtain⟨vn,ar⟩:=Xa vs.length
     obtain⟨xa,xc,rfl,_,_⟩:=hR.own.whole ar;obtain⟨ra,rc,ag,_⟩:=hR.rdr.at_;obtain⟨y0,y1⟩:=ag.cells
     obtain⟨rl,V⟩:=Xa r.1.length
     rw[V]at y0;have j:Hid (DW w Q wr (Aa xa vn xc) vs R r):=hR
     have HV:Hid (vs.length=vn/\r.1.length=rl):=⟨ar,V⟩
     clear hR ag af V
     cases gk with
     | zero =>
      have S:Hid (D=(R,r)):=l.symm;clear l;by_cases h:r.2=true
      ·have s:Hid (jg bs=(0,[],9)):=by
        have:=f.o;unfold lx at this;rw[S.o,AC (.inl h)]at this;exact this
       have FB:Hid (An w.heap.size w wr):=j.o.bel;rw[h]at y1;clear f;go_wp2;refine As (v:=Af #[Ab Ak 0,Aa none 0 0,Ab Ak 9]) ?_ rfl ?_
       ·simp[AI,Tryz.f11]
       ·rw[s.o];exact⟨_,rfl,⟨[],gM.nil _ _ _ _,iY.nil _ _⟩,FB.o⟩
      ·have z:r.2=false:=by simpa using h
       rw[z]at y1;by_cases aL:0<rl
       ·have s:Hid (jg bs=(0,[],9)):=by
         have:=f.o;unfold lx at this;rw[S.o,AC (.inr (λ q=>by have:=HV.o.2;simp only at q;rw[q]at this;simp at this;omega))]at this;exact this
        have FB:Hid (An w.heap.size w wr):=j.o.bel
        have d1:(0:Int)<(rl:Int):=by omega
        clear f;go_wp2;refine As (v:=Af #[Ab Ak 0,Aa none 0 0,Ab Ak 9]) ?_ rfl ?_
        ·simp[AI,Tryz.f11]
        ·rw[s.o];exact⟨_,rfl,⟨[],gM.nil _ _ _ _,iY.nil _ _⟩,FB.o⟩
       ·obtain rfl:rl=0:=by omega
        have an:r.1=[]:=AQ HV.o.2
        have s:Hid (jg bs=((nn:Int),R,0)):=by
         have:=f.o;unfold lx at this;rw[S.o,Ay (by rw[z,an];simp)]at this;exact this
        clear f an;go_wp2;refine As (v:=Af #[Ab Ak (nn:Int),Aa xa vn xc,Ab Ak 0]) ?_ rfl ?_
        ·simp[AI,Tryz.f11]
        ·rw[s.o];exact⟨_,rfl,⟨vs,j.o.own.low (by have:=j.o.lo;omega),j.o.lv.low (by have:=j.o.lo;omega)⟩,j.o.bel⟩
     | succ gk =>
      have g0:(0:Int)<((gk+1:Nat):Int):=by omega
      by_cases h:r.2=true
      ·have S:Hid (D=(R,r)):=by rw[<- l];exact OE _ _ _ h
       clear l;rw[h]at y1
       have s:Hid (jg bs=(0,[],9)):=by
        have:=f.o;unfold lx at this;rw[S.o,AC (.inl h)]at this;exact this
       have FB:Hid (An w.heap.size w wr):=j.o.bel;clear f;go_wp2;refine As (v:=Af #[Ab Ak 0,Aa none 0 0,Ab Ak 9]) ?_ rfl ?_
       ·simp[AI,Tryz.f11]
       ·rw[s.o];exact⟨_,rfl,⟨[],gM.nil _ _ _ _,iY.nil _ _⟩,FB.o⟩
      ·have z:r.2=false:=by simpa using h
       rw[z]at y1
       have S:Hid (iQ gk (R++[(ko r).1]) (ko r).2=D):=by
        have:=l;unfold iQ at this;rw[Ay h]at this;exact this
       have ap:=gl j.o.rdr;clear l h z;go_wp2_with fail;refine ap.mono ?_;rintro e w6 ⟨v,rfl,J6⟩;clear ap y0 y1;obtain⟨aD,ac,ab,aE,aG,aF,au,aA,aC,aB⟩:=v;simp only;have hO:gM iG 65 w6 (Q+1) (Aa xa vn xc) vs:=j.o.own.stays J6.o.2.2 (λ g hg q=>by have:=(j.o.own.lt g hg).1;have q':g=Q:=q;omega)
       have ax:Q+1<=w6.heap.size:=by have:=j.o.rdr.lt;have:=J6.o.2.2.size;omega
       go_wp2_with(at_builtin;refine BA iG 65 40 80 _ rfl nK nj rfl (.tmp 46) (.tmp 48) rfl (Q+1) _ vs ⟨aD,ac,ab,aE,aG,aF,au,aA,aC,aB⟩ _ rfl hO rfl (by omega) (by simp only[AH];omega) ax _ rfl ?_;intro v7 w7 am av M aq)
       have N7:Hid (∃vs R r,DW w Q w7 v7 vs R r/\iQ gk R r=D/\vs.length+gk<=4294967296):=⟨_,_,_,j.o.add J6.o.2.2 J6.o.2.1 J6.o.1 am aq,S.o,by rw[Ax];simp;omega⟩
       clear am av M aq hO J6;go_wp2;go_roundg gk
       case measure=>omega
       case rel=>exact⟨_,rfl,by go_num,N7.o⟩
   ·have M:(m4.toList==[70,66,76,49])=false:=by
     rw[ByteArray.toList_eq,<- t];simpa using x
    have s:Hid (jg bs=(0,[],9)):=by
     have:=F.o;rw[AC x]at this;exact this
    clear t F;go_wp2;refine As (v:=Af #[Ab Ak 0,Aa none 0 0,Ab Ak 9]) ?_ rfl ?_
    ·simp[AI,Tryz.f11]
    ·rw[s.o];exact⟨_,rfl,⟨[],gM.nil _ _ _ _,iY.nil _ _⟩,L3.o.2⟩
  ·have Z:tb=true:=G.o.2 B;subst Z
   have hp:jg bs=(0,[],11):=by rw[E.o,AC B]
   have s:Hid (jg bs=(0,[],11)):=hp;clear E G Y A hp;go_wp2;refine As (v:=Af #[Ab Ak 0,Aa none 0 0,Ab Ak 11]) ?_ rfl ?_
   ·simp[AI,Tryz.f11]
   ·rw[s.o];exact⟨_,rfl,⟨[],gM.nil _ _ _ _,iY.nil _ _⟩,B1.o⟩
theorem I1(k:Nat):ie k ([],true)=([],([],true)):=by
 unfold ie;by_cases h:0<k
 rw[AC (by simpa using h)]
 rw[Ay (by simpa using h)];simp
theorem Nt(s:Bool)(h:X.length<k):ie k (X,s)=([],([],true)):=by
 unfold ie;rw[AC h]
theorem IY(k:Nat):nk k ([],true)=(0,([],true)):=by unfold nk;rw[I1];rfl
theorem IU(s:Bool)(h:X.length<k):nk k (X,s)=(0,([],true)):=by unfold nk;rw[Nt s h];rfl
theorem GS(h:k<=X.length):nk k (X,false)=(val (X.take k),(X.drop k,false)):=by unfold nk;rw[JY h]
theorem KM:∀k,(iA k ([],true)).2=([],true)
 | 0=>rfl
 | k+1=>by
  show(nk 4 (iA k ([],true)).2).2=_;rw[KM k,IY]
def jT(X:Bs)(k:Nat):List Int:=(List.range k).map (λ i=>(val ((X.drop (4*i)).take 4):Int))
theorem QH(X:Bs)(k:Nat):jT X (k+1)=jT X k++[(val ((X.drop (4*k)).take 4):Int)]:=by
 unfold jT;rw[List.range_succ,List.map_append]
 rfl
theorem Ml{X:Bs}:∀k,4*k<=X.length->iA k (X,false)=(jT X k,(X.drop (4*k),false))
 | 0,_=>by simp[iA,jT]
 | k+1,h=>by
  show((iA k (X,false)).1++[((nk 4 (iA k (X,false)).2).1:Int)],(nk 4 (iA k (X,false)).2).2)=_;rw[Ml k (by omega)];simp only;rw[GS (by rw[AO];omega),QH,Be,show 4*(k+1)=4*k+4 by omega]
theorem Rh{X:Bs}:∀k,X.length<4*k->(iA k (X,false)).2=([],true)
 | 0,h=>absurd h (by omega)
 | k+1,h=>by
  show(nk 4 (iA k (X,false)).2).2=_;by_cases a:X.length<4*k
  rw[Rh k a,IY];rw[Ml k (by omega)];simp only;rw[IU _ (by rw[AO];omega)]
def rowAt(X:Bs)(k z:Nat):Rw:=⟨AL (val (X.take 8)),AL (val ((X.drop 8).take 8)),lK (val ((X.drop 16).take 8)),jT (X.drop 25) k,(val ((X.drop (25+4*k)).take 1):Int),(X.drop (28+4*k)).take z⟩
theorem eh(j:val ((X.drop 24).take 1)=k)(l:val ((X.drop (26+4*k)).take 2)=z)(h:28+4*k+z<=X.length):ko (X,false)=(rowAt X k z,(X.drop (28+4*k+z),false)):=by
 have a:nk 8 (X,false)=(val (X.take 8),(X.drop 8,false)):=GS (by omega)
 have b:nk 8 (X.drop 8,false)=(val ((X.drop 8).take 8),(X.drop 16,false)):=by rw[GS (by rw[AO];omega),Be]
 have c:nk 8 (X.drop 16,false)=(val ((X.drop 16).take 8),(X.drop 24,false)):=by rw[GS (by rw[AO];omega),Be]
 have d:nk 1 (X.drop 24,false)=(k,(X.drop 25,false)):=by rw[GS (by rw[AO];omega),Be,j]
 have e:iA k (X.drop 25,false)=(jT (X.drop 25) k,(X.drop (25+4*k),false)):=by rw[Ml k (by rw[AO];omega),Be]
 have f:nk 1 (X.drop (25+4*k),false)=(val ((X.drop (25+4*k)).take 1),(X.drop (26+4*k),false)):=by rw[GS (by rw[AO];omega),Be,show 25+4*k+1=26+4*k by omega]
 have g:nk 2 (X.drop (26+4*k),false)=(z,(X.drop (28+4*k),false)):=by rw[GS (by rw[AO];omega),Be,l,show 26+4*k+2=28+4*k by omega]
 have i:ie z (X.drop (28+4*k),false)=((X.drop (28+4*k)).take z,(X.drop (28+4*k+z),false)):=by rw[JY (by rw[AO];omega),Be]
 unfold ko;simp only[a,b,c,d,e,f,g,i]
 rfl
theorem XU(l:val ((X.drop 24).take 1)=k)(m:val ((X.drop (26+4*k)).take 2)=z)(h:X.length<25∨X.length<28+4*k∨X.length<28+4*k+z):(ko (X,false)).2=([],true):=by
 unfold ko;simp only;by_cases j:X.length<8
 simp only[IU _ j,IY,KM,I1]
 have b:nk 8 (X,false)=(val (X.take 8),(X.drop 8,false)):=GS (by omega);by_cases n:X.length<16
 have a:nk 8 (X.drop 8,false)=(0,([],true)):=IU _ (by rw[AO];omega);simp only[b,a,IY,KM,I1]
 have a:nk 8 (X.drop 8,false)=(val ((X.drop 8).take 8),(X.drop 16,false)):=by rw[GS (by rw[AO];omega),Be]
 by_cases o:X.length<24
 have c:nk 8 (X.drop 16,false)=(0,([],true)):=IU _ (by rw[AO];omega);simp only[b,a,c,IY,KM,I1]
 have c:nk 8 (X.drop 16,false)=(val ((X.drop 16).take 8),(X.drop 24,false)):=by rw[GS (by rw[AO];omega),Be]
 by_cases p:X.length<25
 have d:nk 1 (X.drop 24,false)=(0,([],true)):=IU _ (by rw[AO];omega);simp only[b,a,c,d,IY,KM,I1]
 have d:nk 1 (X.drop 24,false)=(k,(X.drop 25,false)):=by rw[GS (by rw[AO];omega),Be,l]
 by_cases q:X.length<25+4*k
 have e:(iA k (X.drop 25,false)).2=([],true):=Rh k (by rw[AO];omega);simp only[b,a,c,d,e,IY,I1]
 have e:(iA k (X.drop 25,false)).2=(X.drop (25+4*k),false):=by rw[Ml k (by rw[AO];omega),Be]
 by_cases r:X.length<26+4*k
 have f:nk 1 (X.drop (25+4*k),false)=(0,([],true)):=IU _ (by rw[AO];omega);simp only[b,a,c,d,e,f,IY,I1]
 have f:(nk 1 (X.drop (25+4*k),false)).2=(X.drop (26+4*k),false):=by rw[GS (by rw[AO];omega),Be,show 25+4*k+1=26+4*k by omega]
 by_cases s:X.length<28+4*k
 have g:nk 2 (X.drop (26+4*k),false)=(0,([],true)):=IU _ (by rw[AO];omega);simp only[b,a,c,d,e,f,g,I1]
 have g:nk 2 (X.drop (26+4*k),false)=(z,(X.drop (28+4*k),false)):=by rw[GS (by rw[AO];omega),Be,m,show 26+4*k+2=28+4*k by omega]
 have i:ie z (X.drop (28+4*k),false)=([],([],true)):=Nt _ (by rw[AO];omega);simp only[b,a,c,d,e,f,g,i]
theorem Z7(h:(ko (X,false)).2=([],true)):(iQ (m+1) R (X,false)).2.2=true:=by
 unfold iQ;rw[Ay (by simp),OE _ _ _ (by rw[h]),h]
theorem XO(a:val ((X.drop 24).take 1)=k)(b:val ((X.drop (26+4*k)).take 2)=z)(h:28+4*k+z<=X.length):iQ (m+1) R (X,false)=iQ m (R++[rowAt X k z]) (X.drop (28+4*k+z),false):=by
 show(if(false:Bool)=true then _ else _)=_;rw[Ay (by simp),eh a b h]
structure Rw.fits(r:Rw):Prop where
 date : -9223372036854775808<=r.date/\r.date<9223372036854775808
 pn:r.ps.length<256
 ps:∀p∈r.ps,0<=p/\p<4294967296
 gen:0<=r.gen/\r.gen<256
 fb:r.fb.length<65536
theorem Jm{n:Nat}(h:n<256 ^ k):nk k (low k n++T,false)=(n,(T,false)):=by
 unfold nk;rw[KQ false (Bp k n),Jo,CR h]
theorem PS(q:List Int)(x:Int):lJ (q++[x])=lJ q++low 4 (wu x):=by
 unfold lJ;rw[DH];simp
theorem Qd:∀(n:Nat) (ps:List Int) (T:Bs),ps.length=n->(∀p∈ps,0<=p/\p<4294967296)->iA n (lJ ps++T,false)=(ps,(T,false))
 | 0,ps,T,h,_=>by
  have e:=AQ h;subst e
  rfl
 | n+1,ps,T,h,hp=>by
  rcases List.eq_nil_or_concat ps with e|⟨q,x,e⟩
  subst e;simp at h;rw[List.concat_eq_append]at e;subst e;have c:=Qd n q (low 4 (wu x)++T) (by simpa using h) (λ p hq=>hp p (by simp[hq]));have d:=hp x (by simp)
  have b:wu x<256 ^ 4:=by unfold wu;omega
  have a:(wu x:Int)=x:=by unfold wu;omega
  show((iA n (lJ (q++[x])++T,false)).1++[((nk 4 (iA n (lJ (q++[x])++T,false)).2).1:Int)],(nk 4 (iA n (lJ (q++[x])++T,false)).2).2)=_;rw[PS,AT,c];simp only;rw[Jm b];simp only[a]
theorem Vf(h : -9223372036854775808<=d/\d<9223372036854775808):lK (wu d)=d:=by
 unfold lK wu
 split <;> omega
theorem Zd{v:Nat}(h:v<18446744073709551616):wu (lK v)=v:=by
 unfold lK wu
 split <;> omega
theorem Zj(x:UInt64):AL x.toNat=x:=by
 apply UInt64.toNat_inj.1;rw[Cf];have:=x.toNat_lt;omega
theorem Tt(r:Rw)(T:Bs):iJ r++T=low 8 r.id.toNat++(low 8 r.tree.toNat++(low 8 (wu r.date)++(low 1 r.ps.length++(lJ r.ps++(low 1 (wu r.gen)++(low 2 r.fb.length++(r.fb++T))))))):=by
 unfold iJ;simp only[AT]
theorem Uy{r:Rw}(h:r.fits):ko (iJ r++T,false)=(r,(T,false)):=by
 have b:wu r.gen<256 ^ 1:=by have:=h.gen;unfold wu;omega
 have a:(wu r.gen:Int)=r.gen:=by have:=h.gen;unfold wu;omega
 have hd:wu r.date<256 ^ 8:=by unfold wu;omega
 rw[Tt];unfold ko;simp only[Jm (k:=8) r.id.toNat_lt,Jm (k:=8) r.tree.toNat_lt,Jm hd,Jm (k:=1) h.pn,Qd _ r.ps _ rfl h.ps,Jm b,Jm (k:=2) h.fb,KQ false (rfl:r.fb.length=r.fb.length),Zj,Vf h.date,a]
theorem Q4:∀(R a:List Rw) (T:Bs),(∀r∈R,r.fits)->iQ R.length a (R.flatMap iJ++T,false)=(a++R,(T,false))
 | [],a,T,_=>by simp[iQ]
 | r::R,a,T,h=>by
  show(if(false:Bool)=true then _ else iQ R.length (a++[(ko ((r::R).flatMap iJ++T,false)).1]) (ko ((r::R).flatMap iJ++T,false)).2)=_;rw[Ay (by simp),Ca,AT,Uy (h r (by simp)),Q4 R _ T (λ x b=>h x (by simp[b])),AT]
  rfl
theorem dB(l:0<=a/\a<4294967296)(i:∀r∈R,r.fits)(j:R.length<4294967296):jg (km a R++low 4 (ls (km a R)))=(a,R,0):=by
 obtain⟨L,c⟩:=Xa (km a R)
 have h:L.length=12+(R.flatMap iJ).length:=by rw[<- c];unfold km;simp only[Ax,Bp];rfl
 have mn:mn (L++low 4 (ls L))=L:=by
  unfold mn;rw[Ax,Bp,show L.length+4 - 4=L.length by omega,List.take_left]
 rw[c];unfold jg;rw[mn,Ax,Bp,show L.length+4 - 4=L.length by omega,List.drop_left,Jo,CR (show ls L<256 ^ 4 from IF L),Ay (by omega),Ay (by simp)]
 have g:L=[70,66,76,49]++(low 4 (wu a)++(low 4 R.length++(R.flatMap iJ++[]))):=by rw[<- c];unfold km;simp only[AT,Bz]
 have t4:L.take 4=[70,66,76,49]:=by rw[g];exact DV rfl
 have e:L.drop 4=low 4 (wu a)++(low 4 R.length++(R.flatMap iJ++[])):=by rw[g];exact FK rfl
 have f:L.drop 8=low 4 R.length++(R.flatMap iJ++[]):=by
  rw[show(8:Nat)=4+4 from rfl,<- Be,e];exact FK (Bp 4 _)
 have b:L.drop 12=R.flatMap iJ++[]:=by
  rw[show(12:Nat)=8+4 from rfl,<- Be,f];exact FK (Bp 4 _)
 have k:wu a<256 ^ 4:=by unfold wu;omega
 have d:(wu a:Int)=a:=by unfold wu;omega
 rw[Ay (by rw[t4];simp),e,f,b,DV (Bp 4 _),DV (Bp 4 _),Jo,Jo,CR k,CR (show R.length<256 ^ 4 from j),Q4 R [] [] i];unfold lx;rw[Ay (by simp),d]
 rfl
theorem Fd(h:r.2=true):(nk k r).2.2=true:=by
 unfold nk ie
 split
 rfl
 exact h
theorem Jl(h:r.2=true):(ie k r).2.2=true:=by
 unfold ie
 split
 rfl
 exact h
theorem KI:∀{k:Nat} {r:Rs},r.2=true->(iA k r).2.2=true
 | 0,_,h=>h
 | k+1,_,h=>Fd (KI (k:=k) h)
theorem Jk(h:(nk k (X,false)).2.2=false):(nk k (X,false)).2=(X.drop k,false)/\X=low k (nk k (X,false)).1++X.drop k/\k<=X.length:=by
 by_cases a:k<=X.length
 rw[GS a];refine⟨rfl,?_,a⟩
 have b:(X.take k).length=k:=by rw[AE];omega
 have:=Ka (X.take k);rw[b]at this;simp only;rw[this,BC]
 rw[IU _ (by omega)]at h;cases h
theorem UA(h:(ie k (X,false)).2.2=false):ie k (X,false)=(X.take k,(X.drop k,false))/\k<=X.length:=by
 by_cases a:k<=X.length
 exact⟨JY a,a⟩
 rw[Nt _ (by omega)]at h;cases h
theorem Tk:∀(k:Nat) (X:Bs),(iA k (X,false)).2.2=false->(iA k (X,false)).2=(X.drop (4*k),false)/\X=lJ (iA k (X,false)).1++X.drop (4*k)/\4*k<=X.length
 | 0,X,_=>by simp[iA,lJ]
 | k+1,X,h=>by
  have e:iA (k+1) (X,false)=((iA k (X,false)).1++[((nk 4 (iA k (X,false)).2).1:Int)],(nk 4 (iA k (X,false)).2).2):=rfl;rw[e]at h ⊢
  have b:(iA k (X,false)).2.2=false:=by
   cases q:(iA k (X,false)).2.2 with
   | false=>rfl
   | true=>rw[Fd q]at h;cases h
  obtain⟨d,f,i3⟩:=Tk k X b;simp only at h ⊢;rw[d]at h ⊢;obtain⟨g,a,i⟩:=Jk h;rw[AO]at i
  have c:wu ((nk 4 (X.drop (4*k),false)).1:Int)=(nk 4 (X.drop (4*k),false)).1:=by
   have:=GK 4 (X.drop (4*k),false);exact On (AK this (by decide))
  refine⟨by rw[g,Be,show 4*k+4=4*(k+1) by omega],?_,by omega⟩;rw[PS,c,AT];rw[Be,show 4*k+4=4*(k+1) by omega]at a;rw[<- a];exact f
theorem Qy:∀(k:Nat) (r:Rs),∀p∈(iA k r).1,0<=p/\p<4294967296
 | 0,_,p,h=>by simp[iA]at h
 | k+1,r,p,h=>by
  rcases List.mem_append.1 (show p∈(iA k r).1++[((nk 4 (iA k r).2).1:Int)]from h)with q|q
  exact Qy k r p q;rw[AZ]at q;have:(nk 4 (iA k r).2).1<4294967296:=GK 4 _;omega
theorem Vu(h:(ko (X,false)).2.2=false):∃T,(ko (X,false)).2=(T,false)/\X=iJ (ko (X,false)).1++T/\(ko (X,false)).1.fits:=by
 obtain⟨A,i⟩:=Xa (nk 8 (X,false))
 obtain⟨B,g⟩:=Xa (nk 8 A.2)
 obtain⟨C,f⟩:=Xa (nk 8 B.2)
 obtain⟨E,e⟩:=Xa (nk 1 C.2)
 obtain⟨F,hF⟩:=Xa (iA E.1 E.2)
 obtain⟨G,d⟩:=Xa (nk 1 F.2)
 obtain⟨K,a⟩:=Xa (nk 2 G.2)
 obtain⟨M,c⟩:=Xa (ie K.1 K.2)
 have hp:ko (X,false)=(⟨AL A.1,AL B.1,lK C.1,F.1,(G.1:Int),M.1⟩,M.2):=by
  unfold ko;rw[i,g,f,e,hF,d,a,c]
 rw[hp]at h ⊢;simp only at h
 have nt {b:Bool} (q:b=true->M.2.2=true):b=false:=by
  cases b with
  | false=>rfl
  | true=>rw[q rfl]at h;cases h
 have v:K.2.2=false:=nt (λ q=>by rw[<- c];exact Jl q);have u:G.2.2=false:=nt (λ q=>by rw[<- c,<- a];exact Jl (Fd q));have t:F.2.2=false:=nt (λ q=>by rw[<- c,<- a,<- d];exact Jl (Fd (Fd q)));have s:E.2.2=false:=nt (λ q=>by rw[<- c,<- a,<- d,<- hF];exact Jl (Fd (Fd (KI q))));have r:C.2.2=false:=nt (λ q=>by rw[<- c,<- a,<- d,<- hF,<- e];exact Jl (Fd (Fd (KI (Fd q)))));have m2:B.2.2=false:=nt (λ q=>by rw[<- c,<- a,<- d,<- hF,<- e,<- f];exact Jl (Fd (Fd (KI (Fd (Fd q))))));have p:A.2.2=false:=nt (λ q=>by rw[<- c,<- a,<- d,<- hF,<- e,<- f,<- g];exact Jl (Fd (Fd (KI (Fd (Fd (Fd q)))))));have a1:=Jk (k:=8) (X:=X) (by rw[i];exact p);rw[i]at a1;have a2:=Jk (k:=8) (X:=X.drop 8) (by rw[<- a1.1,g];exact m2);rw[<- a1.1,g]at a2;have a3:=Jk (k:=8) (X:=(X.drop 8).drop 8) (by rw[<- a2.1,f];exact r);rw[<- a2.1,f]at a3;have a4:=Jk (k:=1) (X:=((X.drop 8).drop 8).drop 8) (by rw[<- a3.1,e];exact s);rw[<- a3.1,e]at a4;have a5:=Tk E.1 ((((X.drop 8).drop 8).drop 8).drop 1) (by rw[<- a4.1,hF];exact t);rw[<- a4.1,hF]at a5;have a6:=Jk (k:=1) (X:=((((X.drop 8).drop 8).drop 8).drop 1).drop (4*E.1)) (by rw[<- a5.1,d];exact u);rw[<- a5.1,d]at a6;have a7:=Jk (k:=2) (X:=(((((X.drop 8).drop 8).drop 8).drop 1).drop (4*E.1)).drop 1) (by rw[<- a6.1,a];exact v);rw[<- a6.1,a]at a7;have a8:=UA (k:=K.1) (X:=((((((X.drop 8).drop 8).drop 8).drop 1).drop (4*E.1)).drop 1).drop 2) (by rw[<- a7.1,c];exact h);rw[<- a7.1,c]at a8
 have w:A.1<18446744073709551616:=by rw[<- i];exact GK 8 _
 have x:B.1<18446744073709551616:=by rw[<- g];exact GK 8 _
 have m:C.1<18446744073709551616:=by rw[<- f];exact GK 8 _
 have n:E.1<256:=by rw[<- e];exact GK 1 _
 have y:G.1<256:=by rw[<- d];exact GK 1 _
 have o:K.1<65536:=by rw[<- a];exact GK 2 _
 have j:F.1.length=E.1:=by rw[<- hF];exact Lh _ _
 have l:M.1.length=K.1:=by rw[a8.1];simp only;rw[AE];omega
 refine⟨_,by rw[a8.1],?_,?_⟩
 rw[Tt];simp only;rw[show(AL A.1).toNat=A.1 by rw[Cf];omega,show(AL B.1).toNat=B.1 by rw[Cf];omega,Zd m,j,On (show G.1<18446744073709551616 by omega),l];rw[a8.1];simp only[BC];rw[<- a7.2.1,<- a6.2.1,<- a5.2.1,<- a4.2.1,<- a3.2.1,<- a2.2.1,<- a1.2.1]
 ·refine⟨?_,by simp only;rw[j];exact n,?_,⟨by simp only;omega,by simp only;omega⟩,by simp only;rw[l];exact o⟩
  ·simp only;unfold lK
   split <;> omega
  simp only;rw[<- hF];exact Qy E.1 E.2
theorem Pe:∀(m:Nat) (a:List Rw) (X:Bs),(iQ m a (X,false)).2.2=false->∃R T,iQ m a (X,false)=(a++R,(T,false))/\R.length=m/\X=R.flatMap iJ++T/\∀r∈R,r.fits
 | 0,a,X,_=>⟨[],X,by simp[iQ],rfl,by simp,by simp⟩
 | m+1,a,X,h=>by
  have e:iQ (m+1) a (X,false)=iQ m (a++[(ko (X,false)).1]) (ko (X,false)).2:=by
   show(if(false:Bool)=true then _ else _)=_;rw[Ay (by simp)]
  have b:=Vu (X:=X);obtain⟨P,d⟩:=Xa (ko (X,false));rw[d]at e b;rw[e]at h ⊢;obtain⟨x,r⟩:=P;simp only at h b ⊢
  have c:r.2=false:=by
   cases q:r.2 with
   | false=>rfl
   | true =>
    rw[OE m _ r q]at h;exact q.symm.trans h
  obtain⟨T,t1,t2,t3⟩:=b c;subst t1;obtain⟨R,U,g,i,i3,i4⟩:=Pe m _ T h;refine⟨x::R,U,by rw[g,AT];rfl,by rw[A2,i],?_,λ y f=>?_⟩;rw[Ca,AT,<- i3];exact t2
  rcases Bv.1 f with q|q
  rw[q];exact t3;exact i4 y q
theorem Qu(h:jg bs=(n,R,0)):bs=km n R++low 4 (ls (km n R))/\(∀r∈R,r.fits)/\0<=n/\n<4294967296:=by
 unfold jg at h;by_cases m:bs.length<16
 ·rw[AC m]at h;simp at h
 rw[Ay m]at h;by_cases c:val (bs.drop (bs.length - 4))≠ls (mn bs)
 ·rw[AC c]at h;simp at h
 rw[Ay c]at h;by_cases d:(mn bs).take 4≠[70,66,76,49]
 ·rw[AC d]at h;simp at h
 rw[Ay d]at h
 obtain⟨X,o⟩:=Xa (mn bs)
 have a:bs.take (bs.length - 4)=X:=o
 have v:X.length=bs.length - 4:=by rw[<- a,AE];omega
 rw[o]at h c d;unfold lx at h
 obtain⟨D,i⟩:=Xa (iQ (val ((X.drop 8).take 4)) [] (X.drop 12,false))
 rw[i]at h;by_cases e:D.2.2=true∨D.2.1≠[]
 ·rw[AC e]at h;simp at h
 rw[Ay e]at h
 have p:D.2.2=false:=by
  cases q:D.2.2 with
  | false=>rfl
  | true=>exact absurd (.inl q) e
 have l:D.2.1=[]:=Classical.byContradiction λ q=>e (.inr q)
 obtain⟨k,T,j,w,i3,i4⟩:=Pe _ _ _ (by rw[i];exact p);rw[i,List.nil_append]at j
 have u:T=[]:=by rw[j]at l;exact l
 obtain⟨f,s⟩:=Dv h;obtain⟨b,_⟩:=Dv s;rw[j]at b;have b:k=R:=b;subst b;have z:val ((X.drop 4).take 4)<4294967296:=JL (by rw[AE];omega)
 have mX {Y:Bs} (A:4<=Y.length):low 4 (val (Y.take 4))=Y.take 4:=by
  have:=Ka (Y.take 4);rw[show(Y.take 4).length=4 by rw[AE];omega]at this;exact this
 have t:km n k=X:=by
  have g:X.take 4=[70,66,76,49]:=by simpa using d
  unfold km;rw[<- f,On (by omega),mX (by rw[AO];omega),w,mX (by rw[AO];omega),<- g];rw[u,Bz]at i3;rw[<- i3]
  have x:X.take 4++(X.drop 4).take 4=X.take 8:=by rw[<- Hx]
  have y:X.take 8++(X.drop 8).take 4=X.take 12:=by rw[<- Hx]
  rw[x,y,BC]
 refine⟨?_,i4,by rw[<- f];omega,by rw[<- f];omega⟩;rw[t,<- (show val (bs.drop (bs.length - 4))=ls X by simpa using c)];have:=Ka (bs.drop (bs.length - 4));rw[show(bs.drop (bs.length - 4)).length=4 by rw[AO];omega]at this;rw[this,<- a,BC]
theorem dR(h:jg bs=(n,R,e))(g:e≠0):R=[]:=by
 unfold jg at h;by_cases a:bs.length<16
 rw[AC a]at h;exact(Dv (Dv h).2).1.symm
 rw[Ay a]at h;by_cases b:val (bs.drop (bs.length - 4))≠ls (mn bs)
 rw[AC b]at h;exact(Dv (Dv h).2).1.symm
 rw[Ay b]at h;by_cases c:(mn bs).take 4≠[70,66,76,49]
 rw[AC c]at h;exact(Dv (Dv h).2).1.symm
 rw[Ay c]at h
 obtain⟨D,f⟩:=Xa (iQ (val (((mn bs).drop 8).take 4)) [] ((mn bs).drop 12,false))
 rw[f]at h;unfold lx at h;by_cases d:D.2.2=true∨D.2.1≠[]
 rw[AC d]at h;exact(Dv (Dv h).2).1.symm
 rw[Ay d]at h;exact absurd (Dv (Dv h).2).2.symm g
theorem Pk:∀(R:List Rw),R.length<=(R.flatMap iJ).length
 | []=>by simp
 | r::R=>by
  have a:28<=(iJ r).length:=by unfold iJ;simp only[Ax,Bp,Jj];omega
  have b:=Pk R;rw[Ca,Ax,A2];omega
theorem Zs(h:jg bs=(n,R,e)):R.length<=bs.length/\∀r∈R,r.fits:=by
 by_cases a:e=0
 subst a;obtain⟨b,c,_⟩:=Qu h;refine⟨?_,c⟩;have:=Pk R;rw[b,Ax];unfold km;simp only[Ax];omega
 have:=dR h a;subst this;simp
end Go.Proofs.YtakgkgmopmcecaaGreat
