import Derived.Test.YtakgkgmopmcecaaGreatM12
set_option maxHeartbeats 6400000
set_option maxRecDepth 100000
open List renaming mem_append->AN,take_of_length_le->Av,getElem?_eq_some_iff->AG,getElem?_eq_getElem->Aq,length_map->A4,length_take->AE,length_drop->AO,length_nil->Cj,nil_append->C2
open Go renaming World->Ap,Calls->At,bodyPost_ret->As,results_tmp2->AD,Value->Ar,maxLen->AH,results->AI,callFunc->Ck
open Go.RowKit renaming Below->An
open Nat renaming le_refl->AA,not_lt_zero->DE,zero_add->Dc,le_trans->AU,le_of_lt->CJ,le_succ_of_le->Cb,reduceAdd->Cv,lt_of_lt_of_le->AK
open Go.World renaming cell?->Bf,frozen?->Ce
open Go.RowKit.Below renaming refl->Ao
open Option renaming isSome_iff_exists->BY
open Go.Act renaming eval->Bc
open Go.Value renaming slice->Aa,int->Ab,bool->Ad,string->Ae,tuple->Af,agg->Ag,pointer->Ah
open Go.Obj renaming cells->Ai
open Go.Ending renaming returned->Aj
open Go.IntKind renaming i64->Ak,u64->Al
open Go.Proofs.Tryz renaming prog->Am
open Go.Proofs.Tryz
namespace Go.Proofs.YtakgkgmopmcecaaGreat
open Go.RowKit
variable {B J Z b base cap dc dn fc fl n oc qc qn rc rn s tc tn xc zc:Nat}{E:Nat->Prop}{R c da fa oa qa ra ta:Option Addr}{a bl cl tl xs:List UInt64}{d:Dk}{data:Bs}{es:List En}{f:Fr}{i:UInt64}{k:Int}{qs:List Int}{st:St}{w w0:Ap}
theorem KH{ids:List UInt64}:(a++gY ids).Nodup↔(a++ids).Nodup:=((List.Perm.refl a).append (List.mergeSort_perm ids _)).nodup_iff
theorem Ju{ids:List UInt64}{p:UInt64}:p∈a++gY ids↔p∈a++ids:=by
 rw[AN,AN,IA]
theorem Mk{S:Nat->Prop}{ba ia:Option Addr}{bn bc c:Nat}{bvs:List LV}{ids:List UInt64}{G:List Int}{rk:Nat->Nat}(h:A1 w s b st S)
  (hB:gQ iG w ba bvs) (av:bvs.length=bn) (au:∀v∈bvs,1<=v.gen/\v.gen<=250) (aD:(bvs.map (·.id)).Nodup) (hI:gQ gR w ia ids) (hn:ids.length=n) (hs:bn+n<=100000)
  (hG:st.free (bvs.map (·.id)) ids->EA bn (st.pss (bvs.map (·.id)++gY ids) (gY ids)) rk/\kx (bvs.map (·.gen)) (st.pss (bvs.map (·.id)++gY ids) (gY ids)) G) :
  At Am 17 #[Ah (some ⟨s,0,none⟩),Aa ba bn bc,Aa ia n c] w λ e w'=>∃v r,e=Aj (Af #[v,Ab Ak r])/\Hid (∃vs rs,st.told (bvs.map (·.id)) G ids r rs/\gM iG 65 w' w.heap.size v vs/\iY w' w.heap.size vs rs/\An w.heap.size w w'):=by
 obtain⟨a,aa⟩:=Xa (bvs.map (·.id))
 obtain⟨xs,ae⟩:=Xa (gY ids)
 have aJ:xs.length=n:=by (try unfold Iz at *);rw[<- ae,Lg];exact hn
 (try unfold Iz at *);rw[aa,ae]at hG;(try unfold Iz at *);rw[aa];have aw:=Wm (c:=c) w hI hn (by omega)
 have H:Hid (A1 w s b st S/\gQ iG w ba bvs/\bvs.length=bn/\(∀v∈bvs,1<=v.gen/\v.gen<=250)/\(bvs.map (·.id)).Nodup/\ids.length=n/\bvs.map (·.id)=a/\gY ids=xs/\xs.length=n):=⟨h,hB,av,au,aD,hn,aa,ae,aJ⟩
 have HG:Hid (st.free a ids->EA bn (st.pss (a++xs) xs) rk/\kx (bvs.map (·.gen)) (st.pss (a++xs) xs) G):=hG;clear h hB av au aD hI hn aa ae aJ hG;go_enter func17,ntmps17;go_wp2_with fail;refine aw.mono ?_;rintro e w1 ⟨v1,rfl,O1,M⟩;have aH:=T1 O1 (by (try unfold Iz at *);rw[H.o.2.2.2.2.2.1];omega)
 have G1:Hid (gM gR 63 w1 w.heap.size v1 ids/\An w.heap.size w w1):=⟨O1,M⟩
 clear aw O1 M;go_wp2_with fail;refine aH.mono ?_;rintro e w2 ⟨rfl,J2⟩;clear aH;obtain⟨ra,rc,rfl,_,R2,T2⟩:=J2.o;(try unfold Iz at *);rw[H.o.2.2.2.2.2.1];(try unfold Iz at *);rw[H.o.2.2.2.2.2.1]at G1 T2;(try unfold Iz at *);rw[H.o.2.2.2.2.2.2.2.1]at R2;have B2:An w.heap.size w w2:=G1.o.2.trans (T2.below G1.o.2.size (λ k hk q=>by have:=(World.ownsRow.lt G1.o.1 k q).1;omega));have Q:=Xm (bc:=bc) (c:=rc) (H.o.2.1.below B2) H.o.2.2.1 H.o.2.2.2.2.1 R2 H.o.2.2.2.2.2.2.2.2 hs;(try unfold Iz at *);rw[H.o.2.2.2.2.2.2.1]at Q
 have G2:Hid (An w.heap.size w w2/\gQ gR w2 ra xs):=⟨B2,R2⟩
 clear J2 R2 T2 B2 G1;go_wp2_with fail;refine Q.mono ?_;rintro e w3 ⟨mv,r3,rfl,J3⟩;clear Q
 rcases J3.o.1 with⟨d,rfl,rfl,h4⟩ | ⟨d,rfl,rfl⟩
 rotate_left
 ·have B:Hid (∃vs rs,st.told a G ids 6 rs/\gM iG 65 w3 w.heap.size (Aa none 0 0) vs/\iY w3 w.heap.size vs rs/\An w.heap.size w w3) :=
   ⟨[],[],.twice (λ q=>d (by (try unfold Iz at *);rw[<- H.o.2.2.2.2.2.2.2.1];exact KH.2 q)),gM.nil _ _ _ _,iY.nil _ _,G2.o.1.trans (J3.o.2.mono G2.o.1.size)⟩
  clear J3 d;go_wp2_with fail;refine As (AD rfl _ _ _) rfl ?_;exact⟨_,_,rfl,B.o⟩
 ·have ah:(a++ids).Nodup:=by
   (try unfold Iz at *);rw[<- H.o.2.2.2.2.2.2.2.1]at d;exact KH.1 d
  have B3:An w.heap.size w w3:=G2.o.1.trans (J3.o.2.mono G2.o.1.size);have ax:=VD (c:=rc) (H.o.1.below B3) (G2.o.2.below J3.o.2) H.o.2.2.2.2.2.2.2.2 (by omega)
  have X:Hid (An w.heap.size w w3/\gQ gR w3 ra xs/\jb kU w3 w2.heap.size (mF (a++xs)) (a++xs).length/\(a++ids).Nodup):=⟨B3,G2.o.2.below J3.o.2,h4.map,ah⟩
  clear J3 d h4 ah B3
  obtain⟨m,hm⟩:=Xa w2.heap.size
  (try unfold Iz at *);rw[hm]at X ⊢;clear hm G2;go_wp2_with fail;refine ax.mono ?_;rintro e A ⟨Y,r4,rfl,J4⟩;clear ax
  rcases J4.o.1 with⟨rfl,rfl,h4⟩ | ⟨d,rfl,rfl⟩
  rotate_left
  ·have B:Hid (∃vs rs,st.told a G ids 5 rs/\gM iG 65 A w.heap.size (Aa none 0 0) vs/\iY A w.heap.size vs rs/\An w.heap.size w A) :=
    ⟨[],[],.missing X.o.2.2.2 (λ q=>d (λ x I=>q x (by (try unfold Iz at *);rw[<- H.o.2.2.2.2.2.2.2.1,IA]at I;exact I))),gM.nil _ _ _ _,iY.nil _ _,X.o.1.trans (J4.o.2.mono X.o.1.size)⟩
   clear J4 d;go_wp2_with fail;refine As (AD rfl _ _ _) rfl ?_;exact⟨_,_,rfl,B.o⟩
  ·obtain⟨N,hC⟩:=h4
   obtain⟨gc,aA⟩:=Xa w3.heap.size
   (try unfold Iz at *);rw[aA]at hC ⊢;have B4:An w.heap.size w A:=X.o.1.trans (J4.o.2.mono X.o.1.size)
   have ag:∀x∈ids,st.has 3 x=true:=λ x I=>hC.has x (by (try unfold Iz at *);rw[Av (by (try unfold Iz at *);rw[H.o.2.2.2.2.2.2.2.2];exact AA _),<- H.o.2.2.2.2.2.2.2.1,IA];exact I)
   have aj:An w3.heap.size w3 A:=J4.o.2
   have ar:RB A A s b st S m (a++xs) ra xs gc N ba bvs:=⟨H.o.1.below B4,X.o.2.2.1.turned (S:=λ _=>False) (Aw.ofBelow aj) (λ q=>q),X.o.2.1.below aj,hC.own.rdc.1,λ i v x d h2=>hC.at_ i v x (by have:=(AG.1 d).1;have:=hC.len;omega) d h2,H.o.2.1.below B4⟩
   obtain⟨w5,aC,O5,B5⟩:=SP iG pK 40 65 (Ag #[Ab Al 0,Ab Al 0,Ab Ak 0,Aa none 0 0,Ab Ak 0,Aa none 0 0]) 80 rfl nK nj n (by omega) (by decide) A
   obtain⟨rg,ad⟩:=Xa A.heap.size
   (try unfold Iz at *);rw[ad]at aC O5 B5
   have L1:Hid (∃vs,RL rg A w5 n xs vs (F1 st (a++xs) 0)/\∀x∈xs.take 0,∀p∈(st.com x).ps,p∈a++xs):=by
    refine⟨_,⟨O5,B5,ad,λ j v x d h2=>?_⟩,by simp⟩;(try unfold Iz at *);rw[List.getElem?_replicate]at d
    split at d
    ·cases d;unfold F1;(try unfold Iz at *);rw[Ay (DE _)];exact Zi _ _
    ·cases d
   have L:Hid (RB A A s b st S m (a++xs) ra xs gc N ba bvs/\An w.heap.size w A/\(a++ids).Nodup/\(∀x∈ids,st.has 3 x=true)/\N.length=n/\A.heap.size=rg):=⟨ar,B4,X.o.2.2.2,ag,hC.len,ad⟩
   clear J4 hC aA B4 ag aj ar O5 B5 X ad;go_wp2_with fail;clear aC;go_loopg[46] n (λ k v wr=>∃i:Nat,v=Ab Ak i/\i+k=n/\Hid (∃vs,RL rg A wr n xs vs (F1 st (a++xs) i)/\∀x∈xs.take i,∀p∈(st.com x).ps,p∈a++xs))
   case atStart=>exact⟨0,rfl,by omega,L1.o⟩
   case round =>
    obtain⟨i,rfl,hi,HR⟩:=hrel;clear L1;obtain⟨vs,hV⟩:=HR.o;have D:Hid (RL rg A wr n xs vs (F1 st (a++xs) i)/\∀x∈xs.take i,∀p∈(st.com x).ps,p∈a++xs):=hV;clear HR hV;have l:Hid (RB A wr s b st S m (a++xs) ra xs gc N ba bvs):=L.o.1.below (by (try unfold Iz at *);rw[L.o.2.2.2.2.2];exact D.o.1.bel);by_cases ac:i<n
    ·have id:(i:Int)<(n:Int):=by omega
     have aN:(0:Int)<=(i:Int):=by omega
     obtain⟨x,I⟩:∃x,xs[i]? = some x:=⟨_,Aq (by (try unfold Iz at *);rw[H.o.2.2.2.2.2.2.2.2];exact ac)⟩
     obtain⟨Y,O⟩:∃Y,N[i]? = some Y:=⟨_,Aq (by (try unfold Iz at *);rw[L.o.2.2.2.2.1];exact ac)⟩
     have C:=l.o.at_ i Y x O I;obtain⟨c0,c1,c2,c3⟩:=l.o.com.coms O;(try unfold Iz at *);rw[Dc]at c0 c1 c2 c3;obtain⟨xb,xo,rfl,_⟩:=l.o.ids.some_of I;obtain⟨T,J,F,E,f,cnt⟩:=Y;simp only at c0 c1 c2 c3
     obtain⟨R,t⟩:=Xb (wr.alloc (Ai #[Ab Al (T.toNat:Int),Aa J F E,Ab Ak f,tx cnt] 104))
     obtain⟨Z,hZ⟩:=Xa wr.heap.size
     have U:R.heap[Z]? = some (Ai #[Ab Al (T.toNat:Int),Aa J F E,Ab Ak f,tx cnt] 104 (0,0)):=by
      (try unfold Iz at *);rw[t,<- hZ];exact heap_alloc_new _ _
     have M:Hid (An wr.heap.size wr R):=by (try unfold Iz at *);rw[t];exact gW _ _
     have aE:=V6 (tree:=T) (pc:=E) (date:=f) (note:=cnt) (l.o.map.turned (S:=λ _=>False) (Aw.ofBelow M.o) (λ q=>q)) (C.rd.below M.o) C.len (by have h8:=Kf st x;have h9:(st.com x).ps.length=F:=C.len;show F<=1000000;omega)
     have V:Hid (xs[i]? = some x/\T=(st.com x).tree/\f=(st.com x).date/\R.heap[Z]? = some (Ai #[Ab Al (T.toNat:Int),Aa J F E,Ab Ak f,tx cnt] 104 (0,0))/\wr.heap.size=Z):=⟨I,C.tree,C.date,U,hZ⟩
     have z0:R.cell? ⟨Z,0,none⟩=some (Ab Al (T.toNat:Int)):=by simp[Bf,U]
     have z1:R.cell? ⟨Z,1,none⟩=some (Aa J F E):=by simp[Bf,U]
     have z2:R.cell? ⟨Z,2,none⟩=some (Ab Ak f):=by simp[Bf,U]
     have z3:R.cell? ⟨Z,3,none⟩=some (tx cnt):=by simp[Bf,U]
     clear I O C U
     go_upto_region 13 with fail
     (try unfold Iz at *);rw[<- t];clear t hZ c0 c1 c2 c3;go_wp2_with fail;refine aE.mono ?_;rintro e w6 ⟨pv,pr,rfl,J6⟩;clear aE z0 z1 z2 z3
     rcases J6.o.1 with⟨d,rfl,h3⟩ | ⟨d,rfl,rfl⟩
     rotate_left
     ·have B:Hid (∃vs rs,st.told a G ids 14 rs/\gM iG 65 w6 w.heap.size (Aa none 0 0) vs/\iY w6 w.heap.size vs rs/\An w.heap.size w w6):=by
       refine⟨[],[],.open_ L.o.2.2.1 L.o.2.2.2.1 (λ q=>d (λ p hp=>?_)),gM.nil _ _ _ _,iY.nil _ _,?_⟩
       ·have hm:=List.mem_of_getElem? V.o.1;(try unfold Iz at *);rw[<- H.o.2.2.2.2.2.2.2.1,IA]at hm;(try unfold Iz at *);rw[<- H.o.2.2.2.2.2.2.2.1];exact Ju.2 (q x hm p hp)
       ·have b1:=D.o.1.bel;(try unfold Iz at *);rw[<- L.o.2.2.2.2.2]at b1;have b2:=L.o.2.1.trans (b1.mono L.o.2.1.size);have b3:=b2.trans (M.o.mono b2.size);exact b3.trans (J6.o.2.mono b3.size)
      clear J6 d;go_wp2_with fail;refine As (AD rfl _ _ _) rfl ?_;exact⟨_,_,rfl,B.o⟩
     ·have B6:Hid (An wr.heap.size wr w6):=M.o.trans (J6.o.2.mono M.o.size);have ak:w6.heap[Z]? = some (Ai #[Ab Al (T.toNat:Int),Aa J F E,Ab Ak f,tx cnt] 104 (0,0)):=(J6.o.2.block Z (Array.getElem?_eq_some_iff.1 V.o.2.2.2.1).1).trans V.o.2.2.2.1
      have z0:w6.cell? ⟨Z,0,none⟩=some (Ab Al (T.toNat:Int)):=by simp[Bf,ak]
      have z2:w6.cell? ⟨Z,2,none⟩=some (Ab Ak f):=by simp[Bf,ak]
      have aM:=((l.o.below B6.o).ids.nums V.o.1).2;obtain⟨pa,pc,rfl,q1,q2,q3,_⟩:=h3.form
      have an:(kL (a++xs) (st.com x).ps).length=(st.com x).ps.length:=by unfold kL;(try unfold Iz at *);rw[A4]
      (try unfold Iz at *);rw[an];(try unfold Iz at *);rw[an]at h3
      obtain⟨pn,W⟩:=Xa ((st.com x).ps.length)
      (try unfold Iz at *);rw[W];(try unfold Iz at *);rw[W]at h3;have ab:=D.o.1.below B6.o
      have aq:lW w6 rg ⟨x,T,f,pa,pn,pc,0,none,0,0⟩ (nW st (a++xs) x):=⟨rfl,V.o.2.1,V.o.2.2.1,rfl,h3.low (AU (CJ D.o.1.lt) M.o.size),gM.nil _ _ _ _⟩
      have ai:=ab.put ac aq;have K:=ab.own.there (i:=i) (by (try unfold Iz at *);rw[ab.len];exact ac) 6 rfl (i*6) rfl
      have B:Hid (∃vs,RL rg A (jG w6 rg [Ab Al (x.toNat:Int),Ab Al (T.toNat:Int),Ab Ak f,Aa pa pn pc,Ab Ak 0,Aa none 0 0] (i*6)).drew n xs vs (F1 st (a++xs) (i+1))/\∀x∈xs.take (i+1),∀p∈(st.com x).ps,p∈a++xs):=by
       refine⟨_,(ai.cast (λ j y hj hy=>?_)).below (Ao _ _).drew,λ y hy=>?_⟩
       ·unfold F1;by_cases e:j=i
        ·subst e;(try unfold Iz at *);rw[AC rfl,AC (by omega)];(try unfold Iz at *);rw[V.o.1]at hy;cases hy
         rfl
        ·(try unfold Iz at *);rw[Ay e];by_cases e2:j<i
         ·(try unfold Iz at *);rw[AC e2,AC (by omega)]
         ·(try unfold Iz at *);rw[Ay e2,Ay (by omega)]
       ·(try unfold Iz at *);rw[List.take_add_one,V.o.1]at hy
        rcases AN.1 hy with q|q
        ·exact D.o.2 y q
        ·have q':y=x:=by simpa using q
         (try unfold Iz at *);rw[q'];exact d
      have TH:Hid (w6.there rg (i*6) 6):=K;obtain⟨t0,f0⟩:=K 0 (by decide);obtain⟨t1,f1⟩:=K 1 (by decide);obtain⟨t2,f2⟩:=K 2 (by decide);obtain⟨t3,f3⟩:=K 3 (by decide);obtain⟨t4,f4⟩:=K 4 (by decide);obtain⟨t5,f5⟩:=K 5 (by decide);obtain⟨k0,t0⟩:=BY.1 t0;obtain⟨k1,t1⟩:=BY.1 t1;obtain⟨k2,t2⟩:=BY.1 t2;obtain⟨k3,t3⟩:=BY.1 t3;obtain⟨k4,t4⟩:=BY.1 t4;obtain⟨k5,t5⟩:=BY.1 t5;(try unfold Iz at *);rw[Nat.add_zero]at t0 f0;clear J6 d h3 ak q1 q2 q3 an W ab aq ai K
      go_upto_region 16 with fail
      go_region;go_wp2_with fail;go_roundg (gk - 1)
      case measure=>omega
      case rel=>exact⟨i+1,by go_num,by omega,B.o⟩
    ·obtain rfl:i=n:=by omega
     have id:¬(i:Int)<(i:Int):=by omega
     have aI:xs.take i=xs:=Av (by (try unfold Iz at *);rw[H.o.2.2.2.2.2.2.2.2];exact AA _)
     have P:st.free a ids:=⟨L.o.2.2.1,L.o.2.2.2.1,λ x I p hp=>by
      have d:=D.o.2 x (by (try unfold Iz at *);rw[aI,<- H.o.2.2.2.2.2.2.2.1,IA];exact I) p hp;(try unfold Iz at *);rw[<- H.o.2.2.2.2.2.2.2.1]at d
      exact Ju.1 d⟩
     obtain⟨aF,al⟩:=HG.o P
     have Q:(st.pss (a++xs) xs).length=i:=by unfold St.pss;(try unfold Iz at *);rw[A4];exact H.o.2.2.2.2.2.2.2.2
     have aB:G.length=i:=by (try unfold Iz at *);rw[al.len];exact Q
     have ap:∀(j:Nat) (v:LV),vs[j]? = some v->∃x,xs[j]? = some x/\lW wr rg v (nW st (a++xs) x):=by
      intro j v hv
      have hj:j<i:=by
       have:=(AG.1 hv).1;(try unfold Iz at *);rw[D.o.1.len]at this;exact this
      obtain⟨x,I⟩:∃x,xs[j]? = some x:=⟨_,Aq (by (try unfold Iz at *);rw[H.o.2.2.2.2.2.2.2.2];exact hj)⟩
      have:=D.o.1.at_ j v _ hv I;unfold F1 at this;(try unfold Iz at *);rw[AC hj]at this;exact⟨_,I,this⟩
     have aG:=VW (bc:=bc) l.o.bel H.o.2.2.1 H.o.2.2.2.1 D.o.1.own (λ v hv=>by
      obtain⟨j,hj,e⟩:=List.getElem_of_mem hv;obtain⟨x,_,q⟩:=ap j v (by (try unfold Iz at *);rw[Aq hj,e])
      exact q.gen) (λ j v ps d h2=>by
      obtain⟨x,I,q⟩:=ap j v d;unfold St.pss at h2;(try unfold Iz at *);rw[List.getElem?_map,I]at h2
      have e:kL (a++xs) (st.com x).ps=ps:=by simpa using h2
      have hl:(kL (a++xs) (st.com x).ps).length=v.pn:=DC q.ps
      have aL:(kL (a++xs) (st.com x).ps).length<=8:=by unfold kL;(try unfold Iz at *);rw[A4];exact Kf st x
      (try unfold Iz at *);rw[<- e]
      exact⟨hl,by omega,λ u hu=>(q.stays hu D.o.1.noIB).ps.rdc.1⟩) Q aF al (by omega)
     have HK:Hid (RL rg A wr i xs vs (F1 st (a++xs) i)/\st.free a ids/\G.length=i):=⟨D.o.1,P,aB⟩
     clear aI P aF al Q aB ap D;go_wp2_with fail;refine aG.mono ?_;rintro e w7 ⟨rfl,J7⟩;clear aG
     have L2:Hid (∃vs,RL rg A w7 i xs vs (F2 st (a++xs) G 0)):=by
      have hK:=HK.o.1;refine⟨_,⟨J7.o.1,hK.bel.trans (J7.o.2.below (CJ hK.lt) (λ k hk e=>by have e':k=rg:=e;omega)),hK.size,λ j v x d h2=>?_⟩⟩
      have hj:j<i:=by
       have:=(AG.1 d).1;(try unfold Iz at *);rw[gB (by (try unfold Iz at *);rw[HK.o.2.2,hK.len]),hK.len]at this;exact this
      obtain⟨v0,hv⟩:∃v0,vs[j]? = some v0:=⟨_,Aq (by (try unfold Iz at *);rw[hK.len];exact hj)⟩
      obtain⟨g,hg⟩:∃g,G[j]? = some g:=⟨_,Aq (by (try unfold Iz at *);rw[HK.o.2.2];exact hj)⟩
      (try unfold Iz at *);rw[LQ hv hg]at d;cases d;have:=((hK.at_ j _ x hv h2).stays J7.o.2 hK.noIB).regen g;unfold F1 at this;(try unfold Iz at *);rw[AC hj]at this;unfold F2;(try unfold Iz at *);rw[Ay (DE _),List.getD,hg];exact this
     clear J7;go_wp2_with fail;go_loopg[79] i (λ k v wr=>∃j:Nat,v=Ab Ak j/\j+k=i/\Hid (∃vs,RL rg A wr i xs vs (F2 st (a++xs) G j)))
     case atStart=>exact⟨0,rfl,by omega,L2.o⟩
     case round =>
      obtain⟨j,rfl,hj,HR⟩:=hrel;clear L2 l;obtain⟨af,hV⟩:=HR.o;have D:Hid (RL rg A wr i xs af (F2 st (a++xs) G j)):=hV;clear HR hV;have l:Hid (RB A wr s b st S m (a++xs) ra xs gc N ba bvs):=L.o.1.below (by (try unfold Iz at *);rw[L.o.2.2.2.2.2];exact D.o.bel);by_cases am:j<i
      ·have jd:(j:Int)<(i:Int):=by omega
       have aO:(0:Int)<=(j:Int):=by omega
       obtain⟨x,I⟩:∃x,xs[j]? = some x:=⟨_,Aq (by (try unfold Iz at *);rw[H.o.2.2.2.2.2.2.2.2];exact am)⟩
       obtain⟨Y,O⟩:∃Y,N[j]? = some Y:=⟨_,Aq (by (try unfold Iz at *);rw[L.o.2.2.2.2.1];exact am)⟩
       have C:=l.o.at_ j Y x O I;obtain⟨c0,c1,c2,c3⟩:=l.o.com.coms O;(try unfold Iz at *);rw[Dc]at c0 c1 c2 c3;obtain⟨T,J,F,E,f,cnt⟩:=Y;simp only at c0 c1 c2 c3
       obtain⟨R,t⟩:=Xb (wr.alloc (Ai #[Ab Al (T.toNat:Int),Aa J F E,Ab Ak f,tx cnt] 104))
       obtain⟨Z,hZ⟩:=Xa wr.heap.size
       have z0:R.cell? ⟨Z,0,none⟩=some (Ab Al (T.toNat:Int)):=by (try unfold Iz at *);rw[t,<- hZ];simp
       have z1:R.cell? ⟨Z,1,none⟩=some (Aa J F E):=by (try unfold Iz at *);rw[t,<- hZ];simp
       have z2:R.cell? ⟨Z,2,none⟩=some (Ab Ak f):=by (try unfold Iz at *);rw[t,<- hZ];simp
       have z3:R.cell? ⟨Z,3,none⟩=some (tx cnt):=by (try unfold Iz at *);rw[t,<- hZ];simp
       have M:Hid (An wr.heap.size wr R):=by (try unfold Iz at *);rw[t];exact gW _ _
       have ay:=gG (pc:=E) (dt:=f) (nt:=cnt) (l.o.sto.below M.o) (C.rd.below M.o) C.len C.tree.symm
       obtain⟨v,hv⟩:∃v,af[j]? = some v:=⟨_,Aq (by (try unfold Iz at *);rw[D.o.len];exact am)⟩
       have V:Hid (xs[j]? = some x/\af[j]? = some v):=⟨I,hv⟩
       clear I O C hv
       go_upto_region 22 with fail
       (try unfold Iz at *);rw[<- t];clear t hZ c0 c1 c2 c3;go_wp2_with fail;refine ay.mono ?_;rintro e w8 ⟨fv,rfl,J8⟩;clear ay z0 z1 z2 z3;obtain⟨fa,fc,rfl,_,_,_,_⟩:=J8.o.1.form
       obtain⟨fn,az⟩:=Xa ((st.fil (st.com x)).length)
       (try unfold Iz at *);rw[az]at J8 ⊢;clear az;have B8:Hid (An wr.heap.size wr w8):=M.o.trans (J8.o.2.mono M.o.size);obtain⟨⟨z,hz⟩,f5,aK,hF⟩:=(D.o.below B8.o).fil V.o.2 V.o.1 (J8.o.1.low (AU (CJ D.o.lt) M.o.size))
       have B:Hid (∃vs,RL rg A (w8.setCell ⟨rg,j*6+5,none⟩ (Aa fa fn fc)) i xs vs (F2 st (a++xs) G (j+1))):=by
        refine⟨aK,hF.cast (λ q y hq hy=>?_)⟩;unfold F2;by_cases e:q=j
        ·subst e;(try unfold Iz at *);rw[AC rfl,Ay (Nat.lt_irrefl _),AC (by omega)];(try unfold Iz at *);rw[V.o.1]at hy;cases hy
         rfl
        ·(try unfold Iz at *);rw[Ay e];by_cases e2:q<j
         ·(try unfold Iz at *);rw[AC e2,AC (by omega)]
         ·(try unfold Iz at *);rw[Ay e2,Ay (by omega)]
       clear J8 hF;go_wp2_with fail;go_roundg (gk - 1)
       case measure=>omega
       case rel=>exact⟨j+1,by go_num,by omega,B.o⟩
      ·obtain rfl:j=i:=by omega
       have jd:¬(j:Int)<(j:Int):=by omega
       have B:Hid (∃vs rs,st.told a G ids 0 rs/\gM iG 65 wr w.heap.size (Aa (some ⟨rg,0,none⟩) j j) vs/\iY wr w.heap.size vs rs/\An w.heap.size w wr):=by
        have ao:w.heap.size<=rg:=by (try unfold Iz at *);rw[<- L.o.2.2.2.2.2];exact L.o.2.1.size
        have ht:=St.told.rows (G:=G) HK.o.2.1;(try unfold Iz at *);rw[H.o.2.2.2.2.2.2.2.1]at ht;exact⟨af,_,ht,D.o.own.low ao,(D.o.done H.o.2.2.2.2.2.2.2.2 HK.o.2.2).low ao,L.o.2.1.trans (D.o.bel.mono ao)⟩
       clear D l;go_wp2;refine As (AD rfl _ _ _) rfl ?_;exact⟨_,_,rfl,B.o⟩
theorem Rn(st:St)(d:Dk)(k:Int)(b:Bs)(h:k≠4)(i:k≠5):
  (iq st.objs k (jC k b)=some b/\iy st d k b=((st,d),jC k b,0)) ∨
  (∃e,e≠0/\(iy st d k b).2.2=e/\(iy st d k b).1.1=st/\((iy st d k b).1.2=d∨(iy st d k b).1.2=(kf d jI (jB (k,b)).1).1)) ∨
  (iq st.objs k (jC k b)=none/\iy st d k b=(({ st with objs:=st.objs++[⟨k,jC k b,b⟩] },(kf d jI (jB (k,b)).1).1),jC k b,0)):=by
 cases e:iq st.objs k (jC k b)with
 | some f =>
  by_cases g:f=b;subst g
  left
  refine⟨rfl,?_⟩;unfold iy;rw[e];simp
  right;left
  refine⟨13,by decide,?_⟩;unfold iy;rw[e];simp[g]
 | none =>
  by_cases a:jC k b=0
  right;left
  refine⟨13,by decide,?_⟩;unfold iy;rw[e];simp[a];by_cases c:(kf d jI (jB (k,b)).1).2=0
  right;right
  refine⟨rfl,?_⟩;unfold iy;rw[e];simp only[a,Ek];unfold iB;simp only[c,Ff];unfold St.take;simp[h,i]
  right;left
  refine⟨(kf d jI (jB (k,b)).1).2,c,?_⟩;unfold iy;rw[e];simp only[a,Ek];unfold iB;simp[c]
theorem YD{l:List Ob}{o:Ob}{b:Bs}(h:iq l k i=some b):iq (l++[o]) k i=some b:=by
 rw[Je,h]
theorem Um{b:Bs}(f:k≠4)(i:k≠5)(h:(iy st d k b).2.2=0):iq (iy st d k b).1.1.objs k (jC k b)=some b/\(iy st d k b).2.1=jC k b:=by
 rcases Rn st d k b f i with⟨g,e⟩ | ⟨e,c,a,_⟩ | ⟨g,e⟩
 rw[e];exact⟨g,rfl⟩
 rw[h]at a;exact absurd a.symm c
 rw[e];refine⟨?_,rfl⟩;show iq (st.objs++[⟨k,jC k b,b⟩]) k (jC k b)=some b;rw[Je,g];simp
theorem Tu:st.has k i=true↔∃b,iq st.objs k i=some b:=by
 unfold St.has;rw[BY]
structure ky(st st':St)(d d':Dk):Prop where
 size:st'.size<=st.size+1
 writes:d'.writes<=d.writes+1
 ok:d.ok->d'.ok
theorem ky.same(st:St)(d:Dk):ky st st d d:=⟨by omega,by omega,λ h=>h⟩
theorem Og(st:St)(d:Dk)(k:Int)(b:Bs)(c:k≠4)(f:k≠5):ky st (iy st d k b).1.1 d (iy st d k b).1.2:=by
 have wr:(kf d jI (jB (k,b)).1).1.writes<=d.writes+1:=PV _ _ _ _
 rcases Rn st d k b c f with⟨_,e⟩ | ⟨_,_,_,e,a|a⟩ | ⟨_,e⟩
 rw[e];exact ky.same _ _
 rw[e,a];exact ky.same _ _
 rw[e,a];exact⟨by omega,wr,λ h=>OD h _ _⟩
 rw[e];refine⟨?_,wr,λ h=>OD h _ _⟩;unfold St.size;simp;omega
theorem Zk(st:St)(d:Dk)(b:Bs):ky st (jk st d b).1.1 d (jk st d b).1.2:=by
 unfold jk
 split
 exact ky.same _ _
 exact Og st d 1 b (by decide) (by decide)
theorem fI(st:St)(d:Dk)(es:List En):ky st (ja st d es).1.1 d (ja st d es).1.2:=by
 unfold ja
 split
 exact ky.same _ _
 split
 exact ky.same _ _
 exact Og st d 2 _ (by decide) (by decide)
theorem Xq(st:St)(d:Dk)(c:Cm):ky st (jV st d c).1.1 d (jV st d c).1.2:=by
 unfold jV
 split
 exact ky.same _ _
 split
 exact ky.same _ _
 exact Og st d 3 _ (by decide) (by decide)
theorem Lf(h:st.ok)(a:st.fits f=true)(b:f.2.length<=8192):(iB st d f).1.ok:=by
 unfold iB;simp only
 split
 exact fg h a b
 exact h
theorem M0(h:st.ok):ky st (iB st d f).1 d (iB st d f).2.1:=by
 have wr:(kf d jI (jB f).1).1.writes<=d.writes+1:=PV _ _ _ _;refine⟨?_,wr,λ q=>OD q _ _⟩;unfold iB;simp only
 split
 exact Xd h
 omega
theorem OA{b:Bs}(h:st.ok)(j:k=1∨k=2∨k=3)(g:st.right (k,b)=true)(f:b.length<=8192):(iy st d k b).1.1.ok:=by
 unfold iy
 cases e:iq st.objs k (jC k b)with
 | some i =>
  simp only
  split <;> exact h
 | none =>
  simp only
  split
  exact h
  ·rename_i a
   refine Lf h ?_ f;unfold St.fits;rw[Ay (by show ¬(k=4∨k=5);omega),g]
   have c:st.has k (jC k b)=false:=by
    unfold St.has;rw[e]
    rfl
   simp[a,c]
theorem Wj{b:Bs}(h:st.ok):(jk st d b).1.1.ok:=by
 unfold jk
 split
 exact h
 exact OA h (.inl rfl) (by unfold St.right;rw[AC rfl];simp;omega) (by omega)
theorem YF(h:st.ok):(ja st d es).1.1.ok:=by
 unfold ja
 split
 exact h
 ·rename_i c
  split
  exact h
  ·rename_i e
   obtain⟨a,b⟩:=NS (by simpa using c);rw[b];refine OA h (.inr (.inl rfl)) ?_ (Nk a);unfold St.right;rw[Ay (by show ¬(2:Int)=1;omega),AC rfl];simp only[Lb a];simpa using e
theorem X3{c:Cm}(h:st.ok):(jV st d c).1.1.ok:=by
 unfold jV
 split
 exact h
 ·rename_i e
  split
  exact h
  ·rename_i f
   obtain⟨a,b⟩:=Mj (by simpa using e);rw[b]
   refine OA h (.inr (.inr rfl)) ?_ (by
    have g:=(JA a).2.1;have i:=GV a
    omega)
   unfold St.right;rw[Ay (by show ¬(3:Int)=1;omega),Ay (by show ¬(3:Int)=2;omega),AC rfl];simp only[KO a];simpa using f
theorem TU{n:Bs}(d:st.ok)(c:gS n=true)(a:st.has 3 i=true):st.fits (4,ji i n)=true:=by
 have b:i≠0:=by
  intro e;rw[e,LO d]at a;cases a
 unfold St.fits;rw[AC (.inl rfl)];simp[IR,IJ,Gq,c,a,b]
theorem JW{n:Bs}(i:UInt64)(h:gS n=true):(ji i n).length<=8192:=by
 rw[Gq];have:=Ji h;omega
theorem Qh{n:Bs}(h:st.ok):(kH st d n i).1.ok/\ky st (kH st d n i).1 d (kH st d n i).2.1:=by
 unfold kH
 split
 exact⟨h,ky.same _ _⟩
 ·rename_i b
  split
  exact⟨h,ky.same _ _⟩
  ·rename_i c
   have a:gS n=true:=by simpa using b
   exact⟨Lf h (TU h a (by simpa using c)) (JW i a),M0 h⟩
theorem SI{n:Bs}(h:st.ok):(kq st d n i).1.ok/\ky st (kq st d n i).1 d (kq st d n i).2.1:=by
 unfold kq
 split
 exact⟨h,ky.same _ _⟩
 ·rename_i e
  split
  exact⟨h,ky.same _ _⟩
  ·rename_i f
   split
   exact⟨h,ky.same _ _⟩
   ·rename_i g
    have a:gS n=true:=by simpa using e
    have b:st.has 3 i=true:=by simpa using f
    have c:(iu st.tags n).isSome=false:=by simpa using g
    refine⟨Lf h ?_ (JW i a),M0 h⟩;unfold St.fits;rw[AC (.inr rfl)];simp[IR,IJ,Gq,a,b,c]
theorem TQ{n:Bs}(h:st.ok):(jx st d n).1.ok/\ky st (jx st d n).1 d (jx st d n).2.1:=by
 unfold jx
 split
 exact⟨h,ky.same _ _⟩
 ·rename_i c
  split
  exact⟨h,ky.same _ _⟩
  ·rename_i e
   have a:gS n=true:=by simpa using c
   have b:(iu st.refs n).isSome=true:=by
    cases q:(iu st.refs n).isSome with
    | true=>rfl
    | false=>exact absurd q e
   refine⟨Lf h ?_ (JW 0 a),M0 h⟩;unfold St.fits;rw[AC (.inl rfl)];simp[IR,IJ,Gq,a,b]
structure Wd where
 st:St
 d:Dk
 bl:List UInt64
 tl:List UInt64
 cl:List UInt64
variable {v:Wd}
structure Ac where
 k:Int
 data:Bs
 ps:List Bs
 qs:List Int
 nm:Bs
 dt:Int
def jN(a:Ac)(v:Wd):Wd :=
 if a.k=0 then⟨(jk v.st v.d a.data).1.1,(jk v.st v.d a.data).1.2,if(jk v.st v.d a.data).2.2=0 then v.bl++[(jk v.st v.d a.data).2.1]else v.bl,v.tl,v.cl⟩
 else if a.k=1 then⟨(ja v.st v.d (kF a.ps a.qs v.bl)).1.1,(ja v.st v.d (kF a.ps a.qs v.bl)).1.2,v.bl,if(ja v.st v.d (kF a.ps a.qs v.bl)).2.2=0 then v.tl++[(ja v.st v.d (kF a.ps a.qs v.bl)).2.1]else v.tl,v.cl⟩
 else if a.k=2 then⟨(jV v.st v.d (jX a.data a.qs a.dt v.tl v.cl)).1.1,(jV v.st v.d (jX a.data a.qs a.dt v.tl v.cl)).1.2,v.bl,v.tl,if(jV v.st v.d (jX a.data a.qs a.dt v.tl v.cl)).2.2=0 then v.cl++[(jV v.st v.d (jX a.data a.qs a.dt v.tl v.cl)).2.1]else v.cl⟩
 else if a.k=3 then⟨(kH v.st v.d a.nm (iI v.cl (jy a.qs 0))).1,(kH v.st v.d a.nm (iI v.cl (jy a.qs 0))).2.1,v.bl,v.tl,v.cl⟩
 else if a.k=4 then⟨(kq v.st v.d a.nm (iI v.cl (jy a.qs 0))).1,(kq v.st v.d a.nm (iI v.cl (jy a.qs 0))).2.1,v.bl,v.tl,v.cl⟩
 else if a.k=5 then⟨(jx v.st v.d a.nm).1,(jx v.st v.d a.nm).2.1,v.bl,v.tl,v.cl⟩
 else v
structure Wd.fine(v:Wd)(n:Nat):Prop where
 st:v.st.ok
 d:v.d.ok
 writes:v.d.writes<=n
 size:v.st.size<=n
 bl:v.bl.length<=n
 tl:v.tl.length<=n
 cl:v.cl.length<=n
theorem MK{x:UInt64}{p:Prop}[Decidable p](h:xs.length<=n):(if p then xs++[x]else xs).length<=n+1:=by
 split
 simp;omega
 omega
theorem Wd.fine.more(h:v.fine n):v.fine (n+1):=⟨h.st,h.d,by have:=h.writes;omega,by have:=h.size;omega,by have:=h.bl;omega,by have:=h.tl;omega,by have:=h.cl;omega⟩
theorem Wd.fine.step(h:v.fine n)(a:Ac):(jN a v).fine (n+1):=by
 have i:=h.bl;have k:=h.tl;have j:=h.cl;have p:=h.writes;have o:=h.size
 have l:∀{g:St} {d':Dk},g.ok->ky v.st g v.d d'->g.ok/\d'.ok/\d'.writes<=n+1/\g.size<=n+1:=by
  intro g d' q m;exact⟨q,m.ok h.d,by have:=m.writes;omega,by have:=m.size;omega⟩
 unfold jN
 split
 obtain⟨b,c,e,f⟩:=l (Wj h.st) (Zk v.st v.d a.data);exact⟨b,c,e,f,MK i,Cb k,Cb j⟩
 split
 obtain⟨b,c,e,f⟩:=l (YF h.st) (fI v.st v.d (kF a.ps a.qs v.bl));exact⟨b,c,e,f,Cb i,MK k,Cb j⟩
 split
 obtain⟨b,c,e,f⟩:=l (X3 h.st) (Xq v.st v.d (jX a.data a.qs a.dt v.tl v.cl));exact⟨b,c,e,f,Cb i,Cb k,MK j⟩
 split
 obtain⟨b,c,e,f⟩:=l (Qh h.st).1 (Qh h.st).2;exact⟨b,c,e,f,Cb i,Cb k,Cb j⟩
 split
 obtain⟨b,c,e,f⟩:=l (SI h.st).1 (SI h.st).2;exact⟨b,c,e,f,Cb i,Cb k,Cb j⟩
 split
 obtain⟨b,c,e,f⟩:=l (TQ h.st).1 (TQ h.st).2;exact⟨b,c,e,f,Cb i,Cb k,Cb j⟩
 exact h.more
theorem Ng{W c b:Ap}{v5 a i:Ar}{xs ys:Bs}(l:gM gP 5 c B v5 xs)(d:An B W c)(T:∀k,a.ownBlock=some k->¬v5.ownBlock=some k)(f:gM gP 5 b B i ys)(e:An B c b)(_:Dw c a i)(h:Aw (λ k=>a.ownBlock=some k) c b):
  gM gP 5 b B v5 xs/\gM gP 5 b B i ys/\An B W b :=
 ⟨l.stays h (λ g m q=>T g q m),f,d.trans e⟩
theorem iW.of{v:Ar}{bs:Bs}(h:gM gP 5 w B v bs):iE w v bs:=iW.at (gM.low h (Nat.zero_le _))
theorem UN{xa V:Option Addr}{on xn T S:Nat}{U:Nat->Prop}
  (hI:WI B E w s b (Aa fa fl fc) (Aa oa on oc) (Aa ra rn rc) (Aa ta tn tc) (Aa xa xn xc) (Aa R T S) (Aa V Z zc) U st d bl tl cl) (h0:An B w0 w) (ap:w0.heap.size=B) (hB:B<=w.heap.size) (hd:iE w0 (Aa da dn dc) data) (av:data.length=dn) (aD:dn<=140737488355328) (az:d.ok) (hw:d.writes<=1000000) (aA:st.size<=1000000) (pv qv:Ar) (nm:ByteArray) (dt kp:Int) (Q) (hQ:jk st d data=Q) (am:List UInt64) (al:am=if Q.2.2=0 then bl++[Q.2.1]else bl) (aq:bl.length<=1000000) :
  At Am 19 #[Ag (iS s b d (Aa fa fl fc) (Aa oa on oc) (Aa ra rn rc) (Aa ta tn tc) (Aa xa xn xc) (Aa R T S) (Aa V Z zc)),mQ 0 (Aa da dn dc) pv qv nm dt kp] w λ e w'=>∃vf vo vr vt xb,e=Aj (Af #[Ag (iS s b Q.1.2 vf vo vr vt xb (Aa R T S) (Aa V Z zc)),Ad true])/\Hid (∃U',WI B E w' s b vf vo vr vt xb (Aa R T S) (Aa V Z zc) U' Q.1.1 Q.1.2 am tl cl/\An B w0 w'/\(∀i,E i->w'.heap[i]? = w.heap[i]?)/\gM gR 63 w' B (Aa xa xn xc) bl):=by
 obtain⟨W,hW⟩:=Xa (((w.alloc (Ai (iS s b d (Aa fa fl fc) (Aa oa on oc) (Aa ra rn rc) (Aa ta tn tc) (Aa xa xn xc) (Aa R T S) (Aa V Z zc)) 37)).alloc (Ai (iO 0 (Aa da dn dc) pv qv nm dt kp) 69)).alloc (Ai kO 37))
 have bW:Iz w W:=by rw[<- hW];exact nC _ _ _ _
 have z:Bx w.heap.size W (iS s b d (Aa fa fl fc) (Aa oa on oc) (Aa ra rn rc) (Aa ta tn tc) (Aa xa xn xc) (Aa R T S) (Aa V Z zc)) (iO 0 (Aa da dn dc) pv qv nm dt kp):=by rw[<- hW];exact Bx.new _ _ _
 have MD:=Ih (Md.start hI h0 hB z bW)
 obtain⟨k,hk⟩:=Xa (dn / 2)
 obtain⟨m,hm⟩:=Xa (dn - k)
 have aj:k<=dn:=by omega
 have ar:iE W (Aa da dn dc) data:=(hd.below (by rw[ap];exact MD.o.bel))
 have au:dn<=dc:=by
  obtain⟨ao,c,e,h1,_⟩:=ar;cases e;omega
 have aw:gQ gP W da data:=by
  obtain⟨ao,c,e,h1,h2,h3⟩:=ar;cases e;exact h3
 obtain⟨a1,c1,aQ,o1,o2,aH⟩:=Kq (ao:=da) au aj;obtain⟨a2,c2,aJ,o3,o4,aI⟩:=Kl (ao:=da) au aj;rw[hm]at aJ o3
 have H:=I4 (aH _ _ aw:gQ gP W a1 (data.take k)) (aI _ _ av aw:gQ gP W a2 (data.drop k)) (by rw[AE];omega:(data.take k).length=k) (by rw[AO];omega:(data.drop k).length=m)
 have HK:=I3 aj hm aD
 have KS:Hid (∀u,Iz W u->u.cell? ⟨w.heap.size,1,none⟩=some (Ah (some ⟨s,0,none⟩))/\u.cell? ⟨w.heap.size+1,1,none⟩=some (Aa da dn dc)):=by
  intro u bu;exact⟨(z.box.below bu z.box.lt).cell (j:=1) rfl,(z.act.below bu z.act.lt).cell (j:=1) rfl⟩
 have BL:Hid (∀u,Iz W u->∀v1 v2,gM gP 5 u W.heap.size v1 (data.take k)->gM gP 5 u W.heap.size v2 (data.drop k)->At Am 46 #[Ah (some ⟨s,0,none⟩),Aa (some ⟨u.heap.size,0,none⟩) 2 2] (u.alloc (Ai #[v1,v2] 24)) λ e w'=>∃i r,e=Aj (Af #[Ab Al i,Ab Ak r])/\Hid (i=(Q.2.1.toNat:Int)/\r=Q.2.2/\jK w' s b Q.1.1 Q.1.2 (B9 U (u.alloc (Ai #[v1,v2] 24)) w')/\Aw U (u.alloc (Ai #[v1,v2] 24)) w')):=by
  intro u bu v1 v2 q1 q2
  have h:=Wr (U:=U) ((MD.o.inv.duo.below bu).below (gW u (Ai #[v1,v2] 24))) (Sc (iW.of q1) (iW.of q2) 24) (by simp) (by
   intro x hx;simp at hx
   rcases hx with rfl|rfl
   ·rw[AE];omega
   ·rw[AO];omega) az hw (by unfold St.size at aA;omega)
  have e:[data.take k,data.drop k].flatten=data:=by simp
  rw[e,hQ]at h;exact h
 have KT:Hid (∀(u:Ap) (v1 v2:Ar) (w8:Ap),Iz W u->Aw U (u.alloc (Ai #[v1,v2] 24)) w8->w8.cell? ⟨w.heap.size,1,none⟩=some (Ah (some ⟨s,0,none⟩))/\w8.cell? ⟨w.heap.size+1,1,none⟩=some (Aa da dn dc)):=by
  intro u v1 v2 w8 bu ht;have aM:=bu.trans ((gW u (Ai #[v1,v2] 24)).mono bu.size);have hx:=(z.below aM).turned ht (λ i q r=>MD.o.far i (.inl q) (.inl r));exact⟨hx.box.cell (j:=1) rfl,hx.act.cell (j:=1) rfl⟩
 have aP:((dn:Int)).tdiv 2=(k:Int):=by rw[<- hk];rfl
 have w1:Ak.wrap (k:Int)=(k:Int):=by rw[IntKind.wrap_i64];omega
 have y1:=z.act.cell (j:=0) rfl;have y2:=z.act.cell (j:=1) rfl;have y3:=z.box.cell (j:=1) rfl
 have HH:=I8 av (λ u bu=>hd.below (by rw[ap];exact bu):(∀u,An B w0 u->iE u (Aa da dn dc) data)) az hw aA hQ al aq
 have aX:=Ih z;clear hI h0 ap hB hd av ar aw aH aI az hw aA hQ al aq z bW au o1 o2 o3 o4 hk aj hm aD;go_enter func19,ntmps19
 go_upto_region 8 with fail
 clear hW;go_cut[8,6] (λ iv ev u=>∃v i8 r8,v=u/\iv=Ab Al i8/\ev=Ab Ak r8/\Hid (i8=(Q.2.1.toNat:Int)/\r8=Q.2.2/\∃U',mR W u s b Q.1.1 Q.1.2 U U'))
 case first =>
  have k0:=KS.o W.drew (Ao _ _).drew;have k1:=KS.o (W.alloc (Ai #[] 5)).drew (gW W _).drew;have k2:=KS.o ((W.alloc (Ai #[] 5)).alloc (Ai #[] 5)).drew (lE W _ _).drew
  go_region_held3 (λ u=>u.cell? ⟨w.heap.size,1,none⟩=some (Ah (some ⟨s,0,none⟩))/\u.cell? ⟨w.heap.size+1,1,none⟩=some (Aa da dn dc)) (first | with_reducible exact k9 | with_reducible exact k8 | with_reducible exact k7 | with_reducible exact k6 | with_reducible exact k5 | with_reducible exact k2 | with_reducible exact k1 | with_reducible exact k0)
   (first
    | (go_at_call 46;(with_reducible refine HB.mono ?_);rintro e w8 ⟨i8,r8,rfl,H8⟩;have k9:=KT.o O (Aa a5 k c5) (Aa a7 m c7) w8 (DU M.o.2.2) H8.o.2.2.2)
    | (refine Jx gP 5 24 1 _ rfl Tryz.info5 underlying24 rfl (.tmp 33) (.tmp 37) rfl W.heap.size (Aa (some ⟨W.heap.size+1,0,none⟩) 0 0) [] (data.drop k) a2 m c2 ?_ ag.o.1 ?_ (H.o.2.1.below (DU N.o.2)) H.o.2.2.2 (by have:=HK.o;simp;omega) (by have:=HK.o;simp only[AH,Cj];omega) N.o.2.size ?_;(· simp[Bc]);(· simp[Bc]);intro v7 O l ab ac ad;rw[C2]at l;obtain⟨a7,c7,e7,_,_,_,_⟩:=l.form;rw[H.o.2.2.2]at e7;subst e7;have M:=Ih (Ng N.o.1 N.o.2 ag.o.2 l ab ac ad);clear l ab ac ad;have k7:=KS.o O (DU M.o.2.2);have k8:=KS.o _ (DU (M.o.2.2.trans ((gW O (Ai #[Aa a5 k c5,Aa a7 m c7] 24)).mono M.o.2.2.size)));have HB:=BL.o O (DU M.o.2.2) (Aa a5 k c5) (Aa a7 m c7) M.o.1 M.o.2.1)
    | (refine Jx gP 5 24 1 _ rfl Tryz.info5 underlying24 rfl (.tmp 33) (.tmp 37) rfl W.heap.size (Aa (some ⟨W.heap.size,0,none⟩) 0 0) [] (data.drop k) a2 m c2 ?_ ag.o.1 ?_ (H.o.2.1.below (DU N.o.2)) H.o.2.2.2 (by have:=HK.o;simp;omega) (by have:=HK.o;simp only[AH,Cj];omega) N.o.2.size ?_;(· simp[Bc]);(· simp[Bc]);intro v7 O l ab ac ad;rw[C2]at l;obtain⟨a7,c7,e7,_,_,_,_⟩:=l.form;rw[H.o.2.2.2]at e7;subst e7;have M:=Ih (Ng N.o.1 N.o.2 ag.o.2 l ab ac ad);clear l ab ac ad;have k7:=KS.o O (DU M.o.2.2);have k8:=KS.o _ (DU (M.o.2.2.trans ((gW O (Ai #[Aa a5 k c5,Aa a7 m c7] 24)).mono M.o.2.2.size)));have HB:=BL.o O (DU M.o.2.2) (Aa a5 k c5) (Aa a7 m c7) M.o.1 M.o.2.1)
    | (refine Jx gP 5 24 1 _ rfl Tryz.info5 underlying24 rfl (.tmp 33) (.tmp 37) rfl W.heap.size (Aa (some ⟨P.heap.size,0,none⟩) 0 0) [] (data.drop k) a2 m c2 ?_ (oz P W.heap.size N.o.2.size) ?_ ((H.o.2.1.below (DU N.o.2)).below (gW P _)) H.o.2.2.2 (by have:=HK.o;simp;omega) (by have:=HK.o;simp only[AH,Cj];omega) (AU N.o.2.size (by simp)) ?_;(· simp[Bc]);(· simp[Bc]);intro v7 O l ab ac ad;rw[C2]at l;obtain⟨a7,c7,e7,_,_,_,_⟩:=l.form;rw[H.o.2.2.2]at e7;subst e7;have M:Hid (gM gP 5 O W.heap.size (Aa a5 k c5) (data.take k)/\gM gP 5 O W.heap.size (Aa a7 m c7) (data.drop k)/\An W.heap.size W.drew O):=Ng (N.o.1.below (gW P _)) (N.o.2.trans ((gW P _).mono N.o.2.size)) (λ g q hg=>by have h1:=(N.o.1.lt g hg).2;have h2:some P.heap.size=some g:=q;cases h2;omega) l ab ac ad;clear l ab ac ad;have k7:=KS.o O (DU M.o.2.2);have k8:=KS.o _ (DU (M.o.2.2.trans ((gW O (Ai #[Aa a5 k c5,Aa a7 m c7] 24)).mono M.o.2.2.size)));have HB:=BL.o O (DU M.o.2.2) (Aa a5 k c5) (Aa a7 m c7) M.o.1 M.o.2.1)
    | (refine Jx gP 5 24 1 _ rfl Tryz.info5 underlying24 rfl (.tmp 27) (.tmp 31) rfl W.heap.size (Aa (some ⟨W.heap.size,0,none⟩) 0 0) [] (data.take k) a1 k c1 ?_ (pB W.drew) ?_ (H.o.1.below (DU (gW W.drew _))) H.o.2.2.1 (by have:=HK.o;simp;omega) (by have:=HK.o;simp only[AH,Cj];omega) (by simp;try omega) ?_;(· simp[Bc]);(· simp[Bc]);intro v5 P f aa ae af;rw[C2]at f;obtain⟨a5,c5,e5,_,_,_,_⟩:=f.form;rw[H.o.2.2.1]at e5;subst e5;have N:=I2 f ((gW W.drew _).trans aa:An W.heap.size W.drew P);clear f aa ae af;have k5:=KS.o P (DU N.o.2);have k6:=KS.o _ (DU (N.o.2.trans ((gW P (Ai #[] 5)).mono N.o.2.size))))
    | (refine Jx gP 5 24 1 _ rfl Tryz.info5 underlying24 rfl (.tmp 27) (.tmp 31) rfl W.heap.size (Aa (some ⟨W.heap.size,0,none⟩) 0 0) [] (data.take k) a1 k c1 ?_ (pI W.drew (Ai #[] 5)) ?_ (H.o.1.below (DU (lE W.drew _ _))) H.o.2.2.1 (by have:=HK.o;simp;omega) (by have:=HK.o;simp only[AH,Cj];omega) (by simp;try omega) ?_;(· simp[Bc]);(· simp[Bc]);intro v5 P f aa ae af;rw[C2]at f;obtain⟨a5,c5,e5,_,_,_,_⟩:=f.form;rw[H.o.2.2.1]at e5;subst e5;have N:=I2 f ((lE W.drew _ _).trans aa:An W.heap.size W.drew P);have ag:=I2 ((pJ W.drew (Ai #[] 5)).stays af (λ g hg q=>by have h1:some (W.heap.size+1)=some g:=hg;have h2:some W.heap.size=some g:=q;cases h1;simp at h2):gM gP 5 P W.heap.size (Aa (some ⟨W.heap.size+1,0,none⟩) 0 0) []) (λ k' ax q=>by have h1:some (W.heap.size+1)=some k':=ax;cases h1;rcases ae with e|e;exact(by rw[e]at q;have h2:some W.heap.size=some (W.heap.size+1):=q;simp at h2);exact(by have:=e _ q;simp at this;have h9:W.drew.heap.size=W.heap.size:=rfl;omega):∀k',(Aa (some ⟨W.heap.size+1,0,none⟩) 0 0).ownBlock=some k'->¬(Aa a5 k c5).ownBlock=some k');clear f aa ae af;have k5:=KS.o P (DU N.o.2))
    | (refine Jx gP 5 24 1 _ rfl Tryz.info5 underlying24 rfl (.tmp 27) (.tmp 31) rfl W.heap.size (Aa (some ⟨W.heap.size+1,0,none⟩) 0 0) [] (data.take k) a1 k c1 ?_ (pJ W.drew (Ai #[] 5)) ?_ (H.o.1.below (DU (lE W.drew _ _))) H.o.2.2.1 (by have:=HK.o;simp;omega) (by have:=HK.o;simp only[AH,Cj];omega) (by simp;try omega) ?_;(· simp[Bc]);(· simp[Bc]);intro v5 P f aa ae af;rw[C2]at f;obtain⟨a5,c5,e5,_,_,_,_⟩:=f.form;rw[H.o.2.2.1]at e5;subst e5;have N:=I2 f ((lE W.drew _ _).trans aa:An W.heap.size W.drew P);have ag:=I2 ((pI W.drew (Ai #[] 5)).stays af (λ g hg q=>by have h1:some W.heap.size=some g:=hg;have h2:some (W.heap.size+1)=some g:=q;cases h1;simp at h2):gM gP 5 P W.heap.size (Aa (some ⟨W.heap.size,0,none⟩) 0 0) []) (λ k' ax q=>by have h1:some W.heap.size=some k':=ax;cases h1;rcases ae with e|e;exact(by rw[e]at q;have h2:some (W.heap.size+1)=some W.heap.size:=q;simp at h2);exact(by have:=e _ q;simp at this;have h9:W.drew.heap.size=W.heap.size:=rfl;omega):∀k',(Aa (some ⟨W.heap.size,0,none⟩) 0 0).ownBlock=some k'->¬(Aa a5 k c5).ownBlock=some k');clear f aa ae af;have k5:=KS.o P (DU N.o.2)))
  all_goals
   go_wp2_with fail;go_meet;exact⟨_,i8,r8,rfl,rfl,rfl,H8.o.1,H8.o.2.1,_,mR.of (DU (M.o.2.2.trans ((gW O _).mono M.o.2.2.size))) H8.o.2.2.1 H8.o.2.2.2⟩
 case rest =>
  obtain⟨u1,i8,r8,rfl,rfl,rfl,ei,er,U1,HA⟩:=hcut;obtain⟨c1,c2,a,c4,_⟩:=MD.o.call (u2:=u1) HA
  obtain⟨bb,aC⟩:∃bb:ByteArray,bb=⟨data.toArray⟩:=⟨_,rfl⟩
  have cv:=Ga (HH.o.2.1 u1 c4);have hr:=cY c2 c1 HH.o.2.2.2.2.1 HH.o.2.2.1 HH.o.2.2.2.1 data (by have:=HH.o.1;have:=HK.o;omega) Q HH.o.2.2.2.2.2.1;rw[show tx data=Ae bb by rw[aC]]at cv hr
  have HE:=I3 ei er HA
  have g2:=a.box.cell (j:=2) rfl;have g3:=a.box.cell (j:=3) rfl;have g4:=a.box.cell (j:=4) rfl;have g5:=a.box.cell (j:=5) rfl;have g6:=a.box.cell (j:=6) rfl;have g7:=a.box.cell (j:=7) rfl;have g8:=a.box.cell (j:=8) rfl;have g9:=a.box.cell (j:=9) rfl;have aY:=a.box.cell (j:=10) rfl;have ga:=a.act.cell (j:=1) rfl;clear ei er HA c1 c2 c4 y1 y2 y3 aP w1 aQ aJ aC;go_wp2_with fail;clear a;refine hr.mono ?_;rintro e u2 ⟨m',i9,r9,rfl,H9⟩;obtain⟨q1,q2,q3,q4⟩:=H9.o;obtain⟨p,y,t,A,D,C,F,I,G,J,L,K,rfl,l1,l2,l3,l4⟩:=q3
  have eI:i8=i9:=by rw[q1,HE.o.1]
  have eR:r8=r9:=by rw[q2,HE.o.2.1]
  have M2:Hid (Md B w.heap.size E (λ i=>Fb w.heap.size i∨E i) w0 w u2 s b (Aa p y t) (Aa A D C) (Aa F I G) (Aa J L K) (Aa xa xn xc) (Aa R T S) (Aa V Z zc) U1 Q.1.1 Q.1.2 bl tl cl (iS s b d (Aa fa fl fc) (Aa oa on oc) (Aa ra rn rc) (Aa ta tn tc) (Aa xa xn xc) (Aa R T S) (Aa V Z zc)) (iO 0 (Aa da dn dc) pv qv nm dt kp)):=(MD.o.call HE.o.2.2).2.2.2.2 _ _ _ _ q4 ⟨p,y,t,A,D,C,F,I,G,J,L,K,rfl,l1,l2,l3,l4⟩;clear q1 q2 q4 l1 l2 l3 l4 H9 hr cv;subst eI eR
  obtain⟨X,hX⟩:=Xa (jG u2 w.heap.size [Aa p y t,Ab Ak (Q.1.2.writes:Int),Ad Q.1.2.armed,Ad Q.1.2.dead,Ab Ak (Q.1.2.after:Int),Ab Ak (Q.1.2.keep:Int),Aa A D C,Aa F I G,Aa J L K] 2)
  have M3:Hid (Md B w.heap.size E (λ i=>Fb w.heap.size i∨E i) w0 w X s b (Aa p y t) (Aa A D C) (Aa F I G) (Aa J L K) (Aa xa xn xc) (Aa R T S) (Aa V Z zc) U1 Q.1.1 Q.1.2 bl tl cl (iS s b Q.1.2 (Aa p y t) (Aa A D C) (Aa F I G) (Aa J L K) (Aa xa xn xc) (Aa R T S) (Aa V Z zc)) (iO 0 (Aa da dn dc) pv qv nm dt kp)):=by
   have h1:=M2.o.bx.box.lays [Aa p y t,Ab Ak (Q.1.2.writes:Int),Ad Q.1.2.armed,Ad Q.1.2.dead,Ab Ak (Q.1.2.after:Int),Ab Ak (Q.1.2.keep:Int),Aa A D C,Aa F I G,Aa J L K] 2;rw[hX,nx]at h1;exact M2.o.lay (by rw[<- hX];exact De _ _ _) h1
  have a:=M2.o.bx;have p2:=a.box.cell (j:=2) rfl;have p3:=a.box.cell (j:=3) rfl;have p4:=a.box.cell (j:=4) rfl;have p5:=a.box.cell (j:=5) rfl;have p6:=a.box.cell (j:=6) rfl;have p7:=a.box.cell (j:=7) rfl;have p8:=a.box.cell (j:=8) rfl;have p9:=a.box.cell (j:=9) rfl;have aB:=a.box.cell (j:=10) rfl;have f2:=a.box.thaw 2;have f3:=a.box.thaw 3;have f4:=a.box.thaw 4;have f5:=a.box.thaw 5;have f6:=a.box.thaw 6;have f7:=a.box.thaw 7;have f8:=a.box.thaw 8;have f9:=a.box.thaw 9;have an:=a.box.thaw 10;clear a;have aL:=Ih hX;clear hX
  go_upto_region 10 with fail
  have hX:=aL.o;simp only[jG,Cv]at hX;rw[hX];clear hX p2 f2 p3 f3 p4 f4 p5 f5 p6 f6 p7 f7 p8 f8 p9 f9 aB an;by_cases aG:r8=0
  ·subst aG;have aq:=HH.o.2.2.2.2.2.2.2;have z:B<=X.heap.size:=AU M3.o.hH (by have:=M3.o.bx.lt;omega);have ak:=M3.o.bx.box.cell (j:=11) rfl;have ai:=M3.o.bx.box.thaw 11;have aZ:=M3.o.bx.box.lt
   go_upto_region 54 with(at_builtin;refine OB gR 63 35 8 _ rfl Tryz.info63 underlying35 rfl (.tmp 57) (.tmp 59) rfl B (Aa xa xn xc) bl Q.2.1 _ (by simp[Bc]) M3.o.inv.ob (by simp[Bc]) (by omega) (by simp only[AH];omega) z _ (by show _=#[Ab Al (Q.2.1.toNat:Int)];rw[HE.o.1]) ?_;intro v4 w4 ay aE aF aK;obtain⟨a4,c4,e4,_,_⟩:=ay.whole (n:=bl.length+1) (by simp);subst e4;have M4:=hid (And.intro (M3.o.rowB ay aF aK) aE);clear ay aE aF aK;have ak:=M4.o.1.bx.box.cell (j:=11) rfl;have ai:=M4.o.1.bx.box.thaw 11)
   obtain⟨Y,hY⟩:=Xa (w4.setCell ⟨w.heap.size,11,none⟩ (Aa a4 (bl.length+1) c4))
   have M5:Hid (Md B w.heap.size E (λ i=>Fb w.heap.size i∨E i) w0 w Y s b (Aa p y t) (Aa A D C) (Aa F I G) (Aa J L K) (Aa a4 (bl.length+1) c4) (Aa R T S) (Aa V Z zc) U1 Q.1.1 Q.1.2 (bl++[Q.2.1]) tl cl (iS s b Q.1.2 (Aa p y t) (Aa A D C) (Aa F I G) (Aa J L K) (Aa a4 (bl.length+1) c4) (Aa R T S) (Aa V Z zc)) (iO 0 (Aa da dn dc) pv qv nm dt kp)):=by
    have h1:=M4.o.1.bx.box.lays [Aa a4 (bl.length+1) c4] 11;rw[oL]at h1;rw[<- hY];exact M4.o.1.lay (BR 11 _) h1
   have O5:Hid (gM gR 63 Y B (Aa xa xn xc) bl):=by
    rw[<- hY];exact M4.o.2.stays (BR (b:=w.heap.size) 11 _) (λ g q r=>by have r':=r;exact M3.o.far g (.inr (.inl q)) (.inl ⟨by omega,by omega⟩))
   rw[hY];clear hY ak ai;obtain⟨p0,p1,p2,p3,p4,p5,p6,p7,p8,p9,aB,ak,aR,aS⟩:=M5.o.bx.box.c14;obtain⟨s0,s1,s2,s3,s4,s5,s6,s7,s8,s9,aT,aU,aV,aW⟩:=M5.o.bx.res.c14;obtain⟨f0,f1,f2,f3,f4,f5,f6,f7,f8,f9,an,ai,aN,aO⟩:=M5.o.bx.res.t14;go_wp2;refine As (v:=Af #[Ag (iS s b Q.1.2 (Aa p y t) (Aa A D C) (Aa F I G) (Aa J L K) (Aa a4 (bl.length+1) c4) (Aa R T S) (Aa V Z zc)),Ad true]) ?_ rfl ⟨_,_,_,_,_,rfl,?_⟩
   ·simp[AI,Tryz.f19];go_simp
   ·have ht:=De (W:=Y) (w.heap.size+2) [Ah (some ⟨b,0,none⟩),Ah (some ⟨s,0,none⟩),Aa p y t,Ab Ak (Q.1.2.writes:Int),Ad Q.1.2.armed,Ad Q.1.2.dead,Ab Ak (Q.1.2.after:Int),Ab Ak (Q.1.2.keep:Int),Aa A D C,Aa F I G,Aa J L K,Aa a4 (bl.length+1) c4,Aa R T S,Aa V Z zc] 0;simp only[jG,Cv]at ht;have hh:=M5.o.done ht;have ho:=O5.o.stays ht (λ g q r=>by have r':g=w.heap.size+2:=r;exact M3.o.far g (.inr (.inl q)) (.inl ⟨by omega,by omega⟩));have ah:=HH.o.2.2.2.2.2.2.1;rw[AC (HE.o.2.1.symm)]at ah;rw[ah];exact⟨_,hh.1,hh.2.1,hh.2.2,ho⟩
  ·have hz:Hid (¬r8=0):=aG
   go_upto_region 54 with fail
   obtain⟨p0,p1,p2,p3,p4,p5,p6,p7,p8,p9,aB,ak,aR,aS⟩:=M3.o.bx.box.c14;obtain⟨s0,s1,s2,s3,s4,s5,s6,s7,s8,s9,aT,aU,aV,aW⟩:=M3.o.bx.res.c14;obtain⟨f0,f1,f2,f3,f4,f5,f6,f7,f8,f9,an,ai,aN,aO⟩:=M3.o.bx.res.t14;go_wp2;refine As (v:=Af #[Ag (iS s b Q.1.2 (Aa p y t) (Aa A D C) (Aa F I G) (Aa J L K) (Aa xa xn xc) (Aa R T S) (Aa V Z zc)),Ad true]) ?_ rfl ⟨_,_,_,_,_,rfl,?_⟩
   ·simp[AI,Tryz.f19];go_simp
   ·have ht:=De (W:=X) (w.heap.size+2) [Ah (some ⟨b,0,none⟩),Ah (some ⟨s,0,none⟩),Aa p y t,Ab Ak (Q.1.2.writes:Int),Ad Q.1.2.armed,Ad Q.1.2.dead,Ab Ak (Q.1.2.after:Int),Ab Ak (Q.1.2.keep:Int),Aa A D C,Aa F I G,Aa J L K,Aa xa xn xc,Aa R T S,Aa V Z zc] 0;simp only[jG,Cv]at ht;have hh:=M3.o.done ht;have ho:=M3.o.inv.ob.stays ht (λ g q r=>by have r':g=w.heap.size+2:=r;exact M3.o.far g (.inr (.inl q)) (.inl ⟨by omega,by omega⟩));have ah:=HH.o.2.2.2.2.2.2.1;rw[Ay (by rw[<- HE.o.2.1];exact hz.o)]at ah;rw[ah];exact⟨_,hh.1,hh.2.1,hh.2.2,ho⟩
theorem VM:∀args w,(Ck 50 args).run Am w=.ok (.enter 50 args) w:=enters_of func50 (by kernel_rfl) rfl
theorem fO:∀args w,(Ck 49 args).run Am w=.ok (.enter 49 args) w:=enters_of func49 (by kernel_rfl) rfl
theorem WR{k:Option Addr}(h:gM gZ 125 w base (Aa k n cap) es){i:Nat}(hi:i<n):
  ∃g A B,k=some ⟨g,0,none⟩/\g<w.heap.size/\w.cell? ⟨g,i*2,none⟩=some A/\w.cell? ⟨g,i*2+1,none⟩=some B/\w.frozen? ⟨g,i*2,none⟩=false/\w.frozen? ⟨g,i*2+1,none⟩=false/\(w.setCell ⟨g,i*2,none⟩ (Ae ⟨#[]⟩)).frozen? ⟨g,i*2+1,none⟩=false /\
   Hid (∃a,gM gZ 125 ((w.setCell ⟨g,i*2,none⟩ (Ae ⟨#[]⟩)).setCell ⟨g,i*2+1,none⟩ (Ab Al 0)) base (Aa k n cap) a):=by
 have t:=DC h;obtain⟨x,p⟩:=BK t hi
 rcases h.2 with⟨e,C⟩ | ⟨g,o,q,e,D,b,u,r,s,d⟩
 omega
 cases e;have v:=h.rdc.1;obtain⟨c,l,m⟩:=gQ.ents v p;simp only[Dc]at l m;refine⟨g,_,_,rfl,c,l,m,by simp[Ce,b],by simp[Ce,b],by simp[Ce,World.setCell,Array.getElem?_modify,b],?_⟩;have y:=h.put p (j:=0) (by decide) (([],x.2):En) (tx []) rfl
 have f:(es.set i (([],x.2):En))[i]? = some ([],x.2):=by
  rw[List.getElem?_set_self (by omega)]
 have z:=y.put f (j:=1) (by decide) (([],0):En) (Ab Al 0) rfl;exact⟨_,z⟩
theorem dq{H K I pa:Option Addr}{on F M L pn pc:Nat}{U:Nat->Prop}{ps:List Bs}
  (hI:WI B E w s b (Aa fa Z fc) (Aa oa on oc) (Aa ra rn rc) (Aa ta tn tc) (Aa H F xc) (Aa K M L) (Aa I J zc) U st d bl tl cl) (h0:An B w0 w) (ap:w0.heap.size=B) (hB:B<=w.heap.size) (hp:gQ ms w0 pa ps) (ai:ps.length=pn) (ac:pn*24<=140737488355328) (aA:∀p∈ps,p.length<=9223372036854775807) (hq:gQ encI w0 qa qs) (aB:qs.length=qn) (aC:qn<=4000000000000000000) (az:d.ok) (hw:d.writes<=1000000) (aE:st.size<=1000000) (dv:Ar) (nm:ByteArray) (dt kp:Int) (Q) (hQ:ja st d (kF ps qs bl)=Q) (ak:List UInt64) (ae:ak=if Q.2.2=0 then tl++[Q.2.1]else tl) (aJ:bl.length<=1000000) (aj:tl.length<=1000000) :
  At Am 19 #[Ag (iS s b d (Aa fa Z fc) (Aa oa on oc) (Aa ra rn rc) (Aa ta tn tc) (Aa H F xc) (Aa K M L) (Aa I J zc)),Ag (iO 1 dv (Aa pa pn pc) (Aa qa qn qc) nm dt kp)] w λ e w'=>∃vf vo vr vt xt,e=Aj (Af #[Ag (iS s b Q.1.2 vf vo vr vt (Aa H F xc) xt (Aa I J zc)),Ad true])/\Hid (∃U',WI B E w' s b vf vo vr vt (Aa H F xc) xt (Aa I J zc) U' Q.1.1 Q.1.2 bl ak cl/\An B w0 w'/\(∀i,E i->w'.heap[i]? = w.heap[i]?)/\gM gR 63 w' B (Aa K M L) tl):=by
 obtain⟨W,hW⟩:=Xa (((w.alloc (Ai (iS s b d (Aa fa Z fc) (Aa oa on oc) (Aa ra rn rc) (Aa ta tn tc) (Aa H F xc) (Aa K M L) (Aa I J zc)) 37)).alloc (Ai (iO 1 dv (Aa pa pn pc) (Aa qa qn qc) nm dt kp) 69)).alloc (Ai kO 37))
 have bW:An w.heap.size w W:=by rw[<- hW];exact nC _ _ _ _
 have G:Bx w.heap.size W (iS s b d (Aa fa Z fc) (Aa oa on oc) (Aa ra rn rc) (Aa ta tn tc) (Aa H F xc) (Aa K M L) (Aa I J zc)) (iO 1 dv (Aa pa pn pc) (Aa qa qn qc) nm dt kp):=by rw[<- hW];exact Bx.new _ _ _
 have MD:=Ih (Md.start hI h0 hB G bW)
 have bB:An w0.heap.size w0 W:=by rw[ap];exact MD.o.bel
 obtain⟨es,ab⟩:=Xa (kF ps qs bl)
 have av:es.length=pn:=by rw[<- ab];unfold kF;simp[ai]
 have au:=MD.o.inv.ob.rdc;have P:=DC MD.o.inv.ob;have af:=ZN (w:=W) (pc:=pc) (qc:=qc) (bc:=xc) (dv:=dv) 1 nm dt kp (hp.below bB) ai ac (hq.below bB) aB aC au.1 P (by omega);rw[ab]at af hQ
 have aq:kV es:=by
  intro e he;rw[<- ab]at he;unfold kF at he;rw[List.mem_map]at he;obtain⟨i,hi,rfl⟩:=he;rw[List.mem_range]at hi;unfold lY;rw[List.getD_eq_getElem?_getD,Aq hi];exact aA _ (List.getElem_mem hi)
 have y0:=G.act.cell (j:=0) rfl;have y1:=G.act.cell (j:=1) rfl;have y2:=G.act.cell (j:=2) rfl;have y3:=G.act.cell (j:=3) rfl;have y4:=G.act.cell (j:=4) rfl;have y5:=G.act.cell (j:=5) rfl;have y6:=G.act.cell (j:=6) rfl;have aT:=G.box.cell (j:=11) rfl
 have N:=I9 av aq az hw aE hQ ae aj ac
 clear hI h0 ap hB hp ai ac hq aB aC az hw aE hQ ae aJ aj G bW bB ab av au P aq aA;go_enter func19,ntmps19
 go_upto_region 13 with fail
 clear hW;go_wp2_with fail;refine af.mono ?_;rintro e w1 ⟨v,rfl,H1⟩;obtain⟨S,lc,ev,ax,_⟩:=H1.o.1.whole N.o.1;subst ev;have M1:Hid (Md B w.heap.size E (λ i=>(Fb w.heap.size i∨E i)∨(Aa S pn lc).ownBlock=some i) w0 w w1 s b (Aa fa Z fc) (Aa oa on oc) (Aa ra rn rc) (Aa ta tn tc) (Aa H F xc) (Aa K M L) (Aa I J zc) U st d bl tl cl (iS s b d (Aa fa Z fc) (Aa oa on oc) (Aa ra rn rc) (Aa ta tn tc) (Aa H F xc) (Aa K M L) (Aa I J zc)) (iO 1 dv (Aa pa pn pc) (Aa qa qn qc) nm dt kp)):=MD.o.more H1.o.2 (λ i q=>⟨by have:=(H1.o.1.lt i q).1;omega,(H1.o.1.lt i q).2⟩)
 have EN:Hid (At Am 50 #[Aa S pn lc] w1.drew λ e w'=>∃v,e=Aj v/\Hid (gM gZ 203 w' w1.heap.size v es/\An w1.heap.size w1 w')):=by
  refine(VG w1.drew (H1.o.1.rdc.1.below (Ao _ _).drew) N.o.1 N.o.2.2.2.2.2.2.2.2).mono ?_;rintro e w' ⟨v,rfl,h⟩;exact⟨v,rfl,h.o.1,DU h.o.2⟩
 have PT:Hid (∀w2,An w1.heap.size w1 w2->∀ea ec,gM gZ 203 w2 w1.heap.size (Aa ea pn ec) es->At Am 49 #[rm d (Aa fa Z fc) (Aa oa on oc) (Aa ra rn rc) (Aa ta tn tc),Aa ea pn ec] w2 λ e w'=>∃v,e=Aj v/\Hid (∃m' i r,v=Af #[m',Ab Al i,Ab Ak r]/\i=(Q.2.1.toNat:Int)/\r=Q.2.2/\jh (Zb (λ i=>(Fb w.heap.size i∨E i)∨(Aa S pn lc).ownBlock=some i) (Rows U (Aa H F xc) (Aa K M L) (Aa I J zc))) w' m' Q.1.1 Q.1.2/\An w1.heap.size w1 w')):=by
  intro w2 b2 ea ec ho;refine(Y4 (λ i q=>?_) (M1.o.refz.below b2) N.o.2.2.2.2.1 N.o.2.2.1 N.o.2.2.2.1 ho.rdc.1 N.o.1 (by have:=N.o.2.2.2.2.2.2.2.2;omega) Q N.o.2.2.2.2.2.1).mono ?_
  ·rcases q with q|q
   ·exact AK (M1.o.inv.lt i q).2 b2.size
   ·exact AK (M1.o.flt i q) b2.size
  ·rintro e w' ⟨m',i,r,rfl,h⟩;exact⟨_,rfl,m',i,r,rfl,h.o.1,h.o.2.1,h.o.2.2.1,b2.trans (h.o.2.2.2.mono b2.size)⟩
 have V:=M1.o.bx;have g2:=V.box.cell (j:=2) rfl;have g3:=V.box.cell (j:=3) rfl;have g4:=V.box.cell (j:=4) rfl;have g5:=V.box.cell (j:=5) rfl;have g6:=V.box.cell (j:=6) rfl;have g7:=V.box.cell (j:=7) rfl;have g8:=V.box.cell (j:=8) rfl;have g9:=V.box.cell (j:=9) rfl;have aI:=V.box.cell (j:=10) rfl
 have HL:=I3 ax H1.o.1 H1.o.2
 clear y0 y1 y2 y3 y4 y5 y6 aT af H1 ax V
 go_upto_region 14 with fail
 go_cut[9,7] (λ iv rv u=>∃v i9 r9 a f c k t l x z y A D C,v=u/\iv=Ab Al i9/\rv=Ab Ak r9/\Hid (i9=(Q.2.1.toNat:Int)/\r9=Q.2.2/\Md B w.heap.size E (λ i=>(Fb w.heap.size i∨E i)∨(Aa S pn lc).ownBlock=some i) w0 w v s b (Aa fa Z fc) (Aa oa on oc) (Aa ra rn rc) (Aa ta tn tc) (Aa H F xc) (Aa K M L) (Aa I J zc) U st d bl tl cl (iS s b Q.1.2 (Aa a f c) (Aa k t l) (Aa x z y) (Aa A D C) (Aa H F xc) (Aa K M L) (Aa I J zc)) (iO 1 dv (Aa pa pn pc) (Aa qa qn qc) nm dt kp)/\jh (Zb (λ i=>(Fb w.heap.size i∨E i)∨(Aa S pn lc).ownBlock=some i) (Rows U (Aa H F xc) (Aa K M L) (Aa I J zc))) v (rm Q.1.2 (Aa a f c) (Aa k t l) (Aa x z y) (Aa A D C)) Q.1.1 Q.1.2/\gM gZ 125 v (W.heap.size+1) (Aa S pn lc) es))
 case first =>
  go_region_law
   (first
    | (refine SJ rfl (.tmp 71) 50 #[118] rfl VM (Aa S pn lc) (by simp[Bc,Act.put]) _ EN.o ?_;intro v2 w2 h2;obtain⟨ea,ec,e2,_,_⟩:=h2.o.1.whole N.o.1;subst e2;have P2:=hid (PT.o w2 h2.o.2 ea ec h2.o.1);have B2:=hid h2.o.2;clear h2;have c2:=M1.o.bx.below B2.o;have h2:=c2.box.cell (j:=2) rfl;have h3:=c2.box.cell (j:=3) rfl;have h4:=c2.box.cell (j:=4) rfl;have h5:=c2.box.cell (j:=5) rfl;have h6:=c2.box.cell (j:=6) rfl;have h7:=c2.box.cell (j:=7) rfl;have h8:=c2.box.cell (j:=8) rfl;have h9:=c2.box.cell (j:=9) rfl;have aW:=c2.box.cell (j:=10) rfl;clear c2)
    | (refine JS rfl (.tmp 70) (.tmp 72) 49 #[34,121] rfl fO (rm d (Aa fa Z fc) (Aa oa on oc) (Aa ra rn rc) (Aa ta tn tc)) (Aa ea pn ec) (by simp[Bc]) (by simp[Bc]) _ P2.o ?_;intro v3 w3 h3;obtain⟨m3,i9,r9,e3,q1,q2,q3,q4⟩:=h3.o;subst e3;obtain⟨a,f,c,k,t,l,x,z,y,A,D,C,rfl,l1,l2,l3,l4⟩:=q3;have H9:=hid (And.intro q1 (And.intro q2 (And.intro (show jh (Zb (λ i=>(Fb w.heap.size i∨E i)∨(Aa S pn lc).ownBlock=some i) (Rows U (Aa H F xc) (Aa K M L) (Aa I J zc))) w3 (rm Q.1.2 (Aa a f c) (Aa k t l) (Aa x z y) (Aa A D C)) Q.1.1 Q.1.2 from⟨a,f,c,k,t,l,x,z,y,A,D,C,rfl,l1,l2,l3,l4⟩) q4)));clear h3 q1 q2 q4 l1 l2 l3 l4;have O:=M1.o.bx.below H9.o.2.2.2;have k2:=O.box.cell (j:=2) rfl;have f2:=O.box.thaw 2;have k3:=O.box.cell (j:=3) rfl;have f3:=O.box.thaw 3;have k4:=O.box.cell (j:=4) rfl;have f4:=O.box.thaw 4;have k5:=O.box.cell (j:=5) rfl;have f5:=O.box.thaw 5;have k6:=O.box.cell (j:=6) rfl;have f6:=O.box.thaw 6;have k7:=O.box.cell (j:=7) rfl;have f7:=O.box.thaw 7;have k8:=O.box.cell (j:=8) rfl;have f8:=O.box.thaw 8;have k9:=O.box.cell (j:=9) rfl;have f9:=O.box.thaw 9;have aY:=O.box.cell (j:=10) rfl;have ao:=O.box.thaw 10;clear O)
    | fail)
  all_goals
   have hM:=(M1.o.below H9.o.2.2.2).bx.box.lays [Aa a f c,Ab Ak (Q.1.2.writes:Int),Ad Q.1.2.armed,Ad Q.1.2.dead,Ab Ak (Q.1.2.after:Int),Ab Ak (Q.1.2.keep:Int),Aa k t l,Aa x z y,Aa A D C] 2;rw[nx]at hM;have hT:=De (W:=w3) w.heap.size [Aa a f c,Ab Ak (Q.1.2.writes:Int),Ad Q.1.2.armed,Ad Q.1.2.dead,Ab Ak (Q.1.2.after:Int),Ab Ak (Q.1.2.keep:Int),Aa k t l,Aa x z y,Aa A D C] 2;have al:=hid (And.intro H9.o.1 (And.intro H9.o.2.1 (And.intro ((M1.o.below H9.o.2.2.2).lay hT hM) (And.intro (H9.o.2.2.1.turned hT (λ i q=>.inr (.inl (.inl (by have q':=q;exact⟨by omega,by omega⟩))))) ((HL.o.2.1.below H9.o.2.2.2).stays hT (λ g q r=>by have r':g=w.heap.size:=r;have:=(HL.o.2.1.lt g q).1;have:=MD.o.bx.lt;omega))))));clear hM hT;simp only[jG,Cv]at al;go_wp2_with fail;go_meet;exact⟨_,i9,r9,a,f,c,k,t,l,x,z,y,A,D,C,rfl,rfl,rfl,al⟩
 case rest =>
  obtain⟨X,i9,r9,a,f,c,k,t,l,x,z,y,A,D,C,rfl,rfl,rfl,T⟩:=hcut;have x1:=T.o.2.2.1.bx.box.cell (j:=1) rfl;have ag:=Yk T.o.2.2.1.inv.duo T.o.2.2.2.2.rdc.1 N.o.1 (by have:=N.o.2.2.2.2.2.2.2.2;omega) N.o.2.1 HL.o.1 N.o.2.2.1 N.o.2.2.2.1 (by have:=N.o.2.2.2.2.1;unfold St.size at this;omega);rw[N.o.2.2.2.2.2.1]at ag;clear g2 g3 g4 g5 g6 g7 g8 g9 aI;go_wp2_with fail;refine ag.mono ?_;rintro e u3 ⟨i8,r8,rfl,H8⟩
  have eI:i8=i9:=by rw[H8.o.1,T.o.1]
  have eR:r8=r9:=by rw[H8.o.2.1,T.o.2.1]
  obtain⟨U1,ar⟩:=Xa (B9 U X u3)
  have AF:mR X u3 s b Q.1.1 Q.1.2 U U1:=by rw[<- ar];exact mR.of (Ao _ _) H8.o.2.2.1 H8.o.2.2.2
  have M3:Hid (Md B w.heap.size E (λ i=>(Fb w.heap.size i∨E i)∨(Aa S pn lc).ownBlock=some i) w0 w u3 s b (Aa a f c) (Aa k t l) (Aa x z y) (Aa A D C) (Aa H F xc) (Aa K M L) (Aa I J zc) U1 Q.1.1 Q.1.2 bl tl cl (iS s b Q.1.2 (Aa a f c) (Aa k t l) (Aa x z y) (Aa A D C) (Aa H F xc) (Aa K M L) (Aa I J zc)) (iO 1 dv (Aa pa pn pc) (Aa qa qn qc) nm dt kp)):=(T.o.2.2.1.call AF).2.2.2.2 _ _ _ _ (Ao _ _) (T.o.2.2.1.move AF T.o.2.2.2.1)
  have HE:=I2 H8.o.1 H8.o.2.1
  have L3:=I2 (T.o.2.2.2.2.stays H8.o.2.2.2 (λ g q r=>T.o.2.2.1.far g (.inl r) (.inr q)):gM gZ 125 u3 (W.heap.size+1) (Aa S pn lc) es) (λ i q=>by have:=(T.o.2.2.2.2.lt i q).1;have:=MD.o.bx.lt;omega:∀i,(Aa S pn lc).ownBlock=some i->w.heap.size+3<=i)
  subst eI eR;clear AF ar H8 ag x1;go_wp2_with fail;go_loopg[12] pn (λ m iv wr=>∃i:Nat,iv=Ab Ak i/\i+m=pn/\Hid ((∃an,gM gZ 125 wr (W.heap.size+1) (Aa S pn lc) an)/\Md B w.heap.size E (λ i=>(Fb w.heap.size i∨E i)∨(Aa S pn lc).ownBlock=some i) w0 w wr s b (Aa a f c) (Aa k t l) (Aa x z y) (Aa A D C) (Aa H F xc) (Aa K M L) (Aa I J zc) U1 Q.1.1 Q.1.2 bl tl cl (iS s b Q.1.2 (Aa a f c) (Aa k t l) (Aa x z y) (Aa A D C) (Aa H F xc) (Aa K M L) (Aa I J zc)) (iO 1 dv (Aa pa pn pc) (Aa qa qn qc) nm dt kp)))
  case atStart=>exact⟨0,rfl,by omega,⟨_,L3.o.1⟩,M3.o⟩
  case round =>
   obtain⟨i,rfl,hi,HR⟩:=hrel;have am:=hid N.o.2.2.2.2.2.2.2.2;by_cases aK:i<pn
   ·have id:(i:Int)<(pn:Int):=by omega
    have aX:(0:Int)<=(i:Int):=by omega
    obtain⟨⟨an,ho⟩,hm⟩:=HR.o;obtain⟨g,v0,v1,rfl,aL,c0,V,f0,f1,aV,HO⟩:=WR ho aK;have HM:=hid hm;have aU:=hid ho;clear ho hm HR;have ac:=am.o;go_wp2;go_roundg (gk - 1)
    case measure=>omega
    case rel =>
     refine⟨i+1,by go_num,by omega,HO.o,?_⟩;have t1:Aw (λ j=>j=g) wr (wr.setCell ⟨g,i*2,none⟩ (Ae ⟨#[]⟩)):=BR _ _;have t2:Aw (λ j=>j=g) (wr.setCell ⟨g,i*2,none⟩ (Ae ⟨#[]⟩)) ((wr.setCell ⟨g,i*2,none⟩ (Ae ⟨#[]⟩)).setCell ⟨g,i*2+1,none⟩ (Ab Al 0)):=BR _ _;exact HM.o.other (t1.trans t2 (λ _ _ q=>q)) (λ j q=>by have q':=q;subst q';exact⟨.inr rfl,L3.o.2 j rfl⟩)
   ·obtain rfl:i=pn:=by omega
    have R:=hid HR.o.2;clear HR T M3 L3 am;by_cases aD:r8=0
    ·subst aD;have aj:=N.o.2.2.2.2.2.2.2.1;have G:B<=wr.heap.size:=AU R.o.hH (by have:=R.o.bx.lt;omega);have ad:=R.o.bx.box.cell (j:=12) rfl;have aa:=R.o.bx.box.thaw 12;have aL:=R.o.bx.box.lt
     go_upto_region 54 with(at_builtin;refine OB gR 63 35 8 _ rfl Tryz.info63 underlying35 rfl (.tmp 98) (.tmp 100) rfl B (Aa K M L) tl Q.2.1 _ (by simp[Bc]) R.o.inv.ot (by simp[Bc]) (by omega) (by simp only[AH];omega) G _ (by show _=#[Ab Al (Q.2.1.toNat:Int)];rw[HE.o.1]) ?_;intro v4 w4 ah aw ay aF;obtain⟨a4,c4,e4,_,_⟩:=ah.whole (n:=tl.length+1) (by simp);subst e4;have M4:=hid (And.intro (R.o.rowT ah ay aF) aw);clear ah aw ay aF;have ad:=M4.o.1.bx.box.cell (j:=12) rfl;have aa:=M4.o.1.bx.box.thaw 12)
     obtain⟨Y,hY⟩:=Xa (w4.setCell ⟨w.heap.size,12,none⟩ (Aa a4 (tl.length+1) c4))
     have M5:Hid (Md B w.heap.size E (λ j=>(Fb w.heap.size j∨E j)∨(Aa S i lc).ownBlock=some j) w0 w Y s b (Aa a f c) (Aa k t l) (Aa x z y) (Aa A D C) (Aa H F xc) (Aa a4 (tl.length+1) c4) (Aa I J zc) U1 Q.1.1 Q.1.2 bl (tl++[Q.2.1]) cl (iS s b Q.1.2 (Aa a f c) (Aa k t l) (Aa x z y) (Aa A D C) (Aa H F xc) (Aa a4 (tl.length+1) c4) (Aa I J zc)) (iO 1 dv (Aa pa i pc) (Aa qa qn qc) nm dt kp)):=by
      have h1:=M4.o.1.bx.box.lays [Aa a4 (tl.length+1) c4] 12;rw[ou]at h1;rw[<- hY];exact M4.o.1.lay (BR 12 _) h1
     have O5:Hid (gM gR 63 Y B (Aa K M L) tl):=by
      rw[<- hY];exact M4.o.2.stays (BR (b:=w.heap.size) 12 _) (λ g q r=>by have r':g=w.heap.size:=r;exact R.o.far g (.inr (.inr (.inl q))) (.inl (.inl ⟨by omega,by omega⟩)))
     rw[hY];clear hY ad aa;obtain⟨p0,p1,p2,p3,p4,p5,p6,p7,p8,p9,aM,aN,ad,aO⟩:=M5.o.bx.box.c14;obtain⟨s0,s1,s2,s3,s4,s5,s6,s7,s8,s9,aP,aQ,aR,aS⟩:=M5.o.bx.res.c14;obtain⟨f0,f1,f2,f3,f4,f5,f6,f7,f8,f9,ao,aG,aa,aH⟩:=M5.o.bx.res.t14;go_wp2;refine As (v:=Af #[Ag (iS s b Q.1.2 (Aa a f c) (Aa k t l) (Aa x z y) (Aa A D C) (Aa H F xc) (Aa a4 (tl.length+1) c4) (Aa I J zc)),Ad true]) ?_ rfl ⟨_,_,_,_,_,rfl,?_⟩
     ·simp[AI,Tryz.f19];go_simp
     ·have ht:=De (W:=Y) (w.heap.size+2) [Ah (some ⟨b,0,none⟩),Ah (some ⟨s,0,none⟩),Aa a f c,Ab Ak (Q.1.2.writes:Int),Ad Q.1.2.armed,Ad Q.1.2.dead,Ab Ak (Q.1.2.after:Int),Ab Ak (Q.1.2.keep:Int),Aa k t l,Aa x z y,Aa A D C,Aa H F xc,Aa a4 (tl.length+1) c4,Aa I J zc] 0;simp only[jG,Cv]at ht;have hh:=M5.o.done ht;have ho:=O5.o.stays ht (λ g q r=>by have r':=r;exact R.o.far g (.inr (.inr (.inl q))) (.inl (.inl ⟨by omega,by omega⟩)));have P:=N.o.2.2.2.2.2.2.1;rw[AC (HE.o.2.symm)]at P;rw[P];exact⟨_,hh.1,hh.2.1,hh.2.2,ho⟩
    ·have hz:=Ih aD
     go_upto_region 54 with fail
     obtain⟨p0,p1,p2,p3,p4,p5,p6,p7,p8,p9,aM,aN,ad,aO⟩:=R.o.bx.box.c14;obtain⟨s0,s1,s2,s3,s4,s5,s6,s7,s8,s9,aP,aQ,aR,aS⟩:=R.o.bx.res.c14;obtain⟨f0,f1,f2,f3,f4,f5,f6,f7,f8,f9,ao,aG,aa,aH⟩:=R.o.bx.res.t14;go_wp2;refine As (v:=Af #[Ag (iS s b Q.1.2 (Aa a f c) (Aa k t l) (Aa x z y) (Aa A D C) (Aa H F xc) (Aa K M L) (Aa I J zc)),Ad true]) ?_ rfl ⟨_,_,_,_,_,rfl,?_⟩
     ·simp[AI,Tryz.f19];go_simp
     ·have ht:=De (W:=wr) (w.heap.size+2) [Ah (some ⟨b,0,none⟩),Ah (some ⟨s,0,none⟩),Aa a f c,Ab Ak (Q.1.2.writes:Int),Ad Q.1.2.armed,Ad Q.1.2.dead,Ab Ak (Q.1.2.after:Int),Ab Ak (Q.1.2.keep:Int),Aa k t l,Aa x z y,Aa A D C,Aa H F xc,Aa K M L,Aa I J zc] 0;simp only[jG,Cv]at ht;have hh:=R.o.done ht;have ho:=R.o.inv.ot.stays ht (λ g q r=>by have r':=r;exact R.o.far g (.inr (.inr (.inl q))) (.inl (.inl ⟨by omega,by omega⟩)));have P:=N.o.2.2.2.2.2.2.1;rw[Ay (by rw[<- HE.o.2];exact hz.o)]at P;rw[P];exact⟨_,hh.1,hh.2.1,hh.2.2,ho⟩
def Fc(E:Nat->Prop)(H C:Nat)(ua:Option Addr)(N uc:Nat):Nat->Prop:=λ i=>(Fb H i∨E i)∨i=C∨(Aa ua N uc).ownBlock=some i
theorem VF:∀args w,(Ck 54 args).run Am w=.ok (.enter 54 args) w:=enters_of func54 (by kernel_rfl) rfl
theorem WE:∀args w,(Ck 53 args).run Am w=.ok (.enter 53 args) w:=enters_of func53 (by kernel_rfl) rfl
theorem WF(h:gM gR 63 w base (Aa c n cap) xs){i:Nat}(hi:i<n):
  ∃g u,c=some ⟨g,0,none⟩/\g<w.heap.size/\w.cell? ⟨g,i,none⟩=some u/\w.frozen? ⟨g,i,none⟩=false/\Hid (∃d,gM gR 63 (w.setCell ⟨g,i,none⟩ (Ab Al 0)) base (Aa c n cap) d):=by
 have s:=DC h;obtain⟨x,l⟩:=BK s hi
 rcases h.2 with⟨e,v⟩ | ⟨g,k,o,e,y,r,t,p,q,b⟩
 omega
 cases e;obtain⟨a,f⟩:=gQ.nums h.rdc.1 l;simp only[Dc]at f;refine⟨g,_,rfl,a,f,by simp[Ce,r],?_⟩;have m:=h.put l (j:=0) (by decide) (0:UInt64) (Ab Al 0) rfl;rw[show i*gR.size+0=i from Nat.mul_one i]at m;exact⟨_,m⟩
theorem Z6{F L:Option Addr}{on H I O:Nat}{U:Nat->Prop}
  (hI:WI B E w s b (Aa fa fl fc) (Aa oa on oc) (Aa ra rn rc) (Aa ta tn tc) (Aa F H xc) (Aa L J I) (Aa R O zc) U st d bl tl cl) (h0:An B w0 w) (aq:w0.heap.size=B) (hB:B<=w.heap.size) (hd:iE w0 (Aa da dn dc) data) (hq:gQ encI w0 qa qs) (aB:qs.length=qn) (aC:qn*8<=140737488355328) (aA:d.ok) (hw:d.writes<=1000000) (aE:st.size<=1000000) (pv:Ar) (nm:ByteArray) (dt kp:Int) (Q) (hQ:jV st d (jX data qs dt tl cl)=Q) (ai:List UInt64) (af:ai=if Q.2.2=0 then cl++[Q.2.1]else cl) (aG:tl.length<=1000000) (av:cl.length<=1000000) :
  At Am 19 #[Ag (iS s b d (Aa fa fl fc) (Aa oa on oc) (Aa ra rn rc) (Aa ta tn tc) (Aa F H xc) (Aa L J I) (Aa R O zc)),Ag (iO 2 (Aa da dn dc) pv (Aa qa qn qc) nm dt kp)] w λ e w'=>∃vf vo vr vt xz,e=Aj (Af #[Ag (iS s b Q.1.2 vf vo vr vt (Aa F H xc) (Aa L J I) xz),Ad true])/\Hid (∃U',WI B E w' s b vf vo vr vt (Aa F H xc) (Aa L J I) xz U' Q.1.1 Q.1.2 bl tl ai/\An B w0 w'/\(∀i,E i->w'.heap[i]? = w.heap[i]?)/\gM gR 63 w' B (Aa R O zc) cl):=by
 obtain⟨W,hW⟩:=Xa (((w.alloc (Ai (iS s b d (Aa fa fl fc) (Aa oa on oc) (Aa ra rn rc) (Aa ta tn tc) (Aa F H xc) (Aa L J I) (Aa R O zc)) 37)).alloc (Ai (iO 2 (Aa da dn dc) pv (Aa qa qn qc) nm dt kp) 69)).alloc (Ai kO 37))
 have bW:An w.heap.size w W:=by rw[<- hW];exact nC _ _ _ _
 have K:Bx w.heap.size W (iS s b d (Aa fa fl fc) (Aa oa on oc) (Aa ra rn rc) (Aa ta tn tc) (Aa F H xc) (Aa L J I) (Aa R O zc)) (iO 2 (Aa da dn dc) pv (Aa qa qn qc) nm dt kp):=by rw[<- hW];exact Bx.new _ _ _
 have MD:=Ih (Md.start hI h0 hB K bW)
 have bB:An w0.heap.size w0 W:=by rw[aq];exact MD.o.bel
 obtain⟨cm,aa⟩:=Xa (jX data qs dt tl cl)
 obtain⟨nt,al⟩:∃nt:ByteArray,nt=⟨data.toArray⟩:=⟨_,rfl⟩
 obtain⟨tr,an⟩:∃tr:Int,(cm.tree.toNat:Int)=tr:=⟨_,rfl⟩
 obtain⟨N,hN⟩:=Xa cm.ps.length
 have aL:N<=qn:=by rw[<- hN,<- aa];unfold jX;simp;omega
 have aw:cm.date=dt:=by rw[<- aa];rfl
 have az:nt=⟨cm.note.toArray⟩:=by rw[al,<- aa];rfl
 have aj:=Uj (w:=W) (dc:=dc) (qc:=qc) (tc:=I) (cc:=zc) 2 pv nm dt kp (Ah (some ⟨b,0,none⟩)) (Ah (some ⟨s,0,none⟩)) (Aa fa fl fc) (d.writes:Int) d.armed d.dead (d.after:Int) (d.keep:Int) (Aa oa on oc) (Aa ra rn rc) (Aa ta tn tc) (Aa F H xc) (hd.below bB) nt al (hq.below bB) aB aC MD.o.inv.ot.rdc.1 (DC MD.o.inv.ot) (by have:tl.length=J:=DC MD.o.inv.ot;omega) MD.o.inv.oc.rdc.1 (DC MD.o.inv.oc) (by have:cl.length=O:=DC MD.o.inv.oc;omega) tr (by rw[aa];exact an) N (by rw[aa];exact hN);rw[aa]at aj hQ;have y0:=K.act.cell (j:=0) rfl;have y1:=K.act.cell (j:=1) rfl;have y2:=K.act.cell (j:=2) rfl;have y3:=K.act.cell (j:=3) rfl;have y4:=K.act.cell (j:=4) rfl;have y5:=K.act.cell (j:=5) rfl;have y6:=K.act.cell (j:=6) rfl;obtain⟨x0,x1,x2,x3,x4,x5,x6,x7,x8,x9,aV,aW,aX,aY⟩:=K.box.c14
 have M:Hid (cm.ps.length=N/\d.ok/\d.writes<=1000000/\st.size<=1000000/\jV st d cm=Q/\(ai=if Q.2.2=0 then cl++[Q.2.1]else cl)/\cl.length<=1000000/\N*8<=140737488355328/\cm.date=dt/\nt=⟨cm.note.toArray⟩/\(cm.tree.toNat:Int)=tr):=⟨hN,aA,hw,aE,hQ,af,av,by omega,aw,az,an⟩
 clear hI h0 aq hB hd hq aB aC aA hw aE hQ af aG av K bW bB aa al an hN aL aw az;go_enter func19,ntmps19
 go_upto_region 23 with fail
 clear hW;go_wp2_with fail;refine aj.mono ?_;rintro e w1 ⟨S,P,rfl,H1⟩
 obtain⟨C,hC⟩:=Xa w1.heap.size
 obtain⟨w2,ad⟩:=Xa (w1.alloc (Ai #[Ab Al tr,Aa S N P,Ab Ak dt,Ae nt] 104))
 have ag:An w1.heap.size w1 w2:=by rw[<- ad];exact gW _ _
 have s2:w2.heap.size=w1.heap.size+1:=by rw[<- ad];simp
 have ah:=H1.o.2.trans (ag.mono H1.o.2.size)
 have M1:Hid (Md B w.heap.size E (Fc E w.heap.size C S N P) w0 w w2 s b (Aa fa fl fc) (Aa oa on oc) (Aa ra rn rc) (Aa ta tn tc) (Aa F H xc) (Aa L J I) (Aa R O zc) U st d bl tl cl (iS s b d (Aa fa fl fc) (Aa oa on oc) (Aa ra rn rc) (Aa ta tn tc) (Aa F H xc) (Aa L J I) (Aa R O zc)) (iO 2 (Aa da dn dc) pv (Aa qa qn qc) nm dt kp)):=MD.o.more (G:=λ i=>i=C∨(Aa S N P).ownBlock=some i) ah (λ i q=>by
  have:=H1.o.2.size
  rcases q with q|q
  ·omega
  ·have:=H1.o.1.lt i q
   omega)
 have L2:Hid (gM gR 63 w2 (W.heap.size+4) (Aa S N P) cm.ps/\ib w2 C 104 (Ab Al tr) (Aa S N P) (Ab Ak dt) (Ae nt)/\C<w2.heap.size/\w.heap.size+3<=C/\∀i,(Aa S N P).ownBlock=some i->w.heap.size+3<=i/\i≠C):=by
  have l3:=MD.o.bx.lt;have:=H1.o.2.size;refine⟨H1.o.1.below ag,?_,by omega,by omega,λ i q=>?_⟩
  ·rw[<- ad,<- hC];exact ib.new _ _ _ _ _ _
  ·have:=H1.o.1.lt i q;omega
 have CO:Hid (At Am 54 #[Ag #[Ab Al tr,Aa S N P,Ab Ak dt,Ae nt]] w2.drew λ e w'=>∃v,e=Aj v/\Hid (∃ea ec,v=Ag #[Ab Al tr,Aa ea N ec,Ab Ak dt,Ae nt]/\gQ gR w' ea cm.ps/\An w2.heap.size w2 w')):=by
  refine(Zl (L2.o.1.rdc.1.below (Ao _ _).drew) M.o.1 M.o.2.2.2.2.2.2.2.1 nt dt tr).mono ?_;rintro e w' ⟨ea,ec,rfl,h⟩;exact⟨_,rfl,ea,ec,rfl,h.o.1,DU h.o.2.2⟩
 have PC:Hid (∀w3,An w2.heap.size w2 w3->∀ea ec,gQ gR w3 ea cm.ps->At Am 53 #[(rm d (Aa fa fl fc) (Aa oa on oc) (Aa ra rn rc) (Aa ta tn tc)),Ag #[Ab Al tr,Aa ea N ec,Ab Ak dt,Ae nt]] w3 λ e w'=>∃v,e=Aj v/\Hid (∃m' i r,v=Af #[m',Ab Al i,Ab Ak r]/\i=(Q.2.1.toNat:Int)/\r=Q.2.2/\jh (Zb (Fc E w.heap.size C S N P) (Rows U (Aa F H xc) (Aa L J I) (Aa R O zc))) w' m' Q.1.1 Q.1.2/\An w2.heap.size w2 w')):=by
  intro w3 b3 ea ec ho;have h:=ZH (pc:=ec) (λ i q=>?_) (M1.o.refz.below b3) M.o.2.2.2.1 M.o.2.1 M.o.2.2.1 ho M.o.1 (by have:=M.o.2.2.2.2.2.2.2.1;omega) nt M.o.2.2.2.2.2.2.2.2.2.1 dt M.o.2.2.2.2.2.2.2.2.1 Q M.o.2.2.2.2.1
  ·rw[M.o.2.2.2.2.2.2.2.2.2.2]at h;refine h.mono ?_;rintro e w' ⟨m',i,r,rfl,h⟩;exact⟨_,rfl,m',i,r,rfl,h.o.1,h.o.2.1,h.o.2.2.1,b3.trans (h.o.2.2.2.mono b3.size)⟩
  ·rcases q with q|q
   ·exact AK (M1.o.inv.lt i q).2 b3.size
   ·exact AK (M1.o.flt i q) b3.size
 have c1:=M1.o.bx;have g2:=c1.box.cell (j:=2) rfl;have g3:=c1.box.cell (j:=3) rfl;have g4:=c1.box.cell (j:=4) rfl;have g5:=c1.box.cell (j:=5) rfl;have g6:=c1.box.cell (j:=6) rfl;have g7:=c1.box.cell (j:=7) rfl;have g8:=c1.box.cell (j:=8) rfl;have g9:=c1.box.cell (j:=9) rfl;have aK:=c1.box.cell (j:=10) rfl;obtain⟨t0,t1,t2,t3⟩:=L2.o.2.1.cells
 have HC:=I2 hC ah
 clear y0 y1 y2 y3 y4 y5 y6 x0 x1 x2 x3 x4 x5 x6 x7 x8 x9 aV aW aX aY aj H1 c1 ag s2 ah
 go_upto_region 24 with fail
 clear ad hC;go_cut[9,7] (λ iv rv u=>∃v i9 r9 a f c k p l t y x z D A,v=u/\iv=Ab Al i9/\rv=Ab Ak r9/\Hid (i9=(Q.2.1.toNat:Int)/\r9=Q.2.2/\Md B w.heap.size E (Fc E w.heap.size C S N P) w0 w v s b (Aa fa fl fc) (Aa oa on oc) (Aa ra rn rc) (Aa ta tn tc) (Aa F H xc) (Aa L J I) (Aa R O zc) U st d bl tl cl (iS s b Q.1.2 (Aa a f c) (Aa k p l) (Aa t y x) (Aa z D A) (Aa F H xc) (Aa L J I) (Aa R O zc)) (iO 2 (Aa da dn dc) pv (Aa qa qn qc) nm dt kp)/\jh (Zb (Fc E w.heap.size C S N P) (Rows U (Aa F H xc) (Aa L J I) (Aa R O zc))) v (rm Q.1.2 (Aa a f c) (Aa k p l) (Aa t y x) (Aa z D A)) Q.1.1 Q.1.2/\gM gR 63 v (W.heap.size+4) (Aa S N P) cm.ps/\ib v C 104 (Ab Al tr) (Aa S N P) (Ab Ak dt) (Ae nt)))
 case first =>
  go_region_law
   (first
    | (refine SJ rfl (.tmp 111) 54 #[104] rfl VF (Ag #[Ab Al tr,Aa S N P,Ab Ak dt,Ae nt]) (by simp[Bc]) _ CO.o ?_;intro v2 w3 h2;obtain⟨ea,ec,e2,h3,h4⟩:=h2.o;subst e2;have P2:=hid (PC.o w3 h4 ea ec h3);have B2:=hid h4;clear h2 h3 h4;have c2:=M1.o.bx.below B2.o;have h2:=c2.box.cell (j:=2) rfl;have h3:=c2.box.cell (j:=3) rfl;have h4:=c2.box.cell (j:=4) rfl;have h5:=c2.box.cell (j:=5) rfl;have h6:=c2.box.cell (j:=6) rfl;have h7:=c2.box.cell (j:=7) rfl;have h8:=c2.box.cell (j:=8) rfl;have h9:=c2.box.cell (j:=9) rfl;have aZ:=c2.box.cell (j:=10) rfl;clear c2)
    | (refine JS rfl (.tmp 110) (.tmp 112) 53 #[34,129] rfl WE (rm d (Aa fa fl fc) (Aa oa on oc) (Aa ra rn rc) (Aa ta tn tc)) (Ag #[Ab Al tr,Aa ea N ec,Ab Ak dt,Ae nt]) (by simp[Bc]) (by simp[Bc]) _ P2.o ?_;intro v3 w4 h3;obtain⟨m3,i9,r9,e3,q1,q2,q3,q4⟩:=h3.o;subst e3;obtain⟨a,f,c,k,p,l,t,y,x,z,D,A,rfl,l1,l2,l3,l4⟩:=q3;have H9:=hid (And.intro q1 (And.intro q2 (And.intro (show jh (Zb (Fc E w.heap.size C S N P) (Rows U (Aa F H xc) (Aa L J I) (Aa R O zc))) w4 (rm Q.1.2 (Aa a f c) (Aa k p l) (Aa t y x) (Aa z D A)) Q.1.1 Q.1.2 from⟨a,f,c,k,p,l,t,y,x,z,D,A,rfl,l1,l2,l3,l4⟩) q4)));clear h3 q1 q2 q4 l1 l2 l3 l4;have T:=M1.o.bx.below H9.o.2.2.2;have k2:=T.box.cell (j:=2) rfl;have f2:=T.box.thaw 2;have k3:=T.box.cell (j:=3) rfl;have f3:=T.box.thaw 3;have k4:=T.box.cell (j:=4) rfl;have f4:=T.box.thaw 4;have k5:=T.box.cell (j:=5) rfl;have f5:=T.box.thaw 5;have k6:=T.box.cell (j:=6) rfl;have f6:=T.box.thaw 6;have k7:=T.box.cell (j:=7) rfl;have f7:=T.box.thaw 7;have k8:=T.box.cell (j:=8) rfl;have f8:=T.box.thaw 8;have k9:=T.box.cell (j:=9) rfl;have f9:=T.box.thaw 9;have a2:=T.box.cell (j:=10) rfl;have ap:=T.box.thaw 10;clear T)
    | fail)
  all_goals
   have hM:=(M1.o.below H9.o.2.2.2).bx.box.lays [Aa a f c,Ab Ak (Q.1.2.writes:Int),Ad Q.1.2.armed,Ad Q.1.2.dead,Ab Ak (Q.1.2.after:Int),Ab Ak (Q.1.2.keep:Int),Aa k p l,Aa t y x,Aa z D A] 2;rw[nx]at hM;have hT:=De (W:=w4) w.heap.size [Aa a f c,Ab Ak (Q.1.2.writes:Int),Ad Q.1.2.armed,Ad Q.1.2.dead,Ab Ak (Q.1.2.after:Int),Ab Ak (Q.1.2.keep:Int),Aa k p l,Aa t y x,Aa z D A] 2;have ao:=hid (And.intro H9.o.1 (And.intro H9.o.2.1 (And.intro ((M1.o.below H9.o.2.2.2).lay hT hM) (And.intro (H9.o.2.2.1.turned hT (λ i q=>.inr (.inl (.inl (by have q':=q;exact⟨by omega,by omega⟩))))) (And.intro ((L2.o.1.below H9.o.2.2.2).stays hT (λ g q r=>by have r':g=w.heap.size:=r;have:=(L2.o.2.2.2.2 g q).1;omega)) ((L2.o.2.1.below H9.o.2.2.2 L2.o.2.2.1).turned hT (by have:=L2.o.2.2.2.1;show ¬C=w.heap.size;omega)))))));clear hM hT;simp only[jG,Cv]at ao;go_wp2_with fail;go_meet;exact⟨_,i9,r9,a,f,c,k,p,l,t,y,x,z,D,A,rfl,rfl,rfl,ao⟩
 case rest =>
  obtain⟨X,i9,r9,a,f,c,k,p,l,t,y,x,z,D,A,rfl,rfl,rfl,V⟩:=hcut;have x1:=V.o.2.2.1.bx.box.cell (j:=1) rfl;obtain⟨z0,z1,z2,z3⟩:=V.o.2.2.2.2.2.cells;have ak:=VN (pc:=P) V.o.2.2.1.inv.duo V.o.2.2.2.2.1.rdc.1 M.o.1 (by have:=M.o.2.2.2.2.2.2.2.1;omega) V.o.2.2.2.2.1.rdc.2 nt M.o.2.2.2.2.2.2.2.2.2.1 dt M.o.2.2.2.2.2.2.2.2.1 M.o.2.1 M.o.2.2.1 (by have:=M.o.2.2.2.1;unfold St.size at this;omega);rw[M.o.2.2.2.2.1,M.o.2.2.2.2.2.2.2.2.2.2]at ak;clear g2 g3 g4 g5 g6 g7 g8 g9 aK t0 t1 t2 t3;go_wp2_with fail;refine ak.mono ?_;rintro e u3 ⟨i8,r8,rfl,H8⟩
  have eI:i8=i9:=by rw[H8.o.1,V.o.1]
  have eR:r8=r9:=by rw[H8.o.2.1,V.o.2.1]
  obtain⟨U1,ar⟩:=Xa (B9 U X u3)
  have AF:mR X u3 s b Q.1.1 Q.1.2 U U1:=by rw[<- ar];exact mR.of (Ao _ _) H8.o.2.2.1 H8.o.2.2.2
  have M3:Hid (Md B w.heap.size E (Fc E w.heap.size C S N P) w0 w u3 s b (Aa a f c) (Aa k p l) (Aa t y x) (Aa z D A) (Aa F H xc) (Aa L J I) (Aa R O zc) U1 Q.1.1 Q.1.2 bl tl cl (iS s b Q.1.2 (Aa a f c) (Aa k p l) (Aa t y x) (Aa z D A) (Aa F H xc) (Aa L J I) (Aa R O zc)) (iO 2 (Aa da dn dc) pv (Aa qa qn qc) nm dt kp)):=(V.o.2.2.1.call AF).2.2.2.2 _ _ _ _ (Ao _ _) (V.o.2.2.1.move AF V.o.2.2.2.1)
  have HE:=I2 H8.o.1 H8.o.2.1
  have L3:=I2 (V.o.2.2.2.2.1.stays H8.o.2.2.2 (λ g q r=>V.o.2.2.1.far g (.inl r) (.inr (.inr q))):gM gR 63 u3 (W.heap.size+4) (Aa S N P) cm.ps) (V.o.2.2.2.2.2.turned H8.o.2.2.2 (λ r=>V.o.2.2.1.far C (.inl r) (.inr (.inl rfl))):ib u3 C 104 (Ab Al tr) (Aa S N P) (Ab Ak dt) (Ae nt))
  subst eI eR;clear AF ar H8 ak x1 z0 z1 z2 z3;go_wp2_with fail;go_loopg[14] N (λ m iv wr=>∃i:Nat,iv=Ab Ak i/\i+m=N/\Hid ((∃aH,gM gR 63 wr (W.heap.size+4) (Aa S N P) aH)/\Md B w.heap.size E (Fc E w.heap.size C S N P) w0 w wr s b (Aa a f c) (Aa k p l) (Aa t y x) (Aa z D A) (Aa F H xc) (Aa L J I) (Aa R O zc) U1 Q.1.1 Q.1.2 bl tl cl (iS s b Q.1.2 (Aa a f c) (Aa k p l) (Aa t y x) (Aa z D A) (Aa F H xc) (Aa L J I) (Aa R O zc)) (iO 2 (Aa da dn dc) pv (Aa qa qn qc) nm dt kp)/\ib wr C 104 (Ab Al tr) (Aa S N P) (Ab Ak dt) (Ae nt)))
  case atStart=>exact⟨0,rfl,by omega,⟨_,L3.o.1⟩,M3.o,L3.o.2⟩
  case round =>
   obtain⟨i,rfl,hi,HR⟩:=hrel;have a0:=M.o.2.2.2.2.2.2.2.1;obtain⟨t0,t1,t2,t3⟩:=HR.o.2.2.cells;by_cases aM:i<N
   ·have id:(i:Int)<(N:Int):=by omega
    have a1:(0:Int)<=(i:Int):=by omega
    obtain⟨⟨aH,ho⟩,hm,au⟩:=HR.o;obtain⟨g,v0,rfl,aN,c0,f0,HO⟩:=WF ho aM;have HM:=hid (And.intro hm au);clear ho hm au HR;go_wp2;go_roundg (gk - 1)
    case measure=>omega
    case rel =>
     have tt:Aw (λ j=>j=g) wr (wr.setCell ⟨g,i,none⟩ (Ab Al 0)):=BR _ _;refine⟨i+1,by go_num,by omega,HO.o,?_,HM.o.2.turned tt (λ q=>(L2.o.2.2.2.2 g rfl).2 (show C=g from q).symm)⟩;exact HM.o.1.other tt (λ j q=>by have q':=q;subst q';exact⟨.inr (.inr rfl),(L2.o.2.2.2.2 j rfl).1⟩)
   ·obtain rfl:i=N:=by omega
    have Z:=hid HR.o.2.1;clear HR V M3 L3;by_cases aD:r8=0
    ·subst aD;have aG:=M.o.2.2.2.2.2.2.1;have K:B<=wr.heap.size:=AU Z.o.hH (by have:=Z.o.bx.lt;omega);have ae:=Z.o.bx.box.cell (j:=13) rfl;have ac:=Z.o.bx.box.thaw 13;have aN:=Z.o.bx.box.lt
     go_upto_region 54 with(at_builtin;refine OB gR 63 35 8 _ rfl Tryz.info63 underlying35 rfl (.tmp 139) (.tmp 141) rfl B (Aa R O zc) cl Q.2.1 _ (by simp[Bc]) Z.o.inv.oc (by simp[Bc]) (by omega) (by simp only[AH];omega) K _ (by show _=#[Ab Al (Q.2.1.toNat:Int)];rw[HE.o.1]) ?_;intro v4 w4 am ax ay aF;obtain⟨a4,c4,e4,_,_⟩:=am.whole (n:=cl.length+1) (by simp);subst e4;have M4:=hid (And.intro (Z.o.rowC am ay aF) ax);clear am ax ay aF;have ae:=M4.o.1.bx.box.cell (j:=13) rfl;have ac:=M4.o.1.bx.box.thaw 13)
     obtain⟨Y,hY⟩:=Xa (w4.setCell ⟨w.heap.size,13,none⟩ (Aa a4 (cl.length+1) c4))
     have M5:Hid (Md B w.heap.size E (Fc E w.heap.size C S i P) w0 w Y s b (Aa a f c) (Aa k p l) (Aa t y x) (Aa z D A) (Aa F H xc) (Aa L J I) (Aa a4 (cl.length+1) c4) U1 Q.1.1 Q.1.2 bl tl (cl++[Q.2.1]) (iS s b Q.1.2 (Aa a f c) (Aa k p l) (Aa t y x) (Aa z D A) (Aa F H xc) (Aa L J I) (Aa a4 (cl.length+1) c4)) (iO 2 (Aa da dn dc) pv (Aa qa qn qc) nm dt kp)):=by
      have h1:=M4.o.1.bx.box.lays [Aa a4 (cl.length+1) c4] 13;rw[oW]at h1;rw[<- hY];exact M4.o.1.lay (BR 13 _) h1
     have O5:Hid (gM gR 63 Y B (Aa R O zc) cl):=by
      rw[<- hY];exact M4.o.2.stays (BR (b:=w.heap.size) 13 _) (λ g q r=>by have r':g=w.heap.size:=r;exact Z.o.far g (.inr (.inr (.inr q))) (.inl (.inl ⟨by omega,by omega⟩)))
     rw[hY];clear hY ae ac;obtain⟨p0,p1,p2,p3,p4,p5,p6,p7,p8,p9,aO,aP,aQ,ae⟩:=M5.o.bx.box.c14;obtain⟨s0,s1,s2,s3,s4,s5,s6,s7,s8,s9,aR,aS,aT,aU⟩:=M5.o.bx.res.c14;obtain⟨f0,f1,f2,f3,f4,f5,f6,f7,f8,f9,ap,aI,aJ,ac⟩:=M5.o.bx.res.t14;go_wp2;refine As (v:=Af #[Ag (iS s b Q.1.2 (Aa a f c) (Aa k p l) (Aa t y x) (Aa z D A) (Aa F H xc) (Aa L J I) (Aa a4 (cl.length+1) c4)),Ad true]) ?_ rfl ⟨_,_,_,_,_,rfl,?_⟩
     ·simp[AI,Tryz.f19];go_simp
     ·have ht:=De (W:=Y) (w.heap.size+2) [Ah (some ⟨b,0,none⟩),Ah (some ⟨s,0,none⟩),Aa a f c,Ab Ak (Q.1.2.writes:Int),Ad Q.1.2.armed,Ad Q.1.2.dead,Ab Ak (Q.1.2.after:Int),Ab Ak (Q.1.2.keep:Int),Aa k p l,Aa t y x,Aa z D A,Aa F H xc,Aa L J I,Aa a4 (cl.length+1) c4] 0;simp only[jG,Cv]at ht;have hh:=M5.o.done ht;have ho:=O5.o.stays ht (λ g q r=>by have r':=r;exact Z.o.far g (.inr (.inr (.inr q))) (.inl (.inl ⟨by omega,by omega⟩)));have ab:=M.o.2.2.2.2.2.1;rw[AC (HE.o.2.symm)]at ab;rw[ab];exact⟨_,hh.1,hh.2.1,hh.2.2,ho⟩
    ·have hz:=Ih aD
     go_upto_region 54 with fail
     obtain⟨p0,p1,p2,p3,p4,p5,p6,p7,p8,p9,aO,aP,aQ,ae⟩:=Z.o.bx.box.c14;obtain⟨s0,s1,s2,s3,s4,s5,s6,s7,s8,s9,aR,aS,aT,aU⟩:=Z.o.bx.res.c14;obtain⟨f0,f1,f2,f3,f4,f5,f6,f7,f8,f9,ap,aI,aJ,ac⟩:=Z.o.bx.res.t14;go_wp2;refine As (v:=Af #[Ag (iS s b Q.1.2 (Aa a f c) (Aa k p l) (Aa t y x) (Aa z D A) (Aa F H xc) (Aa L J I) (Aa R O zc)),Ad true]) ?_ rfl ⟨_,_,_,_,_,rfl,?_⟩
     ·simp[AI,Tryz.f19];go_simp
     ·have ht:=De (W:=wr) (w.heap.size+2) [Ah (some ⟨b,0,none⟩),Ah (some ⟨s,0,none⟩),Aa a f c,Ab Ak (Q.1.2.writes:Int),Ad Q.1.2.armed,Ad Q.1.2.dead,Ab Ak (Q.1.2.after:Int),Ab Ak (Q.1.2.keep:Int),Aa k p l,Aa t y x,Aa z D A,Aa F H xc,Aa L J I,Aa R O zc] 0;simp only[jG,Cv]at ht;have hh:=Z.o.done ht;have ho:=Z.o.inv.oc.stays ht (λ g q r=>by have r':=r;exact Z.o.far g (.inr (.inr (.inr q))) (.inl (.inl ⟨by omega,by omega⟩)));have ab:=M.o.2.2.2.2.2.1;rw[Ay (by rw[<- HE.o.2];exact hz.o)]at ab;rw[ab];exact⟨_,hh.1,hh.2.1,hh.2.2,ho⟩
theorem fz{g l n r:Option Addr}{a on f h m q p t:Nat}{U:Nat->Prop}
  (G:WI B E w s b (Aa fa a fc) (Aa oa on oc) (Aa c f rc) (Aa g h tc) (Aa l m xc) (Aa n q p) (Aa r t zc) U st d bl tl cl) (D:An B w0 w) (F:B<=w.heap.size) (k:Int) (M:k<0) (dv y z:Ar) (nm:ByteArray) (dt kp:Int) :
  At Am 19 #[Ag (iS s b d (Aa fa a fc) (Aa oa on oc) (Aa c f rc) (Aa g h tc) (Aa l m xc) (Aa n q p) (Aa r t zc)),Ag (iO k dv y z nm dt kp)] w λ e w'=>e=Aj (Af #[Ag (iS s b d (Aa fa a fc) (Aa oa on oc) (Aa c f rc) (Aa g h tc) (Aa l m xc) (Aa n q p) (Aa r t zc)),Ad true])/\Hid (WI B E w' s b (Aa fa a fc) (Aa oa on oc) (Aa c f rc) (Aa g h tc) (Aa l m xc) (Aa n q p) (Aa r t zc) U st d bl tl cl/\An B w0 w'/\∀i,E i->w'.heap[i]? = w.heap[i]?):=by
 obtain⟨W,A⟩:=Xa (((w.alloc (Ai (iS s b d (Aa fa a fc) (Aa oa on oc) (Aa c f rc) (Aa g h tc) (Aa l m xc) (Aa n q p) (Aa r t zc)) 37)).alloc (Ai (iO k dv y z nm dt kp) 69)).alloc (Ai kO 37))
 have C:Iz w W:=by rw[<- A];exact nC _ _ _ _
 have x:Bx w.heap.size W (iS s b d (Aa fa a fc) (Aa oa on oc) (Aa c f rc) (Aa g h tc) (Aa l m xc) (Aa n q p) (Aa r t zc)) (iO k dv y z nm dt kp):=by rw[<- A];exact Bx.new _ _ _
 have u:=Ih (Md.start G D F x C);have y0:=u.o.bx.act.cell (j:=0) rfl;obtain⟨p0,p1,p2,p3,p4,p5,p6,p7,p8,p9,N,O,P,Q⟩:=u.o.bx.box.c14;obtain⟨s0,s1,s2,s3,s4,s5,s6,s7,s8,s9,R,S,T,V⟩:=u.o.bx.res.c14;obtain⟨X,Y,f2,Z,f4,f5,f6,f7,f8,f9,I,J,K,L⟩:=u.o.bx.res.t14
 have n0:(k==0)=false:=by rw[A3];omega
 have m0:¬k=0:=by omega
 have n1:(k==1)=false:=by rw[A3];omega
 have m1:¬k=1:=by omega
 have n2:(k==2)=false:=by rw[A3];omega
 have m2:¬k=2:=by omega
 have n3:(k==3)=false:=by rw[A3];omega
 have m3:¬k=3:=by omega
 have n4:(k==4)=false:=by rw[A3];omega
 have m4:¬k=4:=by omega
 have n5:(k==5)=false:=by rw[A3];omega
 have m5:¬k=5:=by omega
 have n6:(k==6)=false:=by rw[A3];omega
 have m6:¬k=6:=by omega
 have n7:(k==7)=false:=by rw[A3];omega
 have m7:¬k=7:=by omega
 have n8:(k==8)=false:=by rw[A3];omega
 have m8:¬k=8:=by omega
 clear G D F x C M;go_enter func19,ntmps19
 go_upto_region 54 with fail
 clear A;go_wp2;refine As (v:=Af #[Ag (iS s b d (Aa fa a fc) (Aa oa on oc) (Aa c f rc) (Aa g h tc) (Aa l m xc) (Aa n q p) (Aa r t zc)),Ad true]) ?_ rfl ⟨rfl,?_⟩
 simp[AI,Tryz.f19];go_simp
 have H:=De (W:=W) (w.heap.size+2) [Ah (some ⟨b,0,none⟩),Ah (some ⟨s,0,none⟩),Aa fa a fc,Ab Ak (d.writes:Int),Ad d.armed,Ad d.dead,Ab Ak (d.after:Int),Ab Ak (d.keep:Int),Aa oa on oc,Aa c f rc,Aa g h tc,Aa l m xc,Aa n q p,Aa r t zc] 0;simp only[jG,Cv]at H;exact u.o.done H
structure AV where
 k:Int
 da:Option Addr
 dn:Nat
 dc:Nat
 pa:Option Addr
 pn:Nat
 pc:Nat
 qa:Option Addr
 qn:Nat
 qc:Nat
 nm:ByteArray
 dt:Int
 kp:Int
abbrev AV.val(a:AV):Ar:=mQ a.k (Aa a.da a.dn a.dc) (Aa a.pa a.pn a.pc) (Aa a.qa a.qn a.qc) a.nm a.dt a.kp
def kY:ju AV:=⟨λ a=>[Ab Ak a.k,Aa a.da a.dn a.dc,Aa a.pa a.pn a.pc,Aa a.qa a.qn a.qc,Ae a.nm,Ab Ak a.dt,Ab Ak a.kp],7,λ _=>rfl,by decide,by intro x u h;simp at h;rcases h with rfl|rfl|rfl|rfl|rfl|rfl|rfl <;> rfl⟩
theorem gQ.acts {w:World} {b off:Nat} {l:List AV} (h:gQ kY w (some ⟨b,off,none⟩) l) {i:Nat} {a:AV} (hx:l[i]? = some a):b<w.heap.size/\w.cell? ⟨b,off+i*7,none⟩=some (.int .i64 a.k)/\w.cell? ⟨b,off+i*7+1,none⟩=some (.slice a.da a.dn a.dc)/\w.cell? ⟨b,off+i*7+2,none⟩=some (.slice a.pa a.pn a.pc)/\w.cell? ⟨b,off+i*7+3,none⟩=some (.slice a.qa a.qn a.qc)/\w.cell? ⟨b,off+i*7+4,none⟩=some (.string a.nm)/\w.cell? ⟨b,off+i*7+5,none⟩=some (.int .i64 a.dt)/\w.cell? ⟨b,off+i*7+6,none⟩=some (.int .i64 a.kp):=by
 obtain ⟨b', off', e', hlt, hc⟩ := h (by rcases Nat.lt_or_ge i l.length with q | q
                                         omega
                                         rw [List.getElem?_eq_none q] at hx; cases hx)
 obtain ⟨rfl,rfl⟩:b=b'/\off=off':=by simpa using e'
 have h0:=hc i a hx 0 _ rfl;have h1:=hc i a hx 1 _ rfl;have h2:=hc i a hx 2 _ rfl;have h3:=hc i a hx 3 _ rfl;have h4:=hc i a hx 4 _ rfl;have h5:=hc i a hx 5 _ rfl;have h6:=hc i a hx 6 _ rfl;refine ⟨hlt,?_,?_,?_,?_,?_,?_,?_⟩
 simpa [kY] using h0
 simpa [kY,Nat.add_assoc] using h1
 simpa [kY,Nat.add_assoc] using h2
 simpa [kY,Nat.add_assoc] using h3
 simpa [kY,Nat.add_assoc] using h4
 simpa [kY,Nat.add_assoc] using h5
 simpa [kY,Nat.add_assoc] using h6
structure H7(w:Ap)(a:AV)(data:Bs)(ps:List Bs)(qs:List Int):Prop where
 hd:iE w (Aa a.da a.dn a.dc) data
 dl:data.length=a.dn
 dm:a.dn<=140737488355328
 hp:gQ ms w a.pa ps
 pl:ps.length=a.pn
 pm:a.pn*24<=140737488355328
 pf:∀p∈ps,p.length<=9223372036854775807
 hq:gQ encI w a.qa qs
 ql:qs.length=a.qn
 qm:a.qn*8<=140737488355328
structure nA(w:Ap)(ao:Option Addr)(n:Nat)(l:List AV):Prop where
 rd:gQ kY w ao l
 len:l.length=n
 each:∀a∈l,∃data ps qs,H7 w a data ps qs
end Go.Proofs.YtakgkgmopmcecaaGreat
