/-
  Several texts, laid together.
-/
import Derived.Test.YtlojblelpaegpaaGreatM30
set_option maxHeartbeats 6400000
set_option maxRecDepth 100000
open List renaming mem_append->AK,take_of_length_le->Av,getElem?_eq_some_iff->AC,getElem?_eq_getElem->Aq,length_map->AQ,length_take->AM,length_drop->By,length_nil->Cj,nil_append->Cr
open Go renaming World->Ap,Calls->At,bodyPost_ret->As,results_tmp2->AA,Value->Ar,maxLen->AG,results->AH
open Go.RowKit renaming Below->An
open Nat renaming le_refl->Az,not_lt_zero->DC,zero_add->C9,le_trans->AZ,le_of_lt->CD,le_succ_of_le->BZ,reduceAdd->BT,lt_of_lt_of_le->AI
open Go.World renaming cell?->BC,frozen?->Cb
open Option renaming isSome_iff_exists->BP
open Go.Act renaming eval->A8
open Go.Value renaming slice->Aa,int->Ab,bool->Ad,string->Ae,tuple->Af,agg->Ag,pointer->Ah
open Go.Obj renaming cells->Ai
open Go.Ending renaming returned->Aj
open Go.IntKind renaming i64->Ak,u64->Al
open Go.Proofs.Tryz renaming prog->Am
open Go.Proofs.Tryz
namespace Go.Proofs.YtlojblelpaegpaaGreat
open Go.RowKit
variable{B Z fc oc on rc rn s tc tn xc zc:Nat}{E:Nat->Prop}{a bl cl tl:List UInt64}{b n:Bs}{d:Dk}{es:List En}{f:Fr}{fa oa ra ta:Option Addr}{i:UInt64}{k:Int}{st:St}{w w0:Ap}
theorem ZbS{ids:List UInt64}:(a++risU ids).Nodup↔(a++ids).Nodup:=((List.Perm.refl a).append (List.mergeSort_perm ids _)).nodup_iff
theorem ZbL{ids:List UInt64}{p:UInt64}:p∈a++risU ids↔p∈a++ids:=by
 rw[AK,AK,ZaJ]
theorem ZbB{b:Nat}{S:Nat->Prop}{ba ia:Option Addr}{bn bc n c:Nat}{bvs:List LV}{ids:List UInt64}{G:List Int}{rk:Nat->Nat}(h:Zac w s b st S)
  (hB:RdG encL w ba bvs) (av:bvs.length=bn) (au:∀v∈bvs,1<=v.gen/\v.gen<=250) (aD:(bvs.map (·.id)).Nodup) (hI:RdG encU w ia ids) (hn:ids.length=n) (hs:bn+n<=100000)
  (hG:st.free (bvs.map (·.id)) ids->Zaz bn (st.pss (bvs.map (·.id)++risU ids) (risU ids)) rk/\Gens (bvs.map (·.gen)) (st.pss (bvs.map (·.id)++risU ids) (risU ids)) G) :
  At Am 12 #[Ah (some ⟨s,0,none⟩),Aa ba bn bc,Aa ia n c] w λ e w'=>∃v r,e=Aj (Af #[v,Ab Ak r])/\Hid (∃vs R,st.told (bvs.map (·.id)) G ids r R/\OwnG encL 63 w' w.heap.size v vs/\LvsO w' w.heap.size vs R/\An w.heap.size w w'):=by
 obtain⟨a,aa⟩:=Xa (bvs.map (·.id))
 obtain⟨xs,ae⟩:=Xa (risU ids)
 have aJ:xs.length=n:=by rw[<- ae,Zb7];exact hn
 rw[aa,ae]at hG;rw[aa];have aw:=Zka (c:=c) w hI hn (by omega)
 have H:Hid (Zac w s b st S/\RdG encL w ba bvs/\bvs.length=bn/\(∀v∈bvs,1<=v.gen/\v.gen<=250)/\(bvs.map (·.id)).Nodup/\ids.length=n/\bvs.map (·.id)=a/\risU ids=xs/\xs.length=n):=⟨h,hB,av,au,aD,hn,aa,ae,aJ⟩
 have HG:Hid (st.free a ids->Zaz bn (st.pss (a++xs) xs) rk/\Gens (bvs.map (·.gen)) (st.pss (a++xs) xs) G):=hG;clear h hB av au aD hI hn aa ae aJ hG;go_enter func12,ntmps12;go_wp2_with fail;refine aw.mono ?_;rintro e w1 ⟨v1,rfl,O1,M⟩;have aH:=ZiK O1 (by rw[H.o.2.2.2.2.2.1];omega)
 have G1:Hid (OwnG encU 44 w1 w.heap.size v1 ids/\An w.heap.size w w1):=⟨O1,M⟩
 clear aw O1 M;go_wp2_with fail;refine aH.mono ?_;rintro e w2 ⟨rfl,J2⟩;clear aH;obtain⟨ra,rc,rfl,_,R2,T2⟩:=J2.o;rw[H.o.2.2.2.2.2.1];rw[H.o.2.2.2.2.2.1]at G1 T2;rw[H.o.2.2.2.2.2.2.2.1]at R2;have B2:An w.heap.size w w2:=G1.o.2.trans (T2.below G1.o.2.size (λ k hk q=>by have:=(World.ownsRow.lt G1.o.1 k q).1;omega));have Q:=Zkh (bc:=bc) (c:=rc) (H.o.2.1.below B2) H.o.2.2.1 H.o.2.2.2.2.1 R2 H.o.2.2.2.2.2.2.2.2 hs;rw[H.o.2.2.2.2.2.2.1]at Q
 have G2:Hid (An w.heap.size w w2/\RdG encU w2 ra xs):=⟨B2,R2⟩
 clear J2 R2 T2 B2 G1;go_wp2_with fail;refine Q.mono ?_;rintro e w3 ⟨mv,r3,rfl,J3⟩;clear Q
 rcases J3.o.1 with⟨d,rfl,rfl,h4⟩ | ⟨d,rfl,rfl⟩
 rotate_left
 ·have B:Hid (∃vs R,st.told a G ids 6 R/\OwnG encL 63 w3 w.heap.size (Aa none 0 0) vs/\LvsO w3 w.heap.size vs R/\An w.heap.size w w3) :=
   ⟨[],[],.twice (λ q=>d (by rw[<- H.o.2.2.2.2.2.2.2.1];exact ZbS.2 q)),OwnG.nil _ _ _ _,LvsO.nil _ _,G2.o.1.trans (J3.o.2.mono G2.o.1.size)⟩
  clear J3 d;go_wp2_with fail;refine As (AA rfl _ _ _) rfl ?_;exact⟨_,_,rfl,B.o⟩
 ·have ah:(a++ids).Nodup:=by
   rw[<- H.o.2.2.2.2.2.2.2.1]at d;exact ZbS.1 d
  have B3:An w.heap.size w w3:=G2.o.1.trans (J3.o.2.mono G2.o.1.size);have ax:=ZjE (c:=rc) (H.o.1.below B3) (G2.o.2.below J3.o.2) H.o.2.2.2.2.2.2.2.2 (by omega)
  have Y:Hid (An w.heap.size w w3/\RdG encU w3 ra xs/\MapG kU w3 w2.heap.size (mpv (a++xs)) (a++xs).length/\(a++ids).Nodup):=⟨B3,G2.o.2.below J3.o.2,h4.map,ah⟩
  clear J3 d h4 ah B3
  obtain⟨m,hm⟩:=Xa w2.heap.size
  rw[hm]at Y ⊢;clear hm G2;go_wp2_with fail;refine ax.mono ?_;rintro e A ⟨cv,r4,rfl,J4⟩;clear ax
  rcases J4.o.1 with⟨rfl,rfl,h4⟩ | ⟨d,rfl,rfl⟩
  rotate_left
  ·have B:Hid (∃vs R,st.told a G ids 5 R/\OwnG encL 63 A w.heap.size (Aa none 0 0) vs/\LvsO A w.heap.size vs R/\An w.heap.size w A) :=
    ⟨[],[],.missing Y.o.2.2.2 (λ q=>d (λ x I=>q x (by rw[<- H.o.2.2.2.2.2.2.2.1,ZaJ]at I;exact I))),OwnG.nil _ _ _ _,LvsO.nil _ _,Y.o.1.trans (J4.o.2.mono Y.o.1.size)⟩
   clear J4 d;go_wp2_with fail;refine As (AA rfl _ _ _) rfl ?_;exact⟨_,_,rfl,B.o⟩
  ·obtain⟨N,hC⟩:=h4
   obtain⟨gc,aA⟩:=Xa w3.heap.size
   rw[aA]at hC ⊢;have B4:An w.heap.size w A:=Y.o.1.trans (J4.o.2.mono Y.o.1.size)
   have ag:∀x∈ids,st.has 3 x=true:=λ x I=>hC.has x (by rw[Av (by rw[H.o.2.2.2.2.2.2.2.2];exact Az _),<- H.o.2.2.2.2.2.2.2.1,ZaJ];exact I)
   have aj:An w3.heap.size w3 A:=J4.o.2
   have ar:RB A A s b st S m (a++xs) ra xs gc N ba bvs:=⟨H.o.1.below B4,Y.o.2.2.1.turned (S:=λ _=>False) (Zaa.ofBelow aj) (λ q=>q),Y.o.2.1.below aj,hC.own.rdc.1,λ i v x d h2=>hC.at_ i v x (by have:=(AC.1 d).1;have:=hC.len;omega) d h2,H.o.2.1.below B4⟩
   obtain⟨w5,aC,O5,B5⟩:=ZiZ encL lv0 39 63 (Ag #[Ab Al 0,Ab Al 0,Ab Ak 0,Aa none 0 0,Ab Ak 0,Aa none 0 0]) 80 rfl infoL sliceL n (by omega) (by decide) A
   obtain⟨rg,ad⟩:=Xa A.heap.size
   rw[ad]at aC O5 B5
   have L1:Hid (∃vs,RL rg A w5 n xs vs (F1 st (a++xs) 0)/\∀x∈xs.take 0,∀p∈(st.com x).ps,p∈a++xs):=by
    refine⟨_,⟨O5,B5,ad,λ j v x d h2=>?_⟩,by simp⟩;rw[List.getElem?_replicate]at d
    split at d
    ·cases d;unfold F1;rw[Aw (DC _)];exact Zqj _ _
    ·cases d
   have L:Hid (RB A A s b st S m (a++xs) ra xs gc N ba bvs/\An w.heap.size w A/\(a++ids).Nodup/\(∀x∈ids,st.has 3 x=true)/\N.length=n/\A.heap.size=rg):=⟨ar,B4,Y.o.2.2.2,ag,hC.len,ad⟩
   clear J4 hC aA B4 ag aj ar O5 B5 Y ad;go_wp2_with fail;clear aC;go_loopg[46] n (λ k v wr=>∃i:Nat,v=Ab Ak i/\i+k=n/\Hid (∃vs,RL rg A wr n xs vs (F1 st (a++xs) i)/\∀x∈xs.take i,∀p∈(st.com x).ps,p∈a++xs))
   case atStart=>exact⟨0,rfl,by omega,L1.o⟩
   case round =>
    obtain⟨i,rfl,hi,HR⟩:=hrel;clear L1;obtain⟨vs,hV⟩:=HR.o;have D:Hid (RL rg A wr n xs vs (F1 st (a++xs) i)/\∀x∈xs.take i,∀p∈(st.com x).ps,p∈a++xs):=hV;clear HR hV;have l:Hid (RB A wr s b st S m (a++xs) ra xs gc N ba bvs):=L.o.1.below (by rw[L.o.2.2.2.2.2];exact D.o.1.bel);by_cases ac:i<n
    ·have id:(i:Int)<(n:Int):=by omega
     have aN:(0:Int)<=(i:Int):=by omega
     obtain⟨x,I⟩:∃x,xs[i]? = some x:=⟨_,Aq (by rw[H.o.2.2.2.2.2.2.2.2];exact ac)⟩
     obtain⟨cv,O⟩:∃cv,N[i]? = some cv:=⟨_,Aq (by rw[L.o.2.2.2.2.1];exact ac)⟩
     have C:=l.o.at_ i cv x O I;obtain⟨c0,c1,c2,c3⟩:=l.o.com.coms O;rw[C9]at c0 c1 c2 c3;obtain⟨xb,xo,rfl,_⟩:=l.o.ids.some_of I;obtain⟨U,J,F,E,f,cnt⟩:=cv;simp only at c0 c1 c2 c3
     obtain⟨T,t⟩:=Xb (wr.alloc (Ai #[Ab Al (U.toNat:Int),Aa J F E,Ab Ak f,tx cnt] 58))
     obtain⟨Z,hZ⟩:=Xa wr.heap.size
     have V:T.heap[Z]? = some (Ai #[Ab Al (U.toNat:Int),Aa J F E,Ab Ak f,tx cnt] 58 (0,0)):=by
      rw[t,<- hZ];exact heap_alloc_new _ _
     have M:Hid (An wr.heap.size wr T):=by rw[t];exact bz1 _ _
     have aE:=Zie (tree:=U) (pc:=E) (date:=f) (note:=cnt) (l.o.map.turned (S:=λ _=>False) (Zaa.ofBelow M.o) (λ q=>q)) (C.rd.below M.o) C.len (by have h8:=Zg3 st x;have h9:(st.com x).ps.length=F:=C.len;show F<=1000000;omega)
     have W:Hid (xs[i]? = some x/\U=(st.com x).tree/\f=(st.com x).date/\T.heap[Z]? = some (Ai #[Ab Al (U.toNat:Int),Aa J F E,Ab Ak f,tx cnt] 58 (0,0))/\wr.heap.size=Z):=⟨I,C.tree,C.date,V,hZ⟩
     have z0:T.cell? ⟨Z,0,none⟩=some (Ab Al (U.toNat:Int)):=by simp[BC,V]
     have z1:T.cell? ⟨Z,1,none⟩=some (Aa J F E):=by simp[BC,V]
     have z2:T.cell? ⟨Z,2,none⟩=some (Ab Ak f):=by simp[BC,V]
     have z3:T.cell? ⟨Z,3,none⟩=some (tx cnt):=by simp[BC,V]
     clear I O C V
     go_upto_region 13 with fail
     rw[<- t];clear t hZ c0 c1 c2 c3;go_wp2_with fail;refine aE.mono ?_;rintro e w6 ⟨pv,pr,rfl,J6⟩;clear aE z0 z1 z2 z3
     rcases J6.o.1 with⟨d,rfl,h3⟩ | ⟨d,rfl,rfl⟩
     rotate_left
     ·have B:Hid (∃vs R,st.told a G ids 14 R/\OwnG encL 63 w6 w.heap.size (Aa none 0 0) vs/\LvsO w6 w.heap.size vs R/\An w.heap.size w w6):=by
       refine⟨[],[],.open_ L.o.2.2.1 L.o.2.2.2.1 (λ q=>d (λ p hp=>?_)),OwnG.nil _ _ _ _,LvsO.nil _ _,?_⟩
       ·have hm:=List.mem_of_getElem? W.o.1;rw[<- H.o.2.2.2.2.2.2.2.1,ZaJ]at hm;rw[<- H.o.2.2.2.2.2.2.2.1];exact ZbL.2 (q x hm p hp)
       ·have b1:=D.o.1.bel;rw[<- L.o.2.2.2.2.2]at b1;have b2:=L.o.2.1.trans (b1.mono L.o.2.1.size);have b3:=b2.trans (M.o.mono b2.size);exact b3.trans (J6.o.2.mono b3.size)
      clear J6 d;go_wp2_with fail;refine As (AA rfl _ _ _) rfl ?_;exact⟨_,_,rfl,B.o⟩
     ·have B6:Hid (An wr.heap.size wr w6):=M.o.trans (J6.o.2.mono M.o.size);have ak:w6.heap[Z]? = some (Ai #[Ab Al (U.toNat:Int),Aa J F E,Ab Ak f,tx cnt] 58 (0,0)):=(J6.o.2.block Z (Array.getElem?_eq_some_iff.1 W.o.2.2.2.1).1).trans W.o.2.2.2.1
      have z0:w6.cell? ⟨Z,0,none⟩=some (Ab Al (U.toNat:Int)):=by simp[BC,ak]
      have z2:w6.cell? ⟨Z,2,none⟩=some (Ab Ak f):=by simp[BC,ak]
      have aM:=((l.o.below B6.o).ids.nums W.o.1).2;obtain⟨pa,pc,rfl,q1,q2,q3,_⟩:=h3.form
      have an:(pps (a++xs) (st.com x).ps).length=(st.com x).ps.length:=by unfold pps;rw[AQ]
      rw[an];rw[an]at h3
      obtain⟨pn,X⟩:=Xa ((st.com x).ps.length)
      rw[X];rw[X]at h3;have ab:=D.o.1.below B6.o
      have aq:LvO w6 rg ⟨x,U,f,pa,pn,pc,0,none,0,0⟩ (rowO st (a++xs) x):=⟨rfl,W.o.2.1,W.o.2.2.1,rfl,h3.low (AZ (CD D.o.1.lt) M.o.size),OwnG.nil _ _ _ _⟩
      have ai:=ab.put ac aq;have K:=ab.own.there (i:=i) (by rw[ab.len];exact ac) 6 rfl (i*6) rfl
      have B:Hid (∃vs,RL rg A (layL w6 rg [Ab Al (x.toNat:Int),Ab Al (U.toNat:Int),Ab Ak f,Aa pa pn pc,Ab Ak 0,Aa none 0 0] (i*6)).drew n xs vs (F1 st (a++xs) (i+1))/\∀x∈xs.take (i+1),∀p∈(st.com x).ps,p∈a++xs):=by
       refine⟨_,(ai.cast (λ j y hj hy=>?_)).below (Below.refl _ _).drew,λ y hy=>?_⟩
       ·unfold F1;by_cases e:j=i
        ·subst e;rw[AE rfl,AE (by omega)];rw[W.o.1]at hy;cases hy
         rfl
        ·rw[Aw e];by_cases e2:j<i
         ·rw[AE e2,AE (by omega)]
         ·rw[Aw e2,Aw (by omega)]
       ·rw[List.take_add_one,W.o.1]at hy
        rcases AK.1 hy with q|q
        ·exact D.o.2 y q
        ·have q':y=x:=by simpa using q
         rw[q'];exact d
      have TH:Hid (w6.there rg (i*6) 6):=K;obtain⟨t0,f0⟩:=K 0 (by decide);obtain⟨t1,f1⟩:=K 1 (by decide);obtain⟨t2,f2⟩:=K 2 (by decide);obtain⟨t3,f3⟩:=K 3 (by decide);obtain⟨t4,f4⟩:=K 4 (by decide);obtain⟨t5,f5⟩:=K 5 (by decide);obtain⟨k0,t0⟩:=BP.1 t0;obtain⟨k1,t1⟩:=BP.1 t1;obtain⟨k2,t2⟩:=BP.1 t2;obtain⟨k3,t3⟩:=BP.1 t3;obtain⟨k4,t4⟩:=BP.1 t4;obtain⟨k5,t5⟩:=BP.1 t5;rw[Nat.add_zero]at t0 f0;clear J6 d h3 ak q1 q2 q3 an X ab aq ai K
      go_upto_region 16 with fail
      go_region;go_wp2_with fail;go_roundg (gk - 1)
      case measure=>omega
      case rel=>exact⟨i+1,by go_num,by omega,B.o⟩
    ·obtain rfl:i=n:=by omega
     have id:¬(i:Int)<(i:Int):=by omega
     have aI:xs.take i=xs:=Av (by rw[H.o.2.2.2.2.2.2.2.2];exact Az _)
     have P:st.free a ids:=⟨L.o.2.2.1,L.o.2.2.2.1,λ x I p hp=>by
      have d:=D.o.2 x (by rw[aI,<- H.o.2.2.2.2.2.2.2.1,ZaJ];exact I) p hp;rw[<- H.o.2.2.2.2.2.2.2.1]at d
      exact ZbL.1 d⟩
     obtain⟨aF,al⟩:=HG.o P
     have Q:(st.pss (a++xs) xs).length=i:=by unfold St.pss;rw[AQ];exact H.o.2.2.2.2.2.2.2.2
     have aB:G.length=i:=by rw[al.len];exact Q
     have ap:∀(j:Nat) (v:LV),vs[j]? = some v->∃x,xs[j]? = some x/\LvO wr rg v (rowO st (a++xs) x):=by
      intro j v hv
      have hj:j<i:=by
       have:=(AC.1 hv).1;rw[D.o.1.len]at this;exact this
      obtain⟨x,I⟩:∃x,xs[j]? = some x:=⟨_,Aq (by rw[H.o.2.2.2.2.2.2.2.2];exact hj)⟩
      have:=D.o.1.at_ j v _ hv I;unfold F1 at this;rw[AE hj]at this;exact⟨_,I,this⟩
     have aG:=Zj8 (bc:=bc) l.o.bel H.o.2.2.1 H.o.2.2.2.1 D.o.1.own (λ v hv=>by
      obtain⟨j,hj,e⟩:=List.getElem_of_mem hv;obtain⟨x,_,q⟩:=ap j v (by rw[Aq hj,e])
      exact q.gen) (λ j v ps d h2=>by
      obtain⟨x,I,q⟩:=ap j v d;unfold St.pss at h2;rw[List.getElem?_map,I]at h2
      have e:pps (a++xs) (st.com x).ps=ps:=by simpa using h2
      have hl:(pps (a++xs) (st.com x).ps).length=v.pn:=Zam q.ps
      have aL:(pps (a++xs) (st.com x).ps).length<=8:=by unfold pps;rw[AQ];exact Zg3 st x
      rw[<- e]
      exact⟨hl,by omega,λ u hu=>(q.stays hu D.o.1.noIB).ps.rdc.1⟩) Q aF al (by omega)
     have HK:Hid (RL rg A wr i xs vs (F1 st (a++xs) i)/\st.free a ids/\G.length=i):=⟨D.o.1,P,aB⟩
     clear aI P aF al Q aB ap D;go_wp2_with fail;refine aG.mono ?_;rintro e w7 ⟨rfl,J7⟩;clear aG
     have L2:Hid (∃vs,RL rg A w7 i xs vs (F2 st (a++xs) G 0)):=by
      have hK:=HK.o.1;refine⟨_,⟨J7.o.1,hK.bel.trans (J7.o.2.below (CD hK.lt) (λ k hk e=>by have e':k=rg:=e;omega)),hK.size,λ j v x d h2=>?_⟩⟩
      have hj:j<i:=by
       have:=(AC.1 d).1;rw[ZnV (by rw[HK.o.2.2,hK.len]),hK.len]at this;exact this
      obtain⟨v0,hv⟩:∃v0,vs[j]? = some v0:=⟨_,Aq (by rw[hK.len];exact hj)⟩
      obtain⟨g,hg⟩:∃g,G[j]? = some g:=⟨_,Aq (by rw[HK.o.2.2];exact hj)⟩
      rw[Zdy hv hg]at d;cases d;have:=((hK.at_ j _ x hv h2).stays J7.o.2 hK.noIB).regen g;unfold F1 at this;rw[AE hj]at this;unfold F2;rw[Aw (DC _),List.getD,hg];exact this
     clear J7;go_wp2_with fail;go_loopg[79] i (λ k v wr=>∃j:Nat,v=Ab Ak j/\j+k=i/\Hid (∃vs,RL rg A wr i xs vs (F2 st (a++xs) G j)))
     case atStart=>exact⟨0,rfl,by omega,L2.o⟩
     case round =>
      obtain⟨j,rfl,hj,HR⟩:=hrel;clear L2 l;obtain⟨af,hV⟩:=HR.o;have D:Hid (RL rg A wr i xs af (F2 st (a++xs) G j)):=hV;clear HR hV;have l:Hid (RB A wr s b st S m (a++xs) ra xs gc N ba bvs):=L.o.1.below (by rw[L.o.2.2.2.2.2];exact D.o.bel);by_cases am:j<i
      ·have jd:(j:Int)<(i:Int):=by omega
       have aO:(0:Int)<=(j:Int):=by omega
       obtain⟨x,I⟩:∃x,xs[j]? = some x:=⟨_,Aq (by rw[H.o.2.2.2.2.2.2.2.2];exact am)⟩
       obtain⟨cv,O⟩:∃cv,N[j]? = some cv:=⟨_,Aq (by rw[L.o.2.2.2.2.1];exact am)⟩
       have C:=l.o.at_ j cv x O I;obtain⟨c0,c1,c2,c3⟩:=l.o.com.coms O;rw[C9]at c0 c1 c2 c3;obtain⟨U,J,F,E,f,cnt⟩:=cv;simp only at c0 c1 c2 c3
       obtain⟨T,t⟩:=Xb (wr.alloc (Ai #[Ab Al (U.toNat:Int),Aa J F E,Ab Ak f,tx cnt] 58))
       obtain⟨Z,hZ⟩:=Xa wr.heap.size
       have z0:T.cell? ⟨Z,0,none⟩=some (Ab Al (U.toNat:Int)):=by rw[t,<- hZ];simp
       have z1:T.cell? ⟨Z,1,none⟩=some (Aa J F E):=by rw[t,<- hZ];simp
       have z2:T.cell? ⟨Z,2,none⟩=some (Ab Ak f):=by rw[t,<- hZ];simp
       have z3:T.cell? ⟨Z,3,none⟩=some (tx cnt):=by rw[t,<- hZ];simp
       have M:Hid (An wr.heap.size wr T):=by rw[t];exact bz1 _ _
       have ay:=ZmI (pc:=E) (dt:=f) (nt:=cnt) (l.o.sto.below M.o) (C.rd.below M.o) C.len C.tree.symm
       obtain⟨v,hv⟩:∃v,af[j]? = some v:=⟨_,Aq (by rw[D.o.len];exact am)⟩
       have W:Hid (xs[j]? = some x/\af[j]? = some v):=⟨I,hv⟩
       clear I O C hv
       go_upto_region 22 with fail
       rw[<- t];clear t hZ c0 c1 c2 c3;go_wp2_with fail;refine ay.mono ?_;rintro e w8 ⟨fv,rfl,J8⟩;clear ay z0 z1 z2 z3;obtain⟨fa,fc,rfl,_,_,_,_⟩:=J8.o.1.form
       obtain⟨fn,az⟩:=Xa ((st.fil (st.com x)).length)
       rw[az]at J8 ⊢;clear az;have B8:Hid (An wr.heap.size wr w8):=M.o.trans (J8.o.2.mono M.o.size);obtain⟨⟨z,hz⟩,f5,aK,hF⟩:=(D.o.below B8.o).fil W.o.2 W.o.1 (J8.o.1.low (AZ (CD D.o.lt) M.o.size))
       have B:Hid (∃vs,RL rg A (w8.setCell ⟨rg,j*6+5,none⟩ (Aa fa fn fc)) i xs vs (F2 st (a++xs) G (j+1))):=by
        refine⟨aK,hF.cast (λ q y hq hy=>?_)⟩;unfold F2;by_cases e:q=j
        ·subst e;rw[AE rfl,Aw (Nat.lt_irrefl _),AE (by omega)];rw[W.o.1]at hy;cases hy
         rfl
        ·rw[Aw e];by_cases e2:q<j
         ·rw[AE e2,AE (by omega)]
         ·rw[Aw e2,Aw (by omega)]
       clear J8 hF;go_wp2_with fail;go_roundg (gk - 1)
       case measure=>omega
       case rel=>exact⟨j+1,by go_num,by omega,B.o⟩
      ·obtain rfl:j=i:=by omega
       have jd:¬(j:Int)<(j:Int):=by omega
       have B:Hid (∃vs R,st.told a G ids 0 R/\OwnG encL 63 wr w.heap.size (Aa (some ⟨rg,0,none⟩) j j) vs/\LvsO wr w.heap.size vs R/\An w.heap.size w wr):=by
        have ao:w.heap.size<=rg:=by rw[<- L.o.2.2.2.2.2];exact L.o.2.1.size
        have ht:=St.told.rows (G:=G) HK.o.2.1;rw[H.o.2.2.2.2.2.2.2.1]at ht;exact⟨af,_,ht,D.o.own.low ao,(D.o.done H.o.2.2.2.2.2.2.2.2 HK.o.2.2).low ao,L.o.2.1.trans (D.o.bel.mono ao)⟩
       clear D l;go_wp2;refine As (AA rfl _ _ _) rfl ?_;exact⟨_,_,rfl,B.o⟩
theorem Zfl(st:St)(d:Dk)(k:Int)(b:Bs)(h:k≠4)(i:k≠5):
  (oget st.objs k (oid k b)=some b/\sput st d k b=((st,d),oid k b,0)) ∨
  (∃e,e≠0/\(sput st d k b).2.2=e/\(sput st d k b).1.1=st/\((sput st d k b).1.2=d∨(sput st d k b).1.2=(dapp d fileN (fseal (k,b)).1).1)) ∨
  (oget st.objs k (oid k b)=none/\sput st d k b=(({ st with objs:=st.objs++[⟨k,oid k b,b⟩] },(dapp d fileN (fseal (k,b)).1).1),oid k b,0)):=by
 cases e:oget st.objs k (oid k b)with
 | some f =>
  by_cases g:f=b
  ·subst g
   left
   refine⟨rfl,?_⟩;unfold sput;rw[e];simp
  ·right;left
   refine⟨13,by decide,?_⟩;unfold sput;rw[e];simp[g]
 | none =>
  by_cases a:oid k b=0
  ·right;left
   refine⟨13,by decide,?_⟩;unfold sput;rw[e];simp[a]
  ·by_cases c:(dapp d fileN (fseal (k,b)).1).2=0
   ·right;right
    refine⟨rfl,?_⟩;unfold sput;rw[e];simp only[a,Eg];unfold sapp;simp only[c,Fa];unfold St.take;simp[h,i]
   ·right;left
    refine⟨(dapp d fileN (fseal (k,b)).1).2,c,?_⟩;unfold sput;rw[e];simp only[a,Eg];unfold sapp;simp[c]
theorem Zlk{l:List Ob}{o:Ob}(h:oget l k i=some b):oget (l++[o]) k i=some b:=by
 rw[Za4,h]
theorem ZnF(f:k≠4)(i:k≠5)(h:(sput st d k b).2.2=0):oget (sput st d k b).1.1.objs k (oid k b)=some b/\(sput st d k b).2.1=oid k b:=by
 rcases Zfl st d k b f i with⟨g,e⟩ | ⟨e,c,a,_⟩ | ⟨g,e⟩
 ·rw[e];exact⟨g,rfl⟩
 ·rw[h]at a;exact absurd a.symm c
 ·rw[e];refine⟨?_,rfl⟩;show oget (st.objs++[⟨k,oid k b,b⟩]) k (oid k b)=some b;rw[Za4,g];simp
theorem ZlB:st.has k i=true↔∃b,oget st.objs k i=some b:=by
 unfold St.has;rw[BP]
structure More(st st':St)(d d':Dk):Prop where
 size:st'.size<=st.size+1
 writes:d'.writes<=d.writes+1
 ok:d.ok->d'.ok
theorem More.same(st:St)(d:Dk):More st st d d:=⟨by omega,by omega,λ h=>h⟩
theorem Zev(st:St)(d:Dk)(k:Int)(b:Bs)(c:k≠4)(f:k≠5):More st (sput st d k b).1.1 d (sput st d k b).1.2:=by
 have wr:(dapp d fileN (fseal (k,b)).1).1.writes<=d.writes+1:=ZoX _ _ _ _
 rcases Zfl st d k b c f with⟨_,e⟩ | ⟨_,_,_,e,a|a⟩ | ⟨_,e⟩
 ·rw[e];exact More.same _ _
 ·rw[e,a];exact More.same _ _
 ·rw[e,a];exact⟨by omega,wr,λ h=>ZlY h _ _⟩
 ·rw[e];refine⟨?_,wr,λ h=>ZlY h _ _⟩;unfold St.size;simp;omega
theorem ZjF(st:St)(d:Dk)(b:Bs):More st (sblob st d b).1.1 d (sblob st d b).1.2:=by
 unfold sblob
 split
 ·exact More.same _ _
 ·exact Zev st d 1 b (by decide) (by decide)
theorem ZkF(st:St)(d:Dk)(es:List En):More st (stree st d es).1.1 d (stree st d es).1.2:=by
 unfold stree
 split
 ·exact More.same _ _
 ·split
  ·exact More.same _ _
  ·exact Zev st d 2 _ (by decide) (by decide)
theorem Zk8(st:St)(d:Dk)(c:Cm):More st (scom st d c).1.1 d (scom st d c).1.2:=by
 unfold scom
 split
 ·exact More.same _ _
 ·split
  ·exact More.same _ _
  ·exact Zev st d 3 _ (by decide) (by decide)
theorem Zf2(h:st.ok)(a:st.fits f=true)(b:f.2.length<=8192):(sapp st d f).1.ok:=by
 unfold sapp;simp only
 split
 ·exact Zpn h a b
 ·exact h
theorem ZdR(h:st.ok):More st (sapp st d f).1 d (sapp st d f).2.1:=by
 have wr:(dapp d fileN (fseal f).1).1.writes<=d.writes+1:=ZoX _ _ _ _;refine⟨?_,wr,λ q=>ZlY q _ _⟩;unfold sapp;simp only
 split
 ·exact Zmt h
 ·omega
theorem ZhZ(h:st.ok)(j:k=1∨k=2∨k=3)(g:st.right (k,b)=true)(f:b.length<=8192):(sput st d k b).1.1.ok:=by
 unfold sput
 cases e:oget st.objs k (oid k b)with
 | some i =>
  simp only
  split <;> exact h
 | none =>
  simp only
  split
  ·exact h
  ·rename_i a
   refine Zf2 h ?_ f;unfold St.fits;rw[Aw (by show ¬(k=4∨k=5);omega),g]
   have c:st.has k (oid k b)=false:=by
    unfold St.has;rw[e]
    rfl
   simp[a,c]
theorem Zn2(h:st.ok):(sblob st d b).1.1.ok:=by
 unfold sblob
 split
 ·exact h
 ·exact ZhZ h (.inl rfl) (by unfold St.right;rw[AE rfl];simp;omega) (by omega)
theorem Znq(h:st.ok):(stree st d es).1.1.ok:=by
 unfold stree
 split
 ·exact h
 ·rename_i c
  split
  ·exact h
  ·rename_i e
   obtain⟨a,b⟩:=Zda (by simpa using c);rw[b];refine ZhZ h (.inr (.inl rfl)) ?_ (Zdd a);unfold St.right;rw[Aw (by show ¬(2:Int)=1;omega),AE rfl];simp only[ZcA a];simpa using e
theorem Zps{c:Cm}(h:st.ok):(scom st d c).1.1.ok:=by
 unfold scom
 split
 ·exact h
 ·rename_i e
  split
  ·exact h
  ·rename_i f
   obtain⟨a,b⟩:=ZcK (by simpa using e);rw[b]
   refine ZhZ h (.inr (.inr rfl)) ?_ (by
    have g:=(Zb6 a).2.1;have i:=Zbj a
    omega)
   unfold St.right;rw[Aw (by show ¬(3:Int)=1;omega),Aw (by show ¬(3:Int)=2;omega),AE rfl];simp only[ZcL a];simpa using f
theorem Zg9(d:st.ok)(c:isName n=true)(a:st.has 3 i=true):st.fits (4,labB i n)=true:=by
 have b:i≠0:=by
  intro e;rw[e,ZdB d]at a;cases a
 unfold St.fits;rw[AE (.inl rfl)];simp[ZbK,ZbN,Zax,c,a,b]
theorem Zby(i:UInt64)(h:isName n=true):(labB i n).length<=8192:=by
 rw[Zax];have:=ZbO h;omega
theorem Zln(h:st.ok):(sref st d n i).1.ok/\More st (sref st d n i).1 d (sref st d n i).2.1:=by
 unfold sref
 split
 ·exact⟨h,More.same _ _⟩
 ·rename_i b
  split
  ·exact⟨h,More.same _ _⟩
  ·rename_i c
   have a:isName n=true:=by simpa using b
   exact⟨Zf2 h (Zg9 h a (by simpa using c)) (Zby i a),ZdR h⟩
theorem Zl0(h:st.ok):(stag st d n i).1.ok/\More st (stag st d n i).1 d (stag st d n i).2.1:=by
 unfold stag
 split
 ·exact⟨h,More.same _ _⟩
 ·rename_i e
  split
  ·exact⟨h,More.same _ _⟩
  ·rename_i f
   split
   ·exact⟨h,More.same _ _⟩
   ·rename_i g
    have a:isName n=true:=by simpa using e
    have b:st.has 3 i=true:=by simpa using f
    have c:(nget st.tags n).isSome=false:=by simpa using g
    refine⟨Zf2 h ?_ (Zby i a),ZdR h⟩;unfold St.fits;rw[AE (.inr rfl)];simp[ZbK,ZbN,Zax,a,b,c]
theorem Zjc(h:st.ok):(sdrop st d n).1.ok/\More st (sdrop st d n).1 d (sdrop st d n).2.1:=by
 unfold sdrop
 split
 ·exact⟨h,More.same _ _⟩
 ·rename_i c
  split
  ·exact⟨h,More.same _ _⟩
  ·rename_i e
   have a:isName n=true:=by simpa using c
   have b:(nget st.refs n).isSome=true:=by
    cases q:(nget st.refs n).isSome with
    | true=>rfl
    | false=>exact absurd q e
   refine⟨Zf2 h ?_ (Zby 0 a),ZdR h⟩;unfold St.fits;rw[AE (.inl rfl)];simp[ZbK,ZbN,Zax,a,b]
structure Wd where
 st:St
 d:Dk
 bl:List UInt64
 tl:List UInt64
 cl:List UInt64
variable{v:Wd}
structure Ac where
 k:Int
 data:Bs
 ps:List Bs
 qs:List Int
 nm:Bs
 dt:Int
def wstep(a:Ac)(v:Wd):Wd :=
 if a.k=0 then⟨(sblob v.st v.d a.data).1.1,(sblob v.st v.d a.data).1.2,if(sblob v.st v.d a.data).2.2=0 then v.bl++[(sblob v.st v.d a.data).2.1]else v.bl,v.tl,v.cl⟩
 else if a.k=1 then⟨(stree v.st v.d (aents a.ps a.qs v.bl)).1.1,(stree v.st v.d (aents a.ps a.qs v.bl)).1.2,v.bl,if(stree v.st v.d (aents a.ps a.qs v.bl)).2.2=0 then v.tl++[(stree v.st v.d (aents a.ps a.qs v.bl)).2.1]else v.tl,v.cl⟩
 else if a.k=2 then⟨(scom v.st v.d (anode a.data a.qs a.dt v.tl v.cl)).1.1,(scom v.st v.d (anode a.data a.qs a.dt v.tl v.cl)).1.2,v.bl,v.tl,if(scom v.st v.d (anode a.data a.qs a.dt v.tl v.cl)).2.2=0 then v.cl++[(scom v.st v.d (anode a.data a.qs a.dt v.tl v.cl)).2.1]else v.cl⟩
 else if a.k=3 then⟨(sref v.st v.d a.nm (pickU v.cl (pickI a.qs 0))).1,(sref v.st v.d a.nm (pickU v.cl (pickI a.qs 0))).2.1,v.bl,v.tl,v.cl⟩
 else if a.k=4 then⟨(stag v.st v.d a.nm (pickU v.cl (pickI a.qs 0))).1,(stag v.st v.d a.nm (pickU v.cl (pickI a.qs 0))).2.1,v.bl,v.tl,v.cl⟩
 else if a.k=5 then⟨(sdrop v.st v.d a.nm).1,(sdrop v.st v.d a.nm).2.1,v.bl,v.tl,v.cl⟩
 else v
structure Wd.fine(v:Wd)(n:Nat):Prop where
 st:v.st.ok
 d:v.d.ok
 writes:v.d.writes<=n
 size:v.st.size<=n
 bl:v.bl.length<=n
 tl:v.tl.length<=n
 cl:v.cl.length<=n
theorem ZfW{xs:List UInt64}{x:UInt64}{p:Prop}[Decidable p]{n:Nat}(h:xs.length<=n):(if p then xs++[x]else xs).length<=n+1:=by
 split
 ·simp;omega
 ·omega
theorem Wd.fine.more{n:Nat}(h:v.fine n):v.fine (n+1):=⟨h.st,h.d,by have:=h.writes;omega,by have:=h.size;omega,by have:=h.bl;omega,by have:=h.tl;omega,by have:=h.cl;omega⟩
theorem Wd.fine.step{n:Nat}(h:v.fine n)(a:Ac):(wstep a v).fine (n+1):=by
 have i:=h.bl;have k:=h.tl;have j:=h.cl;have p:=h.writes;have o:=h.size
 have l:∀{g:St} {d':Dk},g.ok->More v.st g v.d d'->g.ok/\d'.ok/\d'.writes<=n+1/\g.size<=n+1:=by
  intro g d' q m;exact⟨q,m.ok h.d,by have:=m.writes;omega,by have:=m.size;omega⟩
 unfold wstep
 split
 ·obtain⟨b,c,e,f⟩:=l (Zn2 h.st) (ZjF v.st v.d a.data);exact⟨b,c,e,f,ZfW i,BZ k,BZ j⟩
 ·split
  ·obtain⟨b,c,e,f⟩:=l (Znq h.st) (ZkF v.st v.d (aents a.ps a.qs v.bl));exact⟨b,c,e,f,BZ i,ZfW k,BZ j⟩
  ·split
   ·obtain⟨b,c,e,f⟩:=l (Zps h.st) (Zk8 v.st v.d (anode a.data a.qs a.dt v.tl v.cl));exact⟨b,c,e,f,BZ i,BZ k,ZfW j⟩
   ·split
    ·obtain⟨b,c,e,f⟩:=l (Zln h.st).1 (Zln h.st).2;exact⟨b,c,e,f,BZ i,BZ k,BZ j⟩
    ·split
     ·obtain⟨b,c,e,f⟩:=l (Zl0 h.st).1 (Zl0 h.st).2;exact⟨b,c,e,f,BZ i,BZ k,BZ j⟩
     ·split
      ·obtain⟨b,c,e,f⟩:=l (Zjc h.st).1 (Zjc h.st).2;exact⟨b,c,e,f,BZ i,BZ k,BZ j⟩
      ·exact h.more
theorem ZfP{B:Nat}{W w5 w7:Ap}{v5 v18 v7:Ar}{xs ys:Bs}(h5:OwnG encB 5 w5 B v5 xs)(hb5:An B W w5)(T:∀k,v18.ownBlock=some k->¬v5.ownBlock=some k)(ho7:OwnG encB 5 w7 B v7 ys)(hb7:An B w5 w7)(_hm7:ZaP w5 v18 v7)(ht7:Zaa (λ k=>v18.ownBlock=some k) w5 w7):
  OwnG encB 5 w7 B v5 xs/\OwnG encB 5 w7 B v7 ys/\An B W w7 :=
 ⟨h5.stays ht7 (λ g hg q=>T g q hg),ho7,hb5.trans hb7⟩
theorem OwnB.of{v:Ar}{bs:Bs}(h:OwnG encB 5 w B v bs):BAt w v bs:=OwnB.at (OwnG.low h (Nat.zero_le _))
theorem Zll{b:Nat}{xa R V da:Option Addr}{fl xn T S dn dc:Nat}{U:Nat->Prop}{data:Bs}
  (hI:WI B E w s b (Aa fa fl fc) (Aa oa on oc) (Aa ra rn rc) (Aa ta tn tc) (Aa xa xn xc) (Aa R T S) (Aa V Z zc) U st d bl tl cl) (h0:An B w0 w) (ap:w0.heap.size=B) (hB:B<=w.heap.size) (hd:BAt w0 (Aa da dn dc) data) (av:data.length=dn) (aD:dn<=140737488355328) (az:d.ok) (hw:d.writes<=1000000) (aA:st.size<=1000000) (pv qv:Ar) (nm:ByteArray) (dt kp:Int) (Q) (hQ:sblob st d data=Q) (am:List UInt64) (al:am=if Q.2.2=0 then bl++[Q.2.1]else bl) (aq:bl.length<=1000000) :
  At Am 26 #[Ag (wdV s b d (Aa fa fl fc) (Aa oa on oc) (Aa ra rn rc) (Aa ta tn tc) (Aa xa xn xc) (Aa R T S) (Aa V Z zc)),actV 0 (Aa da dn dc) pv qv nm dt kp] w λ e w'=>∃vf vo vr vt xb,e=Aj (Af #[Ag (wdV s b Q.1.2 vf vo vr vt xb (Aa R T S) (Aa V Z zc)),Ad true])/\Hid (∃U',WI B E w' s b vf vo vr vt xb (Aa R T S) (Aa V Z zc) U' Q.1.1 Q.1.2 am tl cl/\An B w0 w'/\(∀i,E i->w'.heap[i]? = w.heap[i]?)/\OwnG encU 44 w' B (Aa xa xn xc) bl):=by
 obtain⟨W,hW⟩:=Xa (((w.alloc (Ai (wdV s b d (Aa fa fl fc) (Aa oa on oc) (Aa ra rn rc) (Aa ta tn tc) (Aa xa xn xc) (Aa R T S) (Aa V Z zc)) 36)).alloc (Ai (actC 0 (Aa da dn dc) pv qv nm dt kp) 81)).alloc (Ai zeroW 36))
 have bW:An w.heap.size w W:=by rw[<- hW];exact bz3 _ _ _ _
 have z:Bx w.heap.size W (wdV s b d (Aa fa fl fc) (Aa oa on oc) (Aa ra rn rc) (Aa ta tn tc) (Aa xa xn xc) (Aa R T S) (Aa V Z zc)) (actC 0 (Aa da dn dc) pv qv nm dt kp):=by rw[<- hW];exact Bx.new _ _ _
 have MD:Hid (Md B w.heap.size E (λ i=>Fb w.heap.size i∨E i) w0 w W s b (Aa fa fl fc) (Aa oa on oc) (Aa ra rn rc) (Aa ta tn tc) (Aa xa xn xc) (Aa R T S) (Aa V Z zc) U st d bl tl cl (wdV s b d (Aa fa fl fc) (Aa oa on oc) (Aa ra rn rc) (Aa ta tn tc) (Aa xa xn xc) (Aa R T S) (Aa V Z zc)) (actC 0 (Aa da dn dc) pv qv nm dt kp)):=Md.start hI h0 hB z bW
 obtain⟨k,hk⟩:=Xa (dn / 2)
 obtain⟨m,hm⟩:=Xa (dn - k)
 have aj:k<=dn:=by omega
 have ar:BAt W (Aa da dn dc) data:=(hd.below (by rw[ap];exact MD.o.bel))
 have au:dn<=dc:=by
  obtain⟨ao,c,e,h1,_⟩:=ar;cases e;omega
 have aw:RdG encB W da data:=by
  obtain⟨ao,c,e,h1,h2,h3⟩:=ar;cases e;exact h3
 obtain⟨a1,c1,aQ,o1,o2,aH⟩:=ZfC (ao:=da) au aj;obtain⟨a2,c2,aJ,o3,o4,aI⟩:=ZfM (ao:=da) au aj;rw[hm]at aJ o3
 have H:Hid (RdG encB W a1 (data.take k)/\RdG encB W a2 (data.drop k)/\(data.take k).length=k/\(data.drop k).length=m):=⟨aH _ _ aw,aI _ _ av aw,by rw[AM];omega,by rw[By];omega⟩
 have HK:Hid (k<=dn/\dn - k=m/\dn<=140737488355328):=⟨aj,hm,aD⟩
 have KS:Hid (∀u,An W.heap.size W u->u.cell? ⟨w.heap.size,1,none⟩=some (Ah (some ⟨s,0,none⟩))/\u.cell? ⟨w.heap.size+1,1,none⟩=some (Aa da dn dc)):=by
  intro u bu;exact⟨(z.box.below bu z.box.lt).cell (j:=1) rfl,(z.act.below bu z.act.lt).cell (j:=1) rfl⟩
 have BL:Hid (∀u,An W.heap.size W u->∀v1 v2,OwnG encB 5 u W.heap.size v1 (data.take k)->OwnG encB 5 u W.heap.size v2 (data.drop k)->At Am 61 #[Ah (some ⟨s,0,none⟩),Aa (some ⟨u.heap.size,0,none⟩) 2 2] (u.alloc (Ai #[v1,v2] 61)) λ e w'=>∃i r,e=Aj (Af #[Ab Al i,Ab Ak r])/\Hid (i=(Q.2.1.toNat:Int)/\r=Q.2.2/\Duo w' s b Q.1.1 Q.1.2 (ZaA U (u.alloc (Ai #[v1,v2] 61)) w')/\Zaa U (u.alloc (Ai #[v1,v2] 61)) w')):=by
  intro u bu v1 v2 q1 q2
  have h:=Znl (U:=U) ((MD.o.inv.duo.below bu).below (bz1 u (Ai #[v1,v2] 61))) (ZgB (OwnB.of q1) (OwnB.of q2) 61) (by simp) (by
   intro x hx;simp at hx
   rcases hx with rfl|rfl
   ·rw[AM];omega
   ·rw[By];omega) az hw (by unfold St.size at aA;omega)
  have e:[data.take k,data.drop k].flatten=data:=by simp
  rw[e,hQ]at h;exact h
 have KT:Hid (∀(u:Ap) (v1 v2:Ar) (w8:Ap),An W.heap.size W u->Zaa U (u.alloc (Ai #[v1,v2] 61)) w8->w8.cell? ⟨w.heap.size,1,none⟩=some (Ah (some ⟨s,0,none⟩))/\w8.cell? ⟨w.heap.size+1,1,none⟩=some (Aa da dn dc)):=by
  intro u v1 v2 w8 bu ht;have aM:=bu.trans ((bz1 u (Ai #[v1,v2] 61)).mono bu.size);have hx:=(z.below aM).turned ht (λ i q r=>MD.o.far i (.inl q) (.inl r));exact⟨hx.box.cell (j:=1) rfl,hx.act.cell (j:=1) rfl⟩
 have aP:((dn:Int)).tdiv 2=(k:Int):=by rw[<- hk];rfl
 have w1:Ak.wrap (k:Int)=(k:Int):=by rw[IntKind.wrap_i64];omega
 have y1:=z.act.cell (j:=0) rfl;have y2:=z.act.cell (j:=1) rfl;have y3:=z.box.cell (j:=1) rfl
 have HH:Hid (data.length=dn/\(∀u,An B w0 u->BAt u (Aa da dn dc) data)/\d.ok/\d.writes<=1000000/\st.size<=1000000/\sblob st d data=Q/\(am=if Q.2.2=0 then bl++[Q.2.1]else bl)/\bl.length<=1000000):=⟨av,λ u bu=>hd.below (by rw[ap];exact bu),az,hw,aA,hQ,al,aq⟩
 have aX:Hid (Bx w.heap.size W (wdV s b d (Aa fa fl fc) (Aa oa on oc) (Aa ra rn rc) (Aa ta tn tc) (Aa xa xn xc) (Aa R T S) (Aa V Z zc)) (actC 0 (Aa da dn dc) pv qv nm dt kp)):=z;clear hI h0 ap hB hd av ar aw aH aI az hw aA hQ al aq z bW au o1 o2 o3 o4 hk aj hm aD;go_enter func26,ntmps26
 go_upto_region 8 with fail
 clear hW;go_cut[8,6] (λ iv ev u=>∃v i8 r8,v=u/\iv=Ab Al i8/\ev=Ab Ak r8/\Hid (i8=(Q.2.1.toNat:Int)/\r8=Q.2.2/\∃U',Aft W u s b Q.1.1 Q.1.2 U U'))
 case first =>
  have k0:=KS.o W.drew (Below.refl _ _).drew;have k1:=KS.o (W.alloc (Ai #[] 5)).drew (bz1 W _).drew;have k2:=KS.o ((W.alloc (Ai #[] 5)).alloc (Ai #[] 5)).drew (bz2 W _ _).drew
  go_region_held3 (λ u=>u.cell? ⟨w.heap.size,1,none⟩=some (Ah (some ⟨s,0,none⟩))/\u.cell? ⟨w.heap.size+1,1,none⟩=some (Aa da dn dc)) (first | with_reducible exact k9 | with_reducible exact k8 | with_reducible exact k7 | with_reducible exact k6 | with_reducible exact k5 | with_reducible exact k2 | with_reducible exact k1 | with_reducible exact k0)
   (first
    | (go_at_call 61;(with_reducible refine HB.mono ?_);rintro e w8 ⟨i8,r8,rfl,H8⟩;have k9:=KT.o O (Aa a5 k c5) (Aa a7 m c7) w8 (Zah M.o.2.2) H8.o.2.2.2)
    | (refine Zbr encB 5 61 1 _ rfl Tryz.info5 underlying61 rfl (.tmp 33) (.tmp 37) rfl W.heap.size (Aa (some ⟨W.heap.size+1,0,none⟩) 0 0) [] (data.drop k) a2 m c2 ?_ ag.o.1 ?_ (H.o.2.1.below (Zah N.o.2)) H.o.2.2.2 (by have:=HK.o;simp;omega) (by have:=HK.o;simp only[AG,Cj];omega) N.o.2.size ?_;(· simp[A8]);(· simp[A8]);intro v7 O l ab ac ad;rw[Cr]at l;obtain⟨a7,c7,e7,_,_,_,_⟩:=l.form;rw[H.o.2.2.2]at e7;subst e7;have M:Hid (OwnG encB 5 O W.heap.size (Aa a5 k c5) (data.take k)/\OwnG encB 5 O W.heap.size (Aa a7 m c7) (data.drop k)/\An W.heap.size W.drew O):=ZfP N.o.1 N.o.2 ag.o.2 l ab ac ad;clear l ab ac ad;have k7:=KS.o O (Zah M.o.2.2);have k8:=KS.o _ (Zah (M.o.2.2.trans ((bz1 O (Ai #[Aa a5 k c5,Aa a7 m c7] 61)).mono M.o.2.2.size)));have HB:=BL.o O (Zah M.o.2.2) (Aa a5 k c5) (Aa a7 m c7) M.o.1 M.o.2.1)
    | (refine Zbr encB 5 61 1 _ rfl Tryz.info5 underlying61 rfl (.tmp 33) (.tmp 37) rfl W.heap.size (Aa (some ⟨W.heap.size,0,none⟩) 0 0) [] (data.drop k) a2 m c2 ?_ ag.o.1 ?_ (H.o.2.1.below (Zah N.o.2)) H.o.2.2.2 (by have:=HK.o;simp;omega) (by have:=HK.o;simp only[AG,Cj];omega) N.o.2.size ?_;(· simp[A8]);(· simp[A8]);intro v7 O l ab ac ad;rw[Cr]at l;obtain⟨a7,c7,e7,_,_,_,_⟩:=l.form;rw[H.o.2.2.2]at e7;subst e7;have M:Hid (OwnG encB 5 O W.heap.size (Aa a5 k c5) (data.take k)/\OwnG encB 5 O W.heap.size (Aa a7 m c7) (data.drop k)/\An W.heap.size W.drew O):=ZfP N.o.1 N.o.2 ag.o.2 l ab ac ad;clear l ab ac ad;have k7:=KS.o O (Zah M.o.2.2);have k8:=KS.o _ (Zah (M.o.2.2.trans ((bz1 O (Ai #[Aa a5 k c5,Aa a7 m c7] 61)).mono M.o.2.2.size)));have HB:=BL.o O (Zah M.o.2.2) (Aa a5 k c5) (Aa a7 m c7) M.o.1 M.o.2.1)
    | (refine Zbr encB 5 61 1 _ rfl Tryz.info5 underlying61 rfl (.tmp 33) (.tmp 37) rfl W.heap.size (Aa (some ⟨P.heap.size,0,none⟩) 0 0) [] (data.drop k) a2 m c2 ?_ (oz P W.heap.size N.o.2.size) ?_ ((H.o.2.1.below (Zah N.o.2)).below (bz1 P _)) H.o.2.2.2 (by have:=HK.o;simp;omega) (by have:=HK.o;simp only[AG,Cj];omega) (AZ N.o.2.size (by simp)) ?_;(· simp[A8]);(· simp[A8]);intro v7 O l ab ac ad;rw[Cr]at l;obtain⟨a7,c7,e7,_,_,_,_⟩:=l.form;rw[H.o.2.2.2]at e7;subst e7;have M:Hid (OwnG encB 5 O W.heap.size (Aa a5 k c5) (data.take k)/\OwnG encB 5 O W.heap.size (Aa a7 m c7) (data.drop k)/\An W.heap.size W.drew O):=ZfP (N.o.1.below (bz1 P _)) (N.o.2.trans ((bz1 P _).mono N.o.2.size)) (λ g q hg=>by have h1:=(N.o.1.lt g hg).2;have h2:some P.heap.size=some g:=q;cases h2;omega) l ab ac ad;clear l ab ac ad;have k7:=KS.o O (Zah M.o.2.2);have k8:=KS.o _ (Zah (M.o.2.2.trans ((bz1 O (Ai #[Aa a5 k c5,Aa a7 m c7] 61)).mono M.o.2.2.size)));have HB:=BL.o O (Zah M.o.2.2) (Aa a5 k c5) (Aa a7 m c7) M.o.1 M.o.2.1)
    | (refine Zbr encB 5 61 1 _ rfl Tryz.info5 underlying61 rfl (.tmp 27) (.tmp 31) rfl W.heap.size (Aa (some ⟨W.heap.size,0,none⟩) 0 0) [] (data.take k) a1 k c1 ?_ (ob1 W.drew) ?_ (H.o.1.below (Zah (bz1 W.drew _))) H.o.2.2.1 (by have:=HK.o;simp;omega) (by have:=HK.o;simp only[AG,Cj];omega) (by simp;try omega) ?_;(· simp[A8]);(· simp[A8]);intro v5 P f aa ae af;rw[Cr]at f;obtain⟨a5,c5,e5,_,_,_,_⟩:=f.form;rw[H.o.2.2.1]at e5;subst e5;have N:Hid (OwnG encB 5 P W.heap.size (Aa a5 k c5) (data.take k)/\An W.heap.size W.drew P):=⟨f,(bz1 W.drew _).trans aa⟩;clear f aa ae af;have k5:=KS.o P (Zah N.o.2);have k6:=KS.o _ (Zah (N.o.2.trans ((bz1 P (Ai #[] 5)).mono N.o.2.size))))
    | (refine Zbr encB 5 61 1 _ rfl Tryz.info5 underlying61 rfl (.tmp 27) (.tmp 31) rfl W.heap.size (Aa (some ⟨W.heap.size,0,none⟩) 0 0) [] (data.take k) a1 k c1 ?_ (ob2 W.drew (Ai #[] 5)) ?_ (H.o.1.below (Zah (bz2 W.drew _ _))) H.o.2.2.1 (by have:=HK.o;simp;omega) (by have:=HK.o;simp only[AG,Cj];omega) (by simp;try omega) ?_;(· simp[A8]);(· simp[A8]);intro v5 P f aa ae af;rw[Cr]at f;obtain⟨a5,c5,e5,_,_,_,_⟩:=f.form;rw[H.o.2.2.1]at e5;subst e5;have N:Hid (OwnG encB 5 P W.heap.size (Aa a5 k c5) (data.take k)/\An W.heap.size W.drew P):=⟨f,(bz2 W.drew _ _).trans aa⟩;have ag:Hid (OwnG encB 5 P W.heap.size (Aa (some ⟨W.heap.size+1,0,none⟩) 0 0) []/\∀k',(Aa (some ⟨W.heap.size+1,0,none⟩) 0 0).ownBlock=some k'->¬(Aa a5 k c5).ownBlock=some k'):=⟨(ob3 W.drew (Ai #[] 5)).stays af (λ g hg q=>by have h1:some (W.heap.size+1)=some g:=hg;have h2:some W.heap.size=some g:=q;cases h1;simp at h2),λ k' ax q=>by have h1:some (W.heap.size+1)=some k':=ax;cases h1;rcases ae with e|e;exact(by rw[e]at q;have h2:some W.heap.size=some (W.heap.size+1):=q;simp at h2);exact(by have:=e _ q;simp at this;have h9:W.drew.heap.size=W.heap.size:=rfl;omega)⟩;clear f aa ae af;have k5:=KS.o P (Zah N.o.2))
    | (refine Zbr encB 5 61 1 _ rfl Tryz.info5 underlying61 rfl (.tmp 27) (.tmp 31) rfl W.heap.size (Aa (some ⟨W.heap.size+1,0,none⟩) 0 0) [] (data.take k) a1 k c1 ?_ (ob3 W.drew (Ai #[] 5)) ?_ (H.o.1.below (Zah (bz2 W.drew _ _))) H.o.2.2.1 (by have:=HK.o;simp;omega) (by have:=HK.o;simp only[AG,Cj];omega) (by simp;try omega) ?_;(· simp[A8]);(· simp[A8]);intro v5 P f aa ae af;rw[Cr]at f;obtain⟨a5,c5,e5,_,_,_,_⟩:=f.form;rw[H.o.2.2.1]at e5;subst e5;have N:Hid (OwnG encB 5 P W.heap.size (Aa a5 k c5) (data.take k)/\An W.heap.size W.drew P):=⟨f,(bz2 W.drew _ _).trans aa⟩;have ag:Hid (OwnG encB 5 P W.heap.size (Aa (some ⟨W.heap.size,0,none⟩) 0 0) []/\∀k',(Aa (some ⟨W.heap.size,0,none⟩) 0 0).ownBlock=some k'->¬(Aa a5 k c5).ownBlock=some k'):=⟨(ob2 W.drew (Ai #[] 5)).stays af (λ g hg q=>by have h1:some W.heap.size=some g:=hg;have h2:some (W.heap.size+1)=some g:=q;cases h1;simp at h2),λ k' ax q=>by have h1:some W.heap.size=some k':=ax;cases h1;rcases ae with e|e;exact(by rw[e]at q;have h2:some (W.heap.size+1)=some W.heap.size:=q;simp at h2);exact(by have:=e _ q;simp at this;have h9:W.drew.heap.size=W.heap.size:=rfl;omega)⟩;clear f aa ae af;have k5:=KS.o P (Zah N.o.2)))
  all_goals
   go_wp2_with fail;go_meet;exact⟨_,i8,r8,rfl,rfl,rfl,H8.o.1,H8.o.2.1,_,Aft.of (Zah (M.o.2.2.trans ((bz1 O _).mono M.o.2.2.size))) H8.o.2.2.1 H8.o.2.2.2⟩
 case rest =>
  obtain⟨u1,i8,r8,rfl,rfl,rfl,ei,er,U1,HA⟩:=hcut;obtain⟨c1,c2,a,c4,_⟩:=MD.o.call (u2:=u1) HA
  obtain⟨bb,aC⟩:∃bb:ByteArray,bb=⟨data.toArray⟩:=⟨_,rfl⟩
  have cv:=Za1 (HH.o.2.1 u1 c4);have hr:=Zg5 c2 c1 HH.o.2.2.2.2.1 HH.o.2.2.1 HH.o.2.2.2.1 data (by have:=HH.o.1;have:=HK.o;omega) Q HH.o.2.2.2.2.2.1;rw[show tx data=Ae bb by rw[aC]]at cv hr
  have HE:Hid (i8=(Q.2.1.toNat:Int)/\r8=Q.2.2/\Aft W u1 s b Q.1.1 Q.1.2 U U1):=⟨ei,er,HA⟩
  have g2:=a.box.cell (j:=2) rfl;have g3:=a.box.cell (j:=3) rfl;have g4:=a.box.cell (j:=4) rfl;have g5:=a.box.cell (j:=5) rfl;have g6:=a.box.cell (j:=6) rfl;have g7:=a.box.cell (j:=7) rfl;have g8:=a.box.cell (j:=8) rfl;have g9:=a.box.cell (j:=9) rfl;have aY:=a.box.cell (j:=10) rfl;have ga:=a.act.cell (j:=1) rfl;clear ei er HA c1 c2 c4 y1 y2 y3 aP w1 aQ aJ aC;go_wp2_with fail;clear a;refine hr.mono ?_;rintro e u2 ⟨m',i9,r9,rfl,H9⟩;obtain⟨q1,q2,q3,q4⟩:=H9.o;obtain⟨p,y,t,A,D,C,F,I,G,J,L,K,rfl,l1,l2,l3,l4⟩:=q3
  have eI:i8=i9:=by rw[q1,HE.o.1]
  have eR:r8=r9:=by rw[q2,HE.o.2.1]
  have M2:Hid (Md B w.heap.size E (λ i=>Fb w.heap.size i∨E i) w0 w u2 s b (Aa p y t) (Aa A D C) (Aa F I G) (Aa J L K) (Aa xa xn xc) (Aa R T S) (Aa V Z zc) U1 Q.1.1 Q.1.2 bl tl cl (wdV s b d (Aa fa fl fc) (Aa oa on oc) (Aa ra rn rc) (Aa ta tn tc) (Aa xa xn xc) (Aa R T S) (Aa V Z zc)) (actC 0 (Aa da dn dc) pv qv nm dt kp)):=(MD.o.call HE.o.2.2).2.2.2.2 _ _ _ _ q4 ⟨p,y,t,A,D,C,F,I,G,J,L,K,rfl,l1,l2,l3,l4⟩;clear q1 q2 q4 l1 l2 l3 l4 H9 hr cv;subst eI eR
  obtain⟨X,hX⟩:=Xa (layL u2 w.heap.size [Aa p y t,Ab Ak (Q.1.2.writes:Int),Ad Q.1.2.armed,Ad Q.1.2.dead,Ab Ak (Q.1.2.after:Int),Ab Ak (Q.1.2.keep:Int),Aa A D C,Aa F I G,Aa J L K] 2)
  have M3:Hid (Md B w.heap.size E (λ i=>Fb w.heap.size i∨E i) w0 w X s b (Aa p y t) (Aa A D C) (Aa F I G) (Aa J L K) (Aa xa xn xc) (Aa R T S) (Aa V Z zc) U1 Q.1.1 Q.1.2 bl tl cl (wdV s b Q.1.2 (Aa p y t) (Aa A D C) (Aa F I G) (Aa J L K) (Aa xa xn xc) (Aa R T S) (Aa V Z zc)) (actC 0 (Aa da dn dc) pv qv nm dt kp)):=by
   have h1:=M2.o.bx.box.lays [Aa p y t,Ab Ak (Q.1.2.writes:Int),Ad Q.1.2.armed,Ad Q.1.2.dead,Ab Ak (Q.1.2.after:Int),Ab Ak (Q.1.2.keep:Int),Aa A D C,Aa F I G,Aa J L K] 2;rw[hX,set9]at h1;exact M2.o.lay (by rw[<- hX];exact Zal _ _ _) h1
  have a:=M2.o.bx;have p2:=a.box.cell (j:=2) rfl;have p3:=a.box.cell (j:=3) rfl;have p4:=a.box.cell (j:=4) rfl;have p5:=a.box.cell (j:=5) rfl;have p6:=a.box.cell (j:=6) rfl;have p7:=a.box.cell (j:=7) rfl;have p8:=a.box.cell (j:=8) rfl;have p9:=a.box.cell (j:=9) rfl;have aB:=a.box.cell (j:=10) rfl;have f2:=a.box.thaw 2;have f3:=a.box.thaw 3;have f4:=a.box.thaw 4;have f5:=a.box.thaw 5;have f6:=a.box.thaw 6;have f7:=a.box.thaw 7;have f8:=a.box.thaw 8;have f9:=a.box.thaw 9;have an:=a.box.thaw 10;clear a;have aL:Hid (layL u2 w.heap.size [Aa p y t,Ab Ak (Q.1.2.writes:Int),Ad Q.1.2.armed,Ad Q.1.2.dead,Ab Ak (Q.1.2.after:Int),Ab Ak (Q.1.2.keep:Int),Aa A D C,Aa F I G,Aa J L K] 2=X):=hX;clear hX
  go_upto_region 10 with fail
  have hX:=aL.o;simp only[layL,BT]at hX;rw[hX];clear hX p2 f2 p3 f3 p4 f4 p5 f5 p6 f6 p7 f7 p8 f8 p9 f9 aB an;by_cases aG:r8=0
  ·subst aG;have aq:=HH.o.2.2.2.2.2.2.2;have z:B<=X.heap.size:=AZ M3.o.hH (by have:=M3.o.bx.lt;omega);have ak:=M3.o.bx.box.cell (j:=11) rfl;have ai:=M3.o.bx.box.thaw 11;have aZ:=M3.o.bx.box.lt
   go_upto_region 54 with(at_builtin;refine ZfE encU 44 34 8 _ rfl Tryz.info44 underlying34 rfl (.tmp 57) (.tmp 59) rfl B (Aa xa xn xc) bl Q.2.1 _ (by simp[A8]) M3.o.inv.ob (by simp[A8]) (by omega) (by simp only[AG];omega) z _ (by show _=#[Ab Al (Q.2.1.toNat:Int)];rw[HE.o.1]) ?_;intro v4 w4 ay aE aF aK;obtain⟨a4,c4,e4,_,_⟩:=ay.whole (n:=bl.length+1) (by simp);subst e4;have M4:=hid (And.intro (M3.o.rowB ay aF aK) aE);clear ay aE aF aK;have ak:=M4.o.1.bx.box.cell (j:=11) rfl;have ai:=M4.o.1.bx.box.thaw 11)
   obtain⟨Y,hY⟩:=Xa (w4.setCell ⟨w.heap.size,11,none⟩ (Aa a4 (bl.length+1) c4))
   have M5:Hid (Md B w.heap.size E (λ i=>Fb w.heap.size i∨E i) w0 w Y s b (Aa p y t) (Aa A D C) (Aa F I G) (Aa J L K) (Aa a4 (bl.length+1) c4) (Aa R T S) (Aa V Z zc) U1 Q.1.1 Q.1.2 (bl++[Q.2.1]) tl cl (wdV s b Q.1.2 (Aa p y t) (Aa A D C) (Aa F I G) (Aa J L K) (Aa a4 (bl.length+1) c4) (Aa R T S) (Aa V Z zc)) (actC 0 (Aa da dn dc) pv qv nm dt kp)):=by
    have h1:=M4.o.1.bx.box.lays [Aa a4 (bl.length+1) c4] 11;rw[set11]at h1;rw[<- hY];exact M4.o.1.lay (Zad 11 _) h1
   have O5:Hid (OwnG encU 44 Y B (Aa xa xn xc) bl):=by
    rw[<- hY];exact M4.o.2.stays (Zad (b:=w.heap.size) 11 _) (λ g q r=>by have r':g=w.heap.size:=r;exact M3.o.far g (.inr (.inl q)) (.inl ⟨by omega,by omega⟩))
   rw[hY];clear hY ak ai;obtain⟨p0,p1,p2,p3,p4,p5,p6,p7,p8,p9,aB,ak,aR,aS⟩:=M5.o.bx.box.c14;obtain⟨s0,s1,s2,s3,s4,s5,s6,s7,s8,s9,aT,aU,aV,aW⟩:=M5.o.bx.res.c14;obtain⟨f0,f1,f2,f3,f4,f5,f6,f7,f8,f9,an,ai,aN,aO⟩:=M5.o.bx.res.t14;go_wp2;refine As (v:=Af #[Ag (wdV s b Q.1.2 (Aa p y t) (Aa A D C) (Aa F I G) (Aa J L K) (Aa a4 (bl.length+1) c4) (Aa R T S) (Aa V Z zc)),Ad true]) ?_ rfl ⟨_,_,_,_,_,rfl,?_⟩
   ·simp[AH,Tryz.f26];go_simp
   ·have ht:=Zal (W:=Y) (w.heap.size+2) [Ah (some ⟨b,0,none⟩),Ah (some ⟨s,0,none⟩),Aa p y t,Ab Ak (Q.1.2.writes:Int),Ad Q.1.2.armed,Ad Q.1.2.dead,Ab Ak (Q.1.2.after:Int),Ab Ak (Q.1.2.keep:Int),Aa A D C,Aa F I G,Aa J L K,Aa a4 (bl.length+1) c4,Aa R T S,Aa V Z zc] 0;simp only[layL,BT]at ht;have hh:=M5.o.done ht;have ho:=O5.o.stays ht (λ g q r=>by have r':g=w.heap.size+2:=r;exact M3.o.far g (.inr (.inl q)) (.inl ⟨by omega,by omega⟩));have ah:=HH.o.2.2.2.2.2.2.1;rw[AE (HE.o.2.1.symm)]at ah;rw[ah];exact⟨_,hh.1,hh.2.1,hh.2.2,ho⟩
  ·have hz:Hid (¬r8=0):=aG
   go_upto_region 54 with fail
   obtain⟨p0,p1,p2,p3,p4,p5,p6,p7,p8,p9,aB,ak,aR,aS⟩:=M3.o.bx.box.c14;obtain⟨s0,s1,s2,s3,s4,s5,s6,s7,s8,s9,aT,aU,aV,aW⟩:=M3.o.bx.res.c14;obtain⟨f0,f1,f2,f3,f4,f5,f6,f7,f8,f9,an,ai,aN,aO⟩:=M3.o.bx.res.t14;go_wp2;refine As (v:=Af #[Ag (wdV s b Q.1.2 (Aa p y t) (Aa A D C) (Aa F I G) (Aa J L K) (Aa xa xn xc) (Aa R T S) (Aa V Z zc)),Ad true]) ?_ rfl ⟨_,_,_,_,_,rfl,?_⟩
   ·simp[AH,Tryz.f26];go_simp
   ·have ht:=Zal (W:=X) (w.heap.size+2) [Ah (some ⟨b,0,none⟩),Ah (some ⟨s,0,none⟩),Aa p y t,Ab Ak (Q.1.2.writes:Int),Ad Q.1.2.armed,Ad Q.1.2.dead,Ab Ak (Q.1.2.after:Int),Ab Ak (Q.1.2.keep:Int),Aa A D C,Aa F I G,Aa J L K,Aa xa xn xc,Aa R T S,Aa V Z zc] 0;simp only[layL,BT]at ht;have hh:=M3.o.done ht;have ho:=M3.o.inv.ob.stays ht (λ g q r=>by have r':g=w.heap.size+2:=r;exact M3.o.far g (.inr (.inl q)) (.inl ⟨by omega,by omega⟩));have ah:=HH.o.2.2.2.2.2.2.1;rw[Aw (by rw[<- HE.o.2.1];exact hz.o)]at ah;rw[ah];exact⟨_,hh.1,hh.2.1,hh.2.2,ho⟩
theorem Zed:∀args w,(callFunc 65 args).run Am w=.ok (.enter 65 args) w:=enters_of func65 (by kernel_rfl) rfl
theorem ZeP:∀args w,(callFunc 64 args).run Am w=.ok (.enter 64 args) w:=enters_of func64 (by kernel_rfl) rfl
theorem ZpM{base n cap:Nat}{k:Option Addr}(h:OwnG encE 152 w base (Aa k n cap) es){i:Nat}(hi:i<n):
  ∃g A B,k=some ⟨g,0,none⟩/\g<w.heap.size/\w.cell? ⟨g,i*2,none⟩=some A/\w.cell? ⟨g,i*2+1,none⟩=some B/\w.frozen? ⟨g,i*2,none⟩=false/\w.frozen? ⟨g,i*2+1,none⟩=false/\(w.setCell ⟨g,i*2,none⟩ (Ae ⟨#[]⟩)).frozen? ⟨g,i*2+1,none⟩=false /\
   Hid (∃a,OwnG encE 152 ((w.setCell ⟨g,i*2,none⟩ (Ae ⟨#[]⟩)).setCell ⟨g,i*2+1,none⟩ (Ab Al 0)) base (Aa k n cap) a):=by
 have t:es.length=n:=Zam h;obtain⟨x,p⟩:=Zaf t hi
 rcases h.2 with⟨e,C⟩ | ⟨g,o,q,e,D,b,u,r,s,d⟩
 ·omega
 ·cases e;have v:=h.rdc.1;obtain⟨c,l,m⟩:=RdG.ents v p;simp only[C9]at l m;refine⟨g,_,_,rfl,c,l,m,by simp[Cb,b],by simp[Cb,b],by simp[Cb,World.setCell,Array.getElem?_modify,b],?_⟩;have y:=h.put p (j:=0) (by decide) (([],x.2):En) (tx []) rfl
  have f:(es.set i (([],x.2):En))[i]? = some ([],x.2):=by
   rw[List.getElem?_set_self (by omega)]
  have z:=y.put f (j:=1) (by decide) (([],0):En) (Ab Al 0) rfl;exact⟨_,z⟩
theorem Zk9{b:Nat}{H K I pa qa:Option Addr}{F M L J pn pc qn qc:Nat}{U:Nat->Prop}{ps:List Bs}{qs:List Int}
  (hI:WI B E w s b (Aa fa Z fc) (Aa oa on oc) (Aa ra rn rc) (Aa ta tn tc) (Aa H F xc) (Aa K M L) (Aa I J zc) U st d bl tl cl) (h0:An B w0 w) (ap:w0.heap.size=B) (hB:B<=w.heap.size) (hp:RdG encT w0 pa ps) (ai:ps.length=pn) (ac:pn*24<=140737488355328) (aA:∀p∈ps,p.length<=9223372036854775807) (hq:RdG encI w0 qa qs) (aB:qs.length=qn) (aC:qn<=4000000000000000000) (az:d.ok) (hw:d.writes<=1000000) (aE:st.size<=1000000) (dv:Ar) (nm:ByteArray) (dt kp:Int) (Q) (hQ:stree st d (aents ps qs bl)=Q) (ak:List UInt64) (ae:ak=if Q.2.2=0 then tl++[Q.2.1]else tl) (aJ:bl.length<=1000000) (aj:tl.length<=1000000) :
  At Am 26 #[Ag (wdV s b d (Aa fa Z fc) (Aa oa on oc) (Aa ra rn rc) (Aa ta tn tc) (Aa H F xc) (Aa K M L) (Aa I J zc)),Ag (actC 1 dv (Aa pa pn pc) (Aa qa qn qc) nm dt kp)] w λ e w'=>∃vf vo vr vt xt,e=Aj (Af #[Ag (wdV s b Q.1.2 vf vo vr vt (Aa H F xc) xt (Aa I J zc)),Ad true])/\Hid (∃U',WI B E w' s b vf vo vr vt (Aa H F xc) xt (Aa I J zc) U' Q.1.1 Q.1.2 bl ak cl/\An B w0 w'/\(∀i,E i->w'.heap[i]? = w.heap[i]?)/\OwnG encU 44 w' B (Aa K M L) tl):=by
 obtain⟨W,hW⟩:=Xa (((w.alloc (Ai (wdV s b d (Aa fa Z fc) (Aa oa on oc) (Aa ra rn rc) (Aa ta tn tc) (Aa H F xc) (Aa K M L) (Aa I J zc)) 36)).alloc (Ai (actC 1 dv (Aa pa pn pc) (Aa qa qn qc) nm dt kp) 81)).alloc (Ai zeroW 36))
 have bW:An w.heap.size w W:=by rw[<- hW];exact bz3 _ _ _ _
 have G:Bx w.heap.size W (wdV s b d (Aa fa Z fc) (Aa oa on oc) (Aa ra rn rc) (Aa ta tn tc) (Aa H F xc) (Aa K M L) (Aa I J zc)) (actC 1 dv (Aa pa pn pc) (Aa qa qn qc) nm dt kp):=by rw[<- hW];exact Bx.new _ _ _
 have MD:Hid (Md B w.heap.size E (λ i=>Fb w.heap.size i∨E i) w0 w W s b (Aa fa Z fc) (Aa oa on oc) (Aa ra rn rc) (Aa ta tn tc) (Aa H F xc) (Aa K M L) (Aa I J zc) U st d bl tl cl (wdV s b d (Aa fa Z fc) (Aa oa on oc) (Aa ra rn rc) (Aa ta tn tc) (Aa H F xc) (Aa K M L) (Aa I J zc)) (actC 1 dv (Aa pa pn pc) (Aa qa qn qc) nm dt kp)):=Md.start hI h0 hB G bW
 have bB:An w0.heap.size w0 W:=by rw[ap];exact MD.o.bel
 obtain⟨es,ab⟩:=Xa (aents ps qs bl)
 have av:es.length=pn:=by rw[<- ab];unfold aents;simp[ai]
 have au:=MD.o.inv.ob.rdc;have P:bl.length=F:=Zam MD.o.inv.ob;have af:=Zmz (w:=W) (pc:=pc) (qc:=qc) (bc:=xc) (dv:=dv) 1 nm dt kp (hp.below bB) ai ac (hq.below bB) aB aC au.1 P (by omega);rw[ab]at af hQ
 have aq:Fine es:=by
  intro e he;rw[<- ab]at he;unfold aents at he;rw[List.mem_map]at he;obtain⟨i,hi,rfl⟩:=he;rw[List.mem_range]at hi;unfold aent;rw[List.getD_eq_getElem?_getD,Aq hi];exact aA _ (List.getElem_mem hi)
 have y0:=G.act.cell (j:=0) rfl;have y1:=G.act.cell (j:=1) rfl;have y2:=G.act.cell (j:=2) rfl;have y3:=G.act.cell (j:=3) rfl;have y4:=G.act.cell (j:=4) rfl;have y5:=G.act.cell (j:=5) rfl;have y6:=G.act.cell (j:=6) rfl;have aT:=G.box.cell (j:=11) rfl
 have N:Hid (es.length=pn/\Fine es/\d.ok/\d.writes<=1000000/\st.size<=1000000/\stree st d es=Q/\(ak=if Q.2.2=0 then tl++[Q.2.1]else tl)/\tl.length<=1000000/\pn*24<=140737488355328):=⟨av,aq,az,hw,aE,hQ,ae,aj,ac⟩
 clear hI h0 ap hB hp ai ac hq aB aC az hw aE hQ ae aJ aj G bW bB ab av au P aq aA;go_enter func26,ntmps26
 go_upto_region 13 with fail
 clear hW;go_wp2_with fail;refine af.mono ?_;rintro e w1 ⟨v,rfl,H1⟩;obtain⟨S,lc,ev,ax,_⟩:=H1.o.1.whole N.o.1;subst ev;have M1:Hid (Md B w.heap.size E (λ i=>(Fb w.heap.size i∨E i)∨(Aa S pn lc).ownBlock=some i) w0 w w1 s b (Aa fa Z fc) (Aa oa on oc) (Aa ra rn rc) (Aa ta tn tc) (Aa H F xc) (Aa K M L) (Aa I J zc) U st d bl tl cl (wdV s b d (Aa fa Z fc) (Aa oa on oc) (Aa ra rn rc) (Aa ta tn tc) (Aa H F xc) (Aa K M L) (Aa I J zc)) (actC 1 dv (Aa pa pn pc) (Aa qa qn qc) nm dt kp)):=MD.o.more H1.o.2 (λ i q=>⟨by have:=(H1.o.1.lt i q).1;omega,(H1.o.1.lt i q).2⟩)
 have EN:Hid (At Am 65 #[Aa S pn lc] w1.drew λ e w'=>∃v,e=Aj v/\Hid (OwnG encE 233 w' w1.heap.size v es/\An w1.heap.size w1 w')):=by
  refine(Zid w1.drew (H1.o.1.rdc.1.below (Below.refl _ _).drew) N.o.1 N.o.2.2.2.2.2.2.2.2).mono ?_;rintro e w' ⟨v,rfl,h⟩;exact⟨v,rfl,h.o.1,Zah h.o.2⟩
 have PT:Hid (∀w2,An w1.heap.size w1 w2->∀ea ec,OwnG encE 233 w2 w1.heap.size (Aa ea pn ec) es->At Am 64 #[rm d (Aa fa Z fc) (Aa oa on oc) (Aa ra rn rc) (Aa ta tn tc),Aa ea pn ec] w2 λ e w'=>∃v,e=Aj v/\Hid (∃m' i r,v=Af #[m',Ab Al i,Ab Ak r]/\i=(Q.2.1.toNat:Int)/\r=Q.2.2/\RMS (Zb (λ i=>(Fb w.heap.size i∨E i)∨(Aa S pn lc).ownBlock=some i) (Rows U (Aa H F xc) (Aa K M L) (Aa I J zc))) w' m' Q.1.1 Q.1.2/\An w1.heap.size w1 w')):=by
  intro w2 b2 ea ec ho;refine(ZgT (λ i q=>?_) (M1.o.refz.below b2) N.o.2.2.2.2.1 N.o.2.2.1 N.o.2.2.2.1 ho.rdc.1 N.o.1 (by have:=N.o.2.2.2.2.2.2.2.2;omega) Q N.o.2.2.2.2.2.1).mono ?_
  ·rcases q with q|q
   ·exact AI (M1.o.inv.lt i q).2 b2.size
   ·exact AI (M1.o.flt i q) b2.size
  ·rintro e w' ⟨m',i,r,rfl,h⟩;exact⟨_,rfl,m',i,r,rfl,h.o.1,h.o.2.1,h.o.2.2.1,b2.trans (h.o.2.2.2.mono b2.size)⟩
 have V:=M1.o.bx;have g2:=V.box.cell (j:=2) rfl;have g3:=V.box.cell (j:=3) rfl;have g4:=V.box.cell (j:=4) rfl;have g5:=V.box.cell (j:=5) rfl;have g6:=V.box.cell (j:=6) rfl;have g7:=V.box.cell (j:=7) rfl;have g8:=V.box.cell (j:=8) rfl;have g9:=V.box.cell (j:=9) rfl;have aI:=V.box.cell (j:=10) rfl
 have HL:Hid (pn<=lc/\OwnG encE 152 w1 (W.heap.size+1) (Aa S pn lc) es/\An W.heap.size W w1):=⟨ax,H1.o.1,H1.o.2⟩
 clear y0 y1 y2 y3 y4 y5 y6 aT af H1 ax V
 go_upto_region 14 with fail
 go_cut[9,7] (λ iv rv u=>∃v i9 r9 a f c k t l x z y A D C,v=u/\iv=Ab Al i9/\rv=Ab Ak r9/\Hid (i9=(Q.2.1.toNat:Int)/\r9=Q.2.2/\Md B w.heap.size E (λ i=>(Fb w.heap.size i∨E i)∨(Aa S pn lc).ownBlock=some i) w0 w v s b (Aa fa Z fc) (Aa oa on oc) (Aa ra rn rc) (Aa ta tn tc) (Aa H F xc) (Aa K M L) (Aa I J zc) U st d bl tl cl (wdV s b Q.1.2 (Aa a f c) (Aa k t l) (Aa x z y) (Aa A D C) (Aa H F xc) (Aa K M L) (Aa I J zc)) (actC 1 dv (Aa pa pn pc) (Aa qa qn qc) nm dt kp)/\RMS (Zb (λ i=>(Fb w.heap.size i∨E i)∨(Aa S pn lc).ownBlock=some i) (Rows U (Aa H F xc) (Aa K M L) (Aa I J zc))) v (rm Q.1.2 (Aa a f c) (Aa k t l) (Aa x z y) (Aa A D C)) Q.1.1 Q.1.2/\OwnG encE 152 v (W.heap.size+1) (Aa S pn lc) es))
 case first =>
  go_region_law
   (first
    | (refine ZeY rfl (.tmp 71) 65 #[145] rfl Zed (Aa S pn lc) (by simp[A8,Act.put]) _ EN.o ?_;intro v2 w2 h2;obtain⟨ea,ec,e2,_,_⟩:=h2.o.1.whole N.o.1;subst e2;have P2:=hid (PT.o w2 h2.o.2 ea ec h2.o.1);have B2:=hid h2.o.2;clear h2;have c2:=M1.o.bx.below B2.o;have h2:=c2.box.cell (j:=2) rfl;have h3:=c2.box.cell (j:=3) rfl;have h4:=c2.box.cell (j:=4) rfl;have h5:=c2.box.cell (j:=5) rfl;have h6:=c2.box.cell (j:=6) rfl;have h7:=c2.box.cell (j:=7) rfl;have h8:=c2.box.cell (j:=8) rfl;have h9:=c2.box.cell (j:=9) rfl;have aW:=c2.box.cell (j:=10) rfl;clear c2)
    | (refine Zbd rfl (.tmp 70) (.tmp 72) 64 #[33,148] rfl ZeP (rm d (Aa fa Z fc) (Aa oa on oc) (Aa ra rn rc) (Aa ta tn tc)) (Aa ea pn ec) (by simp[A8]) (by simp[A8]) _ P2.o ?_;intro v3 w3 h3;obtain⟨m3,i9,r9,e3,q1,q2,q3,q4⟩:=h3.o;subst e3;obtain⟨a,f,c,k,t,l,x,z,y,A,D,C,rfl,l1,l2,l3,l4⟩:=q3;have H9:=hid (And.intro q1 (And.intro q2 (And.intro (show RMS (Zb (λ i=>(Fb w.heap.size i∨E i)∨(Aa S pn lc).ownBlock=some i) (Rows U (Aa H F xc) (Aa K M L) (Aa I J zc))) w3 (rm Q.1.2 (Aa a f c) (Aa k t l) (Aa x z y) (Aa A D C)) Q.1.1 Q.1.2 from⟨a,f,c,k,t,l,x,z,y,A,D,C,rfl,l1,l2,l3,l4⟩) q4)));clear h3 q1 q2 q4 l1 l2 l3 l4;have O:=M1.o.bx.below H9.o.2.2.2;have k2:=O.box.cell (j:=2) rfl;have f2:=O.box.thaw 2;have k3:=O.box.cell (j:=3) rfl;have f3:=O.box.thaw 3;have k4:=O.box.cell (j:=4) rfl;have f4:=O.box.thaw 4;have k5:=O.box.cell (j:=5) rfl;have f5:=O.box.thaw 5;have k6:=O.box.cell (j:=6) rfl;have f6:=O.box.thaw 6;have k7:=O.box.cell (j:=7) rfl;have f7:=O.box.thaw 7;have k8:=O.box.cell (j:=8) rfl;have f8:=O.box.thaw 8;have k9:=O.box.cell (j:=9) rfl;have f9:=O.box.thaw 9;have aY:=O.box.cell (j:=10) rfl;have ao:=O.box.thaw 10;clear O)
    | fail)
  all_goals
   have hM:=(M1.o.below H9.o.2.2.2).bx.box.lays [Aa a f c,Ab Ak (Q.1.2.writes:Int),Ad Q.1.2.armed,Ad Q.1.2.dead,Ab Ak (Q.1.2.after:Int),Ab Ak (Q.1.2.keep:Int),Aa k t l,Aa x z y,Aa A D C] 2;rw[set9]at hM;have hT:=Zal (W:=w3) w.heap.size [Aa a f c,Ab Ak (Q.1.2.writes:Int),Ad Q.1.2.armed,Ad Q.1.2.dead,Ab Ak (Q.1.2.after:Int),Ab Ak (Q.1.2.keep:Int),Aa k t l,Aa x z y,Aa A D C] 2;have al:=hid (And.intro H9.o.1 (And.intro H9.o.2.1 (And.intro ((M1.o.below H9.o.2.2.2).lay hT hM) (And.intro (H9.o.2.2.1.turned hT (λ i q=>.inr (.inl (.inl (by have q':i=w.heap.size:=q;exact⟨by omega,by omega⟩))))) ((HL.o.2.1.below H9.o.2.2.2).stays hT (λ g q r=>by have r':g=w.heap.size:=r;have:=(HL.o.2.1.lt g q).1;have:=MD.o.bx.lt;omega))))));clear hM hT;simp only[layL,BT]at al;go_wp2_with fail;go_meet;exact⟨_,i9,r9,a,f,c,k,t,l,x,z,y,A,D,C,rfl,rfl,rfl,al⟩
 case rest =>
  obtain⟨X,i9,r9,a,f,c,k,t,l,x,z,y,A,D,C,rfl,rfl,rfl,T⟩:=hcut;have x1:=T.o.2.2.1.bx.box.cell (j:=1) rfl;have ag:=Zne T.o.2.2.1.inv.duo T.o.2.2.2.2.rdc.1 N.o.1 (by have:=N.o.2.2.2.2.2.2.2.2;omega) N.o.2.1 HL.o.1 N.o.2.2.1 N.o.2.2.2.1 (by have:=N.o.2.2.2.2.1;unfold St.size at this;omega);rw[N.o.2.2.2.2.2.1]at ag;clear g2 g3 g4 g5 g6 g7 g8 g9 aI;go_wp2_with fail;refine ag.mono ?_;rintro e u3 ⟨i8,r8,rfl,H8⟩
  have eI:i8=i9:=by rw[H8.o.1,T.o.1]
  have eR:r8=r9:=by rw[H8.o.2.1,T.o.2.1]
  obtain⟨U1,ar⟩:=Xa (ZaA U X u3)
  have AF:Aft X u3 s b Q.1.1 Q.1.2 U U1:=by rw[<- ar];exact Aft.of (Below.refl _ _) H8.o.2.2.1 H8.o.2.2.2
  have M3:Hid (Md B w.heap.size E (λ i=>(Fb w.heap.size i∨E i)∨(Aa S pn lc).ownBlock=some i) w0 w u3 s b (Aa a f c) (Aa k t l) (Aa x z y) (Aa A D C) (Aa H F xc) (Aa K M L) (Aa I J zc) U1 Q.1.1 Q.1.2 bl tl cl (wdV s b Q.1.2 (Aa a f c) (Aa k t l) (Aa x z y) (Aa A D C) (Aa H F xc) (Aa K M L) (Aa I J zc)) (actC 1 dv (Aa pa pn pc) (Aa qa qn qc) nm dt kp)):=(T.o.2.2.1.call AF).2.2.2.2 _ _ _ _ (Below.refl _ _) (T.o.2.2.1.move AF T.o.2.2.2.1)
  have HE:Hid (i8=(Q.2.1.toNat:Int)/\r8=Q.2.2):=⟨H8.o.1,H8.o.2.1⟩
  have L3:Hid (OwnG encE 152 u3 (W.heap.size+1) (Aa S pn lc) es/\∀i,(Aa S pn lc).ownBlock=some i->w.heap.size+3<=i):=⟨T.o.2.2.2.2.stays H8.o.2.2.2 (λ g q r=>T.o.2.2.1.far g (.inl r) (.inr q)),λ i q=>by have:=(T.o.2.2.2.2.lt i q).1;have:=MD.o.bx.lt;omega⟩
  subst eI eR;clear AF ar H8 ag x1;go_wp2_with fail;go_loopg[12] pn (λ m iv wr=>∃i:Nat,iv=Ab Ak i/\i+m=pn/\Hid ((∃an,OwnG encE 152 wr (W.heap.size+1) (Aa S pn lc) an)/\Md B w.heap.size E (λ i=>(Fb w.heap.size i∨E i)∨(Aa S pn lc).ownBlock=some i) w0 w wr s b (Aa a f c) (Aa k t l) (Aa x z y) (Aa A D C) (Aa H F xc) (Aa K M L) (Aa I J zc) U1 Q.1.1 Q.1.2 bl tl cl (wdV s b Q.1.2 (Aa a f c) (Aa k t l) (Aa x z y) (Aa A D C) (Aa H F xc) (Aa K M L) (Aa I J zc)) (actC 1 dv (Aa pa pn pc) (Aa qa qn qc) nm dt kp)))
  case atStart=>exact⟨0,rfl,by omega,⟨_,L3.o.1⟩,M3.o⟩
  case round =>
   obtain⟨i,rfl,hi,HR⟩:=hrel;have am:=hid N.o.2.2.2.2.2.2.2.2;by_cases aK:i<pn
   ·have id:(i:Int)<(pn:Int):=by omega
    have aX:(0:Int)<=(i:Int):=by omega
    obtain⟨⟨an,ho⟩,hm⟩:=HR.o;obtain⟨g,v0,v1,rfl,aL,c0,V,f0,f1,aV,HO⟩:=ZpM ho aK;have HM:=hid hm;have aU:=hid ho;clear ho hm HR;have ac:=am.o;go_wp2;go_roundg (gk - 1)
    case measure=>omega
    case rel =>
     refine⟨i+1,by go_num,by omega,HO.o,?_⟩;have t1:Zaa (λ j=>j=g) wr (wr.setCell ⟨g,i*2,none⟩ (Ae ⟨#[]⟩)):=Zad _ _;have t2:Zaa (λ j=>j=g) (wr.setCell ⟨g,i*2,none⟩ (Ae ⟨#[]⟩)) ((wr.setCell ⟨g,i*2,none⟩ (Ae ⟨#[]⟩)).setCell ⟨g,i*2+1,none⟩ (Ab Al 0)):=Zad _ _;exact HM.o.other (t1.trans t2 (λ _ _ q=>q)) (λ j q=>by have q':j=g:=q;subst q';exact⟨.inr rfl,L3.o.2 j rfl⟩)
   ·obtain rfl:i=pn:=by omega
    have R:=hid HR.o.2;clear HR T M3 L3 am;by_cases aD:r8=0
    ·subst aD;have aj:=N.o.2.2.2.2.2.2.2.1;have G:B<=wr.heap.size:=AZ R.o.hH (by have:=R.o.bx.lt;omega);have ad:=R.o.bx.box.cell (j:=12) rfl;have aa:=R.o.bx.box.thaw 12;have aL:=R.o.bx.box.lt
     go_upto_region 54 with(at_builtin;refine ZfE encU 44 34 8 _ rfl Tryz.info44 underlying34 rfl (.tmp 98) (.tmp 100) rfl B (Aa K M L) tl Q.2.1 _ (by simp[A8]) R.o.inv.ot (by simp[A8]) (by omega) (by simp only[AG];omega) G _ (by show _=#[Ab Al (Q.2.1.toNat:Int)];rw[HE.o.1]) ?_;intro v4 w4 ah aw ay aF;obtain⟨a4,c4,e4,_,_⟩:=ah.whole (n:=tl.length+1) (by simp);subst e4;have M4:=hid (And.intro (R.o.rowT ah ay aF) aw);clear ah aw ay aF;have ad:=M4.o.1.bx.box.cell (j:=12) rfl;have aa:=M4.o.1.bx.box.thaw 12)
     obtain⟨Y,hY⟩:=Xa (w4.setCell ⟨w.heap.size,12,none⟩ (Aa a4 (tl.length+1) c4))
     have M5:Hid (Md B w.heap.size E (λ j=>(Fb w.heap.size j∨E j)∨(Aa S i lc).ownBlock=some j) w0 w Y s b (Aa a f c) (Aa k t l) (Aa x z y) (Aa A D C) (Aa H F xc) (Aa a4 (tl.length+1) c4) (Aa I J zc) U1 Q.1.1 Q.1.2 bl (tl++[Q.2.1]) cl (wdV s b Q.1.2 (Aa a f c) (Aa k t l) (Aa x z y) (Aa A D C) (Aa H F xc) (Aa a4 (tl.length+1) c4) (Aa I J zc)) (actC 1 dv (Aa pa i pc) (Aa qa qn qc) nm dt kp)):=by
      have h1:=M4.o.1.bx.box.lays [Aa a4 (tl.length+1) c4] 12;rw[set12]at h1;rw[<- hY];exact M4.o.1.lay (Zad 12 _) h1
     have O5:Hid (OwnG encU 44 Y B (Aa K M L) tl):=by
      rw[<- hY];exact M4.o.2.stays (Zad (b:=w.heap.size) 12 _) (λ g q r=>by have r':g=w.heap.size:=r;exact R.o.far g (.inr (.inr (.inl q))) (.inl (.inl ⟨by omega,by omega⟩)))
     rw[hY];clear hY ad aa;obtain⟨p0,p1,p2,p3,p4,p5,p6,p7,p8,p9,aM,aN,ad,aO⟩:=M5.o.bx.box.c14;obtain⟨s0,s1,s2,s3,s4,s5,s6,s7,s8,s9,aP,aQ,aR,aS⟩:=M5.o.bx.res.c14;obtain⟨f0,f1,f2,f3,f4,f5,f6,f7,f8,f9,ao,aG,aa,aH⟩:=M5.o.bx.res.t14;go_wp2;refine As (v:=Af #[Ag (wdV s b Q.1.2 (Aa a f c) (Aa k t l) (Aa x z y) (Aa A D C) (Aa H F xc) (Aa a4 (tl.length+1) c4) (Aa I J zc)),Ad true]) ?_ rfl ⟨_,_,_,_,_,rfl,?_⟩
     ·simp[AH,Tryz.f26];go_simp
     ·have ht:=Zal (W:=Y) (w.heap.size+2) [Ah (some ⟨b,0,none⟩),Ah (some ⟨s,0,none⟩),Aa a f c,Ab Ak (Q.1.2.writes:Int),Ad Q.1.2.armed,Ad Q.1.2.dead,Ab Ak (Q.1.2.after:Int),Ab Ak (Q.1.2.keep:Int),Aa k t l,Aa x z y,Aa A D C,Aa H F xc,Aa a4 (tl.length+1) c4,Aa I J zc] 0;simp only[layL,BT]at ht;have hh:=M5.o.done ht;have ho:=O5.o.stays ht (λ g q r=>by have r':g=w.heap.size+2:=r;exact R.o.far g (.inr (.inr (.inl q))) (.inl (.inl ⟨by omega,by omega⟩)));have P:=N.o.2.2.2.2.2.2.1;rw[AE (HE.o.2.symm)]at P;rw[P];exact⟨_,hh.1,hh.2.1,hh.2.2,ho⟩
    ·have hz:Hid (¬r8=0):=aD
     go_upto_region 54 with fail
     obtain⟨p0,p1,p2,p3,p4,p5,p6,p7,p8,p9,aM,aN,ad,aO⟩:=R.o.bx.box.c14;obtain⟨s0,s1,s2,s3,s4,s5,s6,s7,s8,s9,aP,aQ,aR,aS⟩:=R.o.bx.res.c14;obtain⟨f0,f1,f2,f3,f4,f5,f6,f7,f8,f9,ao,aG,aa,aH⟩:=R.o.bx.res.t14;go_wp2;refine As (v:=Af #[Ag (wdV s b Q.1.2 (Aa a f c) (Aa k t l) (Aa x z y) (Aa A D C) (Aa H F xc) (Aa K M L) (Aa I J zc)),Ad true]) ?_ rfl ⟨_,_,_,_,_,rfl,?_⟩
     ·simp[AH,Tryz.f26];go_simp
     ·have ht:=Zal (W:=wr) (w.heap.size+2) [Ah (some ⟨b,0,none⟩),Ah (some ⟨s,0,none⟩),Aa a f c,Ab Ak (Q.1.2.writes:Int),Ad Q.1.2.armed,Ad Q.1.2.dead,Ab Ak (Q.1.2.after:Int),Ab Ak (Q.1.2.keep:Int),Aa k t l,Aa x z y,Aa A D C,Aa H F xc,Aa K M L,Aa I J zc] 0;simp only[layL,BT]at ht;have hh:=R.o.done ht;have ho:=R.o.inv.ot.stays ht (λ g q r=>by have r':g=w.heap.size+2:=r;exact R.o.far g (.inr (.inr (.inl q))) (.inl (.inl ⟨by omega,by omega⟩)));have P:=N.o.2.2.2.2.2.2.1;rw[Aw (by rw[<- HE.o.2];exact hz.o)]at P;rw[P];exact⟨_,hh.1,hh.2.1,hh.2.2,ho⟩
end Go.Proofs.YtlojblelpaegpaaGreat
