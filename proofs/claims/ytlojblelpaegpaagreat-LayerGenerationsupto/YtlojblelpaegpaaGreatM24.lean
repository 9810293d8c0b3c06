/-
  Several texts, laid together.
-/
import Derived.Test.YtlojblelpaegpaaGreatM23
set_option maxHeartbeats 6400000
set_option maxRecDepth 100000
open Go renaming World->Ap,Calls->At,below_drewN->AS
open Go.RowKit renaming Below->An
open Go.RowKit.Below renaming refl->Ao
open List renaming eq_nil_of_length_eq_zero->AT,append_nil->Bp,mem_map->Bu,length_append->AD,length_singleton->El,mem_append->AK,mem_singleton->A2,length_take->AM,length_cons->A3,mem_flatMap->Fq,mem_filter->Ej,take_succ_eq_append_getElem->Be,getElem?_eq_getElem->Aq,length_filter_le->CK,length_take_le->CH,take_of_length_le->Av,length_map->AQ
open Nat renaming eq_zero_or_pos->B9,add_comm->Gi,le_trans->AZ,le_refl->Az
open List.Pairwise renaming nil->Co
open Go.Value renaming slice->Aa,int->Ab,string->Ae
open Go.Obj renaming cells->Ai
open Go.Ending renaming returned->Aj
open Go.IntKind renaming i64->Ak,u64->Al
open Go.Proofs.Tryz renaming prog->Am
open Go.Proofs.Tryz
namespace Go.Proofs.YtlojblelpaegpaaGreat
open Go.RowKit
variable{S:Nat->Prop}{a b l:List Bs}{ao:Option Addr}{c i k n:Nat}{f p:Bs}{w:Ap}
theorem ZnU{K:Nat}{bo lo:Option Addr}{m d Z lc:Nat}{A B:List En}{y:List Bs}(w:Ap)(ha:RdG encE w ao A)(hb:RdG encE w bo B)(hl:A.length=n)(hk:B.length=m)(aB:n<=c)(aA:m<=d)(hc:c<=K)(hd:d<=K)(hn:n<=100000)(hm:m<=100000)
  (rA:Rise A) (rB:Rise B) (fA:Fine A) (fB:Fine B) (hL:Rd w lo y) (au:y.length=Z) (aE:Z<=100000) :
  At Am 90 #[Aa ao n c,Aa bo m d,.agg #[Aa lo Z lc]] w λ e w'=>∃v',e=Aj v'/\OwnG encC 181 w' w.heap.size v' (fdiff (hasS y) A B)/\An w.heap.size w w':=by
 have LL:Hid (Rd w lo y/\y.length=Z):=⟨hL,au⟩
 have H:Hid (RdG encE w ao A/\RdG encE w bo B/\A.length=n/\B.length=m/\Rise A/\Rise B/\Fine A/\Fine B):=⟨ha,hb,hl,hk,rA,rB,fA,fB⟩
 have W0:Hid (An w.heap.size w (w.alloc (Ai #[Aa lo Z lc] 179))/\(w.alloc (Ai #[Aa lo Z lc] 179)).cell? ⟨w.heap.size,0,none⟩=some (Aa lo Z lc)):=⟨bz1 _ _,by simp⟩
 clear hL au ha hb hl hk rA rB fA fB;go_enter func90,ntmps90;go_wp2_with fail
 go_loopg[0,1,7] (n+m) (λ k av bv ov wr=>∃(a' b':Option Addr) (W c' m' d':Nat),av=Aa a' W c'/\bv=Aa b' m' d'/\W+m'=k/\W<=c'/\m'<=d'/\c'<=K/\d'<=K/\W<=100000/\m'<=100000 /\
  Hid (∃(J bl:List En) (out:List Chg),J.length=W/\bl.length=m'/\RdG encE w a' J/\RdG encE w b' bl/\Rise J/\Rise bl/\Fine J/\Fine bl/\out++fdiff (hasS y) J bl=fdiff (hasS y) A B/\out.length+W+m'<=n+m/\OwnG encC 181 wr (w.heap.size+1) ov out/\An w.heap.size w wr/\An (w.heap.size+1) (w.alloc (Ai #[Aa lo Z lc] 179)) wr))
 case atStart=>exact⟨ao,bo,n,c,m,d,rfl,rfl,rfl,aB,aA,hc,hd,hn,hm,A,B,[],H.o.2.2.1,H.o.2.2.2.1,H.o.1,H.o.2.1,H.o.2.2.2.2.1,H.o.2.2.2.2.2.1,H.o.2.2.2.2.2.2.1,H.o.2.2.2.2.2.2.2,rfl,by simp,OwnG.nil _ _ _ _,W0.o.1,Ao _ _⟩
 case round =>
  obtain⟨a',b',W,c',m',d',rfl,rfl,aD,h1,h2,h3,h4,h5,h6,HR⟩:=hrel;obtain⟨J,bl,out,l1,l2,R1,R2,q1,q2,f1,f2,aa,ax,OW,BW,BX⟩:=HR.o;have cl:wr.cell? ⟨w.heap.size,0,none⟩=some (Aa lo Z lc):=(BX.cell (p:=⟨w.heap.size,0,none⟩) (by simp)).trans W0.o.2;by_cases h0:W=0/\m'=0
  ·obtain⟨rfl,rfl⟩:=h0;have l:J=[]:=AT l1;have e2:bl=[]:=AT l2;subst l e2;have e3:fdiff (hasS y) [] []=[]:=rfl;rw[e3,Bp]at aa
   have G:Hid (out=fdiff (hasS y) A B/\OwnG encC 181 wr (w.heap.size+1) _ out/\An w.heap.size w wr):=⟨aa,OW,BW⟩
   clear aa OW BW R1 R2 q1 q2 f1 f2 HR l1 l2 BX cl;go_wp2;go_ret;exact⟨_,rfl,by rw[<- G.o.1];exact OwnG.low G.o.2.1 (by omega),G.o.2.2⟩
  ·have ac:J≠[]∨bl≠[]:=by
    rcases B9 W with z|z
    ·right;intro e;rw[e]at l2;exact h0 ⟨z,l2.symm⟩
    ·left;intro e;rw[e]at l1;simp at l1;omega
   have ah:=ZjX (hasS y) q1 q2 ac;have ag:=Zmd ac
   obtain⟨p,hp⟩:=Xa (leastP J bl)
   have ay:p.length<=9223372036854775807:=by
    rw[<- hp]
    rcases ZgE ac with q|q
    ·obtain⟨e,he,ee⟩:=Bu.1 q;rw[<- ee];exact f1 e he
    ·obtain⟨e,he,ee⟩:=Bu.1 q;rw[<- ee];exact f2 e he
   have ar:=λ u r1 r2=>Zmi (c:=c') (d:=d') (ao:=a') (bo:=b') u r1 r2 l1 l2 (by omega) (by omega) ac p hp
   rw[hp]at ah ag
   obtain⟨o,t,V⟩:∃o t,takeP J p=(o,t):=⟨_,_,rfl⟩
   obtain⟨j,t2,L⟩:∃j t2,takeP bl p=(j,t2):=⟨_,_,rfl⟩
   have ai:=λ u r=>Zfb (c:=c') (ao:=a') p u r l1 h1 o t V
   have aj:=λ u r=>Zfb (c:=d') (ao:=b') p u r l2 h2 j t2 L
   have k1:=Zfg q1 p;have k2:=Zfg q2 p;rw[V,L]at ah ag;rw[V]at k1;rw[L]at k2
   have ak:t.length+t2.length<W+m':=by simpa[l1,l2]using ag
   have TL:Hid (t.length<=100000/\t2.length<=100000):=by
    have l:=ZcJ J p;have e2:=ZcJ bl p;rw[V]at l;rw[L]at e2;simp only at l e2;exact⟨by omega,by omega⟩
   have ft:Fine t/\Fine t2:=by
    refine⟨λ e he=>f1 e ?_,λ e he=>f2 e ?_⟩
    ·have:=ZhB J p e;rw[V]at this;exact this he
    ·have:=ZhB bl p e;rw[L]at this;exact this he
   have a:Hid (out++fdiff (hasS y) J bl=fdiff (hasS y) A B/\fdiff (hasS y) J bl=(if(o != j)&&hasS y p then[(p,o,j)]else[])++fdiff (hasS y) t t2/\t.length+t2.length<W+m'/\Rise t/\Rise t2/\Fine t/\Fine t2/\out.length+W+m'<=n+m):=⟨aa,ah,ak,k1,k2,ft.1,ft.2,ax⟩
   have SW:Hid (OwnG encC 181 wr (w.heap.size+1) _ out/\An w.heap.size w wr/\An (w.heap.size+1) (w.alloc (Ai #[Aa lo Z lc] 179)) wr/\RdG encE w a' J/\RdG encE w b' bl):=⟨OW,BW,BX,R1,R2⟩
   have U:=ar wr (R1.below BW) (R2.below BW);clear ah ag ak k1 k2 aa OW BW BX ac V L hp q1 q2 HR ar l1 l2 R1 R2 f1 f2 ft ax h0
   rcases B9 W with z|z
   ·have z2:(0:Int)<(m':Int):=by have:=a.o.2.2.1;omega
    subst z;go_wp2_with fail;refine U.mono ?_;rintro e w1 ⟨rfl,k1,ad⟩
    have BB:Hid (An wr.heap.size wr w1/\w1.heap.size=wr.heap.size):=by rw[ad];exact⟨AS (Ao _ _) k1,rfl⟩
    clear ad U
    go_upto_region 4 with fail
    obtain⟨w2,P⟩:=Xb (w1.alloc (Ai #[Ae ⟨p.toArray⟩,Ab Al 0,Ab Al 0] 181))
    obtain⟨R,hR⟩:=Xa w1.heap.size
    have X:Hid (Box3 w2 R 181 (tx p) (Ab Al 0) (Ab Al 0)/\An wr.heap.size wr w2/\wr.heap.size<=R):=by
     rw[P,<- hR];exact⟨Box3.new w1 181 _ _ _,BB.o.1.trans ((bz1 w1 _).mono BB.o.1.size),BB.o.1.size⟩
    rw[<- P,hR];clear P hR BB;obtain⟨s,v,x⟩:=X.o.1.cells;have M:=ai w2 ((SW.o.2.2.2.1.below SW.o.2.1).below X.o.2.1);go_wp2_with fail;refine M.mono ?_;rintro e w3 ⟨a3,C,c3,rfl,L3,k3,k4,P3,q3,ae⟩
    have E:Hid (Box3 w3 R 181 (tx p) (Ab Al 0) (Ab Al 0)/\An wr.heap.size wr w3/\wr.heap.size<=R):=by
     rw[ae];exact⟨X.o.1.below (AS (Ao _ _) q3),AS X.o.2.1 q3,X.o.2.2⟩
    clear ae M ai X s v x;obtain⟨s,v,x⟩:=E.o.1.cells;obtain⟨t0,t1,T⟩:=E.o.1.thaw
    have b:Hid (t.length=C/\∀u,RdG encE u a' J->RdG encE u a3 t):=⟨L3,P3⟩
    clear L3 P3
    go_upto_region 5 with fail
    obtain⟨w4,Q⟩:=Xb (w3.setCell ⟨R,1,none⟩ (Ab Al (o.toNat:Int)))
    have Y:Hid (Box3 w4 R 181 (tx p) (Ab Al (o.toNat:Int)) (Ab Al 0)/\An wr.heap.size wr w4/\wr.heap.size<=R):=by
     rw[Q];exact⟨E.o.1.put1 _,E.o.2.1.trans ((Zad 1 _).below E.o.2.1.size (λ k hk e=>by have:=E.o.2.2;omega)),E.o.2.2⟩
    rw[<- Q];clear Q E s v x t0 t1 T;obtain⟨s,v,x⟩:=Y.o.1.cells;have N:=aj w4 ((SW.o.2.2.2.2.below SW.o.2.1).below Y.o.2.1);go_wp2_with fail;refine N.mono ?_;rintro e w5 ⟨a5,D,c5,rfl,L5,k5,k6,P5,q5,af⟩
    have F:Hid (Box3 w5 R 181 (tx p) (Ab Al (o.toNat:Int)) (Ab Al 0)/\An wr.heap.size wr w5/\wr.heap.size<=R):=by
     rw[af];exact⟨Y.o.1.below (AS (Ao _ _) q5),AS Y.o.2.1 q5,Y.o.2.2⟩
    clear af N aj Y s v x;obtain⟨s,v,x⟩:=F.o.1.cells;obtain⟨t0,t1,T⟩:=F.o.1.thaw
    have f:Hid (t2.length=D/\∀u,RdG encE u b' bl->RdG encE u a5 t2):=⟨L5,P5⟩
    clear L5 P5
    go_upto_region 6 with fail
    obtain⟨w6,S⟩:=Xb (w5.setCell ⟨R,2,none⟩ (Ab Al (j.toNat:Int)))
    have h:Hid (Box3 w6 R 181 (tx p) (Ab Al (o.toNat:Int)) (Ab Al (j.toNat:Int))/\An wr.heap.size wr w6/\wr.heap.size<=R):=by
     rw[S];exact⟨F.o.1.put2 _,F.o.2.1.trans ((Zad 2 _).below F.o.2.1.size (λ k hk e=>by have:=F.o.2.2;omega)),F.o.2.2⟩
    rw[<- S];clear S F s v x t0 t1 T;obtain⟨s,v,x⟩:=h.o.1.cells;have am:w6.cell? ⟨w.heap.size,0,none⟩=some (Aa lo Z lc):=(h.o.2.1.cell (p:=⟨w.heap.size,0,none⟩) (by have:=SW.o.2.2.1.size;simp at this;show w.heap.size<_;omega)).trans cl
    have az:C<=100000/\D<=100000:=⟨by rw[<- b.o.1];exact TL.o.1,by rw[<- f.o.1];exact TL.o.2⟩
    have aw:C+D<gk:=by have h1:=a.o.2.2.1;have h2:=b.o.1;have h3:=f.o.1;omega
    clear cl;by_cases V:o=j
    ·subst V;go_wp2;go_roundg (C+D)
     case measure=>omega
     case rel =>
      refine⟨a3,a5,C,c3,D,c5,rfl,rfl,rfl,k3,k5,by omega,by omega,by omega,by omega,t,t2,out,b.o.1,f.o.1,b.o.2 _ SW.o.2.2.2.1,f.o.2 _ SW.o.2.2.2.2,a.o.2.2.2.1,a.o.2.2.2.2.1,a.o.2.2.2.2.2.1,a.o.2.2.2.2.2.2.1,?_,?_,SW.o.1.below h.o.2.1,SW.o.2.1.trans (h.o.2.1.mono SW.o.2.1.size),SW.o.2.2.1.trans (h.o.2.1.mono (by have:=SW.o.2.2.1.size;simp at this;exact this))⟩
      ·have l:=a.o.1;rw[a.o.2.1]at l;simpa using l
      ·have:=a.o.2.2.2.2.2.2.2;omega
    ·have ap:((o.toNat:Int) != (j.toNat:Int))=true:=by
      simp only[FY,ne_eq];intro e;exact V (UInt64.toNat_inj.1 (by omega))
     have L:((o.toNat:Int)==(j.toNat:Int))=false:=by simpa using ap
     obtain⟨g,hg⟩:=Xa (hasS y p)
     have ab:=Zlc (c:=lc) p w6 ((LL.o.1.below SW.o.2.1).below h.o.2.1) LL.o.2 (by omega) ay g hg
     have EG:Hid (hasS y p=g/\(o != j)=true):=⟨hg,by simpa using V⟩
     clear hg;go_wp2_with fail;refine ab.mono ?_;rintro e w7 ⟨rfl,B7⟩
     have I:Hid (Box3 w7 R 181 (tx p) (Ab Al (o.toNat:Int)) (Ab Al (j.toNat:Int))/\An wr.heap.size wr w7/\OwnG encC 181 w7 (w.heap.size+1) _ out):=⟨h.o.1.below B7,h.o.2.1.trans (B7.mono h.o.2.1.size),(SW.o.1.below h.o.2.1).below B7⟩
     clear B7 ab h s v x am;obtain⟨s,v,x⟩:=I.o.1.cells
     cases g with
     | false =>
      go_wp2;go_roundg (C+D)
      case measure=>omega
      case rel =>
       refine⟨a3,a5,C,c3,D,c5,rfl,rfl,rfl,k3,k5,by omega,by omega,by omega,by omega,t,t2,out,b.o.1,f.o.1,b.o.2 _ SW.o.2.2.2.1,f.o.2 _ SW.o.2.2.2.2,a.o.2.2.2.1,a.o.2.2.2.2.1,a.o.2.2.2.2.2.1,a.o.2.2.2.2.2.2.1,?_,?_,I.o.2.2,SW.o.2.1.trans (I.o.2.1.mono SW.o.2.1.size),SW.o.2.2.1.trans (I.o.2.1.mono (by have:=SW.o.2.2.1.size;simp at this;exact this))⟩
       ·have l:=a.o.1;rw[a.o.2.1,EG.o.1]at l;simpa using l
       ·have:=a.o.2.2.2.2.2.2.2;omega
     | true =>
      have aC:out.length<=200000:=by have:=a.o.2.2.2.2.2.2.2;omega
      have an:w.heap.size+1<=w7.heap.size:=by have h1:=SW.o.2.2.1.size;have h2:=I.o.2.1.size;simp at h1;omega
      go_wp2_with(at_builtin;refine Zag encC 181 176 32 (.agg #[Ae ⟨#[]⟩,Ab Al 0,Ab Al 0]) rfl Tryz.info181 underlying176 rfl (.tmp 48) (.tmp 50) rfl (w.heap.size+1) _ out (p,o,j) _ rfl I.o.2.2 rfl (by omega) (by simp only[maxLen];omega) an _ rfl ?_;intro v8 w8 O i _ _);go_roundg (C+D)
      case measure=>omega
      case rel =>
       have aq:=SW.o.2.1.size;refine⟨a3,a5,C,c3,D,c5,rfl,rfl,rfl,k3,k5,by omega,by omega,by omega,by omega,t,t2,out++[(p,o,j)],b.o.1,f.o.1,b.o.2 _ SW.o.2.2.2.1,f.o.2 _ SW.o.2.2.2.2,a.o.2.2.2.1,a.o.2.2.2.2.1,a.o.2.2.2.2.2.1,a.o.2.2.2.2.2.2.1,?_,?_,O,(SW.o.2.1.trans (I.o.2.1.mono aq)).trans (i.mono (by omega)),(SW.o.2.2.1.trans (I.o.2.1.mono (by have:=SW.o.2.2.1.size;simp at this;exact this))).trans i⟩
       ·have l:=a.o.1;rw[a.o.2.1,EG.o.1,EG.o.2]at l;simpa using l
       ·have:=a.o.2.2.2.2.2.2.2;rw[AD,El];omega
   ·have z1:(0:Int)<(W:Int):=by omega
    go_wp2_with fail;refine U.mono ?_;rintro e w1 ⟨rfl,k1,ad⟩
    have BB:Hid (An wr.heap.size wr w1/\w1.heap.size=wr.heap.size):=by rw[ad];exact⟨AS (Ao _ _) k1,rfl⟩
    clear ad U
    go_upto_region 4 with fail
    obtain⟨w2,P⟩:=Xb (w1.alloc (Ai #[Ae ⟨p.toArray⟩,Ab Al 0,Ab Al 0] 181))
    obtain⟨R,hR⟩:=Xa w1.heap.size
    have X:Hid (Box3 w2 R 181 (tx p) (Ab Al 0) (Ab Al 0)/\An wr.heap.size wr w2/\wr.heap.size<=R):=by
     rw[P,<- hR];exact⟨Box3.new w1 181 _ _ _,BB.o.1.trans ((bz1 w1 _).mono BB.o.1.size),BB.o.1.size⟩
    rw[<- P,hR];clear P hR BB;obtain⟨s,v,x⟩:=X.o.1.cells;have M:=ai w2 ((SW.o.2.2.2.1.below SW.o.2.1).below X.o.2.1);go_wp2_with fail;refine M.mono ?_;rintro e w3 ⟨a3,C,c3,rfl,L3,k3,k4,P3,q3,ae⟩
    have E:Hid (Box3 w3 R 181 (tx p) (Ab Al 0) (Ab Al 0)/\An wr.heap.size wr w3/\wr.heap.size<=R):=by
     rw[ae];exact⟨X.o.1.below (AS (Ao _ _) q3),AS X.o.2.1 q3,X.o.2.2⟩
    clear ae M ai X s v x;obtain⟨s,v,x⟩:=E.o.1.cells;obtain⟨t0,t1,T⟩:=E.o.1.thaw
    have b:Hid (t.length=C/\∀u,RdG encE u a' J->RdG encE u a3 t):=⟨L3,P3⟩
    clear L3 P3
    go_upto_region 5 with fail
    obtain⟨w4,Q⟩:=Xb (w3.setCell ⟨R,1,none⟩ (Ab Al (o.toNat:Int)))
    have Y:Hid (Box3 w4 R 181 (tx p) (Ab Al (o.toNat:Int)) (Ab Al 0)/\An wr.heap.size wr w4/\wr.heap.size<=R):=by
     rw[Q];exact⟨E.o.1.put1 _,E.o.2.1.trans ((Zad 1 _).below E.o.2.1.size (λ k hk e=>by have:=E.o.2.2;omega)),E.o.2.2⟩
    rw[<- Q];clear Q E s v x t0 t1 T;obtain⟨s,v,x⟩:=Y.o.1.cells;have N:=aj w4 ((SW.o.2.2.2.2.below SW.o.2.1).below Y.o.2.1);go_wp2_with fail;refine N.mono ?_;rintro e w5 ⟨a5,D,c5,rfl,L5,k5,k6,P5,q5,af⟩
    have F:Hid (Box3 w5 R 181 (tx p) (Ab Al (o.toNat:Int)) (Ab Al 0)/\An wr.heap.size wr w5/\wr.heap.size<=R):=by
     rw[af];exact⟨Y.o.1.below (AS (Ao _ _) q5),AS Y.o.2.1 q5,Y.o.2.2⟩
    clear af N aj Y s v x;obtain⟨s,v,x⟩:=F.o.1.cells;obtain⟨t0,t1,T⟩:=F.o.1.thaw
    have f:Hid (t2.length=D/\∀u,RdG encE u b' bl->RdG encE u a5 t2):=⟨L5,P5⟩
    clear L5 P5
    go_upto_region 6 with fail
    obtain⟨w6,S⟩:=Xb (w5.setCell ⟨R,2,none⟩ (Ab Al (j.toNat:Int)))
    have h:Hid (Box3 w6 R 181 (tx p) (Ab Al (o.toNat:Int)) (Ab Al (j.toNat:Int))/\An wr.heap.size wr w6/\wr.heap.size<=R):=by
     rw[S];exact⟨F.o.1.put2 _,F.o.2.1.trans ((Zad 2 _).below F.o.2.1.size (λ k hk e=>by have:=F.o.2.2;omega)),F.o.2.2⟩
    rw[<- S];clear S F s v x t0 t1 T;obtain⟨s,v,x⟩:=h.o.1.cells;have am:w6.cell? ⟨w.heap.size,0,none⟩=some (Aa lo Z lc):=(h.o.2.1.cell (p:=⟨w.heap.size,0,none⟩) (by have:=SW.o.2.2.1.size;simp at this;show w.heap.size<_;omega)).trans cl
    have az:C<=100000/\D<=100000:=⟨by rw[<- b.o.1];exact TL.o.1,by rw[<- f.o.1];exact TL.o.2⟩
    have aw:C+D<gk:=by have h1:=a.o.2.2.1;have h2:=b.o.1;have h3:=f.o.1;omega
    clear cl;by_cases V:o=j
    ·subst V;go_wp2;go_roundg (C+D)
     case measure=>omega
     case rel =>
      refine⟨a3,a5,C,c3,D,c5,rfl,rfl,rfl,k3,k5,by omega,by omega,by omega,by omega,t,t2,out,b.o.1,f.o.1,b.o.2 _ SW.o.2.2.2.1,f.o.2 _ SW.o.2.2.2.2,a.o.2.2.2.1,a.o.2.2.2.2.1,a.o.2.2.2.2.2.1,a.o.2.2.2.2.2.2.1,?_,?_,SW.o.1.below h.o.2.1,SW.o.2.1.trans (h.o.2.1.mono SW.o.2.1.size),SW.o.2.2.1.trans (h.o.2.1.mono (by have:=SW.o.2.2.1.size;simp at this;exact this))⟩
      ·have l:=a.o.1;rw[a.o.2.1]at l;simpa using l
      ·have:=a.o.2.2.2.2.2.2.2;omega
    ·have ap:((o.toNat:Int) != (j.toNat:Int))=true:=by
      simp only[FY,ne_eq];intro e;exact V (UInt64.toNat_inj.1 (by omega))
     have L:((o.toNat:Int)==(j.toNat:Int))=false:=by simpa using ap
     obtain⟨g,hg⟩:=Xa (hasS y p)
     have ab:=Zlc (c:=lc) p w6 ((LL.o.1.below SW.o.2.1).below h.o.2.1) LL.o.2 (by omega) ay g hg
     have EG:Hid (hasS y p=g/\(o != j)=true):=⟨hg,by simpa using V⟩
     clear hg;go_wp2_with fail;refine ab.mono ?_;rintro e w7 ⟨rfl,B7⟩
     have I:Hid (Box3 w7 R 181 (tx p) (Ab Al (o.toNat:Int)) (Ab Al (j.toNat:Int))/\An wr.heap.size wr w7/\OwnG encC 181 w7 (w.heap.size+1) _ out):=⟨h.o.1.below B7,h.o.2.1.trans (B7.mono h.o.2.1.size),(SW.o.1.below h.o.2.1).below B7⟩
     clear B7 ab h s v x am;obtain⟨s,v,x⟩:=I.o.1.cells
     cases g with
     | false =>
      go_wp2;go_roundg (C+D)
      case measure=>omega
      case rel =>
       refine⟨a3,a5,C,c3,D,c5,rfl,rfl,rfl,k3,k5,by omega,by omega,by omega,by omega,t,t2,out,b.o.1,f.o.1,b.o.2 _ SW.o.2.2.2.1,f.o.2 _ SW.o.2.2.2.2,a.o.2.2.2.1,a.o.2.2.2.2.1,a.o.2.2.2.2.2.1,a.o.2.2.2.2.2.2.1,?_,?_,I.o.2.2,SW.o.2.1.trans (I.o.2.1.mono SW.o.2.1.size),SW.o.2.2.1.trans (I.o.2.1.mono (by have:=SW.o.2.2.1.size;simp at this;exact this))⟩
       ·have l:=a.o.1;rw[a.o.2.1,EG.o.1]at l;simpa using l
       ·have:=a.o.2.2.2.2.2.2.2;omega
     | true =>
      have aC:out.length<=200000:=by have:=a.o.2.2.2.2.2.2.2;omega
      have an:w.heap.size+1<=w7.heap.size:=by have h1:=SW.o.2.2.1.size;have h2:=I.o.2.1.size;simp at h1;omega
      go_wp2_with(at_builtin;refine Zag encC 181 176 32 (.agg #[Ae ⟨#[]⟩,Ab Al 0,Ab Al 0]) rfl Tryz.info181 underlying176 rfl (.tmp 48) (.tmp 50) rfl (w.heap.size+1) _ out (p,o,j) _ rfl I.o.2.2 rfl (by omega) (by simp only[maxLen];omega) an _ rfl ?_;intro v8 w8 O i _ _);go_roundg (C+D)
      case measure=>omega
      case rel =>
       have aq:=SW.o.2.1.size;refine⟨a3,a5,C,c3,D,c5,rfl,rfl,rfl,k3,k5,by omega,by omega,by omega,by omega,t,t2,out++[(p,o,j)],b.o.1,f.o.1,b.o.2 _ SW.o.2.2.2.1,f.o.2 _ SW.o.2.2.2.2,a.o.2.2.2.1,a.o.2.2.2.2.1,a.o.2.2.2.2.2.1,a.o.2.2.2.2.2.2.1,?_,?_,O,(SW.o.2.1.trans (I.o.2.1.mono aq)).trans (i.mono (by omega)),(SW.o.2.2.1.trans (I.o.2.1.mono (by have:=SW.o.2.2.1.size;simp at this;exact this))).trans i⟩
       ·have l:=a.o.1;rw[a.o.2.1,EG.o.1,EG.o.2]at l;simpa using l
       ·have:=a.o.2.2.2.2.2.2.2;rw[AD,El];omega
def fpaths(ch:List Bs):List Bs:=srt (ch.flatMap parts)
def fcount(ch:List Bs):Nat:=(srt (ch.filter isPath)).length
def nby(k:Nat):Nat:=(max (12*k) 8+7) / 8
def fones(ch:List Bs):List Int:=(fpaths ch).flatMap (λ p=>poss p (8*(nby (fpaths ch).length:Nat)))
def fmake(ch:List Bs):Bs:=if 8<fcount ch then[2]else 1::fbytes (fones ch) (nby (fpaths ch).length)
theorem Zp4(k:Nat):1<=nby k:=by unfold nby;omega
theorem ZnX(h:∀x,x∈a↔x∈b):srt a=srt b :=
 Zb3 (Zbf a) (Zbf b) (λ x=>by rw[Zbh,Zbh];exact h x)
theorem Zjk(h:isPath p=false):parts p=[]:=by simp[parts,h]
theorem ZeF(p:Bs):(parts p).length<=103:=by
 unfold parts
 split
 ·rename_i h
  have a:=Zh3 p p.length;have b:=Zdw h;rw[AD,El];omega
 ·simp
theorem Zd5(p:Bs):∀(i:Nat) (x:Bs),x∈pre p i->x.length<=p.length
 | 0,x,h=>by simp[pre]at h
 | i+1,x,h=>by
  unfold pre at h
  split at h
  ·rcases AK.1 h with q|q
   ·exact Zd5 p i x q
   ·rw[A2.1 q,AM];omega
  ·exact Zd5 p i x h
theorem Zfi{x:Bs}(h:x∈parts p):x.length<=102:=by
 unfold parts at h
 split at h
 ·rename_i hp
  have a:=Zdw hp
  rcases AK.1 h with q|q
  ·have:=Zd5 p _ x q;omega
  ·rw[A2.1 q];exact a
 ·cases h
theorem Zbo(l:List Bs):(l.flatMap parts).length<=103*l.length:=by
 induction l with
 | nil=>simp
 | cons x t a =>
  have:=ZeF x;simp only[List.flatMap_cons,AD,A3];omega
theorem ZmC(c:List Bs):srt ((srt (c.filter isPath)).flatMap parts)=fpaths c:=by
 refine ZnX (λ x=>?_);simp only[Fq,Zbh,Ej]
 constructor
 ·rintro⟨p,⟨b,_⟩,a⟩;exact⟨p,b,a⟩
 ·rintro⟨p,b,a⟩;refine⟨p,⟨b,?_⟩,a⟩
  cases hp:isPath p with
  | true=>rfl
  | false=>rw[Zjk hp]at a;cases a
theorem Zef(h:i<l.length)(f:Bs->Bool):(l.take (i+1)).filter f=(l.take i).filter f++(if f (el l i)then[el l i]else[]):=by
 rw[Be h,List.filter_append,<- Za9 h]
 congr 1
 by_cases q:f (el l i) <;> simp[q]
theorem Zd0(h:i<l.length){α:Type}(f:Bs->List α):(l.take (i+1)).flatMap f=(l.take i).flatMap f++f (el l i):=by
 rw[Be h,List.flatMap_append,<- Za9 h];simp
theorem Ze0(a:List Bs):(fpaths a).length<=103*fcount a:=by
 rw[<- ZmC];have b:=Zcr ((srt (a.filter isPath)).flatMap parts);have c:=Zbo (srt (a.filter isPath));unfold fcount;omega
theorem Zm4(h:f.length=0):fbits f=0:=by simp[fbits,h]
theorem ZnB{x:UInt8}(h:f[0]? = some x)(a:x≠1):fbits f=0:=by
 unfold fbits;rw[AE (.inr (by rw[h];simpa using a))]
theorem Zlz(h:f[0]? = some 1):fbits f=8*((f.length:Int) - 1):=by
 have a:¬(f.length=0∨f[0]? ≠ some 1):=by
  rintro(q|q)
  ·rw[AT q]at h;cases h
  ·exact q h
 unfold fbits;rw[Aw a]
theorem BAt.first(h:BAt w (Aa ao n c) f)(d:0<n):∃b off x,ao=some ⟨b,off,none⟩/\b<w.heap.size/\f[0]? = some x/\w.cell? ⟨b,off,none⟩=some (Ab .u8 (x.toNat:Int)):=by
 obtain⟨i,c',e,l,m,j⟩:=h;cases e;obtain⟨b,off,rfl,a,k⟩:=j d;have g:f[0]? = some f[0]:=Aq d;exact⟨b,off,f[0],rfl,a,g,k 0 _ g 0 _ rfl⟩
theorem Zot(w:Ap)(h:BAt w (Aa ao n c) f)(d:f.length=n)(s:n<=1000000000000000)(z:Int)(o:fbits f=z):
  At Am 153 #[Aa ao n c] w λ e w'=>e=Aj (Ab Ak z)/\w'=w:=by
 subst o;by_cases k:n=0
 ·rw[Zm4 (by rw[d,k])];subst k;clear d h;go_enter func153,ntmps153;go_wp2;go_ret;exact⟨rfl,rfl⟩
 ·obtain⟨b,off,x,rfl,_,g,i⟩:=h.first (by omega)
  have m:¬(n:Int)=0:=by omega
  by_cases j:x=1
  ·subst j;have p:w.cell? ⟨b,off,none⟩=some (Ab .u8 1):=i;rw[Zlz g,d];clear d h g i;go_enter func153,ntmps153;go_wp2;go_ret;exact⟨by congr 2;go_num,rfl⟩
  ·rw[ZnB g j]
   have a:¬((x.toNat:Int)=1):=by
    intro e;exact j (UInt8.toNat_inj.1 (show x.toNat=1 by omega))
   obtain⟨y,l⟩:∃y:Int,(x.toNat:Int)=y:=⟨_,rfl⟩
   rw[l]at i a
   have q:(y != 1)=true:=by simpa using a
   have r:(y==1)=false:=by simpa using a
   clear d h g l;go_enter func153,ntmps153;go_wp2;go_ret;exact⟨rfl,rfl⟩
theorem ZmB(k:Nat)(f:k<=10000000000000000)(q:Nat)(hq:1+k / 8=q)(b:Int)(d:((2 ^ (k % 8):Nat):Int)=b)(w:Ap):
  At Am 155 #[Ab Ak (k:Int)] w λ e w'=>e=Aj (.tuple #[Ab Ak (q:Int),Ab .u8 b])/\∃m,w'=w.drewN m:=by
 have a:(1+(k:Int) / 8)=(q:Int):=by omega
 have c:(2:Int) ^ (k % 8) % 256=b:=by
  have h:∀j:Fin 8,((2 ^ j.val:Nat):Int)=(2:Int) ^ j.val % 256:=by decide
  rw[<- d];exact(h ⟨k % 8,Nat.mod_lt _ (by decide)⟩).symm
 have E:Hid (_/\_):=⟨a,c⟩
 clear a c hq d;go_enter func155,ntmps155;go_wp2_with fail;go_quiet (fail);rw[E.o.1,E.o.2];go_wp2;refine bodyPost_ret (results_tmp2 rfl _ _ _) rfl ?_;exact⟨rfl,_,rfl⟩
theorem Zfa(w:Ap)(D:Rd w ao a)(F:a.length=n)(Q:n<=4000000)(q:∀x∈a,x.length<=9223372036854775807):
  At Am 150 #[Aa ao n c] w λ e w'=>∃v',e=Aj v'/\Own w' w.heap.size v' (srt (a.filter isPath))/\An w.heap.size w w':=by
 have H:Hid (Rd w ao a/\a.length=n/\∀x∈a,x.length<=9223372036854775807):=⟨D,F,q⟩
 clear D F q;go_enter func150,ntmps150;go_wp2_with fail;go_loopg[3,8] n (λ k M v wr=>∃i:Nat,v=Ab Ak i/\i+k=n/\Hid (Own wr w.heap.size M ((a.take i).filter isPath)/\An w.heap.size w wr))
 case atStart=>exact⟨0,rfl,by omega,Own.nil _ _,Ao _ _⟩
 case round =>
  obtain⟨i,rfl,hi,d⟩:=hrel
  have h:((a.take i).filter isPath).length<=4000000:=by
   have O:=CK isPath (a.take i);have P:=CH i a;omega
  by_cases s:i<n
  ·have id:(i:Int)<(n:Int):=by omega
   obtain⟨b,off,rfl,y,E⟩:=H.o.1 (by rw[H.o.2.1];omega)
   obtain⟨x,q⟩:=Xa (el a i)
   have t:=E i (by rw[H.o.2.1];omega);rw[q]at t
   have z:x.length<=9223372036854775807:=by rw[<- q];exact H.o.2.2 _ (Zcj (by rw[H.o.2.1];exact s))
   have C:wr.cell? ⟨b,off+i,none⟩=some (Ae ⟨x.toArray⟩):=(d.o.2.cell y).trans t
   obtain⟨g,u⟩:=Xa (isPath x)
   have p:=Zef (l:=a) (i:=i) (by rw[H.o.2.1];exact s) isPath;rw[q,u]at p;have B:Hid _:=p;have r:=ZbZ ⟨x.toArray⟩ (by rw[bsize];exact z) g u;have G:Hid (((a.take i).filter isPath).length<=4000000):=h;clear E t q p u h;go_wp2_with fail;refine(r _).mono ?_;rintro e N ⟨rfl,m,rfl⟩;clear r
   cases g with
   | true =>
    rw[show err true=0 from rfl];go_wp2_with(at_builtin;refine ZaZ rfl (.tmp 15) (.tmp 17) rfl w.heap.size _ ((a.take i).filter isPath) x _ rfl (d.o.1.below (AS (Ao _ _) m)) rfl G.o d.o.2.size ?_;intro v4 S j f);go_roundg (gk - 1)
    case measure=>omega
    case rel=>exact⟨i+1,by go_num,by omega,by rw[B.o];exact j,(AS d.o.2 m).trans f⟩
   | false =>
    rw[show err false=2 from rfl];go_wp2;go_roundg (gk - 1)
    case measure=>omega
    case rel=>exact⟨i+1,by go_num,by omega,by rw[B.o];simp only[Bool.false_eq_true,Eg,Bp];exact d.o.1.below (AS (Ao _ _) m),AS d.o.2 m⟩
  ·obtain rfl:i=n:=by omega
   have e:a.take i=a:=Av (by rw[H.o.2.1];omega);rw[e]at d h;obtain⟨I,C,rfl,_,_,A⟩:=d.o.1.form;have L:=ZiN (c:=C) wr A rfl (by omega);clear A e;go_wp2_with fail;refine L.mono ?_;rintro e N ⟨R,rfl,K,J⟩;go_wp2;go_ret;exact⟨_,rfl,Zik K d.o.2.size,d.o.2.trans (J.mono d.o.2.size)⟩
theorem Zh7{ps:List Bs}(w:Ap)(E:Rd w ao ps)(G:ps.length=n)(V:n<=4000000)(j:∀x∈ps,x.length<=9223372036854775807):
  At Am 151 #[Aa ao n c] w λ e w'=>∃v',e=Aj v'/\Own w' w.heap.size v' (srt (ps.flatMap parts))/\An w.heap.size w w':=by
 have H:Hid (Rd w ao ps/\ps.length=n/\∀x∈ps,x.length<=9223372036854775807):=⟨E,G,j⟩
 clear E G j;go_enter func151,ntmps151;go_wp2_with fail;go_loopg[3,8] n (λ k R v wr=>∃i:Nat,v=Ab Ak i/\i+k=n/\Hid (Own wr w.heap.size R ((ps.take i).flatMap parts)/\An w.heap.size w wr))
 case atStart=>exact⟨0,rfl,by omega,Own.nil _ _,Ao _ _⟩
 case round =>
  obtain⟨i,rfl,hi,a⟩:=hrel
  have d:((ps.take i).flatMap parts).length<=412000000:=by
   have T:=Zbo (ps.take i);have U:=CH i ps;omega
  by_cases m:i<n
  ·have id:(i:Int)<(n:Int):=by omega
   obtain⟨b,off,rfl,y,F⟩:=H.o.1 (by rw[H.o.2.1];omega)
   obtain⟨x,j⟩:=Xa (el ps i)
   have t:=F i (by rw[H.o.2.1];omega);rw[j]at t
   have z:x.length<=9223372036854775807:=by rw[<- j];exact H.o.2.2 _ (Zcj (by rw[H.o.2.1];exact m))
   have D:wr.cell? ⟨b,off+i,none⟩=some (Ae ⟨x.toArray⟩):=(a.o.2.cell y).trans t;have h:=Zd0 (l:=ps) (i:=i) (by rw[H.o.2.1];exact m) parts;rw[j]at h;have K:Hid _:=h;have p:=ZlK ⟨x.toArray⟩ (by rw[bsize];exact z) wr
   have I:Hid (((ps.take i).flatMap parts).length<=412000000/\(parts x).length<=103):=⟨d,ZeF x⟩
   clear F t j h d;go_wp2_with fail;refine p.mono ?_;rintro e r ⟨S,rfl,A,s⟩;obtain⟨a2,N,rfl,_,_,C⟩:=A.form
   have q:Hid (Rd r a2 (parts x)/\Own r w.heap.size _ ((ps.take i).flatMap parts)/\An w.heap.size w r):=⟨C,a.o.1.below s,a.o.2.trans (s.mono a.o.2.size)⟩
   clear A s C p;go_wp2_with(at_builtin;refine ZnP rfl (.tmp 12) (.tmp 14) rfl w.heap.size _ ((ps.take i).flatMap parts) (parts x) a2 _ N rfl q.o.2.1 rfl q.o.1 rfl (by have:=I.o;omega) q.o.2.2.size ?_;intro v4 W g f);go_roundg (gk - 1)
   case measure=>omega
   case rel=>exact⟨i+1,by go_num,by omega,by rw[K.o];exact g,q.o.2.2.trans f⟩
  ·obtain rfl:i=n:=by omega
   have e:ps.take i=ps:=Av (by rw[H.o.2.1];omega);rw[e]at a d
   obtain⟨L,u⟩:=Xa (ps.flatMap parts)
   rw[u]at a d;have J:Hid (ps.flatMap parts=L):=u;clear u;obtain⟨M,D,rfl,_,_,B⟩:=a.o.1.form;have Q:=ZiN (c:=D) wr B rfl (by omega);clear B e;go_wp2_with fail;refine Q.mono ?_;rintro e r ⟨S,rfl,P,O⟩;go_wp2;go_ret;exact⟨_,rfl,by rw[J.o];exact Zik P a.o.2.size,a.o.2.trans (O.mono a.o.2.size)⟩
theorem Zgt(k:Nat)(a:k<=1000000)(w:Ap):
  At Am 152 #[Ab Ak (k:Int)] w λ e w'=>e=Aj (Ab Ak ((nby k:Nat):Int))/\w'=w:=by
 have e:(max ((k:Int)*12) 8+8 - 1) / 8=((nby k:Nat):Int):=by unfold nby;omega
 have E:Hid (_=_):=e;clear e;go_enter func152,ntmps152;go_wp2;go_ret;exact⟨by rw[<- E.o];rfl,rfl⟩
theorem Zhd{a:Ap}(h:Zaa S a w)(n:Nat):Zaa S a (w.drewN n):=⟨h.os,h.tape,h.output,h.size,h.block⟩
theorem Znm(a:List Int)(h:k / 8<n):(1::fbytes a n).set (1+k / 8) (fbyte (a++[(k:Int)]) (k / 8))=1::fbytes (a++[(k:Int)]) n:=by
 rw[Gi 1,List.set_cons_succ,Zj3 _ _ _ h]
theorem ZnK(a:List Int)(h:k / 8<n):(1::fbytes a n)[1+k / 8]? = some (fbyte a (k / 8)):=by
 rw[Gi 1,List.getElem?_cons_succ,Zbt _ h]
theorem Zkp(n:Nat):(List.replicate (1+n) (0:UInt8)).set 0 1=1::fbytes [] n:=by
 rw[Zin,Gi,List.replicate_succ,List.set_cons_zero]
theorem Zk2(w:Ap)(i:Rd w ao b)(j:b.length=n)(m:n<=4000000)(k:∀x∈b,x.length<=9223372036854775807)(f:8<fcount b):
  At Am 91 #[Aa ao n c] w λ e w'=>∃v',e=Aj v'/\OwnG encB 5 w' w.heap.size v' [2]/\An w.heap.size w w':=by
 have a:=Zfa (c:=c) w i j m k;unfold fcount at f
 obtain⟨ps,d⟩:=Xa (srt (b.filter isPath))
 rw[d]at a f
 have l:(8:Int)<(ps.length:Int):=by omega
 clear i j k d f;go_enter func91,ntmps91;go_wp2_with fail;refine a.mono ?_;rintro e w1 ⟨q,rfl,h,g⟩;obtain⟨a1,p,rfl,_,_,_⟩:=h.form;have G:Hid (An w.heap.size w w1):=g;clear h g a;go_wp2;go_ret;refine⟨_,rfl,?_,G.o.trans ((bz1 w1 _).mono G.o.size)⟩;exact World.ownsRow_lit w1 #[Ab .u8 2] 1 G.o.size (by decide) rfl
theorem Zoh{s:List Bs}(w:Ap)(ha:Rd w ao s)(hl:s.length=n)(hn:n<=4000000)(F:∀x∈s,x.length<=9223372036854775807)(hc:¬8<fcount s):
  At Am 91 #[Aa ao n c] w λ e w'=>∃v',e=Aj v'/\OwnG encB 5 w' w.heap.size v' (1::fbytes (fones s) (nby (fpaths s).length))/\An w.heap.size w w':=by
 have Z:=Zfa (c:=c) w ha hl hn F;have t:=Ze0 s;have B:=ZmC s
 have R:∀x∈srt (s.filter isPath),x.length<=9223372036854775807:=λ x h=>F x (Ej.1 ((Zbh _ _).1 h)).1
 have U:∀x∈fpaths s,x.length<=9223372036854775807:=by
  intro x h;obtain⟨p,_,h2⟩:=Fq.1 ((Zbh _ _).1 h);have:=Zfi h2;omega
 unfold fones;unfold fcount at hc t
 obtain⟨ps,an⟩:=Xa (srt (s.filter isPath))
 obtain⟨qs,ap⟩:=Xa (fpaths s)
 rw[an]at Z hc t B R;rw[ap]at t B U ⊢
 obtain⟨pn,C⟩:=Xa ps.length
 obtain⟨qn,S⟩:=Xa qs.length
 rw[C]at hc t;rw[S]at t ⊢
 obtain⟨a,P⟩:=Xa (nby qn)
 have K:=Zgt qn (by omega);have ax:=Zp4 qn
 have aA:a<=2000:=by rw[<- P];unfold nby;omega
 rw[P]at K ax ⊢
 have az:¬(8:Int)<(pn:Int):=by omega
 have O:∀w1 a1 c1,Rd w1 a1 ps->_:=λ w1 a1 c1 h=>Zh7 (c:=c1) (ao:=a1) w1 h C (by omega) R
 rw[B]at O
 have L:Hid (ps.length=pn/\qs.length=qn/\∀x∈qs,x.length<=9223372036854775807):=⟨C,S,U⟩
 clear ha hl F an ap R U B C S P;go_enter func91,ntmps91;go_wp2_with fail;refine Z.mono ?_;rintro e w1 ⟨v1,rfl,O1,B1⟩;obtain⟨a1,c1,rfl,_,_,R1⟩:=O1.form;rw[L.o.1];have E:=O w1 a1 c1 R1;have G1:Hid (An w.heap.size w w1):=B1;clear O1 B1 R1 Z O;go_wp2_with fail;refine E.mono ?_;rintro e w2 ⟨v2,rfl,O2,B2⟩;obtain⟨a2,c2,rfl,_,_,R2⟩:=O2.form;rw[L.o.2.1]
 have G2:Hid (An w.heap.size w w2/\Rd w2 a2 qs):=⟨G1.o.trans (B2.mono G1.o.size),R2⟩
 clear O2 B2 R2 E G1;go_wp2_with fail;refine(K _).mono ?_;rintro e d ⟨rfl,rfl⟩;obtain⟨w4,al,O4,B4⟩:=ZjM (1+a) (by omega) d
 have en:((1+a:Nat):Int)=1+(a:Int):=by omega
 rw[en]at al;obtain⟨f0,au,c0,z0⟩:=Zlp O4 (i:=0) (by simp;omega);have O5:=ZiM O4 (i:=0) (by simp;omega) 1;rw[Zkp]at O5;have B5:An d.heap.size d (w4.setCell ⟨d.heap.size,0,none⟩ (Ab .u8 1)):=B4.trans ((Zad 0 _).below B4.size (λ k hk e=>by omega));have H:OwnG encB 5 (w4.setCell ⟨d.heap.size,0,none⟩ (Ab .u8 1)) d.heap.size (Aa (some ⟨d.heap.size,0,none⟩) (1+a) (1+a)) (1::fbytes [] a):=O5;have ag:=Zot _ (OwnB.at (H.low (Nat.zero_le _))) (by simp[ZaB];omega) (by omega) _ (Zkl [] a)
 have G5:Hid (_/\_):=⟨H,B5⟩
 clear K O4 B4 au O5 B5 H;go_wp2_with fail;refine ag.mono ?_;rintro e w5 ⟨rfl,aq⟩;rw[<- aq]at G5;have G5:Hid (OwnG encB 5 w5 d.heap.size (Aa (some ⟨d.heap.size,0,none⟩) (1+a) (1+a)) (1::fbytes [] a)/\An d.heap.size d w5):=G5;clear aq ag c0 z0 al;go_wp2_with fail;go_loopg[32] qn (λ k v wr=>∃i:Nat,v=Ab Ak i/\i+k=qn/\Hid (OwnG encB 5 wr d.heap.size (Aa (some ⟨d.heap.size,0,none⟩) (1+a) (1+a)) (1::fbytes ((qs.take i).flatMap (λ p=>poss p (8*(a:Int)))) a)/\An d.heap.size d wr))
 case atStart=>exact⟨0,rfl,by omega,G5.o⟩
 case round =>
  obtain⟨i,rfl,hi,D⟩:=hrel
  obtain⟨go,N⟩:=Xb gk
  rw[<- N]at hi;have GO:Hid (go=gk):=N;clear N;by_cases ai:i<qn
  ·have id:(i:Int)<(qn:Int):=by omega
   obtain⟨b,off,rfl,aw,ah⟩:=G2.o.2 (by rw[L.o.2.1];omega)
   obtain⟨x,F⟩:=Xa (el qs i)
   have c0:=ah i (by rw[L.o.2.1];omega);rw[F]at c0
   have ay:x.length<=9223372036854775807:=by rw[<- F];exact L.o.2.2 _ (Zcj (by rw[L.o.2.1];exact ai))
   have c1:wr.cell? ⟨b,off+i,none⟩=some (Ae ⟨x.toArray⟩):=(D.o.2.cell aw).trans c0;have W:=Zd0 (l:=qs) (i:=i) (by rw[L.o.2.1];exact ai) (λ p=>poss p (8*(a:Int)));rw[F]at W;have ST:Hid _:=W;have Q:=ZfV x (8*(a:Int)) (by omega) ay wr
   have V:∀z∈poss x (8*(a:Int)),0<=z/\z<8*(a:Int):=λ z h=>ZnE h
   have aj:=ZfJ x (8*(a:Int))
   obtain⟨r,ac⟩:=Xa (poss x (8*(a:Int)))
   obtain⟨u,M⟩:=Xa ((qs.take i).flatMap (λ p=>poss p (8*(a:Int))))
   rw[ac]at Q V aj
   have ar:Hid ((qs.take (i+1)).flatMap (λ p=>poss p (8*(a:Int)))=u++r):=by
    show _=_;rw[ST.o,M,ac]
   rw[M]at D;have RG:Hid (∀z∈r,0<=z/\z<8*(a:Int)):=V;clear ah c0 F W ac M V ST
   obtain⟨zn,ab⟩:=Xa r.length
   go_wp2_with fail;refine Q.mono ?_;rintro e w6 ⟨v6,rfl,O6,B6⟩;obtain⟨a6,c6,rfl,_,_,R6,A6⟩:=O6.form
   have N6:∀p,a6=some p->p.block≠d.heap.size:=by
    intro p hp e;have k1:=(O6.lt p.block (by rw[hp];exact ZhP O6 hp)).1;have k2:=(D.o.1.lt d.heap.size rfl).2;omega
   rw[ab]at aj ⊢
   have G:Hid (RdG encI w6 a6 r/\r.length=zn/\(∀p,a6=some p->p.block≠d.heap.size)/\An d.heap.size d w6/\OwnG encB 5 w6 d.heap.size (Aa (some ⟨d.heap.size,0,none⟩) (1+a) (1+a)) (1::fbytes u a)) :=
    ⟨R6,ab,N6,D.o.2.trans (B6.mono D.o.2.size),D.o.1.below B6⟩
   clear O6 B6 R6 A6 N6 Q ab;go_wp2_with fail;go_loopg[40] zn (λ k v wr=>∃j:Nat,v=Ab Ak j/\j+k=zn/\Hid (OwnG encB 5 wr d.heap.size (Aa (some ⟨d.heap.size,0,none⟩) (1+a) (1+a)) (1::fbytes (u++r.take j) a)/\Zaa (λ g=>g=d.heap.size) w6 wr))
   case atStart=>exact⟨0,rfl,by omega,by rw[List.take_zero,Bp];exact G.o.2.2.2.2,Zaa.refl _ _⟩
   case round =>
    obtain⟨j,rfl,hj,HJ⟩:=hrel;by_cases av:j<zn
    ·have jd:(j:Int)<(zn:Int):=by omega
     obtain⟨y,hy⟩:=Zaf G.o.2.1 av;obtain⟨y0,y1⟩:=RG.o y (List.mem_of_getElem? hy)
     obtain⟨k,rfl⟩:∃k:Nat,y=k:=⟨y.toNat,by omega⟩
     have hk:k / 8<a:=by omega
     have hR:=RdG.turned G.o.1 HJ.o.2 (λ _ p hp=>G.o.2.2.1 p hp);obtain⟨b6,o6,rfl,ak⟩:=hR.some_of hy;have cy:=hR.ints hy;obtain⟨x0,aa,A,I⟩:=Zlp HJ.o.1 (i:=1+k / 8) (by simp[ZaB];omega)
     have ex:x0=fbyte (u++r.take j) (k / 8):=by
      rw[ZnK _ hk]at aa;exact(Option.some.inj aa).symm
     subst ex;have hor:=Zoc (u++r.take j) k
     have f:=λ m=>ZiM (HJ.o.1.below (AS (Ao _ _) m)) (i:=1+k / 8) (by simp[ZaB];omega) (fbyte (u++r.take j++[(k:Int)]) (k / 8))
     rw[Znm _ hk]at f
     have ae:u++r.take j++[(k:Int)]=u++r.take (j+1):=by rw[ZcZ hy,List.append_assoc]
     rw[ae]at f hor
     obtain⟨q,T⟩:=Xa (1+k / 8)
     obtain⟨bb,J⟩:∃bb:Int,((2 ^ (k % 8):Nat):Int)=bb:=⟨_,rfl⟩
     have am:=ZmB k (by omega) q T bb J
     obtain⟨u0,X⟩:∃u0:Int,((fbyte (u++r.take j) (k / 8)).toNat:Int)=u0:=⟨_,rfl⟩
     obtain⟨u1,Y⟩:∃u1:Int,((fbyte (u++r.take (j+1)) (k / 8)).toNat:Int)=u1:=⟨_,rfl⟩
     rw[J,X,Y]at hor;rw[T]at A I f;rw[X]at A;rw[Y]at f
     have aB:q<1+a:=by omega
     have PU:Hid _:=f
     have ad:∀m,(wr.drewN m).cell? ⟨d.heap.size,q,none⟩=some (Ab .u8 u0):=λ _=>A
     have af:∀m,(wr.drewN m).frozen? ⟨d.heap.size,q,none⟩=false:=λ _=>I
     clear aa f ae T J X Y hR A I ak;go_wp2_with fail;refine(am _).mono ?_;rintro e w7 ⟨rfl,m,rfl⟩;have cx:=ad m;have fx:=af m;clear ad af am;go_wp2;go_roundg (gk - 1)
     case measure=>omega
     case rel=>exact⟨j+1,by go_num,by omega,PU.o m,(Zhd HJ.o.2 m).setCell (p:=⟨d.heap.size,q,none⟩) (.inl rfl) _⟩
    ·obtain rfl:j=zn:=by omega
     go_wp2;go_roundg (go - 1)
     case measure=>have:=GO.o;omega
     case rel =>
      refine⟨i+1,by go_num,by omega,?_,G.o.2.2.2.1.trans (HJ.o.2.below G.o.2.2.2.1.size (λ k hk e=>by omega))⟩;rw[ar.o];have:=HJ.o.1;rw[Av (by rw[G.o.2.1];omega)]at this;exact this
  ·obtain rfl:i=qn:=by omega
   go_wp2;go_ret;refine⟨_,rfl,?_,G2.o.1.trans (D.o.2.mono G2.o.1.size)⟩;have:=D.o.1;rw[Av (by rw[L.o.2.1];omega)]at this;exact this.low G2.o.1.size
theorem ZoA(w:Ap)(b:Rd w ao a)(d:a.length=n)(f:n<=4000000)(g:∀x∈a,x.length<=9223372036854775807):
  At Am 91 #[Aa ao n c] w λ e w'=>∃v',e=Aj v'/\OwnG encB 5 w' w.heap.size v' (fmake a)/\An w.heap.size w w':=by
 by_cases h:8<fcount a
 ·rw[fmake,AE h];exact Zk2 w b d f g h
 ·rw[fmake,Aw h];exact Zoh w b d f g h
def St.was(st:St)(c:Cm):List En:=match c.ps with
 | []=>[]
 | p::_=>st.files (st.com p).tree
def St.chg(st:St)(c:Cm):List Bs:=(fdiff (hasS []) (st.was c) (st.files c.tree)).map (·.1)
def St.fil(st:St)(c:Cm):Bs:=fmake (st.chg c)
theorem ZcM(st:St)(i:UInt64):(st.files i).length<=64:=by
 unfold St.files
 cases e:oget st.objs 2 i with
 | none=>simp
 | some b =>
  simp only[Option.bind_some]
  cases a:rdtree b with
  | none=>simp
  | some es =>
   have:=(ZaS (ZaX a).1).1;simpa using this
theorem Zcc(st:St)(i:UInt64):Rise (st.files i)/\∀e∈st.files i,e.1.length<=255:=by
 unfold St.files
 cases e:oget st.objs 2 i with
 | none=>exact⟨Co,by simp⟩
 | some b =>
  simp only[Option.bind_some]
  cases a:rdtree b with
  | none=>exact⟨Co,by simp⟩
  | some es=>exact⟨(ZaS (ZaX a).1).2.2.rise,ZbI (ZaX a).1⟩
theorem Zkj(st:St)(i:UInt64):Fine (st.files i):=λ e a=>by
 have:=(Zcc st i).2 e a;omega
theorem Zfo(st:St)(c:Cm):(st.was c).length<=64/\Rise (st.was c)/\∀e∈st.was c,e.1.length<=255:=by
 unfold St.was
 split
 ·exact⟨by simp,Co,by simp⟩
 ·exact⟨ZcM _ _,Zcc _ _⟩
theorem ZgX(st:St)(c:Cm):(st.chg c).length<=128/\∀x∈st.chg c,x.length<=255:=by
 unfold St.chg fdiff
 constructor
 ·rw[AQ];refine AZ (CK _ _) ?_;rw[AQ];unfold bothP;have f:=Zcr ((st.was c).map (·.1)++(st.files c.tree).map (·.1));rw[AD,AQ,AQ]at f;have h:=(Zfo st c).1;have i:=ZcM st c.tree;omega
 ·intro x g;obtain⟨d,hd,rfl⟩:=Bu.1 g;obtain⟨y,b,rfl⟩:=Bu.1 (Ej.1 hd).1;unfold bothP at b
  rcases AK.1 ((Zbh _ _).1 b)with q|q
  ·obtain⟨e,a,rfl⟩:=Bu.1 q;exact(Zfo st c).2.2 e a
  ·obtain⟨e,a,rfl⟩:=Bu.1 q;exact(Zcc st c.tree).2 e a
theorem RdG.chgs4 {w:World} {b off:Nat} {cs:List Chg} (h:RdG encC w (some ⟨b,off,none⟩) cs) {i:Nat} {c:Chg} (hx:cs[i]? = some c):w.cell? ⟨b,off+i*3,none⟩=some (tx c.1)/\w.cell? ⟨b,off+i*3+1,none⟩=some (.int .u64 (c.2.1.toNat:Int))/\w.cell? ⟨b,off+i*3+2,none⟩=some (.int .u64 (c.2.2.toNat:Int)):=by
 obtain ⟨b', off', e, hlt, hc⟩ := h (by rcases Nat.lt_or_ge i cs.length with q | q
                                        · omega
                                        · rw [List.getElem?_eq_none q] at hx; cases hx)
 obtain ⟨rfl,rfl⟩:b=b'/\off=off':=by simpa using e
 have h0:=hc i c hx 0 _ rfl;have h1:=hc i c hx 1 _ rfl;have h2:=hc i c hx 2 _ rfl;exact ⟨by simpa [encC] using h0,by simpa [encC,Nat.add_assoc] using h1,by simpa [encC,Nat.add_assoc] using h2⟩
theorem ZmI{s b:Nat}{st:St}{r:UInt64}{pa:Option Addr}{pn pc:Nat}{dt:Int}{nt:Bs}{cm:Cm}(h:Zac w s b st S)(hP:RdG encU w pa cm.ps)(hn:cm.ps.length=pn)(ah:cm.tree=r):
  At Am 34 #[.pointer (some ⟨s,0,none⟩),.agg #[Ab Al (r.toNat:Int),Aa pa pn pc,Ab Ak dt,tx nt]] w λ e w'=>∃v,e=Aj v/\Hid (OwnG encB 5 w' w.heap.size v (st.fil cm)/\An w.heap.size w w'):=by
 obtain⟨q,l⟩:=Xa w.heap.size
 obtain⟨d,y⟩:=Xb (w.alloc (Ai #[Ab Al (r.toNat:Int),Aa pa pn pc,Ab Ak dt,tx nt] 58))
 have z0:d.cell? ⟨q,0,none⟩=some (Ab Al (r.toNat:Int)):=by rw[y,<- l];simp
 have z1:d.cell? ⟨q,1,none⟩=some (Aa pa pn pc):=by rw[y,<- l];simp
 have B0:An q w d:=by rw[y,<- l];exact bz1 _ _
 have O:An w.heap.size w d:=by rw[l];exact B0
 have H:Hid (Zac d s b st S/\RdG encU d pa cm.ps/\cm.ps.length=pn/\cm.tree=r/\w.heap.size=q/\An q w d/\q<d.heap.size):=⟨h.below O,hP.below O,hn,ah,l,B0,by rw[y];simp;omega⟩
 have Z0:Hid (d.cell? ⟨q,0,none⟩=some (Ab Al (r.toNat:Int))):=z0;rw[l];clear h hP hn ah B0 O z0;go_enter func34,ntmps34
 go_upto_region 2 with fail
 rw[<- y];clear y l
 go_upto_if 16 with fail
 go_cut[5] (λ wv u=>∃a n c,wv=Aa a n c/\Hid (RdG encE u a (st.was cm)/\(st.was cm).length=n/\n<=c/\An d.heap.size d u))
 case first =>
  cases m:cm.ps with
  | nil =>
   have p0:pn=0:=by rw[<- H.o.2.2.1,m];rfl
   subst p0
   have hw:st.was cm=[]:=by unfold St.was;rw[m]
   have j:Hid (RdG encE d none (st.was cm)/\(st.was cm).length=0/\0<=0/\An d.heap.size d d):=by
    rw[hw];exact⟨RdG.nil _ _ _,rfl,Az _,Ao _ _⟩
   clear hw m;go_wp2_with fail;go_meet;exact⟨none,0,0,rfl,j.o⟩
  | cons p t =>
   have p0:(0:Int)<(pn:Int):=by
    rw[<- H.o.2.2.1,m,A3];omega
   have p1:0<pn:=by omega
   have f:cm.ps[0]? = some p:=by rw[m];rfl
   obtain⟨pb,off,rfl,_⟩:=H.o.2.1.some_of f;have cx:=(H.o.2.1.nums f).2
   have hw:st.was cm=st.files (st.com p).tree:=by unfold St.was;rw[m]
   have HW:Hid (st.was cm=st.files (st.com p).tree):=hw
   obtain⟨gb,ac⟩:=Xa (st.has 3 p)
   have F:=ZhS H.o.1 p gb ac
   obtain⟨P,ab⟩:=Xa (st.com p)
   rw[ab]at F HW
   obtain⟨A,N⟩:=Xa P.tree
   rw[N]at F HW;clear f hw m ac ab N;rw[Nat.add_zero]at cx;go_wp2_with fail;refine F.mono ?_;rintro e X ⟨qa,qc,rfl,J⟩;clear F cx z1
   have SA:Hid (Zac X s b st S/\An d.heap.size d X):=⟨H.o.1.below J.o.2.2.1,J.o.2.2.1⟩
   obtain⟨W3,E⟩:=Xb (X.alloc (Ai #[Ab Al (A.toNat:Int),Aa qa P.ps.length qc,Ab Ak P.date,tx P.note] 58))
   obtain⟨Z,hZ⟩:=Xa X.heap.size
   have y0:W3.cell? ⟨Z,0,none⟩=some (Ab Al (A.toNat:Int)):=by rw[E,<- hZ];simp
   have B3:Hid (An X.heap.size X W3):=by rw[E];exact bz1 _ _
   clear J
   go_upto_region 4 with fail
   rw[<- E];clear E hZ
   obtain⟨fb,C⟩:=Xa (st.has 2 A)
   have D:=Zhj (SA.o.1.below B3.o) A fb C;clear C;go_wp2_with fail;refine D.mono ?_;rintro e Y ⟨fv,rfl,L⟩;obtain⟨fa,fc,rfl,W,f2,f3,_⟩:=L.o.1.form
   have j:Hid (RdG encE Y fa (st.was cm)/\(st.was cm).length=(st.files A).length/\(st.files A).length<=fc/\An d.heap.size d Y):=by
    rw[HW.o];exact⟨f3,rfl,W,(SA.o.2.trans (B3.o.mono SA.o.2.size)).trans (L.o.2.mono (AZ SA.o.2.size B3.o.size))⟩
   clear D L W f2 f3 y0;go_wp2_with fail;go_meet;exact⟨fa,_,fc,rfl,j.o⟩
 case rest =>
  obtain⟨a,n,c,rfl,G⟩:=hcut;clear z1;have z0:wc.cell? ⟨q,0,none⟩=some (Ab Al (r.toNat:Int)):=(G.o.2.2.2.cell H.o.2.2.2.2.2.2).trans Z0.o
  obtain⟨fb,C⟩:=Xa (st.has 2 r)
  have D:=Zhj (H.o.1.below G.o.2.2.2) r fb C;clear C;go_wp2_with fail;refine D.mono ?_;rintro e Y ⟨fv,rfl,L⟩;obtain⟨fa,fc,rfl,W,f2,f3,_⟩:=L.o.1.form
  obtain⟨fn,U⟩:=Xa ((st.files r).length)
  rw[U]at W ⊢;have R:=ZnU (K:=max c fc) (lc:=0) Y (G.o.1.below L.o.2) f3 G.o.2.1 U G.o.2.2.1 W (Nat.le_max_left _ _) (Nat.le_max_right _ _) (by have:=(Zfo st cm).1;have:=G.o.2.1;omega) (by have:=ZcM st r;omega) (Zfo st cm).2.1 (Zcc st r).1 (λ e he=>by have:=(Zfo st cm).2.2 e he;omega) (Zkj st r) (Rd.nil Y none) rfl (by decide)
  have B4:Hid (An q w Y):=by
   have h1:=G.o.2.2.2.trans (L.o.2.mono G.o.2.2.2.size);exact H.o.2.2.2.2.2.1.trans (h1.mono (Nat.le_of_lt H.o.2.2.2.2.2.2))
  obtain⟨cs,Q⟩:=Xa (fdiff (hasS []) (st.was cm) (st.files r))
  rw[Q]at R
  have HC:Hid (st.chg cm=cs.map (·.1)):=by
   show St.chg _ _=_;unfold St.chg;rw[H.o.2.2.2.1,Q]
  clear D L W f2 f3 U Q z0;go_wp2_with fail;refine R.mono ?_;rintro e g ⟨dv,rfl,O5,b5⟩;obtain⟨da,dc,rfl,_,_,d3,_⟩:=O5.form
  obtain⟨dn,T⟩:=Xa cs.length
  rw[T]
  have aj:dn<=128:=by
   have:=(ZgX st cm).1;rw[HC.o,AQ]at this;omega
  have V:Hid (RdG encC g da cs/\cs.length=dn/\An q w g):=⟨d3,T,B4.o.trans (b5.mono (by rw[<- H.o.2.2.2.2.1];exact B4.o.size))⟩
  have S0:Hid (Own g q (Aa none 0 0) ((cs.take 0).map (·.1))/\An g.heap.size g g):=⟨Own.nil _ _,Ao _ _⟩
  clear R O5 b5 d3 T B4;go_wp2_with fail;go_loopg[10,45] dn (λ k bv iv wr=>∃i:Nat,iv=Ab Ak i/\i+k=dn/\Hid (Own wr g.heap.size bv ((cs.take i).map (·.1))/\An g.heap.size g wr))
  case atStart=>exact⟨0,rfl,by omega,Own.nil _ _,Ao _ _⟩
  case round =>
   obtain⟨i,rfl,hi,I⟩:=hrel;clear S0;by_cases ai:i<dn
   ·have id:(i:Int)<(dn:Int):=by omega
    have ad:i<cs.length:=by rw[V.o.2.1];exact ai
    obtain⟨x,hx⟩:=Xa (cs[i])
    have f:cs[i]? = some x:=by rw[Aq ad,hx]
    obtain⟨pb,off,rfl,_⟩:=V.o.1.some_of f;obtain⟨c0,c1,P⟩:=(V.o.1.below I.o.2).chgs4 f
    have z:(cs.take (i+1)).map (·.1)=(cs.take i).map (·.1)++[x.1]:=by
     rw[List.take_add_one,f,List.map_append]
     rfl
    obtain⟨xp,xo,xn⟩:=x;simp only at c0 c1 P z
    obtain⟨W6,B⟩:=Xb (wr.alloc (Ai #[tx xp,Ab Al (xo.toNat:Int),Ab Al (xn.toNat:Int)] 181))
    obtain⟨Z,hZ⟩:=Xa wr.heap.size
    have y0:W6.cell? ⟨Z,0,none⟩=some (Ae ⟨xp.toArray⟩):=by rw[B,<- hZ];simp[tx]
    have HT:Hid ((cs.take (i+1)).map (·.1)=(cs.take i).map (·.1)++[xp]/\An g.heap.size g W6):=⟨z,by rw[B];exact I.o.2.trans ((bz1 _ _).mono I.o.2.size)⟩
    have hO:=I.o.1.below (bz1 wr (Ai #[tx xp,Ab Al (xo.toNat:Int),Ab Al (xn.toNat:Int)] 181));rw[<- B]at hO;have ag:g.heap.size<=W6.heap.size:=HT.o.2.size
    have M:((cs.take i).map (·.1)).length<=4000000:=by rw[AQ,AM];omega
    clear ad hx f z
    go_upto_region 10 with fail
    rw[<- B];clear B hZ c0 c1 P;go_wp2_with(at_builtin;refine ZaZ rfl (.tmp 49) (.tmp 52) rfl g.heap.size _ _ xp _ rfl hO rfl M ag ?_;intro v7 w7 af aa)
    have j:Hid (Own w7 g.heap.size v7 ((cs.take (i+1)).map (·.1))/\An g.heap.size g w7):=by
     rw[HT.o.1];exact⟨af,HT.o.2.trans aa⟩
    clear af aa hO ag M y0;go_wp2_with fail;go_roundg (gk - 1)
    case measure=>omega
    case rel=>exact⟨i+1,by go_num,by omega,j.o⟩
   ·obtain rfl:i=dn:=by omega
    have id:¬(i:Int)<(i:Int):=by omega
    have z:cs.take i=cs:=Av (by rw[V.o.2.1];exact Az _);rw[z,<- HC.o]at I;obtain⟨va,vc,rfl,v1,v2,v3⟩:=I.o.1.form;have ae:=ZoA (c:=vc) wr v3 rfl (by have:=(ZgX st cm).1;omega) (λ x hx=>by have:=(ZgX st cm).2 x hx;omega)
    have FB:Hid (An q w wr/\q<=wr.heap.size):=by
     have h0:=V.o.2.2.size;have h1:=I.o.2.size;have h2:=H.o.2.2.2.2.1;exact⟨V.o.2.2.trans (I.o.2.mono (by omega)),by omega⟩
    clear z v1 v2 v3;go_wp2_with fail;refine ae.mono ?_;rintro e w8 ⟨v8,rfl,o8,b8⟩
    have j:Hid (OwnG encB 5 w8 q v8 (st.fil cm)/\An q w w8):=⟨o8.low FB.o.2,FB.o.1.trans (b8.mono FB.o.2)⟩
    clear o8 b8 ae;go_wp2;go_ret;exact⟨_,rfl,j.o⟩
end Go.Proofs.YtlojblelpaegpaaGreat
