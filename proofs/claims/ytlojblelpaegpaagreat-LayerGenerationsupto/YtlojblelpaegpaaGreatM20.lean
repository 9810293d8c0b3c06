/-
  Several texts, laid together.
-/
import Derived.Test.YtlojblelpaegpaaGreatM19
set_option maxHeartbeats 6400000
set_option maxRecDepth 100000
open Go renaming World->Ap,Value->Ar,Calls->At,convert->DK,bodyPost_ret->As
open Go.RowKit renaming Below->An
open List renaming length_map->AQ,length_tail->Gd
open Go.Value renaming int->Ab,slice->Aa,bool->Ad,string->Ae,tuple->Af,agg->Ag,pointer->Ah
open Go.Obj renaming cells->Ai
open Go.Ending renaming returned->Aj
open Go.IntKind renaming i64->Ak,u64->Al
open Go.Proofs.Tryz renaming prog->Am
namespace Go.Proofs.YtlojblelpaegpaaGreat
open Go.RowKit
theorem BoxA.c14{w:Ap}{Q:Nat}{t:TypeId}{a0 a1 a2 a3 a4 a5 a6 a7 a8 a9 a b c d:Ar}(h:BoxA w Q t #[a0,a1,a2,a3,a4,a5,a6,a7,a8,a9,a,b,c,d]):w.cell? ⟨Q,0,none⟩=some a0/\w.cell? ⟨Q,1,none⟩=some a1/\w.cell? ⟨Q,2,none⟩=some a2/\w.cell? ⟨Q,3,none⟩=some a3/\w.cell? ⟨Q,4,none⟩=some a4/\w.cell? ⟨Q,5,none⟩=some a5/\w.cell? ⟨Q,6,none⟩=some a6/\w.cell? ⟨Q,7,none⟩=some a7/\w.cell? ⟨Q,8,none⟩=some a8/\w.cell? ⟨Q,9,none⟩=some a9/\w.cell? ⟨Q,10,none⟩=some a/\w.cell? ⟨Q,11,none⟩=some b/\w.cell? ⟨Q,12,none⟩=some c/\w.cell? ⟨Q,13,none⟩=some d:=
 ⟨h.cell rfl,h.cell rfl,h.cell rfl,h.cell rfl,h.cell rfl,h.cell rfl,h.cell rfl,h.cell rfl,h.cell rfl,h.cell rfl,h.cell rfl,h.cell rfl,h.cell rfl,h.cell rfl⟩
theorem BoxA.t14{w:Ap}{Q:Nat}{t:TypeId}{cs:Array Ar}(h:BoxA w Q t cs):w.frozen? ⟨Q,0,none⟩=false/\w.frozen? ⟨Q,1,none⟩=false/\w.frozen? ⟨Q,2,none⟩=false/\w.frozen? ⟨Q,3,none⟩=false/\w.frozen? ⟨Q,4,none⟩=false/\w.frozen? ⟨Q,5,none⟩=false/\w.frozen? ⟨Q,6,none⟩=false/\w.frozen? ⟨Q,7,none⟩=false/\w.frozen? ⟨Q,8,none⟩=false/\w.frozen? ⟨Q,9,none⟩=false/\w.frozen? ⟨Q,10,none⟩=false/\w.frozen? ⟨Q,11,none⟩=false/\w.frozen? ⟨Q,12,none⟩=false/\w.frozen? ⟨Q,13,none⟩=false:=
 ⟨h.thaw _,h.thaw _,h.thaw _,h.thaw _,h.thaw _,h.thaw _,h.thaw _,h.thaw _,h.thaw _,h.thaw _,h.thaw _,h.thaw _,h.thaw _,h.thaw _⟩
abbrev wdC(vd vs vf:Ar)(wr:Int)(ar de:Bool)(af ke:Int)(vo vr vt bv tv cv:Ar):Array Ar:=#[vd,vs,vf,Ab Ak wr,Ad ar,Ad de,Ab Ak af,Ab Ak ke,vo,vr,vt,bv,tv,cv]
def anode(data:Bs)(qs:List Int)(dt:Int)(tids cids:List UInt64):Cm:=⟨pickU tids (pickI qs 0),qs.tail.map (pickU cids),dt,data⟩
theorem ZmM{qs:List Int}{cids:List UInt64}{i:Nat}{x:Int}(b:1<=i)(a:qs[i]? = some x):(qs.tail.take i).map (pickU cids)=(qs.tail.take (i - 1)).map (pickU cids)++[pickU cids x]:=by
 obtain⟨j,rfl⟩:∃j,i=j+1:=⟨i - 1,by omega⟩
 have e:qs.tail[j]? = some x:=by rw[List.getElem?_tail];exact a
 rw[Nat.add_sub_cancel,List.take_add_one,e,List.map_append]
 rfl
theorem ZmJ{w:Ap}{da qa n r:Option Addr}{dn dc qn qc l tc p cc:Nat}{data:Bs}{qs:List Int}{c cids:List UInt64}(k:Int)(F:Ar)(nm:ByteArray)(dt kp:Int)
  (G vs vf:Ar) (M:Int) (I J:Bool) (K L:Int) (vo vr vt D:Ar)
  (hd:BAt w (Aa da dn dc) data) (nt:ByteArray) (af:nt=⟨data.toArray⟩) (hq:RdG encI w qa qs) (T:qs.length=qn) (av:qn*8<=140737488355328) (s:RdG encU w n c) (ag:c.length=l) (ah:l<=4000000000000000000) (hc:RdG encU w r cids) (ad:cids.length=p) (aj:p<=4000000000000000000) (f:Int) (ai:((anode data qs dt c cids).tree.toNat:Int)=f) (N:Nat) (hN:(anode data qs dt c cids).ps.length=N) :
  At Am 67 #[actV k (Aa da dn dc) F (Aa qa qn qc) nm dt kp,Ag (wdC G vs vf M I J K L vo vr vt D (Aa n l tc) (Aa r p cc))] w λ e w'=>∃ua uc,e=Aj (Ag #[Ab Al f,Aa ua N uc,Ab Ak dt,Ae nt])/\Hid (OwnG encU 44 w' (w.heap.size+4) (Aa ua N uc) (anode data qs dt c cids).ps/\An w.heap.size w w'):=by
 obtain⟨y,hy⟩:=Xa (pickI qs 0)
 obtain⟨W,hW⟩:=Xa (((w.alloc (Ai (actC k (Aa da dn dc) F (Aa qa qn qc) nm dt kp) 81)).alloc (Ai (wdC G vs vf M I J K L vo vr vt D (Aa n l tc) (Aa r p cc)) 36)).alloc (Ai #[Ab Al 0,Aa none 0 0,Ab Ak 0,Ae ⟨#[]⟩] 58))
 have bW:An w.heap.size w W:=by rw[<- hW];exact bz3 _ _ _ _
 have h:Hid (BoxA W w.heap.size 81 (actC k (Aa da dn dc) F (Aa qa qn qc) nm dt kp)/\BoxA W (w.heap.size+1) 36 (wdC G vs vf M I J K L vo vr vt D (Aa n l tc) (Aa r p cc))/\BoxA W (w.heap.size+2) 58 #[Ab Al 0,Aa none 0 0,Ab Ak 0,Ae ⟨#[]⟩]/\An w.heap.size w W):=by
  rw[<- hW];exact Zcl _ _ _ _ _ _ _
 have P:Hid (An W.heap.size W W.drew):=(Below.refl _ _).drew;have Q:Hid (An W.heap.size W (W.alloc (Ai #[Ab Al 0,Aa none 0 0,Ab Ak 0,Ae ⟨#[]⟩] 58)).drew):=(bz1 W _).drew;have aa:Hid (An W.heap.size W (W.alloc (Ai #[Ab Al f,Aa none 0 0,Ab Ak dt,Ae nt] 58)).drew):=(bz1 W _).drew
 have t:∀u,An W.heap.size W u->An w.heap.size w u:=λ u b=>bW.trans (b.mono bW.size)
 have KS:Hid (∀u,An W.heap.size W u->u.cell? ⟨w.heap.size,1,none⟩=some (Aa da dn dc)/\u.cell? ⟨w.heap.size,3,none⟩=some (Aa qa qn qc)/\u.cell? ⟨w.heap.size,5,none⟩=some (Ab Ak dt)/\u.cell? ⟨w.heap.size+1,12,none⟩=some (Aa n l tc)/\(DK 61 9 (Aa da dn dc)).run Am u=.ok (Ae nt) u):=by
  intro u b;have b1:=h.o.1.below b h.o.1.lt;have b2:=h.o.2.1.below b h.o.2.1.lt;refine⟨b1.cell (j:=1) rfl,b1.cell (j:=3) rfl,b1.cell (j:=5) rfl,b2.cell (j:=12) rfl,?_⟩;rw[Za1 (hd.below (t u b)),af]
 have P1:Hid (∀u,An W.heap.size W u->At Am 71 #[Aa qa qn qc,Ab Ak 0] u λ e w'=>e=Aj (Ab Ak y)/\w'=u):=λ u C=>ZcO (hq.below (t u C)) T (by omega) 0 y hy
 have P2:Hid (∀u,An W.heap.size W u->At Am 11 #[Aa n l tc,Ab Ak y] u λ e w'=>e=Aj (Ab Al f)/\w'=u):=λ u C=>ZbF (s.below (t u C)) ag ah y f (by rw[<- ai,<- hy];rfl)
 have H:Hid (RdG encI w qa qs/\qs.length=qn/\RdG encU w r cids/\cids.length=p/\(anode data qs dt c cids).ps=qs.tail.map (pickU cids)):=⟨hq,T,hc,ad,rfl⟩
 clear hq T hc ad hd hy ai s ag ah af t;go_enter Tryz.func67,Tryz.ntmps67
 go_upto_region 1 with fail
 have HW:Hid (((w.alloc (Ai (actC k (Aa da dn dc) F (Aa qa qn qc) nm dt kp) 81)).alloc (Ai (wdC G vs vf M I J K L vo vr vt D (Aa n l tc) (Aa r p cc)) 36)).alloc (Ai #[Ab Al 0,Aa none 0 0,Ab Ak 0,Ae ⟨#[]⟩] 58)=W):=hW;have n0:=h.o.1.cell (j:=1) rfl;have n1:=h.o.1.cell (j:=3) rfl;have n2:=h.o.1.cell (j:=5) rfl;have n3:=h.o.2.1.cell (j:=12) rfl;have l0:=h.o.1.lt;have l1:=h.o.2.1.lt;clear hW
 have HY:Hid (BoxA (W.alloc (Ai #[Ab Al f,Aa none 0 0,Ab Ak dt,Ae nt] 58)).drew w.heap.size 81 (actC k (Aa da dn dc) F (Aa qa qn qc) nm dt kp)/\BoxA (W.alloc (Ai #[Ab Al f,Aa none 0 0,Ab Ak dt,Ae nt] 58)).drew (w.heap.size+1) 36 (wdC G vs vf M I J K L vo vr vt D (Aa n l tc) (Aa r p cc))/\BoxA (W.alloc (Ai #[Ab Al f,Aa none 0 0,Ab Ak dt,Ae nt] 58)).drew (w.heap.size+1+1) 58 #[Ab Al 0,Aa none 0 0,Ab Ak 0,Ae ⟨#[]⟩]/\BoxA (W.alloc (Ai #[Ab Al f,Aa none 0 0,Ab Ak dt,Ae nt] 58)).drew W.heap.size 58 #[Ab Al f,Aa none 0 0,Ab Ak dt,Ae nt]/\OwnG encU 44 (W.alloc (Ai #[Ab Al f,Aa none 0 0,Ab Ak dt,Ae nt] 58)).drew (w.heap.size+4) (Aa none 0 0) []/\An w.heap.size w (W.alloc (Ai #[Ab Al f,Aa none 0 0,Ab Ak dt,Ae nt] 58)).drew):=by
  have C:=aa.o;exact⟨h.o.1.below C h.o.1.lt,h.o.2.1.below C h.o.2.1.lt,h.o.2.2.1.below C h.o.2.2.1.lt,BoxA.new W _ _,OwnG.nil _ _ _ _,h.o.2.2.2.trans (C.mono h.o.2.2.2.size)⟩
 go_cut[5] (λ zv u=>zv=Ah (some ⟨W.heap.size,0,none⟩)/\Hid (BoxA u w.heap.size 81 (actC k (Aa da dn dc) F (Aa qa qn qc) nm dt kp)/\BoxA u (w.heap.size+1) 36 (wdC G vs vf M I J K L vo vr vt D (Aa n l tc) (Aa r p cc))/\BoxA u (w.heap.size+1+1) 58 #[Ab Al 0,Aa none 0 0,Ab Ak 0,Ae ⟨#[]⟩]/\BoxA u W.heap.size 58 #[Ab Al f,Aa none 0 0,Ab Ak dt,Ae nt]/\OwnG encU 44 u (w.heap.size+4) (Aa none 0 0) []/\An w.heap.size w u))
 case first =>
  have ao:W.drew.cell? ⟨w.heap.size,1,none⟩=some (Aa da dn dc)/\W.drew.cell? ⟨w.heap.size,3,none⟩=some (Aa qa qn qc)/\W.drew.cell? ⟨w.heap.size,5,none⟩=some (Ab Ak dt)/\W.drew.cell? ⟨w.heap.size+1,12,none⟩=some (Aa n l tc)/\(DK 61 9 (Aa da dn dc)).run Am W.drew=.ok (Ae nt) W.drew:=KS.o _ P.o;have ap:(W.alloc (Ai #[Ab Al 0,Aa none 0 0,Ab Ak 0,Ae ⟨#[]⟩] 58)).drew.cell? ⟨w.heap.size,1,none⟩=some (Aa da dn dc)/\(W.alloc (Ai #[Ab Al 0,Aa none 0 0,Ab Ak 0,Ae ⟨#[]⟩] 58)).drew.cell? ⟨w.heap.size,3,none⟩=some (Aa qa qn qc)/\(W.alloc (Ai #[Ab Al 0,Aa none 0 0,Ab Ak 0,Ae ⟨#[]⟩] 58)).drew.cell? ⟨w.heap.size,5,none⟩=some (Ab Ak dt)/\(W.alloc (Ai #[Ab Al 0,Aa none 0 0,Ab Ak 0,Ae ⟨#[]⟩] 58)).drew.cell? ⟨w.heap.size+1,12,none⟩=some (Aa n l tc)/\(DK 61 9 (Aa da dn dc)).run Am (W.alloc (Ai #[Ab Al 0,Aa none 0 0,Ab Ak 0,Ae ⟨#[]⟩] 58)).drew=.ok (Ae nt) (W.alloc (Ai #[Ab Al 0,Aa none 0 0,Ab Ak 0,Ae ⟨#[]⟩] 58)).drew:=KS.o _ Q.o;have aq:(W.alloc (Ai #[Ab Al f,Aa none 0 0,Ab Ak dt,Ae nt] 58)).drew.cell? ⟨w.heap.size,1,none⟩=some (Aa da dn dc)/\(W.alloc (Ai #[Ab Al f,Aa none 0 0,Ab Ak dt,Ae nt] 58)).drew.cell? ⟨w.heap.size,3,none⟩=some (Aa qa qn qc)/\(W.alloc (Ai #[Ab Al f,Aa none 0 0,Ab Ak dt,Ae nt] 58)).drew.cell? ⟨w.heap.size,5,none⟩=some (Ab Ak dt)/\(W.alloc (Ai #[Ab Al f,Aa none 0 0,Ab Ak dt,Ae nt] 58)).drew.cell? ⟨w.heap.size+1,12,none⟩=some (Aa n l tc)/\(DK 61 9 (Aa da dn dc)).run Am (W.alloc (Ai #[Ab Al f,Aa none 0 0,Ab Ak dt,Ae nt] 58)).drew=.ok (Ae nt) (W.alloc (Ai #[Ab Al f,Aa none 0 0,Ab Ak dt,Ae nt] 58)).drew:=KS.o _ aa.o
  go_region_held3 (λ u=>u.cell? ⟨w.heap.size,1,none⟩=some (Aa da dn dc)/\u.cell? ⟨w.heap.size,3,none⟩=some (Aa qa qn qc)/\u.cell? ⟨w.heap.size,5,none⟩=some (Ab Ak dt)/\u.cell? ⟨w.heap.size+1,12,none⟩=some (Aa n l tc)/\(DK 61 9 (Aa da dn dc)).run Am u=.ok (Ae nt) u)
   (first | with_reducible exact ao | with_reducible exact ap | with_reducible exact aq)
   (first
    | (go_at_call 71;(with_reducible refine(P1.o _ P.o).mono ?_);rintro e X ⟨rfl,d⟩;rw[d];clear d X)
    | (go_at_call 71;(with_reducible refine(P1.o _ Q.o).mono ?_);rintro e X ⟨rfl,d⟩;rw[d];clear d X)
    | (go_at_call 11;(with_reducible refine(P2.o _ P.o).mono ?_);rintro e X ⟨rfl,d⟩;rw[d];clear d X)
    | (go_at_call 11;(with_reducible refine(P2.o _ Q.o).mono ?_);rintro e X ⟨rfl,d⟩;rw[d];clear d X))
  all_goals
   go_wp2_with fail;go_meet;exact⟨rfl,HY.o⟩
 case rest =>
  obtain⟨rfl,HX⟩:=hcut
  have EW:Hid (W.heap.size=w.heap.size+3):=by
   show W.heap.size=w.heap.size+3;rw[<- HW.o];simp
  clear n0 n1 n2 n3;go_wp2_with fail;go_loopg[6] (qn - 1) (λ m iv wr=>∃(i j:Nat) (E:Option Addr) (lc:Nat),iv=Ab Ak i/\i=j+1/\j+m=qn - 1/\Hid (BoxA wr w.heap.size 81 (actC k (Aa da dn dc) F (Aa qa qn qc) nm dt kp)/\BoxA wr (w.heap.size+1) 36 (wdC G vs vf M I J K L vo vr vt D (Aa n l tc) (Aa r p cc))/\BoxA wr (w.heap.size+1+1) 58 #[Ab Al 0,Aa none 0 0,Ab Ak 0,Ae ⟨#[]⟩]/\BoxA wr W.heap.size 58 #[Ab Al f,Aa E j lc,Ab Ak dt,Ae nt]/\OwnG encU 44 wr (w.heap.size+4) (Aa E j lc) ((qs.tail.take j).map (pickU cids))/\An w.heap.size w wr))
  case atStart=>exact⟨1,0,none,0,rfl,rfl,by omega,HX.o⟩
  case round =>
   obtain⟨i,j,E,lc,rfl,A,hi,a⟩:=hrel;have x3:=a.o.1.cell (j:=3) rfl;by_cases ak:i<qn
   ·have id:(i:Int)<(qn:Int):=by omega
    have ax:(0:Int)<=(i:Int):=by omega
    obtain⟨x,hx⟩:=Zaf H.o.2.1 ak;obtain⟨b,off,rfl,ae⟩:=H.o.1.some_of hx;have c0:=(H.o.1.below a.o.2.2.2.2.2).ints hx;have ar:b<wr.heap.size:=Nat.lt_of_lt_of_le ae a.o.2.2.2.2.2.size;have y5:=a.o.2.1.cell (j:=13) rfl;have z1:=a.o.2.2.2.1.cell (j:=1) rfl;have am:=a.o.2.2.2.1.lt
    have aw:w.heap.size+4<=wr.heap.size:=by have:=EW.o;omega
    have ab:Hid (i=j+1/\j+gk=qn - 1):=⟨A,hi⟩
    obtain⟨z,hz⟩:=Xa (pickU cids x)
    obtain⟨O,V⟩:∃O:Int,(z.toNat:Int)=O:=⟨_,rfl⟩
    have U:=ZmM (cids:=cids) (i:=i) (by omega) hx;rw[show i - 1=j by omega,hz]at U
    have hj:((qs.tail.take j).map (pickU cids)).length=j:=by
     rw[AQ,List.length_take,Gd,H.o.2.1];omega
    have HS:Hid ((qs.tail.take i).map (pickU cids)=(qs.tail.take j).map (pickU cids)++[z]/\((qs.tail.take j).map (pickU cids)).length=j/\((qs.tail.take j).map (pickU cids)++[z]).length=i):=⟨U,hj,by rw[List.length_append,hj,A];rfl⟩
    have P3:Hid (At Am 11 #[Aa r p cc,Ab Ak x] wr.drew λ e w'=>e=Aj (Ab Al O)/\w'=wr.drew):=ZbF (H.o.2.2.1.below a.o.2.2.2.2.2.drew) H.o.2.2.2.1 aj x O (by rw[hz,V])
    have HC:Hid (∀j u,(encU.cells z)[j]? = some u->(wr.drew.alloc (Ai #[Ab Al O] 44)).cell? ((⟨wr.heap.size,0,none⟩:Addr).add j)=some u):=by
     have:=Zau encU wr.drew z 44;rw[show(encU.cells z).toArray=#[Ab Al O]from(by show #[Ab Al (z.toNat:Int)]=_;rw[V])]at this;exact this
    have ay:=(a.o.2.2.2.1.below (bz1 wr (Ai #[Ab Al O] 44)) am).cell (j:=1) rfl
    have au:(j+1)*8<=140737488355328:=by omega
    clear hx hz V U hj ae A hi;go_wp2_with fail
    go_region_law
     (first
      | (refine Za5 rfl (.tmp 29) (.tmp 34) 11 #[34,3] rfl Zbk (Aa r p cc) (Ab Ak x) (Ab Al O) (by simp[Act.eval]) (by simp[Act.eval]) P3.o ?_)
      | (refine Za2 encU 44 34 8 _ rfl Tryz.info44 Tryz.underlying34 rfl (.tmp 27) (.tmp 36) rfl (w.heap.size+4) (Aa E j lc) ((qs.tail.take j).map (pickU cids)) z (by simp[Act.eval]) (a.o.2.2.2.2.1.below ((Below.refl _ wr).drew.trans (bz1 wr.drew _))) wr.heap.size (by simp[Act.eval]) HC.o (by rw[HS.o.2.1];omega) (by rw[HS.o.2.1];simp only[maxLen];omega) (by simp;omega) ?_;intro v5 Z R ac al an;obtain⟨a5,Y,e5,_,_,_,_⟩:=OwnG.form R;rw[HS.o.2.2]at e5;subst e5;have B:Hid (OwnG encU 44 Z (w.heap.size+4) (Aa a5 i Y) ((qs.tail.take j).map (pickU cids)++[z])/\An (w.heap.size+4) wr Z):=⟨R,((bz1 wr _).drew.mono (by omega)).trans ac⟩;have Z5:=a.o.2.2.2.1.below B.o.2 (by have:=EW.o;omega);have z5:=Z5.cell (j:=1) rfl;have g5:=Z5.thaw 1;clear Z5 R ac al an)
      | fail)
    all_goals
     have HO:Hid (∀S:Ap,S=Z.setCell ⟨W.heap.size,1,none⟩ (Aa a5 i Y)->BoxA S w.heap.size 81 (actC k (Aa da dn dc) F (Aa (some ⟨b,off,none⟩) qn qc) nm dt kp)/\BoxA S (w.heap.size+1) 36 (wdC G vs vf M I J K L vo vr vt D (Aa n l tc) (Aa r p cc))/\BoxA S (w.heap.size+1+1) 58 #[Ab Al 0,Aa none 0 0,Ab Ak 0,Ae ⟨#[]⟩]/\BoxA S W.heap.size 58 #[Ab Al f,Aa a5 i Y,Ab Ak dt,Ae nt]/\OwnG encU 44 S (w.heap.size+4) (Aa a5 i Y) ((qs.tail.take i).map (pickU cids))/\An w.heap.size w S):=by
      rintro S rfl;have eW:=EW.o;have s:Zaa (λ k=>k=W.heap.size) Z (Z.setCell ⟨W.heap.size,1,none⟩ (Aa a5 i Y)):=Zad 1 _;refine⟨(a.o.1.below B.o.2 (by omega)).turned s (by show ¬w.heap.size=W.heap.size;omega),(a.o.2.1.below B.o.2 (by omega)).turned s (by show ¬w.heap.size+1=W.heap.size;omega),(a.o.2.2.1.below B.o.2 (by omega)).turned s (by show ¬w.heap.size+1+1=W.heap.size;omega),(a.o.2.2.2.1.below B.o.2 (by omega)).put 1 _,?_,?_⟩
      ·rw[HS.o.1];exact B.o.1.stays s (λ g hg q=>by have:=(B.o.1.lt g hg).1;have q':g=W.heap.size:=q;omega)
      ·have b1:An w.heap.size w Z:=a.o.2.2.2.2.2.trans (B.o.2.mono (by omega));exact b1.trans (s.below b1.size (λ k hk q=>by have q':k=W.heap.size:=q;omega))
     go_wp2;go_roundg (gk - 1)
     case measure=>have:=ab.o;omega
     case rel=>exact⟨i+1,i,a5,Y,by go_num,rfl,by have:=ab.o;omega,HO.o _ rfl⟩
   ·have ej:(qs.tail.take j).map (pickU cids)=(anode data qs dt c cids).ps:=by
     rw[H.o.2.2.2.2,List.take_of_length_le (by rw[Gd,H.o.2.1];omega)]
    have eN:j=N:=by
     rw[<- hN,H.o.2.2.2.2,AQ,Gd,H.o.2.1];omega
    subst eN
    have HH:Hid (OwnG encU 44 wr (w.heap.size+4) (Aa E j lc) (anode data qs dt c cids).ps):=by
     have:=a.o.2.2.2.2.1;rw[ej]at this;exact this
    have y0:=a.o.2.2.2.1.cell (j:=0) rfl;have y1:=a.o.2.2.2.1.cell (j:=1) rfl;have y2:=a.o.2.2.2.1.cell (j:=2) rfl;have y3:=a.o.2.2.2.1.cell (j:=3) rfl;have z0:=a.o.2.2.1.cell (j:=0) rfl;have z1:=a.o.2.2.1.cell (j:=1) rfl;have z2:=a.o.2.2.1.cell (j:=2) rfl;have z3:=a.o.2.2.1.cell (j:=3) rfl;have f0:=a.o.2.2.1.thaw 0;have f1:=a.o.2.2.1.thaw 1;have f2:=a.o.2.2.1.thaw 2;have f3:=a.o.2.2.1.thaw 3
    have id:¬(i:Int)<(qn:Int):=by omega
    clear ej hN A hi;go_wp2;refine As (v:=Ag #[Ab Al f,Aa E j lc,Ab Ak dt,Ae nt]) ?_ rfl ?_
    ·simp[results,Tryz.f67];go_simp
    ·have s:=ZaC wr (w.heap.size+1+1) (Ab Al f) (Aa E j lc) (Ab Ak dt) (Ae nt);have o:=HH.o.stays s (λ g hg q=>by have:=(HH.o.lt g hg).1;have q':g=w.heap.size+1+1:=q;omega);exact⟨E,lc,rfl,o,a.o.2.2.2.2.2.trans (s.below a.o.2.2.2.2.2.size (λ k hk q=>by have q':k=w.heap.size+1+1:=q;omega))⟩
end Go.Proofs.YtlojblelpaegpaaGreat
namespace Go.Proofs.YtlojblelpaegpaaGreat
open Go.RowKit Go.Maps
section
variable{S:Nat->Prop}{w:World}{b m:Nat}{f:Bs->Option Value}{a k:Int}{d:Dk}
section
variable{wr:World}{c m2 r:Nat}{D:DataW Value}{left:Lit->Bool}{cnt:Nat}{f2:Bs->Option Value}{n2:Nat}
end
end
end Go.Proofs.YtlojblelpaegpaaGreat
namespace Go.Proofs.YtlojblelpaegpaaGreat
open Go.RowKit
theorem Dk.ok0:dk0.ok:=⟨List.Pairwise.nil,(by decide),(by intro f h;cases h),(by decide)⟩
abbrev wdV(s b:Nat)(d:Dk)(vf vo vr vt bv tv cv:Ar):Array Ar:=wdC (Ah (some ⟨b,0,none⟩)) (Ah (some ⟨s,0,none⟩)) vf (d.writes:Int) d.armed d.dead (d.after:Int) (d.keep:Int) vo vr vt bv tv cv
def layL(w:Ap)(Q:Nat):List Ar->Nat->Ap
 | [],_=>w
 | v::t,j=>layL (w.setCell ⟨Q,j,none⟩ v) Q t (j+1)
theorem Zal{W:Ap}(Q:Nat)(vs:List Ar)(j:Nat):Zaa (λ i=>i=Q) W (layL W Q vs j):=by
 induction vs generalizing W j with
 | nil=>exact Zaa.refl _ _
 | cons v t a=>exact(Zad (b:=Q) j v).trans (a (j+1)) (λ i _ q=>q)
theorem Zmy{w a e c:Ap}{s b:Nat}(h:Duo a s b st0 dk0 (λ i=>w.heap.size<i/\i<a.heap.size))(f:An w.heap.size w a)(d:Zaa (λ i=>i=w.heap.size) a e)(b4:An e.heap.size e c):Duo c s b st0 dk0 (λ i=>w.heap.size<=i/\i<c.heap.size)/\An w.heap.size w c:=by
 have bt:=f.trans (d.below f.size (λ i hi q=>by have g:i=w.heap.size:=q;omega));have s3:=b4.size;have j:=d.size;refine⟨((h.stays d (λ i hi q=>?_)).below b4).mono (λ i hi=>?_) (λ i hi=>hi.2),bt.trans (b4.mono bt.size)⟩
 ·have g:i=w.heap.size:=q;omega
 ·omega
theorem ZlA(w:Ap):
  At Am 25 #[] w λ e w'=>∃s b,e=Aj (Af #[Ag (wdV s b dk0 nilV nilV nilV nilV nilV nilV nilV),Ad true])/\Hid (Duo w' s b st0 dk0 (λ i=>w.heap.size<=i/\i<w'.heap.size)/\An w.heap.size w w'):=by
 obtain⟨W,J⟩:=Xa (w.alloc (Ai #[Ah none,Ah none,nilV,Ab Ak 0,Ad false,Ad false,Ab Ak 0,Ab Ak 0,nilV,nilV,nilV,nilV,nilV,nilV] 36))
 have c:Hid (BoxA W w.heap.size 36 #[Ah none,Ah none,nilV,Ab Ak 0,Ad false,Ad false,Ab Ak 0,Ab Ak 0,nilV,nilV,nilV,nilV,nilV,nilV]/\An w.heap.size w W):=by
  rw[<- J];exact⟨BoxA.new _ _ _,bz1 _ _⟩
 have j:=λ w1=>Zke w1
 have m:Hid (∀w1,At Am 60 #[Ag #[nilV,Ab Ak 0,Ad false,Ad false,Ab Ak 0,Ab Ak 0]] w1 λ e w'=>e=Aj (Af #[Ag #[nilV,Ab Ak 0,Ad false,Ad false,Ab Ak 0,Ab Ak 0,nilV,nilV,nilV],Ab Ak 0])/\An w1.heap.size w1 w'):=j;clear j;go_enter Tryz.func25,Tryz.ntmps25;go_wp2_with fail;refine(ZpP W).mono ?_;rintro e w1 ⟨b,rfl,g,b1⟩
 have a:Hid (Zav w1 b dk0 (λ i=>W.heap.size<=i/\i<w1.heap.size)/\An W.heap.size W w1):=⟨g,b1⟩
 clear g b1;go_wp2_with fail;have h:=ZjS a.o.1;refine h.mono ?_;rintro e k ⟨E,u,(⟨_,s,rfl,D⟩ | ⟨r,rfl,A⟩)⟩
 ·have n:Hid (Zaa (λ i=>W.heap.size<=i/\i<w1.heap.size) w1 k/\An W.heap.size W k):=by
   have t:=u.o.2.2;exact⟨t,a.o.2.trans (t.below a.o.2.size (λ i hi q=>by have:=q.1;omega))⟩
  clear h;go_wp2_with fail;refine(m.o k).mono ?_;rintro e f ⟨rfl,d⟩;have P:Hid (An k.heap.size k f):=d
  have l:Hid (Duo f s b st0 dk0 (λ i=>w.heap.size<i/\i<f.heap.size)/\An W.heap.size W f):=by
   have p:=n.o.2.trans (d.mono n.o.2.size);obtain⟨S,y,z⟩:=D.o;obtain⟨C,K,l3⟩:=u.o;have Q:w.heap.size<W.heap.size:=c.o.1.lt;have s1:=a.o.2.size;have s2:=n.o.1.size;have s3:=d.size;refine⟨⟨S,E,y.below d,C.below d,λ i hi=>(z i hi).2,λ i hi=>?_,λ i hi=>hi.2⟩,p⟩
   rcases hi with q|q
   ·have:=(z i q).1;have:=y.lt i q;omega
   ·have:=C.lt i q
    rcases K i q with r|r <;> omega
  clear d;have x:=c.o.1.below l.o.2 c.o.1.lt;obtain⟨x0,x1,x2,x3,x4,x5,x6,x7,x8,x9,L,M,N,O⟩:=x.c14;obtain⟨R,T,f2,U,V,X,Y,Z,f8,f9,F,G,H,I⟩:=x.t14;clear x
  have l0:w.heap.size<f.heap.size:=by have:=c.o.1.lt;have:=l.o.2.size;omega
  go_wp2;refine As (v:=Af #[Ag #[Ah (some ⟨b,0,none⟩),Ah (some ⟨s,0,none⟩),nilV,Ab Ak 0,Ad false,Ad false,Ab Ak 0,Ab Ak 0,nilV,nilV,nilV,nilV,nilV,nilV],Ad true]) ?_ rfl ⟨s,b,rfl,?_⟩
  ·simp[results,Tryz.f25];go_simp
  ·have B:=Zal (W:=f) w.heap.size [Ah (some ⟨b,0,none⟩),Ah (some ⟨s,0,none⟩),nilV,Ab Ak 0,Ad false,Ad false,Ab Ak 0,Ab Ak 0,nilV,nilV,nilV,nilV,nilV,nilV] 0;simp only[layL,Nat.reduceAdd]at B;exact Zmy l.o.1 (c.o.2.trans (l.o.2.mono c.o.2.size)) B (bz1 _ _)
 ·exact absurd A.o.1.symm A.o.2
def kd:Dk:=(sblob st0 dk0 [120]).1.2
theorem hid{p:Prop}(h:p):Hid p:=h
end Go.Proofs.YtlojblelpaegpaaGreat
