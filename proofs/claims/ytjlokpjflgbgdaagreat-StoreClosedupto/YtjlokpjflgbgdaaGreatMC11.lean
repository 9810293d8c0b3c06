/-
  The statements' Node of an act, by a contract.
-/
import Derived.Test.YtjlokpjflgbgdaaGreatMC10
set_option maxHeartbeats 6400000
set_option maxRecDepth 100000
namespace Go.Proofs.YtjlokpjflgbgdaaGreat
open Go.RowKit
abbrev wdC (vd vs vf:Value) (wr:Int) (ar de:Bool) (af ke:Int) (vo vr vt bv tv cv:Value):Array Value:=#[vd,vs,vf,.int .i64 wr,.bool ar,.bool de,.int .i64 af,.int .i64 ke,vo,vr,vt,bv,tv,cv]
def anode (data:Bs) (qs:List Int) (dt:Int) (tids cids:List UInt64):Cm:=⟨pickU tids (pickI qs 0),qs.tail.map (pickU cids),dt,data⟩
theorem tail_snoc {qs:List Int} {cids:List UInt64} {i:Nat} {x:Int} (h1:1<=i) (hx:qs[i]? = some x):(qs.tail.take i).map (pickU cids)=(qs.tail.take (i - 1)).map (pickU cids)++[pickU cids x]:=by
 obtain ⟨j,rfl⟩:∃ j,i=j+1:=⟨i - 1,by omega⟩
 have e:qs.tail[j]? = some x:=by rw [List.getElem?_tail]; exact hx
 rw [Nat.add_sub_cancel,List.take_add_one,e,List.map_append]
 rfl
theorem anode_any {w:World} {da qa ta ca:Option Addr} {dn dc qn qc tn tc cn cc:Nat} {data:Bs} {qs:List Int} {tids cids:List UInt64} (k:Int) (pv:Value) (nm:ByteArray) (dt kp:Int)
  (vd vs vf:Value) (xw:Int) (xa xd:Bool) (xf xk:Int) (vo vr vt bv:Value)
  (hd:BAt w (.slice da dn dc) data) (nt:ByteArray) (hnt:nt=⟨data.toArray⟩) (hq:RdG encI w qa qs) (hql:qs.length=qn) (hqn:qn*8<=140737488355328) (ht:RdG encU w ta tids) (htl:tids.length=tn) (htn:tn<=4000000000000000000) (hc:RdG encU w ca cids) (hcl:cids.length=cn) (hcn:cn<=4000000000000000000) (tr:Int) (htr:((anode data qs dt tids cids).tree.toNat:Int)=tr) (N:Nat) (hN:(anode data qs dt tids cids).ps.length=N) :
  Calls Tryz.prog 52 #[actV k (.slice da dn dc) pv (.slice qa qn qc) nm dt kp,.agg (wdC vd vs vf xw xa xd xf xk vo vr vt bv (.slice ta tn tc) (.slice ca cn cc))] w λ e w'=>∃ ua uc,e=.returned (.agg #[.int .u64 tr,.slice ua N uc,.int .i64 dt,.string nt])/\Hid (OwnG encU 56 w' (w.heap.size+4) (.slice ua N uc) (anode data qs dt tids cids).ps/\Below w.heap.size w w'):=by
 obtain ⟨y,hy⟩:∃ y,pickI qs 0=y:=⟨_,rfl⟩
 obtain ⟨W,hW⟩:∃ W,((w.alloc (.cells (actC k (.slice da dn dc) pv (.slice qa qn qc) nm dt kp) 43)).alloc (.cells (wdC vd vs vf xw xa xd xf xk vo vr vt bv (.slice ta tn tc) (.slice ca cn cc)) 35)).alloc (.cells #[.int .u64 0,.slice none 0 0,.int .i64 0,.string ⟨#[]⟩] 61)=W:=⟨_,rfl⟩
 have bW:Below w.heap.size w W:=by rw [<- hW]; exact bz3 _ _ _ _
 have NB:Hid (BoxA W w.heap.size 43 (actC k (.slice da dn dc) pv (.slice qa qn qc) nm dt kp)/\BoxA W (w.heap.size+1) 35 (wdC vd vs vf xw xa xd xf xk vo vr vt bv (.slice ta tn tc) (.slice ca cn cc))/\BoxA W (w.heap.size+2) 61 #[.int .u64 0,.slice none 0 0,.int .i64 0,.string ⟨#[]⟩]/\Below w.heap.size w W):=by
  rw [<- hW];exact node_boxes3 _ _ _ _ _ _ _
 have HB0:Hid (Below W.heap.size W W.drew):=(Below.refl _ _).drew;have HB1:Hid (Below W.heap.size W (W.alloc (.cells #[.int .u64 0,.slice none 0 0,.int .i64 0,.string ⟨#[]⟩] 61)).drew):=(bz1 W _).drew;have HB2:Hid (Below W.heap.size W (W.alloc (.cells #[.int .u64 tr,.slice none 0 0,.int .i64 dt,.string nt] 61)).drew):=(bz1 W _).drew
 have bWu:∀ u,Below W.heap.size W u->Below w.heap.size w u:=λ u b=>bW.trans (b.mono bW.size)
 have KS:Hid (∀ u,Below W.heap.size W u->u.cell? ⟨w.heap.size,1,none⟩=some (.slice da dn dc)/\u.cell? ⟨w.heap.size,3,none⟩=some (.slice qa qn qc)/\u.cell? ⟨w.heap.size,5,none⟩=some (.int .i64 dt)/\u.cell? ⟨w.heap.size+1,12,none⟩=some (.slice ta tn tc)/\(convert 39 9 (.slice da dn dc)).run Tryz.prog u=.ok (.string nt) u):=by
  intro u b;have b1:=NB.out.1.below b NB.out.1.lt;have b2:=NB.out.2.1.below b NB.out.2.1.lt;refine ⟨b1.cell (j:=1) rfl,b1.cell (j:=3) rfl,b1.cell (j:=5) rfl,b2.cell (j:=12) rfl,?_⟩;rw [conv_str (hd.below (bWu u b)),hnt]
 have P1:Hid (∀ u,Below W.heap.size W u->Calls Tryz.prog 56 #[.slice qa qn qc,.int .i64 0] u λ e w'=>e=.returned (.int .i64 y)/\w'=u):=λ u bu=>pickI_any (hq.below (bWu u bu)) hql (by omega) 0 y hy
 have P2:Hid (∀ u,Below W.heap.size W u->Calls Tryz.prog 32 #[.slice ta tn tc,.int .i64 y] u λ e w'=>e=.returned (.int .u64 tr)/\w'=u):=λ u bu=>pickU_any (ht.below (bWu u bu)) htl htn y tr (by rw [<- htr,<- hy]; rfl)
 have H:Hid (RdG encI w qa qs/\qs.length=qn/\RdG encU w ca cids/\cids.length=cn/\(anode data qs dt tids cids).ps=qs.tail.map (pickU cids)):=⟨hq,hql,hc,hcl,rfl⟩
 clear hq hql hc hcl hd hy htr ht htl htn hnt bWu;go_enter Tryz.func52,Tryz.ntmps52
 go_upto_region 1 with fail
 have HW:Hid (((w.alloc (.cells (actC k (.slice da dn dc) pv (.slice qa qn qc) nm dt kp) 43)).alloc (.cells (wdC vd vs vf xw xa xd xf xk vo vr vt bv (.slice ta tn tc) (.slice ca cn cc)) 35)).alloc (.cells #[.int .u64 0,.slice none 0 0,.int .i64 0,.string ⟨#[]⟩] 61)=W):=hW;have n0:=NB.out.1.cell (j:=1) rfl;have n1:=NB.out.1.cell (j:=3) rfl;have n2:=NB.out.1.cell (j:=5) rfl;have n3:=NB.out.2.1.cell (j:=12) rfl;have l0:=NB.out.1.lt;have l1:=NB.out.2.1.lt;clear hW
 have HY:Hid (BoxA (W.alloc (.cells #[.int .u64 tr,.slice none 0 0,.int .i64 dt,.string nt] 61)).drew w.heap.size 43 (actC k (.slice da dn dc) pv (.slice qa qn qc) nm dt kp)/\BoxA (W.alloc (.cells #[.int .u64 tr,.slice none 0 0,.int .i64 dt,.string nt] 61)).drew (w.heap.size+1) 35 (wdC vd vs vf xw xa xd xf xk vo vr vt bv (.slice ta tn tc) (.slice ca cn cc))/\BoxA (W.alloc (.cells #[.int .u64 tr,.slice none 0 0,.int .i64 dt,.string nt] 61)).drew (w.heap.size+1+1) 61 #[.int .u64 0,.slice none 0 0,.int .i64 0,.string ⟨#[]⟩]/\BoxA (W.alloc (.cells #[.int .u64 tr,.slice none 0 0,.int .i64 dt,.string nt] 61)).drew W.heap.size 61 #[.int .u64 tr,.slice none 0 0,.int .i64 dt,.string nt]/\OwnG encU 56 (W.alloc (.cells #[.int .u64 tr,.slice none 0 0,.int .i64 dt,.string nt] 61)).drew (w.heap.size+4) (.slice none 0 0) []/\Below w.heap.size w (W.alloc (.cells #[.int .u64 tr,.slice none 0 0,.int .i64 dt,.string nt] 61)).drew):=by
  have bu:=HB2.out;exact ⟨NB.out.1.below bu NB.out.1.lt,NB.out.2.1.below bu NB.out.2.1.lt,NB.out.2.2.1.below bu NB.out.2.2.1.lt,BoxA.new W _ _,OwnG.nil _ _ _ _,NB.out.2.2.2.trans (bu.mono NB.out.2.2.2.size)⟩
 go_cut [5] (λ zv u=>zv=.pointer (some ⟨W.heap.size,0,none⟩)/\Hid (BoxA u w.heap.size 43 (actC k (.slice da dn dc) pv (.slice qa qn qc) nm dt kp)/\BoxA u (w.heap.size+1) 35 (wdC vd vs vf xw xa xd xf xk vo vr vt bv (.slice ta tn tc) (.slice ca cn cc))/\BoxA u (w.heap.size+1+1) 61 #[.int .u64 0,.slice none 0 0,.int .i64 0,.string ⟨#[]⟩]/\BoxA u W.heap.size 61 #[.int .u64 tr,.slice none 0 0,.int .i64 dt,.string nt]/\OwnG encU 56 u (w.heap.size+4) (.slice none 0 0) []/\Below w.heap.size w u))
 case first =>
  have kS0:W.drew.cell? ⟨w.heap.size,1,none⟩=some (.slice da dn dc)/\W.drew.cell? ⟨w.heap.size,3,none⟩=some (.slice qa qn qc)/\W.drew.cell? ⟨w.heap.size,5,none⟩=some (.int .i64 dt)/\W.drew.cell? ⟨w.heap.size+1,12,none⟩=some (.slice ta tn tc)/\(convert 39 9 (.slice da dn dc)).run Tryz.prog W.drew=.ok (.string nt) W.drew:=KS.out _ HB0.out;have kS1:(W.alloc (.cells #[.int .u64 0,.slice none 0 0,.int .i64 0,.string ⟨#[]⟩] 61)).drew.cell? ⟨w.heap.size,1,none⟩=some (.slice da dn dc)/\(W.alloc (.cells #[.int .u64 0,.slice none 0 0,.int .i64 0,.string ⟨#[]⟩] 61)).drew.cell? ⟨w.heap.size,3,none⟩=some (.slice qa qn qc)/\(W.alloc (.cells #[.int .u64 0,.slice none 0 0,.int .i64 0,.string ⟨#[]⟩] 61)).drew.cell? ⟨w.heap.size,5,none⟩=some (.int .i64 dt)/\(W.alloc (.cells #[.int .u64 0,.slice none 0 0,.int .i64 0,.string ⟨#[]⟩] 61)).drew.cell? ⟨w.heap.size+1,12,none⟩=some (.slice ta tn tc)/\(convert 39 9 (.slice da dn dc)).run Tryz.prog (W.alloc (.cells #[.int .u64 0,.slice none 0 0,.int .i64 0,.string ⟨#[]⟩] 61)).drew=.ok (.string nt) (W.alloc (.cells #[.int .u64 0,.slice none 0 0,.int .i64 0,.string ⟨#[]⟩] 61)).drew:=KS.out _ HB1.out;have kS2:(W.alloc (.cells #[.int .u64 tr,.slice none 0 0,.int .i64 dt,.string nt] 61)).drew.cell? ⟨w.heap.size,1,none⟩=some (.slice da dn dc)/\(W.alloc (.cells #[.int .u64 tr,.slice none 0 0,.int .i64 dt,.string nt] 61)).drew.cell? ⟨w.heap.size,3,none⟩=some (.slice qa qn qc)/\(W.alloc (.cells #[.int .u64 tr,.slice none 0 0,.int .i64 dt,.string nt] 61)).drew.cell? ⟨w.heap.size,5,none⟩=some (.int .i64 dt)/\(W.alloc (.cells #[.int .u64 tr,.slice none 0 0,.int .i64 dt,.string nt] 61)).drew.cell? ⟨w.heap.size+1,12,none⟩=some (.slice ta tn tc)/\(convert 39 9 (.slice da dn dc)).run Tryz.prog (W.alloc (.cells #[.int .u64 tr,.slice none 0 0,.int .i64 dt,.string nt] 61)).drew=.ok (.string nt) (W.alloc (.cells #[.int .u64 tr,.slice none 0 0,.int .i64 dt,.string nt] 61)).drew:=KS.out _ HB2.out
  go_region_held3 (λ u=>u.cell? ⟨w.heap.size,1,none⟩=some (.slice da dn dc)/\u.cell? ⟨w.heap.size,3,none⟩=some (.slice qa qn qc)/\u.cell? ⟨w.heap.size,5,none⟩=some (.int .i64 dt)/\u.cell? ⟨w.heap.size+1,12,none⟩=some (.slice ta tn tc)/\(convert 39 9 (.slice da dn dc)).run Tryz.prog u=.ok (.string nt) u)
   (first | with_reducible exact kS0 | with_reducible exact kS1 | with_reducible exact kS2)
   (first
    | (go_at_call 56; (with_reducible refine (P1.out _ HB0.out).mono ?_); rintro e w3 ⟨rfl,hw3⟩; rw [hw3]; clear hw3 w3)
    | (go_at_call 56; (with_reducible refine (P1.out _ HB1.out).mono ?_); rintro e w3 ⟨rfl,hw3⟩; rw [hw3]; clear hw3 w3)
    | (go_at_call 32; (with_reducible refine (P2.out _ HB0.out).mono ?_); rintro e w3 ⟨rfl,hw3⟩; rw [hw3]; clear hw3 w3)
    | (go_at_call 32; (with_reducible refine (P2.out _ HB1.out).mono ?_); rintro e w3 ⟨rfl,hw3⟩; rw [hw3]; clear hw3 w3))
  all_goals
   go_wp2_with fail;go_meet;exact ⟨rfl,HY.out⟩
 case rest =>
  obtain ⟨rfl,HX⟩:=hcut
  have EW:Hid (W.heap.size=w.heap.size+3):=by
   show W.heap.size=w.heap.size+3;rw [<- HW.out];simp
  clear n0 n1 n2 n3;go_wp2_with fail;go_loopg [6] (qn - 1) (λ m iv wr=>∃ (i j:Nat) (la:Option Addr) (lc:Nat),iv=.int .i64 i/\i=j+1/\j+m=qn - 1/\Hid (BoxA wr w.heap.size 43 (actC k (.slice da dn dc) pv (.slice qa qn qc) nm dt kp)/\BoxA wr (w.heap.size+1) 35 (wdC vd vs vf xw xa xd xf xk vo vr vt bv (.slice ta tn tc) (.slice ca cn cc))/\BoxA wr (w.heap.size+1+1) 61 #[.int .u64 0,.slice none 0 0,.int .i64 0,.string ⟨#[]⟩]/\BoxA wr W.heap.size 61 #[.int .u64 tr,.slice la j lc,.int .i64 dt,.string nt]/\OwnG encU 56 wr (w.heap.size+4) (.slice la j lc) ((qs.tail.take j).map (pickU cids))/\Below w.heap.size w wr))
  case atStart=>exact ⟨1,0,none,0,rfl,rfl,by omega,HX.out⟩
  case round =>
   obtain ⟨i,j,la,lc,rfl,hij,hi,HR⟩:=hrel;have x3:=HR.out.1.cell (j:=3) rfl;by_cases hin:i<qn
   ·have id:(i:Int)<(qn:Int):=by omega
    have id0:(0:Int)<=(i:Int):=by omega
    obtain ⟨x,hx⟩:=get_some H.out.2.1 hin;obtain ⟨b,off,rfl,hlt⟩:=H.out.1.some_of hx;have c0:=(H.out.1.below HR.out.2.2.2.2.2).ints hx;have hbw:b<wr.heap.size:=Nat.lt_of_lt_of_le hlt HR.out.2.2.2.2.2.size;have y5:=HR.out.2.1.cell (j:=13) rfl;have z1:=HR.out.2.2.2.1.cell (j:=1) rfl;have hs3:=HR.out.2.2.2.1.lt
    have hs4:w.heap.size+4<=wr.heap.size:=by have:=EW.out; omega
    have HIJ:Hid (i=j+1/\j+gk=qn - 1):=⟨hij,hi⟩
    obtain ⟨z,hz⟩:∃ z,pickU cids x=z:=⟨_,rfl⟩
    obtain ⟨zi,hzi⟩:∃ zi:Int,(z.toNat:Int)=zi:=⟨_,rfl⟩
    have hts:=tail_snoc (cids:=cids) (i:=i) (by omega) hx;rw [show i - 1=j by omega,hz] at hts
    have hj:((qs.tail.take j).map (pickU cids)).length=j:=by
     rw [List.length_map,List.length_take,List.length_tail,H.out.2.1];omega
    have HS:Hid ((qs.tail.take i).map (pickU cids)=(qs.tail.take j).map (pickU cids)++[z]/\((qs.tail.take j).map (pickU cids)).length=j/\((qs.tail.take j).map (pickU cids)++[z]).length=i):=⟨hts,hj,by rw [List.length_append,hj,hij]; rfl⟩
    have P3:Hid (Calls Tryz.prog 32 #[.slice ca cn cc,.int .i64 x] wr.drew λ e w'=>e=.returned (.int .u64 zi)/\w'=wr.drew):=pickU_any (H.out.2.2.1.below HR.out.2.2.2.2.2.drew) H.out.2.2.2.1 hcn x zi (by rw [hz,hzi])
    have HC:Hid (∀ j u,(encU.cells z)[j]? = some u->(wr.drew.alloc (.cells #[.int .u64 zi] 56)).cell? ((⟨wr.heap.size,0,none⟩:Addr).add j)=some u):=by
     have:=cells_new encU wr.drew z 56;rw [show (encU.cells z).toArray=#[Value.int .u64 zi] from (by show #[Value.int .u64 (z.toNat:Int)]=_; rw [hzi])] at this;exact this
    have x1':=(HR.out.2.2.2.1.below (bz1 wr (.cells #[.int .u64 zi] 56)) hs3).cell (j:=1) rfl
    have hjl:(j+1)*8<=140737488355328:=by omega
    clear hx hz hzi hts hj hlt hij hi;go_wp2_with fail
    go_region_law
     (first
      | (refine step_val2 rfl (.tmp 29) (.tmp 34) 32 #[33,3] rfl enters_Pick (.slice ca cn cc) (.int .i64 x) (.int .u64 zi) (by simp [Act.eval]) (by simp [Act.eval]) P3.out ?_)
      | (refine stepG_at encU 56 33 8 _ rfl Tryz.info56 Tryz.underlying33 rfl (.tmp 27) (.tmp 36) rfl (w.heap.size+4) (.slice la j lc) ((qs.tail.take j).map (pickU cids)) z (by simp [Act.eval]) (HR.out.2.2.2.2.1.below ((Below.refl _ wr).drew.trans (bz1 wr.drew _))) wr.heap.size (by simp [Act.eval]) HC.out (by rw [HS.out.2.1]; omega) (by rw [HS.out.2.1]; simp only [maxLen]; omega) (by simp; omega) ?_; intro v5 w5 ho5 hb5 hm5 ht5; obtain ⟨a5,c5,e5,_,_,_,_⟩:=OwnG.form ho5; rw [HS.out.2.2] at e5; subst e5; have J5:Hid (OwnG encU 56 w5 (w.heap.size+4) (.slice a5 i c5) ((qs.tail.take j).map (pickU cids)++[z])/\Below (w.heap.size+4) wr w5):=⟨ho5,((bz1 wr _).drew.mono (by omega)).trans hb5⟩; have Z5:=HR.out.2.2.2.1.below J5.out.2 (by have:=EW.out; omega); have z5:=Z5.cell (j:=1) rfl; have g5:=Z5.thaw 1; clear Z5 ho5 hb5 hm5 ht5)
      | fail)
    all_goals
     have HO:Hid (∀ S:World,S=w5.setCell ⟨W.heap.size,1,none⟩ (.slice a5 i c5)->BoxA S w.heap.size 43 (actC k (.slice da dn dc) pv (.slice (some ⟨b,off,none⟩) qn qc) nm dt kp)/\BoxA S (w.heap.size+1) 35 (wdC vd vs vf xw xa xd xf xk vo vr vt bv (.slice ta tn tc) (.slice ca cn cc))/\BoxA S (w.heap.size+1+1) 61 #[.int .u64 0,.slice none 0 0,.int .i64 0,.string ⟨#[]⟩]/\BoxA S W.heap.size 61 #[.int .u64 tr,.slice a5 i c5,.int .i64 dt,.string nt]/\OwnG encU 56 S (w.heap.size+4) (.slice a5 i c5) ((qs.tail.take i).map (pickU cids))/\Below w.heap.size w S):=by
      rintro S rfl;have eW:=EW.out;have ht:Turned (λ k=>k=W.heap.size) w5 (w5.setCell ⟨W.heap.size,1,none⟩ (.slice a5 i c5)):=turned_set 1 _;refine ⟨(HR.out.1.below J5.out.2 (by omega)).turned ht (by show ¬ w.heap.size=W.heap.size; omega),(HR.out.2.1.below J5.out.2 (by omega)).turned ht (by show ¬ w.heap.size+1=W.heap.size; omega),(HR.out.2.2.1.below J5.out.2 (by omega)).turned ht (by show ¬ w.heap.size+1+1=W.heap.size; omega),(HR.out.2.2.2.1.below J5.out.2 (by omega)).put 1 _,?_,?_⟩
      ·rw [HS.out.1];exact J5.out.1.stays ht (λ g hg q=>by have:=(J5.out.1.lt g hg).1; have q':g=W.heap.size:=q; omega)
      ·have b1:Below w.heap.size w w5:=HR.out.2.2.2.2.2.trans (J5.out.2.mono (by omega));exact b1.trans (ht.below b1.size (λ k hk q=>by have q':k=W.heap.size:=q; omega))
     go_wp2;go_roundg (gk - 1)
     case measure=>have:=HIJ.out; omega
     case rel=>exact ⟨i+1,i,a5,c5,by go_num,rfl,by have:=HIJ.out; omega,HO.out _ rfl⟩
   ·have ej:(qs.tail.take j).map (pickU cids)=(anode data qs dt tids cids).ps:=by
     rw [H.out.2.2.2.2,List.take_of_length_le (by rw [List.length_tail,H.out.2.1]; omega)]
    have eN:j=N:=by
     rw [<- hN,H.out.2.2.2.2,List.length_map,List.length_tail,H.out.2.1];omega
    subst eN
    have HH:Hid (OwnG encU 56 wr (w.heap.size+4) (.slice la j lc) (anode data qs dt tids cids).ps):=by
     have:=HR.out.2.2.2.2.1;rw [ej] at this;exact this
    have y0:=HR.out.2.2.2.1.cell (j:=0) rfl;have y1:=HR.out.2.2.2.1.cell (j:=1) rfl;have y2:=HR.out.2.2.2.1.cell (j:=2) rfl;have y3:=HR.out.2.2.2.1.cell (j:=3) rfl;have z0:=HR.out.2.2.1.cell (j:=0) rfl;have z1:=HR.out.2.2.1.cell (j:=1) rfl;have z2:=HR.out.2.2.1.cell (j:=2) rfl;have z3:=HR.out.2.2.1.cell (j:=3) rfl;have f0:=HR.out.2.2.1.thaw 0;have f1:=HR.out.2.2.1.thaw 1;have f2:=HR.out.2.2.1.thaw 2;have f3:=HR.out.2.2.1.thaw 3
    have id:¬ (i:Int)<(qn:Int):=by omega
    clear ej hN hij hi;go_wp2;refine bodyPost_ret (v:=.agg #[.int .u64 tr,.slice la j lc,.int .i64 dt,.string nt]) ?_ rfl ?_
    ·simp [results,Tryz.f52];go_simp
    ·have ht:=lay_four wr (w.heap.size+1+1) (.int .u64 tr) (.slice la j lc) (.int .i64 dt) (.string nt);have o:=HH.out.stays ht (λ g hg q=>by have:=(HH.out.lt g hg).1; have q':g=w.heap.size+1+1:=q; omega);exact ⟨la,lc,rfl,o,HR.out.2.2.2.2.2.trans (ht.below HR.out.2.2.2.2.2.size (λ k hk q=>by have q':k=w.heap.size+1+1:=q; omega))⟩
end Go.Proofs.YtjlokpjflgbgdaaGreat
