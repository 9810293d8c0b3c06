/-
  Several texts, laid together.
-/
import Derived.Test.YtlojblelpaegpaaGreatM40
import Derived.ProofKit
import Derived.OpenShut
import Derived.ShutString
import Derived.Below
import Derived.SizedLaws
import Derived.Deep.SlicePairs
import Derived.JoinedCond
set_option maxHeartbeats 6400000
set_option maxRecDepth 100000
open Nat renaming add_zero->Dt,zero_le->BG,mul_one->Dc,eq_zero_or_pos->B9
open Go.RowKit renaming Below->An
open List renaming map_nil->FQ,map_singleton->ES,range->BF,length_map->AQ,length_range->Fk,getElem?_eq_some_iff->AC,getElem?_eq_none->AL,mem_map->Bu,mem_range->Ew
open Go.RowKit.Below renaming refl->Ao
open Go.IntKind renaming i64->Ak,u8->Ek,u64->Al
open Go.DataW renaming trod->C7,trod_int->Eo
open Go.Deep renaming open_slice->ET,add_add->FM,choose_lt->Fl
open Go.World renaming cells?_some->Ex,cell?_spot->EL,block_lt_of_cell?->CQ
open Go.Value renaming slice->Aa,int->Ab,pointer->Ah
open Go.Proofs.Tryz renaming prog->Am
open Go.Proofs.Tryz
namespace Go.Proofs.YtlojblelpaegpaaGreat
open Go.RowKit
structure AwF(v:Wd)(x0 x1:UInt64):Prop where
 cl:v.cl=[x0,x1]
 g0:v.st.free [] [x0]->Zaz 0 (v.st.pss ([]++risU [x0]) (risU [x0])) (λ _=>0)/\Gens [] (v.st.pss ([]++risU [x0]) (risU [x0])) [1]
 g1:v.st.free [x0] [x1]->Zaz 1 (v.st.pss ([x0]++risU [x1]) (risU [x1])) (λ _=>0)/\Gens [1] (v.st.pss ([x0]++risU [x1]) (risU [x1])) [2]
 g2:v.st.free [] [x1]->Zaz 0 (v.st.pss ([]++risU [x1]) (risU [x1])) (λ _=>0)/\Gens [] (v.st.pss ([]++risU [x1]) (risU [x1])) []
 t0:∀{r:Int} {rs:List Rw},v.st.told [] [1] [x0] r rs->r=0/\∃x,rs=[x]/\x.id=x0/\x.gen=1
 t1:∀{r:Int} {rs:List Rw},v.st.told [x0] [2] [x1] r rs->r=0/\∃x,rs=[x]/\x.gen=2/\x.ps=[0]
 t2:∀{r:Int} {rs:List Rw},v.st.told [] [] [x1] r rs->r=14
theorem aw_f:∃a b,AwF (bwd (awA.take 40)) a b:=⟨_,_,aw_cl,aw_g0,aw_g1,aw_g2,aw_t0,aw_t1,aw_t2⟩
theorem Zpc{u:World}{B:Nat}{v:Value}{vs:List LV}{f:List Rw}{x:Rw}(g:OwnG encL 63 u B v vs)(d:LvsO u B vs f)(i:f=[x]):∃b lc a,v=Aa b 1 lc/\RdG encL u b [a]/\LvO u B a x:=by
 subst i;have c:vs.length=1:=d.len;obtain⟨a,rfl⟩:=List.length_eq_one_iff.1 c;obtain⟨b,lc,e,_,h⟩:=g.whole c;exact⟨b,lc,a,e,h,d.at_ 0 a x rfl rfl⟩
theorem Zpa{u:World}{b off:Nat}{a:LV}(h:RdG encL u (some ⟨b,off,none⟩) [a]):u.cell? ⟨b,off+3,none⟩=some (Aa a.pa a.pn a.pc)/\u.cell? ⟨b,off+4,none⟩=some (Ab Ak a.gen):=by
 obtain⟨_,_,_,c,d,_⟩:=h.lrows (i:=0) rfl;rw[Nat.zero_mul,Dt]at c d;exact⟨c,d⟩
theorem Zeg(w:World):
  Calls Am 8 #[] w λ e w'=>e=.returned (.bool true)/\An w.heap.size w w':=by
 have kc:=λ(w:World) (C:Array Value) (n c:Nat)=>Lib.run_convert_bytes_const (P:=Am) w 61 5 C n c underlying61 underlying5
 have ab:=Zem (w:=awW w) (c:=4) (Zp2 w) (Zqd w) (aw_nm _) (by omega);have HA:Hid (An w.heap.size w (awW w)):=Zp9 w;go_enter func8,ntmps8;go_wp2_with fail;refine ab.mono ?_;rintro e w2 ⟨u,rfl,J2⟩;clear ab kc;obtain⟨x,l,hF⟩:=aw_f
 obtain⟨v,hv⟩:=Xa (bwd (awA.take 40))
 rw[hv]at hF J2;clear hv;obtain⟨s,b,fa,fl,fc,oa,on,oc,ra,rn,rc,ta,tn,tc,xa,xn,xc,ya,yn,yc,za,zn,zc,U,rfl,hW,B2⟩:=J2.o;obtain⟨st,d,bl,tl,cl⟩:=v;have Y:Hid (AwF ⟨st,d,bl,tl,cl⟩ x l):=hF;have ai:cl=[x,l]:=hF.cl;subst ai;simp only at hW;obtain⟨⟨S,q1⟩,q2,q3,q4,q5⟩:=hW.parts;obtain rfl:zn=2:=q5.symm;obtain⟨m,p,rfl,_⟩:=q4.some_of (i:=0) rfl
 obtain⟨K,hK⟩:=Xa w2.heap.size
 obtain⟨k,L⟩:=Xb (w2.alloc (.cells (wdV s b d (Aa fa fl fc) (Aa oa on oc) (Aa ra rn rc) (Aa ta tn tc) (Aa xa xn xc) (Aa ya yn yc) (Aa (some ⟨m,p,none⟩) 2 zc)) 36))
 have B:An w2.heap.size w2 k:=by rw[L];exact bz1 _ _
 have T:An w.heap.size w w2:=HA.o.trans (B2.mono HA.o.size)
 have E3:Hid (SE k s b st S oa (some ⟨m,p,none⟩) none [x,l] [] K (wdV s b d (Aa fa fl fc) (Aa oa on oc) (Aa ra rn rc) (Aa ta tn tc) (Aa xa xn xc) (Aa ya yn yc) (Aa (some ⟨m,p,none⟩) 2 zc))):=⟨q1.below B,q2.below B,q4.below B,RdG.nil _ _ _,by rw[L,<- hK];exact BoxA.new _ _ _⟩
 have H3:Hid (An w.heap.size w k):=T.trans (B.mono T.size);clear J2 hF hW q1 q2 q3 q4 q5 B2 B T HA
 go_upto_region 2 with fail
 rw[<- L];clear L hK;have aj:=E3.o.box.cell (j:=13) rfl
 go_upto_region 4 with fail
 clear aj
 have t:Hid (∀u,An k.heap.size k u->u.cell? ⟨K,1,none⟩=some (Ah (some ⟨s,0,none⟩))/\u.cell? ⟨K,13,none⟩=some (Aa (some ⟨m,p,none⟩) 2 zc)/\u.cell? ⟨m,p,none⟩=some (Ab Al (x.toNat:Int))):=by
  intro u A;have E:=E3.o.below A;have hc:=(E.coms.nums (i:=0) rfl).2;exact⟨E.box.cell (j:=1) rfl,E.box.cell (j:=13) rfl,by simpa using hc⟩
 have hq:∀u (a:Option Addr),An k.heap.size k u->RdG encU u a [x]->_:=λ u a A D=>ZbB (ba:=none) (bn:=0) (n:=1) (bc:=0) (c:=1) (bvs:=[]) (G:=[1]) (rk:=λ _=>0) (E3.o.below A).store (RdG.nil _ _ _) rfl (by simp) (by simp) D rfl (by omega) Y.o.g0
 simp only[FQ]at hq;have M:Hid _:=hq;clear hq
 go_upto_region 4 with fail
 go_cut[3,4] (λ lv fv u=>∃y lc,lv=Aa y 1 lc/\fv=Ab Ak 0/\Hid (∃r z Z,RdG encL u y [r]/\LvO u Z r z/\z.id=x/\z.gen=1/\An k.heap.size k u))
 case first =>
  have V0:Hid (An k.heap.size k k.drew):=(Ao _ k).drew
  have f:Hid (An k.heap.size k (k.alloc (.cells #[Ab Al (x.toNat:Int)] 44)).drew/\RdG encU (k.alloc (.cells #[Ab Al (x.toNat:Int)] 44)).drew (some ⟨k.heap.size,0,none⟩) [x]):=⟨(bz1 k _).drew,(Zld encU k x 44 _ rfl).below (Ao _ _).drew⟩
  have H:=t.o _ V0.o;have q:=t.o _ f.o.1
  go_region_held3 (λ u=>u.cell? ⟨K,1,none⟩=some (Ah (some ⟨s,0,none⟩))/\u.cell? ⟨K,13,none⟩=some (Aa (some ⟨m,p,none⟩) 2 zc)/\u.cell? ⟨m,p,none⟩=some (Ab Al (x.toNat:Int)))
   (first | with_reducible exact H | with_reducible exact q | with_reducible exact I | go_keep)
   (first|(go_at_call 12;(with_reducible refine(M.o _ _ f.o.1 f.o.2).mono ?_);rintro e w7 ⟨mv,r7,rfl,O⟩;have N:Hid (An k.heap.size k w7):=(by obtain⟨_,_,_,_,_,b⟩:=O.o;exact f.o.1.trans (b.mono f.o.1.size));have I:=t.o _ N.o))
  all_goals
   go_wp2_with fail;go_meet;obtain⟨ae,rs,t2,o2,X,b2⟩:=O.o;obtain⟨e1,z,e2,e3,e4⟩:=Y.o.t0 t2;obtain⟨y,lc,r,e5,e6,e7⟩:=Zpc o2 X e2;rw[e1,e5];exact⟨y,lc,rfl,rfl,r,z,_,e6,e7,e3,e4,N.o⟩
 case rest =>
  obtain⟨y,lc,V,F,HM⟩:=hcut;subst V F
  obtain⟨h,ag⟩:=Xb wc
  subst ag;obtain⟨r,z,Z,D,Q,h3,h4,R⟩:=HM.o;have E4:Hid (SE h s b st S oa (some ⟨m,p,none⟩) none [x,l] [] K (wdV s b d (Aa fa fl fc) (Aa oa on oc) (Aa ra rn rc) (Aa ta tn tc) (Aa xa xn xc) (Aa ya yn yc) (Aa (some ⟨m,p,none⟩) 2 zc))):=E3.o.below R
  have J:Hid (RdG encL h y [r]/\LvO h Z r z/\An w.heap.size w h/\r.id=x/\r.gen=1):=⟨D,Q,H3.o.trans (R.mono H3.o.size),Q.id.trans h3,Q.gen.trans h4⟩
  clear HM D Q h3 h4 R E3 H3 M t
  have t:Hid (∀u,An h.heap.size h u->u.cell? ⟨K,1,none⟩=some (Ah (some ⟨s,0,none⟩))/\u.cell? ⟨K,13,none⟩=some (Aa (some ⟨m,p,none⟩) 2 zc)/\u.cell? ⟨m,p+1,none⟩=some (Ab Al (l.toNat:Int))):=by
   intro u A;have E:=E4.o.below A;have hc:=(E.coms.nums (i:=1) rfl).2;exact⟨E.box.cell (j:=1) rfl,E.box.cell (j:=13) rfl,by simpa using hc⟩
  have hq:∀u (a:Option Addr),An h.heap.size h u->RdG encU u a [l]->_:=λ u a A D=>ZbB (ba:=y) (bn:=1) (n:=1) (bc:=lc) (c:=1) (bvs:=[r]) (G:=[2]) (rk:=λ _=>0) (E4.o.below A).store (J.o.1.below A) rfl (λ v hv=>by rw[List.mem_singleton]at hv;rw[hv,J.o.2.2.2.2];decide) (by simp) D rfl (by omega) (by rw[ES,ES,J.o.2.2.2.1,J.o.2.2.2.2];exact Y.o.g1)
  simp only[FQ,List.map_cons]at hq;have M:Hid _:=hq;clear hq
  go_upto_region 5 with fail
  go_cut[5,6] (λ lv fv u=>∃y lc,lv=Aa y 1 lc/\fv=Ab Ak 0/\Hid (∃r z Z,RdG encL u y [r]/\LvO u Z r z/\z.gen=2/\z.ps=[0]/\An h.heap.size h u))
  case first =>
   have V0:Hid (An h.heap.size h h.drew):=(Ao _ h).drew
   have f:Hid (An h.heap.size h (h.alloc (.cells #[Ab Al (l.toNat:Int)] 44)).drew/\RdG encU (h.alloc (.cells #[Ab Al (l.toNat:Int)] 44)).drew (some ⟨h.heap.size,0,none⟩) [l]):=⟨(bz1 h _).drew,(Zld encU h l 44 _ rfl).below (Ao _ _).drew⟩
   have H:=t.o _ V0.o;have q:=t.o _ f.o.1
   go_region_held3 (λ u=>u.cell? ⟨K,1,none⟩=some (Ah (some ⟨s,0,none⟩))/\u.cell? ⟨K,13,none⟩=some (Aa (some ⟨m,p,none⟩) 2 zc)/\u.cell? ⟨m,p+1,none⟩=some (Ab Al (l.toNat:Int)))
    (first | with_reducible exact H | with_reducible exact q | with_reducible exact I | go_keep)
    (first|(go_at_call 12;(with_reducible refine(M.o _ _ f.o.1 f.o.2).mono ?_);rintro e w7 ⟨mv,r7,rfl,O⟩;have N:Hid (An h.heap.size h w7):=(by obtain⟨_,_,_,_,_,b⟩:=O.o;exact f.o.1.trans (b.mono f.o.1.size));have I:=t.o _ N.o))
   all_goals
    go_wp2_with fail;go_meet;obtain⟨ae,rs,t2,o2,X,b2⟩:=O.o;rw[J.o.2.2.2.1]at t2;obtain⟨e1,z,e2,e3,e4⟩:=Y.o.t1 t2;obtain⟨y,lc,r,e5,e6,e7⟩:=Zpc o2 X e2;rw[e1,e5];exact⟨y,lc,rfl,rfl,r,z,_,e6,e7,e3,e4,N.o⟩
  case rest =>
   obtain⟨ma,mc,V,F,HM⟩:=hcut;subst V F
   obtain⟨g,ah⟩:=Xb wc
   subst ah;obtain⟨v2,r2,B2,D,Q,h3,h4,R⟩:=HM.o;have E5:Hid (SE g s b st S oa (some ⟨m,p,none⟩) none [x,l] [] K (wdV s b d (Aa fa fl fc) (Aa oa on oc) (Aa ra rn rc) (Aa ta tn tc) (Aa xa xn xc) (Aa ya yn yc) (Aa (some ⟨m,p,none⟩) 2 zc))):=E4.o.below R
   have aa:Hid (RdG encL g y [r]/\r.gen=1/\RdG encL g ma [v2]/\v2.gen=2/\OwnG encI 3 g B2 (Aa v2.pa v2.pn v2.pc) [0]/\An w.heap.size w g):=⟨J.o.1.below R,J.o.2.2.2.2,D,Q.gen.trans h3,by have:=Q.ps;rw[h4]at this;exact this,J.o.2.2.1.trans (R.mono J.o.2.2.1.size)⟩
   clear HM D Q h3 h4 R E4 J M t
   have t:Hid (∀u,An g.heap.size g u->u.cell? ⟨K,1,none⟩=some (Ah (some ⟨s,0,none⟩))/\u.cell? ⟨K,13,none⟩=some (Aa (some ⟨m,p,none⟩) 2 zc)/\u.cell? ⟨m,p+1,none⟩=some (Ab Al (l.toNat:Int))):=by
    intro u A;have E:=E5.o.below A;have hc:=(E.coms.nums (i:=1) rfl).2;exact⟨E.box.cell (j:=1) rfl,E.box.cell (j:=13) rfl,by simpa using hc⟩
   have hq:∀u (a:Option Addr),An g.heap.size g u->RdG encU u a [l]->_:=λ u a A D=>ZbB (ba:=none) (bn:=0) (n:=1) (bc:=0) (c:=1) (bvs:=[]) (G:=[]) (rk:=λ _=>0) (E5.o.below A).store (RdG.nil _ _ _) rfl (by simp) (by simp) D rfl (by omega) Y.o.g2
   simp only[FQ]at hq;have M:Hid _:=hq;clear hq
   go_upto_region 6 with fail
   go_cut[7,8] (λ lv fv u=>fv=Ab Ak 14/\Hid (An g.heap.size g u))
   case first =>
    have V0:Hid (An g.heap.size g g.drew):=(Ao _ g).drew
    have f:Hid (An g.heap.size g (g.alloc (.cells #[Ab Al (l.toNat:Int)] 44)).drew/\RdG encU (g.alloc (.cells #[Ab Al (l.toNat:Int)] 44)).drew (some ⟨g.heap.size,0,none⟩) [l]):=⟨(bz1 g _).drew,(Zld encU g l 44 _ rfl).below (Ao _ _).drew⟩
    have H:=t.o _ V0.o;have q:=t.o _ f.o.1
    go_region_held3 (λ u=>u.cell? ⟨K,1,none⟩=some (Ah (some ⟨s,0,none⟩))/\u.cell? ⟨K,13,none⟩=some (Aa (some ⟨m,p,none⟩) 2 zc)/\u.cell? ⟨m,p+1,none⟩=some (Ab Al (l.toNat:Int)))
     (first | with_reducible exact H | with_reducible exact q | with_reducible exact I | go_keep)
     (first|(go_at_call 12;(with_reducible refine(M.o _ _ f.o.1 f.o.2).mono ?_);rintro e w7 ⟨mv,r7,rfl,O⟩;have N:Hid (An g.heap.size g w7):=(by obtain⟨_,_,_,_,_,b⟩:=O.o;exact f.o.1.trans (b.mono f.o.1.size));have I:=t.o _ N.o))
    all_goals
     go_wp2_with fail;go_meet;obtain⟨ae,rs,t2,o2,X,b2⟩:=O.o;rw[Y.o.t2 t2];exact⟨rfl,N.o⟩
   case rest =>
    obtain⟨F,HB⟩:=hcut;subst F;obtain⟨l1,X,l3,l4,l5,l6⟩:=aa.o;have af:Hid (An w.heap.size w wc):=l6.trans (HB.o.mono l6.size);obtain⟨lb,lo,rfl,_⟩:=l1.some_of (i:=0) rfl;obtain⟨mb,mo,rfl,_⟩:=l3.some_of (i:=0) rfl;have c1:=(Zpa (l1.below HB.o)).2;obtain⟨c2,c3⟩:=Zpa (l3.below HB.o);obtain⟨pa,pc,ac,_,W⟩:=l5.whole (n:=1) rfl;rw[ac]at c2;rw[X]at c1;rw[l4]at c3;obtain⟨pb,po,rfl,_⟩:=W.some_of (i:=0) rfl;have c4:=(W.below HB.o).ints (i:=0) rfl;rw[Dt]at c4;clear aa HB l1 X l3 l4 l5 l6 ac W M t E5;go_wp2_with fail;refine(ZkB _).mono ?_;rintro e w9 ⟨rfl,ad⟩;rw[ad];clear ad;go_wp2_with fail;go_ret;exact⟨rfl,af.o⟩
end Go.Proofs.YtlojblelpaegpaaGreat
namespace Go.Proofs.YtlojblelpaegpaaGreat
open Go.ChangeShapes Go.WideShapes Go.ChangeAt Go.RowKit
theorem ZoW{n:Int}(h:(Lit.int Ak n).wf=true): -9223372036854775808<=n/\n<=9223372036854775807:=by
 have a:Ak.min = -9223372036854775808:=by decide
 have b:Ak.max=9223372036854775807:=by decide
 simpa[Lit.wf,a,b]using h
theorem wf_u8{n:Int}(h:(Lit.int .u8 n).wf=true):∃y:UInt8,n=(y.toNat:Int):=by
 have a:Ek.min=0:=by decide
 have b:Ek.max=255:=by decide
 have c:0<=n/\n<=255:=by simpa[Lit.wf,a,b]using h
 refine⟨UInt8.ofNat n.toNat,?_⟩;rw[UInt8.toNat_ofNat'];omega
def AV.fit(a:AV):Prop:=a.nm.size<=140737488355328/\(-9223372036854775808<=a.dt/\a.dt<=9223372036854775807)/\(-9223372036854775808<=a.kp/\a.kp<=9223372036854775807)
theorem ZnH{H:Type}(d:DataW H):0<Rows.uptoBulk d:=by
 cases d with
 | lit l=>cases l <;> simp[Rows.uptoBulk]
 | nil=>simp[Rows.uptoBulk]
 | ptr d=>simp[Rows.uptoBulk]
 | slice es a=>simp[Rows.uptoBulk]
 | agg ps=>simp[Rows.uptoBulk]
 | iface t d=>simp[Rows.uptoBulk]
 | map es=>simp[Rows.uptoBulk]
 | held h=>simp[Rows.uptoBulk]
theorem ZbY{H:Type}:∀l:List (DataW H),l.length<=Rows.uptoBulkAll l
 | []=>by simp[Rows.uptoBulkAll]
 | d::t=>by
  have a:=ZbY t;have b:=ZnH d;simp only[Rows.uptoBulkAll,List.length_cons];omega
theorem ZfN{H:Type}:∀(l:List (DataW H)) (d:DataW H),d∈l->Rows.uptoBulk d<=Rows.uptoBulkAll l
 | [],_,h=>by cases h
 | x::t,d,h=>by
  simp only[Rows.uptoBulkAll]
  rcases List.mem_cons.1 h with rfl|q
  ·omega
  ·have:=ZfN t d q;omega
section
variable{H:Type}{enc:TypeId×Value->H}{W:World}{spare:Nat->Bool}{held:Bool}{fuel:Nat}{v:Value}{x:DataW H×List MemPlace}
theorem Zkx(h:C7 enc Am W 0 spare held fuel 61 [v]=some x):∃(a:Option Addr) (n c:Nat) (xs:List UInt8),v=Aa a n c/\xs.length=n/\n<=c/\c<=9223372036854775807/\n<=Rows.uptoBulk x.1/\RdG encB W a xs:=by
 rcases ET underlying61 h with⟨e,_⟩ | ⟨y,l,c,m,k,D,O,e,_,J,L,o,N,H⟩
 ·obtain rfl:v=Aa none 0 0:=by simpa using e
  exact⟨none,0,0,[],rfl,rfl,by omega,by omega,BG _,RdG.nil _ _ _⟩
 ·obtain rfl:v=Aa (some y) l c:=by simpa using e
  have K:l<=m:=by rw[o];split <;> omega
  have C:Am.cellsOf 5=1:=by kernel_rfl
  have p:l<=Rows.uptoBulk x.1:=by
   rw[N];have:=ZbY ((BF l).map D);rw[AQ,Fk]at this;simp only[Rows.uptoBulk];omega
  have each:∀i,i<l->∃q:UInt8,W.cell? (y.add i)=some (Ab .u8 (q.toNat:Int)):=by
   intro i hi;obtain⟨E,t,G⟩:=H i (by omega);rw[C,Dc]at t;obtain⟨_,w,d⟩:=Ex t;obtain⟨z,e0,_,s⟩:=Eo underlying5 G;obtain⟨q,rfl⟩:=wf_u8 s;subst e0;have:=d 0 (by simp);rw[FM]at this;exact⟨q,this⟩
  haveI:Inhabited (UInt8):=⟨0⟩
  obtain⟨q,hq⟩:=Fl each;refine⟨some y,l,c,(BF l).map q,rfl,by simp,J,by unfold maxLen at L;omega,p,?_⟩
  ·intro F
   have g:0<l:=by simpa using F
   obtain⟨b,off,f⟩:=y
   have first:=(hq 0 g)
   have M:f=none:=by
    have:=EL first
    simpa[Addr.add]using this
   subst M;refine⟨b,off,rfl,?_,?_⟩
   ·have:=CQ W _ first
    rw[Zap]at this;exact this
   ·intro i z A j u r
    have hi:i<l:=by
     have:=(AC.1 A).1;simpa using this
    obtain rfl:z=q i:=by simpa[hi]using A.symm
    have I:j=0:=by
     rcases B9 j with B|B
     ·exact B
     ·rw[AL (by show([_]:List Value).length<=j;simp;omega)]at r;cases r
    subst I
    have:=(hq i hi)
    rw[Zap]at this;rw[show off+(i*encB.size+0)=off+i from(by show off+(i*1+0)=off+i;omega),this];exact r
theorem ZcE(h:C7 enc Am W 0 spare held fuel 23 [v]=some x):∃(a:Option Addr) (n c:Nat) (xs:List Int),v=Aa a n c/\xs.length=n/\n<=c/\c<=9223372036854775807/\n<=Rows.uptoBulk x.1/\RdG encI W a xs:=by
 rcases ET underlying23 h with⟨e,_⟩ | ⟨y,l,c,m,k,D,O,e,_,I,K,o,N,G⟩
 ·obtain rfl:v=Aa none 0 0:=by simpa using e
  exact⟨none,0,0,[],rfl,rfl,by omega,by omega,BG _,RdG.nil _ _ _⟩
 ·obtain rfl:v=Aa (some y) l c:=by simpa using e
  have J:l<=m:=by rw[o];split <;> omega
  have B:Am.cellsOf 3=1:=by kernel_rfl
  have p:l<=Rows.uptoBulk x.1:=by
   rw[N];have:=ZbY ((BF l).map D);rw[AQ,Fk]at this;simp only[Rows.uptoBulk];omega
  have each:∀i,i<l->∃q:Int,W.cell? (y.add i)=some (Ab Ak q):=by
   intro i hi;obtain⟨C,s,F⟩:=G i (by omega);rw[B,Dc]at s;obtain⟨_,t,d⟩:=Ex s;obtain⟨z,e0,_,M⟩:=Eo underlying3 F;subst e0;have:=d 0 (by simp);rw[FM]at this;exact⟨z,this⟩
  haveI:Inhabited (Int):=⟨0⟩
  obtain⟨q,hq⟩:=Fl each;refine⟨some y,l,c,(BF l).map q,rfl,by simp,I,by unfold maxLen at K;omega,p,?_⟩
  ·intro E
   have g:0<l:=by simpa using E
   obtain⟨b,off,f⟩:=y
   have first:=(hq 0 g)
   have L:f=none:=by
    have:=EL first
    simpa[Addr.add]using this
   subst L;refine⟨b,off,rfl,?_,?_⟩
   ·have:=CQ W _ first
    rw[Zap]at this;exact this
   ·intro i z w j u r
    have hi:i<l:=by
     have:=(AC.1 w).1;simpa using this
    obtain rfl:z=q i:=by simpa[hi]using w.symm
    have H:j=0:=by
     rcases B9 j with A|A
     ·exact A
     ·rw[AL (by show([_]:List Value).length<=j;simp;omega)]at r;cases r
    subst H
    have:=(hq i hi)
    rw[Zap]at this;rw[show off+(i*encI.size+0)=off+i from(by show off+(i*1+0)=off+i;omega),this];exact r
theorem ZmH (h:DataW.trod enc Tryz.prog W 0 spare held fuel 79 [v]=some x):∃ (a:Option Addr) (n c:Nat) (xs:List Bs),v=.slice a n c/\xs.length=n/\n<=c/\c<=9223372036854775807/\n<=Rows.uptoBulk x.1/\RdG encT W a xs/\∀ p∈xs,p.length<=Rows.uptoBulk x.1:=by
 rcases Go.Deep.open_slice Tryz.underlying79 h with ⟨hcs,_⟩ | ⟨y,l,c,m,k,D,Pl,hcs,_,hl,hm,hmm,hx,hc⟩
 ·obtain rfl:v=.slice none 0 0:=by simpa using hcs
  exact ⟨none,0,0,[],rfl,rfl,by omega,by omega,Nat.zero_le _,RdG.nil _ _ _,λ p q=>(by cases q)⟩
 ·obtain rfl:v=.slice (some y) l c:=by simpa using hcs
  have hlm:l<=m:=by rw [hmm]; split <;> omega
  have ce:Tryz.prog.cellsOf 9=1:=by kernel_rfl
  have hnl:l<=Rows.uptoBulk x.1:=by
   rw [hx];have:=ZbY ((List.range l).map D);rw [List.length_map,List.length_range] at this;simp only [Rows.uptoBulk];omega
  have each:∀ i,i<l->∃ q:Bs,W.cell? (y.add i)=some (tx q)/\q.length<=Rows.uptoBulk x.1:=by
   intro i hi;obtain ⟨cs',h1,h2⟩:=hc i (by omega);rw [ce,Nat.mul_one] at h1;obtain ⟨_,hlen,hcell⟩:=World.cells?_some h1;obtain ⟨s,e0,hD,_⟩:=DataW.trod_string Tryz.underlying9 h2;subst e0;have:=hcell 0 (by simp);rw [Go.Deep.add_add] at this;refine ⟨s.data.toList,by simpa using this,?_⟩;rw [hx];have h5:=ZfN ((List.range l).map D) (D i) (List.mem_map.2 ⟨i,List.mem_range.2 hi,rfl⟩)
   have h6:D i=.lit (.string s.data.toList)/\Pl i=[]:=by simpa using hD
   rw [h6.1] at h5;simp only [Rows.uptoBulk] at h5 ⊢;omega
  haveI:Inhabited (Bs):=⟨[]⟩
  obtain ⟨q,hq⟩:=Go.Deep.choose_lt each;refine ⟨some y,l,c,(List.range l).map q,rfl,by simp,hl,by unfold maxLen at hm; omega,hnl,?_,?_⟩
  ·intro h0
   have h0':0<l:=by simpa using h0
   obtain ⟨b,off,spot⟩:=y
   have first:=(hq 0 h0').1
   have hs:spot=none:=by
    have:=World.cell?_spot first
    simpa [Addr.add] using this
   subst hs;refine ⟨b,off,rfl,?_,?_⟩
   ·have:=World.block_lt_of_cell? W _ first
    rw [Zap] at this;exact this
   ·intro i z hz j u hu
    have hi:i<l:=by
     have:=(List.getElem?_eq_some_iff.1 hz).1;simpa using this
    obtain rfl:z=q i:=by simpa [hi] using hz.symm
    have hj:j=0:=by
     rcases Nat.eq_zero_or_pos j with q' | q'
     ·exact q'
     ·rw [List.getElem?_eq_none (by show ([_]:List Value).length<=j; simp; omega)] at hu; cases hu
    subst hj;have:=(hq i hi).1;rw [Zap] at this;rw [show off+(i*encT.size+0)=off+i from (by show off+(i*1+0)=off+i; omega),this];exact hu
  ·intro p hp;obtain ⟨i,hi,rfl⟩:=List.mem_map.1 hp;exact (hq i (List.mem_range.1 hi)).2
theorem Zoz{f m n o g i j:Value}(h:C7 enc Am W 0 spare held fuel 81 [f,m,n,o,g,i,j]=some x)(l:Rows.uptoBulk x.1<=1048576):∃(a:AV) (data:Bs) (ps:List Bs) (qs:List Int),f=Ab Ak a.k/\m=Aa a.da a.dn a.dc/\n=Aa a.pa a.pn a.pc/\o=Aa a.qa a.qn a.qc/\g=.string a.nm/\i=Ab Ak a.dt/\j=Ab Ak a.kp/\Zds W a data ps qs/\a.fit:=by
 have z0:Am.cellsOf 3=1:=by kernel_rfl
 have d:Am.cellsOf 61=1:=by kernel_rfl
 have e:Am.cellsOf 79=1:=by kernel_rfl
 have z3:Am.cellsOf 23=1:=by kernel_rfl
 have z4:Am.cellsOf 9=1:=by kernel_rfl
 have z5:Am.cellsOf 2=1:=by kernel_rfl
 obtain⟨xs,c,P,u,_,t,b⟩:=DataW.trod_struct underlying81 h
 match xs,t with
 | [y0,y1,y2,y3,y4,y5,y6],_ =>
  have g0:C7 enc Am W 0 spare held c 3 [f]=some y0:=by simpa[z0,d,e,z3,z4,z5]using b 0 _ rfl
  have g1:C7 enc Am W 0 spare held c 61 [m]=some y1:=by simpa[z0,d,e,z3,z4,z5]using b 1 _ rfl
  have g2:C7 enc Am W 0 spare held c 79 [n]=some y2:=by simpa[z0,d,e,z3,z4,z5]using b 2 _ rfl
  have B:C7 enc Am W 0 spare held c 23 [o]=some y3:=by simpa[z0,d,e,z3,z4,z5]using b 3 _ rfl
  have C:C7 enc Am W 0 spare held c 9 [g]=some y4:=by simpa[z0,d,e,z3,z4,z5]using b 4 _ rfl
  have D:C7 enc Am W 0 spare held c 2 [i]=some y5:=by simpa[z0,d,e,z3,z4,z5]using b 5 _ rfl
  have E:C7 enc Am W 0 spare held c 3 [j]=some y6:=by simpa[z0,d,e,z3,z4,z5]using b 6 _ rfl
  obtain⟨k,e0,_,w0⟩:=Eo underlying3 g0
  obtain rfl:f=Ab Ak k:=by simpa using e0
  obtain⟨da,dn,dc,data,rfl,q,v,N,O,w⟩:=Zkx g1;obtain⟨pa,pn,pc,ps,rfl,G,Q,R,S,H,I⟩:=ZmH g2;obtain⟨qa,qn,qc,qs,rfl,J,T,U,V,K⟩:=ZcE B;obtain⟨nm,y,r,_⟩:=DataW.trod_string underlying9 C
  obtain rfl:g=.string nm:=by simpa using y
  obtain⟨dt,z,_,L⟩:=Eo underlying2 D
  obtain rfl:i=Ab Ak dt:=by simpa using z
  obtain⟨kp,A,_,M⟩:=Eo underlying3 E
  obtain rfl:j=Ab Ak kp:=by simpa using A
  have s:x.1=.agg [y0.1,y1.1,y2.1,y3.1,y4.1,y5.1,y6.1]:=by rw[u];rfl
  rw[s]at l;simp only[Rows.uptoBulk,Rows.uptoBulkAll]at l
  have F:nm.size<=1048576:=by
   rw[r]at l;simp only[Rows.uptoBulk]at l;have:nm.data.toList.length=nm.size:=Array.length_toList;omega
  refine⟨⟨k,da,dn,dc,pa,pn,pc,qa,qn,qc,nm,dt,kp⟩,data,ps,qs,rfl,rfl,rfl,rfl,rfl,rfl,rfl,⟨⟨da,dc,by rw[q],by rw[q];exact v,by omega,w⟩,q,?_,H,G,?_,λ p hp=>?_,K,J,?_⟩,⟨?_,ZoW L,ZoW M⟩⟩
  ·show dn<=_;omega
  ·show pn*24<=_;omega
  ·have:=I p hp;omega
  ·show qn*8<=_;omega
  ·show nm.size<=_;omega
theorem Zhr{a:Option Addr}{len cap:Nat}(h:C7 enc Am W 0 spare held fuel 22 [Aa a len cap]=some x)(o:Rows.uptoBulk x.1<=1048576):∃l:List AV,Acts W a len l/\len<=1048576/\∀a∈l,a.fit:=by
 rcases ET underlying22 h with⟨e,_⟩ | ⟨y,l,c,m,k,D,K,e,_,L,M,t,J,G⟩
 ·simp only[List.cons.injEq,Value.slice.injEq,and_true]at e;obtain⟨rfl,rfl,rfl⟩:=e;exact⟨[],⟨RdG.nil _ _ _,rfl,λ a q=>(by cases q)⟩,by omega,λ a q=>(by cases q)⟩
 ·simp only[List.cons.injEq,Value.slice.injEq,and_true]at e;obtain⟨rfl,rfl,rfl⟩:=e
  have I:len<=m:=by rw[t];split <;> omega
  have B:Am.cellsOf 81=7:=by kernel_rfl
  rw[J]at o
  have v:len<=1048576:=by
   have:=ZbY ((BF len).map D);rw[AQ,Fk]at this;simp only[Rows.uptoBulk]at o;omega
  have each:∀i,i<len->∃q:AV,(∀j u,(encA.cells q)[j]? = some u->W.cell? (y.add (i*7+j))=some u)/\(∃data ps qs,Zds W q data ps qs)/\q.fit:=by
   intro i hi;obtain⟨r,A,E⟩:=G i (by omega);rw[B]at A;obtain⟨_,n,f⟩:=Ex A
   have F:Rows.uptoBulk (D i)<=1048576:=by
    have:=ZfN ((BF len).map D) (D i) (Bu.2 ⟨i,Ew.2 hi,rfl⟩);simp only[Rows.uptoBulk]at o;omega
   match r,n with
   | [v0,v1,v2,v3,v4,v5,v6],_ =>
    obtain⟨q,data,ps,qs,rfl,rfl,rfl,rfl,rfl,rfl,rfl,hq,w⟩:=Zoz E F;refine⟨q,?_,⟨data,ps,qs,hq⟩,w⟩;intro j u d
    have H:j<7:=by
     have:=(AC.1 d).1;simpa[encA]using this
    have:=f j (by omega);rw[FM]at this;rw[this]
    match j,H,d with
    | 0,_,d=>simpa[encA]using d
    | 1,_,d=>simpa[encA]using d
    | 2,_,d=>simpa[encA]using d
    | 3,_,d=>simpa[encA]using d
    | 4,_,d=>simpa[encA]using d
    | 5,_,d=>simpa[encA]using d
    | 6,_,d=>simpa[encA]using d
  haveI:Inhabited AV:=⟨⟨0,none,0,0,none,0,0,none,0,0,⟨#[]⟩,0,0⟩⟩
  obtain⟨q,hq⟩:=Fl each;refine⟨(BF len).map q,⟨?_,by simp,?_⟩,v,?_⟩
  ·intro C
   have s:0<len:=by simpa using C
   obtain⟨b,off,p⟩:=y
   have first:=(hq 0 s).1 0 (Ab Ak (q 0).k) rfl
   have o:p=none:=by
    have:=EL first
    simpa[Addr.add]using this
   subst o;refine⟨b,off,rfl,?_,?_⟩
   ·have:=CQ W _ first
    rw[Zap]at this;exact this
   ·intro i z g j u d
    have hi:i<len:=by
     have:=(AC.1 g).1;simpa using this
    obtain rfl:z=q i:=by simpa[hi]using g.symm
    have:=(hq i hi).1 j u d;rw[Zap]at this;exact this
  ·intro z g;obtain⟨i,hi,rfl⟩:=Bu.1 g;exact(hq i (Ew.1 hi)).2.1
  ·intro z g;obtain⟨i,hi,rfl⟩:=Bu.1 g;exact(hq i (Ew.1 hi)).2.2
end
theorem ZiQ:ownKnob Am.godebug=none:=by kernel_rfl
theorem laidOut:laidOutB Am=true:=by kernel_rfl
end Go.Proofs.YtlojblelpaegpaaGreat
