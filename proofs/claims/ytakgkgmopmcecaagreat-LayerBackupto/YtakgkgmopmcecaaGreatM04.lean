import Derived.Test.YtakgkgmopmcecaaGreatM03
set_option maxHeartbeats 6400000
set_option maxRecDepth 100000
open Go.IntKind renaming i64->Ak,wrap_i64->Au,u64->Al
open Go renaming World->Ap,Value->Ar,Calls->At,maxLen->AH,bodyPost_ret->As,results->AI,results_tmp2->AD,TypeId->AP,callFunc->Ck,below_drewN->AY
open Go.RowKit renaming Below->An
open Go.RowKit.Below renaming refl->Ao
open UInt64 renaming ofNat->AL,toNat_ofNat'->Cf
open List renaming length_append->Ax,take_length->DJ,isPrefixOf_iff_prefix->Dm,cons_append->Dh,take_succ_eq_append_getElem->Bh,mem_cons->Bv,length_take->AE,take_of_length_le->Av,getD_eq_getElem?_getD->C1,range->BI,mem_append->AN,getElem?_eq_some_iff->AG
open Go.Value renaming int->Ab,bool->Ad,slice->Aa,string->Ae,tuple->Af,agg->Ag,pointer->Ah
open Nat renaming le_refl->AA,le_trans->AU
open Go.Ending renaming returned->Aj
open Bool renaming eq_iff_iff->Db,eq_false_iff->Ha,or_eq_true->DQ,and_eq_true->Bn
open Go.Act renaming eval->Bc,put->DO
open Go.Obj renaming cells->Ai
open Go.Proofs.Tryz renaming prog->Am
open Go.Proofs.Tryz
namespace Go.Proofs.YtakgkgmopmcecaaGreat
open Go.RowKit
variable {C L Q c i:Nat}{a ao:Option Addr}{b d m n p u v:Bs}{dt e:Int}{es:List En}{f:Fr}{l out:Fs}{lv:Ar}{nt:ByteArray}{r:Rs}{st:St}{t:AP}{w wr:Ap}{x:Bs×Bs}{xs:List UInt64}
theorem Mi{v:Nat}(h:v<18446744073709551616):Ak.wrap (v:Int)=lK v:=by
 rw[Au];unfold lK
 split <;> omega
structure RP(w:Ap)(C:Nat)(tr:Int)(wr:Ap)(lv:Ar)(dt:Int)(nt:ByteArray)(xs:List UInt64)(r:Rs):Prop where
 res:ib wr w.heap.size 104 (Ab Al 0) (Aa none 0 0) (Ab Ak 0) (Ae ⟨#[]⟩)
 com:ib wr C 104 (Ab Al tr) lv (Ab Ak dt) (Ae nt)
 rdr:lR wr (w.heap.size+1) r
 row:gM gR 63 wr (C+1) lv xs
 bel:An w.heap.size w wr
 lo:w.heap.size+1<C
theorem RP.turn{w':Ap}{c:Int}{b:Rs}(h:RP w C c wr lv dt nt xs r)(e:lR w' (w.heap.size+1) b)(a:Aw (λ i=>i=w.heap.size+1) wr w'):RP w C c w' lv dt nt xs b where
 res:=h.res.turned a (by omega)
 com:=h.com.turned a (by have:=h.lo;omega)
 rdr:=e
 row:=h.row.stays a (λ g d q=>by have:=(h.row.lt g d).1;have:=h.lo;have f:=q;omega)
 bel:=h.bel.trans (a.below h.bel.size (λ k j q=>by have f:=q;omega))
 lo:=h.lo
theorem RP.drew{a:Int}(h:RP w C a wr lv dt nt xs r):RP w C a wr.drew lv dt nt xs r where
 res:=h.res
 com:=h.com
 rdr:=h.rdr.below (Ao _ wr).drew
 row:=h.row.below (Ao _ wr).drew
 bel:=h.bel.drew
 lo:=h.lo
theorem RP.add{b:Ap}{i:Int}{a:Ar}{ys:List UInt64}(h:RP w C i wr lv dt nt xs r)(c:An (C+1) wr b)(f:gM gR 63 b (C+1) a ys):RP w C i (b.setCell ⟨C,1,none⟩ a) a dt nt ys r:=by
 have e:Aw (λ k=>k=C) b (b.setCell ⟨C,1,none⟩ a):=BR 1 _;have m:=Nat.lt_of_lt_of_le h.com.lt c.size;have lo:=h.lo;have d:An C b (b.setCell ⟨C,1,none⟩ a):=e.below (by omega) (λ k n q=>by have l:k=C:=q;omega)
 exact {
  res:=(h.res.below c (by omega)).turned e (by omega)
  com:=(h.com.below c (by omega)).put1 _
  rdr:=(h.rdr.over (c.mono (by omega))).over (d.mono (by omega))
  row:=f.stays e (λ g j q=>by have:=(f.lt g j).1;have l:=q;omega)
  bel:=(h.bel.trans (c.mono (by omega))).trans (d.mono (by omega))
  lo:=lo }
theorem RP.date{c:Int}(h:RP w C c wr lv dt nt xs r)(d:Int):RP w C c (wr.setCell ⟨C,2,none⟩ (Ab Ak d)) lv d nt xs r:=by
 have b:Aw (λ k=>k=C) wr (wr.setCell ⟨C,2,none⟩ (Ab Ak d)):=BR 2 _;have i:=h.com.lt;have lo:=h.lo;have a:An C wr (wr.setCell ⟨C,2,none⟩ (Ab Ak d)):=b.below (by omega) (λ k j q=>by have f:k=C:=q;omega)
 exact {
  res:=h.res.turned b (by omega)
  com:=h.com.put2 _
  rdr:=h.rdr.over (a.mono (by omega))
  row:=h.row.stays b (λ g e q=>by have:=(h.row.lt g e).1;have f:=q;omega)
  bel:=h.bel.trans (a.mono (by omega))
  lo:=lo }
theorem RP.note{c:Int}(h:RP w C c wr lv dt nt xs r)(d:ByteArray):RP w C c (wr.setCell ⟨C,3,none⟩ (Ae d)) lv dt d xs r:=by
 have b:Aw (λ k=>k=C) wr (wr.setCell ⟨C,3,none⟩ (Ae d)):=BR 3 _;have i:=h.com.lt;have lo:=h.lo;have a:An C wr (wr.setCell ⟨C,3,none⟩ (Ae d)):=b.below (by omega) (λ k j q=>by have f:k=C:=q;omega)
 exact {
  res:=h.res.turned b (by omega)
  com:=h.com.put3 _
  rdr:=h.rdr.over (a.mono (by omega))
  row:=h.row.stays b (λ g e q=>by have:=(h.row.lt g e).1;have f:=q;omega)
  bel:=h.bel.trans (a.mono (by omega))
  lo:=lo }
theorem VX{n c0:Nat}{bs:Bs}(w:Ap)(hb:iE w (Aa a n c0) bs)(hl:bs.length=n):
  At Am 134 #[Aa a n c0] w λ e w'=>∃(c:Cm) (er:Int) (pa:Option Addr) (pc:Nat),e=Aj (Af #[Ag #[Ab Al (c.tree.toNat:Int),Aa pa c.ps.length pc,Ab Ak c.date,tx c.note],Ab Ak er])/\Hid (RC bs c er/\gQ gR w' pa c.ps/\c.ps.length<=pc/\Iz w w'/\E2 w pa c.ps.length):=by
 obtain⟨V,K⟩:=Xa (iX (bs,false))
 obtain⟨J,L⟩:=Xa (jM V.2)
 obtain⟨l,M⟩:=Xa (iK J.1 J.2)
 obtain⟨W,N⟩:=Xa (iX l.2)
 obtain⟨x,X⟩:=Xa (jQ W.2)
 have hp:kX bs=(⟨AL V.1,l.1,lK W.1,x.1⟩,x.2):=by
  unfold kX;rw[K,L,M,N,X]
 have v1:V.1<18446744073709551616:=by rw[<- K];exact KV _
 have v2:J.1<=255:=by rw[<- L];exact NM _
 have v4:W.1<18446744073709551616:=by rw[<- N];exact KV _
 have v3:l.1.length=J.1:=by rw[<- M];exact LW _ _
 have E:=I7 hp K L M N X v3
 clear hp K L M N X v3;obtain⟨p,r1⟩:=V;obtain⟨cn,f⟩:=J;obtain⟨dn,r4⟩:=W;simp only at E v1 v2 v4
 have sA:(w.alloc (Ai #[Ab Al 0,Aa none 0 0,Ab Ak 0,Ae ⟨#[]⟩] 104)).heap.size=w.heap.size+1:=by simp
 have ah:iE (w.alloc (Ai #[Ab Al 0,Aa none 0 0,Ab Ak 0,Ae ⟨#[]⟩] 104)) (Aa a n c0) bs:=hb.below (gW _ _);have ae:=lR.new ah hl;rw[sA]at ae;have B:=LY ae p r1 E.o.2.1
 have HW:Hid (ib ((w.alloc (Ai #[Ab Al 0,Aa none 0 0,Ab Ak 0,Ae ⟨#[]⟩] 104)).alloc (Ai #[Aa a n c0,Ad false] 305)) w.heap.size 104 (Ab Al 0) (Aa none 0 0) (Ab Ak 0) (Ae ⟨#[]⟩)/\Iz w ((w.alloc (Ai #[Ab Al 0,Aa none 0 0,Ab Ak 0,Ae ⟨#[]⟩] 104)).alloc (Ai #[Aa a n c0,Ad false] 305))/\((w.alloc (Ai #[Ab Al 0,Aa none 0 0,Ab Ak 0,Ae ⟨#[]⟩] 104)).alloc (Ai #[Aa a n c0,Ad false] 305)).heap.size=w.heap.size+2) :=
  ⟨(ib.new _ _ _ _ _ _).below (gW _ _) (by rw[sA];omega),lE _ _ _,by simp⟩
 clear hb hl sA ah ae;go_enter func134,ntmps134;go_wp2_with fail;refine B.mono ?_;rintro e w1 ⟨rfl,J1⟩;clear B
 have S1:Hid (w.heap.size+2<=w1.heap.size):=by have:=J1.o.2.size;rw[HW.o.2.2]at this;exact this
 have P1:Hid (RP w w1.heap.size (p:Int) (w1.alloc (Ai #[Ab Al (p:Int),Aa none 0 0,Ab Ak 0,Ae ⟨#[]⟩] 104)) (Aa none 0 0) 0 ⟨#[]⟩ [] r1):={
  res:=(HW.o.1.turned J1.o.2 (by omega)).below (gW w1 _) (by have:=S1.o;omega)
  com:=ib.new _ _ _ _ _ _
  rdr:=J1.o.1.below (gW w1 _)
  row:=gM.nil _ _ _ _
  bel:=(HW.o.2.1.trans (J1.o.2.below HW.o.2.1.size (λ k hk q=>by have q':=q;omega))).trans ((gW w1 _).mono (by have:=S1.o;omega))
  lo:=by have:=S1.o;omega }
 have aj:=Sb P1.o.rdr cn f E.o.2.2.1;clear J1;go_wp2_with fail;refine aj.mono ?_;rintro e w2 ⟨rfl,J2⟩;have P2:=Ih (P1.o.turn J2.o.1 J2.o.2);clear aj J2 P1
 obtain⟨C,hC⟩:=Xa w1.heap.size
 rw[hC]at P2 ⊢;clear hC S1;go_wp2_with fail;go_loopg[11] cn (λ m iv wr=>∃(i:Nat) (D:Option Addr) (lc:Nat),iv=Ab Ak i/\i+m=cn/\Hid (RP w C (p:Int) wr (Aa D i lc) 0 ⟨#[]⟩ (iK i f).1 (iK i f).2))
 case atStart=>exact⟨0,none,0,rfl,by omega,P2.o⟩
 case round =>
  obtain⟨i,D,lc,rfl,hi,U⟩:=hrel;by_cases az:i<cn
  ·have id:(i:Int)<(cn:Int):=by omega
   obtain⟨x0,x1,x2,x3⟩:=U.o.com.cells
   obtain⟨v,r',hv⟩:∃v r',iX (iK i f).2=(v,r'):=⟨_,_,rfl⟩
   have ap:(AL v).toNat=v:=by
    have:=KV (iK i f).2;rw[hv]at this;rw[Cf];simp only at this;omega
   have an:iK (i+1) f=((iK i f).1++[AL v],r'):=by
    show((iK i f).1++[AL (iX (iK i f).2).1],(iX (iK i f).2).2)=_;rw[hv]
   have ab:(iK i f).1.length=i:=LW _ _;have HN:=Ih (LY U.o.drew.rdr v r' hv)
   have HX:=I4 an ap ab (by rw[Ax,ab];rfl:((iK i f).1++[AL v]).length=i+1)
   have lo:=U.o.lo;clear an ap ab hv;go_wp2_with fail;have aw:=Ih U.o.bel
   go_region_law
    (first
     | (refine Ix gR 63 35 8 _ rfl Tryz.info63 underlying35 rfl (.tmp 14) (.tmp 16) rfl (C+1) _ (iK i f).1 (AL v) rfl (s.o.row.below (gW G _)) G.heap.size rfl aq.o (by rw[HX.o.2.2.1];omega) (by rw[HX.o.2.2.1];simp only[AH];omega) (by have:=s.o.com.lt;simp;omega) ?_;intro v4 w4 ac ag ar au;obtain⟨a4,c4,e4,_,_,_,_⟩:=gM.form ac;rw[HX.o.2.2.2]at e4;subst e4;have I:=I2 ac (((gW G _).mono (by have:=s.o.com.lt;omega)).trans ag:An (C+1) G w4);have ay:Hid (Iz w w4):=s.o.bel.trans (I.o.2.mono (by omega));have z4:=(s.o.com.below I.o.2 (by omega)).cells;have g4:=(s.o.com.below I.o.2 (by omega)).thaw;obtain⟨z0,z1,z2,z3⟩:=z4;obtain⟨g0,g1,g2,g3⟩:=g4;clear ac ag ar au)
     | (go_simp;(with_reducible refine HN.o.mono ?_);rintro e G ⟨rfl,J3⟩;have s:=Ih (U.o.drew.turn J3.o.1 J3.o.2);have k3:=s.o.com.cells.2.1;have aC:=(s.o.com.below (gW G (Ai #[Ab Al (v:Int)] 63)) s.o.com.lt).cells.2.1;have ax:=Ih s.o.bel;have aq:Hid (∀j u,(gR.cells (AL v))[j]? = some u->(G.alloc (Ai #[Ab Al (v:Int)] 63)).cell? ((⟨G.heap.size,0,none⟩:Addr).add j)=some u):=(by have:=GQ gR G (AL v) 63;rw[show(gR.cells (AL v)).toArray=#[Ab Al (v:Int)]from(by show #[Ab Al ((AL v).toNat:Int)]=_;rw[HX.o.2.1])]at this;exact this)))
   all_goals
    have P4:Hid (RP w C (p:Int) (w4.setCell ⟨C,1,none⟩ (Aa a4 (i+1) c4)) (Aa a4 (i+1) c4) 0 ⟨#[]⟩ (iK (i+1) f).1 (iK (i+1) f).2):=by
     rw[HX.o.1];exact s.o.add I.o.2 I.o.1
    go_wp2;go_roundg (gk - 1)
    case measure=>omega
    case rel=>exact⟨i+1,a4,c4,by go_num,by omega,P4.o⟩
  ·obtain rfl:i=cn:=by omega
   have s:Hid (RP w C (p:Int) wr (Aa D i lc) 0 ⟨#[]⟩ l.1 l.2):=by
    have:=U.o;rw[E.o.2.2.2.1]at this;exact this
   have B:=LY s.o.rdr dn r4 E.o.2.2.2.2.1
   obtain⟨dt,aa⟩:=Xa (lK dn)
   have aB:Ak.wrap (dn:Int)=dt:=by rw[<- aa];exact Mi v4
   have HD:=Ih aa;clear U aa;go_wp2_with fail;refine B.mono ?_;rintro e w4 ⟨rfl,I⟩;have P4:=Ih (s.o.turn I.o.1 I.o.2);obtain⟨x0,x1,x2,x3⟩:=P4.o.com.cells;obtain⟨f0,f1,f2,f3⟩:=P4.o.com.thaw;have P5:=Ih (P4.o.date dt)
   obtain⟨t,F⟩:∃t:ByteArray,t=⟨x.1.toArray⟩:=⟨_,rfl⟩
   obtain⟨r5,z⟩:=Xa x.2
   have ao:=QX P5.o.rdr t r5 (by rw[E.o.2.2.2.2.2.1,F,<- z])
   have HT:=I2 F z
   clear B I s F z;go_wp2_with fail;refine ao.mono ?_;rintro e w6 ⟨rfl,J6⟩;have P6:=Ih (P5.o.turn J6.o.1 J6.o.2);clear x0 x1 x2 x3 f0 f1 f2 f3;obtain⟨x0,x1,x2,x3⟩:=P6.o.com.cells;obtain⟨f0,f1,f2,f3⟩:=P6.o.com.thaw
   obtain⟨P,av⟩:=Xa (w6.setCell ⟨C,3,none⟩ (Ae t))
   have d:Hid (RP w C (p:Int) P (Aa D i lc) dt t l.1 r5):=by
    rw[<- av];exact P6.o.note t
   obtain⟨ra,rc,ai,_⟩:=d.o.rdr.at_;obtain⟨y0,y1⟩:=ai.cells;obtain⟨z0,z1,z2,z3⟩:=d.o.com.cells;obtain⟨q0,q1,q2,q3⟩:=d.o.res.cells;obtain⟨g0,g1,g2,g3⟩:=d.o.res.thaw
   obtain⟨rl,af⟩:=Xa r5.1.length
   rw[af]at y0;have HL:=Ih af;clear ao J6 P5 ai af
   have T:∀S:Ap,S=(((P.setCell ⟨w.heap.size,0,none⟩ (Ab Al 0)).setCell ⟨w.heap.size,1,none⟩ (Aa none 0 0)).setCell ⟨w.heap.size,2,none⟩ (Ab Ak 0)).setCell ⟨w.heap.size,3,none⟩ (Ae ⟨#[]⟩)->Iz w S:=by
    rintro S rfl;have F:=GR P w.heap.size (Ab Al 0) (Aa none 0 0) (Ab Ak 0) (Ae ⟨#[]⟩);exact d.o.bel.trans (F.below d.o.bel.size (λ k hk q=>by have q':=q;omega))
   have HZ:=Ih T;clear T
   cases R:r5.2 with
   | true =>
    rw[R]at y1;have h:RC bs lA 9:=MC (.inl (by rw[E.o.1];simp only;rw[HT.o.2];intro q;rw[q]at R;cases R));have HC:=Ih h;clear h R;go_wp2;refine As (v:=Af #[Ag #[Ab Al 0,Aa none 0 0,Ab Ak 0,Ae ⟨#[]⟩],Ab Ak 9]) ?_ rfl ?_
    ·simp[AI,Tryz.f134];go_simp
    ·exact⟨lA,9,none,0,rfl,HC.o,gQ.nil _ _ _,AA _,HZ.o _ rfl,E2.none _ _⟩
   | false =>
    rw[R]at y1;by_cases aA:0<rl
    ·have d1:(0:Int)<(rl:Int):=by omega
     have h:RC bs lA 9:=MC (.inl (by rw[E.o.1];simp only;rw[HT.o.2];intro q;have:=HL.o;rw[q]at this;simp at this;omega));have HC:=Ih h;clear h R;go_wp2;refine As (v:=Af #[Ag #[Ab Al 0,Aa none 0 0,Ab Ak 0,Ae ⟨#[]⟩],Ab Ak 9]) ?_ rfl ?_
     ·simp[AI,Tryz.f134];go_simp
     ·exact⟨lA,9,none,0,rfl,HC.o,gQ.nil _ _ _,AA _,HZ.o _ rfl,E2.none _ _⟩
    ·have al:rl=0:=by omega
     subst al
     have z:x.2=([],false):=by
      rw[HT.o.2];exact Prod.ext (List.eq_nil_of_length_eq_zero HL.o) R
     have ad:=E.o.2.2.2.2.2.2;obtain⟨am,h⟩:=d.o.row.rdc
     obtain⟨cc,y⟩:∃cc:Cm,(⟨AL p,l.1,dt,x.1⟩:Cm)=cc:=⟨_,rfl⟩
     have e1:cc.ps=l.1:=by rw[<- y]
     have e2:cc.date=dt:=by rw[<- y]
     have e3:cc.note=x.1:=by rw[<- y]
     have e4:(cc.tree.toNat:Int)=(p:Int):=by rw[<- y];simp only;rw[Cf];omega
     have ak:kX bs=(cc,([],false)):=by rw[E.o.1,<- y,z,HD.o]
     have Z:=MG (c:=cc) (w:=P) (by rw[e1];exact am) (by rw[e1];exact ad) h t (by rw[e3];exact HT.o.1) dt e2 (p:Int)
     obtain⟨ce,Y⟩:=Xa (jm cc)
     rw[Y]at Z
     have r:=I8 e1 e2 e3 e4 ak Y ad h
     clear e1 e2 e3 e4 ak Y ad am h z y R;by_cases O:ce=0
     ·subst O;go_wp2_with fail;refine Z.mono ?_;rintro e w8 ⟨rfl,A⟩;have H:Hid (Iz P w8):=A;clear A z0 z1 z2 z3 q0 q1 q2 q3 g0 g1 g2 g3 y0 y1;obtain⟨z0,z1,z2,z3⟩:=(d.o.com.below H.o d.o.com.lt).cells;obtain⟨q0,q1,q2,q3⟩:=(d.o.res.below H.o d.o.res.lt).cells;obtain⟨g0,g1,g2,g3⟩:=(d.o.res.below H.o d.o.res.lt).thaw;go_wp2;refine As (v:=Af #[Ag #[Ab Al (p:Int),Aa D i lc,Ab Ak dt,Ae t],Ab Ak 0]) ?_ rfl ?_
      ·simp[AI,Tryz.f134];go_simp
      ·have F:=GR w8 w.heap.size (Ab Al (p:Int)) (Aa D i lc) (Ab Ak dt) (Ae t);have bel:=d.o.bel.trans (H.o.mono d.o.bel.size);have Q:=(d.o.row.below H.o).stays F (λ g hg q=>by have:=(d.o.row.lt g hg).1;have:=d.o.lo;have q':=q;omega);have hg:=Wt (b:=bs) (by rw[r.o.2.2.2.2.1]) (by rw[r.o.2.2.2.2.1];exact r.o.2.2.2.2.2.1);rw[r.o.2.2.2.2.1]at hg;refine⟨cc,0,D,lc,?_,hg,?_,?_,bel.trans (F.below bel.size (λ k hk q=>by have q':=q;omega)),by rw[r.o.1,r.o.2.2.2.2.2.2.1];exact Q.newRow (by have:=d.o.lo;omega)⟩
       ·rw[r.o.1,r.o.2.1,r.o.2.2.1,r.o.2.2.2.1,r.o.2.2.2.2.2.2.1,HT.o.1]
       ·rw[r.o.1];exact Q.rdc.1
       ·rw[r.o.1,r.o.2.2.2.2.2.2.1];exact r.o.2.2.2.2.2.2.2
     ·have m0:(ce==0)=false:=by simpa using O
      have m1:(ce != 0)=true:=by simpa using O
      go_wp2_with fail;refine Z.mono ?_;rintro e w8 ⟨rfl,A⟩;have H:Hid (Iz P w8):=A;clear A z0 z1 z2 z3 q0 q1 q2 q3 g0 g1 g2 g3 y0 y1;obtain⟨q0,q1,q2,q3⟩:=(d.o.res.below H.o d.o.res.lt).cells;obtain⟨g0,g1,g2,g3⟩:=(d.o.res.below H.o d.o.res.lt).thaw;go_wp2;refine As (v:=Af #[Ag #[Ab Al 0,Aa none 0 0,Ab Ak 0,Ae ⟨#[]⟩],Ab Ak 9]) ?_ rfl ?_
      ·simp[AI,Tryz.f134];go_simp
      ·have F:=GR w8 w.heap.size (Ab Al 0) (Aa none 0 0) (Ab Ak 0) (Ae ⟨#[]⟩);have bel:=d.o.bel.trans (H.o.mono d.o.bel.size);have hg:RC bs lA 9:=MC (.inr (by rw[r.o.2.2.2.2.1];simp only;rw[r.o.2.2.2.2.2.1];exact O));exact⟨lA,9,none,0,rfl,hg,gQ.nil _ _ _,AA _,bel.trans (F.below bel.size (λ k hk q=>by have q':=q;omega)),E2.none _ _⟩
def St.files(st:St)(i:UInt64):List En:=((iq st.objs 2 i).bind jE).getD []
def St.com(st:St)(i:UInt64):Cm:=((iq st.objs 3 i).bind jF).getD lA
theorem RT.files(h:RT b es e):(jE b).getD []=es:=by
 rcases h.rd with⟨_,q⟩ | ⟨_,rfl,q⟩ <;> rw[q] <;> rfl
theorem RC.com{c:Cm}(h:RC b c e):(jF b).getD lA=c:=by
 rcases h.rd with⟨_,q⟩ | ⟨_,rfl,q⟩ <;> rw[q] <;> rfl
section
variable {w:World}{s b:Nat}{st:St}{S:Nat->Prop}
theorem Sr(h:A1 w s b st S)(i:UInt64)(g:Bool)(j:st.has 2 i=g):
  At Am 86 #[Ah (some ⟨s,0,none⟩),Ab Al (i.toNat:Int)] w λ e w'=>∃v,e=Aj (Af #[v,Ad g])/\Hid (gM gZ 125 w' w.heap.size v (st.files i)/\Iz w w'):=by
 obtain⟨M,r,t,F,h⟩:=h;obtain⟨v,l,a,c⟩:=h.look (k:=2) (by omega) i;rw[show((2:Nat):Int)=2 from rfl]at l a c;rw[j]at l;obtain⟨y,z,A,B,C,D,E⟩:=h.cell
 obtain⟨x,q⟩:∃x:Int,(i.toNat:Int)=x:=⟨_,rfl⟩
 rw[q]at l ⊢;unfold St.files;unfold St.has at j
 cases e:iq st.objs 2 i with
 | none =>
  rw[e]at j;subst j;have m:=c e;subst m;clear h a c q e;go_enter func86,ntmps86;go_wp2;refine As (AD rfl _ _ _) rfl ?_;exact⟨_,rfl,gM.nil _ _ _ _,Ao _ _⟩
 | some bs =>
  rw[e]at j;subst j;obtain⟨a1,G,m,_,_,_⟩:=(a bs e).1;have d:=(a bs e).1;rw[m]at d l;have f:=Z1 w d rfl;clear d;obtain⟨n,u⟩:=Xa bs.length;rw[u]at f l;clear h a c q e m u;go_enter func86,ntmps86;go_wp2_with fail;refine f.mono ?_;rintro e w1 ⟨es,H,I,rfl,p⟩;clear f;go_wp2;refine As (AD rfl _ _ _) rfl ?_;refine⟨_,rfl,?_,p.o.2.2⟩;rw[Option.bind_some,p.o.1.files];exact p.o.2.1
end
section
variable {w:World}{s b:Nat}{st:St}{S:Nat->Prop}
theorem Rk(h:A1 w s b st S)(i:UInt64)(g:Bool)(G:st.has 3 i=g):
  At Am 83 #[Ah (some ⟨s,0,none⟩),Ab Al (i.toNat:Int)] w λ e w'=>∃(pa:Option Addr) (pc:Nat),e=Aj (Af #[Ag #[Ab Al ((st.com i).tree.toNat:Int),Aa pa (st.com i).ps.length pc,Ab Ak (st.com i).date,tx (st.com i).note],Ad g])/\Hid (gQ gR w' pa (st.com i).ps/\(st.com i).ps.length<=pc/\Iz w w'/\E2 w pa (st.com i).ps.length):=by
 obtain⟨M,r,t,F,h⟩:=h
 obtain⟨W,T⟩:=Xa (w.alloc (Ai #[Ab Al 0,Aa none 0 0,Ab Ak 0,Ae ⟨#[]⟩] 104))
 have E:Iz w W:=by rw[<- T];exact gW _ _
 have bx:ib W w.heap.size 104 (Ab Al 0) (Aa none 0 0) (Ab Ak 0) (Ae ⟨#[]⟩):=by rw[<- T];exact ib.new _ _ _ _ _ _
 obtain⟨v,I,d,l⟩:=(h.below E).look (k:=3) (by omega) i;rw[show((3:Nat):Int)=3 from rfl]at I d l;rw[G]at I;obtain⟨c0,c1,R,c3,c4,c5,c6⟩:=(h.below E).cell
 obtain⟨x,P⟩:∃x:Int,(i.toNat:Int)=x:=⟨_,rfl⟩
 rw[P]at I ⊢
 obtain⟨cm,a⟩:=Xa (st.com i)
 rw[a];unfold St.com at a;unfold St.has at G
 cases e:iq st.objs 3 i with
 | none =>
  rw[e]at G a;subst G;have a:=a.symm;subst a;have L:=l e;subst L;obtain⟨x0,x1,x2,x3⟩:=bx.cells;obtain⟨Z,f1,f2,f3⟩:=bx.thaw;have lt:=bx.lt;have c:=Ih E;clear h d l P e bx E;go_enter func83,ntmps83;go_wp2;refine As (v:=Af #[Ag #[Ab Al 0,Aa none 0 0,Ab Ak 0,Ae ⟨#[]⟩],Ad false]) ?_ rfl ⟨none,0,rfl,gQ.nil _ _ _,AA _,?_,E2.none _ _⟩;simp[AI,Tryz.f83];go_simp;exact c.o.trans ((GR W w.heap.size _ _ _ _).below c.o.size (λ k hk q=>by have X:=q;omega))
 | some bs =>
  rw[e]at G a;subst G;obtain⟨a1,c7,L,_,_,_⟩:=(d bs e).1;have m:=(d bs e).1;rw[L]at m I;have A:=VX W m rfl;obtain⟨n,U⟩:=Xa bs.length;rw[U]at A I;have c:=I2 E bx;rw[Option.bind_some]at a;have Y:=Ih a;clear h d l P e L U m E bx a;go_enter func83,ntmps83;go_wp2_with fail;refine A.mono ?_;rintro e w1 ⟨R,er,pa,pc,rfl,f⟩
  have ec:cm=R:=by rw[<- Y.o];exact f.o.1.com
  subst ec
  obtain⟨C,B⟩:∃C:Int,(cm.tree.toNat:Int)=C:=⟨_,rfl⟩
  obtain⟨pn,z⟩:=Xa cm.ps.length;obtain⟨dt,u⟩:=Xa cm.date
  obtain⟨nt,y⟩:∃nt:ByteArray,(⟨cm.note.toArray⟩:ByteArray)=nt:=⟨_,rfl⟩
  rw[B,z,u,show tx cm.note=Ae nt by rw[<- y]];have D:=I4 B z u y;obtain⟨wA,K⟩:=Xa (w1.alloc (Ai #[Ab Al C,Aa pa pn pc,Ab Ak dt,Ae nt] 104))
  have N:Iz w1 wA:=by rw[<- K];exact gW _ _
  have H:ib wA w1.heap.size 104 (Ab Al C) (Aa pa pn pc) (Ab Ak dt) (Ae nt):=by rw[<- K];exact ib.new _ _ _ _ _ _
  have j:=(c.o.2.below f.o.2.2.2.1 c.o.2.lt).below N (c.o.2.below f.o.2.2.2.1 c.o.2.lt).lt;obtain⟨y0,y1,y2,y3⟩:=H.cells;obtain⟨x0,x1,x2,x3⟩:=j.cells;obtain⟨Z,f1,f2,f3⟩:=j.thaw;have lt:=j.lt;have Q:=Ih N;clear A B z u y N H j;go_wp2;refine As (v:=Af #[Ag #[Ab Al C,Aa pa pn pc,Ab Ak dt,Ae nt],Ad true]) ?_ rfl ?_
  simp[AI,Tryz.f83];go_simp;have V:=GR wA w.heap.size (Ab Al C) (Aa pa pn pc) (Ab Ak dt) (Ae nt);have bel:Iz w wA:=(c.o.1.trans (f.o.2.2.2.1.mono c.o.1.size)).trans (Q.o.mono (AU c.o.1.size f.o.2.2.2.1.size))
  have J:=(f.o.2.1.below Q.o).turned V (λ O p hp q=>by
   have h1:=f.o.2.2.2.2 O p hp;have h2:=c.o.2.lt;have X:=q
   omega)
  refine⟨pa,pc,?_,J,f.o.2.2.1,bel.trans (V.below bel.size (λ k hk q=>by have X:=q;omega)),by rw[D.o.2.1];exact λ O p hp=>AU c.o.1.size (f.o.2.2.2.2 (by rw[D.o.2.1];exact O) p hp)⟩;rw[D.o.1,D.o.2.1,D.o.2.2.1,<- D.o.2.2.2]
  rfl
end
theorem Hy(s:ByteArray)(l:s.size<=9223372036854775807)(w:Ap):
  At Am 110 #[Ae s] w λ e w'=>e=Aj (Ad (gS s.data.toList))/\w'=w:=by
 have E:=Ih (jz s);go_enter func110,ntmps110;go_wp2_with fail;go_loopg[3] s.size (λ k v wr=>∃i:Nat,v=Ab Ak i/\i+k=s.size/\wr=w/\Hid ((s.data.toList.take i).all okB=true))
 case atStart=>exact⟨0,rfl,by omega,rfl,by simp[Hid]⟩
 case round =>
  obtain⟨i,rfl,hi,rfl,a⟩:=hrel;by_cases d:i<s.size
  ·obtain⟨c,h⟩:∃c:Int,(s[i].toNat:Int)=c:=⟨_,rfl⟩
   have f:=Ih h;go_wp2_with fail
   all_goals first
    | (have ok:nJ c=true:=by(clear a f h E;simp_all [nJ];try omega)
       go_roundg (gk - 1)
       case measure=>omega
       case rel=>exact⟨i+1,by go_num,by omega,rfl,Qi (E.o ▸ d) a.o (f.o ▸ ok)⟩)
    | (have ok:nJ c=false:=by(clear a f h E;simp_all [nJ];try omega)
       go_ret
       exact⟨by rw[Tb (E.o ▸ d) (f.o ▸ ok)];rfl,rfl⟩)
  ·obtain rfl:i=s.size:=by omega
   have g:=a.o;rw[E.o,DJ]at g
   have e:gS s.data.toList=(decide (1<=s.size)&&decide (s.size<=16)):=by rw[gS,g,<- E.o,Bool.and_true]
   have j:=Ih e;clear g e a;go_wp2
   all_goals go_ret
   all_goals refine⟨A7 (λ b=>Aj (Ad b)) ?_,rfl⟩
   all_goals(rw[j.o,Db];simp;try omega)
theorem gE(h:p.length<d.length):under p d=false:=by
 rw[Ha];intro q;simp only[under,DQ,Dm,Eg]at q
 rcases q with rfl|q
 omega
 have:=q.length_le;simp at this;omega
theorem Vp(q:under p d=true):p.take d.length=d:=by
 simp only[under,DQ,Dm,Eg]at q
 rcases q with rfl|⟨u,rfl⟩
 simp
 simp
theorem XA(h:p.take d.length≠d):under p d=false:=by
 rw[Ha]
 exact λ q=>h (Vp q)
theorem fk(h:p.take d.length=d)(a:p.length=d.length):under p d=true:=by
 rw[<- a,DJ]at h;simp[under,h]
theorem dx(h:p.take d.length=d)(e:d.length<p.length):under p d=decide (((p[d.length]).toNat:Int)=47):=by
 obtain⟨u,rfl⟩:∃u,p=d++u:=⟨p.drop d.length,by
  have:=List.take_append_drop d.length p;rw[h]at this
  exact this.symm⟩
 cases u with
 | nil=>simp at e
 | cons c t =>
  have b:(d++c::t)[d.length]=c:=by simp
  rw[b,Db];simp only[under,DQ,Dm,Eg,A9]
  constructor
  rintro(q|⟨u,q⟩);simp at q;rw[List.append_assoc,List.append_cancel_left_eq]at q;simp at q;rw[<- q.1];rfl;intro q
  right
  have a:c.toNat=(47:UInt8).toNat:=by show c.toNat=47;omega
  have:c=47:=UInt8.toNat_inj.1 a;subst this;exact⟨t,by simp⟩
theorem V7{p d:ByteArray}:((p.extract 0 d.size).toList==d.toList)=(p.data.toList.take d.data.toList.length==d.data.toList):=by
 rw[JT,ByteArray.toList_mk,ByteArray.toList_eq,jz]
theorem SB(p d:ByteArray)(w:Ap):
  At Am 163 #[Ae p,Ae d] w λ e w'=>e=Aj (Ad (under p.data.toList d.data.toList))/\w'=w:=by
 have hp:Hid _:=jz p;have hd:Hid _:=jz d;by_cases h:p.size<d.size
 ·rw[gE (by rw[<- hp.o,<- hd.o];exact h)];go_enter func163,ntmps163;go_wp2;go_ret;exact⟨rfl,rfl⟩
 ·have X:=@V7 p d
  obtain⟨f,a⟩:=Xa (((p.extract 0 d.size).toList==d.toList))
  cases f with
  | false =>
   rw[XA (by rw[a]at X;simpa using X.symm)]
   have c:(!(p.extract 0 d.size).toList==d.toList)=true:=by rw[a];rfl
   have j:¬List.take d.size p.data.toList=d.data.toList:=by rw[a]at X;rw[hd.o];simpa using X.symm
   go_enter func163,ntmps163;go_wp2
   all_goals go_ret
   all_goals first
    | exact⟨rfl,rfl⟩
    | (exfalso;clear X hp hd;simp_all;done)
  | true =>
   have T:p.data.toList.take d.data.toList.length=d.data.toList:=by rw[a]at X;simpa using X.symm
   have c:(!(p.extract 0 d.size).toList==d.toList)=false:=by rw[a];rfl
   by_cases i:p.size=d.size
   ·rw[fk T (by rw[<- hp.o,<- hd.o];exact i)];clear X T;go_enter func163,ntmps163;go_wp2
    all_goals go_ret
    all_goals exact⟨rfl,rfl⟩
   ·have g:d.size<p.size:=by omega
    have U:=dx T (by rw[<- hp.o,<- hd.o];exact g);rw[U]
    have e:(p.data.toList[d.data.toList.length]'(by rw[<- hp.o,<- hd.o];exact g))=p[d.size]:=by
     show p.data.toList[d.data.toList.length]'_=p.data.toList[d.size]'_
     congr 1
    rw[e];clear X T U;go_enter func163,ntmps163;go_wp2
    all_goals go_ret
    all_goals refine⟨A7 (λ b=>Aj (Ad b)) ?_,rfl⟩
    all_goals(rw[Db];simp;try omega)
def mE(ns:List Bs)(b:UInt8):List Bs:=if b=47 then ns++[[]]else ns.dropLast++[ns.getLastD []++[b]]
theorem S4:∀(l:Bs) (b:UInt8),names (l++[b])=mE (names l) b
 | [],b=>by
  by_cases h:b=47 <;> simp[names,mE,h]
 | a::t,b=>by
  have g:=S4 t b;have c:=KL t;by_cases f:a=47;simp only[Dh,names,f,Ff,g];by_cases d:b=47;simp[mE,d]
  cases e:names t with
  | nil=>exact absurd e c
  | cons x y=>simp[mE,d]
  ·simp only[Dh,names,f,Ek,g];by_cases d:b=47
   cases e:names t with
   | nil=>exact absurd e c
   | cons x y=>simp[mE,d]
   ·cases e:names t with
    | nil=>exact absurd e c
    | cons x y=>cases y <;> simp[mE,d]
theorem Nc(l:Bs):(names l).length<=l.length+1:=by
 have:=Ln l;omega
theorem Y9{l:Bs}(h:i<l.length):l.take (i+1)=l.take i++[l[i]]:=Bh h
theorem ZR{c:List Bs}{k:Nat}{b:UInt8}(g:c.length=k+1)(i:¬b=47):mE c b=c.set k (el c k++[b]):=by
 rw[mE,Ay i]
 have f:c≠[]:=by intro e;rw[e]at g;simp at g
 obtain⟨a,y,rfl⟩:∃a y,c=a++[y]:=⟨c.dropLast,c.getLast f,(List.dropLast_concat_getLast f).symm⟩
 have d:a.length=k:=by simpa using g
 have h:el (a++[y]) k=y:=by rw[F5 (by omega)];simp[<- d]
 rw[h];simp[<- d]
theorem Qm:∀(b:List Bs) (x:Bs),x∈b->x.length<=b.flatten.length
 | a::t,x,h=>by
  rcases Bv.1 h with e|e
  subst e;simp;have:=Qm t x e;rw[List.flatten_cons,Ax];omega
theorem MZ{l x:Bs}(h:x∈names l):x.length<=l.length:=by
 have a:=Qm _ _ h;have b:=Ln l;have c:=List.length_pos_of_mem h;omega
theorem V5(a:Ap)(b:UInt8):
  (convert 24 9 (Aa (some ⟨a.heap.size,0,none⟩) 1 1)).run Am (a.alloc (Ai #[Ab .u8 b.toNat] 5)).drew=.ok (Ae ⟨#[b]⟩) (a.alloc (Ai #[Ab .u8 b.toNat] 5)).drew:=by
 have h:=run_convert_bytes_back (P:=Am) (a.alloc (Ai #[Ab .u8 b.toNat] 5)).drew 24 9 5 ⟨a.heap.size,0,none⟩ 1 [b] underlying24 underlying5 underlying9 (by
  intro j d
  have c:j=0:=by simpa using d
  subst c;show(a.alloc (Ai #[Ab .u8 b.toNat] 5)).cell? _=_;rw[JZ,World.cell?_alloc_new]
  rfl)
 exact h
theorem Rt(s:ByteArray)(hs:s.size<=102)(w:Ap):
  At Am 199 #[Ae s] w λ e w'=>∃v',e=Aj v'/\Own w' w.heap.size v' (names s.data.toList)/\Iz w w':=by
 have E:=Ih (jz s);go_enter func199,ntmps199;go_wp2_with fail;go_loopg[3,4] s.size (λ k ov v wr=>∃(i:Nat),v=Ab Ak i/\i+k=s.size/\Hid (Own wr w.heap.size ov (names (s.data.toList.take i))/\Iz w wr))
 case atStart=>exact⟨0,rfl,by omega,World.ownsRow_lit w _ 1 (AA _) (by decide) rfl,(Ao _ w).alloc (AA _) _⟩
 case round =>
  obtain⟨i,rfl,hi,d⟩:=hrel;by_cases K:i<s.size
  ·have f:names (s.data.toList.take (i+1))=mE (names (s.data.toList.take i)) s[i]:=by
    rw[Y9 (by rw[<- E.o];exact K),S4]
    rfl
   obtain⟨b,U⟩:=Xa (s[i])
   rw[U]at f
   obtain⟨z,t⟩:=Xa (names (s.data.toList.take i))
   have r:=Nc (s.data.toList.take i);have G:=KL (s.data.toList.take i);rw[t]at f r G d;have L:Hid _:=f;rw[AE]at r
   have Q:z.length<=103:=by omega
   clear f r;by_cases m:b=47
   ·subst m;have I:((47:UInt8).toNat:Int)=47:=rfl;go_wp2_with(at_builtin;refine Hl rfl (.tmp 16) (.tmp 17) rfl w.heap.size _ z [] _ rfl d.o.1 rfl (by omega) d.o.2.size ?_;intro v' w4 u n);go_roundg (gk - 1)
    case measure=>omega
    case rel=>exact⟨i+1,by go_num,by omega,by rw[L.o,mE,AC rfl];exact u,d.o.2.trans n⟩
   ·have I:((b.toNat:Int)==47)=false:=by
     rw[A3];intro e;exact m (UInt8.toNat_inj.1 (show b.toNat=47 by omega))
    obtain⟨k,P⟩:∃k,z.length=k+1:=⟨z.length - 1,by cases z with
     | nil=>exact absurd rfl G
     | cons x y=>simp⟩
    obtain⟨ao,cap,rfl,O,W,R⟩:=d.o.1.form
    obtain⟨g,J⟩:∃g,ao=some ⟨g,0,none⟩:=(Nn d.o.1).elim λ a h=>h.elim λ c h=>by
     have:=h.2.2.2 (by omega);obtain⟨g,J⟩:=this;exact⟨g,by have:=h.1;cases this;exact J⟩
    subst J;rw[P]at d ⊢
    obtain⟨x,H⟩:=Xa (el z k)
    have C:=Vg d.o.1 (i:=k) (by omega);rw[H]at C;obtain⟨N,Y⟩:=C
    obtain⟨xb,l⟩:∃xb:ByteArray,(⟨x.toArray⟩:ByteArray)=xb:=⟨_,rfl⟩
    rw[l]at N
    have aa:xb.size<=102:=by
     have F:x∈names (s.data.toList.take i):=by rw[t,<- H];exact Iy (by omega)
     have T:=MZ F;rw[AE]at T;rw[<- l,jz];show x.length<=102;omega
    have D:g<wr.heap.size:=(d.o.1.lt g rfl).2
    have V:∀o,(wr.alloc o).cell? ⟨g,k,none⟩=some (Ae xb):=λ o=>(((Ao _ wr).alloc (AA _) o).cell (p:=⟨g,k,none⟩) D).trans N
    have Z:∀o,(wr.alloc o).frozen? ⟨g,k,none⟩=false:=λ o=>(((Ao _ wr).alloc (AA _) o).frozen (p:=⟨g,k,none⟩) D).trans Y
    have X:=λ ww=>V5 ww b
    have M:=I2 H l
    clear R H l t;go_wp2_with fail;go_region;go_wp2;go_roundg (gk - 1)
    case measure=>omega
    case rel =>
     have S:xb++⟨#[b]⟩=⟨(x++[b]).toArray⟩:=by
      rw[<- M.o.2];apply ByteArray.ext;rw[ByteArray.data_append];simp
     rw[S]
     have A:Iz w (wr.setCell ⟨g,k,none⟩ (Ae ⟨(x++[b]).toArray⟩)) :=
      d.o.2.trans ((Aw.refl (λ k=>k=g) wr).setCell (.inl rfl) _ |>.below d.o.2.size (λ j hj q=>by have:=(d.o.1.lt g rfl).1;omega))
     have B:An (wr.setCell ⟨g,k,none⟩ (Ae ⟨(x++[b]).toArray⟩)).heap.size (wr.setCell ⟨g,k,none⟩ (Ae ⟨(x++[b]).toArray⟩)) ((wr.setCell ⟨g,k,none⟩ (Ae ⟨(x++[b]).toArray⟩)).alloc (Ai #[Ab .u8 b.toNat] 5)).drew:=((Ao _ _).alloc (AA _) _).drew;refine⟨i+1,by go_num,by omega,?_,A.trans (B.mono A.size)⟩;rw[L.o,ZR P m,M.o.1];exact(Vc d.o.1 k (x++[b])).below B
  ·obtain rfl:i=s.size:=by omega
   rw[E.o,DJ]at d;go_wp2;go_ret;exact⟨_,rfl,d.o.1,d.o.2⟩
theorem VY{a:List Bs}{p:Bs->Bool}(h:i<a.length)(b:(a.take i).all p=true)(c:p (el a i)=true):(a.take (i+1)).all p=true:=by
 rw[Bh h,List.all_append,b,<- F5 h];simp[c]
theorem VR{a:List Bs}{p:Bs->Bool}(h:i<a.length)(b:p (el a i)=false):a.all p=false :=
 List.all_eq_false.2 ⟨_,Iy h,by simp[b]⟩
theorem Rm(l:Bs)(b:l.length<=9223372036854775807)(f:Bool)(a:gS l=f)(w:Ap):
  At Am 110 #[Ae ⟨l.toArray⟩] w λ e w'=>e=Aj (Ad f)/\w'=w:=by
 subst a;exact Hy ⟨l.toArray⟩ (by rw[jz];exact b) w
theorem MY(s:ByteArray)(w:Ap):
  At Am 162 #[Ae s] w λ e w'=>e=Aj (Ad (gV s.data.toList))/\Iz w w':=by
 have E:=Ih (jz s);by_cases h:s.size<=102
 ·have J:¬(102:Int)<s.size:=by omega
  have z:=Rt s h w
  obtain⟨a,c⟩:=Xa (names s.data.toList)
  have m:gV s.data.toList=(a.all gS&&decide (a.length<=6)):=by rw[gV,NQ,c]
  have l:∀x∈a,x.length<=102:=by
   intro x H;rw[<- c]at H;have:=MZ H;rw[<- E.o]at this;omega
  have j:=Nc s.data.toList;rw[c,<- E.o]at j;rw[c]at z
  have P:=I2 m l
  clear m l c;go_enter func162,ntmps162;go_wp2_with fail;refine z.mono ?_;rintro e w1 ⟨M,rfl,F,C⟩;obtain⟨ao,cap,rfl,_,_,R⟩:=F.form
  obtain⟨n,f⟩:=Xa a.length
  have G:=I3 R f C
  rw[f]at j ⊢;clear F C R z f;go_wp2_with fail;go_loopg[4] n (λ k v wr=>∃(i:Nat),v=Ab Ak i/\i+k=n/\wr=w1/\Hid ((a.take i).all gS=true))
  case atStart=>exact⟨0,rfl,by omega,rfl,rfl⟩
  case round =>
   obtain⟨i,rfl,hi,rfl,B⟩:=hrel;by_cases d:i<n
   ·have id:(i:Int)<(n:Int):=by omega
    obtain⟨b1,L,rfl,D,g⟩:=G.o.1 (by rw[G.o.2.1];omega)
    obtain⟨y,r⟩:=Xa (el a i)
    have I:=g i (by rw[G.o.2.1];omega);rw[r]at I
    have K:y.length<=102:=by rw[<- r];exact P.o.2 _ (Iy (by rw[G.o.2.1];exact d))
    have X:=Ih r;clear g r
    cases q:gS y with
    | true =>
     have u:=Rm y (by omega) true q;go_wp2_with fail;refine(u _).mono ?_;rintro e w' ⟨rfl,rfl⟩;go_wp2;go_roundg (gk - 1)
     case measure=>omega
     case rel=>exact⟨i+1,by go_num,by omega,rfl,VY (by rw[G.o.2.1];exact d) B.o (by rw[X.o];exact q)⟩
    | false =>
     have u:=Rm y (by omega) false q;go_wp2_with fail;refine(u _).mono ?_;rintro e w' ⟨rfl,rfl⟩;go_wp2;go_ret;exact⟨by rw[P.o.1,VR (p:=gS) (i:=i) (by rw[G.o.2.1];exact d) (by rw[X.o];exact q)];rfl,G.o.2.2⟩
   ·obtain rfl:i=n:=by omega
    have t:=B.o;rw[Av (by rw[G.o.2.1];omega)]at t;have A:=Ih t;clear t;go_wp2;go_ret;refine⟨A7 (λ b=>Aj (Ad b)) ?_,G.o.2.2⟩;rw[P.o.1,A.o,G.o.2.1,Db];simp
    try omega
 ·have J:(102:Int)<s.size:=by omega
  have m:gV s.data.toList=false:=by
   rw[<- OH,mS,<- E.o];simp;omega
  rw[m];go_enter func162,ntmps162;go_wp2;go_ret;exact⟨rfl,Ao _ _⟩
theorem NN(l:Bs)(f:Bool)(a:gV l=f)(w:Ap):
  At Am 162 #[Ae ⟨l.toArray⟩] w λ e w'=>e=Aj (Ad f)/\Iz w w':=by
 subst a;exact MY ⟨l.toArray⟩ w
theorem VG{n:Nat}(w:Ap)(s:gQ gZ w ao es)(r:es.length=n)(E:n*24<=140737488355328):
  At Am 50 #[Aa ao n c] w λ e w'=>∃v,e=Aj v/\Hid (gM gZ 203 w' w.heap.size v es/\Iz w w'):=by
 have H:=I2 s r
 clear s r;go_enter func50,ntmps50;go_wp2_with fail;go_loopg[3,4] n (λ m rv D wr=>∃i:Nat,D=Ab Ak i/\i+m=n/\Hid (gM gZ 203 wr w.heap.size rv (es.take i)/\Iz w wr))
 case atStart=>exact⟨0,rfl,by omega,gM.nil _ _ _ _,Ao _ _⟩
 case round =>
  obtain⟨i,rfl,hi,a⟩:=hrel;by_cases l:i<n
  ·have id:(i:Int)<(n:Int):=by omega
   have C:(0:Int)<=(i:Int):=by omega
   obtain⟨e,h⟩:=BK H.o.2 l;obtain⟨b,off,rfl,y⟩:=H.o.1.some_of h;obtain⟨x,t,u⟩:=(H.o.1.below a.o.2).ents h;have g:=KF h;obtain⟨d,z⟩:=e;simp only at t u
   have f:(es.take i).length=i:=by rw[AE,H.o.2];omega
   have j:=I2 g f
   clear h g f;go_wp2_with fail;go_region_law(refine Ix gZ 203 121 24 _ rfl Tryz.info203 underlying121 rfl (.tmp 11) (.tmp 23) rfl w.heap.size _ (es.take i) (d,z) rfl (a.o.1.below ((Ao _ wr).drew.trans (gW wr.drew _))) wr.heap.size rfl (GQ gZ wr.drew (d,z) 203) (by rw[j.o.2];omega) (by rw[j.o.2];simp only[AH];omega) (by have:=a.o.2.size;simp;omega) ?_;intro v4 F p k A B)
   all_goals
    go_wp2;go_roundg (gk - 1)
    case measure=>omega
    case rel=>exact⟨i+1,by go_num,by omega,by rw[j.o.1];exact p,a.o.2.trans ((((gW wr _).drew).mono a.o.2.size).trans k)⟩
  obtain rfl:i=n:=by omega
  have q:es.take i=es:=Av (by rw[H.o.2];omega);rw[q]at a;go_wp2;go_ret;exact⟨_,rfl,a.o.1,a.o.2⟩
theorem Yy{n:Nat}(p:Bs)(w:Ap)(s:gQ gZ w ao es)(q:es.length=n)(A:n<=4000000000000000000)(o:Option UInt64)(r:lh es p=o):
  At Am 205 #[Aa ao n c,tx p] w λ e w'=>e=Aj (Af #[Ab Al ((o.getD 0).toNat:Int),Ad o.isSome])/\An w.heap.size w w':=by
 have H:=I3 s q r
 clear s q r;go_enter func205,ntmps205;go_wp2_with fail;go_loopg[6] n (λ m x wr=>∃i:Nat,x=Ab Ak i/\i+m=n/\Hid ((es.take i).any (λ e=>e.1==p)=false/\An w.heap.size w wr))
 case atStart=>exact⟨0,rfl,by omega,rfl,Ao _ _⟩
 case round =>
  obtain⟨i,rfl,hi,f⟩:=hrel;by_cases j:i<n
  ·have id:(i:Int)<(n:Int):=by omega
   obtain⟨e,h⟩:=BK H.o.2.1 j;obtain⟨b,off,rfl,v⟩:=H.o.1.some_of h;obtain⟨_,t,u⟩:=(H.o.1.below f.o.2).ents h;obtain⟨d,z⟩:=e;simp only at t u;have l:=Ih h;clear h;by_cases g:d=p
   ·subst g;have a:=YZ f.o.1 l.o rfl;rw[H.o.2.2]at a;subst a;go_wp2;refine As (AD rfl _ _ _) rfl ?_;exact⟨rfl,f.o.2⟩
   ·have y:(d==p)=false:=by simpa using g
    go_wp2;go_roundg (gk - 1)
    case measure=>omega
    case rel=>exact⟨i+1,by go_num,by omega,MB (p:=λ e:En=>e.1==p) l.o f.o.1 y,f.o.2⟩
  ·obtain rfl:i=n:=by omega
   have k:es.take i=es:=Av (by rw[H.o.2.1];omega);rw[k]at f;have a:=Vr f.o.1;rw[H.o.2.2]at a;subst a;go_wp2;refine As (AD rfl _ _ _) rfl ?_;exact⟨rfl,f.o.2⟩
def iI(ids:List UInt64)(n:Int):UInt64:=if ids.length=0∨n<0 then 12345 else ids.getD (n.toNat % ids.length) 0
def jy(ns:List Int)(i:Nat):Int:=ns.getD i 0
theorem KW{ids:List UInt64}(h:gQ gR w a ids)(f:ids.length=L)(v:L<=4000000000000000000)(n:Int)(x:Int)(d:((iI ids n).toNat:Int)=x):
  At Am 56 #[Aa a L c,Ab Ak n] w λ e w'=>e=Aj (Ab Al x)/\w'=w:=by
 by_cases q:L=0
 ·have e:x=12345:=by rw[<- d];unfold iI;rw[AC (.inl (by omega))];rfl
  subst q e;clear h f d;go_enter func56,ntmps56;go_wp2;go_ret;exact⟨rfl,rfl⟩
 have z0:((L:Int)==0)=false:=by rw[A3];omega
 have A:¬(L:Int)=0:=by omega
 by_cases s:n<0
 ·have e:x=12345:=by rw[<- d];unfold iI;rw[AC (.inr s)];rfl
  subst e;clear h f d;go_enter func56,ntmps56;go_wp2;go_ret;exact⟨rfl,rfl⟩
 obtain⟨m,rfl⟩:∃m:Nat,n=(m:Int):=⟨n.toNat,by omega⟩
 obtain⟨r,i⟩:=Xa (m % L)
 have k:r<L:=by rw[<- i];exact Nat.mod_lt _ (by omega)
 have u:(m:Int).tmod (L:Int)=(r:Int):=by rw[<- i];rfl
 obtain⟨y,j⟩:=BK f k
 have p:x=(y.toNat:Int):=by
  rw[<- d];unfold iI;rw[Ay (by omega)];simp only[Int.toNat_natCast,f,i];rw[C1,j]
  rfl
 subst p;obtain⟨b,off,rfl,t⟩:=h.some_of j;obtain⟨_,o⟩:=h.nums j
 obtain⟨l,g⟩:∃l:Int,(y.toNat:Int)=l:=⟨_,rfl⟩
 rw[g]at o ⊢
 have w1:Ak.wrap (r:Int)=(r:Int):=by rw[Au];omega
 have z:(r:Int)<(L:Int):=by omega
 clear h f d j g i;go_enter func56,ntmps56;go_wp2;go_ret;exact⟨rfl,rfl⟩
theorem K0{k:List Int}(h:gQ encI w a k)(j:k.length=L)(_:L<=4000000000000000000)(i:Nat)(x:Int)(d:jy k i=x):
  At Am 57 #[Aa a L c,Ab Ak (i:Int)] w λ e w'=>e=Aj (Ab Ak x)/\w'=w:=by
 by_cases hi:i<L
 ·obtain⟨y,f⟩:=BK j hi
  have g:y=x:=by rw[<- d];unfold jy;rw[C1,f];rfl
  subst g;obtain⟨b,off,rfl,m⟩:=h.some_of f;have o:=h.ints f
  have p:(i:Int)<(L:Int):=by omega
  have n:¬(L:Int)<=(i:Int):=by omega
  clear h j d f;go_enter func57,ntmps57;go_wp2;go_ret;exact⟨rfl,rfl⟩
 ·have g:x=0:=by rw[<- d];unfold jy;rw[C1,List.getElem?_eq_none (by omega)];rfl
  subst g
  have n:(L:Int)<=(i:Int):=by omega
  clear h j d;go_enter func57,ntmps57;go_wp2;go_ret;exact⟨rfl,rfl⟩
def ms:ju Bs:=⟨λ s=>[tx s],1,λ _=>rfl,by decide,by intro x u h;simp at h;subst h;rfl⟩
theorem gQ.txts {w:World} {b off:Nat} {ss:List Bs} (h:gQ ms w (some ⟨b,off,none⟩) ss) {i:Nat} {s:Bs} (hx:ss[i]? = some s):b<w.heap.size/\w.cell? ⟨b,off+i,none⟩=some (tx s):=by
 obtain ⟨b', off', e', hlt, hc⟩ := h (by rcases Nat.lt_or_ge i ss.length with q | q
                                         omega
                                         rw [List.getElem?_eq_none q] at hx; cases hx)
 obtain ⟨rfl,rfl⟩:b=b'/\off=off':=by simpa using e'
 have h0:=hc i s hx 0 _ rfl;exact ⟨hlt,by simpa [ms] using h0⟩
def gT(w:Ap)(B:Nat)(t:AP)(cs:Array Ar):Prop:=w.heap[B]? = some (Ai cs t (0,0))
section
variable {w w':World}{B:Nat}{t:TypeId}{cs:Array Value}
theorem gT.lt(h:gT w B t cs):B<w.heap.size:=(Array.getElem?_eq_some_iff.1 h).1
theorem gT.below{K:Nat}(h:gT w B t cs)(b:An K w w')(a:B<K):gT w' B t cs:=(b.block B a).trans h
theorem gT.turned{S:Nat->Prop}(h:gT w B t cs)(b:Aw S w w')(a:¬S B):gT w' B t cs:=(b.block B h.lt a).trans h
theorem gT.cell(h:gT w B t cs){j:Nat}{v:Ar}(a:cs[j]? = some v):w.cell? ⟨B,j,none⟩=some v:=by
 unfold gT at h;simp[World.cell?,h,a]
theorem gT.thaw(h:gT w B t cs)(j:Nat):w.frozen? ⟨B,j,none⟩=false:=by
 unfold gT at h;simp[World.frozen?,h]
theorem gT.new(w:Ap)(t:AP)(cs:Array Ar):gT (w.alloc (Ai cs t)) w.heap.size t cs:=by
 unfold gT World.alloc;simp
theorem gT.put(h:gT w B t cs)(j:Nat)(v:Ar):gT (w.setCell ⟨B,j,none⟩ v) B t (cs.setIfInBounds j v):=by
 unfold gT at h ⊢;simp[World.setCell,Array.getElem?_modify,h]
end
theorem gT.c14{a0 a1 a2 a3 a4 a5 a6 a7 a8 a9 a b c d:Ar}(h:gT w Q t #[a0,a1,a2,a3,a4,a5,a6,a7,a8,a9,a,b,c,d]):w.cell? ⟨Q,0,none⟩=some a0/\w.cell? ⟨Q,1,none⟩=some a1/\w.cell? ⟨Q,2,none⟩=some a2/\w.cell? ⟨Q,3,none⟩=some a3/\w.cell? ⟨Q,4,none⟩=some a4/\w.cell? ⟨Q,5,none⟩=some a5/\w.cell? ⟨Q,6,none⟩=some a6/\w.cell? ⟨Q,7,none⟩=some a7/\w.cell? ⟨Q,8,none⟩=some a8/\w.cell? ⟨Q,9,none⟩=some a9/\w.cell? ⟨Q,10,none⟩=some a/\w.cell? ⟨Q,11,none⟩=some b/\w.cell? ⟨Q,12,none⟩=some c/\w.cell? ⟨Q,13,none⟩=some d :=
 ⟨h.cell rfl,h.cell rfl,h.cell rfl,h.cell rfl,h.cell rfl,h.cell rfl,h.cell rfl,h.cell rfl,h.cell rfl,h.cell rfl,h.cell rfl,h.cell rfl,h.cell rfl,h.cell rfl⟩
theorem gT.t14{cs:Array Ar}(h:gT w Q t cs):w.frozen? ⟨Q,0,none⟩=false/\w.frozen? ⟨Q,1,none⟩=false/\w.frozen? ⟨Q,2,none⟩=false/\w.frozen? ⟨Q,3,none⟩=false/\w.frozen? ⟨Q,4,none⟩=false/\w.frozen? ⟨Q,5,none⟩=false/\w.frozen? ⟨Q,6,none⟩=false/\w.frozen? ⟨Q,7,none⟩=false/\w.frozen? ⟨Q,8,none⟩=false/\w.frozen? ⟨Q,9,none⟩=false/\w.frozen? ⟨Q,10,none⟩=false/\w.frozen? ⟨Q,11,none⟩=false/\w.frozen? ⟨Q,12,none⟩=false/\w.frozen? ⟨Q,13,none⟩=false :=
 ⟨h.thaw _,h.thaw _,h.thaw _,h.thaw _,h.thaw _,h.thaw _,h.thaw _,h.thaw _,h.thaw _,h.thaw _,h.thaw _,h.thaw _,h.thaw _,h.thaw _⟩
abbrev iO(k:Int)(dv pv qv:Ar)(nm:ByteArray)(dt kp:Int):Array Ar:=#[Ab Ak k,dv,pv,qv,Ae nm,Ab Ak dt,Ab Ak kp]
abbrev mQ(k:Int)(dv pv qv:Ar)(nm:ByteArray)(dt kp:Int):Ar:=Ag (iO k dv pv qv nm dt kp)
def lY(ps:List Bs)(qs:List Int)(ids:List UInt64)(i:Nat):En:=(ps.getD i [],iI ids (jy qs i))
def kF(ps:List Bs)(qs:List Int)(ids:List UInt64):List En:=(BI ps.length).map (lY ps qs ids)
theorem Jt{ops:Array Oper}{o:Oper}{a:Act}{K:Act->Ap->Prop}{Q:Exit->Act->Ap->Prop}{X:Prop}(j:o.guard=none)(x y:Operand)(f:Nat)(ts:Array AP)
  (b:o.op=.call { callee:=.value (.func f),args:=#[x,y],argTypes:=ts }) (d:∀args w,(Ck f args).run Am w=.ok (.enter f args) w) (c u2 v:Ar) (l:a.eval x=c) (m:a.eval y=u2)
  (g:At Am f #[c,u2] w λ e w'=>e=Aj v/\w'=w) (h:K (a.put o.dst v) w) :
  if Region.wanted o (yielded ops a.tmps)=true then Oper.wp Am o a w K Q else X:=by
 have k:Region.wanted o (yielded ops a.tmps)=true:=by simp[Region.wanted,j]
 rw[AC k];unfold Oper.wp
 have e:(execOp a.eval o).run Am w=.ok (.enter f #[c,u2]) w:=by
  have i:a.eval (.func f)=.func (.func f) #[] #[]:=rfl;simp[execOp,b,resolve,invoke,l,m,i,Deferred.ofValue,d]
 rw[e,Oper.upon_enter];refine g.mono ?_;rintro e w' ⟨rfl,rfl⟩;exact h
theorem NK:∀args w,(Ck 57 args).run Am w=.ok (.enter 57 args) w:=enters_of func57 (by kernel_rfl) rfl
theorem L7:∀args w,(Ck 56 args).run Am w=.ok (.enter 56 args) w:=enters_of func56 (by kernel_rfl) rfl
theorem MN(w:Ap)(a b c:Array Ar)(t1 t2 t3:AP):
  gT (((w.alloc (Ai a t1)).alloc (Ai b t2)).alloc (Ai c t3)) w.heap.size t1 a /\
  gT (((w.alloc (Ai a t1)).alloc (Ai b t2)).alloc (Ai c t3)) (w.heap.size+1) t2 b /\
  gT (((w.alloc (Ai a t1)).alloc (Ai b t2)).alloc (Ai c t3)) (w.heap.size+2) t3 c /\
  Iz w (((w.alloc (Ai a t1)).alloc (Ai b t2)).alloc (Ai c t3)):=by
 have e:(w.alloc (Ai a t1)).heap.size=w.heap.size+1:=by simp
 have f:((w.alloc (Ai a t1)).alloc (Ai b t2)).heap.size=w.heap.size+2:=by simp
 have b1:=gW (w.alloc (Ai a t1)) (Ai b t2);have b2:=gW ((w.alloc (Ai a t1)).alloc (Ai b t2)) (Ai c t3);have g:=gT.new w t1 a;have n2:=gT.new (w.alloc (Ai a t1)) t2 b;have d:=gT.new ((w.alloc (Ai a t1)).alloc (Ai b t2)) t3 c;rw[e]at b1 n2;rw[f]at b2 d;exact⟨(g.below b1 (by omega)).below b2 (by omega),n2.below b2 (by omega),d,((gW w _).trans (b1.mono (by omega))).trans (b2.mono (by omega))⟩
theorem ZN{dv:Ar}{pa qa ba:Option Addr}{pn pc qn qc bn bc:Nat}{ps:List Bs}{qs:List Int}{ids:List UInt64}(k:Int)(nm:ByteArray)(dt kp:Int)
  (hp:gQ ms w pa ps) (l:ps.length=pn) (R:pn*24<=140737488355328) (hq:gQ encI w qa qs) (n:qs.length=qn) (D:qn<=4000000000000000000) (K:gQ gR w ba ids) (g:ids.length=bn) (A:bn<=4000000000000000000) :
  At Am 48 #[mQ k dv (Aa pa pn pc) (Aa qa qn qc) nm dt kp,Aa ba bn bc] w λ e w'=>∃v,e=Aj v/\Hid (gM gZ 125 w' (w.heap.size+1) v (kF ps qs ids)/\Iz w w'):=by
 have H:=I6 hp l hq n K g
 clear hp l hq n K g;go_enter func48,ntmps48;go_wp2_with fail;go_loopg[5,6] pn (λ m rv T wr=>∃i:Nat,T=Ab Ak i/\i+m=pn/\Hid (gM gZ 125 wr (w.heap.size+1) rv ((BI i).map (lY ps qs ids))/\gT wr w.heap.size 69 (iO k dv (Aa pa pn pc) (Aa qa qn qc) nm dt kp)/\Iz w wr))
 case atStart=>exact⟨0,rfl,by omega,gM.nil _ _ _ _,gT.new _ _ _,gW _ _⟩
 case round =>
  obtain⟨i,rfl,hi,a⟩:=hrel;have W:=a.o.2.1.cell (j:=2) rfl;have X:=a.o.2.1.cell (j:=3) rfl;by_cases B:i<pn
  ·have id:(i:Int)<(pn:Int):=by omega
   have S:(0:Int)<=(i:Int):=by omega
   obtain⟨s,q⟩:=BK H.o.2.1 B;obtain⟨b,off,rfl,Q⟩:=H.o.1.some_of q;obtain⟨P,V⟩:=(H.o.1.below a.o.2.2).txts q;obtain⟨y,G⟩:=Xa (jy qs i);obtain⟨z,I⟩:=Xa (iI ids y)
   obtain⟨d,c⟩:∃d:Int,(z.toNat:Int)=d:=⟨_,rfl⟩
   have J:lY ps qs ids i=(s,z):=by
    unfold lY;rw[C1,q,G,I]
    rfl
   have p:(BI (i+1)).map (lY ps qs ids)=(BI i).map (lY ps qs ids)++[(s,z)]:=by rw[List.range_succ,List.map_append,<- J];rfl
   have r:Hid ((BI (i+1)).map (lY ps qs ids)=(BI i).map (lY ps qs ids)++[(s,z)]/\((BI i).map (lY ps qs ids)).length=i):=⟨p,by simp⟩
   have U:w.heap.size+1<=wr.heap.size:=a.o.2.1.lt;have x:Iz w wr.drew:=a.o.2.2.drew;have N:Hid (At Am 57 #[Aa qa qn qc,Ab Ak (i:Int)] wr.drew λ e w'=>e=Aj (Ab Ak y)/\w'=wr.drew):=K0 (H.o.2.2.1.below x) H.o.2.2.2.1 D i y G;have O:Hid (At Am 56 #[Aa ba bn bc,Ab Ak y] wr.drew λ e w'=>e=Aj (Ab Al d)/\w'=wr.drew):=KW (H.o.2.2.2.2.1.below x) H.o.2.2.2.2.2 A y d (by rw[I,c])
   have M:Hid (∀j u,(gZ.cells (s,z))[j]? = some u->(wr.drew.alloc (Ai #[tx s,Ab Al d] 125)).cell? ((⟨wr.heap.size,0,none⟩:Addr).add j)=some u):=by
    have:=GQ gZ wr.drew (s,z) 125;rw[show(gZ.cells (s,z)).toArray=#[tx s,Ab Al d]from(by show #[tx s,Ab Al (z.toNat:Int)]=_;rw[c])]at this;exact this
   clear q p G I c J x;go_wp2_with fail
   go_region_law
    (first
     | (refine Jt rfl (.tmp 22) (.tmp 23) 57 #[23,3] rfl NK (Aa qa qn qc) (Ab Ak (i:Int)) (Ab Ak y) (by simp[Bc,DO]) (by simp[Bc,DO]) N.o ?_)
     | (refine Jt rfl (.tmp 20) (.tmp 24) 56 #[35,3] rfl L7 (Aa ba bn bc) (Ab Ak y) (Ab Al d) (by simp[Bc,DO]) (by simp[Bc,DO]) O.o ?_)
     | (refine Ix gZ 125 118 24 _ rfl Tryz.info125 underlying118 rfl (.tmp 14) (.tmp 27) rfl (w.heap.size+1) u5 ((BI i).map (lY ps qs ids)) (s,z) (by simp[Bc]) (a.o.1.below ((Ao _ wr).drew.trans (gW wr.drew _))) wr.heap.size (by simp[Bc]) M.o (by rw[r.o.2];omega) (by rw[r.o.2];simp only[AH];omega) (by simp;omega) ?_;intro v4 L h f C E)
     | fail)
   all_goals
    have t:=I2 (by rw[r.o.1];exact h:gM gZ 125 L (w.heap.size+1) v4 ((BI (i+1)).map (lY ps qs ids))) (((gW wr _).drew.mono (by omega)).trans f:An (w.heap.size+1) wr L)
    clear h f C E;go_wp2;go_roundg (gk - 1)
    case measure=>omega
    case rel=>exact⟨i+1,by go_num,by omega,t.o.1,a.o.2.1.below t.o.2 (by omega),a.o.2.2.trans (t.o.2.mono (by omega))⟩
  obtain rfl:i=pn:=by omega
  have F:(BI i).map (lY ps qs ids)=kF ps qs ids:=by unfold kF;rw[H.o.2.1]
  rw[F]at a;go_wp2;go_ret;exact⟨_,rfl,a.o.1,a.o.2.2⟩
theorem UQ(h:st.fits f=true):f.1=1∨f.1=2∨f.1=3∨f.1=4∨f.1=5:=by
 unfold St.fits at h
 split at h
 omega
 unfold St.right at h;by_cases a:f.1=1
 omega
 by_cases b:f.1=2
 omega
 by_cases c:f.1=3
 omega
 rw[Ay a,Ay b,Ay c]at h;simp at h
theorem Wv(h:st.fits f=true)(a:f.1=1∨f.1=2∨f.1=3):st.right f=true/\jC f.1 f.2≠0/\iq st.objs f.1 (jC f.1 f.2)=none:=by
 unfold St.fits at h;rw[Ay (by omega)]at h;simp only[Bn,Bool.not_eq_true',Az]at h;refine⟨h.1.1,h.1.2,?_⟩;have:=h.2;unfold St.has at this;simpa using this
theorem Sq(h:st.fits f=true)(d:f.1=4∨f.1=5):8<=f.2.length/\gS (iL f.2)=true/\(f.1=5->st.has 3 (jf f.2)=true/\(iu st.tags (iL f.2)).isSome=false)/\(f.1=4->jf f.2=0->(iu st.refs (iL f.2)).isSome=true)/\(f.1=4->jf f.2≠0->st.has 3 (jf f.2)=true):=by
 unfold St.fits at h;rw[AC d]at h;simp only[Bn,A9]at h;refine⟨h.1.1,h.1.2,λ c=>?_,λ b a=>?_,λ b a=>?_⟩
 have:=h.2;rw[AC c]at this;simpa using this
 have:=h.2;rw[Ay (by omega),AC a]at this;exact this
 have:=h.2;rw[Ay (by omega),Ay a]at this;exact this
theorem fg(h:st.ok)(l:st.fits f=true)(u:f.2.length<=8192):(st.take f).ok:=by
 rcases UQ l with k|k|k|k|k
 case inr.inr.inr.inl =>
  have b:=Sq l (.inl k);unfold St.take;rw[AC k];by_cases m:jf f.2=0
  rw[AC m];refine⟨TV _ h.refs,h.tags,h.one,h.ids,h.blob,h.tree,h.com,λ n i g=>?_⟩;refine h.names n i ?_
  rcases g with q|q
  have q:=q;rw[J0]at q
  split at q
  cases q;exact .inl q;exact .inr q;rw[Ay m];refine⟨Pt _ _ h.refs,h.tags,h.one,h.ids,h.blob,h.tree,h.com,λ n i g=>?_⟩
  rcases g with q|q
  have q:=q;rw[Om]at q
  split at q
  cases q;exact b.2.2.2.2 k m;exact h.names n i (.inl q);exact h.names n i (.inr q)
 case inr.inr.inr.inr =>
  have b:=Sq l (.inr k);unfold St.take;rw[Ay (by omega),AC k];refine⟨h.refs,Pt _ _ h.tags,h.one,h.ids,h.blob,h.tree,h.com,λ n i g=>?_⟩
  rcases g with q|q
  exact h.names n i (.inl q);have q:=q;rw[Om]at q
  split at q
  cases q;exact(b.2.2.1 k).1;exact h.names n i (.inr q)
 all_goals
  have d:=Wv l (by omega)
  have t:st.take f={ st with objs:=st.objs++[⟨f.1,jC f.1 f.2,f.2⟩] }:=by
   unfold St.take;rw[Ay (by omega),Ay (by omega)]
  rw[t];refine⟨h.refs,h.tags,?_,?_,?_,?_,?_,λ n i g=>LD (h.names n i g)⟩;refine List.pairwise_append.2 ⟨h.one,List.pairwise_singleton _ _,λ x v y s=>?_⟩
  have s:y=⟨f.1,jC f.1 f.2,f.2⟩:=by simpa using s
  rw[s];exact OQ.1 d.2.2 x v;intro o j
  rcases AN.1 j with q|q
  exact h.ids o q
  have q:o=⟨f.1,jC f.1 f.2,f.2⟩:=by simpa using q
  rw[q];exact⟨rfl,d.2.1,by show 1<=f.1;omega,by show f.1<=3;omega,u⟩;intro o j a
  rcases AN.1 j with q|q
  exact h.blob o q a
  have q:o=⟨f.1,jC f.1 f.2,f.2⟩:=by simpa using q
  rw[q]at a ⊢;have a:=a;have:=d.1;unfold St.right at this;rw[AC a]at this;simpa using this;intro o j a
  rcases AN.1 j with q|q
  obtain⟨es,p,r⟩:=h.tree o q a;exact⟨es,p,QN r⟩
  have q:o=⟨f.1,jC f.1 f.2,f.2⟩:=by simpa using q
  rw[q]at a ⊢;have a:f.1=2:=a;have:=d.1;unfold St.right at this;rw[Ay (by omega),AC a]at this
  cases e:jE f.2 with
  | none=>rw[e]at this;cases this
  | some es=>rw[e]at this;exact⟨es,rfl,QN this⟩
  intro o j a
  rcases AN.1 j with q|q
  obtain⟨c,p,r⟩:=h.com o q a;exact⟨c,p,QT r⟩
  have q:o=⟨f.1,jC f.1 f.2,f.2⟩:=by simpa using q
  rw[q]at a ⊢;have a:f.1=3:=a;have:=d.1;unfold St.right at this;rw[Ay (by omega),Ay (by omega),AC a]at this
  cases e:jF f.2 with
  | none=>rw[e]at this;cases this
  | some c=>rw[e]at this;exact⟨c,rfl,QT this⟩
def St.size(st:St):Nat:=st.objs.length+st.refs.length+st.tags.length
theorem Xd(h:st.ok):(st.take f).size<=st.size+1:=by
 unfold St.take St.size
 split
 ·show st.objs.length+(if jf f.2=0 then _ else _:List _).length+st.tags.length<=_
  split
  have:(kh st.refs (iL f.2)).length<=st.refs.length:=List.length_filter_le _ _;omega
  ·have:=Lk (iL f.2) (jf f.2) h.refs
   split at this <;> omega
 ·split
  ·have:=Lk (iL f.2) (jf f.2) h.tags;show st.objs.length+st.refs.length+(jp st.tags (iL f.2) (jf f.2)).length<=_
   split at this <;> omega
  show(st.objs++[_]).length+_+_<=_;simp;omega
def iz:ju (Bs×Bs):=⟨λ f=>[tx f.1,tx f.2],2,λ _=>rfl,by decide,by intro x u h;simp at h;rcases h with rfl|rfl <;> rfl⟩
theorem gQ.files {w:World} {b off:Nat} {fs:Fs} (h:gQ iz w (some ⟨b,off,none⟩) fs) {i:Nat} {n v:Bs} (hx:fs[i]? = some (n,v)):w.cell? ⟨b,off+i*2,none⟩=some (tx n)/\w.cell? ⟨b,off+i*2+1,none⟩=some (tx v):=by
 obtain ⟨b', off', e, hlt, hc⟩ := h (by rcases Nat.lt_or_ge i fs.length with q | q
                                        omega
                                        rw [List.getElem?_eq_none q] at hx; cases hx)
 obtain ⟨rfl,rfl⟩:b=b'/\off=off':=by simpa using e
 have h0:=hc i (n,v) hx 0 _ rfl;have h1:=hc i (n,v) hx 1 _ rfl;exact ⟨by simpa [iz] using h0,by simpa [iz,Nat.add_assoc] using h1⟩
abbrev rv(ao:Option Addr)(L c:Nat)(d:Dk):Ar:=Ag #[Aa ao L c,Ab Ak (d.writes:Int),Ad d.armed,Ad d.dead,Ab Ak (d.after:Int),Ab Ak (d.keep:Int)]
theorem Tl:∀{i:Nat},(∀j,j<i->∀m v,l[j]? = some (m,v)->m≠n)->ip l n=ip (l.drop i) n:=by
 induction l with
 | nil=>intro i _;simp
 | cons f t c =>
  intro i h
  cases i with
  | zero=>rfl
  | succ i =>
   have a:f.1≠n:=h 0 (by omega) f.1 f.2 rfl;simp only[ip,Ay a,List.drop_succ_cons];exact c (i:=i) (λ j d m v b=>h (j+1) (by omega) m v b)
theorem Xs(h:∀j,j<i->∀m v,l[j]? = some (m,v)->m≠n)(hi:l[i]? = some (n,v)):ip l n=some v:=by
 obtain⟨a,e⟩:=AG.1 hi;rw[Tl h,List.drop_eq_getElem_cons a,e];simp[ip]
theorem Rg{n:Nat}(a:l.length=n)(hi:i<n):∃m v,l[i]? = some (m,v):=⟨(l[i]'(by omega)).1,(l[i]'(by omega)).2,List.getElem?_eq_getElem (by omega)⟩
theorem S5(d:Dk)(n:Bs)(w:Ap)(h:gQ iz w ao d.files)(t:d.files.length=L)(A:L<=1000):
  At Am 152 #[rv ao L c d,tx n] w λ e w'=>∃r,e=Aj (Ab Ak r)/\Hid ((ip d.files n=none/\r = -1)∨∃(i:Nat) (v:Bs),r=(i:Int)/\d.files[i]? = some (n,v)/\ip d.files n=some v)/\Iz w w':=by
 have H:=I2 h t
 clear h t
 obtain⟨W,u⟩:=Xa (w.alloc (Ai #[Aa ao L c,Ab Ak (d.writes:Int),Ad d.armed,Ad d.dead,Ab Ak (d.after:Int),Ab Ak (d.keep:Int)] 30))
 have B:W.cell? ⟨w.heap.size,0,none⟩=some (Aa ao L c):=by rw[<- u];simp
 have l:Hid (Iz w W):=by rw[<- u];exact gW _ _
 go_enter func152,ntmps152;go_wp2_with fail;go_loopg[5] L (λ k z wr=>wr=W/\∃i:Nat,z=Ab Ak i/\i+k=L/\Hid (∀j,j<i->∀m v,d.files[j]? = some (m,v)->m≠n))
 case atStart=>exact⟨rfl,0,rfl,by omega,λ j x=>by omega⟩
 case round =>
  obtain⟨s,i,rfl,hi,g⟩:=hrel;subst s;by_cases p:i<L
  ·have id:(i:Int)<(L:Int):=by omega
   obtain⟨m,v,f⟩:=Rg H.o.2 p;have R:=H.o.1.below l.o;obtain⟨b1,C,rfl,y⟩:=R.some_of f;have cc:=(R.files f).1;have X:=Ih f;clear R f
   cases b:m==n with
   | true =>
    go_wp2;go_ret
    have e:m=n:=by simpa using b
    subst e;exact⟨_,rfl,.inr ⟨i,v,rfl,X.o,Xs g.o X.o⟩,l.o⟩
   | false =>
    go_wp2;go_roundg (gk - 1)
    all_goals first
     | omega
     | exact⟨rfl,i+1,by go_num,by omega,λ j x m' v' a=>by
       rcases Nat.lt_or_ge j i with q|q
       exact g.o j q m' v' a
       obtain rfl:j=i:=by omega
       rw[X.o]at a;cases a
       simpa using b⟩
  obtain rfl:i=L:=by omega
  go_wp2;go_ret;refine⟨_,rfl,.inl ⟨?_,rfl⟩,l.o⟩;rw[Tl g.o,List.drop_of_length_le (by rw[H.o.2];exact AA _)]
  rfl
theorem JM(d:Dk)(n:Bs)(w:Ap)(h:gQ iz w ao d.files)(f:d.files.length=L)(j:L<=1000)(g:ip d.files n=none):
  At Am 152 #[rv ao L c d,tx n] w λ e w'=>e=Aj (Ab Ak (-1))/\Iz w w':=by
 refine(S5 d n w h f j).mono ?_;rintro e w' ⟨r,rfl,a,b⟩
 rcases a.o with⟨_,rfl⟩ | ⟨i,v,_,_,q⟩
 exact⟨rfl,b⟩
 rw[g]at q;cases q
theorem KN(d:Dk)(n:Bs)(w:Ap)(h:gQ iz w ao d.files)(a:d.files.length=L)(l:L<=1000)(b:ip d.files n=some v):
  At Am 152 #[rv ao L c d,tx n] w λ e w'=>∃i:Nat,e=Aj (Ab Ak (i:Int))/\i<L/\Hid (d.files[i]? = some (n,v))/\Iz w w':=by
 refine(S5 d n w h a l).mono ?_;rintro e w' ⟨r,rfl,j,k⟩
 rcases j.o with⟨q,_⟩ | ⟨i,u,rfl,f,g⟩
 rw[b]at q;cases q
 rw[b]at g;cases g;exact⟨i,rfl,by rw[<- a];exact(AG.1 f).1,f,k⟩
theorem To(d:Dk)(n:Bs)(w:Ap)(h:gQ iz w ao d.files)(f:d.files.length=L)(k:L<=1000)(i:ip d.files n=none):
  At Am 92 #[rv ao L c d,tx n] w λ e w'=>e=Aj (tx [])/\Iz w w':=by
 have B:=gW w (Ai #[Aa ao L c,Ab Ak (d.writes:Int),Ad d.armed,Ad d.dead,Ab Ak (d.after:Int),Ab Ak (d.keep:Int)] 30)
 have g:=JM (c:=c) d n _ (h.below B) f k i
 have b:Hid _:=B;clear h f i B;go_enter func92,ntmps92;go_wp2_with fail;refine g.mono ?_;rintro e w1 ⟨rfl,a⟩;have j:=Ih (b.o.trans (a.mono b.o.size));clear a g;go_wp2;go_ret;exact⟨rfl,j.o⟩
theorem UI(d:Dk)(n:Bs)(w:Ap)(h:gQ iz w ao d.files)(g:d.files.length=L)(m:L<=1000)(k:ip d.files n=some v):
  At Am 92 #[rv ao L c d,tx n] w λ e w'=>e=Aj (tx v)/\Iz w w':=by
 have B:=gW w (Ai #[Aa ao L c,Ab Ak (d.writes:Int),Ad d.armed,Ad d.dead,Ab Ak (d.after:Int),Ab Ak (d.keep:Int)] 30)
 have j:=KN (c:=c) d n _ (h.below B) g m k
 have b:=I2 B h
 clear h g k B;go_enter func92,ntmps92;go_wp2_with fail;refine j.mono ?_;rintro e w1 ⟨i,rfl,hi,l,a⟩;have f:=Ih (b.o.1.trans (a.mono b.o.1.size));have R:=b.o.2.below f.o;obtain⟨b1,r,rfl,q⟩:=R.some_of l.o;have cc:=(R.files l.o).2
 have t:w1.cell? ⟨w.heap.size,0,none⟩=some (Aa (some ⟨b1,r,none⟩) L c):=by
  rw[a.cell (p:=⟨w.heap.size,0,none⟩) (by simp)];simp
 have s:(i:Int)<(L:Int):=by omega
 have i0:decide ((0:Int)<=(i:Int))=true:=by rw[A9];omega
 clear a j R;go_wp2;go_ret;exact⟨rfl,f.o⟩
theorem JF:(Am.info? 267).map (λ i=>(i.zero,i.size,i.bytes))=some (some (Ag #[Ae ⟨#[]⟩,Ae ⟨#[]⟩]),2,32):=by kernel_rfl
theorem LB {n v:Bs}:∀ {a b:Fs},(∀ f∈a,f.1<n)->ig (a++b) n v=a++ig b n v
 | [],b,_=>rfl
 | f::t,b,h=>by
  have h1:=h f List.mem_cons_self;have ih:=LB (v:=v) (b:=b) (λ g hg=>h g (List.mem_cons_of_mem _ hg):∀ g∈t,g.1<n);simp only [List.cons_append,ig];rw [if_neg (Od h1),if_neg (λ e=>by rw [e] at h1; exact IC _ h1),ih]
theorem O0:∀{l:Fs},(∃f∈l,¬f.1<n)->ig (l++[x]) n v=ig l n v++[x]
 | [],h=>by obtain⟨f,e,_⟩:=h;cases e
 | f::t,h=>by
  simp only[Dh,ig]
  split
  simp
  ·split
   simp
   ·rename_i c d
    have a:f.1<n:=by
     rcases Ki f.1 n with q|q|q
     exact q;exact absurd q d;exact absurd q c
    obtain⟨g,i,b⟩:=h
    rcases Bv.1 i with rfl|q
    exact absurd a b;rw[O0 ⟨g,q,b⟩]
    rfl
def Laid(l:Fs)(n v:Bs)(i:Nat)(done:Bool)(out:Fs):Prop:=(done=false/\(∀f∈l.take i,f.1<n)/\out=l.take i)∨(done=true/\(∃f∈l.take i,¬f.1<n)/\out=ig (l.take i) n v)
theorem I0(h:l[i]? = some x):l.take (i+1)=l.take i++[x]:=by rw[List.take_add_one,h];rfl
theorem dU(h:Laid l n v i false out):out.length<=i:=by
 rcases h with⟨_,_,a⟩ | ⟨q,_⟩
 rw[a,AE];omega
 cases q
theorem UX(h:Laid l n v i false out)(b:l[i]? = some (m,u))(e:m<n):Laid l n v (i+1) false (out++[(m,u)]):=by
 rcases h with⟨_,c,d⟩ | ⟨q,_⟩
 refine .inl ⟨rfl,?_,by rw[d,I0 b]⟩;intro f a;rw[I0 b]at a
 rcases AN.1 a with q|q
 exact c f q
 simp at q;rw[q];exact e
 cases q
theorem dQ(h:Laid l n v i false out)(a:l[i]? = some (n,u)):Laid l n v (i+1) true (out++[(n,v)]):=by
 rcases h with⟨_,b,c⟩ | ⟨q,_⟩
 refine .inr ⟨rfl,⟨(n,u),by rw[I0 a];simp,IC _⟩,?_⟩;rw[c,I0 a,LB b];simp[ig,IC]
 cases q
theorem Yi(h:Laid l n v i false out)(b:l[i]? = some (m,u))(a:n<m):Laid l n v (i+1) true (out++[(n,v)]++[(m,u)]):=by
 rcases h with⟨_,c,d⟩ | ⟨q,_⟩
 refine .inr ⟨rfl,⟨(m,u),by rw[I0 b];simp,Od a⟩,?_⟩;rw[d,I0 b,LB c];simp[ig,a]
 cases q
theorem Xc(s:Gg l)(h:Laid l n v i true out)(k:l[i]? = some (m,u)):n<m/\Laid l n v (i+1) true (out++[(m,u)]):=by
 rcases h with⟨q,_⟩ | ⟨_,⟨f,b,d⟩,p⟩
 cases q
 have a:f.1<m:=by
  obtain⟨j,r,e⟩:=List.getElem_of_mem b
  have c:j<i:=by simp at r;omega
  obtain⟨hi,o⟩:=AG.1 k;have:=List.pairwise_iff_getElem.1 s j i (by omega) hi c;rw[o]at this;rw[List.getElem_take]at e;rw[e]at this;exact this
 have g:n<m:=by
  rcases Ki f.1 n with q|q|q
  exact absurd q d;rw[<- q];exact a;exact LJ q a
 refine⟨g,.inr ⟨rfl,⟨f,by rw[I0 k];exact List.mem_append_left _ b,d⟩,?_⟩⟩;rw[I0 k,O0 ⟨f,b,d⟩,p]
theorem NY(l:Fs)(n v:Bs)(w:Ap)(h:gQ iz w ao l)(N:l.length=L)(hl:L<=1000)(O:Gg l):
  At Am 159 #[Aa ao L c,Ag #[tx n,tx v]] w λ e w'=>∃u,e=Aj u/\gM iz 267 w' w.heap.size u (ig l n v)/\Iz w w':=by
 have H:=I3 h N O
 clear h N O
 obtain⟨W,hW⟩:=Xa (w.alloc (Ai #[tx n,tx v] 267))
 have d:Hid (Iz w W/\W.cell? ⟨w.heap.size,0,none⟩=some (tx n)/\W.cell? ⟨w.heap.size,1,none⟩=some (tx v)/\w.heap.size<W.heap.size):=by rw[<- hW];exact⟨gW _ _,by simp,by simp,by simp⟩
 go_enter func159,ntmps159;go_wp2_with fail;go_loopg[5,6,7] L (λ k lv dv iv wr=>∃(i:Nat) (dn:Bool) (out:Fs),iv=Ab Ak i/\i+k=L/\dv=Ad dn/\Hid (Laid l n v i dn out/\out.length<=i+1/\gM iz 267 wr W.heap.size lv out/\Iz W wr))
 case atStart=>exact⟨0,false,[],rfl,by omega,rfl,.inl ⟨rfl,by simp,by simp⟩,by simp,gM.nil _ _ _ _,Ao _ _⟩
 case round =>
  obtain⟨i,dn,out,rfl,hi,rfl,s⟩:=hrel;have M:=d.o.1.trans (s.o.2.2.2.mono d.o.1.size);have P:=(s.o.2.2.2.cell (p:=⟨w.heap.size,0,none⟩) d.o.2.2.2).trans d.o.2.1;have k1:=(s.o.2.2.2.cell (p:=⟨w.heap.size,1,none⟩) d.o.2.2.2).trans d.o.2.2.1;by_cases I:i<L
  ·have id:(i:Int)<(L:Int):=by omega
   obtain⟨m,u,A⟩:=Rg H.o.2.1 I;have R:=H.o.1.below M;obtain⟨b1,o1,rfl,aa⟩:=R.some_of A;obtain⟨cc,Y⟩:=R.files A;have X:=Ih A;clear R A M;have G:=Ih s;clear s;have sz:=G.o.2.2.2.size
   cases dn with
   | false =>
    rcases Ki m n with a|E|j
    ·have S:(Op.bytesLess n m||n==m)=false:=by
      rw[Go.Proofs.bytesLess_eq,Dd (Od a),Bool.false_or,A3];intro e;rw[e]at a;exact IC _ a
     have J:(!n==m)=true:=by
      have:(n==m)=false:=by rw[A3];intro e;rw[e]at a;exact IC _ a
      rw[this];rfl
     have Q:=Ih a;clear a;go_wp2_with fail;go_quiet (fail);go_wp2_with fail;go_quiet (fail);go_wp2_with(at_builtin;(refine BA iz 267 28 32 _ rfl JF underlying28 rfl (.tmp 38) (.tmp 43) rfl W.heap.size _ out (m,u) 267 (by rfl) (G.o.2.2.1.below (AY (Ao _ _) _)) (by rfl) (by have:=G.o.2.1;omega) (by have:=G.o.2.1;simp only[AH];omega) sz _ rfl ?_;intro y x g f _ _));go_wp2;go_roundg (gk - 1)
     all_goals first
      | omega
      | exact⟨i+1,false,_,by go_num,by omega,rfl,UX G.o.1 X.o Q.o,by have:=G.o.2.1;simp;omega,g,(AY G.o.2.2.2 _).trans f⟩
    ·subst E
     have S:(Op.bytesLess m m||m==m)=true:=by simp
     have J:(!m==m)=false:=by simp
     go_wp2_with fail;go_quiet (fail);go_wp2_with(at_builtin;(refine BA iz 267 28 32 _ rfl JF underlying28 rfl (.tmp 26) (.tmp 28) rfl W.heap.size _ out (m,v) 267 (by rfl) (G.o.2.2.1.below (AY (Ao _ _) _)) (by rfl) (by have:=G.o.2.1;omega) (by have:=G.o.2.1;simp only[AH];omega) sz _ rfl ?_;intro y x g f _ _));have C:=I2 g ((AY G.o.2.2.2 _).trans f:Iz W x)
     have P:=(C.o.2.cell (p:=⟨w.heap.size,0,none⟩) d.o.2.2.2).trans d.o.2.1;have R:=H.o.1.below (d.o.1.trans (C.o.2.mono d.o.1.size));have cc:=(R.files X.o).1;clear g f R;go_wp2_with fail;go_quiet (fail);go_wp2;go_roundg (gk - 1)
     all_goals first
      | omega
      | exact⟨i+1,true,_,by go_num,by omega,rfl,dQ G.o.1 X.o,by have:=G.o.2.1;simp;omega,C.o.1.below (AY (Ao _ _) _),AY C.o.2 _⟩
    ·have r:(n==m)=false:=by rw[A3];intro e;rw[e]at j;exact IC _ j
     have S:(Op.bytesLess n m||n==m)=true:=by
      rw[Go.Proofs.bytesLess_eq,F0 j];rfl
     have J:(!n==m)=true:=by rw[r];rfl
     have Q:=Ih j;clear j r;go_wp2_with fail;go_quiet (fail);go_wp2_with(at_builtin;(refine BA iz 267 28 32 _ rfl JF underlying28 rfl (.tmp 26) (.tmp 28) rfl W.heap.size _ out (n,v) 267 (by rfl) (G.o.2.2.1.below (AY (Ao _ _) _)) (by rfl) (by have:=G.o.2.1;omega) (by have:=G.o.2.1;simp only[AH];omega) sz _ rfl ?_;intro y x g f _ _));have C:=I2 g ((AY G.o.2.2.2 _).trans f:Iz W x)
     have P:=(C.o.2.cell (p:=⟨w.heap.size,0,none⟩) d.o.2.2.2).trans d.o.2.1;have R:=H.o.1.below (d.o.1.trans (C.o.2.mono d.o.1.size));obtain⟨cc,Y⟩:=R.files X.o;have K:=C.o.2.size;clear g f R;go_wp2_with fail;go_quiet (fail);go_wp2_with(at_builtin;(refine BA iz 267 28 32 _ rfl JF underlying28 rfl (.tmp 38) (.tmp 43) rfl W.heap.size _ (out++[(n,v)]) (m,u) 267 (by rfl) (C.o.1.below (AY (Ao _ _) _)) (by rfl) (by have:=G.o.2.1;simp;omega) (by have:=G.o.2.1;simp[AH];omega) K _ rfl ?_;intro v3 w3 V T _ _));go_wp2;go_roundg (gk - 1)
     all_goals first
      | omega
      | exact⟨i+1,true,_,by go_num,by omega,rfl,Yi G.o.1 X.o Q.o,by have:=dU G.o.1;simp;omega,V,(AY C.o.2 _).trans T⟩
   | true =>
    have D:=Xc H.o.2.2 G.o.1 X.o
    have r:(n==m)=false:=by rw[A3];intro e;have:=D.1;rw[e]at this;exact IC _ this
    have J:(!n==m)=true:=by rw[r];rfl
    have U:=Ih D.2;clear D r;go_wp2_with fail;go_quiet (fail);go_wp2_with fail;go_quiet (fail);go_wp2_with(at_builtin;(refine BA iz 267 28 32 _ rfl JF underlying28 rfl (.tmp 38) (.tmp 43) rfl W.heap.size _ out (m,u) 267 (by rfl) (G.o.2.2.1.below (AY (Ao _ _) _)) (by rfl) (by have:=G.o.2.1;omega) (by have:=G.o.2.1;simp only[AH];omega) sz _ rfl ?_;intro y x g f _ _));go_wp2;go_roundg (gk - 1)
    all_goals first
     | omega
     | exact⟨i+1,true,_,by go_num,by omega,rfl,U.o,by have:=G.o.2.1;simp;omega,g,(AY G.o.2.2.2 _).trans f⟩
  obtain rfl:i=L:=by omega
  have e0:l.take i=l:=Av (by rw[H.o.2.1];exact AA _);have t:=s.o.1;unfold Laid at t;rw[e0]at t;have G:=I3 s.o.2.2.1 s.o.2.2.2 s.o.2.1;have sz:=G.o.2.1.size;have z:Hid _:=t;clear s t
  cases dn with
  | false =>
   have F:ig l n v=out++[(n,v)]:=by
    rcases z.o with⟨_,Z,B⟩ | ⟨q,_⟩
    have:=LB (v:=v) (b:=[]) Z;rw[List.append_nil]at this;rw[this,B];rfl;cases q
   clear z;go_wp2_with(at_builtin;(refine BA iz 267 28 32 _ rfl JF underlying28 rfl (.tmp 47) (.tmp 49) rfl W.heap.size _ out (n,v) 267 rfl G.o.1 rfl (by have:=G.o.2.2;omega) (by have:=G.o.2.2;simp only[AH];omega) sz _ rfl ?_;intro y x g f _ _));go_wp2;go_ret;rw[F];exact⟨_,rfl,gM.low g d.o.1.size,d.o.1.trans ((G.o.2.1.trans f).mono d.o.1.size)⟩
  | true =>
   have F:ig l n v=out:=by
    rcases z.o with⟨q,_⟩ | ⟨_,_,B⟩
    cases q;exact B.symm
   clear z;go_wp2;go_ret;rw[F];exact⟨_,rfl,gM.low G.o.1 d.o.1.size,d.o.1.trans (G.o.2.1.mono d.o.1.size)⟩
section
variable {ao:Option Addr}{L c:Nat}{d:Dk}{w:World}
theorem Qg(hd:d.dead=true):At Am 158 #[rv ao L c d] w λ e w'=>e=Aj (Af #[rv ao L c d,Ad false,Ad false])/\Iz w w':=by
 unfold rv;rw[hd];go_enter func158,ntmps158;go_wp2;refine As (v:=Af #[Ag #[Aa ao L c,Ab Ak (d.writes:Int),Ad d.armed,Ad true,Ab Ak (d.after:Int),Ab Ak (d.keep:Int)],Ad false,Ad false]) ?_ rfl ⟨rfl,lE _ _ _⟩;simp[AI,Tryz.f158];go_simp
theorem fR(hd:d.dead=false)(b:d.armed=true)(a:d.after=0):At Am 158 #[rv ao L c d] w λ e w'=>e=Aj (Af #[rv ao L c { d with dead:=true,armed:=false },Ad false,Ad true])/\Iz w w':=by
 unfold rv;rw[hd,b,a];go_enter func158,ntmps158;go_wp2;refine As (v:=Af #[Ag #[Aa ao L c,Ab Ak (d.writes:Int),Ad false,Ad true,Ab Ak 0,Ab Ak (d.keep:Int)],Ad false,Ad true]) ?_ rfl ⟨rfl,lE _ _ _⟩;simp[AI,Tryz.f158];go_simp
theorem US(hd:d.dead=false)(g:d.armed=true)(f:d.after≠0)(h:d.after<9223372036854775808)(j:d.writes<4611686018427387904):At Am 158 #[rv ao L c d] w λ e w'=>e=Aj (Af #[rv ao L c { d with after:=d.after - 1,writes:=d.writes+1 },Ad true,Ad false])/\Iz w w':=by
 unfold rv
 obtain⟨n,b⟩:∃n,d.after=n+1:=⟨d.after - 1,by omega⟩
 obtain⟨q,hq⟩:=Xa d.writes
 have a:((d.after - 1:Nat):Int)=(n:Int):=by omega
 show At Am 158 _ w λ e w'=>e=Aj (Af #[Ag #[Aa ao L c,Ab Ak ((d.writes+1:Nat):Int),Ad d.armed,Ad d.dead,Ab Ak ((d.after - 1:Nat):Int),Ab Ak (d.keep:Int)],Ad true,Ad false])/\Iz w w'
 rw[hd,g,a,b,hq];rw[hq]at j
 have i:n<9223372036854775807:=by omega
 clear a f h b
 have z:(((n+1:Nat):Int)==0)=false:=by simp;omega
 go_enter func158,ntmps158;go_wp2;refine As (v:=Af #[Ag #[Aa ao L c,Ab Ak ((q:Int)+1),Ad true,Ad false,Ab Ak (n:Int),Ab Ak (d.keep:Int)],Ad true,Ad false]) ?_ rfl ⟨rfl,lE _ _ _⟩;simp[AI,Tryz.f158];go_simp
theorem UM(hd:d.dead=false)(a:d.armed=false)(b:d.writes<4611686018427387904):At Am 158 #[rv ao L c d] w λ e w'=>e=Aj (Af #[rv ao L c { d with writes:=d.writes+1 },Ad true,Ad false])/\Iz w w':=by
 unfold rv
 obtain⟨q,hq⟩:=Xa d.writes
 show At Am 158 _ w λ e w'=>e=Aj (Af #[Ag #[Aa ao L c,Ab Ak ((d.writes+1:Nat):Int),Ad d.armed,Ad d.dead,Ab Ak (d.after:Int),Ab Ak (d.keep:Int)],Ad true,Ad false])/\Iz w w'
 rw[hd,a,hq];rw[hq]at b;go_enter func158,ntmps158;go_wp2;refine As (v:=Af #[Ag #[Aa ao L c,Ab Ak ((q:Int)+1),Ad false,Ad false,Ab Ak (d.after:Int),Ab Ak (d.keep:Int)],Ad true,Ad false]) ?_ rfl ⟨rfl,lE _ _ _⟩;simp[AI,Tryz.f158];go_simp
theorem Nb(g:d.after<9223372036854775808)(f:d.writes<4611686018427387904):
  At Am 158 #[rv ao L c d] w λ e w'=>e=Aj (Af #[rv ao L c (ij d).1,Ad (ij d).2.1,Ad (ij d).2.2])/\Iz w w':=by
 by_cases hd:d.dead=true
 rw[Mq hd];exact Qg hd
 have hd:d.dead=false:=by simpa using hd
 by_cases a:d.armed=true
 by_cases b:d.after=0
 rw[Kp hd a b];exact fR hd a b
 rw[K1 hd a b];exact US hd a b g f
 have a:d.armed=false:=by simpa using a
 rw[Ma hd a];exact UM hd a f
end
end Go.Proofs.YtakgkgmopmcecaaGreat
