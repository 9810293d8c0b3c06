/-
  Several texts, laid together.
-/
import Derived.Test.YtmhcpbbiokpjjaaGreatM17
set_option maxHeartbeats 6400000
set_option maxRecDepth 100000
namespace Go.Proofs.YtmhcpbbiokpjjaaGreat
open Go.RowKit
theorem ZhJ {v:Nat} (h:v<18446744073709551616):IntKind.i64.wrap (v:Int)=sgn v:=by
 rw [IntKind.wrap_i64];unfold sgn
 split <;> omega
structure RP (w:World) (C:Nat) (tr:Int) (wr:World) (lv:Value) (dt:Int) (nt:ByteArray) (xs:List UInt64) (r:Rs):Prop where
 res:Box4 wr w.heap.size 67 (.int .u64 0) (.slice none 0 0) (.int .i64 0) (.string ⟨#[]⟩)
 com:Box4 wr C 67 (.int .u64 tr) lv (.int .i64 dt) (.string nt)
 rdr:Rdr wr (w.heap.size+1) r
 row:OwnG encU 53 wr (C+1) lv xs
 bel:Below w.heap.size w wr
 lo:w.heap.size+1<C
theorem RP.turn {w wr w':World} {C:Nat} {tr dt:Int} {lv:Value} {nt:ByteArray} {xs:List UInt64} {r r':Rs} (h:RP w C tr wr lv dt nt xs r) (hr:Rdr w' (w.heap.size+1) r') (ht:Zaa (λ i=>i=w.heap.size+1) wr w'):RP w C tr w' lv dt nt xs r' where
 res:=h.res.turned ht (by omega)
 com:=h.com.turned ht (by have:=h.lo; omega)
 rdr:=hr
 row:=h.row.stays ht (λ g hg q=>by have:=(h.row.lt g hg).1; have:=h.lo; have q':g=w.heap.size+1:=q; omega)
 bel:=h.bel.trans (ht.below h.bel.size (λ k hk q=>by have q':k=w.heap.size+1:=q; omega))
 lo:=h.lo
theorem RP.drew {w wr:World} {C:Nat} {tr dt:Int} {lv:Value} {nt:ByteArray} {xs:List UInt64} {r:Rs} (h:RP w C tr wr lv dt nt xs r):RP w C tr wr.drew lv dt nt xs r where
 res:=h.res
 com:=h.com
 rdr:=h.rdr.below (Below.refl _ wr).drew
 row:=h.row.below (Below.refl _ wr).drew
 bel:=h.bel.drew
 lo:=h.lo
theorem RP.add {w wr w4:World} {C:Nat} {tr dt:Int} {lv lv':Value} {nt:ByteArray} {xs ys:List UInt64} {r:Rs} (h:RP w C tr wr lv dt nt xs r) (hb:Below (C+1) wr w4) (ho:OwnG encU 53 w4 (C+1) lv' ys):RP w C tr (w4.setCell ⟨C,1,none⟩ lv') lv' dt nt ys r:=by
 have ht:Zaa (λ k=>k=C) w4 (w4.setCell ⟨C,1,none⟩ lv'):=Zae 1 _;have hC:C<w4.heap.size:=Nat.lt_of_lt_of_le h.com.lt hb.size;have lo:=h.lo;have hb2:Below C w4 (w4.setCell ⟨C,1,none⟩ lv'):=ht.below (by omega) (λ k hk q=>by have q':k=C:=q; omega)
 exact {
  res:=(h.res.below hb (by omega)).turned ht (by omega)
  com:=(h.com.below hb (by omega)).put1 _
  rdr:=(h.rdr.over (hb.mono (by omega))).over (hb2.mono (by omega))
  row:=ho.stays ht (λ g hg q=>by have:=(ho.lt g hg).1; have q':g=C:=q; omega)
  bel:=(h.bel.trans (hb.mono (by omega))).trans (hb2.mono (by omega))
  lo:=lo }
theorem RP.date {w wr:World} {C:Nat} {tr dt:Int} {lv:Value} {nt:ByteArray} {xs:List UInt64} {r:Rs} (h:RP w C tr wr lv dt nt xs r) (d:Int):RP w C tr (wr.setCell ⟨C,2,none⟩ (.int .i64 d)) lv d nt xs r:=by
 have ht:Zaa (λ k=>k=C) wr (wr.setCell ⟨C,2,none⟩ (.int .i64 d)):=Zae 2 _;have hC:=h.com.lt;have lo:=h.lo;have hb2:Below C wr (wr.setCell ⟨C,2,none⟩ (.int .i64 d)):=ht.below (by omega) (λ k hk q=>by have q':k=C:=q; omega)
 exact {
  res:=h.res.turned ht (by omega)
  com:=h.com.put2 _
  rdr:=h.rdr.over (hb2.mono (by omega))
  row:=h.row.stays ht (λ g hg q=>by have:=(h.row.lt g hg).1; have q':g=C:=q; omega)
  bel:=h.bel.trans (hb2.mono (by omega))
  lo:=lo }
theorem RP.note {w wr:World} {C:Nat} {tr dt:Int} {lv:Value} {nt:ByteArray} {xs:List UInt64} {r:Rs} (h:RP w C tr wr lv dt nt xs r) (d:ByteArray):RP w C tr (wr.setCell ⟨C,3,none⟩ (.string d)) lv dt d xs r:=by
 have ht:Zaa (λ k=>k=C) wr (wr.setCell ⟨C,3,none⟩ (.string d)):=Zae 3 _;have hC:=h.com.lt;have lo:=h.lo;have hb2:Below C wr (wr.setCell ⟨C,3,none⟩ (.string d)):=ht.below (by omega) (λ k hk q=>by have q':k=C:=q; omega)
 exact {
  res:=h.res.turned ht (by omega)
  com:=h.com.put3 _
  rdr:=h.rdr.over (hb2.mono (by omega))
  row:=h.row.stays ht (λ g hg q=>by have:=(h.row.lt g hg).1; have q':g=C:=q; omega)
  bel:=h.bel.trans (hb2.mono (by omega))
  lo:=lo }
theorem ZdG {a:Option Addr} {n c0:Nat} {bs:Bs} (w:World) (hb:BAt w (.slice a n c0) bs) (hl:bs.length=n) :
  Calls Tryz.prog 92 #[.slice a n c0] w λ e w'=>∃ (c:Cm) (er:Int) (pa:Option Addr) (pc:Nat),e=.returned (.tuple #[.agg #[.int .u64 (c.tree.toNat:Int),.slice pa c.ps.length pc,.int .i64 c.date,tx c.note],.int .i64 er])/\Hid (RC bs c er/\RdG encU w' pa c.ps/\c.ps.length<=pc/\Below w.heap.size w w'/\Za1 w pa c.ps.length):=by
 obtain ⟨R1,hR1⟩:∃ R1,rnum (bs,false)=R1:=⟨_,rfl⟩
 obtain ⟨R2,hR2⟩:∃ R2,rcnt R1.2=R2:=⟨_,rfl⟩
 obtain ⟨R3,hR3⟩:∃ R3,rnums R2.1 R2.2=R3:=⟨_,rfl⟩
 obtain ⟨R4,hR4⟩:∃ R4,rnum R3.2=R4:=⟨_,rfl⟩
 obtain ⟨R5,hR5⟩:∃ R5,rtxt R4.2=R5:=⟨_,rfl⟩
 have hp:pcom bs=(⟨UInt64.ofNat R1.1,R3.1,sgn R4.1,R5.1⟩,R5.2):=by
  unfold pcom;rw [hR1,hR2,hR3,hR4,hR5]
 have v1:R1.1<18446744073709551616:=by rw [<- hR1]; exact Zdv _
 have v2:R2.1<=255:=by rw [<- hR2]; exact Zgz _
 have v4:R4.1<18446744073709551616:=by rw [<- hR4]; exact Zdv _
 have v3:R3.1.length=R2.1:=by rw [<- hR3]; exact Zcp _ _
 have HP:Hid (pcom bs=(⟨UInt64.ofNat R1.1,R3.1,sgn R4.1,R5.1⟩,R5.2)/\rnum (bs,false)=R1/\rcnt R1.2=R2/\rnums R2.1 R2.2=R3/\rnum R3.2=R4/\rtxt R4.2=R5/\R3.1.length=R2.1):=⟨hp,hR1,hR2,hR3,hR4,hR5,v3⟩
 clear hp hR1 hR2 hR3 hR4 hR5 v3;obtain ⟨tn,r1⟩:=R1;obtain ⟨cn,r2⟩:=R2;obtain ⟨dn,r4⟩:=R4;simp only at HP v1 v2 v4
 have sA:(w.alloc (.cells #[.int .u64 0,.slice none 0 0,.int .i64 0,.string ⟨#[]⟩] 67)).heap.size=w.heap.size+1:=by simp
 have hbA:BAt (w.alloc (.cells #[.int .u64 0,.slice none 0 0,.int .i64 0,.string ⟨#[]⟩] 67)) (.slice a n c0) bs:=hb.below (bz1 _ _);have hrd:=Rdr.new hbA hl;rw [sA] at hrd;have hnu:=Ze1 hrd tn r1 HP.out.2.1
 have HW:Hid (Box4 ((w.alloc (.cells #[.int .u64 0,.slice none 0 0,.int .i64 0,.string ⟨#[]⟩] 67)).alloc (.cells #[.slice a n c0,.bool false] 272)) w.heap.size 67 (.int .u64 0) (.slice none 0 0) (.int .i64 0) (.string ⟨#[]⟩)/\Below w.heap.size w ((w.alloc (.cells #[.int .u64 0,.slice none 0 0,.int .i64 0,.string ⟨#[]⟩] 67)).alloc (.cells #[.slice a n c0,.bool false] 272))/\((w.alloc (.cells #[.int .u64 0,.slice none 0 0,.int .i64 0,.string ⟨#[]⟩] 67)).alloc (.cells #[.slice a n c0,.bool false] 272)).heap.size=w.heap.size+2) :=
  ⟨(Box4.new _ _ _ _ _ _).below (bz1 _ _) (by rw [sA]; omega),bz2 _ _ _,by simp⟩
 clear hb hl sA hbA hrd;go_enter Tryz.func92,Tryz.ntmps92;go_wp2_with fail;refine hnu.mono ?_;rintro e w1 ⟨rfl,J1⟩;clear hnu
 have S1:Hid (w.heap.size+2<=w1.heap.size):=by have:=J1.out.2.size; rw [HW.out.2.2] at this; exact this
 have P1:Hid (RP w w1.heap.size (tn:Int) (w1.alloc (.cells #[.int .u64 (tn:Int),.slice none 0 0,.int .i64 0,.string ⟨#[]⟩] 67)) (.slice none 0 0) 0 ⟨#[]⟩ [] r1):={
  res:=(HW.out.1.turned J1.out.2 (by omega)).below (bz1 w1 _) (by have:=S1.out; omega)
  com:=Box4.new _ _ _ _ _ _
  rdr:=J1.out.1.below (bz1 w1 _)
  row:=OwnG.nil _ _ _ _
  bel:=(HW.out.2.1.trans (J1.out.2.below HW.out.2.1.size (λ k hk q=>by have q':k=w.heap.size+1:=q; omega))).trans ((bz1 w1 _).mono (by have:=S1.out; omega))
  lo:=by have:=S1.out; omega }
 have hcn:=Zkd P1.out.rdr cn r2 HP.out.2.2.1;clear J1;go_wp2_with fail;refine hcn.mono ?_;rintro e w2 ⟨rfl,J2⟩;have P2:Hid (RP w w1.heap.size (tn:Int) w2 (.slice none 0 0) 0 ⟨#[]⟩ [] r2):=P1.out.turn J2.out.1 J2.out.2;clear hcn J2 P1
 obtain ⟨C,hC⟩:∃ C,w1.heap.size=C:=⟨_,rfl⟩
 rw [hC] at P2 ⊢;clear hC S1;go_wp2_with fail;go_loopg [11] cn (λ m iv wr=>∃ (i:Nat) (la:Option Addr) (lc:Nat),iv=.int .i64 i/\i+m=cn/\Hid (RP w C (tn:Int) wr (.slice la i lc) 0 ⟨#[]⟩ (rnums i r2).1 (rnums i r2).2))
 case atStart=>exact ⟨0,none,0,rfl,by omega,P2.out⟩
 case round =>
  obtain ⟨i,la,lc,rfl,hi,HR⟩:=hrel;by_cases hin:i<cn
  ·have id:(i:Int)<(cn:Int):=by omega
   obtain ⟨x0,x1,x2,x3⟩:=HR.out.com.cells
   obtain ⟨v,r',hv⟩:∃ v r',rnum (rnums i r2).2=(v,r'):=⟨_,_,rfl⟩
   have hvl:(UInt64.ofNat v).toNat=v:=by
    have:=Zdv (rnums i r2).2;rw [hv] at this;rw [UInt64.toNat_ofNat'];simp only at this;omega
   have hst:rnums (i+1) r2=((rnums i r2).1++[UInt64.ofNat v],r'):=by
    show ((rnums i r2).1++[UInt64.ofNat (rnum (rnums i r2).2).1],(rnum (rnums i r2).2).2)=_;rw [hv]
   have hll:(rnums i r2).1.length=i:=Zcp _ _;have HN:Hid (Calls Tryz.prog 151 #[.pointer (some ⟨w.heap.size+1,0,none⟩)] wr.drew λ e w'=>e=.returned (.int .u64 (v:Int))/\Hid (Rdr w' (w.heap.size+1) r'/\Zaa (λ i=>i=w.heap.size+1) wr.drew w')):=Ze1 HR.out.drew.rdr v r' hv
   have HX:Hid (rnums (i+1) r2=((rnums i r2).1++[UInt64.ofNat v],r')/\(UInt64.ofNat v).toNat=v/\(rnums i r2).1.length=i/\((rnums i r2).1++[UInt64.ofNat v]).length=i+1):=⟨hst,hvl,hll,by rw [List.length_append,hll]; rfl⟩
   have lo:w.heap.size+1<C:=HR.out.lo;clear hst hvl hll hv;go_wp2_with fail;have HB0:Hid (Below w.heap.size w wr):=HR.out.bel
   go_region_law
    (first
     | (refine Za8 encU 53 33 8 _ rfl Tryz.info53 Tryz.underlying33 rfl (.tmp 14) (.tmp 16) rfl (C+1) _ (rnums i r2).1 (UInt64.ofNat v) rfl (P3.out.row.below (bz1 w3 _)) w3.heap.size rfl HC3.out (by rw [HX.out.2.2.1]; omega) (by rw [HX.out.2.2.1]; simp only [maxLen]; omega) (by have:=P3.out.com.lt; simp; omega) ?_; intro v4 w4 ho4 hb4 hm4 ht4; obtain ⟨a4,c4,e4,_,_,_,_⟩:=OwnG.form ho4; rw [HX.out.2.2.2] at e4; subst e4; have J4:Hid (OwnG encU 53 w4 (C+1) (.slice a4 (i+1) c4) ((rnums i r2).1++[UInt64.ofNat v])/\Below (C+1) w3 w4):=⟨ho4,((bz1 w3 _).mono (by have:=P3.out.com.lt; omega)).trans hb4⟩; have HB4:Hid (Below w.heap.size w w4):=P3.out.bel.trans (J4.out.2.mono (by omega)); have z4:=(P3.out.com.below J4.out.2 (by omega)).cells; have g4:=(P3.out.com.below J4.out.2 (by omega)).thaw; obtain ⟨z0,z1,z2,z3⟩:=z4; obtain ⟨g0,g1,g2,g3⟩:=g4; clear ho4 hb4 hm4 ht4)
     | (go_simp; (with_reducible refine HN.out.mono ?_); rintro e w3 ⟨rfl,J3⟩; have P3:Hid (RP w C (tn:Int) w3 (.slice la i lc) 0 ⟨#[]⟩ (rnums i r2).1 r'):=HR.out.drew.turn J3.out.1 J3.out.2; have k3:=P3.out.com.cells.2.1; have k3':=(P3.out.com.below (bz1 w3 (.cells #[.int .u64 (v:Int)] 53)) P3.out.com.lt).cells.2.1; have HB3:Hid (Below w.heap.size w w3):=P3.out.bel; have HC3:Hid (∀ j u,(encU.cells (UInt64.ofNat v))[j]? = some u->(w3.alloc (.cells #[.int .u64 (v:Int)] 53)).cell? ((⟨w3.heap.size,0,none⟩:Addr).add j)=some u):=(by have:=ZaC encU w3 (UInt64.ofNat v) 53; rw [show (encU.cells (UInt64.ofNat v)).toArray=#[Value.int .u64 (v:Int)] from (by show #[Value.int .u64 ((UInt64.ofNat v).toNat:Int)]=_; rw [HX.out.2.1])] at this; exact this)))
   all_goals
    have P4:Hid (RP w C (tn:Int) (w4.setCell ⟨C,1,none⟩ (.slice a4 (i+1) c4)) (.slice a4 (i+1) c4) 0 ⟨#[]⟩ (rnums (i+1) r2).1 (rnums (i+1) r2).2):=by
     rw [HX.out.1];exact P3.out.add J4.out.2 J4.out.1
    go_wp2;go_roundg (gk - 1)
    case measure=>omega
    case rel=>exact ⟨i+1,a4,c4,by go_num,by omega,P4.out⟩
  ·obtain rfl:i=cn:=by omega
   have P3:Hid (RP w C (tn:Int) wr (.slice la i lc) 0 ⟨#[]⟩ R3.1 R3.2):=by
    have:=HR.out;rw [HP.out.2.2.2.1] at this;exact this
   have hnu:=Ze1 P3.out.rdr dn r4 HP.out.2.2.2.2.1
   obtain ⟨dt,hdt⟩:∃ dt,sgn dn=dt:=⟨_,rfl⟩
   have hwd:IntKind.i64.wrap (dn:Int)=dt:=by rw [<- hdt]; exact ZhJ v4
   have HD:Hid (sgn dn=dt):=hdt;clear HR hdt;go_wp2_with fail;refine hnu.mono ?_;rintro e w4 ⟨rfl,J4⟩;have P4:Hid (RP w C (tn:Int) w4 (.slice la i lc) 0 ⟨#[]⟩ R3.1 r4):=P3.out.turn J4.out.1 J4.out.2;obtain ⟨x0,x1,x2,x3⟩:=P4.out.com.cells;obtain ⟨f0,f1,f2,f3⟩:=P4.out.com.thaw;have P5:Hid (RP w C (tn:Int) (w4.setCell ⟨C,2,none⟩ (.int .i64 dt)) (.slice la i lc) dt ⟨#[]⟩ R3.1 r4):=P4.out.date dt
   obtain ⟨t,ht⟩:∃ t:ByteArray,t=⟨R5.1.toArray⟩:=⟨_,rfl⟩
   obtain ⟨r5,hr5⟩:∃ r5,R5.2=r5:=⟨_,rfl⟩
   have htx:=Zkb P5.out.rdr t r5 (by rw [HP.out.2.2.2.2.2.1,ht,<- hr5])
   have HT:Hid (t=⟨R5.1.toArray⟩/\R5.2=r5):=⟨ht,hr5⟩
   clear hnu J4 P3 ht hr5;go_wp2_with fail;refine htx.mono ?_;rintro e w6 ⟨rfl,J6⟩;have P6:Hid (RP w C (tn:Int) w6 (.slice la i lc) dt ⟨#[]⟩ R3.1 r5):=P5.out.turn J6.out.1 J6.out.2;clear x0 x1 x2 x3 f0 f1 f2 f3;obtain ⟨x0,x1,x2,x3⟩:=P6.out.com.cells;obtain ⟨f0,f1,f2,f3⟩:=P6.out.com.thaw
   obtain ⟨w7,hw7⟩:∃ w7,w6.setCell ⟨C,3,none⟩ (.string t)=w7:=⟨_,rfl⟩
   have P7:Hid (RP w C (tn:Int) w7 (.slice la i lc) dt t R3.1 r5):=by
    rw [<- hw7];exact P6.out.note t
   obtain ⟨ra,rc,hbx,_⟩:=P7.out.rdr.at_;obtain ⟨y0,y1⟩:=hbx.cells;obtain ⟨z0,z1,z2,z3⟩:=P7.out.com.cells;obtain ⟨q0,q1,q2,q3⟩:=P7.out.res.cells;obtain ⟨g0,g1,g2,g3⟩:=P7.out.res.thaw
   obtain ⟨rl,hrl⟩:∃ rl,r5.1.length=rl:=⟨_,rfl⟩
   rw [hrl] at y0;have HL:Hid (r5.1.length=rl):=hrl;clear htx J6 P5 hbx hrl
   have zero:∀ S:World,S=(((w7.setCell ⟨w.heap.size,0,none⟩ (.int .u64 0)).setCell ⟨w.heap.size,1,none⟩ (.slice none 0 0)).setCell ⟨w.heap.size,2,none⟩ (.int .i64 0)).setCell ⟨w.heap.size,3,none⟩ (.string ⟨#[]⟩)->Below w.heap.size w S:=by
    rintro S rfl;have ht:=ZaI w7 w.heap.size (.int .u64 0) (.slice none 0 0) (.int .i64 0) (.string ⟨#[]⟩);exact P7.out.bel.trans (ht.below P7.out.bel.size (λ k hk q=>by have q':k=w.heap.size:=q; omega))
   have HZ:Hid (∀ S:World,S=(((w7.setCell ⟨w.heap.size,0,none⟩ (.int .u64 0)).setCell ⟨w.heap.size,1,none⟩ (.slice none 0 0)).setCell ⟨w.heap.size,2,none⟩ (.int .i64 0)).setCell ⟨w.heap.size,3,none⟩ (.string ⟨#[]⟩)->Below w.heap.size w S):=zero;clear zero
   cases hs:r5.2 with
   | true =>
    rw [hs] at y1;have hrc:RC bs zcm 9:=Zi6 (.inl (by rw [HP.out.1]; simp only; rw [HT.out.2]; intro q; rw [q] at hs; cases hs));have HC:Hid (RC bs zcm 9):=hrc;clear hrc hs;go_wp2;refine bodyPost_ret (v:=.tuple #[.agg #[.int .u64 0,.slice none 0 0,.int .i64 0,.string ⟨#[]⟩],.int .i64 9]) ?_ rfl ?_
    ·simp [results,Tryz.f92];go_simp
    ·exact ⟨zcm,9,none,0,rfl,HC.out,RdG.nil _ _ _,Nat.le_refl _,HZ.out _ rfl,Za1.none _ _⟩
   | false =>
    rw [hs] at y1;by_cases hr0:0<rl
    ·have d1:(0:Int)<(rl:Int):=by omega
     have hrc:RC bs zcm 9:=Zi6 (.inl (by rw [HP.out.1]; simp only; rw [HT.out.2]; intro q; have:=HL.out; rw [q] at this; simp at this; omega));have HC:Hid (RC bs zcm 9):=hrc;clear hrc hs;go_wp2;refine bodyPost_ret (v:=.tuple #[.agg #[.int .u64 0,.slice none 0 0,.int .i64 0,.string ⟨#[]⟩],.int .i64 9]) ?_ rfl ?_
     ·simp [results,Tryz.f92];go_simp
     ·exact ⟨zcm,9,none,0,rfl,HC.out,RdG.nil _ _ _,Nat.le_refl _,HZ.out _ rfl,Za1.none _ _⟩
    ·have hrl0:rl=0:=by omega
     subst hrl0
     have hr5:R5.2=([],false):=by
      rw [HT.out.2];exact Prod.ext (List.eq_nil_of_length_eq_zero HL.out) hs
     have hpl:R3.1.length=i:=HP.out.2.2.2.2.2.2;obtain ⟨hrr,hrc⟩:=P7.out.row.rdc
     obtain ⟨cc,hcc⟩:∃ cc:Cm,(⟨UInt64.ofNat tn,R3.1,dt,R5.1⟩:Cm)=cc:=⟨_,rfl⟩
     have e1:cc.ps=R3.1:=by rw [<- hcc]
     have e2:cc.date=dt:=by rw [<- hcc]
     have e3:cc.note=R5.1:=by rw [<- hcc]
     have e4:(cc.tree.toNat:Int)=(tn:Int):=by rw [<- hcc]; simp only; rw [UInt64.toNat_ofNat']; omega
     have hpc:pcom bs=(cc,([],false)):=by rw [HP.out.1,<- hcc,hr5,HD.out]
     have hck:=ZeX (c:=cc) (w:=w7) (by rw [e1]; exact hrr) (by rw [e1]; exact hpl) hrc t (by rw [e3]; exact HT.out.1) dt e2 (tn:Int)
     obtain ⟨ce,hce⟩:∃ ce,ccom cc=ce:=⟨_,rfl⟩
     rw [hce] at hck
     have HQ:Hid (cc.ps=R3.1/\cc.date=dt/\cc.note=R5.1/\(cc.tree.toNat:Int)=(tn:Int)/\pcom bs=(cc,([],false))/\ccom cc=ce/\R3.1.length=i/\i<=lc):=⟨e1,e2,e3,e4,hpc,hce,hpl,hrc⟩
     clear e1 e2 e3 e4 hpc hce hpl hrr hrc hr5 hcc hs;by_cases hc0:ce=0
     ·subst hc0;go_wp2_with fail;refine hck.mono ?_;rintro e w8 ⟨rfl,hb8⟩;have B8:Hid (Below w7.heap.size w7 w8):=hb8;clear hb8 z0 z1 z2 z3 q0 q1 q2 q3 g0 g1 g2 g3 y0 y1;obtain ⟨z0,z1,z2,z3⟩:=(P7.out.com.below B8.out P7.out.com.lt).cells;obtain ⟨q0,q1,q2,q3⟩:=(P7.out.res.below B8.out P7.out.res.lt).cells;obtain ⟨g0,g1,g2,g3⟩:=(P7.out.res.below B8.out P7.out.res.lt).thaw;go_wp2;refine bodyPost_ret (v:=.tuple #[.agg #[.int .u64 (tn:Int),.slice la i lc,.int .i64 dt,.string t],.int .i64 0]) ?_ rfl ?_
      ·simp [results,Tryz.f92];go_simp
      ·have ht:=ZaI w8 w.heap.size (.int .u64 (tn:Int)) (.slice la i lc) (.int .i64 dt) (.string t);have bel:Below w.heap.size w w8:=P7.out.bel.trans (B8.out.mono P7.out.bel.size);have hrow:=(P7.out.row.below B8.out).stays ht (λ g hg q=>by have:=(P7.out.row.lt g hg).1; have:=P7.out.lo; have q':g=w.heap.size:=q; omega);have hg:=Znh (b:=bs) (by rw [HQ.out.2.2.2.2.1]) (by rw [HQ.out.2.2.2.2.1]; exact HQ.out.2.2.2.2.2.1);rw [HQ.out.2.2.2.2.1] at hg;refine ⟨cc,0,la,lc,?_,hg,?_,?_,bel.trans (ht.below bel.size (λ k hk q=>by have q':k=w.heap.size:=q; omega)),by rw [HQ.out.1,HQ.out.2.2.2.2.2.2.1]; exact hrow.newRow (by have:=P7.out.lo; omega)⟩
       ·rw [HQ.out.1,HQ.out.2.1,HQ.out.2.2.1,HQ.out.2.2.2.1,HQ.out.2.2.2.2.2.2.1,HT.out.1]
       ·rw [HQ.out.1]; exact hrow.rdc.1
       ·rw [HQ.out.1,HQ.out.2.2.2.2.2.2.1]; exact HQ.out.2.2.2.2.2.2.2
     ·have m0:(ce==0)=false:=by simpa using hc0
      have m1:(ce != 0)=true:=by simpa using hc0
      go_wp2_with fail;refine hck.mono ?_;rintro e w8 ⟨rfl,hb8⟩;have B8:Hid (Below w7.heap.size w7 w8):=hb8;clear hb8 z0 z1 z2 z3 q0 q1 q2 q3 g0 g1 g2 g3 y0 y1;obtain ⟨q0,q1,q2,q3⟩:=(P7.out.res.below B8.out P7.out.res.lt).cells;obtain ⟨g0,g1,g2,g3⟩:=(P7.out.res.below B8.out P7.out.res.lt).thaw;go_wp2;refine bodyPost_ret (v:=.tuple #[.agg #[.int .u64 0,.slice none 0 0,.int .i64 0,.string ⟨#[]⟩],.int .i64 9]) ?_ rfl ?_
      ·simp [results,Tryz.f92];go_simp
      ·have ht:=ZaI w8 w.heap.size (.int .u64 0) (.slice none 0 0) (.int .i64 0) (.string ⟨#[]⟩);have bel:Below w.heap.size w w8:=P7.out.bel.trans (B8.out.mono P7.out.bel.size);have hg:RC bs zcm 9:=Zi6 (.inr (by rw [HQ.out.2.2.2.2.1]; simp only; rw [HQ.out.2.2.2.2.2.1]; exact hc0));exact ⟨zcm,9,none,0,rfl,hg,RdG.nil _ _ _,Nat.le_refl _,bel.trans (ht.below bel.size (λ k hk q=>by have q':k=w.heap.size:=q; omega)),Za1.none _ _⟩
theorem Zlg:∀ args w,(callFunc 102 args).run Tryz.prog w=.ok (.enter 102 args) w:=enters_of Tryz.func102 (by kernel_rfl) rfl
section
variable {w:World} {bs:Bs} {s:ByteArray} {N:Nat}
theorem Zng (hN:s.size=N) (h:N<9):Calls Tryz.prog 138 #[.string s] w λ e w'=>e=.returned (.tuple #[.agg #[.int .u64 0,.slice none 0 0,.int .i64 0,.string ⟨#[]⟩],.int .i64 9])/\Below w.heap.size w w':=by
 have q:decide ((N:Int)<9)=true:=by rw [decide_eq_true_iff]; omega
 go_enter Tryz.func138,Tryz.ntmps138;go_wp2;refine bodyPost_ret (v:=.tuple #[.agg #[.int .u64 0,.slice none 0 0,.int .i64 0,.string ⟨#[]⟩],.int .i64 9]) ?_ rfl ⟨rfl,?_⟩
 ·simp [results,Tryz.f138];go_simp
 ·exact bz1 _ _
theorem Znc (hN:s.size=N) (h:¬ N<9) (h8:8<s.size) (yn:Nat) (hy:s[8].toNat=yn) (hb:8<yn∨N<18+8*yn):Calls Tryz.prog 138 #[.string s] w λ e w'=>e=.returned (.tuple #[.agg #[.int .u64 0,.slice none 0 0,.int .i64 0,.string ⟨#[]⟩],.int .i64 9])/\Below w.heap.size w w':=by
 have q:decide ((N:Int)<9)=false:=by rw [decide_eq_false_iff_not]; omega
 have i8:(8:Int)<(N:Int):=by omega
 have hyl:yn<=255:=by have:=s[8].toNat_lt; omega
 have wy:IntKind.i64.wrap (yn:Int)=(yn:Int):=by rw [IntKind.wrap_i64]; omega
 by_cases hc:8<yn
 ·have q2:(8:Int)<(yn:Int):=by omega
  go_enter Tryz.func138,Tryz.ntmps138;go_wp2;refine bodyPost_ret (v:=.tuple #[.agg #[.int .u64 0,.slice none 0 0,.int .i64 0,.string ⟨#[]⟩],.int .i64 9]) ?_ rfl ⟨rfl,?_⟩
  ·simp [results,Tryz.f138];go_simp
  ·exact bz1 _ _
 ·have q2:decide ((8:Int)<(yn:Int))=false:=by rw [decide_eq_false_iff_not]; omega
  have q3:decide ((N:Int)<18+8*(yn:Int))=true:=by rw [decide_eq_true_iff]; omega
  go_enter Tryz.func138,Tryz.ntmps138;go_wp2;refine bodyPost_ret (v:=.tuple #[.agg #[.int .u64 0,.slice none 0 0,.int .i64 0,.string ⟨#[]⟩],.int .i64 9]) ?_ rfl ⟨rfl,?_⟩
  ·simp [results,Tryz.f138];go_simp
  ·exact bz1 _ _
theorem Znu (hs:s=⟨bs.toArray⟩) (hN:s.size=N) (hNm:N<=9223372036854775807) (h:¬ N<9) (h8:8<s.size) (yn:Nat) (hy:s[8].toNat=yn) (hc:yn<=8) (hl:18+8*yn<=N) :
  Calls Tryz.prog 138 #[.string s] w λ e w'=>∃ (c:Cm) (er:Int) (pa:Option Addr) (pc:Nat),e=.returned (.tuple #[.agg #[.int .u64 (c.tree.toNat:Int),.slice pa c.ps.length pc,.int .i64 c.date,tx c.note],.int .i64 er])/\Hid (RC bs c er/\RdG encU w' pa c.ps/\c.ps.length<=pc/\Below w.heap.size w w'/\Za1 w pa c.ps.length):=by
 have q:decide ((N:Int)<9)=false:=by rw [decide_eq_false_iff_not]; omega
 have i8:(8:Int)<(N:Int):=by omega
 have wy:IntKind.i64.wrap (yn:Int)=(yn:Int):=by rw [IntKind.wrap_i64]; omega
 have q2:decide ((8:Int)<(yn:Int))=false:=by rw [decide_eq_false_iff_not]; omega
 obtain ⟨p9,hp9⟩:∃ p9,9+8*yn=p9:=⟨_,rfl⟩
 obtain ⟨p17,hp17⟩:∃ p17,17+8*yn=p17:=⟨_,rfl⟩
 obtain ⟨p18,hp18⟩:∃ p18,18+8*yn=p18:=⟨_,rfl⟩
 have j0:IntKind.i64.wrap (8*(yn:Int))=8*(yn:Int):=by rw [IntKind.wrap_i64]; omega
 have j9:9+8*(yn:Int)=(p9:Int):=by omega
 have j17:17+8*(yn:Int)=(p17:Int):=by omega
 have j18:18+8*(yn:Int)=(p18:Int):=by omega
 have k9:IntKind.i64.wrap (p9:Int)=(p9:Int):=by rw [IntKind.wrap_i64]; omega
 have k17:IntKind.i64.wrap (p17:Int)=(p17:Int):=by rw [IntKind.wrap_i64]; omega
 have k18:IntKind.i64.wrap (p18:Int)=(p18:Int):=by rw [IntKind.wrap_i64]; omega
 have q3:decide ((N:Int)<(p18:Int))=false:=by rw [decide_eq_false_iff_not]; omega
 have e1:(0:Int)<=(p9:Int):=by omega
 have e2:(p9:Int)<=(p17:Int):=by omega
 have e3:(p17:Int)<=(N:Int):=by omega
 have e4:(0:Int)<=(p18:Int):=by omega
 have e5:(p18:Int)<=(N:Int):=by omega
 have e6:(8:Int)<=(N:Int):=by omega
 obtain ⟨t1,ht1⟩:∃ t1,s.extract 0 8=t1:=⟨_,rfl⟩
 obtain ⟨t2,ht2⟩:∃ t2,s.extract p9 p17=t2:=⟨_,rfl⟩
 obtain ⟨t3,ht3⟩:∃ t3,s.extract p18 N=t3:=⟨_,rfl⟩
 obtain ⟨v1,hv1⟩:∃ v1,val t1.data.toList=v1:=⟨_,rfl⟩
 obtain ⟨v2,hv2⟩:∃ v2,val t2.data.toList=v2:=⟨_,rfl⟩
 have ts1:t1.size<=8:=by rw [<- ht1,ByteArray.size_extract]; omega
 have ts2:t2.size<=8:=by rw [<- ht2,ByteArray.size_extract]; omega
 have tl1:t1.data.toList.length=t1.size:=rfl;have tl2:t2.data.toList.length=t2.size:=rfl
 have d1:t1.data.toList=bs.take 8:=by rw [<- ht1,hs,ZaR]; simp
 have d2:t2.data.toList=(bs.drop (9+8*yn)).take 8:=by rw [<- ht2,hs,ZaR,<- hp9,show p17 - (9+8*yn)=8 by omega]
 have hbl:bs.length=N:=by rw [<- hN,hs]; show _=bs.toArray.size; simp
 have d3:t3=⟨(bs.drop (18+8*yn)).toArray⟩:=by
  have:t3.data.toList=bs.drop (18+8*yn):=by rw [<- ht3,hs,ZaR,<- hp18,List.take_of_length_le (by rw [List.length_drop]; omega)]
  rw [<- this]
 have hv2l:v2<18446744073709551616:=by rw [<- hv2]; exact Zm3 (by omega)
 have hwd:=ZhJ hv2l
 obtain ⟨dt,hdt⟩:∃ dt,sgn v2=dt:=⟨_,rfl⟩
 rw [hdt] at hwd
 have HV1:Hid (∀ u,Calls Tryz.prog 102 #[.string t1] u λ e w'=>e=.returned (.int .u64 (v1:Int))/\w'=u):=λ u=>Zct t1 ts1 v1 hv1 u
 have HV2:Hid (∀ u,Calls Tryz.prog 102 #[.string t2] u λ e w'=>e=.returned (.int .u64 (v2:Int))/\w'=u):=λ u=>Zct t2 ts2 v2 hv2 u
 have HB:Hid (s=⟨bs.toArray⟩/\bs.length=N/\(rcom bs yn).date=dt/\t3=⟨(rcom bs yn).note.toArray⟩/\((rcom bs yn).tree.toNat:Int)=(v1:Int)/\bs[8]? = some (UInt8.ofNat yn)):=by
  refine ⟨hs,hbl,?_,d3,?_,?_⟩
  ·show sgn (val ((bs.drop (9+8*yn)).take 8))=dt;rw [<- d2,hv2,hdt]
  ·show ((UInt64.ofNat (val (bs.take 8))).toNat:Int)=_;rw [<- d1,Zbe (by omega),hv1]
  ·have h8':8<bs.length:=by omega
   rw [List.getElem?_eq_getElem h8']
   have:s[8]=bs[8]:=by subst hs; simp [ByteArray.getElem_eq_getElem_data]
   rw [<- this,<- hy];simp
 have HW0:Hid (Below w.heap.size w (w.alloc (.cells #[.int .u64 0,.slice none 0 0,.int .i64 0,.string ⟨#[]⟩] 108))):=bz1 _ _;clear hs hbl d1 d2 d3 tl1 tl2 ts1 ts2 hv1 hv2 hdt hv2l hp9 hp17 hp18 hl;go_enter Tryz.func138,Tryz.ntmps138
 go_upto_region 4 with fail
 go_cut [5] (λ cv u=>cv=.pointer (some ⟨w.heap.size+1,0,none⟩)/\Hid (Box4 u w.heap.size 108 (.int .u64 0) (.slice none 0 0) (.int .i64 0) (.string ⟨#[]⟩)/\Box4 u (w.heap.size+1) 108 (.int .u64 (v1:Int)) (.slice none 0 0) (.int .i64 dt) (.string t3)/\Below w.heap.size w u))
 case first =>
  have HW1:Hid (Below w.heap.size w (w.alloc (.cells #[.int .u64 0,.slice none 0 0,.int .i64 0,.string ⟨#[]⟩] 108)).drew):=HW0.out.drew
  go_region_held3 (λ u=>Hid (Below w.heap.size w u))
   (first | with_reducible assumption | (refine keepA ?_; with_reducible assumption) | (refine keepD ?_; with_reducible assumption) | (refine keepD (keepA ?_); with_reducible assumption))
   (first
    | (go_at_call 102; (with_reducible refine (HV1.out _).mono ?_); rintro e w3 ⟨rfl,hw3⟩; rw [hw3]; clear hw3 w3)
    | (go_at_call 102; (with_reducible refine (HV2.out _).mono ?_); rintro e w3 ⟨rfl,hw3⟩; rw [hw3]; clear hw3 w3))
  all_goals
   go_wp2_with fail;go_meet;exact ⟨rfl,Zke w _ _ _ _ _ _ _ _ 108 108⟩
 case rest =>
  obtain ⟨rfl,HX⟩:=hcut;go_wp2_with fail;go_loopg [6] yn (λ m iv wr=>∃ (i:Nat) (la:Option Addr) (lc:Nat),iv=.int .i64 i/\i+m=yn/\Hid (Box4 wr w.heap.size 108 (.int .u64 0) (.slice none 0 0) (.int .i64 0) (.string ⟨#[]⟩)/\Box4 wr (w.heap.size+1) 108 (.int .u64 (v1:Int)) (.slice la i lc) (.int .i64 dt) (.string t3)/\OwnG encU 52 wr (w.heap.size+2) (.slice la i lc) ((List.range i).map (rpar bs))/\Below w.heap.size w wr))
  case atStart=>exact ⟨0,none,0,rfl,by omega,HX.out.1,HX.out.2.1,OwnG.nil _ _ _ _,HX.out.2.2⟩
  case round =>
   obtain ⟨i,la,lc,rfl,hi,HR⟩:=hrel;obtain ⟨x0,x1,x2,x3⟩:=HR.out.2.1.cells;by_cases hin:i<yn
   ·have id:(i:Int)<(yn:Int):=by omega
    obtain ⟨a9,ha9⟩:∃ a9,9+8*i=a9:=⟨_,rfl⟩
    obtain ⟨a17,ha17⟩:∃ a17,17+8*i=a17:=⟨_,rfl⟩
    have l0:IntKind.i64.wrap (8*(i:Int))=8*(i:Int):=by rw [IntKind.wrap_i64]; omega
    have l9:9+8*(i:Int)=(a9:Int):=by omega
    have l17:17+8*(i:Int)=(a17:Int):=by omega
    have m9:IntKind.i64.wrap (a9:Int)=(a9:Int):=by rw [IntKind.wrap_i64]; omega
    have m17:IntKind.i64.wrap (a17:Int)=(a17:Int):=by rw [IntKind.wrap_i64]; omega
    have o1:(0:Int)<=(a9:Int):=by omega
    have o2:(a9:Int)<=(a17:Int):=by omega
    have o3:(a17:Int)<=(N:Int):=by omega
    obtain ⟨t4,ht4⟩:∃ t4,s.extract a9 a17=t4:=⟨_,rfl⟩
    obtain ⟨v4,hv4⟩:∃ v4,val t4.data.toList=v4:=⟨_,rfl⟩
    have ts4:t4.size<=8:=by rw [<- ht4,ByteArray.size_extract]; omega
    have tl4:t4.data.toList.length=t4.size:=rfl
    have d4:t4.data.toList=(bs.drop (9+8*i)).take 8:=by rw [<- ht4,HB.out.1,ZaR,<- ha9,show a17 - (9+8*i)=8 by omega]
    have HV4:Hid (Calls Tryz.prog 102 #[.string t4] wr.drew λ e w'=>e=.returned (.int .u64 (v4:Int))/\w'=wr.drew):=Zct t4 ts4 v4 hv4 wr.drew
    have hx:(rpar bs i).toNat=v4:=by
     unfold rpar;rw [<- d4,Zbe (by omega),hv4]
    have hst:(List.range (i+1)).map (rpar bs)=(List.range i).map (rpar bs)++[rpar bs i]:=by rw [List.range_succ,List.map_append]; rfl
    have hll:((List.range i).map (rpar bs)).length=i:=by simp
    have HS:Hid ((List.range (i+1)).map (rpar bs)=(List.range i).map (rpar bs)++[rpar bs i]/\((List.range i).map (rpar bs)).length=i/\((List.range i).map (rpar bs)++[rpar bs i]).length=i+1/\(rpar bs i).toNat=v4):=⟨hst,hll,by simp,hx⟩
    have HC:Hid (∀ j u,(encU.cells (rpar bs i))[j]? = some u->(wr.drew.alloc (.cells #[.int .u64 (v4:Int)] 52)).cell? ((⟨wr.heap.size,0,none⟩:Addr).add j)=some u):=by
     have:=ZaC encU wr.drew (rpar bs i) 52;rw [show (encU.cells (rpar bs i)).toArray=#[Value.int .u64 (v4:Int)] from (by show #[Value.int .u64 ((rpar bs i).toNat:Int)]=_; rw [hx])] at this;exact this
    have hO:w.heap.size+1<wr.heap.size:=HR.out.2.1.lt;have x1':=(HR.out.2.1.below (bz1 wr (.cells #[.int .u64 (v4:Int)] 52)) hO).cells.2.1;clear hst hll hx d4 ts4 tl4 hv4 ha9 ha17;go_wp2_with fail
    go_region_law
     (first
      | (refine Zma rfl (.tmp 65) 102 #[9] rfl Zlg (.string t4) (.int .u64 (v4:Int)) (by simp [Act.eval,Act.put]) HV4.out ?_)
      | (refine Za8 encU 52 60 8 _ rfl Tryz.info52 Tryz.underlying60 rfl (.tmp 57) (.tmp 67) rfl (w.heap.size+2) (.slice la i lc) ((List.range i).map (rpar bs)) (rpar bs i) (by simp [Act.eval]) (HR.out.2.2.1.below ((Below.refl _ wr).drew.trans (bz1 wr.drew _))) wr.heap.size (by simp [Act.eval]) HC.out (by rw [HS.out.2.1]; omega) (by rw [HS.out.2.1]; simp only [maxLen]; omega) (by simp; omega) ?_; intro v5 w5 ho5 hb5 hm5 ht5; obtain ⟨a5,c5,e5,_,_,_,_⟩:=OwnG.form ho5; rw [HS.out.2.2.1] at e5; subst e5; have J5:Hid (OwnG encU 52 w5 (w.heap.size+2) (.slice a5 (i+1) c5) ((List.range i).map (rpar bs)++[rpar bs i])/\Below (w.heap.size+2) wr w5):=⟨ho5,((bz1 wr _).drew.mono (by omega)).trans hb5⟩; have z5:=(HR.out.2.1.below J5.out.2 (by omega)).cells; have g5:=(HR.out.2.1.below J5.out.2 (by omega)).thaw; obtain ⟨z0,z1,z2,z3⟩:=z5; obtain ⟨g0,g1,g2,g3⟩:=g5; clear ho5 hb5 hm5 ht5)
      | fail)
    all_goals
     have HO:Hid (∀ S:World,S=w5.setCell ⟨w.heap.size+1,1,none⟩ (.slice a5 (i+1) c5)->Box4 S w.heap.size 108 (.int .u64 0) (.slice none 0 0) (.int .i64 0) (.string ⟨#[]⟩)/\Box4 S (w.heap.size+1) 108 (.int .u64 (v1:Int)) (.slice a5 (i+1) c5) (.int .i64 dt) (.string t3)/\OwnG encU 52 S (w.heap.size+2) (.slice a5 (i+1) c5) ((List.range (i+1)).map (rpar bs))/\Below w.heap.size w S):=by
      rintro S rfl;have ht:Zaa (λ k=>k=w.heap.size+1) w5 (w5.setCell ⟨w.heap.size+1,1,none⟩ (.slice a5 (i+1) c5)):=Zae 1 _;refine ⟨(HR.out.1.below J5.out.2 (by omega)).turned ht (by omega),(HR.out.2.1.below J5.out.2 (by omega)).put1 _,?_,?_⟩
      ·rw [HS.out.1];exact J5.out.1.stays ht (λ g hg q=>by have:=(J5.out.1.lt g hg).1; have q':g=w.heap.size+1:=q; omega)
      ·have b1:Below w.heap.size w w5:=HR.out.2.2.2.trans (J5.out.2.mono (by omega));exact b1.trans (ht.below b1.size (λ k hk q=>by have q':k=w.heap.size+1:=q; omega))
     go_wp2;go_roundg (gk - 1)
     case measure=>omega
     case rel=>exact ⟨i+1,a5,c5,by go_num,by omega,HO.out _ rfl⟩
   ·obtain rfl:i=yn:=by omega
    obtain ⟨f0,f1,f2,f3⟩:=HR.out.1.thaw;obtain ⟨q0,q1,q2',q3'⟩:=HR.out.1.cells;obtain ⟨hrr,hlc⟩:=HR.out.2.2.1.rdc
    have hpl:(rcom bs i).ps.length=i:=by simp [rcom]
    have hwr:=Zev (c:=rcom bs i) (pc:=lc) hrr hpl t3 HB.out.2.2.2.1 dt HB.out.2.2.1;rw [HB.out.2.2.2.2.1] at hwr
    obtain ⟨fe,hfe⟩:∃ fe,(fcom (rcom bs i)).2=fe:=⟨_,rfl⟩
    obtain ⟨fb,hfb⟩:∃ fb:ByteArray,fb=⟨(fcom (rcom bs i)).1.toArray⟩:=⟨_,rfl⟩
    rw [show tx (fcom (rcom bs i)).1=.string fb by rw [hfb],hfe] at hwr
    have HF:Hid ((fcom (rcom bs i)).2=fe/\fb=⟨(fcom (rcom bs i)).1.toArray⟩/\(rcom bs i).ps.length=i/\i<=lc):=⟨hfe,hfb,hpl,hlc⟩
    clear hfe hfb hpl hlc hrr;by_cases hf0:fe=0
    ·subst hf0;by_cases hfs:fb=s
     ·subst hfs;go_wp2_with fail;refine hwr.mono ?_;rintro e w6 ⟨rfl,hb6⟩;have B6:Hid (Below wr.heap.size wr w6):=hb6;clear hb6 x0 x1 x2 x3 q0 q1 q2' q3' f0 f1 f2 f3 hwr;obtain ⟨x0,x1,x2,x3⟩:=(HR.out.2.1.below B6.out HR.out.2.1.lt).cells;obtain ⟨q0,q1,q2',q3'⟩:=(HR.out.1.below B6.out HR.out.1.lt).cells;obtain ⟨f0,f1,f2,f3⟩:=(HR.out.1.below B6.out HR.out.1.lt).thaw;go_wp2;refine bodyPost_ret (v:=.tuple #[.agg #[.int .u64 (v1:Int),.slice la i lc,.int .i64 dt,.string t3],.int .i64 0]) ?_ rfl ?_
      ·simp [results,Tryz.f138];go_simp
      ·have ht:=ZaI w6 w.heap.size (.int .u64 (v1:Int)) (.slice la i lc) (.int .i64 dt) (.string t3);have bel:Below w.heap.size w w6:=HR.out.2.2.2.trans (B6.out.mono HR.out.2.2.2.size);have hrow:=(HR.out.2.2.1.below B6.out).stays ht (λ g hg q=>by have:=(HR.out.2.2.1.lt g hg).1; have q':g=w.heap.size:=q; omega)
       have hg:RC bs (rcom bs i) 0:=ZnG (by
        have e1:(fcom (rcom bs i)).1=bs:=by
         have:=HF.out.2.1;rw [HB.out.1] at this;have h2:=congrArg (λ b:ByteArray=>b.data.toList) this;simpa using h2.symm
        exact Prod.ext e1 HF.out.1)
       refine ⟨rcom bs i,0,la,lc,?_,hg,hrow.rdc.1,by rw [HF.out.2.2.1]; exact HF.out.2.2.2,bel.trans (ht.below bel.size (λ k hk q=>by have q':k=w.heap.size:=q; omega)),by rw [HF.out.2.2.1]; exact hrow.newRow (by omega)⟩;rw [HB.out.2.2.2.2.1,HF.out.2.2.1,HB.out.2.2.1,HB.out.2.2.2.1]
     ·have m2:(fb.toList==s.toList)=false:=by
       rw [beq_eq_false_iff_ne];intro e;apply hfs;rw [ByteArray.toList_eq,ByteArray.toList_eq] at e;have:=congrArg List.toArray e;apply ByteArray.ext;simpa using this
      have m3:(fb.toList != s.toList)=true:=by rw [bne,m2]; rfl
      go_wp2_with fail;refine hwr.mono ?_;rintro e w6 ⟨rfl,hb6⟩;have B6:Hid (Below wr.heap.size wr w6):=hb6;clear hb6 x0 x1 x2 x3 q0 q1 q2' q3' f0 f1 f2 f3 hwr;obtain ⟨q0,q1,q2',q3'⟩:=(HR.out.1.below B6.out HR.out.1.lt).cells;obtain ⟨f0,f1,f2,f3⟩:=(HR.out.1.below B6.out HR.out.1.lt).thaw;go_wp2;refine bodyPost_ret (v:=.tuple #[.agg #[.int .u64 0,.slice none 0 0,.int .i64 0,.string ⟨#[]⟩],.int .i64 9]) ?_ rfl ?_
      ·simp [results,Tryz.f138];go_simp
      ·have ht:=ZaI w6 w.heap.size (.int .u64 0) (.slice none 0 0) (.int .i64 0) (.string ⟨#[]⟩);have bel:Below w.heap.size w w6:=HR.out.2.2.2.trans (B6.out.mono HR.out.2.2.2.size);have hg:RC bs zcm 9:=Zd8 HB.out.2.2.2.2.2 hc (λ e=>hfs (by rw [HF.out.2.1,e,HB.out.1]));exact ⟨zcm,9,none,0,rfl,hg,RdG.nil _ _ _,Nat.le_refl _,bel.trans (ht.below bel.size (λ k hk q=>by have q':k=w.heap.size:=q; omega)),Za1.none _ _⟩
    ·have m0:(fe==0)=false:=by simpa using hf0
     have m1:(fe != 0)=true:=by simpa using hf0
     go_wp2_with fail;refine hwr.mono ?_;rintro e w6 ⟨rfl,hb6⟩;have B6:Hid (Below wr.heap.size wr w6):=hb6;clear hb6 x0 x1 x2 x3 q0 q1 q2' q3' f0 f1 f2 f3 hwr;obtain ⟨q0,q1,q2',q3'⟩:=(HR.out.1.below B6.out HR.out.1.lt).cells;obtain ⟨f0,f1,f2,f3⟩:=(HR.out.1.below B6.out HR.out.1.lt).thaw;go_wp2;refine bodyPost_ret (v:=.tuple #[.agg #[.int .u64 0,.slice none 0 0,.int .i64 0,.string ⟨#[]⟩],.int .i64 9]) ?_ rfl ?_
     ·simp [results,Tryz.f138];go_simp
     ·have ht:=ZaI w6 w.heap.size (.int .u64 0) (.slice none 0 0) (.int .i64 0) (.string ⟨#[]⟩);have bel:Below w.heap.size w w6:=HR.out.2.2.2.trans (B6.out.mono HR.out.2.2.2.size);have hg:RC bs zcm 9:=Zd8 HB.out.2.2.2.2.2 hc (λ e=>hf0 (by rw [<- HF.out.1,e]));exact ⟨zcm,9,none,0,rfl,hg,RdG.nil _ _ _,Nat.le_refl _,bel.trans (ht.below bel.size (λ k hk q=>by have q':k=w.heap.size:=q; omega)),Za1.none _ _⟩
theorem Zc3 (bs:Bs) (hn:bs.length<=9223372036854775807) (w:World) :
  Calls Tryz.prog 138 #[tx bs] w λ e w'=>∃ (c:Cm) (er:Int) (pa:Option Addr) (pc:Nat),e=.returned (.tuple #[.agg #[.int .u64 (c.tree.toNat:Int),.slice pa c.ps.length pc,.int .i64 c.date,tx c.note],.int .i64 er])/\Hid (RC bs c er/\RdG encU w' pa c.ps/\c.ps.length<=pc/\Below w.heap.size w w'/\Za1 w pa c.ps.length):=by
 have hz:(⟨bs.toArray⟩:ByteArray).size=bs.length:=by show bs.toArray.size=_; simp
 by_cases h:bs.length<9
 ·refine (Zng hz h).mono ?_;rintro e w' ⟨rfl,hb⟩;exact ⟨zcm,9,none,0,rfl,Zc2 (.inl h),RdG.nil _ _ _,Nat.le_refl _,hb,Za1.none _ _⟩
 ·have h8:8<(⟨bs.toArray⟩:ByteArray).size:=by omega
  obtain ⟨yn,hy⟩:∃ yn,(⟨bs.toArray⟩:ByteArray)[8].toNat=yn:=⟨_,rfl⟩
  have hyl:yn<=255:=by have:=(⟨bs.toArray⟩:ByteArray)[8].toNat_lt; omega
  by_cases hb:8<yn∨bs.length<18+8*yn
  ·refine (Znc hz h h8 yn hy hb).mono ?_;rintro e w' ⟨rfl,hb'⟩;refine ⟨zcm,9,none,0,rfl,Zc2 (.inr ⟨yn,?_,hyl,hb⟩),RdG.nil _ _ _,Nat.le_refl _,hb',Za1.none _ _⟩
   have h8':8<bs.length:=by omega
   rw [List.getElem?_eq_getElem h8',<- hy];simp [ByteArray.getElem_eq_getElem_data]
  ·exact Znu rfl hz hn h h8 yn hy (by omega) (by omega)
end
theorem Za2 {v:Value} {bs:Bs} (w:World) (h:BAt w v bs) (hl:4<=bs.length) (t:Nat) (ht:val (bs.take 4)=t) :
  Calls Tryz.prog 222 #[v] w λ e w'=>e=.returned (.int .u32 (t:Int))/\Below w.heap.size w w':=by
 match bs,hl with
 | b0::b1::b2::b3::rest,_ =>
  refine (ZiO w h).mono ?_;rintro e w' ⟨rfl,q,rfl⟩;refine ⟨by rw [<- ht]; rfl,?_⟩;exact ⟨rfl,rfl,rfl,Nat.le_refl _,λ _ _=>rfl⟩
theorem ZjJ {ao:Option Addr} {n c i j:Nat} (hc:n<=c) (hij:i<=j) (hj:j<=n) :
  ∃ a' c',(∀ w,(Instr.slice 39 (.slice ao n c) (some (.int .i64 (i:Int))) (some (.int .i64 (j:Int))) none).run Tryz.prog w=.ok (.slice a' (j - i) c') w)/\j - i<=c'/\c'<=c/\∀ w (xs:Bs),xs.length=n->RdG encB w ao xs->RdG encB w a' ((xs.drop i).take (j - i)):=by
 obtain ⟨i0,hi0,hz0,hz1,hz2⟩:=info_parts Tryz.info5;refine ⟨if c=i then ao else ao.map (·.add i),c - i,λ w=>?_,by omega,by omega,?_⟩
 ·rw [run_slice_lh w 39 ao n c Tryz.underlying39 .i64 .i64 (i:Int) (j:Int) (by omega) (by omega) (by omega)]
  have:(sizeOf (Tryz.prog.elem 39)).run Tryz.prog w=.ok 1 w:=by
   have he:Tryz.prog.elem 39=5:=by kernel_rfl
   rw [he];simp [sizeOf,typeInfo,hi0,hz1]
  rw [this];simp only [Result.andThen,sliced,Int.toNat_natCast,Nat.mul_one]
 ·intro w xs hl h
  split
  ·intro h0;simp at h0;omega
  ·intro h0;obtain ⟨b,off,rfl,hlt,hcc⟩:=h (by simp at h0; omega);simp only [Option.map_some,Zas];have:=(RdG.drop (E:=encB) (b:=b) (off:=off) (xs:=xs) (λ _=>⟨b,off,rfl,hlt,hcc⟩) i).take (j - i) h0;rw [show i*encB.size=i from Nat.mul_one i] at this;exact this
section
variable {w:World} {a:Option Addr} {n c:Nat} {bs:Bs}
theorem ZlR (h:n<4):Calls Tryz.prog 164 #[.slice a n c] w λ e w'=>e=.returned (.tuple #[.agg #[.int .i64 0,.slice none 0 0],.int .i64 0,.int .i64 10])/\Below w.heap.size w w':=by
 have q:(n:Int)<4:=by omega
 go_enter Tryz.func164,Tryz.ntmps164;go_wp2;refine bodyPost_ret (v:=.tuple #[.agg #[.int .i64 0,.slice none 0 0],.int .i64 0,.int .i64 10]) ?_ rfl ⟨rfl,?_⟩
 ·simp [results,Tryz.f164];go_simp
 ·exact bz1 _ _
theorem Zkz (hb:BAt w (.slice a n c) bs) (hl:bs.length=n) (h:¬ n<4) (t:Nat) (ht:val (bs.take 4)=t) (h8:8192<t):Calls Tryz.prog 164 #[.slice a n c] w λ e w'=>e=.returned (.tuple #[.agg #[.int .i64 0,.slice none 0 0],.int .i64 0,.int .i64 4])/\Below w.heap.size w w':=by
 have q:decide ((n:Int)<4)=false:=by rw [decide_eq_false_iff_not]; omega
 have q2:(8192:Int)<(t:Int):=by omega
 obtain ⟨W,hW⟩:∃ W,w.alloc (.cells #[.int .i64 0,.slice none 0 0] 228)=W:=⟨_,rfl⟩
 have B0:Below w.heap.size w W:=by rw [<- hW]; exact bz1 _ _
 have T:Box W w.heap.size 228 (.int .i64 0) (.slice none 0 0):=by rw [<- hW]; exact Box.new w _ _ _
 have hnu:=Za2 W (hb.below B0) (by omega) t ht
 have H:Hid (Below w.heap.size w W/\Box W w.heap.size 228 (.int .i64 0) (.slice none 0 0)):=⟨B0,T⟩
 clear hb hl h ht B0 T;go_enter Tryz.func164,Tryz.ntmps164;go_wp2_with fail;refine hnu.mono ?_;rintro e w1 ⟨rfl,B1⟩;obtain ⟨x0,x1⟩:=(H.out.2.below B1).cells;obtain ⟨f0,f1⟩:=(H.out.2.below B1).thaw;have HB:Hid (Below w.heap.size w w1):=H.out.1.trans (B1.mono H.out.1.size);clear B1 hnu;go_wp2;refine bodyPost_ret (v:=.tuple #[.agg #[.int .i64 0,.slice none 0 0],.int .i64 0,.int .i64 4]) ?_ rfl ⟨rfl,(ZbL HB.out (Nat.le_refl _) _ _).1⟩;simp [results,Tryz.f164];go_simp
theorem ZiA (hb:BAt w (.slice a n c) bs) (hl:bs.length=n) (h:¬ n<4) (t:Nat) (ht:val (bs.take 4)=t) (h8:¬ 8192<t) (h9:n<9+t):Calls Tryz.prog 164 #[.slice a n c] w λ e w'=>e=.returned (.tuple #[.agg #[.int .i64 0,.slice none 0 0],.int .i64 0,.int .i64 10])/\Below w.heap.size w w':=by
 have q:decide ((n:Int)<4)=false:=by rw [decide_eq_false_iff_not]; omega
 have q2:decide ((8192:Int)<(t:Int))=false:=by rw [decide_eq_false_iff_not]; omega
 have q3:decide ((n:Int)<9+(t:Int))=true:=by rw [decide_eq_true_iff]; omega
 have w1:IntKind.i64.wrap (t:Int)=(t:Int):=by rw [IntKind.wrap_i64]; omega
 obtain ⟨W,hW⟩:∃ W,w.alloc (.cells #[.int .i64 0,.slice none 0 0] 228)=W:=⟨_,rfl⟩
 have B0:Below w.heap.size w W:=by rw [<- hW]; exact bz1 _ _
 have T:Box W w.heap.size 228 (.int .i64 0) (.slice none 0 0):=by rw [<- hW]; exact Box.new w _ _ _
 have hnu:=Za2 W (hb.below B0) (by omega) t ht
 have H:Hid (Below w.heap.size w W/\Box W w.heap.size 228 (.int .i64 0) (.slice none 0 0)):=⟨B0,T⟩
 clear hb hl h ht B0 T;go_enter Tryz.func164,Tryz.ntmps164;go_wp2_with fail;refine hnu.mono ?_;rintro e w1 ⟨rfl,B1⟩;obtain ⟨x0,x1⟩:=(H.out.2.below B1).cells;obtain ⟨f0,f1⟩:=(H.out.2.below B1).thaw;have HB:Hid (Below w.heap.size w w1):=H.out.1.trans (B1.mono H.out.1.size);clear B1 hnu;go_wp2;refine bodyPost_ret (v:=.tuple #[.agg #[.int .i64 0,.slice none 0 0],.int .i64 0,.int .i64 10]) ?_ rfl ⟨rfl,(ZbL HB.out (Nat.le_refl _) _ _).1⟩;simp [results,Tryz.f164];go_simp
theorem Zl2 (hb:BAt w (.slice a n c) bs) (hl:bs.length=n) (hn:n<=140737488355328) (h:¬ n<4) (t:Nat) (ht:val (bs.take 4)=t) (h8:¬ 8192<t) (h9:¬ n<9+t) (hs:val ((bs.drop (5+t)).take 4)≠crc (bs.take (5+t))):Calls Tryz.prog 164 #[.slice a n c] w λ e w'=>e=.returned (.tuple #[.agg #[.int .i64 0,.slice none 0 0],.int .i64 0,.int .i64 11])/\Below w.heap.size w w':=by
 have q:decide ((n:Int)<4)=false:=by rw [decide_eq_false_iff_not]; omega
 have q2:decide ((8192:Int)<(t:Int))=false:=by rw [decide_eq_false_iff_not]; omega
 have q3:decide ((n:Int)<9+(t:Int))=false:=by rw [decide_eq_false_iff_not]; omega
 have ww:IntKind.i64.wrap (t:Int)=(t:Int):=by rw [IntKind.wrap_i64]; omega
 obtain ⟨W,hW⟩:∃ W,w.alloc (.cells #[.int .i64 0,.slice none 0 0] 228)=W:=⟨_,rfl⟩
 have B0:Below w.heap.size w W:=by rw [<- hW]; exact bz1 _ _
 have T:Box W w.heap.size 228 (.int .i64 0) (.slice none 0 0):=by rw [<- hW]; exact Box.new w _ _ _
 have hnu:=Za2 W (hb.below B0) (by omega) t ht
 obtain ⟨en,hen⟩:∃ en,5+t=en:=⟨_,rfl⟩
 rw [hen] at hs
 have he:(9+(t:Int) - 4)=(en:Int):=by omega
 obtain ⟨ao',c',e',hc1,hc2,hrd⟩:=hb;rw [hl] at e';cases e';obtain ⟨a2,c2,hs2,o1,o2,r2⟩:=ZbU (ao:=a) (n:=n) (c:=c) (k:=en) (by omega) (by omega);obtain ⟨a3,c3,hs3,o3,o4,r3⟩:=Zcl (ao:=a) (n:=n) (c:=c) (k:=en) (by omega) (by omega)
 have hB2:∀ u,Below w.heap.size w u->BAt u (.slice a2 (n - en) c2) (bs.drop en):=λ u hu=>⟨a2,c2,by rw [List.length_drop,hl],by rw [List.length_drop,hl]; exact o1,by omega,r2 u bs hl (hrd.below hu)⟩
 have hB3:∀ u,Below w.heap.size w u->BAt u (.slice a3 en c3) (bs.take en):=λ u hu=>⟨a3,c3,by rw [List.length_take,show min en bs.length=en by omega],by rw [List.length_take]; omega,by omega,r3 u bs (hrd.below hu)⟩
 have hd4:4<=(bs.drop en).length:=by rw [List.length_drop]; omega
 obtain ⟨cr,hcr⟩:∃ cr,crc (bs.take en)=cr:=⟨_,rfl⟩
 obtain ⟨t1,ht1⟩:∃ t1,val ((bs.drop en).take 4)=t1:=⟨_,rfl⟩
 rw [hcr,ht1] at hs
 have m0:((t1:Int) != (cr:Int))=true:=by
  rw [bne_iff_ne];intro q;exact hs (by omega)
 have H:Hid (Below w.heap.size w W/\Box W w.heap.size 228 (.int .i64 0) (.slice none 0 0)/\(∀ u,Below w.heap.size w u->BAt u (.slice a2 (n - en) c2) (bs.drop en))/\(∀ u,Below w.heap.size w u->BAt u (.slice a3 en c3) (bs.take en))/\4<=(bs.drop en).length/\val ((bs.drop en).take 4)=t1/\crc (bs.take en)=cr):=⟨B0,T,hB2,hB3,hd4,ht1,hcr⟩
 clear ht B0 T hl hrd o1 o2 o3 o4 r2 r3 hB2 hB3 hd4 hs h h9 hen hn hc1 hc2 hcr ht1;go_enter Tryz.func164,Tryz.ntmps164;go_wp2_with fail;refine hnu.mono ?_;rintro e w1 ⟨rfl,B1⟩;have HB1:Hid (Below w.heap.size w w1):=H.out.1.trans (B1.mono H.out.1.size);have BX:Hid (Box w1 w.heap.size 228 (.int .i64 0) (.slice none 0 0)):=H.out.2.1.below B1;clear B1 hnu
 have fl:([bs.take en]:List Bs).flatten=bs.take en:=by simp
 have bWd:Below w1.heap.size w1 w1.drew:=(Below.refl _ w1).drew;have bWa:Below w1.heap.size w1 (w1.alloc (.cells #[.slice a3 en c3] 39)).drew:=(bz1 w1 _).drew
 have HX:Hid (Below w1.heap.size w1 w1.drew/\Below w1.heap.size w1 (w1.alloc (.cells #[.slice a3 en c3] 39)).drew):=⟨bWd,bWa⟩
 have HX1:Hid (Below w1.heap.size w1 w1.drew):=bWd;have HX2:Hid (Below w1.heap.size w1 (w1.alloc (.cells #[.slice a3 en c3] 39)).drew):=bWa;have hnA:=Za2 w1.drew (H.out.2.2.1 w1.drew (HB1.out.trans (bWd.mono HB1.out.size))) H.out.2.2.2.2.1 _ H.out.2.2.2.2.2.1;have hnB:=Za2 (w1.alloc (.cells #[.slice a3 en c3] 39)).drew (H.out.2.2.1 _ (HB1.out.trans (bWa.mono HB1.out.size))) H.out.2.2.2.2.1 _ H.out.2.2.2.2.2.1
 have hcA:∀ w2,Below w1.heap.size w1 w2->Calls Tryz.prog 95 #[.slice (some ⟨w2.heap.size,0,none⟩) 1 1] (w2.alloc (.cells #[.slice a3 en c3] 39)) λ e w'=>e=.returned (.int .u32 (cr:Int))/\w'=w2.alloc (.cells #[.slice a3 en c3] 39) :=
  λ w2 h2=>Zcw _ (ZaB (H.out.2.2.2.1 w2 (HB1.out.trans (h2.mono HB1.out.size))) 39) (by simp) cr (by rw [fl]; exact H.out.2.2.2.2.2.2)
 have hcB:∀ w2,Below w1.heap.size w1 w2->Below (w1.alloc (.cells #[.slice a3 en c3] 39)).drew.heap.size (w1.alloc (.cells #[.slice a3 en c3] 39)).drew w2->Calls Tryz.prog 95 #[.slice (some ⟨w1.heap.size,0,none⟩) 1 1] w2 λ e w'=>e=.returned (.int .u32 (cr:Int))/\w'=w2 :=
  λ w2 _ h3=>Zcw _ (((ZaB (H.out.2.2.2.1 w1 HB1.out) 39).below (Below.refl _ _).drew).below h3) (by simp) cr (by rw [fl]; exact H.out.2.2.2.2.2.2)
 have HA:Hid _:=And.intro hnA (And.intro hnB (And.intro hcA hcB));clear fl bWd bWa hnA hnB hcA hcB;go_wp2_with fail
 go_region_held3 (λ u=>Hid (Below w1.heap.size w1 u))
  (first | with_reducible assumption | (refine keepA ?_; with_reducible assumption) | (refine keepD ?_; with_reducible assumption) | (refine keepD (keepA ?_); with_reducible assumption))
  (first
   | (go_at_call 95; (with_reducible refine (HA.out.2.2.1 w2 B2.out).mono ?_); rintro e w3 ⟨rfl,rfl⟩)
   | (go_at_call 95; (with_reducible refine (HA.out.2.2.2 w2 B2.out B2b.out).mono ?_); rintro e w3 ⟨rfl,hw3⟩; rw [hw3]; clear hw3 w3)
   | (go_at_call 222; (with_reducible refine HA.out.1.mono ?_); rintro e w2 ⟨rfl,b2⟩; have B2:Hid (Below w1.heap.size w1 w2):=HX.out.1.trans b2; clear b2)
   | (go_at_call 222; (with_reducible refine HA.out.2.1.mono ?_); rintro e w2 ⟨rfl,b2⟩; have B2b:Hid (Below (w1.alloc (.cells #[.slice a3 en c3] 39)).drew.heap.size (w1.alloc (.cells #[.slice a3 en c3] 39)).drew w2):=b2; have B2:Hid (Below w1.heap.size w1 w2):=HX.out.2.trans (b2.mono HX.out.2.size); clear b2))
 all_goals
  have BZ:Hid (Below w1.heap.size w1 w2/\Below w1.heap.size w1 (w2.alloc (.cells #[.slice a3 en c3] 39))):=⟨B2.out,B2.out.trans ((bz1 w2 _).mono B2.out.size)⟩
  obtain ⟨x0,x1⟩:=(BX.out.below BZ.out.1).cells;obtain ⟨f0,f1⟩:=(BX.out.below BZ.out.1).thaw;have l2:w.heap.size<w2.heap.size:=(BX.out.below BZ.out.1).lt
  have ne:w.heap.size≠w2.heap.size:=by omega
  have ne':w2.heap.size≠w.heap.size:=by omega
  go_wp2;refine bodyPost_ret (v:=.tuple #[.agg #[.int .i64 0,.slice none 0 0],.int .i64 0,.int .i64 11]) ?_ rfl ⟨rfl,?_⟩
  ·simp [results,Tryz.f164];go_simp
  ·have b1:=HB1.out.trans (B2.out.mono HB1.out.size);have b2:=ZbL b1 (Nat.le_refl _) (.int .i64 0) (.slice none 0 0)
   first
    | exact b2.1.trans ((bz1 _ _).mono b2.1.size)
    | exact b2.1
theorem Zmx (hb:BAt w (.slice a n c) bs) (hl:bs.length=n) (hn:n<=140737488355328) (h:¬ n<4) (t:Nat) (ht:val (bs.take 4)=t) (h8:¬ 8192<t) (h9:¬ n<9+t) (hs:val ((bs.drop (5+t)).take 4)=crc (bs.take (5+t))):Calls Tryz.prog 164 #[.slice a n c] w λ e w'=>∃ fv,e=.returned (.tuple #[.agg #[.int .i64 ((bs.getD 4 0).toNat:Int),fv],.int .i64 ((9+t:Nat):Int),.int .i64 0])/\Hid (OwnG encB 5 w' w.heap.size fv ((bs.drop 5).take t)/\Below w.heap.size w w'):=by
 have q:decide ((n:Int)<4)=false:=by rw [decide_eq_false_iff_not]; omega
 have q2:decide ((8192:Int)<(t:Int))=false:=by rw [decide_eq_false_iff_not]; omega
 have q3:decide ((n:Int)<9+(t:Int))=false:=by rw [decide_eq_false_iff_not]; omega
 have ww:IntKind.i64.wrap (t:Int)=(t:Int):=by rw [IntKind.wrap_i64]; omega
 obtain ⟨W,hW⟩:∃ W,w.alloc (.cells #[.int .i64 0,.slice none 0 0] 228)=W:=⟨_,rfl⟩
 have B0:Below w.heap.size w W:=by rw [<- hW]; exact bz1 _ _
 have T:Box W w.heap.size 228 (.int .i64 0) (.slice none 0 0):=by rw [<- hW]; exact Box.new w _ _ _
 have hnu:=Za2 W (hb.below B0) (by omega) t ht
 obtain ⟨en,hen⟩:∃ en,5+t=en:=⟨_,rfl⟩
 rw [hen] at hs
 have he:(9+(t:Int) - 4)=(en:Int):=by omega
 obtain ⟨ao',c',e',hc1,hc2,hrd⟩:=hb;rw [hl] at e';cases e';obtain ⟨a2,c2,hs2,o1,o2,r2⟩:=ZbU (ao:=a) (n:=n) (c:=c) (k:=en) (by omega) (by omega);obtain ⟨a3,c3,hs3,o3,o4,r3⟩:=Zcl (ao:=a) (n:=n) (c:=c) (k:=en) (by omega) (by omega)
 have hB2:∀ u,Below w.heap.size w u->BAt u (.slice a2 (n - en) c2) (bs.drop en):=λ u hu=>⟨a2,c2,by rw [List.length_drop,hl],by rw [List.length_drop,hl]; exact o1,by omega,r2 u bs hl (hrd.below hu)⟩
 have hB3:∀ u,Below w.heap.size w u->BAt u (.slice a3 en c3) (bs.take en):=λ u hu=>⟨a3,c3,by rw [List.length_take,show min en bs.length=en by omega],by rw [List.length_take]; omega,by omega,r3 u bs (hrd.below hu)⟩
 have hd4:4<=(bs.drop en).length:=by rw [List.length_drop]; omega
 obtain ⟨cr,hcr⟩:∃ cr,crc (bs.take en)=cr:=⟨_,rfl⟩
 rw [hcr] at hs;obtain ⟨a4,c4,hs4',o5,o6,r4⟩:=ZjJ (ao:=a) (n:=n) (c:=c) (i:=5) (j:=en) (by omega) (by omega) (by omega)
 have e5:en - 5=t:=by omega
 rw [e5] at hs4' o5 r4;have hs4:∀ w,(Instr.slice 39 (.slice a n c) (some (.int .i64 5)) (some (.int .i64 (en:Int))) none).run Tryz.prog w=.ok (.slice a4 t c4) w:=hs4'
 have lt4:((bs.drop 5).take t).length=t:=by rw [List.length_take,List.length_drop]; omega
 have hB4:∀ u,Below w.heap.size w u->BAt u (.slice a4 t c4) ((bs.drop 5).take t):=λ u hu=>⟨a4,c4,by rw [lt4],by rw [lt4]; exact o5,by omega,r4 u bs hl (hrd.below hu)⟩
 obtain ⟨y,hy⟩:∃ y,bs.getD 4 0=y:=⟨_,rfl⟩
 have hy4:bs[4]? = some y:=by rw [<- hy]; simp [List.getD,List.getElem?_eq_getElem (show 4<bs.length by omega)]
 obtain ⟨bb,off,rfl,hblt,hbc⟩:=hrd (by omega)
 have hc4:w.cell? ⟨bb,off+4,none⟩=some (.int .u8 (y.toNat:Int)):=by
  have:=hbc 4 y hy4 0 _ rfl;rw [show off+(4*encB.size+0)=off+4 from rfl] at this;exact this
 rw [hy]
 have HQ:Hid (w.cell? ⟨bb,off+4,none⟩=some (.int .u8 (y.toNat:Int))/\bb<w.heap.size/\(∀ u,Below w.heap.size w u->BAt u (.slice a4 t c4) ((bs.drop 5).take t))/\((bs.drop 5).take t).length=t/\5<=n):=⟨hc4,hblt,hB4,lt4,by omega⟩
 have n5:(5:Int)<=(n:Int):=by omega
 have n4:(4:Int)<(n:Int):=by omega
 have wy:IntKind.i64.wrap (y.toNat:Int)=(y.toNat:Int):=by have:=y.toNat_lt; rw [IntKind.wrap_i64]; omega
 have H:Hid (Below w.heap.size w W/\Box W w.heap.size 228 (.int .i64 0) (.slice none 0 0)/\(∀ u,Below w.heap.size w u->BAt u (.slice a2 (n - en) c2) (bs.drop en))/\(∀ u,Below w.heap.size w u->BAt u (.slice a3 en c3) (bs.take en))/\4<=(bs.drop en).length/\val ((bs.drop en).take 4)=cr/\crc (bs.take en)=cr):=⟨B0,T,hB2,hB3,hd4,hs,hcr⟩
 clear ht B0 T hl o1 o2 o3 o4 r2 r3 hB2 hB3 hd4 hs h h9 hen hn hc1 hc2 hcr e5 hs4' o5 o6 r4 lt4 hB4 hy hy4 hbc hc4 hblt;go_enter Tryz.func164,Tryz.ntmps164;go_wp2_with fail;refine hnu.mono ?_;rintro e w1 ⟨rfl,B1⟩;have HB1:Hid (Below w.heap.size w w1):=H.out.1.trans (B1.mono H.out.1.size);have BX:Hid (Box w1 w.heap.size 228 (.int .i64 0) (.slice none 0 0)):=H.out.2.1.below B1;clear B1 hnu
 have fl:([bs.take en]:List Bs).flatten=bs.take en:=by simp
 have bWd:Below w1.heap.size w1 w1.drew:=(Below.refl _ w1).drew;have bWa:Below w1.heap.size w1 (w1.alloc (.cells #[.slice a3 en c3] 39)).drew:=(bz1 w1 _).drew
 have HX:Hid (Below w1.heap.size w1 w1.drew/\Below w1.heap.size w1 (w1.alloc (.cells #[.slice a3 en c3] 39)).drew):=⟨bWd,bWa⟩
 have HX1:Hid (Below w1.heap.size w1 w1.drew):=bWd;have HX2:Hid (Below w1.heap.size w1 (w1.alloc (.cells #[.slice a3 en c3] 39)).drew):=bWa;have hnA:=Za2 w1.drew (H.out.2.2.1 w1.drew (HB1.out.trans (bWd.mono HB1.out.size))) H.out.2.2.2.2.1 _ H.out.2.2.2.2.2.1;have hnB:=Za2 (w1.alloc (.cells #[.slice a3 en c3] 39)).drew (H.out.2.2.1 _ (HB1.out.trans (bWa.mono HB1.out.size))) H.out.2.2.2.2.1 _ H.out.2.2.2.2.2.1
 have hcA:∀ w2,Below w1.heap.size w1 w2->Calls Tryz.prog 95 #[.slice (some ⟨w2.heap.size,0,none⟩) 1 1] (w2.alloc (.cells #[.slice a3 en c3] 39)) λ e w'=>e=.returned (.int .u32 (cr:Int))/\w'=w2.alloc (.cells #[.slice a3 en c3] 39) :=
  λ w2 h2=>Zcw _ (ZaB (H.out.2.2.2.1 w2 (HB1.out.trans (h2.mono HB1.out.size))) 39) (by simp) cr (by rw [fl]; exact H.out.2.2.2.2.2.2)
 have hcB:∀ w2,Below w1.heap.size w1 w2->Below (w1.alloc (.cells #[.slice a3 en c3] 39)).drew.heap.size (w1.alloc (.cells #[.slice a3 en c3] 39)).drew w2->Calls Tryz.prog 95 #[.slice (some ⟨w1.heap.size,0,none⟩) 1 1] w2 λ e w'=>e=.returned (.int .u32 (cr:Int))/\w'=w2 :=
  λ w2 _ h3=>Zcw _ (((ZaB (H.out.2.2.2.1 w1 HB1.out) 39).below (Below.refl _ _).drew).below h3) (by simp) cr (by rw [fl]; exact H.out.2.2.2.2.2.2)
 have HA:Hid _:=And.intro hnA (And.intro hnB (And.intro hcA hcB));clear fl bWd bWa hnA hnB hcA hcB;go_wp2_with fail
 go_region_held3 (λ u=>Hid (Below w1.heap.size w1 u))
  (first | with_reducible assumption | (refine keepA ?_; with_reducible assumption) | (refine keepD ?_; with_reducible assumption) | (refine keepD (keepA ?_); with_reducible assumption))
  (first
   | (go_at_call 95; (with_reducible refine (HA.out.2.2.1 w2 B2.out).mono ?_); rintro e w3 ⟨rfl,rfl⟩)
   | (go_at_call 95; (with_reducible refine (HA.out.2.2.2 w2 B2.out B2b.out).mono ?_); rintro e w3 ⟨rfl,hw3⟩; rw [hw3]; clear hw3 w3)
   | (go_at_call 222; (with_reducible refine HA.out.1.mono ?_); rintro e w2 ⟨rfl,b2⟩; have B2:Hid (Below w1.heap.size w1 w2):=HX.out.1.trans b2; clear b2)
   | (go_at_call 222; (with_reducible refine HA.out.2.1.mono ?_); rintro e w2 ⟨rfl,b2⟩; have B2b:Hid (Below (w1.alloc (.cells #[.slice a3 en c3] 39)).drew.heap.size (w1.alloc (.cells #[.slice a3 en c3] 39)).drew w2):=b2; have B2:Hid (Below w1.heap.size w1 w2):=HX.out.2.trans (b2.mono HX.out.2.size); clear b2))
 all_goals
  first
   | (obtain ⟨w5,hw5⟩:∃ w5,w2.alloc (.cells #[.slice a3 en c3] 39)=w5:=⟨_,rfl⟩
      have B5:Hid (Below w.heap.size w w5/\Box w5 w.heap.size 228 (.int .i64 0) (.slice none 0 0)):=by
        have b:=B2.out.trans ((bz1 w2 (.cells #[.slice a3 en c3] 39)).mono B2.out.size);rw [hw5] at b;exact ⟨HB1.out.trans (b.mono HB1.out.size),BX.out.below b⟩
      rw [hw5]
      clear hw5)
   | (obtain ⟨w5,hw5⟩:∃ w5,w5=w2:=⟨_,rfl⟩
      have B5:Hid (Below w.heap.size w w5/\Box w5 w.heap.size 228 (.int .i64 0) (.slice none 0 0)):=by
        rw [hw5];exact ⟨HB1.out.trans (B2.out.mono HB1.out.size),BX.out.below B2.out⟩
      rw [<- hw5]
      clear hw5)
  have c5:w5.cell? ⟨bb,off+4,none⟩=some (.int .u8 (y.toNat:Int)):=(B5.out.1.cell (p:=⟨bb,off+4,none⟩) HQ.out.2.1).trans HQ.out.1;have hcl:=Zb5 w5.drew (HQ.out.2.2.1 _ B5.out.1.drew) (by rw [HQ.out.2.2.2.1]; omega)
  have nb:bb≠w.heap.size:=by have:=HQ.out.2.1; omega
  have nb':w.heap.size≠bb:=by have:=HQ.out.2.1; omega
  obtain ⟨x0,x1⟩:=B5.out.2.cells;obtain ⟨f0,f1⟩:=B5.out.2.thaw;go_wp2_with fail
  go_region_with
   (first | (go_at_call 133; (with_reducible refine hcl.mono ?_); rintro e w6 ⟨v6,rfl,O6,B6d⟩; obtain ⟨a6,c6v,e6,_,_,_,_⟩:=OwnG.form O6; rw [HQ.out.2.2.2.1] at e6; subst e6; have B6:Below w5.heap.size w5 w6:=Zag B6d; obtain ⟨z0,z1⟩:=(B5.out.2.below B6).cells; obtain ⟨g0,g1⟩:=(B5.out.2.below B6).thaw; have c6:=((B5.out.1.trans (B6.mono B5.out.1.size)).cell (p:=⟨bb,off+4,none⟩) HQ.out.2.1).trans HQ.out.1; have HB6:Hid (OwnG encB 5 w6 w5.heap.size (.slice a6 t c6v) ((bs.drop 5).take t)/\Below w.heap.size w w6/\w.heap.size<w5.heap.size/\Below w.heap.size w w5):=⟨O6,B5.out.1.trans (B6.mono B5.out.1.size),B5.out.2.lt,B5.out.1⟩; clear O6 B6d B6))
  all_goals
   go_wp2;refine bodyPost_ret (v:=.tuple #[.agg #[.int .i64 (y.toNat:Int),.slice a6 t c6v],.int .i64 (9+(t:Int)),.int .i64 0]) ?_ rfl ⟨.slice a6 t c6v,rfl,?_⟩
   ·simp [results,Tryz.f164];go_simp
   ·have b6:=ZbL HB6.out.2.1 (Nat.le_refl _) (.int .i64 (y.toNat:Int)) (.slice a6 t c6v);exact ⟨(HB6.out.1.stays b6.2 (λ g hg q=>by have:=(HB6.out.1.lt g hg).1; have:=HB6.out.2.2.1; have q':g=w.heap.size:=q; omega)).low HB6.out.2.2.2.size,b6.1⟩
theorem Zmc (hb:BAt w (.slice a n c) bs) (hl:bs.length=n) (hn:n<=140737488355328):Calls Tryz.prog 164 #[.slice a n c] w λ e w'=>∃ fv,e=.returned (.tuple #[.agg #[.int .i64 (fopen bs).1.1,fv],.int .i64 ((fopen bs).2.1:Int),.int .i64 (fopen bs).2.2])/\Hid (OwnG encB 5 w' w.heap.size fv (fopen bs).1.2/\Below w.heap.size w w'):=by
 unfold fopen;by_cases h:bs.length<4
 ·rw [if_pos h];refine (ZlR (by omega)).mono ?_;rintro e w' ⟨rfl,hb⟩;exact ⟨_,rfl,OwnG.nil _ _ _ _,hb⟩
 ·rw [if_neg h];by_cases h8:8192<val (bs.take 4)
  ·rw [if_pos h8];refine (Zkz hb hl (by omega) _ rfl h8).mono ?_;rintro e w' ⟨rfl,hb⟩;exact ⟨_,rfl,OwnG.nil _ _ _ _,hb⟩
  ·rw [if_neg h8];by_cases h9:bs.length<9+val (bs.take 4)
   ·rw [if_pos h9];refine (ZiA hb hl (by omega) _ rfl h8 (by omega)).mono ?_;rintro e w' ⟨rfl,hb⟩;exact ⟨_,rfl,OwnG.nil _ _ _ _,hb⟩
   ·rw [if_neg h9];by_cases hs:val ((bs.drop (5+val (bs.take 4))).take 4)=crc (bs.take (5+val (bs.take 4)))
    ·rw [if_neg (by simpa using hs)];exact Zmx hb hl hn (by omega) _ rfl h8 (by omega) hs
    ·rw [if_pos hs];refine (Zl2 hb hl hn (by omega) _ rfl h8 (by omega) hs).mono ?_;rintro e w' ⟨rfl,hb⟩;exact ⟨_,rfl,OwnG.nil _ _ _ _,hb⟩
end
section
variable {w:World} {s:ByteArray} {n:Nat}
theorem Zkv (hz:s.size=n) (h:n<4):Calls Tryz.prog 171 #[.string s] w λ e w'=>e=.returned (.tuple #[.agg #[.int .i64 0,tx []],.int .i64 0,.int .i64 10])/\Below w.heap.size w w':=by
 have q:(n:Int)<4:=by omega
 go_enter Tryz.func171,Tryz.ntmps171;go_wp2;refine bodyPost_ret (v:=.tuple #[.agg #[.int .i64 0,tx []],.int .i64 0,.int .i64 10]) ?_ rfl ⟨rfl,?_⟩
 ·simp [results,Tryz.f171];go_simp
 ·exact bz1 _ _
theorem Zir (hz:s.size=n) (h:¬ n<4) (t:Nat) (ht:val ((s.extract 0 4).data.toList)=t) (h8:8192<t):Calls Tryz.prog 171 #[.string s] w λ e w'=>e=.returned (.tuple #[.agg #[.int .i64 0,tx []],.int .i64 0,.int .i64 4])/\Below w.heap.size w w':=by
 have q:decide ((n:Int)<4)=false:=by rw [decide_eq_false_iff_not]; omega
 have n4:(4:Int)<=(n:Int):=by omega
 have q2:(8192:Int)<(t:Int):=by omega
 obtain ⟨W,hW⟩:∃ W,w.alloc (.cells #[.int .i64 0,.string ⟨#[]⟩] 214)=W:=⟨_,rfl⟩
 have B0:Below w.heap.size w W:=by rw [<- hW]; exact bz1 _ _
 have T:Box W w.heap.size 214 (.int .i64 0) (.string ⟨#[]⟩):=by rw [<- hW]; exact Box.new w _ _ _
 have hva:=ZaH (s.extract 0 4) (by rw [ByteArray.size_extract]; omega) W;rw [ht] at hva
 obtain ⟨p,hp⟩:∃ p,s.extract 0 4=p:=⟨_,rfl⟩
 rw [hp] at hva
 have HB:Hid (Below w.heap.size w W/\Box W w.heap.size 214 (.int .i64 0) (.string ⟨#[]⟩)):=⟨B0,T⟩
 obtain ⟨x0,x1⟩:=T.cells;obtain ⟨f0,f1⟩:=T.thaw;clear ht h B0 T;go_enter Tryz.func171,Tryz.ntmps171;go_wp2_with fail;refine hva.mono ?_;rintro e w1 ⟨rfl,hw1⟩;rw [hw1];clear hw1 w1 hva;go_wp2;refine bodyPost_ret (v:=.tuple #[.agg #[.int .i64 0,tx []],.int .i64 0,.int .i64 4]) ?_ rfl ⟨rfl,(ZbL HB.out.1 (Nat.le_refl _) _ _).1⟩;simp [results,Tryz.f171];go_simp
theorem Zgg (hz:s.size=n) (h:¬ n<4) (t:Nat) (ht:val ((s.extract 0 4).data.toList)=t) (h8:¬ 8192<t) (h9:n<9+t):Calls Tryz.prog 171 #[.string s] w λ e w'=>e=.returned (.tuple #[.agg #[.int .i64 0,tx []],.int .i64 0,.int .i64 10])/\Below w.heap.size w w':=by
 have q:decide ((n:Int)<4)=false:=by rw [decide_eq_false_iff_not]; omega
 have n4:(4:Int)<=(n:Int):=by omega
 have q2:decide ((8192:Int)<(t:Int))=false:=by rw [decide_eq_false_iff_not]; omega
 have ww:IntKind.i64.wrap (t:Int)=(t:Int):=by rw [IntKind.wrap_i64]; omega
 obtain ⟨en,hen⟩:∃ en,5+t=en:=⟨_,rfl⟩
 have he:(5+(t:Int))=(en:Int):=by omega
 have en8:en<=8197:=by omega
 have q3:decide ((n:Int)<(en:Int)+4)=true:=by rw [decide_eq_true_iff]; omega
 obtain ⟨W,hW⟩:∃ W,w.alloc (.cells #[.int .i64 0,.string ⟨#[]⟩] 214)=W:=⟨_,rfl⟩
 have B0:Below w.heap.size w W:=by rw [<- hW]; exact bz1 _ _
 have T:Box W w.heap.size 214 (.int .i64 0) (.string ⟨#[]⟩):=by rw [<- hW]; exact Box.new w _ _ _
 have hva:=ZaH (s.extract 0 4) (by rw [ByteArray.size_extract]; omega) W;rw [ht] at hva
 obtain ⟨p,hp⟩:∃ p,s.extract 0 4=p:=⟨_,rfl⟩
 rw [hp] at hva
 have HB:Hid (Below w.heap.size w W/\Box W w.heap.size 214 (.int .i64 0) (.string ⟨#[]⟩)):=⟨B0,T⟩
 obtain ⟨x0,x1⟩:=T.cells;obtain ⟨f0,f1⟩:=T.thaw;clear ht h B0 T;go_enter Tryz.func171,Tryz.ntmps171;go_wp2_with fail;refine hva.mono ?_;rintro e w1 ⟨rfl,hw1⟩;rw [hw1];clear hw1 w1 hva;go_wp2;refine bodyPost_ret (v:=.tuple #[.agg #[.int .i64 0,tx []],.int .i64 0,.int .i64 10]) ?_ rfl ⟨rfl,(ZbL HB.out.1 (Nat.le_refl _) _ _).1⟩;simp [results,Tryz.f171];go_simp
theorem Zju (hz:s.size=n) (h:¬ n<4) (t:Nat) (ht:val ((s.extract 0 4).data.toList)=t) (h8:¬ 8192<t) (h9:¬ n<9+t) (hs:val ((s.extract (5+t) (5+t+4)).data.toList)≠crc ((s.extract 0 (5+t)).data.toList)):Calls Tryz.prog 171 #[.string s] w λ e w'=>e=.returned (.tuple #[.agg #[.int .i64 0,tx []],.int .i64 0,.int .i64 11])/\Below w.heap.size w w':=by
 have q:decide ((n:Int)<4)=false:=by rw [decide_eq_false_iff_not]; omega
 have n4:(4:Int)<=(n:Int):=by omega
 have q2:decide ((8192:Int)<(t:Int))=false:=by rw [decide_eq_false_iff_not]; omega
 have ww:IntKind.i64.wrap (t:Int)=(t:Int):=by rw [IntKind.wrap_i64]; omega
 obtain ⟨en,hen⟩:∃ en,5+t=en:=⟨_,rfl⟩
 have he:(5+(t:Int))=(en:Int):=by omega
 have en8:en<=8197:=by omega
 have q3:decide ((n:Int)<(en:Int)+4)=false:=by rw [decide_eq_false_iff_not]; omega
 have en4:(en:Int)+4<=(n:Int):=by omega
 have en0:(en:Int)<=(n:Int):=by omega
 have en1:(0:Int)<=(en:Int):=by omega
 have tn:((en:Int)+4).toNat=en+4:=by omega
 have en2:(en:Int)<=(en:Int)+4:=by omega
 have en3:IntKind.i64.wrap ((en:Int)+4)=(en:Int)+4:=by rw [IntKind.wrap_i64]; omega
 obtain ⟨p1,hp1⟩:∃ p1,s.extract en (en+4)=p1:=⟨_,rfl⟩
 obtain ⟨p2,hp2⟩:∃ p2,s.extract 0 en=p2:=⟨_,rfl⟩
 obtain ⟨cr,hcr⟩:∃ cr,crc p2.data.toList=cr:=⟨_,rfl⟩
 obtain ⟨W,hW⟩:∃ W,w.alloc (.cells #[.int .i64 0,.string ⟨#[]⟩] 214)=W:=⟨_,rfl⟩
 have B0:Below w.heap.size w W:=by rw [<- hW]; exact bz1 _ _
 have T:Box W w.heap.size 214 (.int .i64 0) (.string ⟨#[]⟩):=by rw [<- hW]; exact Box.new w _ _ _
 have hva:=ZaH (s.extract 0 4) (by rw [ByteArray.size_extract]; omega) W;rw [ht] at hva
 obtain ⟨p,hp⟩:∃ p,s.extract 0 4=p:=⟨_,rfl⟩
 rw [hp] at hva
 have HB:Hid (Below w.heap.size w W/\Box W w.heap.size 214 (.int .i64 0) (.string ⟨#[]⟩)):=⟨B0,T⟩
 obtain ⟨x0,x1⟩:=T.cells;obtain ⟨f0,f1⟩:=T.thaw;clear ht h B0 T;go_enter Tryz.func171,Tryz.ntmps171;go_wp2_with fail;refine hva.mono ?_;rintro e w1 ⟨rfl,hw1⟩;rw [hw1];clear hw1 w1 hva
 have hsp:(s.extract en (en+4)).size<=4:=by rw [ByteArray.size_extract]; omega
 rw [hp1] at hsp
 have hvv:=λ u=>ZaH p1 (Nat.le_trans hsp (by decide)) u
 obtain ⟨t1,ht1⟩:∃ t1,val p1.data.toList=t1:=⟨_,rfl⟩
 rw [ht1] at hvv
 have hpl:p2.data.toList.length=en:=by
  have e0:p2.size=en:=by rw [<- hp2,ByteArray.size_extract]; omega
  rw [<- e0]
  rfl
 obtain ⟨W4,c4,hcv',b4',s4',R4⟩:=Zbl W.drew p2.data.toList
 have hcv:(convert 9 39 (.string p2)).run Tryz.prog W.drew=.ok (.slice (some ⟨W.heap.size,0,none⟩) en c4) W4:=by
  have e1:tx p2.data.toList=Value.string p2:=by simp
  rw [e1,hpl] at hcv';exact hcv'
 have hb4:BAt W4 (.slice (some ⟨W.heap.size,0,none⟩) en c4) p2.data.toList:=by
  have:=R4.1.at R4.2.1 (R4.2.2 (by rw [hpl]; simp only [maxLen]; omega));rw [hpl] at this;exact this
 have hck:=ZcS W4 hb4;rw [hcr] at hck;have HX1:Hid (Below W.heap.size W W.drew):=(Below.refl _ W).drew;have HX2:Hid (Below W.heap.size W W4):=(Below.refl _ W).drew.trans b4'
 have wc:IntKind.u64.wrap (cr:Int)=(cr:Int):=by
  have:cr<4294967296:=by rw [<- hcr]; exact Zhj _
  rw [IntKind.wrap_u64]; omega
 rw [<- hen] at hp1 hp2;rw [hp1,hp2,ht1,hcr] at hs
 have m0:((t1:Int) != (cr:Int))=true:=by
  rw [bne_iff_ne];intro q;exact hs (by omega)
 rw [hen] at hp1 hp2;have HK:Hid (∀ u,Calls Tryz.prog 102 #[.string p1] u λ e w'=>e=.returned (.int .u64 (t1:Int))/\w'=u):=hvv;have HC:Hid (Calls Tryz.prog 97 #[.slice (some ⟨W.heap.size,0,none⟩) en c4] W4 λ e w'=>e=.returned (.int .u32 (cr:Int))/\w'=W4):=hck;clear hvv hck hcv' b4' s4' R4 hb4 hpl hsp hcr ht1 hs hen h9;go_wp2_with fail
 go_region_with
  (first
   | (go_at_call 97; (with_reducible refine HC.out.mono ?_); rintro e w3 ⟨rfl,hw3⟩; rw [hw3]; clear hw3 w3)
   | (go_at_call 102; (with_reducible refine (HK.out _).mono ?_); rintro e w3 ⟨rfl,hw3⟩; rw [hw3]; clear hw3 w3))
 all_goals
  obtain ⟨y0,y1⟩:=(HB.out.2.below HX2.out).cells;obtain ⟨g0,g1⟩:=(HB.out.2.below HX2.out).thaw;have BE:Hid (Below w.heap.size w W4):=HB.out.1.trans (HX2.out.mono HB.out.1.size);go_wp2;refine bodyPost_ret (v:=.tuple #[.agg #[.int .i64 0,tx []],.int .i64 0,.int .i64 11]) ?_ rfl ⟨rfl,(ZbL BE.out (Nat.le_refl _) _ _).1⟩;simp [results,Tryz.f171];go_simp
theorem Zlm (hz:s.size=n) (_h:¬ n<4) (t:Nat) (ht:val ((s.extract 0 4).data.toList)=t) (h8:¬ 8192<t) (h9:¬ n<9+t) (hs:val ((s.extract (5+t) (5+t+4)).data.toList)=crc ((s.extract 0 (5+t)).data.toList)) (hi4:4<s.size):Calls Tryz.prog 171 #[.string s] w λ e w'=>e=.returned (.tuple #[.agg #[.int .i64 (s[4].toNat:Int),.string (s.extract 5 (5+t))],.int .i64 ((9+t:Nat):Int),.int .i64 0])/\Below w.heap.size w w':=by
 have q:decide ((n:Int)<4)=false:=by rw [decide_eq_false_iff_not]; omega
 have n4:(4:Int)<=(n:Int):=by omega
 have q2:decide ((8192:Int)<(t:Int))=false:=by rw [decide_eq_false_iff_not]; omega
 have ww:IntKind.i64.wrap (t:Int)=(t:Int):=by rw [IntKind.wrap_i64]; omega
 obtain ⟨en,hen⟩:∃ en,5+t=en:=⟨_,rfl⟩
 have he:(5+(t:Int))=(en:Int):=by omega
 have en8:en<=8197:=by omega
 have q3:decide ((n:Int)<(en:Int)+4)=false:=by rw [decide_eq_false_iff_not]; omega
 have en4:(en:Int)+4<=(n:Int):=by omega
 have en0:(en:Int)<=(n:Int):=by omega
 have en1:(0:Int)<=(en:Int):=by omega
 have tn:((en:Int)+4).toNat=en+4:=by omega
 have en2:(en:Int)<=(en:Int)+4:=by omega
 have en3:IntKind.i64.wrap ((en:Int)+4)=(en:Int)+4:=by rw [IntKind.wrap_i64]; omega
 obtain ⟨p1,hp1⟩:∃ p1,s.extract en (en+4)=p1:=⟨_,rfl⟩
 obtain ⟨p2,hp2⟩:∃ p2,s.extract 0 en=p2:=⟨_,rfl⟩
 obtain ⟨cr,hcr⟩:∃ cr,crc p2.data.toList=cr:=⟨_,rfl⟩
 obtain ⟨y,hy⟩:∃ y,s[4]=y:=⟨_,rfl⟩
 obtain ⟨pb,hpb⟩:∃ pb,s.extract 5 en=pb:=⟨_,rfl⟩
 have i4:(4:Int)<(n:Int):=by omega
 have i5:(5:Int)<=(en:Int):=by omega
 have wy:IntKind.i64.wrap (y.toNat:Int)=(y.toNat:Int):=by have:=y.toNat_lt; rw [IntKind.wrap_i64]; omega
 rw [hen,hy,hpb]
 have e9:((9+t:Nat):Int)=(en:Int)+4:=by omega
 rw [e9];clear e9
 obtain ⟨W,hW⟩:∃ W,w.alloc (.cells #[.int .i64 0,.string ⟨#[]⟩] 214)=W:=⟨_,rfl⟩
 have B0:Below w.heap.size w W:=by rw [<- hW]; exact bz1 _ _
 have T:Box W w.heap.size 214 (.int .i64 0) (.string ⟨#[]⟩):=by rw [<- hW]; exact Box.new w _ _ _
 have hva:=ZaH (s.extract 0 4) (by rw [ByteArray.size_extract]; omega) W;rw [ht] at hva
 obtain ⟨p,hp⟩:∃ p,s.extract 0 4=p:=⟨_,rfl⟩
 rw [hp] at hva
 have HB:Hid (Below w.heap.size w W/\Box W w.heap.size 214 (.int .i64 0) (.string ⟨#[]⟩)):=⟨B0,T⟩
 obtain ⟨x0,x1⟩:=T.cells;obtain ⟨f0,f1⟩:=T.thaw;clear ht B0 T;go_enter Tryz.func171,Tryz.ntmps171;go_wp2_with fail;refine hva.mono ?_;rintro e w1 ⟨rfl,hw1⟩;rw [hw1];clear hw1 w1 hva
 have hsp:(s.extract en (en+4)).size<=4:=by rw [ByteArray.size_extract]; omega
 rw [hp1] at hsp
 have hvv:=λ u=>ZaH p1 (Nat.le_trans hsp (by decide)) u
 obtain ⟨t1,ht1⟩:∃ t1,val p1.data.toList=t1:=⟨_,rfl⟩
 rw [ht1] at hvv
 have hpl:p2.data.toList.length=en:=by
  have e0:p2.size=en:=by rw [<- hp2,ByteArray.size_extract]; omega
  rw [<- e0]
  rfl
 obtain ⟨W4,c4,hcv',b4',s4',R4⟩:=Zbl W.drew p2.data.toList
 have hcv:(convert 9 39 (.string p2)).run Tryz.prog W.drew=.ok (.slice (some ⟨W.heap.size,0,none⟩) en c4) W4:=by
  have e1:tx p2.data.toList=Value.string p2:=by simp
  rw [e1,hpl] at hcv';exact hcv'
 have hb4:BAt W4 (.slice (some ⟨W.heap.size,0,none⟩) en c4) p2.data.toList:=by
  have:=R4.1.at R4.2.1 (R4.2.2 (by rw [hpl]; simp only [maxLen]; omega));rw [hpl] at this;exact this
 have hck:=ZcS W4 hb4;rw [hcr] at hck;have HX1:Hid (Below W.heap.size W W.drew):=(Below.refl _ W).drew;have HX2:Hid (Below W.heap.size W W4):=(Below.refl _ W).drew.trans b4'
 have wc:IntKind.u64.wrap (cr:Int)=(cr:Int):=by
  have:cr<4294967296:=by rw [<- hcr]; exact Zhj _
  rw [IntKind.wrap_u64]; omega
 rw [<- hen] at hp1 hp2;rw [hp1,hp2,ht1,hcr] at hs;have hs':=hs.symm;rw [hs'] at wc hck;rw [hen] at hp1 hp2;have HK:Hid (∀ u,Calls Tryz.prog 102 #[.string p1] u λ e w'=>e=.returned (.int .u64 (t1:Int))/\w'=u):=hvv;have HC:Hid (Calls Tryz.prog 97 #[.slice (some ⟨W.heap.size,0,none⟩) en c4] W4 λ e w'=>e=.returned (.int .u32 (t1:Int))/\w'=W4):=hck;clear hvv hck hcv' hs' b4' s4' R4 hb4 hpl hsp hcr ht1 hs hen h9;go_wp2_with fail
 go_region_with
  (first
   | (go_at_call 97; (with_reducible refine HC.out.mono ?_); rintro e w3 ⟨rfl,hw3⟩; rw [hw3]; clear hw3 w3)
   | (go_at_call 102; (with_reducible refine (HK.out _).mono ?_); rintro e w3 ⟨rfl,hw3⟩; rw [hw3]; clear hw3 w3))
 all_goals
  obtain ⟨y0,y1⟩:=(HB.out.2.below HX2.out).cells;obtain ⟨g0,g1⟩:=(HB.out.2.below HX2.out).thaw;have BE:Hid (Below w.heap.size w W4):=HB.out.1.trans (HX2.out.mono HB.out.1.size);go_wp2_with fail;go_region;go_wp2;refine bodyPost_ret (v:=.tuple #[.agg #[.int .i64 (y.toNat:Int),.string pb],.int .i64 ((en:Int)+4),.int .i64 0]) ?_ rfl ⟨rfl,?_⟩
  ·simp [results,Tryz.f171];go_simp
  ·have b6:=ZbL BE.out (Nat.le_refl _) (.int .i64 (y.toNat:Int)) (.string pb);exact b6.1.drew
end
theorem ZnJ (bs:Bs) (i j:Nat):Value.string ((⟨bs.toArray⟩:ByteArray).extract i j)=tx ((bs.drop i).take (j - i)):=by
 show Value.string _=Value.string _
 congr 1
 rw [<- ZaR bs i j]
theorem ZjL (bs:Bs) (w:World):Calls Tryz.prog 171 #[tx bs] w λ e w'=>e=.returned (.tuple #[.agg #[.int .i64 (fopen bs).1.1,tx (fopen bs).1.2],.int .i64 ((fopen bs).2.1:Int),.int .i64 (fopen bs).2.2])/\Below w.heap.size w w':=by
 have hz:(⟨bs.toArray⟩:ByteArray).size=bs.length:=by show bs.toArray.size=_; simp
 have e4:((⟨bs.toArray⟩:ByteArray).extract 0 4).data.toList=bs.take 4:=by rw [ZaR]; simp
 unfold fopen;by_cases h:bs.length<4
 ·rw [if_pos h];exact Zkv hz h
 ·rw [if_neg h];by_cases h8:8192<val (bs.take 4)
  ·rw [if_pos h8];exact Zir hz h _ (by rw [e4]) h8
  ·rw [if_neg h8];by_cases h9:bs.length<9+val (bs.take 4)
   ·rw [if_pos h9];exact Zgg hz h _ (by rw [e4]) h8 h9
   ·rw [if_neg h9]
    obtain ⟨t,ht⟩:∃ t,val (bs.take 4)=t:=⟨_,rfl⟩
    rw [ht] at h8 h9 ⊢
    have e5:((⟨bs.toArray⟩:ByteArray).extract (5+t) (5+t+4)).data.toList=(bs.drop (5+t)).take 4:=by rw [ZaR,Nat.add_sub_cancel_left]
    have e6:((⟨bs.toArray⟩:ByteArray).extract 0 (5+t)).data.toList=bs.take (5+t):=by rw [ZaR]; simp
    by_cases hs:val ((bs.drop (5+t)).take 4)=crc (bs.take (5+t))
    ·rw [if_neg (by simpa using hs)]
     have hi4:4<(⟨bs.toArray⟩:ByteArray).size:=by omega
     have:=Zlm (w:=w) (s:=⟨bs.toArray⟩) hz h t (by rw [e4]; exact ht) h8 h9 (by rw [e5,e6]; exact hs) hi4;rw [ZnJ,Nat.add_sub_cancel_left] at this
     have e7:(⟨bs.toArray⟩:ByteArray)[4]=bs.getD 4 0:=by
      have h4:4<bs.length:=by omega
      simp [List.getD,List.getElem?_eq_getElem h4,ByteArray.getElem_eq_getElem_data]
     rw [e7] at this;exact this
    ·rw [if_pos hs];exact Zju hz h t (by rw [e4]; exact ht) h8 h9 (by rw [e5,e6]; exact hs)
end Go.Proofs.YtmhcpbbiokpjjaaGreat
