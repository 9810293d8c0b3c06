/-
  The reference's ReadCommit, by a contract: the commit of which the bytes are, or none. No condition but that the text is no longer than any can be.
-/
import Derived.Test.YtjlokpjflgbgdaaGreatMC16
set_option maxHeartbeats 6400000
set_option maxRecDepth 100000
namespace Go.Proofs.YtjlokpjflgbgdaaGreat
open Go.RowKit
theorem enters30:∀ args w,(callFunc 110 args).run Tryz.prog w=.ok (.enter 110 args) w:=enters_of Tryz.func110 (by kernel_rfl) rfl
section
variable {w:World} {bs:Bs} {s:ByteArray} {N:Nat}
theorem rrc_few (hN:s.size=N) (h:N<9):Calls Tryz.prog 140 #[.string s] w λ e w'=>e=.returned (.tuple #[.agg #[.int .u64 0,.slice none 0 0,.int .i64 0,.string ⟨#[]⟩],.int .i64 9])/\Below w.heap.size w w':=by
 have q:decide ((N:Int)<9)=true:=by rw [decide_eq_true_iff]; omega
 go_enter Tryz.func140,Tryz.ntmps140;go_wp2;refine bodyPost_ret (v:=.tuple #[.agg #[.int .u64 0,.slice none 0 0,.int .i64 0,.string ⟨#[]⟩],.int .i64 9]) ?_ rfl ⟨rfl,?_⟩
 ·simp [results,Tryz.f140];go_simp
 ·exact bz1 _ _
theorem rrc_bad (hN:s.size=N) (h:¬ N<9) (h8:8<s.size) (yn:Nat) (hy:s[8].toNat=yn) (hb:8<yn∨N<18+8*yn):Calls Tryz.prog 140 #[.string s] w λ e w'=>e=.returned (.tuple #[.agg #[.int .u64 0,.slice none 0 0,.int .i64 0,.string ⟨#[]⟩],.int .i64 9])/\Below w.heap.size w w':=by
 have q:decide ((N:Int)<9)=false:=by rw [decide_eq_false_iff_not]; omega
 have i8:(8:Int)<(N:Int):=by omega
 have hyl:yn<=255:=by have:=s[8].toNat_lt; omega
 have wy:IntKind.i64.wrap (yn:Int)=(yn:Int):=by rw [IntKind.wrap_i64]; omega
 by_cases hc:8<yn
 ·have q2:(8:Int)<(yn:Int):=by omega
  go_enter Tryz.func140,Tryz.ntmps140;go_wp2;refine bodyPost_ret (v:=.tuple #[.agg #[.int .u64 0,.slice none 0 0,.int .i64 0,.string ⟨#[]⟩],.int .i64 9]) ?_ rfl ⟨rfl,?_⟩
  ·simp [results,Tryz.f140];go_simp
  ·exact bz1 _ _
 ·have q2:decide ((8:Int)<(yn:Int))=false:=by rw [decide_eq_false_iff_not]; omega
  have q3:decide ((N:Int)<18+8*(yn:Int))=true:=by rw [decide_eq_true_iff]; omega
  go_enter Tryz.func140,Tryz.ntmps140;go_wp2;refine bodyPost_ret (v:=.tuple #[.agg #[.int .u64 0,.slice none 0 0,.int .i64 0,.string ⟨#[]⟩],.int .i64 9]) ?_ rfl ⟨rfl,?_⟩
  ·simp [results,Tryz.f140];go_simp
  ·exact bz1 _ _
theorem rrc_on (hs:s=⟨bs.toArray⟩) (hN:s.size=N) (hNm:N<=9223372036854775807) (h:¬ N<9) (h8:8<s.size) (yn:Nat) (hy:s[8].toNat=yn) (hc:yn<=8) (hl:18+8*yn<=N) :
  Calls Tryz.prog 140 #[.string s] w λ e w'=>∃ (c:Cm) (er:Int) (pa:Option Addr) (pc:Nat),e=.returned (.tuple #[.agg #[.int .u64 (c.tree.toNat:Int),.slice pa c.ps.length pc,.int .i64 c.date,tx c.note],.int .i64 er])/\Hid (RC bs c er/\RdG encU w' pa c.ps/\c.ps.length<=pc/\Below w.heap.size w w'/\NewRow w pa c.ps.length):=by
 have q:decide ((N:Int)<9)=false:=by rw [decide_eq_false_iff_not]; omega
 have i8:(8:Int)<(N:Int):=by omega
 have wy:IntKind.i64.wrap (yn:Int)=(yn:Int):=by rw [IntKind.wrap_i64]; omega
 have q2:decide ((8:Int)<(yn:Int))=false:=by rw [decide_eq_false_iff_not]; omega
 obtain ⟨p9,hp9⟩:∃ p9,9+8*yn=p9:=⟨_,rfl⟩
 obtain ⟨p17,hp17⟩:∃ p17,17+8*yn=p17:=⟨_,rfl⟩
 obtain ⟨p18,hp18⟩:∃ p18,18+8*yn=p18:=⟨_,rfl⟩
 have j0:IntKind.i64.wrap (8*(yn:Int))=8*(yn:Int):=by rw [IntKind.wrap_i64]; omega
 have j9:9+8*(yn:Int)=(p9:Int):=by omega
 have j17:17+8*(yn:Int)=(p17:Int):=by omega
 have j18:18+8*(yn:Int)=(p18:Int):=by omega
 have k9:IntKind.i64.wrap (p9:Int)=(p9:Int):=by rw [IntKind.wrap_i64]; omega
 have k17:IntKind.i64.wrap (p17:Int)=(p17:Int):=by rw [IntKind.wrap_i64]; omega
 have k18:IntKind.i64.wrap (p18:Int)=(p18:Int):=by rw [IntKind.wrap_i64]; omega
 have q3:decide ((N:Int)<(p18:Int))=false:=by rw [decide_eq_false_iff_not]; omega
 have e1:(0:Int)<=(p9:Int):=by omega
 have e2:(p9:Int)<=(p17:Int):=by omega
 have e3:(p17:Int)<=(N:Int):=by omega
 have e4:(0:Int)<=(p18:Int):=by omega
 have e5:(p18:Int)<=(N:Int):=by omega
 have e6:(8:Int)<=(N:Int):=by omega
 obtain ⟨t1,ht1⟩:∃ t1,s.extract 0 8=t1:=⟨_,rfl⟩
 obtain ⟨t2,ht2⟩:∃ t2,s.extract p9 p17=t2:=⟨_,rfl⟩
 obtain ⟨t3,ht3⟩:∃ t3,s.extract p18 N=t3:=⟨_,rfl⟩
 obtain ⟨v1,hv1⟩:∃ v1,val t1.data.toList=v1:=⟨_,rfl⟩
 obtain ⟨v2,hv2⟩:∃ v2,val t2.data.toList=v2:=⟨_,rfl⟩
 have ts1:t1.size<=8:=by rw [<- ht1,ByteArray.size_extract]; omega
 have ts2:t2.size<=8:=by rw [<- ht2,ByteArray.size_extract]; omega
 have tl1:t1.data.toList.length=t1.size:=rfl;have tl2:t2.data.toList.length=t2.size:=rfl
 have d1:t1.data.toList=bs.take 8:=by rw [<- ht1,hs,ext_data]; simp
 have d2:t2.data.toList=(bs.drop (9+8*yn)).take 8:=by rw [<- ht2,hs,ext_data,<- hp9,show p17 - (9+8*yn)=8 by omega]
 have hbl:bs.length=N:=by rw [<- hN,hs]; show _=bs.toArray.size; simp
 have d3:t3=⟨(bs.drop (18+8*yn)).toArray⟩:=by
  have:t3.data.toList=bs.drop (18+8*yn):=by rw [<- ht3,hs,ext_data,<- hp18,List.take_of_length_le (by rw [List.length_drop]; omega)]
  rw [<- this]
 have hv2l:v2<18446744073709551616:=by rw [<- hv2]; exact val_8 (by omega)
 have hwd:=sgn_wrap hv2l
 obtain ⟨dt,hdt⟩:∃ dt,sgn v2=dt:=⟨_,rfl⟩
 rw [hdt] at hwd
 have HV1:Hid (∀ u,Calls Tryz.prog 110 #[.string t1] u λ e w'=>e=.returned (.int .u64 (v1:Int))/\w'=u):=λ u=>rvalue_at t1 ts1 v1 hv1 u
 have HV2:Hid (∀ u,Calls Tryz.prog 110 #[.string t2] u λ e w'=>e=.returned (.int .u64 (v2:Int))/\w'=u):=λ u=>rvalue_at t2 ts2 v2 hv2 u
 have HB:Hid (s=⟨bs.toArray⟩/\bs.length=N/\(rcom bs yn).date=dt/\t3=⟨(rcom bs yn).note.toArray⟩/\((rcom bs yn).tree.toNat:Int)=(v1:Int)/\bs[8]? = some (UInt8.ofNat yn)):=by
  refine ⟨hs,hbl,?_,d3,?_,?_⟩
  ·show sgn (val ((bs.drop (9+8*yn)).take 8))=dt;rw [<- d2,hv2,hdt]
  ·show ((UInt64.ofNat (val (bs.take 8))).toNat:Int)=_;rw [<- d1,toNat_val (by omega),hv1]
  ·have h8':8<bs.length:=by omega
   rw [List.getElem?_eq_getElem h8']
   have:s[8]=bs[8]:=by subst hs; simp [ByteArray.getElem_eq_getElem_data]
   rw [<- this,<- hy];simp
 have HW0:Hid (Below w.heap.size w (w.alloc (.cells #[.int .u64 0,.slice none 0 0,.int .i64 0,.string ⟨#[]⟩] 122))):=bz1 _ _;clear hs hbl d1 d2 d3 tl1 tl2 ts1 ts2 hv1 hv2 hdt hv2l hp9 hp17 hp18 hl;go_enter Tryz.func140,Tryz.ntmps140
 go_upto_region 4 with fail
 go_cut [5] (λ cv u=>cv=.pointer (some ⟨w.heap.size+1,0,none⟩)/\Hid (Box4 u w.heap.size 122 (.int .u64 0) (.slice none 0 0) (.int .i64 0) (.string ⟨#[]⟩)/\Box4 u (w.heap.size+1) 122 (.int .u64 (v1:Int)) (.slice none 0 0) (.int .i64 dt) (.string t3)/\Below w.heap.size w u))
 case first =>
  have HW1:Hid (Below w.heap.size w (w.alloc (.cells #[.int .u64 0,.slice none 0 0,.int .i64 0,.string ⟨#[]⟩] 122)).drew):=HW0.out.drew
  go_region_held3 (λ u=>Hid (Below w.heap.size w u))
   (first | with_reducible assumption | (refine keepA ?_; with_reducible assumption) | (refine keepD ?_; with_reducible assumption) | (refine keepD (keepA ?_); with_reducible assumption))
   (first
    | (go_at_call 110; (with_reducible refine (HV1.out _).mono ?_); rintro e w3 ⟨rfl,hw3⟩; rw [hw3]; clear hw3 w3)
    | (go_at_call 110; (with_reducible refine (HV2.out _).mono ?_); rintro e w3 ⟨rfl,hw3⟩; rw [hw3]; clear hw3 w3))
  all_goals
   go_wp2_with fail;go_meet;exact ⟨rfl,two_boxes w _ _ _ _ _ _ _ _ 122 122⟩
 case rest =>
  obtain ⟨rfl,HX⟩:=hcut;go_wp2_with fail;go_loopg [6] yn (λ m iv wr=>∃ (i:Nat) (la:Option Addr) (lc:Nat),iv=.int .i64 i/\i+m=yn/\Hid (Box4 wr w.heap.size 122 (.int .u64 0) (.slice none 0 0) (.int .i64 0) (.string ⟨#[]⟩)/\Box4 wr (w.heap.size+1) 122 (.int .u64 (v1:Int)) (.slice la i lc) (.int .i64 dt) (.string t3)/\OwnG encU 55 wr (w.heap.size+2) (.slice la i lc) ((List.range i).map (rpar bs))/\Below w.heap.size w wr))
  case atStart=>exact ⟨0,none,0,rfl,by omega,HX.out.1,HX.out.2.1,OwnG.nil _ _ _ _,HX.out.2.2⟩
  case round =>
   obtain ⟨i,la,lc,rfl,hi,HR⟩:=hrel;obtain ⟨x0,x1,x2,x3⟩:=HR.out.2.1.cells;by_cases hin:i<yn
   ·have id:(i:Int)<(yn:Int):=by omega
    obtain ⟨a9,ha9⟩:∃ a9,9+8*i=a9:=⟨_,rfl⟩
    obtain ⟨a17,ha17⟩:∃ a17,17+8*i=a17:=⟨_,rfl⟩
    have l0:IntKind.i64.wrap (8*(i:Int))=8*(i:Int):=by rw [IntKind.wrap_i64]; omega
    have l9:9+8*(i:Int)=(a9:Int):=by omega
    have l17:17+8*(i:Int)=(a17:Int):=by omega
    have m9:IntKind.i64.wrap (a9:Int)=(a9:Int):=by rw [IntKind.wrap_i64]; omega
    have m17:IntKind.i64.wrap (a17:Int)=(a17:Int):=by rw [IntKind.wrap_i64]; omega
    have o1:(0:Int)<=(a9:Int):=by omega
    have o2:(a9:Int)<=(a17:Int):=by omega
    have o3:(a17:Int)<=(N:Int):=by omega
    obtain ⟨t4,ht4⟩:∃ t4,s.extract a9 a17=t4:=⟨_,rfl⟩
    obtain ⟨v4,hv4⟩:∃ v4,val t4.data.toList=v4:=⟨_,rfl⟩
    have ts4:t4.size<=8:=by rw [<- ht4,ByteArray.size_extract]; omega
    have tl4:t4.data.toList.length=t4.size:=rfl
    have d4:t4.data.toList=(bs.drop (9+8*i)).take 8:=by rw [<- ht4,HB.out.1,ext_data,<- ha9,show a17 - (9+8*i)=8 by omega]
    have HV4:Hid (Calls Tryz.prog 110 #[.string t4] wr.drew λ e w'=>e=.returned (.int .u64 (v4:Int))/\w'=wr.drew):=rvalue_at t4 ts4 v4 hv4 wr.drew
    have hx:(rpar bs i).toNat=v4:=by
     unfold rpar;rw [<- d4,toNat_val (by omega),hv4]
    have hst:(List.range (i+1)).map (rpar bs)=(List.range i).map (rpar bs)++[rpar bs i]:=by rw [List.range_succ,List.map_append]; rfl
    have hll:((List.range i).map (rpar bs)).length=i:=by simp
    have HS:Hid ((List.range (i+1)).map (rpar bs)=(List.range i).map (rpar bs)++[rpar bs i]/\((List.range i).map (rpar bs)).length=i/\((List.range i).map (rpar bs)++[rpar bs i]).length=i+1/\(rpar bs i).toNat=v4):=⟨hst,hll,by simp,hx⟩
    have HC:Hid (∀ j u,(encU.cells (rpar bs i))[j]? = some u->(wr.drew.alloc (.cells #[.int .u64 (v4:Int)] 55)).cell? ((⟨wr.heap.size,0,none⟩:Addr).add j)=some u):=by
     have:=cells_new encU wr.drew (rpar bs i) 55;rw [show (encU.cells (rpar bs i)).toArray=#[Value.int .u64 (v4:Int)] from (by show #[Value.int .u64 ((rpar bs i).toNat:Int)]=_; rw [hx])] at this;exact this
    have hO:w.heap.size+1<wr.heap.size:=HR.out.2.1.lt;have x1':=(HR.out.2.1.below (bz1 wr (.cells #[.int .u64 (v4:Int)] 55)) hO).cells.2.1;clear hst hll hx d4 ts4 tl4 hv4 ha9 ha17;go_wp2_with fail
    go_region_law
     (first
      | (refine step_val rfl (.tmp 65) 110 #[9] rfl enters30 (.string t4) (.int .u64 (v4:Int)) (by simp [Act.eval,Act.put]) HV4.out ?_)
      | (refine stepG_at encU 55 85 8 _ rfl Tryz.info55 Tryz.underlying85 rfl (.tmp 57) (.tmp 67) rfl (w.heap.size+2) (.slice la i lc) ((List.range i).map (rpar bs)) (rpar bs i) (by simp [Act.eval]) (HR.out.2.2.1.below ((Below.refl _ wr).drew.trans (bz1 wr.drew _))) wr.heap.size (by simp [Act.eval]) HC.out (by rw [HS.out.2.1]; omega) (by rw [HS.out.2.1]; simp only [maxLen]; omega) (by simp; omega) ?_; intro v5 w5 ho5 hb5 hm5 ht5; obtain ⟨a5,c5,e5,_,_,_,_⟩:=OwnG.form ho5; rw [HS.out.2.2.1] at e5; subst e5; have J5:Hid (OwnG encU 55 w5 (w.heap.size+2) (.slice a5 (i+1) c5) ((List.range i).map (rpar bs)++[rpar bs i])/\Below (w.heap.size+2) wr w5):=⟨ho5,((bz1 wr _).drew.mono (by omega)).trans hb5⟩; have z5:=(HR.out.2.1.below J5.out.2 (by omega)).cells; have g5:=(HR.out.2.1.below J5.out.2 (by omega)).thaw; obtain ⟨z0,z1,z2,z3⟩:=z5; obtain ⟨g0,g1,g2,g3⟩:=g5; clear ho5 hb5 hm5 ht5)
      | fail)
    all_goals
     have HO:Hid (∀ S:World,S=w5.setCell ⟨w.heap.size+1,1,none⟩ (.slice a5 (i+1) c5)->Box4 S w.heap.size 122 (.int .u64 0) (.slice none 0 0) (.int .i64 0) (.string ⟨#[]⟩)/\Box4 S (w.heap.size+1) 122 (.int .u64 (v1:Int)) (.slice a5 (i+1) c5) (.int .i64 dt) (.string t3)/\OwnG encU 55 S (w.heap.size+2) (.slice a5 (i+1) c5) ((List.range (i+1)).map (rpar bs))/\Below w.heap.size w S):=by
      rintro S rfl;have ht:Turned (λ k=>k=w.heap.size+1) w5 (w5.setCell ⟨w.heap.size+1,1,none⟩ (.slice a5 (i+1) c5)):=turned_set 1 _;refine ⟨(HR.out.1.below J5.out.2 (by omega)).turned ht (by omega),(HR.out.2.1.below J5.out.2 (by omega)).put1 _,?_,?_⟩
      ·rw [HS.out.1];exact J5.out.1.stays ht (λ g hg q=>by have:=(J5.out.1.lt g hg).1; have q':g=w.heap.size+1:=q; omega)
      ·have b1:Below w.heap.size w w5:=HR.out.2.2.2.trans (J5.out.2.mono (by omega));exact b1.trans (ht.below b1.size (λ k hk q=>by have q':k=w.heap.size+1:=q; omega))
     go_wp2;go_roundg (gk - 1)
     case measure=>omega
     case rel=>exact ⟨i+1,a5,c5,by go_num,by omega,HO.out _ rfl⟩
   ·obtain rfl:i=yn:=by omega
    obtain ⟨f0,f1,f2,f3⟩:=HR.out.1.thaw;obtain ⟨q0,q1,q2',q3'⟩:=HR.out.1.cells;obtain ⟨hrr,hlc⟩:=HR.out.2.2.1.rdc
    have hpl:(rcom bs i).ps.length=i:=by simp [rcom]
    have hwr:=rwrite_any (c:=rcom bs i) (pc:=lc) hrr hpl t3 HB.out.2.2.2.1 dt HB.out.2.2.1;rw [HB.out.2.2.2.2.1] at hwr
    obtain ⟨fe,hfe⟩:∃ fe,(fcom (rcom bs i)).2=fe:=⟨_,rfl⟩
    obtain ⟨fb,hfb⟩:∃ fb:ByteArray,fb=⟨(fcom (rcom bs i)).1.toArray⟩:=⟨_,rfl⟩
    rw [show tx (fcom (rcom bs i)).1=.string fb by rw [hfb],hfe] at hwr
    have HF:Hid ((fcom (rcom bs i)).2=fe/\fb=⟨(fcom (rcom bs i)).1.toArray⟩/\(rcom bs i).ps.length=i/\i<=lc):=⟨hfe,hfb,hpl,hlc⟩
    clear hfe hfb hpl hlc hrr;by_cases hf0:fe=0
    ·subst hf0;by_cases hfs:fb=s
     ·subst hfs;go_wp2_with fail;refine hwr.mono ?_;rintro e w6 ⟨rfl,hb6⟩;have B6:Hid (Below wr.heap.size wr w6):=hb6;clear hb6 x0 x1 x2 x3 q0 q1 q2' q3' f0 f1 f2 f3 hwr;obtain ⟨x0,x1,x2,x3⟩:=(HR.out.2.1.below B6.out HR.out.2.1.lt).cells;obtain ⟨q0,q1,q2',q3'⟩:=(HR.out.1.below B6.out HR.out.1.lt).cells;obtain ⟨f0,f1,f2,f3⟩:=(HR.out.1.below B6.out HR.out.1.lt).thaw;go_wp2;refine bodyPost_ret (v:=.tuple #[.agg #[.int .u64 (v1:Int),.slice la i lc,.int .i64 dt,.string t3],.int .i64 0]) ?_ rfl ?_
      ·simp [results,Tryz.f140];go_simp
      ·have ht:=lay_four w6 w.heap.size (.int .u64 (v1:Int)) (.slice la i lc) (.int .i64 dt) (.string t3);have bel:Below w.heap.size w w6:=HR.out.2.2.2.trans (B6.out.mono HR.out.2.2.2.size);have hrow:=(HR.out.2.2.1.below B6.out).stays ht (λ g hg q=>by have:=(HR.out.2.2.1.lt g hg).1; have q':g=w.heap.size:=q; omega)
       have hg:RC bs (rcom bs i) 0:=rc_ref (by
        have e1:(fcom (rcom bs i)).1=bs:=by
         have:=HF.out.2.1;rw [HB.out.1] at this;have h2:=congrArg (λ b:ByteArray=>b.data.toList) this;simpa using h2.symm
        exact Prod.ext e1 HF.out.1)
       refine ⟨rcom bs i,0,la,lc,?_,hg,hrow.rdc.1,by rw [HF.out.2.2.1]; exact HF.out.2.2.2,bel.trans (ht.below bel.size (λ k hk q=>by have q':k=w.heap.size:=q; omega)),by rw [HF.out.2.2.1]; exact hrow.newRow (by omega)⟩;rw [HB.out.2.2.2.2.1,HF.out.2.2.1,HB.out.2.2.1,HB.out.2.2.2.1]
     ·have m2:(fb.toList==s.toList)=false:=by
       rw [beq_eq_false_iff_ne];intro e;apply hfs;rw [ByteArray.toList_eq,ByteArray.toList_eq] at e;have:=congrArg List.toArray e;apply ByteArray.ext;simpa using this
      have m3:(fb.toList != s.toList)=true:=by rw [bne,m2]; rfl
      go_wp2_with fail;refine hwr.mono ?_;rintro e w6 ⟨rfl,hb6⟩;have B6:Hid (Below wr.heap.size wr w6):=hb6;clear hb6 x0 x1 x2 x3 q0 q1 q2' q3' f0 f1 f2 f3 hwr;obtain ⟨q0,q1,q2',q3'⟩:=(HR.out.1.below B6.out HR.out.1.lt).cells;obtain ⟨f0,f1,f2,f3⟩:=(HR.out.1.below B6.out HR.out.1.lt).thaw;go_wp2;refine bodyPost_ret (v:=.tuple #[.agg #[.int .u64 0,.slice none 0 0,.int .i64 0,.string ⟨#[]⟩],.int .i64 9]) ?_ rfl ?_
      ·simp [results,Tryz.f140];go_simp
      ·have ht:=lay_four w6 w.heap.size (.int .u64 0) (.slice none 0 0) (.int .i64 0) (.string ⟨#[]⟩);have bel:Below w.heap.size w w6:=HR.out.2.2.2.trans (B6.out.mono HR.out.2.2.2.size);have hg:RC bs zcm 9:=rc_ref_bad HB.out.2.2.2.2.2 hc (λ e=>hfs (by rw [HF.out.2.1,e,HB.out.1]));exact ⟨zcm,9,none,0,rfl,hg,RdG.nil _ _ _,Nat.le_refl _,bel.trans (ht.below bel.size (λ k hk q=>by have q':k=w.heap.size:=q; omega)),NewRow.none _ _⟩
    ·have m0:(fe==0)=false:=by simpa using hf0
     have m1:(fe != 0)=true:=by simpa using hf0
     go_wp2_with fail;refine hwr.mono ?_;rintro e w6 ⟨rfl,hb6⟩;have B6:Hid (Below wr.heap.size wr w6):=hb6;clear hb6 x0 x1 x2 x3 q0 q1 q2' q3' f0 f1 f2 f3 hwr;obtain ⟨q0,q1,q2',q3'⟩:=(HR.out.1.below B6.out HR.out.1.lt).cells;obtain ⟨f0,f1,f2,f3⟩:=(HR.out.1.below B6.out HR.out.1.lt).thaw;go_wp2;refine bodyPost_ret (v:=.tuple #[.agg #[.int .u64 0,.slice none 0 0,.int .i64 0,.string ⟨#[]⟩],.int .i64 9]) ?_ rfl ?_
     ·simp [results,Tryz.f140];go_simp
     ·have ht:=lay_four w6 w.heap.size (.int .u64 0) (.slice none 0 0) (.int .i64 0) (.string ⟨#[]⟩);have bel:Below w.heap.size w w6:=HR.out.2.2.2.trans (B6.out.mono HR.out.2.2.2.size);have hg:RC bs zcm 9:=rc_ref_bad HB.out.2.2.2.2.2 hc (λ e=>hf0 (by rw [<- HF.out.1,e]));exact ⟨zcm,9,none,0,rfl,hg,RdG.nil _ _ _,Nat.le_refl _,bel.trans (ht.below bel.size (λ k hk q=>by have q':k=w.heap.size:=q; omega)),NewRow.none _ _⟩
theorem rreadCom_any (bs:Bs) (hn:bs.length<=9223372036854775807) (w:World) :
  Calls Tryz.prog 140 #[tx bs] w λ e w'=>∃ (c:Cm) (er:Int) (pa:Option Addr) (pc:Nat),e=.returned (.tuple #[.agg #[.int .u64 (c.tree.toNat:Int),.slice pa c.ps.length pc,.int .i64 c.date,tx c.note],.int .i64 er])/\Hid (RC bs c er/\RdG encU w' pa c.ps/\c.ps.length<=pc/\Below w.heap.size w w'/\NewRow w pa c.ps.length):=by
 have hz:(⟨bs.toArray⟩:ByteArray).size=bs.length:=by show bs.toArray.size=_; simp
 by_cases h:bs.length<9
 ·refine (rrc_few hz h).mono ?_;rintro e w' ⟨rfl,hb⟩;exact ⟨zcm,9,none,0,rfl,rc_ref_short (.inl h),RdG.nil _ _ _,Nat.le_refl _,hb,NewRow.none _ _⟩
 ·have h8:8<(⟨bs.toArray⟩:ByteArray).size:=by omega
  obtain ⟨yn,hy⟩:∃ yn,(⟨bs.toArray⟩:ByteArray)[8].toNat=yn:=⟨_,rfl⟩
  have hyl:yn<=255:=by have:=(⟨bs.toArray⟩:ByteArray)[8].toNat_lt; omega
  by_cases hb:8<yn∨bs.length<18+8*yn
  ·refine (rrc_bad hz h h8 yn hy hb).mono ?_;rintro e w' ⟨rfl,hb'⟩;refine ⟨zcm,9,none,0,rfl,rc_ref_short (.inr ⟨yn,?_,hyl,hb⟩),RdG.nil _ _ _,Nat.le_refl _,hb',NewRow.none _ _⟩
   have h8':8<bs.length:=by omega
   rw [List.getElem?_eq_getElem h8',<- hy];simp [ByteArray.getElem_eq_getElem_data]
  ·exact rrc_on rfl hz hn h h8 yn hy (by omega) (by omega)
end
end Go.Proofs.YtjlokpjflgbgdaaGreat
