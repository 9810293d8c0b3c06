/-
  The reference's Fits, of a ref and of a tag, by a contract over the document's store. No condition but that lists are no longer than any memory holds.
-/
import Derived.Test.YtjlokpjflgbgdaaGreatMC20
set_option maxHeartbeats 6400000
set_option maxRecDepth 100000
namespace Go.Proofs.YtjlokpjflgbgdaaGreat
open Go.RowKit
theorem rfits_ref {Z:Nat->Prop} {w:World} {st:St} {d:Dk} {fa oa ra ta:Option Addr} {fl fc on oc rn rc tn tc:Nat} (hZ:∀ i,Z i->i<w.heap.size) (h1:LG encF Z w fa fl fc d.files) (h2:LG encO Z w oa on oc st.objs) (h3:LG encN Z w ra rn rc st.refs) (h4:LG encN Z w ta tn tc st.tags) (hsz:st.size<=1000000) (body:Bs) (hbl:body.length<=1000000) :
  Calls Tryz.prog 119 #[rm d (.slice fa fl fc) (.slice oa on oc) (.slice ra rn rc) (.slice ta tn tc),.agg #[.int .i64 4,tx body]] w λ e w'=>∃ m',e=.returned (.tuple #[m',.bool (st.fits (4,body))])/\Hid (RMS Z w' m' (if st.fits (4,body) then st.take (4,body) else st) d/\Below w.heap.size w w'):=by
 have hq:st.objs.length<=1000000/\st.refs.length<=1000000/\st.tags.length<=1000000:=by unfold St.size at hsz; omega
 have ho:on<=1000000:=by rw [<- h2.len]; exact hq.1
 have hrl:rn<=1000000:=by rw [<- h3.len]; exact hq.2.1
 have htl:tn<=1000000:=by rw [<- h4.len]; exact hq.2.2
 obtain ⟨s,hs⟩:∃ s:ByteArray,s=⟨body.toArray⟩:=⟨_,rfl⟩
 have hss:s.size=body.length:=by rw [hs]; show body.toArray.size=_; simp
 obtain ⟨g,hg⟩:∃ g,st.fits (4,body)=g:=⟨_,rfl⟩
 obtain ⟨st',hst'⟩:∃ st',(if st.fits (4,body) then st.take (4,body) else st)=st':=⟨_,rfl⟩
 rw [hst',hg,show tx body=.string s by rw [hs]]
 obtain ⟨W,hW⟩:∃ W,((w.alloc (nineC d (.slice fa fl fc) (.slice oa on oc) (.slice ra rn rc) (.slice ta tn tc))).alloc (.cells #[.int .i64 4,.string s] 223)).alloc (.cells #[.slice none 0 0,.int .i64 0,.bool false,.bool false,.int .i64 0,.int .i64 0,.slice none 0 0,.slice none 0 0,.slice none 0 0] 32)=W:=⟨_,rfl⟩
 have P0:Hid (Tri w W d (.slice fa fl fc) (.slice oa on oc) (.slice ra rn rc) (.slice ta tn tc) 4 s):=by rw [<- hW]; exact Tri.new w d _ _ _ _ _ _
 have zx:∀ i,i<w.heap.size->Zx Z w i->Z i:=λ i hi q=>q.elim (λ q=>q) (λ q=>by omega)
 have L:Hid (LG encF (Zx Z w) w fa fl fc d.files/\LG encO (Zx Z w) w oa on oc st.objs/\LG encN (Zx Z w) w ra rn rc st.refs/\LG encN (Zx Z w) w ta tn tc st.tags):=⟨h1.into zx,h2.into zx,h3.into zx,h4.into zx⟩
 have RB:Hid (∀ W',Below w.heap.size w W'->RMS (Zx Z w) W' (rm d (.slice fa fl fc) (.slice oa on oc) (.slice ra rn rc) (.slice ta tn tc)) st d):=λ W' b=>⟨fa,fl,fc,oa,on,oc,ra,rn,rc,ta,tn,tc,rfl,L.out.1.below b,L.out.2.1.below b,L.out.2.2.1.below b,L.out.2.2.2.below b⟩
 have HZ:Hid (∀ i,Zx Z w i->i<w.heap.size+3):=λ i q=>q.elim (λ q=>by have:=hZ i q; omega) (λ q=>q.2)
 have HS:Hid (s=⟨body.toArray⟩/\(if st.fits (4,body) then st.take (4,body) else st)=st'/\st.fits (4,body)=g/\s.size=body.length):=⟨hs,hst',hg,hss⟩
 have ok9:¬ 9223372036854775807<s.size:=by omega
 have falls:g=false->st'=st:=λ q=>by rw [<- HS.out.2.1,HS.out.2.2.1,q]; rfl
 have fall:g=true->st'=st.take (4,body):=λ q=>by rw [<- HS.out.2.1,HS.out.2.2.1,q]; rfl
 obtain ⟨x0,x1,x2,x3,x4,x5,x6,x7,x8⟩:=P0.out.box.cells;obtain ⟨y0,y1⟩:=P0.out.fr.cells;obtain ⟨z0,z1,z2,z3,z4,z5,z6,z7,z8⟩:=P0.out.res.cells;have gz:=P0.out.res.thaw;have g0:=gz 0;have g1:=gz 1;have g2:=gz 2;have g3:=gz 3;have g4:=gz 4;have g5:=gz 5;have g6:=gz 6;have g7:=gz 7;have g8:=gz 8;have l2:=P0.out.res.lt;clear gz;have hf:=HS.out.2.2.1;unfold St.fits at hf;rw [if_pos (by simp)] at hf;simp only at hf;by_cases h8:body.length<8
 ·have t8:(s.size:Int)<8:=by omega
  have t8n:s.size<8:=by omega
  have eg:g=false:=by rw [<- hf,show decide (8<=body.length)=false by simp; omega]; rfl
  have es:=falls eg;subst eg es;clear h1 h2 h3 h4 hq hf hs hg hst' zx falls fall hss;go_enter Tryz.func119,Tryz.ntmps119;go_wp2;refine bodyPost_ret (v:=.tuple #[rm d (.slice fa fl fc) (.slice oa on oc) (.slice ra rn rc) (.slice ta tn tc),.bool false]) ?_ rfl ⟨_,rfl,?_⟩
  ·simp [results,Tryz.f119];go_simp
  ·exact fits_close P0.out.bel (RB.out _ P0.out.bel) (lay_nine _ _ _ _ _ _ _ _ _ _ _)
 have t8:¬ (s.size:Int)<8:=by omega
 have t8n:¬ s.size<8:=by omega
 have t8m:8<=s.size:=by omega
 rw [show decide (8<=body.length)=true by simp; omega,Bool.true_and] at hf
 obtain ⟨nm,hnm⟩:∃ nm,labN body=nm:=⟨_,rfl⟩
 obtain ⟨i,hi⟩:∃ i,labI body=i:=⟨_,rfl⟩
 rw [hnm,hi] at hf
 obtain ⟨sn,hsn⟩:∃ sn:ByteArray,s.extract 8 s.size=sn:=⟨_,rfl⟩
 obtain ⟨sh,hsh⟩:∃ sh:ByteArray,s.extract 0 8=sh:=⟨_,rfl⟩
 have esn:sn=⟨nm.toArray⟩:=by rw [<- hsn,ext_drop,HS.out.1,<- hnm]; rfl
 have esh:sh=⟨(body.take 8).toArray⟩:=by rw [<- hsh,ext_take,HS.out.1]
 have hval:val sh.data.toList=i.toNat:=by rw [esh,<- hi]; exact (toNat_val (l:=body.take 8) (by rw [List.length_take]; omega)).symm
 have hshs:sh.size<=8:=by rw [esh]; show (body.take 8).toArray.size<=8; simp; omega
 have hsns:sn.size<=1000000:=by rw [esn,<- hnm]; show (labN body).toArray.size<=_; unfold labN; simp; omega
 have ena:sn.data.toList=nm:=by rw [esn]
 have hna:=λ W'=>rname_any sn (by omega) W'
 rw [ena] at hna
 have hva:=λ W'=>rvalue_any sh hshs W'
 rw [hval] at hva
 obtain ⟨xi,hxi⟩:∃ xi:Int,(i.toNat:Int)=xi:=⟨_,rfl⟩
 rw [hxi] at hva
 have NM:Hid (sn=⟨nm.toArray⟩/\labN body=nm/\labI body=i/\(i.toNat:Int)=xi):=⟨esn,hnm,hi,hxi⟩
 cases e1:isName nm with
 | false =>
  replace hna:=hna W
  rw [e1] at hna
  have eg:g=false:=by rw [<- hf,e1]; rfl
  have es:=falls eg;subst eg es;clear h1 h2 h3 h4 hq hf hs hg hst' zx falls fall hva hss esn esh hval hshs ena hnm hi hxi;go_enter Tryz.func119,Tryz.ntmps119;go_wp2_with fail;refine hna.mono ?_;rintro e w1 ⟨rfl,hw1⟩;rw [hw1];clear hw1 w1;go_wp2;refine bodyPost_ret (v:=.tuple #[rm d (.slice fa fl fc) (.slice oa on oc) (.slice ra rn rc) (.slice ta tn tc),.bool false]) ?_ rfl ⟨_,rfl,?_⟩
  ·simp [results,Tryz.f119];go_simp
  ·exact fits_close P0.out.bel (RB.out _ P0.out.bel) (lay_nine _ _ _ _ _ _ _ _ _ _ _)
 | true =>
  replace hna:=hna W
  rw [e1] at hna;rw [e1,Bool.true_and] at hf;clear h1 h2 h3 h4 hs hg hst' zx hss esn esh hval hshs ena hnm hi hxi;go_enter Tryz.func119,Tryz.ntmps119;go_wp2_with fail;refine hna.mono ?_;rintro e w1 ⟨rfl,hw1⟩;rw [hw1];clear hw1 w1
  go_upto_region 4 with fail
  have HVA:Hid (∀ W',Calls Tryz.prog 110 #[.string sh] W' λ e w'=>e=.returned (.int .u64 xi)/\w'=W'):=hva;clear hva;go_cut [6] (λ cv u=>cv=.pointer (some ⟨W.heap.size,0,none⟩)/\Hid (Tri w u d (.slice fa fl fc) (.slice oa on oc) (.slice ra rn rc) (.slice ta tn tc) 4 s/\Box u W.heap.size 150 (.string sn) (.int .u64 xi)))
  case first =>
   go_region_held3 (λ u=>u.cell? ⟨w.heap.size+1,0,none⟩=some (.int .i64 4)/\u.cell? ⟨w.heap.size+1,1,none⟩=some (.string s)) (go_keep)
    (first | (go_at_call 110; refine (HVA.out _).mono ?_; rintro e w1 ⟨rfl,hw1⟩; rw [hw1]; clear hw1 w1))
   all_goals
    go_wp2_with fail;go_meet;exact ⟨rfl,tri_named P0.out _ _ _⟩
  case rest =>
   obtain ⟨rfl,HX⟩:=hcut;clear x0 x1 x2 x3 x4 x5 x6 x7 x8 y0 y1 z0 z1 z2 z3 z4 z5 z6 z7 z8 g0 g1 g2 g3 g4 g5 g6 g7 g8 l2;obtain ⟨x0,x1,x2,x3,x4,x5,x6,x7,x8⟩:=HX.out.1.box.cells;obtain ⟨y0,y1⟩:=HX.out.1.fr.cells;obtain ⟨z0,z1,z2,z3,z4,z5,z6,z7,z8⟩:=HX.out.1.res.cells;have gz:=HX.out.1.res.thaw;have g0:=gz 0;have g1:=gz 1;have g2:=gz 2;have g3:=gz 3;have g4:=gz 4;have g5:=gz 5;have g6:=gz 6;have g7:=gz 7;have g8:=gz 8;have l2:=HX.out.1.res.lt;clear gz;obtain ⟨n0,n1⟩:=HX.out.2.cells
   obtain ⟨q,hqq⟩:∃ q,st.has 3 i=q:=⟨_,rfl⟩
   have hh:=shas_any (d:=d) (oc:=oc) (vf:=.slice fa fl fc) (vr:=.slice ra rn rc) (vt:=.slice ta tn tc) (L.out.2.1.rd.below HX.out.1.bel) L.out.2.1.len ho 3 i q hqq;rw [NM.out.2.2.2] at hh;rw [hqq] at hf;have HF:Hid _:=hf
   have FL:Hid ((g=false->st'=st)/\(g=true->st'=st.take (4,body))):=⟨falls,fall⟩
   have HQ:Hid (st.has 3 i=q):=hqq;clear hf falls fall hqq hq;go_wp2_with fail;refine hh.mono ?_;rintro e w6 ⟨rfl,B6⟩
   have P6:Hid (Tri w w6 d (.slice fa fl fc) (.slice oa on oc) (.slice ra rn rc) (.slice ta tn tc) 4 s/\Box w6 W.heap.size 150 (.string sn) (.int .u64 xi)):=⟨HX.out.1.below B6,HX.out.2.below B6⟩
   clear hh B6 HX n0 n1;clear x0 x1 x2 x3 x4 x5 x6 x7 x8 y0 y1 z0 z1 z2 z3 z4 z5 z6 z7 z8 g0 g1 g2 g3 g4 g5 g6 g7 g8 l2;obtain ⟨x0,x1,x2,x3,x4,x5,x6,x7,x8⟩:=P6.out.1.box.cells;obtain ⟨y0,y1⟩:=P6.out.1.fr.cells;obtain ⟨z0,z1,z2,z3,z4,z5,z6,z7,z8⟩:=P6.out.1.res.cells;have gz:=P6.out.1.res.thaw;have g0:=gz 0;have g1:=gz 1;have g2:=gz 2;have g3:=gz 3;have g4:=gz 4;have g5:=gz 5;have g6:=gz 6;have g7:=gz 7;have g8:=gz 8;have l2:=P6.out.1.res.lt;clear gz;obtain ⟨n0,n1⟩:=P6.out.2.cells;by_cases h0:i=0
   ·have z00:xi=0:=by rw [<- NM.out.2.2.2]; exact (u64_zero i).2 h0
    subst z00;have hfi:=rfindN_any (c:=rc) st.refs nm w6 (L.out.2.2.1.rd.below P6.out.1.bel) L.out.2.2.1.len hrl;rw [show tx nm=.string sn by rw [NM.out.1]] at hfi;go_wp2_with fail;refine hfi.mono ?_;rintro e w7 ⟨r7,rfl,R7,hw7⟩;rw [hw7];clear hw7 w7 hfi
    rcases R7.out with ⟨q1,q2⟩ | ⟨q1,i7,q2⟩
    ·subst q2
     have eg:g=false:=by rw [<- HF.out,if_neg (by omega),if_pos h0]; exact q1
     have es:=FL.out.1 eg;subst eg es;clear q1 h0;go_wp2;refine bodyPost_ret (v:=.tuple #[rm d (.slice fa fl fc) (.slice oa on oc) (.slice ra rn rc) (.slice ta tn tc),.bool false]) ?_ rfl ⟨_,rfl,?_⟩
     ·simp [results,Tryz.f119];go_simp
     ·exact fits_close P6.out.1.bel (RB.out _ P6.out.1.bel) (lay_nine _ _ _ _ _ _ _ _ _ _ _)
    ·subst q2
     have p7:¬ (i7:Int)<0:=by omega
     have p8:(0:Int)<=(i7:Int):=by omega
     have eg:g=true:=by rw [<- HF.out,if_neg (by omega),if_pos h0]; exact q1
     have es:st'={ st with refs:=nout st.refs nm }:=by rw [FL.out.2 eg]; unfold St.take; rw [if_pos rfl]; rw [show labI (4,body).2=i from NM.out.2.2.1,if_pos h0,show labN (4,body).2=nm from NM.out.2.1]
     subst eg es;have hwo:=nwithout_any (c:=rc) st.refs nm w6 (L.out.2.2.1.rd.below P6.out.1.bel) L.out.2.2.1.len hrl;rw [show tx nm=.string sn by rw [NM.out.1]] at hwo;clear q1 h0;go_wp2_with fail;refine hwo.mono ?_;rintro e w8 ⟨v8,rfl,R8⟩;obtain ⟨a8,c8,e8,lg8⟩:=LG.ofOwn (Z:=Zx Z w) R8.out.1 (λ i q=>by have:=HZ.out i q; have:=P6.out.1.size; omega)
     obtain ⟨n8,hn8⟩:∃ n8,(nout st.refs nm).length=n8:=⟨_,rfl⟩
     rw [hn8] at e8 lg8;subst e8
     have P8:Hid (Tri w w8 d (.slice fa fl fc) (.slice oa on oc) (.slice ra rn rc) (.slice ta tn tc) 4 s/\LG encN (Zx Z w) w8 a8 n8 c8 (nout st.refs nm)):=⟨P6.out.1.below R8.out.2,lg8⟩
     have f7:=P8.out.1.box.thaw 7;have l0:=P8.out.1.box.lt
     have ne2:w.heap.size≠w.heap.size+2:=by omega
     clear hwo lg8 hn8 R8 n0 n1;clear x0 x1 x2 x3 x4 x5 x6 x7 x8 y0 y1 z0 z1 z2 z3 z4 z5 z6 z7 z8 g0 g1 g2 g3 g4 g5 g6 g7 g8 l2;obtain ⟨x0,x1,x2,x3,x4,x5,x6,x7,x8⟩:=P8.out.1.box.cells;obtain ⟨y0,y1⟩:=P8.out.1.fr.cells;obtain ⟨z0,z1,z2,z3,z4,z5,z6,z7,z8⟩:=P8.out.1.res.cells;have gz:=P8.out.1.res.thaw;have g0:=gz 0;have g1:=gz 1;have g2:=gz 2;have g3:=gz 3;have g4:=gz 4;have g5:=gz 5;have g6:=gz 6;have g7:=gz 7;have g8:=gz 8;have l2:=P8.out.1.res.lt;clear gz;go_wp2;refine bodyPost_ret (v:=.tuple #[rm d (.slice fa fl fc) (.slice oa on oc) (.slice a8 n8 c8) (.slice ta tn tc),.bool true]) ?_ rfl ⟨_,rfl,?_⟩
     ·simp [results,Tryz.f119];go_simp
     ·exact fits_close2 P8.out.1.bel (⟨fa,fl,fc,oa,on,oc,a8,n8,c8,ta,tn,tc,rfl,L.out.1.below P8.out.1.bel,L.out.2.1.below P8.out.1.bel,P8.out.2,L.out.2.2.2.below P8.out.1.bel⟩) rfl (lay_nine _ _ _ _ _ _ _ _ _ _ _)
   ·have m1:(xi==0)=false:=by
     rw [<- NM.out.2.2.2]
     have:=λ z=>h0 ((u64_zero i).1 z)
     simpa using this
    cases q with
    | false =>
     have eg:g=false:=by rw [<- HF.out,if_neg (by omega),if_neg h0]
     have es:=FL.out.1 eg;subst eg es;clear h0;go_wp2;refine bodyPost_ret (v:=.tuple #[rm d (.slice fa fl fc) (.slice oa on oc) (.slice ra rn rc) (.slice ta tn tc),.bool false]) ?_ rfl ⟨_,rfl,?_⟩
     ·simp [results,Tryz.f119];go_simp
     ·exact fits_close P6.out.1.bel (RB.out _ P6.out.1.bel) (lay_nine _ _ _ _ _ _ _ _ _ _ _)
    | true =>
     have eg:g=true:=by rw [<- HF.out,if_neg (by omega),if_neg h0]
     have es:st'={ st with refs:=nwith st.refs nm i }:=by rw [FL.out.2 eg]; unfold St.take; rw [if_pos rfl]; rw [show labI (4,body).2=i from NM.out.2.2.1,if_neg h0,show labN (4,body).2=nm from NM.out.2.1]
     subst eg es;clear h0;have hwi:=nwith_any (c:=rc) st.refs nm i w6 (L.out.2.2.1.rd.below P6.out.1.bel) L.out.2.2.1.len hrl;rw [show tx nm=.string sn by rw [NM.out.1],NM.out.2.2.2] at hwi;go_wp2_with fail;refine hwi.mono ?_;rintro e w8 ⟨v8,rfl,R8⟩;obtain ⟨a8,c8,e8,lg8⟩:=LG.ofOwn (Z:=Zx Z w) R8.out.1 (λ i q=>by have:=HZ.out i q; have:=P6.out.1.size; omega)
     obtain ⟨n8,hn8⟩:∃ n8,(nwith st.refs nm i).length=n8:=⟨_,rfl⟩
     rw [hn8] at e8 lg8;subst e8
     have P8:Hid (Tri w w8 d (.slice fa fl fc) (.slice oa on oc) (.slice ra rn rc) (.slice ta tn tc) 4 s/\LG encN (Zx Z w) w8 a8 n8 c8 (nwith st.refs nm i)):=⟨P6.out.1.below R8.out.2,lg8⟩
     have f7:=P8.out.1.box.thaw 7;have l0:=P8.out.1.box.lt
     have ne2:w.heap.size≠w.heap.size+2:=by omega
     clear hwi lg8 hn8 R8 n0 n1;clear x0 x1 x2 x3 x4 x5 x6 x7 x8 y0 y1 z0 z1 z2 z3 z4 z5 z6 z7 z8 g0 g1 g2 g3 g4 g5 g6 g7 g8 l2;obtain ⟨x0,x1,x2,x3,x4,x5,x6,x7,x8⟩:=P8.out.1.box.cells;obtain ⟨y0,y1⟩:=P8.out.1.fr.cells;obtain ⟨z0,z1,z2,z3,z4,z5,z6,z7,z8⟩:=P8.out.1.res.cells;have gz:=P8.out.1.res.thaw;have g0:=gz 0;have g1:=gz 1;have g2:=gz 2;have g3:=gz 3;have g4:=gz 4;have g5:=gz 5;have g6:=gz 6;have g7:=gz 7;have g8:=gz 8;have l2:=P8.out.1.res.lt;clear gz;go_wp2;refine bodyPost_ret (v:=.tuple #[rm d (.slice fa fl fc) (.slice oa on oc) (.slice a8 n8 c8) (.slice ta tn tc),.bool true]) ?_ rfl ⟨_,rfl,?_⟩
     ·simp [results,Tryz.f119];go_simp
     ·exact fits_close2 P8.out.1.bel (⟨fa,fl,fc,oa,on,oc,a8,n8,c8,ta,tn,tc,rfl,L.out.1.below P8.out.1.bel,L.out.2.1.below P8.out.1.bel,P8.out.2,L.out.2.2.2.below P8.out.1.bel⟩) rfl (lay_nine _ _ _ _ _ _ _ _ _ _ _)
theorem rfits_tag {Z:Nat->Prop} {w:World} {st:St} {d:Dk} {fa oa ra ta:Option Addr} {fl fc on oc rn rc tn tc:Nat} (hZ:∀ i,Z i->i<w.heap.size) (h1:LG encF Z w fa fl fc d.files) (h2:LG encO Z w oa on oc st.objs) (h3:LG encN Z w ra rn rc st.refs) (h4:LG encN Z w ta tn tc st.tags) (hsz:st.size<=1000000) (body:Bs) (hbl:body.length<=1000000) :
  Calls Tryz.prog 119 #[rm d (.slice fa fl fc) (.slice oa on oc) (.slice ra rn rc) (.slice ta tn tc),.agg #[.int .i64 5,tx body]] w λ e w'=>∃ m',e=.returned (.tuple #[m',.bool (st.fits (5,body))])/\Hid (RMS Z w' m' (if st.fits (5,body) then st.take (5,body) else st) d/\Below w.heap.size w w'):=by
 have hq:st.objs.length<=1000000/\st.refs.length<=1000000/\st.tags.length<=1000000:=by unfold St.size at hsz; omega
 have ho:on<=1000000:=by rw [<- h2.len]; exact hq.1
 have hrl:rn<=1000000:=by rw [<- h3.len]; exact hq.2.1
 have htl:tn<=1000000:=by rw [<- h4.len]; exact hq.2.2
 obtain ⟨s,hs⟩:∃ s:ByteArray,s=⟨body.toArray⟩:=⟨_,rfl⟩
 have hss:s.size=body.length:=by rw [hs]; show body.toArray.size=_; simp
 obtain ⟨g,hg⟩:∃ g,st.fits (5,body)=g:=⟨_,rfl⟩
 obtain ⟨st',hst'⟩:∃ st',(if st.fits (5,body) then st.take (5,body) else st)=st':=⟨_,rfl⟩
 rw [hst',hg,show tx body=.string s by rw [hs]]
 obtain ⟨W,hW⟩:∃ W,((w.alloc (nineC d (.slice fa fl fc) (.slice oa on oc) (.slice ra rn rc) (.slice ta tn tc))).alloc (.cells #[.int .i64 5,.string s] 223)).alloc (.cells #[.slice none 0 0,.int .i64 0,.bool false,.bool false,.int .i64 0,.int .i64 0,.slice none 0 0,.slice none 0 0,.slice none 0 0] 32)=W:=⟨_,rfl⟩
 have P0:Hid (Tri w W d (.slice fa fl fc) (.slice oa on oc) (.slice ra rn rc) (.slice ta tn tc) 5 s):=by rw [<- hW]; exact Tri.new w d _ _ _ _ _ _
 have zx:∀ i,i<w.heap.size->Zx Z w i->Z i:=λ i hi q=>q.elim (λ q=>q) (λ q=>by omega)
 have L:Hid (LG encF (Zx Z w) w fa fl fc d.files/\LG encO (Zx Z w) w oa on oc st.objs/\LG encN (Zx Z w) w ra rn rc st.refs/\LG encN (Zx Z w) w ta tn tc st.tags):=⟨h1.into zx,h2.into zx,h3.into zx,h4.into zx⟩
 have RB:Hid (∀ W',Below w.heap.size w W'->RMS (Zx Z w) W' (rm d (.slice fa fl fc) (.slice oa on oc) (.slice ra rn rc) (.slice ta tn tc)) st d):=λ W' b=>⟨fa,fl,fc,oa,on,oc,ra,rn,rc,ta,tn,tc,rfl,L.out.1.below b,L.out.2.1.below b,L.out.2.2.1.below b,L.out.2.2.2.below b⟩
 have HZ:Hid (∀ i,Zx Z w i->i<w.heap.size+3):=λ i q=>q.elim (λ q=>by have:=hZ i q; omega) (λ q=>q.2)
 have HS:Hid (s=⟨body.toArray⟩/\(if st.fits (5,body) then st.take (5,body) else st)=st'/\st.fits (5,body)=g/\s.size=body.length):=⟨hs,hst',hg,hss⟩
 have ok9:¬ 9223372036854775807<s.size:=by omega
 have falls:g=false->st'=st:=λ q=>by rw [<- HS.out.2.1,HS.out.2.2.1,q]; rfl
 have fall:g=true->st'=st.take (5,body):=λ q=>by rw [<- HS.out.2.1,HS.out.2.2.1,q]; rfl
 obtain ⟨x0,x1,x2,x3,x4,x5,x6,x7,x8⟩:=P0.out.box.cells;obtain ⟨y0,y1⟩:=P0.out.fr.cells;obtain ⟨z0,z1,z2,z3,z4,z5,z6,z7,z8⟩:=P0.out.res.cells;have gz:=P0.out.res.thaw;have g0:=gz 0;have g1:=gz 1;have g2:=gz 2;have g3:=gz 3;have g4:=gz 4;have g5:=gz 5;have g6:=gz 6;have g7:=gz 7;have g8:=gz 8;have l2:=P0.out.res.lt;clear gz;have hf:=HS.out.2.2.1;unfold St.fits at hf;rw [if_pos (by simp)] at hf;simp only at hf;by_cases h8:body.length<8
 ·have t8:(s.size:Int)<8:=by omega
  have t8n:s.size<8:=by omega
  have eg:g=false:=by rw [<- hf,show decide (8<=body.length)=false by simp; omega]; rfl
  have es:=falls eg;subst eg es;clear h1 h2 h3 h4 hq hf hs hg hst' zx falls fall hss;go_enter Tryz.func119,Tryz.ntmps119;go_wp2;refine bodyPost_ret (v:=.tuple #[rm d (.slice fa fl fc) (.slice oa on oc) (.slice ra rn rc) (.slice ta tn tc),.bool false]) ?_ rfl ⟨_,rfl,?_⟩
  ·simp [results,Tryz.f119];go_simp
  ·exact fits_close P0.out.bel (RB.out _ P0.out.bel) (lay_nine _ _ _ _ _ _ _ _ _ _ _)
 have t8:¬ (s.size:Int)<8:=by omega
 have t8n:¬ s.size<8:=by omega
 have t8m:8<=s.size:=by omega
 rw [show decide (8<=body.length)=true by simp; omega,Bool.true_and] at hf
 obtain ⟨nm,hnm⟩:∃ nm,labN body=nm:=⟨_,rfl⟩
 obtain ⟨i,hi⟩:∃ i,labI body=i:=⟨_,rfl⟩
 rw [hnm,hi] at hf
 obtain ⟨sn,hsn⟩:∃ sn:ByteArray,s.extract 8 s.size=sn:=⟨_,rfl⟩
 obtain ⟨sh,hsh⟩:∃ sh:ByteArray,s.extract 0 8=sh:=⟨_,rfl⟩
 have esn:sn=⟨nm.toArray⟩:=by rw [<- hsn,ext_drop,HS.out.1,<- hnm]; rfl
 have esh:sh=⟨(body.take 8).toArray⟩:=by rw [<- hsh,ext_take,HS.out.1]
 have hval:val sh.data.toList=i.toNat:=by rw [esh,<- hi]; exact (toNat_val (l:=body.take 8) (by rw [List.length_take]; omega)).symm
 have hshs:sh.size<=8:=by rw [esh]; show (body.take 8).toArray.size<=8; simp; omega
 have hsns:sn.size<=1000000:=by rw [esn,<- hnm]; show (labN body).toArray.size<=_; unfold labN; simp; omega
 have ena:sn.data.toList=nm:=by rw [esn]
 have hna:=λ W'=>rname_any sn (by omega) W'
 rw [ena] at hna
 have hva:=λ W'=>rvalue_any sh hshs W'
 rw [hval] at hva
 obtain ⟨xi,hxi⟩:∃ xi:Int,(i.toNat:Int)=xi:=⟨_,rfl⟩
 rw [hxi] at hva
 have NM:Hid (sn=⟨nm.toArray⟩/\labN body=nm/\labI body=i/\(i.toNat:Int)=xi):=⟨esn,hnm,hi,hxi⟩
 cases e1:isName nm with
 | false =>
  replace hna:=hna W
  rw [e1] at hna
  have eg:g=false:=by rw [<- hf,e1]; rfl
  have es:=falls eg;subst eg es;clear h1 h2 h3 h4 hq hf hs hg hst' zx falls fall hva hss esn esh hval hshs ena hnm hi hxi;go_enter Tryz.func119,Tryz.ntmps119;go_wp2_with fail;refine hna.mono ?_;rintro e w1 ⟨rfl,hw1⟩;rw [hw1];clear hw1 w1;go_wp2;refine bodyPost_ret (v:=.tuple #[rm d (.slice fa fl fc) (.slice oa on oc) (.slice ra rn rc) (.slice ta tn tc),.bool false]) ?_ rfl ⟨_,rfl,?_⟩
  ·simp [results,Tryz.f119];go_simp
  ·exact fits_close P0.out.bel (RB.out _ P0.out.bel) (lay_nine _ _ _ _ _ _ _ _ _ _ _)
 | true =>
  replace hna:=hna W
  rw [e1] at hna;rw [e1,Bool.true_and] at hf;clear h1 h2 h3 h4 hs hg hst' zx hss esn esh hval hshs ena hnm hi hxi;go_enter Tryz.func119,Tryz.ntmps119;go_wp2_with fail;refine hna.mono ?_;rintro e w1 ⟨rfl,hw1⟩;rw [hw1];clear hw1 w1
  go_upto_region 4 with fail
  have HVA:Hid (∀ W',Calls Tryz.prog 110 #[.string sh] W' λ e w'=>e=.returned (.int .u64 xi)/\w'=W'):=hva;clear hva;go_cut [6] (λ cv u=>cv=.pointer (some ⟨W.heap.size,0,none⟩)/\Hid (Tri w u d (.slice fa fl fc) (.slice oa on oc) (.slice ra rn rc) (.slice ta tn tc) 5 s/\Box u W.heap.size 150 (.string sn) (.int .u64 xi)))
  case first =>
   go_region_held3 (λ u=>u.cell? ⟨w.heap.size+1,0,none⟩=some (.int .i64 5)/\u.cell? ⟨w.heap.size+1,1,none⟩=some (.string s)) (go_keep)
    (first | (go_at_call 110; refine (HVA.out _).mono ?_; rintro e w1 ⟨rfl,hw1⟩; rw [hw1]; clear hw1 w1))
   all_goals
    go_wp2_with fail;go_meet;exact ⟨rfl,tri_named P0.out _ _ _⟩
  case rest =>
   obtain ⟨rfl,HX⟩:=hcut;clear x0 x1 x2 x3 x4 x5 x6 x7 x8 y0 y1 z0 z1 z2 z3 z4 z5 z6 z7 z8 g0 g1 g2 g3 g4 g5 g6 g7 g8 l2;obtain ⟨x0,x1,x2,x3,x4,x5,x6,x7,x8⟩:=HX.out.1.box.cells;obtain ⟨y0,y1⟩:=HX.out.1.fr.cells;obtain ⟨z0,z1,z2,z3,z4,z5,z6,z7,z8⟩:=HX.out.1.res.cells;have gz:=HX.out.1.res.thaw;have g0:=gz 0;have g1:=gz 1;have g2:=gz 2;have g3:=gz 3;have g4:=gz 4;have g5:=gz 5;have g6:=gz 6;have g7:=gz 7;have g8:=gz 8;have l2:=HX.out.1.res.lt;clear gz;obtain ⟨n0,n1⟩:=HX.out.2.cells
   obtain ⟨q,hqq⟩:∃ q,st.has 3 i=q:=⟨_,rfl⟩
   have hh:=shas_any (d:=d) (oc:=oc) (vf:=.slice fa fl fc) (vr:=.slice ra rn rc) (vt:=.slice ta tn tc) (L.out.2.1.rd.below HX.out.1.bel) L.out.2.1.len ho 3 i q hqq;rw [NM.out.2.2.2] at hh;rw [hqq] at hf;have HF:Hid _:=hf
   have FL:Hid ((g=false->st'=st)/\(g=true->st'=st.take (5,body))):=⟨falls,fall⟩
   have HQ:Hid (st.has 3 i=q):=hqq;clear hf falls fall hqq hq;go_wp2_with fail;refine hh.mono ?_;rintro e w6 ⟨rfl,B6⟩
   have P6:Hid (Tri w w6 d (.slice fa fl fc) (.slice oa on oc) (.slice ra rn rc) (.slice ta tn tc) 5 s/\Box w6 W.heap.size 150 (.string sn) (.int .u64 xi)):=⟨HX.out.1.below B6,HX.out.2.below B6⟩
   clear hh B6 HX n0 n1;clear x0 x1 x2 x3 x4 x5 x6 x7 x8 y0 y1 z0 z1 z2 z3 z4 z5 z6 z7 z8 g0 g1 g2 g3 g4 g5 g6 g7 g8 l2;obtain ⟨x0,x1,x2,x3,x4,x5,x6,x7,x8⟩:=P6.out.1.box.cells;obtain ⟨y0,y1⟩:=P6.out.1.fr.cells;obtain ⟨z0,z1,z2,z3,z4,z5,z6,z7,z8⟩:=P6.out.1.res.cells;have gz:=P6.out.1.res.thaw;have g0:=gz 0;have g1:=gz 1;have g2:=gz 2;have g3:=gz 3;have g4:=gz 4;have g5:=gz 5;have g6:=gz 6;have g7:=gz 7;have g8:=gz 8;have l2:=P6.out.1.res.lt;clear gz;obtain ⟨n0,n1⟩:=P6.out.2.cells
   cases q with
   | false =>
    have eg:g=false:=by rw [<- HF.out]; simp
    have es:=FL.out.1 eg;subst eg es;go_wp2;refine bodyPost_ret (v:=.tuple #[rm d (.slice fa fl fc) (.slice oa on oc) (.slice ra rn rc) (.slice ta tn tc),.bool false]) ?_ rfl ⟨_,rfl,?_⟩
    ·simp [results,Tryz.f119];go_simp
    ·exact fits_close P6.out.1.bel (RB.out _ P6.out.1.bel) (lay_nine _ _ _ _ _ _ _ _ _ _ _)
   | true =>
    have hfi:=rfindN_any (c:=tc) st.tags nm w6 (L.out.2.2.2.rd.below P6.out.1.bel) L.out.2.2.2.len htl;rw [show tx nm=.string sn by rw [NM.out.1]] at hfi;go_wp2_with fail;refine hfi.mono ?_;rintro e w7 ⟨r7,rfl,R7,hw7⟩;rw [hw7];clear hw7 w7 hfi
    rcases R7.out with ⟨q1,q2⟩ | ⟨q1,i7,q2⟩
    ·subst q2
     have eg:g=true:=by rw [<- HF.out]; simp [q1]
     have es:st'={ st with tags:=nwith st.tags nm i }:=by rw [FL.out.2 eg]; unfold St.take; rw [if_neg (by show ¬ (5:Int)=4; omega),if_pos rfl]; rw [show labI (5,body).2=i from NM.out.2.2.1,show labN (5,body).2=nm from NM.out.2.1]
     subst eg es;clear q1;have hwi:=nwith_any (c:=tc) st.tags nm i w6 (L.out.2.2.2.rd.below P6.out.1.bel) L.out.2.2.2.len htl;rw [show tx nm=.string sn by rw [NM.out.1],NM.out.2.2.2] at hwi;go_wp2_with fail;refine hwi.mono ?_;rintro e w8 ⟨v8,rfl,R8⟩;obtain ⟨a8,c8,e8,lg8⟩:=LG.ofOwn (Z:=Zx Z w) R8.out.1 (λ i q=>by have:=HZ.out i q; have:=P6.out.1.size; omega)
     obtain ⟨n8,hn8⟩:∃ n8,(nwith st.tags nm i).length=n8:=⟨_,rfl⟩
     rw [hn8] at e8 lg8;subst e8
     have P8:Hid (Tri w w8 d (.slice fa fl fc) (.slice oa on oc) (.slice ra rn rc) (.slice ta tn tc) 5 s/\LG encN (Zx Z w) w8 a8 n8 c8 (nwith st.tags nm i)):=⟨P6.out.1.below R8.out.2,lg8⟩
     have f7:=P8.out.1.box.thaw 8;have l0:=P8.out.1.box.lt
     have ne2:w.heap.size≠w.heap.size+2:=by omega
     clear hwi lg8 hn8 R8 n0 n1;clear x0 x1 x2 x3 x4 x5 x6 x7 x8 y0 y1 z0 z1 z2 z3 z4 z5 z6 z7 z8 g0 g1 g2 g3 g4 g5 g6 g7 g8 l2;obtain ⟨x0,x1,x2,x3,x4,x5,x6,x7,x8⟩:=P8.out.1.box.cells;obtain ⟨y0,y1⟩:=P8.out.1.fr.cells;obtain ⟨z0,z1,z2,z3,z4,z5,z6,z7,z8⟩:=P8.out.1.res.cells;have gz:=P8.out.1.res.thaw;have g0:=gz 0;have g1:=gz 1;have g2:=gz 2;have g3:=gz 3;have g4:=gz 4;have g5:=gz 5;have g6:=gz 6;have g7:=gz 7;have g8:=gz 8;have l2:=P8.out.1.res.lt;clear gz;go_wp2;refine bodyPost_ret (v:=.tuple #[rm d (.slice fa fl fc) (.slice oa on oc) (.slice ra rn rc) (.slice a8 n8 c8),.bool true]) ?_ rfl ⟨_,rfl,?_⟩
     ·simp [results,Tryz.f119];go_simp
     ·exact fits_close2 P8.out.1.bel (⟨fa,fl,fc,oa,on,oc,ra,rn,rc,a8,n8,c8,rfl,L.out.1.below P8.out.1.bel,L.out.2.1.below P8.out.1.bel,L.out.2.2.1.below P8.out.1.bel,P8.out.2⟩) rfl (lay_nine _ _ _ _ _ _ _ _ _ _ _)
    ·subst q2
     have p7:(0:Int)<=(i7:Int):=by omega
     have eg:g=false:=by rw [<- HF.out]; simp [q1]
     have es:=FL.out.1 eg;subst eg es;clear q1;go_wp2;refine bodyPost_ret (v:=.tuple #[rm d (.slice fa fl fc) (.slice oa on oc) (.slice ra rn rc) (.slice ta tn tc),.bool false]) ?_ rfl ⟨_,rfl,?_⟩
     ·simp [results,Tryz.f119];go_simp
     ·exact fits_close P6.out.1.bel (RB.out _ P6.out.1.bel) (lay_nine _ _ _ _ _ _ _ _ _ _ _)
end Go.Proofs.YtjlokpjflgbgdaaGreat
