/-
  Several texts, laid together.
-/
import Derived.Test.YtmhcpbbiokpjjaaGreatM20
set_option maxHeartbeats 6400000
set_option maxRecDepth 100000
namespace Go.Proofs.YtmhcpbbiokpjjaaGreat
open Go.RowKit
def RMS (Z:Nat->Prop) (w:World) (m:Value) (st:St) (d:Dk):Prop :=
 ∃ fa fl fc oa on oc ra rn rc ta tn tc,m=rm d (.slice fa fl fc) (.slice oa on oc) (.slice ra rn rc) (.slice ta tn tc)/\LG encF Z w fa fl fc d.files/\LG encO Z w oa on oc st.objs/\LG encN Z w ra rn rc st.refs/\LG encN Z w ta tn tc st.tags
section
variable {Z Z' T:Nat->Prop} {w w':World} {m:Value} {st:St} {d:Dk}
theorem RMS.below (h:RMS Z w m st d) (hb:Below w.heap.size w w'):RMS Z w' m st d:=by
 obtain ⟨fa,fl,fc,oa,on,oc,ra,rn,rc,ta,tn,tc,e,h1,h2,h3,h4⟩:=h;exact ⟨fa,fl,fc,oa,on,oc,ra,rn,rc,ta,tn,tc,e,h1.below hb,h2.below hb,h3.below hb,h4.below hb⟩
theorem RMS.mono (h:RMS Z w m st d) (hz:∀ i,Z' i->Z i):RMS Z' w m st d:=by
 obtain ⟨fa,fl,fc,oa,on,oc,ra,rn,rc,ta,tn,tc,e,h1,h2,h3,h4⟩:=h;exact ⟨fa,fl,fc,oa,on,oc,ra,rn,rc,ta,tn,tc,e,h1.mono hz,h2.mono hz,h3.mono hz,h4.mono hz⟩
theorem RMS.turned (h:RMS Z w m st d) (ht:Zaa T w w') (hT:∀ i,T i->Z i):RMS Z w' m st d:=by
 obtain ⟨fa,fl,fc,oa,on,oc,ra,rn,rc,ta,tn,tc,e,h1,h2,h3,h4⟩:=h;exact ⟨fa,fl,fc,oa,on,oc,ra,rn,rc,ta,tn,tc,e,h1.turned ht hT,h2.turned ht hT,h3.turned ht hT,h4.turned ht hT⟩
theorem RMS.into (h:RMS Z w m st d) (hz:∀ i,i<w.heap.size->Z' i->Z i):RMS Z' w m st d:=by
 obtain ⟨fa,fl,fc,oa,on,oc,ra,rn,rc,ta,tn,tc,e,h1,h2,h3,h4⟩:=h;exact ⟨fa,fl,fc,oa,on,oc,ra,rn,rc,ta,tn,tc,e,h1.into hz,h2.into hz,h3.into hz,h4.into hz⟩
end
theorem Zad (w:World) (Q:Nat) (v0 v1 v2 v3 v4 v5 v6 v7 v8:Value) :
  Zaa (λ i=>i=Q) w (((((((((w.setCell ⟨Q,0,none⟩ v0).setCell ⟨Q,1,none⟩ v1).setCell ⟨Q,2,none⟩ v2).setCell ⟨Q,3,none⟩ v3).setCell ⟨Q,4,none⟩ v4).setCell ⟨Q,5,none⟩ v5).setCell ⟨Q,6,none⟩ v6).setCell ⟨Q,7,none⟩ v7).setCell ⟨Q,8,none⟩ v8) :=
 (((((((((Zaa.refl (λ i=>i=Q) w).setCell (p:=⟨Q,0,none⟩) (.inl (show Q=Q from rfl)) v0).setCell (p:=⟨Q,1,none⟩) (.inl (show Q=Q from rfl)) v1).setCell (p:=⟨Q,2,none⟩) (.inl (show Q=Q from rfl)) v2).setCell (p:=⟨Q,3,none⟩) (.inl (show Q=Q from rfl)) v3).setCell (p:=⟨Q,4,none⟩) (.inl (show Q=Q from rfl)) v4).setCell (p:=⟨Q,5,none⟩) (.inl (show Q=Q from rfl)) v5).setCell (p:=⟨Q,6,none⟩) (.inl (show Q=Q from rfl)) v6).setCell (p:=⟨Q,7,none⟩) (.inl (show Q=Q from rfl)) v7).setCell (p:=⟨Q,8,none⟩) (.inl (show Q=Q from rfl)) v8
structure Tri (w W:World) (d:Dk) (vf vo vr vt:Value) (k:Int) (s:ByteArray):Prop where
 bel:Below w.heap.size w W
 box:Zbg W w.heap.size d vf vo vr vt
 fr:Box W (w.heap.size+1) 214 (.int .i64 k) (.string s)
 res:Nine W (w.heap.size+2) (.slice none 0 0) (.int .i64 0) (.bool false) (.bool false) (.int .i64 0) (.int .i64 0) (.slice none 0 0) (.slice none 0 0) (.slice none 0 0)
section
variable {w W W':World} {d:Dk} {vf vo vr vt:Value} {k:Int} {s:ByteArray}
theorem Tri.below (h:Tri w W d vf vo vr vt k s) (hb:Below W.heap.size W W'):Tri w W' d vf vo vr vt k s :=
 ⟨h.bel.trans (hb.mono h.bel.size),h.box.below hb h.box.lt,h.fr.below hb,h.res.below hb h.res.lt⟩
theorem Tri.new (w:World) (d:Dk) (vf vo vr vt:Value) (k:Int) (s:ByteArray) :
  Tri w (((w.alloc (nineC d vf vo vr vt)).alloc (.cells #[.int .i64 k,.string s] 214)).alloc (.cells #[.slice none 0 0,.int .i64 0,.bool false,.bool false,.int .i64 0,.int .i64 0,.slice none 0 0,.slice none 0 0,.slice none 0 0] 32)) d vf vo vr vt k s:=by
 have e1:(w.alloc (nineC d vf vo vr vt)).heap.size=w.heap.size+1:=by simp
 have e2:((w.alloc (nineC d vf vo vr vt)).alloc (.cells #[.int .i64 k,.string s] 214)).heap.size=w.heap.size+2:=by simp
 have b2:=Box.new (w.alloc (nineC d vf vo vr vt)) 214 (.int .i64 k) (.string s);rw [e1] at b2;have b3:=Nine.new ((w.alloc (nineC d vf vo vr vt)).alloc (.cells #[.int .i64 k,.string s] 214)) (.slice none 0 0) (.int .i64 0) (.bool false) (.bool false) (.int .i64 0) (.int .i64 0) (.slice none 0 0) (.slice none 0 0) (.slice none 0 0);rw [e2] at b3;exact ⟨bz3 _ _ _ _,((Nine.new w _ _ _ _ _ _ _ _ _).below (bz1 _ _) (by rw [e1]; omega)).below (bz1 _ _) (by rw [e2]; omega),b2.below (bz1 _ _),b3⟩
theorem Tri.size (h:Tri w W d vf vo vr vt k s):w.heap.size+3<=W.heap.size:=by
 have:=h.res.lt;omega
end
theorem Zfo {w W:World} {d:Dk} {vf vo vr vt:Value} {k:Int} {s:ByteArray} (h:Tri w W d vf vo vr vt k s) (x y:Value) (t:TypeId):Hid (Tri w (W.alloc (.cells #[x,y] t)).drew d vf vo vr vt k s/\Box (W.alloc (.cells #[x,y] t)).drew W.heap.size t x y) :=
 ⟨h.below (bz1 W _).drew,Box.new W t x y⟩
theorem Zey {w W W':World} {d:Dk} {vf vo vr vt:Value} {k:Int} {s:ByteArray} (h:Tri w W d vf vo vr vt k s) (hb:Below (w.heap.size+3) W W'):Tri w W' d vf vo vr vt k s :=
 ⟨h.bel.trans (hb.mono (by omega)),h.box.below hb (by omega),(hb.block _ (by omega)).trans h.fr,h.res.below hb (by omega)⟩
def Zx (Z:Nat->Prop) (w:World):Nat->Prop:=λ i=>Z i∨(w.heap.size<=i/\i<w.heap.size+3)
theorem Zai {Z:Nat->Prop} {w W W':World} {m:Value} {st:St} {d:Dk} (hb:Below w.heap.size w W) (h:RMS (Zx Z w) W m st d) (ht:Zaa (λ i=>i=w.heap.size+2) W W'):RMS Z W' m st d/\Below w.heap.size w W' :=
 ⟨(h.turned ht (λ i q=>.inr (by have q:i=w.heap.size+2:=q; omega))).mono (λ _ q=>.inl q),hb.trans (ht.below hb.size (λ i hi q=>by have q:i=w.heap.size+2:=q; omega))⟩
theorem ZaV {Z:Nat->Prop} {w W W1 W':World} {m:Value} {st:St} {d:Dk} {j:Nat} {u:Value} (hb:Below w.heap.size w W) (h:RMS (Zx Z w) W m st d) (h1:W1=W.setCell ⟨w.heap.size,j,none⟩ u) (ht:Zaa (λ i=>i=w.heap.size+2) W1 W'):RMS Z W' m st d/\Below w.heap.size w W':=by
 have t1:Zaa (λ i=>i=w.heap.size) W W1:=by rw [h1]; exact Zae _ _
 exact Zai (hb.trans (t1.below hb.size (λ i hi q=>by have q:i=w.heap.size:=q; omega))) (h.turned t1 (λ i q=>.inr (by have q:i=w.heap.size:=q; omega))) ht
theorem Tryz.info133:(Tryz.prog.info? 133).map (λ i=>(i.zero,i.size,i.bytes))=some (some (.agg #[.int .i64 0,.int .u64 0,.string ⟨#[]⟩]),3,32):=by kernel_rfl
theorem ZjK {Z:Nat->Prop} {w:World} {st:St} {d:Dk} {fa oa ra ta:Option Addr} {fl fc on oc rn rc tn tc:Nat} (hZ:∀ i,Z i->i<w.heap.size) (h1:LG encF Z w fa fl fc d.files) (h2:LG encO Z w oa on oc st.objs) (h3:LG encN Z w ra rn rc st.refs) (h4:LG encN Z w ta tn tc st.tags) (hsz:st.size<=1000000) (body:Bs) (hbl:body.length<=1000000) :
  Calls Tryz.prog 113 #[rm d (.slice fa fl fc) (.slice oa on oc) (.slice ra rn rc) (.slice ta tn tc),.agg #[.int .i64 4,tx body]] w λ e w'=>∃ m',e=.returned (.tuple #[m',.bool (st.fits (4,body))])/\Hid (RMS Z w' m' (if st.fits (4,body) then st.take (4,body) else st) d/\Below w.heap.size w w'):=by
 have hq:st.objs.length<=1000000/\st.refs.length<=1000000/\st.tags.length<=1000000:=by unfold St.size at hsz; omega
 have ho:on<=1000000:=by rw [<- h2.len]; exact hq.1
 have hrl:rn<=1000000:=by rw [<- h3.len]; exact hq.2.1
 have htl:tn<=1000000:=by rw [<- h4.len]; exact hq.2.2
 obtain ⟨s,hs⟩:∃ s:ByteArray,s=⟨body.toArray⟩:=⟨_,rfl⟩
 have hss:s.size=body.length:=by rw [hs]; show body.toArray.size=_; simp
 obtain ⟨g,hg⟩:∃ g,st.fits (4,body)=g:=⟨_,rfl⟩
 obtain ⟨st',hst'⟩:∃ st',(if st.fits (4,body) then st.take (4,body) else st)=st':=⟨_,rfl⟩
 rw [hst',hg,show tx body=.string s by rw [hs]]
 obtain ⟨W,hW⟩:∃ W,((w.alloc (nineC d (.slice fa fl fc) (.slice oa on oc) (.slice ra rn rc) (.slice ta tn tc))).alloc (.cells #[.int .i64 4,.string s] 214)).alloc (.cells #[.slice none 0 0,.int .i64 0,.bool false,.bool false,.int .i64 0,.int .i64 0,.slice none 0 0,.slice none 0 0,.slice none 0 0] 32)=W:=⟨_,rfl⟩
 have P0:Hid (Tri w W d (.slice fa fl fc) (.slice oa on oc) (.slice ra rn rc) (.slice ta tn tc) 4 s):=by rw [<- hW]; exact Tri.new w d _ _ _ _ _ _
 have zx:∀ i,i<w.heap.size->Zx Z w i->Z i:=λ i hi q=>q.elim (λ q=>q) (λ q=>by omega)
 have L:Hid (LG encF (Zx Z w) w fa fl fc d.files/\LG encO (Zx Z w) w oa on oc st.objs/\LG encN (Zx Z w) w ra rn rc st.refs/\LG encN (Zx Z w) w ta tn tc st.tags):=⟨h1.into zx,h2.into zx,h3.into zx,h4.into zx⟩
 have RB:Hid (∀ W',Below w.heap.size w W'->RMS (Zx Z w) W' (rm d (.slice fa fl fc) (.slice oa on oc) (.slice ra rn rc) (.slice ta tn tc)) st d):=λ W' b=>⟨fa,fl,fc,oa,on,oc,ra,rn,rc,ta,tn,tc,rfl,L.out.1.below b,L.out.2.1.below b,L.out.2.2.1.below b,L.out.2.2.2.below b⟩
 have HZ:Hid (∀ i,Zx Z w i->i<w.heap.size+3):=λ i q=>q.elim (λ q=>by have:=hZ i q; omega) (λ q=>q.2)
 have HS:Hid (s=⟨body.toArray⟩/\(if st.fits (4,body) then st.take (4,body) else st)=st'/\st.fits (4,body)=g/\s.size=body.length):=⟨hs,hst',hg,hss⟩
 have ok9:¬ 9223372036854775807<s.size:=by omega
 have falls:g=false->st'=st:=λ q=>by rw [<- HS.out.2.1,HS.out.2.2.1,q]; rfl
 have fall:g=true->st'=st.take (4,body):=λ q=>by rw [<- HS.out.2.1,HS.out.2.2.1,q]; rfl
 obtain ⟨x0,x1,x2,x3,x4,x5,x6,x7,x8⟩:=P0.out.box.cells;obtain ⟨y0,y1⟩:=P0.out.fr.cells;obtain ⟨z0,z1,z2,z3,z4,z5,z6,z7,z8⟩:=P0.out.res.cells;have gz:=P0.out.res.thaw;have g0:=gz 0;have g1:=gz 1;have g2:=gz 2;have g3:=gz 3;have g4:=gz 4;have g5:=gz 5;have g6:=gz 6;have g7:=gz 7;have g8:=gz 8;have l2:=P0.out.res.lt;clear gz;have hf:=HS.out.2.2.1;unfold St.fits at hf;rw [if_pos (by simp)] at hf;simp only at hf;by_cases h8:body.length<8
 ·have t8:(s.size:Int)<8:=by omega
  have t8n:s.size<8:=by omega
  have eg:g=false:=by rw [<- hf,show decide (8<=body.length)=false by simp; omega]; rfl
  have es:=falls eg;subst eg es;clear h1 h2 h3 h4 hq hf hs hg hst' zx falls fall hss;go_enter Tryz.func113,Tryz.ntmps113;go_wp2;refine bodyPost_ret (v:=.tuple #[rm d (.slice fa fl fc) (.slice oa on oc) (.slice ra rn rc) (.slice ta tn tc),.bool false]) ?_ rfl ⟨_,rfl,?_⟩
  ·simp [results,Tryz.f113];go_simp
  ·exact Zai P0.out.bel (RB.out _ P0.out.bel) (Zad _ _ _ _ _ _ _ _ _ _ _)
 have t8:¬ (s.size:Int)<8:=by omega
 have t8n:¬ s.size<8:=by omega
 have t8m:8<=s.size:=by omega
 rw [show decide (8<=body.length)=true by simp; omega,Bool.true_and] at hf
 obtain ⟨nm,hnm⟩:∃ nm,labN body=nm:=⟨_,rfl⟩
 obtain ⟨i,hi⟩:∃ i,labI body=i:=⟨_,rfl⟩
 rw [hnm,hi] at hf
 obtain ⟨sn,hsn⟩:∃ sn:ByteArray,s.extract 8 s.size=sn:=⟨_,rfl⟩
 obtain ⟨sh,hsh⟩:∃ sh:ByteArray,s.extract 0 8=sh:=⟨_,rfl⟩
 have esn:sn=⟨nm.toArray⟩:=by rw [<- hsn,ZeU,HS.out.1,<- hnm]; rfl
 have esh:sh=⟨(body.take 8).toArray⟩:=by rw [<- hsh,ZbV,HS.out.1]
 have hval:val sh.data.toList=i.toNat:=by rw [esh,<- hi]; exact (Zbe (l:=body.take 8) (by rw [List.length_take]; omega)).symm
 have hshs:sh.size<=8:=by rw [esh]; show (body.take 8).toArray.size<=8; simp; omega
 have hsns:sn.size<=1000000:=by rw [esn,<- hnm]; show (labN body).toArray.size<=_; unfold labN; simp; omega
 have ena:sn.data.toList=nm:=by rw [esn]
 have hna:=λ W'=>Zap sn (by omega) W'
 rw [ena] at hna
 have hva:=λ W'=>ZaH sh hshs W'
 rw [hval] at hva
 obtain ⟨xi,hxi⟩:∃ xi:Int,(i.toNat:Int)=xi:=⟨_,rfl⟩
 rw [hxi] at hva
 have NM:Hid (sn=⟨nm.toArray⟩/\labN body=nm/\labI body=i/\(i.toNat:Int)=xi):=⟨esn,hnm,hi,hxi⟩
 cases e1:isName nm with
 | false =>
  replace hna:=hna W
  rw [e1] at hna
  have eg:g=false:=by rw [<- hf,e1]; rfl
  have es:=falls eg;subst eg es;clear h1 h2 h3 h4 hq hf hs hg hst' zx falls fall hva hss esn esh hval hshs ena hnm hi hxi;go_enter Tryz.func113,Tryz.ntmps113;go_wp2_with fail;refine hna.mono ?_;rintro e w1 ⟨rfl,hw1⟩;rw [hw1];clear hw1 w1;go_wp2;refine bodyPost_ret (v:=.tuple #[rm d (.slice fa fl fc) (.slice oa on oc) (.slice ra rn rc) (.slice ta tn tc),.bool false]) ?_ rfl ⟨_,rfl,?_⟩
  ·simp [results,Tryz.f113];go_simp
  ·exact Zai P0.out.bel (RB.out _ P0.out.bel) (Zad _ _ _ _ _ _ _ _ _ _ _)
 | true =>
  replace hna:=hna W
  rw [e1] at hna;rw [e1,Bool.true_and] at hf;clear h1 h2 h3 h4 hs hg hst' zx hss esn esh hval hshs ena hnm hi hxi;go_enter Tryz.func113,Tryz.ntmps113;go_wp2_with fail;refine hna.mono ?_;rintro e w1 ⟨rfl,hw1⟩;rw [hw1];clear hw1 w1
  go_upto_region 4 with fail
  have HVA:Hid (∀ W',Calls Tryz.prog 102 #[.string sh] W' λ e w'=>e=.returned (.int .u64 xi)/\w'=W'):=hva;clear hva;go_cut [6] (λ cv u=>cv=.pointer (some ⟨W.heap.size,0,none⟩)/\Hid (Tri w u d (.slice fa fl fc) (.slice oa on oc) (.slice ra rn rc) (.slice ta tn tc) 4 s/\Box u W.heap.size 146 (.string sn) (.int .u64 xi)))
  case first =>
   go_region_held3 (λ u=>u.cell? ⟨w.heap.size+1,0,none⟩=some (.int .i64 4)/\u.cell? ⟨w.heap.size+1,1,none⟩=some (.string s)) (go_keep)
    (first | (go_at_call 102; refine (HVA.out _).mono ?_; rintro e w1 ⟨rfl,hw1⟩; rw [hw1]; clear hw1 w1))
   all_goals
    go_wp2_with fail;go_meet;exact ⟨rfl,Zfo P0.out _ _ _⟩
  case rest =>
   obtain ⟨rfl,HX⟩:=hcut;clear x0 x1 x2 x3 x4 x5 x6 x7 x8 y0 y1 z0 z1 z2 z3 z4 z5 z6 z7 z8 g0 g1 g2 g3 g4 g5 g6 g7 g8 l2;obtain ⟨x0,x1,x2,x3,x4,x5,x6,x7,x8⟩:=HX.out.1.box.cells;obtain ⟨y0,y1⟩:=HX.out.1.fr.cells;obtain ⟨z0,z1,z2,z3,z4,z5,z6,z7,z8⟩:=HX.out.1.res.cells;have gz:=HX.out.1.res.thaw;have g0:=gz 0;have g1:=gz 1;have g2:=gz 2;have g3:=gz 3;have g4:=gz 4;have g5:=gz 5;have g6:=gz 6;have g7:=gz 7;have g8:=gz 8;have l2:=HX.out.1.res.lt;clear gz;obtain ⟨n0,n1⟩:=HX.out.2.cells
   obtain ⟨q,hqq⟩:∃ q,st.has 3 i=q:=⟨_,rfl⟩
   have hh:=ZaA (d:=d) (oc:=oc) (vf:=.slice fa fl fc) (vr:=.slice ra rn rc) (vt:=.slice ta tn tc) (L.out.2.1.rd.below HX.out.1.bel) L.out.2.1.len ho 3 i q hqq;rw [NM.out.2.2.2] at hh;rw [hqq] at hf;have HF:Hid _:=hf
   have FL:Hid ((g=false->st'=st)/\(g=true->st'=st.take (4,body))):=⟨falls,fall⟩
   have HQ:Hid (st.has 3 i=q):=hqq;clear hf falls fall hqq hq;go_wp2_with fail;refine hh.mono ?_;rintro e w6 ⟨rfl,B6⟩
   have P6:Hid (Tri w w6 d (.slice fa fl fc) (.slice oa on oc) (.slice ra rn rc) (.slice ta tn tc) 4 s/\Box w6 W.heap.size 146 (.string sn) (.int .u64 xi)):=⟨HX.out.1.below B6,HX.out.2.below B6⟩
   clear hh B6 HX n0 n1;clear x0 x1 x2 x3 x4 x5 x6 x7 x8 y0 y1 z0 z1 z2 z3 z4 z5 z6 z7 z8 g0 g1 g2 g3 g4 g5 g6 g7 g8 l2;obtain ⟨x0,x1,x2,x3,x4,x5,x6,x7,x8⟩:=P6.out.1.box.cells;obtain ⟨y0,y1⟩:=P6.out.1.fr.cells;obtain ⟨z0,z1,z2,z3,z4,z5,z6,z7,z8⟩:=P6.out.1.res.cells;have gz:=P6.out.1.res.thaw;have g0:=gz 0;have g1:=gz 1;have g2:=gz 2;have g3:=gz 3;have g4:=gz 4;have g5:=gz 5;have g6:=gz 6;have g7:=gz 7;have g8:=gz 8;have l2:=P6.out.1.res.lt;clear gz;obtain ⟨n0,n1⟩:=P6.out.2.cells;by_cases h0:i=0
   ·have z00:xi=0:=by rw [<- NM.out.2.2.2]; exact (ZaP i).2 h0
    subst z00;have hfi:=ZbZ (c:=rc) st.refs nm w6 (L.out.2.2.1.rd.below P6.out.1.bel) L.out.2.2.1.len hrl;rw [show tx nm=.string sn by rw [NM.out.1]] at hfi;go_wp2_with fail;refine hfi.mono ?_;rintro e w7 ⟨r7,rfl,R7,hw7⟩;rw [hw7];clear hw7 w7 hfi
    rcases R7.out with ⟨q1,q2⟩ | ⟨q1,i7,q2⟩
    ·subst q2
     have eg:g=false:=by rw [<- HF.out,if_neg (by omega),if_pos h0]; exact q1
     have es:=FL.out.1 eg;subst eg es;clear q1 h0;go_wp2;refine bodyPost_ret (v:=.tuple #[rm d (.slice fa fl fc) (.slice oa on oc) (.slice ra rn rc) (.slice ta tn tc),.bool false]) ?_ rfl ⟨_,rfl,?_⟩
     ·simp [results,Tryz.f113];go_simp
     ·exact Zai P6.out.1.bel (RB.out _ P6.out.1.bel) (Zad _ _ _ _ _ _ _ _ _ _ _)
    ·subst q2
     have p7:¬ (i7:Int)<0:=by omega
     have p8:(0:Int)<=(i7:Int):=by omega
     have eg:g=true:=by rw [<- HF.out,if_neg (by omega),if_pos h0]; exact q1
     have es:st'={ st with refs:=nout st.refs nm }:=by rw [FL.out.2 eg]; unfold St.take; rw [if_pos rfl]; rw [show labI (4,body).2=i from NM.out.2.2.1,if_pos h0,show labN (4,body).2=nm from NM.out.2.1]
     subst eg es;have hwo:=Zc5 (c:=rc) st.refs nm w6 (L.out.2.2.1.rd.below P6.out.1.bel) L.out.2.2.1.len hrl;rw [show tx nm=.string sn by rw [NM.out.1]] at hwo;clear q1 h0;go_wp2_with fail;refine hwo.mono ?_;rintro e w8 ⟨v8,rfl,R8⟩;obtain ⟨a8,c8,e8,lg8⟩:=LG.ofOwn (Z:=Zx Z w) R8.out.1 (λ i q=>by have:=HZ.out i q; have:=P6.out.1.size; omega)
     obtain ⟨n8,hn8⟩:∃ n8,(nout st.refs nm).length=n8:=⟨_,rfl⟩
     rw [hn8] at e8 lg8;subst e8
     have P8:Hid (Tri w w8 d (.slice fa fl fc) (.slice oa on oc) (.slice ra rn rc) (.slice ta tn tc) 4 s/\LG encN (Zx Z w) w8 a8 n8 c8 (nout st.refs nm)):=⟨P6.out.1.below R8.out.2,lg8⟩
     have f7:=P8.out.1.box.thaw 7;have l0:=P8.out.1.box.lt
     have ne2:w.heap.size≠w.heap.size+2:=by omega
     clear hwo lg8 hn8 R8 n0 n1;clear x0 x1 x2 x3 x4 x5 x6 x7 x8 y0 y1 z0 z1 z2 z3 z4 z5 z6 z7 z8 g0 g1 g2 g3 g4 g5 g6 g7 g8 l2;obtain ⟨x0,x1,x2,x3,x4,x5,x6,x7,x8⟩:=P8.out.1.box.cells;obtain ⟨y0,y1⟩:=P8.out.1.fr.cells;obtain ⟨z0,z1,z2,z3,z4,z5,z6,z7,z8⟩:=P8.out.1.res.cells;have gz:=P8.out.1.res.thaw;have g0:=gz 0;have g1:=gz 1;have g2:=gz 2;have g3:=gz 3;have g4:=gz 4;have g5:=gz 5;have g6:=gz 6;have g7:=gz 7;have g8:=gz 8;have l2:=P8.out.1.res.lt;clear gz;go_wp2;refine bodyPost_ret (v:=.tuple #[rm d (.slice fa fl fc) (.slice oa on oc) (.slice a8 n8 c8) (.slice ta tn tc),.bool true]) ?_ rfl ⟨_,rfl,?_⟩
     ·simp [results,Tryz.f113];go_simp
     ·exact ZaV P8.out.1.bel (⟨fa,fl,fc,oa,on,oc,a8,n8,c8,ta,tn,tc,rfl,L.out.1.below P8.out.1.bel,L.out.2.1.below P8.out.1.bel,P8.out.2,L.out.2.2.2.below P8.out.1.bel⟩) rfl (Zad _ _ _ _ _ _ _ _ _ _ _)
   ·have m1:(xi==0)=false:=by
     rw [<- NM.out.2.2.2]
     have:=λ z=>h0 ((ZaP i).1 z)
     simpa using this
    cases q with
    | false =>
     have eg:g=false:=by rw [<- HF.out,if_neg (by omega),if_neg h0]
     have es:=FL.out.1 eg;subst eg es;clear h0;go_wp2;refine bodyPost_ret (v:=.tuple #[rm d (.slice fa fl fc) (.slice oa on oc) (.slice ra rn rc) (.slice ta tn tc),.bool false]) ?_ rfl ⟨_,rfl,?_⟩
     ·simp [results,Tryz.f113];go_simp
     ·exact Zai P6.out.1.bel (RB.out _ P6.out.1.bel) (Zad _ _ _ _ _ _ _ _ _ _ _)
    | true =>
     have eg:g=true:=by rw [<- HF.out,if_neg (by omega),if_neg h0]
     have es:st'={ st with refs:=nwith st.refs nm i }:=by rw [FL.out.2 eg]; unfold St.take; rw [if_pos rfl]; rw [show labI (4,body).2=i from NM.out.2.2.1,if_neg h0,show labN (4,body).2=nm from NM.out.2.1]
     subst eg es;clear h0;have hwi:=ZfO (c:=rc) st.refs nm i w6 (L.out.2.2.1.rd.below P6.out.1.bel) L.out.2.2.1.len hrl;rw [show tx nm=.string sn by rw [NM.out.1],NM.out.2.2.2] at hwi;go_wp2_with fail;refine hwi.mono ?_;rintro e w8 ⟨v8,rfl,R8⟩;obtain ⟨a8,c8,e8,lg8⟩:=LG.ofOwn (Z:=Zx Z w) R8.out.1 (λ i q=>by have:=HZ.out i q; have:=P6.out.1.size; omega)
     obtain ⟨n8,hn8⟩:∃ n8,(nwith st.refs nm i).length=n8:=⟨_,rfl⟩
     rw [hn8] at e8 lg8;subst e8
     have P8:Hid (Tri w w8 d (.slice fa fl fc) (.slice oa on oc) (.slice ra rn rc) (.slice ta tn tc) 4 s/\LG encN (Zx Z w) w8 a8 n8 c8 (nwith st.refs nm i)):=⟨P6.out.1.below R8.out.2,lg8⟩
     have f7:=P8.out.1.box.thaw 7;have l0:=P8.out.1.box.lt
     have ne2:w.heap.size≠w.heap.size+2:=by omega
     clear hwi lg8 hn8 R8 n0 n1;clear x0 x1 x2 x3 x4 x5 x6 x7 x8 y0 y1 z0 z1 z2 z3 z4 z5 z6 z7 z8 g0 g1 g2 g3 g4 g5 g6 g7 g8 l2;obtain ⟨x0,x1,x2,x3,x4,x5,x6,x7,x8⟩:=P8.out.1.box.cells;obtain ⟨y0,y1⟩:=P8.out.1.fr.cells;obtain ⟨z0,z1,z2,z3,z4,z5,z6,z7,z8⟩:=P8.out.1.res.cells;have gz:=P8.out.1.res.thaw;have g0:=gz 0;have g1:=gz 1;have g2:=gz 2;have g3:=gz 3;have g4:=gz 4;have g5:=gz 5;have g6:=gz 6;have g7:=gz 7;have g8:=gz 8;have l2:=P8.out.1.res.lt;clear gz;go_wp2;refine bodyPost_ret (v:=.tuple #[rm d (.slice fa fl fc) (.slice oa on oc) (.slice a8 n8 c8) (.slice ta tn tc),.bool true]) ?_ rfl ⟨_,rfl,?_⟩
     ·simp [results,Tryz.f113];go_simp
     ·exact ZaV P8.out.1.bel (⟨fa,fl,fc,oa,on,oc,a8,n8,c8,ta,tn,tc,rfl,L.out.1.below P8.out.1.bel,L.out.2.1.below P8.out.1.bel,P8.out.2,L.out.2.2.2.below P8.out.1.bel⟩) rfl (Zad _ _ _ _ _ _ _ _ _ _ _)
theorem ZjU {Z:Nat->Prop} {w:World} {st:St} {d:Dk} {fa oa ra ta:Option Addr} {fl fc on oc rn rc tn tc:Nat} (hZ:∀ i,Z i->i<w.heap.size) (h1:LG encF Z w fa fl fc d.files) (h2:LG encO Z w oa on oc st.objs) (h3:LG encN Z w ra rn rc st.refs) (h4:LG encN Z w ta tn tc st.tags) (hsz:st.size<=1000000) (body:Bs) (hbl:body.length<=1000000) :
  Calls Tryz.prog 113 #[rm d (.slice fa fl fc) (.slice oa on oc) (.slice ra rn rc) (.slice ta tn tc),.agg #[.int .i64 5,tx body]] w λ e w'=>∃ m',e=.returned (.tuple #[m',.bool (st.fits (5,body))])/\Hid (RMS Z w' m' (if st.fits (5,body) then st.take (5,body) else st) d/\Below w.heap.size w w'):=by
 have hq:st.objs.length<=1000000/\st.refs.length<=1000000/\st.tags.length<=1000000:=by unfold St.size at hsz; omega
 have ho:on<=1000000:=by rw [<- h2.len]; exact hq.1
 have hrl:rn<=1000000:=by rw [<- h3.len]; exact hq.2.1
 have htl:tn<=1000000:=by rw [<- h4.len]; exact hq.2.2
 obtain ⟨s,hs⟩:∃ s:ByteArray,s=⟨body.toArray⟩:=⟨_,rfl⟩
 have hss:s.size=body.length:=by rw [hs]; show body.toArray.size=_; simp
 obtain ⟨g,hg⟩:∃ g,st.fits (5,body)=g:=⟨_,rfl⟩
 obtain ⟨st',hst'⟩:∃ st',(if st.fits (5,body) then st.take (5,body) else st)=st':=⟨_,rfl⟩
 rw [hst',hg,show tx body=.string s by rw [hs]]
 obtain ⟨W,hW⟩:∃ W,((w.alloc (nineC d (.slice fa fl fc) (.slice oa on oc) (.slice ra rn rc) (.slice ta tn tc))).alloc (.cells #[.int .i64 5,.string s] 214)).alloc (.cells #[.slice none 0 0,.int .i64 0,.bool false,.bool false,.int .i64 0,.int .i64 0,.slice none 0 0,.slice none 0 0,.slice none 0 0] 32)=W:=⟨_,rfl⟩
 have P0:Hid (Tri w W d (.slice fa fl fc) (.slice oa on oc) (.slice ra rn rc) (.slice ta tn tc) 5 s):=by rw [<- hW]; exact Tri.new w d _ _ _ _ _ _
 have zx:∀ i,i<w.heap.size->Zx Z w i->Z i:=λ i hi q=>q.elim (λ q=>q) (λ q=>by omega)
 have L:Hid (LG encF (Zx Z w) w fa fl fc d.files/\LG encO (Zx Z w) w oa on oc st.objs/\LG encN (Zx Z w) w ra rn rc st.refs/\LG encN (Zx Z w) w ta tn tc st.tags):=⟨h1.into zx,h2.into zx,h3.into zx,h4.into zx⟩
 have RB:Hid (∀ W',Below w.heap.size w W'->RMS (Zx Z w) W' (rm d (.slice fa fl fc) (.slice oa on oc) (.slice ra rn rc) (.slice ta tn tc)) st d):=λ W' b=>⟨fa,fl,fc,oa,on,oc,ra,rn,rc,ta,tn,tc,rfl,L.out.1.below b,L.out.2.1.below b,L.out.2.2.1.below b,L.out.2.2.2.below b⟩
 have HZ:Hid (∀ i,Zx Z w i->i<w.heap.size+3):=λ i q=>q.elim (λ q=>by have:=hZ i q; omega) (λ q=>q.2)
 have HS:Hid (s=⟨body.toArray⟩/\(if st.fits (5,body) then st.take (5,body) else st)=st'/\st.fits (5,body)=g/\s.size=body.length):=⟨hs,hst',hg,hss⟩
 have ok9:¬ 9223372036854775807<s.size:=by omega
 have falls:g=false->st'=st:=λ q=>by rw [<- HS.out.2.1,HS.out.2.2.1,q]; rfl
 have fall:g=true->st'=st.take (5,body):=λ q=>by rw [<- HS.out.2.1,HS.out.2.2.1,q]; rfl
 obtain ⟨x0,x1,x2,x3,x4,x5,x6,x7,x8⟩:=P0.out.box.cells;obtain ⟨y0,y1⟩:=P0.out.fr.cells;obtain ⟨z0,z1,z2,z3,z4,z5,z6,z7,z8⟩:=P0.out.res.cells;have gz:=P0.out.res.thaw;have g0:=gz 0;have g1:=gz 1;have g2:=gz 2;have g3:=gz 3;have g4:=gz 4;have g5:=gz 5;have g6:=gz 6;have g7:=gz 7;have g8:=gz 8;have l2:=P0.out.res.lt;clear gz;have hf:=HS.out.2.2.1;unfold St.fits at hf;rw [if_pos (by simp)] at hf;simp only at hf;by_cases h8:body.length<8
 ·have t8:(s.size:Int)<8:=by omega
  have t8n:s.size<8:=by omega
  have eg:g=false:=by rw [<- hf,show decide (8<=body.length)=false by simp; omega]; rfl
  have es:=falls eg;subst eg es;clear h1 h2 h3 h4 hq hf hs hg hst' zx falls fall hss;go_enter Tryz.func113,Tryz.ntmps113;go_wp2;refine bodyPost_ret (v:=.tuple #[rm d (.slice fa fl fc) (.slice oa on oc) (.slice ra rn rc) (.slice ta tn tc),.bool false]) ?_ rfl ⟨_,rfl,?_⟩
  ·simp [results,Tryz.f113];go_simp
  ·exact Zai P0.out.bel (RB.out _ P0.out.bel) (Zad _ _ _ _ _ _ _ _ _ _ _)
 have t8:¬ (s.size:Int)<8:=by omega
 have t8n:¬ s.size<8:=by omega
 have t8m:8<=s.size:=by omega
 rw [show decide (8<=body.length)=true by simp; omega,Bool.true_and] at hf
 obtain ⟨nm,hnm⟩:∃ nm,labN body=nm:=⟨_,rfl⟩
 obtain ⟨i,hi⟩:∃ i,labI body=i:=⟨_,rfl⟩
 rw [hnm,hi] at hf
 obtain ⟨sn,hsn⟩:∃ sn:ByteArray,s.extract 8 s.size=sn:=⟨_,rfl⟩
 obtain ⟨sh,hsh⟩:∃ sh:ByteArray,s.extract 0 8=sh:=⟨_,rfl⟩
 have esn:sn=⟨nm.toArray⟩:=by rw [<- hsn,ZeU,HS.out.1,<- hnm]; rfl
 have esh:sh=⟨(body.take 8).toArray⟩:=by rw [<- hsh,ZbV,HS.out.1]
 have hval:val sh.data.toList=i.toNat:=by rw [esh,<- hi]; exact (Zbe (l:=body.take 8) (by rw [List.length_take]; omega)).symm
 have hshs:sh.size<=8:=by rw [esh]; show (body.take 8).toArray.size<=8; simp; omega
 have hsns:sn.size<=1000000:=by rw [esn,<- hnm]; show (labN body).toArray.size<=_; unfold labN; simp; omega
 have ena:sn.data.toList=nm:=by rw [esn]
 have hna:=λ W'=>Zap sn (by omega) W'
 rw [ena] at hna
 have hva:=λ W'=>ZaH sh hshs W'
 rw [hval] at hva
 obtain ⟨xi,hxi⟩:∃ xi:Int,(i.toNat:Int)=xi:=⟨_,rfl⟩
 rw [hxi] at hva
 have NM:Hid (sn=⟨nm.toArray⟩/\labN body=nm/\labI body=i/\(i.toNat:Int)=xi):=⟨esn,hnm,hi,hxi⟩
 cases e1:isName nm with
 | false =>
  replace hna:=hna W
  rw [e1] at hna
  have eg:g=false:=by rw [<- hf,e1]; rfl
  have es:=falls eg;subst eg es;clear h1 h2 h3 h4 hq hf hs hg hst' zx falls fall hva hss esn esh hval hshs ena hnm hi hxi;go_enter Tryz.func113,Tryz.ntmps113;go_wp2_with fail;refine hna.mono ?_;rintro e w1 ⟨rfl,hw1⟩;rw [hw1];clear hw1 w1;go_wp2;refine bodyPost_ret (v:=.tuple #[rm d (.slice fa fl fc) (.slice oa on oc) (.slice ra rn rc) (.slice ta tn tc),.bool false]) ?_ rfl ⟨_,rfl,?_⟩
  ·simp [results,Tryz.f113];go_simp
  ·exact Zai P0.out.bel (RB.out _ P0.out.bel) (Zad _ _ _ _ _ _ _ _ _ _ _)
 | true =>
  replace hna:=hna W
  rw [e1] at hna;rw [e1,Bool.true_and] at hf;clear h1 h2 h3 h4 hs hg hst' zx hss esn esh hval hshs ena hnm hi hxi;go_enter Tryz.func113,Tryz.ntmps113;go_wp2_with fail;refine hna.mono ?_;rintro e w1 ⟨rfl,hw1⟩;rw [hw1];clear hw1 w1
  go_upto_region 4 with fail
  have HVA:Hid (∀ W',Calls Tryz.prog 102 #[.string sh] W' λ e w'=>e=.returned (.int .u64 xi)/\w'=W'):=hva;clear hva;go_cut [6] (λ cv u=>cv=.pointer (some ⟨W.heap.size,0,none⟩)/\Hid (Tri w u d (.slice fa fl fc) (.slice oa on oc) (.slice ra rn rc) (.slice ta tn tc) 5 s/\Box u W.heap.size 146 (.string sn) (.int .u64 xi)))
  case first =>
   go_region_held3 (λ u=>u.cell? ⟨w.heap.size+1,0,none⟩=some (.int .i64 5)/\u.cell? ⟨w.heap.size+1,1,none⟩=some (.string s)) (go_keep)
    (first | (go_at_call 102; refine (HVA.out _).mono ?_; rintro e w1 ⟨rfl,hw1⟩; rw [hw1]; clear hw1 w1))
   all_goals
    go_wp2_with fail;go_meet;exact ⟨rfl,Zfo P0.out _ _ _⟩
  case rest =>
   obtain ⟨rfl,HX⟩:=hcut;clear x0 x1 x2 x3 x4 x5 x6 x7 x8 y0 y1 z0 z1 z2 z3 z4 z5 z6 z7 z8 g0 g1 g2 g3 g4 g5 g6 g7 g8 l2;obtain ⟨x0,x1,x2,x3,x4,x5,x6,x7,x8⟩:=HX.out.1.box.cells;obtain ⟨y0,y1⟩:=HX.out.1.fr.cells;obtain ⟨z0,z1,z2,z3,z4,z5,z6,z7,z8⟩:=HX.out.1.res.cells;have gz:=HX.out.1.res.thaw;have g0:=gz 0;have g1:=gz 1;have g2:=gz 2;have g3:=gz 3;have g4:=gz 4;have g5:=gz 5;have g6:=gz 6;have g7:=gz 7;have g8:=gz 8;have l2:=HX.out.1.res.lt;clear gz;obtain ⟨n0,n1⟩:=HX.out.2.cells
   obtain ⟨q,hqq⟩:∃ q,st.has 3 i=q:=⟨_,rfl⟩
   have hh:=ZaA (d:=d) (oc:=oc) (vf:=.slice fa fl fc) (vr:=.slice ra rn rc) (vt:=.slice ta tn tc) (L.out.2.1.rd.below HX.out.1.bel) L.out.2.1.len ho 3 i q hqq;rw [NM.out.2.2.2] at hh;rw [hqq] at hf;have HF:Hid _:=hf
   have FL:Hid ((g=false->st'=st)/\(g=true->st'=st.take (5,body))):=⟨falls,fall⟩
   have HQ:Hid (st.has 3 i=q):=hqq;clear hf falls fall hqq hq;go_wp2_with fail;refine hh.mono ?_;rintro e w6 ⟨rfl,B6⟩
   have P6:Hid (Tri w w6 d (.slice fa fl fc) (.slice oa on oc) (.slice ra rn rc) (.slice ta tn tc) 5 s/\Box w6 W.heap.size 146 (.string sn) (.int .u64 xi)):=⟨HX.out.1.below B6,HX.out.2.below B6⟩
   clear hh B6 HX n0 n1;clear x0 x1 x2 x3 x4 x5 x6 x7 x8 y0 y1 z0 z1 z2 z3 z4 z5 z6 z7 z8 g0 g1 g2 g3 g4 g5 g6 g7 g8 l2;obtain ⟨x0,x1,x2,x3,x4,x5,x6,x7,x8⟩:=P6.out.1.box.cells;obtain ⟨y0,y1⟩:=P6.out.1.fr.cells;obtain ⟨z0,z1,z2,z3,z4,z5,z6,z7,z8⟩:=P6.out.1.res.cells;have gz:=P6.out.1.res.thaw;have g0:=gz 0;have g1:=gz 1;have g2:=gz 2;have g3:=gz 3;have g4:=gz 4;have g5:=gz 5;have g6:=gz 6;have g7:=gz 7;have g8:=gz 8;have l2:=P6.out.1.res.lt;clear gz;obtain ⟨n0,n1⟩:=P6.out.2.cells
   cases q with
   | false =>
    have eg:g=false:=by rw [<- HF.out]; simp
    have es:=FL.out.1 eg;subst eg es;go_wp2;refine bodyPost_ret (v:=.tuple #[rm d (.slice fa fl fc) (.slice oa on oc) (.slice ra rn rc) (.slice ta tn tc),.bool false]) ?_ rfl ⟨_,rfl,?_⟩
    ·simp [results,Tryz.f113];go_simp
    ·exact Zai P6.out.1.bel (RB.out _ P6.out.1.bel) (Zad _ _ _ _ _ _ _ _ _ _ _)
   | true =>
    have hfi:=ZbZ (c:=tc) st.tags nm w6 (L.out.2.2.2.rd.below P6.out.1.bel) L.out.2.2.2.len htl;rw [show tx nm=.string sn by rw [NM.out.1]] at hfi;go_wp2_with fail;refine hfi.mono ?_;rintro e w7 ⟨r7,rfl,R7,hw7⟩;rw [hw7];clear hw7 w7 hfi
    rcases R7.out with ⟨q1,q2⟩ | ⟨q1,i7,q2⟩
    ·subst q2
     have eg:g=true:=by rw [<- HF.out]; simp [q1]
     have es:st'={ st with tags:=nwith st.tags nm i }:=by rw [FL.out.2 eg]; unfold St.take; rw [if_neg (by show ¬ (5:Int)=4; omega),if_pos rfl]; rw [show labI (5,body).2=i from NM.out.2.2.1,show labN (5,body).2=nm from NM.out.2.1]
     subst eg es;clear q1;have hwi:=ZfO (c:=tc) st.tags nm i w6 (L.out.2.2.2.rd.below P6.out.1.bel) L.out.2.2.2.len htl;rw [show tx nm=.string sn by rw [NM.out.1],NM.out.2.2.2] at hwi;go_wp2_with fail;refine hwi.mono ?_;rintro e w8 ⟨v8,rfl,R8⟩;obtain ⟨a8,c8,e8,lg8⟩:=LG.ofOwn (Z:=Zx Z w) R8.out.1 (λ i q=>by have:=HZ.out i q; have:=P6.out.1.size; omega)
     obtain ⟨n8,hn8⟩:∃ n8,(nwith st.tags nm i).length=n8:=⟨_,rfl⟩
     rw [hn8] at e8 lg8;subst e8
     have P8:Hid (Tri w w8 d (.slice fa fl fc) (.slice oa on oc) (.slice ra rn rc) (.slice ta tn tc) 5 s/\LG encN (Zx Z w) w8 a8 n8 c8 (nwith st.tags nm i)):=⟨P6.out.1.below R8.out.2,lg8⟩
     have f7:=P8.out.1.box.thaw 8;have l0:=P8.out.1.box.lt
     have ne2:w.heap.size≠w.heap.size+2:=by omega
     clear hwi lg8 hn8 R8 n0 n1;clear x0 x1 x2 x3 x4 x5 x6 x7 x8 y0 y1 z0 z1 z2 z3 z4 z5 z6 z7 z8 g0 g1 g2 g3 g4 g5 g6 g7 g8 l2;obtain ⟨x0,x1,x2,x3,x4,x5,x6,x7,x8⟩:=P8.out.1.box.cells;obtain ⟨y0,y1⟩:=P8.out.1.fr.cells;obtain ⟨z0,z1,z2,z3,z4,z5,z6,z7,z8⟩:=P8.out.1.res.cells;have gz:=P8.out.1.res.thaw;have g0:=gz 0;have g1:=gz 1;have g2:=gz 2;have g3:=gz 3;have g4:=gz 4;have g5:=gz 5;have g6:=gz 6;have g7:=gz 7;have g8:=gz 8;have l2:=P8.out.1.res.lt;clear gz;go_wp2;refine bodyPost_ret (v:=.tuple #[rm d (.slice fa fl fc) (.slice oa on oc) (.slice ra rn rc) (.slice a8 n8 c8),.bool true]) ?_ rfl ⟨_,rfl,?_⟩
     ·simp [results,Tryz.f113];go_simp
     ·exact ZaV P8.out.1.bel (⟨fa,fl,fc,oa,on,oc,ra,rn,rc,a8,n8,c8,rfl,L.out.1.below P8.out.1.bel,L.out.2.1.below P8.out.1.bel,L.out.2.2.1.below P8.out.1.bel,P8.out.2⟩) rfl (Zad _ _ _ _ _ _ _ _ _ _ _)
    ·subst q2
     have p7:(0:Int)<=(i7:Int):=by omega
     have eg:g=false:=by rw [<- HF.out]; simp [q1]
     have es:=FL.out.1 eg;subst eg es;clear q1;go_wp2;refine bodyPost_ret (v:=.tuple #[rm d (.slice fa fl fc) (.slice oa on oc) (.slice ra rn rc) (.slice ta tn tc),.bool false]) ?_ rfl ⟨_,rfl,?_⟩
     ·simp [results,Tryz.f113];go_simp
     ·exact Zai P6.out.1.bel (RB.out _ P6.out.1.bel) (Zad _ _ _ _ _ _ _ _ _ _ _)
theorem Zjy {Z:Nat->Prop} {w:World} {st:St} {d:Dk} {fa oa ra ta:Option Addr} {fl fc on oc rn rc tn tc:Nat} (hZ:∀ i,Z i->i<w.heap.size) (h1:LG encF Z w fa fl fc d.files) (h2:LG encO Z w oa on oc st.objs) (h3:LG encN Z w ra rn rc st.refs) (h4:LG encN Z w ta tn tc st.tags) (hsz:st.size<=1000000) (k:Int) (hk4:¬ k=4) (hk5:¬ k=5) (body:Bs) (hbl:body.length<=1000000) (hodd:k<1∨3<k∨oid k body=0∨st.has k (oid k body)=true) :
  Calls Tryz.prog 113 #[rm d (.slice fa fl fc) (.slice oa on oc) (.slice ra rn rc) (.slice ta tn tc),.agg #[.int .i64 k,tx body]] w λ e w'=>∃ m',e=.returned (.tuple #[m',.bool (st.fits (k,body))])/\Hid (RMS Z w' m' (if st.fits (k,body) then st.take (k,body) else st) d/\Below w.heap.size w w'):=by
 have hq:st.objs.length<=1000000/\st.refs.length<=1000000/\st.tags.length<=1000000:=by unfold St.size at hsz; omega
 have ho:on<=1000000:=by rw [<- h2.len]; exact hq.1
 have hrl:rn<=1000000:=by rw [<- h3.len]; exact hq.2.1
 have htl:tn<=1000000:=by rw [<- h4.len]; exact hq.2.2
 obtain ⟨s,hs⟩:∃ s:ByteArray,s=⟨body.toArray⟩:=⟨_,rfl⟩
 have hss:s.size=body.length:=by rw [hs]; show body.toArray.size=_; simp
 obtain ⟨g,hg⟩:∃ g,st.fits (k,body)=g:=⟨_,rfl⟩
 obtain ⟨st',hst'⟩:∃ st',(if st.fits (k,body) then st.take (k,body) else st)=st':=⟨_,rfl⟩
 rw [hst',hg,show tx body=.string s by rw [hs]]
 obtain ⟨W,hW⟩:∃ W,((w.alloc (nineC d (.slice fa fl fc) (.slice oa on oc) (.slice ra rn rc) (.slice ta tn tc))).alloc (.cells #[.int .i64 k,.string s] 214)).alloc (.cells #[.slice none 0 0,.int .i64 0,.bool false,.bool false,.int .i64 0,.int .i64 0,.slice none 0 0,.slice none 0 0,.slice none 0 0] 32)=W:=⟨_,rfl⟩
 have P0:Hid (Tri w W d (.slice fa fl fc) (.slice oa on oc) (.slice ra rn rc) (.slice ta tn tc) k s):=by rw [<- hW]; exact Tri.new w d _ _ _ _ _ _
 have zx:∀ i,i<w.heap.size->Zx Z w i->Z i:=λ i hi q=>q.elim (λ q=>q) (λ q=>by omega)
 have L:Hid (LG encF (Zx Z w) w fa fl fc d.files/\LG encO (Zx Z w) w oa on oc st.objs/\LG encN (Zx Z w) w ra rn rc st.refs/\LG encN (Zx Z w) w ta tn tc st.tags):=⟨h1.into zx,h2.into zx,h3.into zx,h4.into zx⟩
 have RB:Hid (∀ W',Below w.heap.size w W'->RMS (Zx Z w) W' (rm d (.slice fa fl fc) (.slice oa on oc) (.slice ra rn rc) (.slice ta tn tc)) st d):=λ W' b=>⟨fa,fl,fc,oa,on,oc,ra,rn,rc,ta,tn,tc,rfl,L.out.1.below b,L.out.2.1.below b,L.out.2.2.1.below b,L.out.2.2.2.below b⟩
 have HZ:Hid (∀ i,Zx Z w i->i<w.heap.size+3):=λ i q=>q.elim (λ q=>by have:=hZ i q; omega) (λ q=>q.2)
 have HS:Hid (s=⟨body.toArray⟩/\(if st.fits (k,body) then st.take (k,body) else st)=st'/\st.fits (k,body)=g/\s.size=body.length):=⟨hs,hst',hg,hss⟩
 have sk4:(k==4)=false:=by simpa using hk4
 have sk5:(k==5)=false:=by simpa using hk5
 have falls:g=false->st'=st:=λ q=>by rw [<- HS.out.2.1,HS.out.2.2.1,q]; rfl
 have fall:g=true->st'={ st with objs:=st.objs++[⟨k,oid k body,body⟩] }:=λ q=>by rw [<- HS.out.2.1,HS.out.2.2.1,q,if_pos rfl]; unfold St.take; rw [if_neg (by exact hk4),if_neg (by exact hk5)]
 have hf:(st.right (k,body)&&!(decide (oid k body=0))&&!(st.has k (oid k body)))=g:=by
  rw [<- HS.out.2.2.1];unfold St.fits;rw [if_neg (by show ¬ (k=4∨k=5); omega)]
 obtain ⟨x,hx⟩:∃ x,oid k body=x:=⟨_,rfl⟩
 rw [hx] at hf fall;obtain ⟨W1,cc,hcv,bW1,sW1,raw1,cap1,cap2⟩:=Zbl W body;rw [show tx body=.string s by rw [HS.out.1],<- hss] at hcv;have hid:=ZdN k W1 (raw1.at cap1 (cap2 (by simp only [maxLen]; omega))) x hx;rw [<- hss] at hid
 obtain ⟨xi,hxi⟩:∃ xi:Int,(x.toNat:Int)=xi:=⟨_,rfl⟩
 rw [hxi] at hid;have P1:Hid (Tri w W1 d (.slice fa fl fc) (.slice oa on oc) (.slice ra rn rc) (.slice ta tn tc) k s):=P0.out.below bW1;have XI:Hid ((x.toNat:Int)=xi):=hxi
 have ok9:¬ 9223372036854775807<s.size:=by omega
 rw [hx] at hodd
 have eg:g=false:=by
  rw [<- hf]
  rcases hodd with q | q | q | q
  ·rw [show st.right (k,body)=false by unfold St.right; rw [if_neg (by show ¬ k=1; omega),if_neg (by show ¬ k=2; omega),if_neg (by show ¬ k=3; omega)]]; rfl
  ·rw [show st.right (k,body)=false by unfold St.right; rw [if_neg (by show ¬ k=1; omega),if_neg (by show ¬ k=2; omega),if_neg (by show ¬ k=3; omega)]]; rfl
  ·simp [q]
  ·simp [q]
 have es:=(falls eg).symm;subst eg es
 have hh:=λ q hq=>ZaA (d:=d) (oc:=oc) (vf:=.slice fa fl fc) (vr:=.slice ra rn rc) (vt:=.slice ta tn tc) (L.out.2.1.rd.below P1.out.bel) L.out.2.1.len ho k x q hq
 rw [hxi] at hh;have u0:=ZaP x;rw [hxi] at u0;by_cases c1:k<1
 ·clear hodd hh u0;obtain ⟨v0,v1⟩:=P0.out.fr.cells;clear h1 h2 h3 h4 hs hg hst' zx hss bW1 sW1 raw1 cap1 cap2 hxi hx hf falls fall hq;obtain ⟨x0,x1,x2,x3,x4,x5,x6,x7,x8⟩:=P1.out.box.cells;obtain ⟨y0,y1⟩:=P1.out.fr.cells;obtain ⟨z0,z1,z2,z3,z4,z5,z6,z7,z8⟩:=P1.out.res.cells;have gz:=P1.out.res.thaw;have g0:=gz 0;have g1:=gz 1;have g2:=gz 2;have g3:=gz 3;have g4:=gz 4;have g5:=gz 5;have g6:=gz 6;have g7:=gz 7;have g8:=gz 8;have l2:=P1.out.res.lt;clear gz;go_enter Tryz.func113,Tryz.ntmps113;go_wp2_with fail;refine hid.mono ?_;rintro e w1 ⟨rfl,hw1⟩;rw [hw1];clear hw1 w1 hid;go_wp2;refine bodyPost_ret (v:=.tuple #[rm d (.slice fa fl fc) (.slice oa on oc) (.slice ra rn rc) (.slice ta tn tc),.bool false]) ?_ rfl ⟨_,rfl,?_⟩
  ·simp [results,Tryz.f113];go_simp
  ·exact Zai P1.out.bel (RB.out _ P1.out.bel) (Zad _ _ _ _ _ _ _ _ _ _ _)
 by_cases c2:3<k
 ·clear hodd hh u0;obtain ⟨v0,v1⟩:=P0.out.fr.cells;clear h1 h2 h3 h4 hs hg hst' zx hss bW1 sW1 raw1 cap1 cap2 hxi hx hf falls fall hq;obtain ⟨x0,x1,x2,x3,x4,x5,x6,x7,x8⟩:=P1.out.box.cells;obtain ⟨y0,y1⟩:=P1.out.fr.cells;obtain ⟨z0,z1,z2,z3,z4,z5,z6,z7,z8⟩:=P1.out.res.cells;have gz:=P1.out.res.thaw;have g0:=gz 0;have g1:=gz 1;have g2:=gz 2;have g3:=gz 3;have g4:=gz 4;have g5:=gz 5;have g6:=gz 6;have g7:=gz 7;have g8:=gz 8;have l2:=P1.out.res.lt;clear gz;go_enter Tryz.func113,Tryz.ntmps113;go_wp2_with fail;refine hid.mono ?_;rintro e w1 ⟨rfl,hw1⟩;rw [hw1];clear hw1 w1 hid;go_wp2;refine bodyPost_ret (v:=.tuple #[rm d (.slice fa fl fc) (.slice oa on oc) (.slice ra rn rc) (.slice ta tn tc),.bool false]) ?_ rfl ⟨_,rfl,?_⟩
  ·simp [results,Tryz.f113];go_simp
  ·exact Zai P1.out.bel (RB.out _ P1.out.bel) (Zad _ _ _ _ _ _ _ _ _ _ _)
 by_cases c3:x=0
 ·have z00:xi=0:=u0.2 c3;subst z00;clear hodd hh u0 c3;obtain ⟨v0,v1⟩:=P0.out.fr.cells;clear h1 h2 h3 h4 hs hg hst' zx hss bW1 sW1 raw1 cap1 cap2 hxi hx hf falls fall hq;obtain ⟨x0,x1,x2,x3,x4,x5,x6,x7,x8⟩:=P1.out.box.cells;obtain ⟨y0,y1⟩:=P1.out.fr.cells;obtain ⟨z0,z1,z2,z3,z4,z5,z6,z7,z8⟩:=P1.out.res.cells;have gz:=P1.out.res.thaw;have g0:=gz 0;have g1:=gz 1;have g2:=gz 2;have g3:=gz 3;have g4:=gz 4;have g5:=gz 5;have g6:=gz 6;have g7:=gz 7;have g8:=gz 8;have l2:=P1.out.res.lt;clear gz;go_enter Tryz.func113,Tryz.ntmps113;go_wp2_with fail;refine hid.mono ?_;rintro e w1 ⟨rfl,hw1⟩;rw [hw1];clear hw1 w1 hid;go_wp2;refine bodyPost_ret (v:=.tuple #[rm d (.slice fa fl fc) (.slice oa on oc) (.slice ra rn rc) (.slice ta tn tc),.bool false]) ?_ rfl ⟨_,rfl,?_⟩
  ·simp [results,Tryz.f113];go_simp
  ·exact Zai P1.out.bel (RB.out _ P1.out.bel) (Zad _ _ _ _ _ _ _ _ _ _ _)
 have c4:st.has k x=true:=by
  rcases hodd with q | q | q | q
  ·exact absurd q c1
  ·exact absurd q c2
  ·exact absurd q c3
  ·exact q
 have hh:=hh true c4
 have m1:(xi==0)=false:=by
  have:=λ z=>c3 (u0.1 z)
  simpa using this
 clear hodd u0 c3 c4;obtain ⟨v0,v1⟩:=P0.out.fr.cells;clear h1 h2 h3 h4 hs hg hst' zx hss bW1 sW1 raw1 cap1 cap2 hxi hx hf falls fall hq;obtain ⟨x0,x1,x2,x3,x4,x5,x6,x7,x8⟩:=P1.out.box.cells;obtain ⟨y0,y1⟩:=P1.out.fr.cells;obtain ⟨z0,z1,z2,z3,z4,z5,z6,z7,z8⟩:=P1.out.res.cells;have gz:=P1.out.res.thaw;have g0:=gz 0;have g1:=gz 1;have g2:=gz 2;have g3:=gz 3;have g4:=gz 4;have g5:=gz 5;have g6:=gz 6;have g7:=gz 7;have g8:=gz 8;have l2:=P1.out.res.lt;clear gz;go_enter Tryz.func113,Tryz.ntmps113;go_wp2_with fail;refine hid.mono ?_;rintro e w1 ⟨rfl,hw1⟩;rw [hw1];clear hw1 w1 hid;go_wp2_with fail;refine hh.mono ?_;rintro e w2 ⟨rfl,B2⟩;have P2:Hid (Tri w w2 d (.slice fa fl fc) (.slice oa on oc) (.slice ra rn rc) (.slice ta tn tc) k s):=P1.out.below B2;clear B2 hh;clear x0 x1 x2 x3 x4 x5 x6 x7 x8 y0 y1 z0 z1 z2 z3 z4 z5 z6 z7 z8 g0 g1 g2 g3 g4 g5 g6 g7 g8 l2;obtain ⟨x0,x1,x2,x3,x4,x5,x6,x7,x8⟩:=P2.out.box.cells;obtain ⟨y0,y1⟩:=P2.out.fr.cells;obtain ⟨z0,z1,z2,z3,z4,z5,z6,z7,z8⟩:=P2.out.res.cells;have gz:=P2.out.res.thaw;have g0:=gz 0;have g1:=gz 1;have g2:=gz 2;have g3:=gz 3;have g4:=gz 4;have g5:=gz 5;have g6:=gz 6;have g7:=gz 7;have g8:=gz 8;have l2:=P2.out.res.lt;clear gz;go_wp2;refine bodyPost_ret (v:=.tuple #[rm d (.slice fa fl fc) (.slice oa on oc) (.slice ra rn rc) (.slice ta tn tc),.bool false]) ?_ rfl ⟨_,rfl,?_⟩
 ·simp [results,Tryz.f113];go_simp
 ·exact Zai P2.out.bel (RB.out _ P2.out.bel) (Zad _ _ _ _ _ _ _ _ _ _ _)
theorem Zh2 {Z:Nat->Prop} {w:World} {st:St} {d:Dk} {fa oa ra ta:Option Addr} {fl fc on oc rn rc tn tc:Nat} (hZ:∀ i,Z i->i<w.heap.size) (h1:LG encF Z w fa fl fc d.files) (h2:LG encO Z w oa on oc st.objs) (h3:LG encN Z w ra rn rc st.refs) (h4:LG encN Z w ta tn tc st.tags) (hsz:st.size<=1000000) (body:Bs) (hbl:body.length<=1000000) (hne:¬ oid 1 body=0) (hno:st.has 1 (oid 1 body)=false) :
  Calls Tryz.prog 113 #[rm d (.slice fa fl fc) (.slice oa on oc) (.slice ra rn rc) (.slice ta tn tc),.agg #[.int .i64 1,tx body]] w λ e w'=>∃ m',e=.returned (.tuple #[m',.bool (st.fits (1,body))])/\Hid (RMS Z w' m' (if st.fits (1,body) then st.take (1,body) else st) d/\Below w.heap.size w w'):=by
 have hq:st.objs.length<=1000000/\st.refs.length<=1000000/\st.tags.length<=1000000:=by unfold St.size at hsz; omega
 have ho:on<=1000000:=by rw [<- h2.len]; exact hq.1
 have hrl:rn<=1000000:=by rw [<- h3.len]; exact hq.2.1
 have htl:tn<=1000000:=by rw [<- h4.len]; exact hq.2.2
 obtain ⟨s,hs⟩:∃ s:ByteArray,s=⟨body.toArray⟩:=⟨_,rfl⟩
 have hss:s.size=body.length:=by rw [hs]; show body.toArray.size=_; simp
 obtain ⟨g,hg⟩:∃ g,st.fits (1,body)=g:=⟨_,rfl⟩
 obtain ⟨st',hst'⟩:∃ st',(if st.fits (1,body) then st.take (1,body) else st)=st':=⟨_,rfl⟩
 rw [hst',hg,show tx body=.string s by rw [hs]]
 obtain ⟨W,hW⟩:∃ W,((w.alloc (nineC d (.slice fa fl fc) (.slice oa on oc) (.slice ra rn rc) (.slice ta tn tc))).alloc (.cells #[.int .i64 1,.string s] 214)).alloc (.cells #[.slice none 0 0,.int .i64 0,.bool false,.bool false,.int .i64 0,.int .i64 0,.slice none 0 0,.slice none 0 0,.slice none 0 0] 32)=W:=⟨_,rfl⟩
 have P0:Hid (Tri w W d (.slice fa fl fc) (.slice oa on oc) (.slice ra rn rc) (.slice ta tn tc) 1 s):=by rw [<- hW]; exact Tri.new w d _ _ _ _ _ _
 have zx:∀ i,i<w.heap.size->Zx Z w i->Z i:=λ i hi q=>q.elim (λ q=>q) (λ q=>by omega)
 have L:Hid (LG encF (Zx Z w) w fa fl fc d.files/\LG encO (Zx Z w) w oa on oc st.objs/\LG encN (Zx Z w) w ra rn rc st.refs/\LG encN (Zx Z w) w ta tn tc st.tags):=⟨h1.into zx,h2.into zx,h3.into zx,h4.into zx⟩
 have RB:Hid (∀ W',Below w.heap.size w W'->RMS (Zx Z w) W' (rm d (.slice fa fl fc) (.slice oa on oc) (.slice ra rn rc) (.slice ta tn tc)) st d):=λ W' b=>⟨fa,fl,fc,oa,on,oc,ra,rn,rc,ta,tn,tc,rfl,L.out.1.below b,L.out.2.1.below b,L.out.2.2.1.below b,L.out.2.2.2.below b⟩
 have HZ:Hid (∀ i,Zx Z w i->i<w.heap.size+3):=λ i q=>q.elim (λ q=>by have:=hZ i q; omega) (λ q=>q.2)
 have HS:Hid (s=⟨body.toArray⟩/\(if st.fits (1,body) then st.take (1,body) else st)=st'/\st.fits (1,body)=g/\s.size=body.length):=⟨hs,hst',hg,hss⟩
 have falls:g=false->st'=st:=λ q=>by rw [<- HS.out.2.1,HS.out.2.2.1,q]; rfl
 have fall:g=true->st'={ st with objs:=st.objs++[⟨1,oid 1 body,body⟩] }:=λ q=>by rw [<- HS.out.2.1,HS.out.2.2.1,q,if_pos rfl]; unfold St.take; rw [if_neg (by show ¬ (1:Int)=4; omega),if_neg (by show ¬ (1:Int)=5; omega)]
 have hf:(st.right (1,body)&&!(decide (oid 1 body=0))&&!(st.has 1 (oid 1 body)))=g:=by
  rw [<- HS.out.2.2.1];unfold St.fits;rw [if_neg (by show ¬ ((1:Int)=4∨(1:Int)=5); omega)]
 obtain ⟨x,hx⟩:∃ x,oid 1 body=x:=⟨_,rfl⟩
 rw [hx] at hf fall;obtain ⟨W1,cc,hcv,bW1,sW1,raw1,cap1,cap2⟩:=Zbl W body;rw [show tx body=.string s by rw [HS.out.1],<- hss] at hcv;have hid:=ZdN 1 W1 (raw1.at cap1 (cap2 (by simp only [maxLen]; omega))) x hx;rw [<- hss] at hid
 obtain ⟨xi,hxi⟩:∃ xi:Int,(x.toNat:Int)=xi:=⟨_,rfl⟩
 rw [hxi] at hid;have P1:Hid (Tri w W1 d (.slice fa fl fc) (.slice oa on oc) (.slice ra rn rc) (.slice ta tn tc) 1 s):=P0.out.below bW1;have XI:Hid ((x.toNat:Int)=xi):=hxi
 have ok9:¬ 9223372036854775807<s.size:=by omega
 rw [hx] at hne hno;have hh:=ZaA (d:=d) (oc:=oc) (vf:=.slice fa fl fc) (vr:=.slice ra rn rc) (vt:=.slice ta tn tc) (L.out.2.1.rd.below P1.out.bel) L.out.2.1.len ho 1 x false hno;rw [hxi] at hh;have u0:=ZaP x;rw [hxi] at u0
 have m1:(xi==0)=false:=by
  have:=λ z=>hne (u0.1 z)
  simpa using this
 have hf2:st.right (1,body)=g:=by
  rw [<- hf,hno];simp [hne]
 have FL:Hid ((g=false->st'=st)/\(g=true->st'={ st with objs:=st.objs++[⟨1,x,body⟩] })/\st.right (1,body)=g):=⟨falls,fall,hf2⟩
 have HL:Hid (s.size=body.length):=hss;have HB:Hid (body.length<=1000000):=hbl;clear u0 hne hno hf hf2 falls fall hq;by_cases h4:s.size<=4096
 ·have t4:¬ (4096:Int)<(s.size:Int):=by omega
  have t4n:¬ 4096<s.size:=by omega
  have eg:g=true:=by rw [<- FL.out.2.2]; unfold St.right; rw [if_pos rfl]; simp; have:=HL.out; omega
  have es:=FL.out.2.1 eg;subst eg es;obtain ⟨v0,v1⟩:=P0.out.fr.cells;clear h1 h2 h3 h4 hs hg hst' zx hss bW1 sW1 raw1 cap1 cap2 hxi hx hbl;obtain ⟨x0,x1,x2,x3,x4,x5,x6,x7,x8⟩:=P1.out.box.cells;obtain ⟨y0,y1⟩:=P1.out.fr.cells;obtain ⟨z0,z1,z2,z3,z4,z5,z6,z7,z8⟩:=P1.out.res.cells;have gz:=P1.out.res.thaw;have g0:=gz 0;have g1:=gz 1;have g2:=gz 2;have g3:=gz 3;have g4:=gz 4;have g5:=gz 5;have g6:=gz 6;have g7:=gz 7;have g8:=gz 8;have l2:=P1.out.res.lt;clear gz;go_enter Tryz.func113,Tryz.ntmps113;go_wp2_with fail;refine hid.mono ?_;rintro e w1 ⟨rfl,hw1⟩;rw [hw1];clear hw1 w1 hid;go_wp2_with fail;refine hh.mono ?_;rintro e w2 ⟨rfl,B2⟩;have P2:Hid (Tri w w2 d (.slice fa fl fc) (.slice oa on oc) (.slice ra rn rc) (.slice ta tn tc) 1 s):=P1.out.below B2;clear B2 hh;clear x0 x1 x2 x3 x4 x5 x6 x7 x8 y0 y1 z0 z1 z2 z3 z4 z5 z6 z7 z8 g0 g1 g2 g3 g4 g5 g6 g7 g8 l2;obtain ⟨x0,x1,x2,x3,x4,x5,x6,x7,x8⟩:=P2.out.box.cells;obtain ⟨y0,y1⟩:=P2.out.fr.cells;obtain ⟨z0,z1,z2,z3,z4,z5,z6,z7,z8⟩:=P2.out.res.cells;have gz:=P2.out.res.thaw;have g0:=gz 0;have g1:=gz 1;have g2:=gz 2;have g3:=gz 3;have g4:=gz 4;have g5:=gz 5;have g6:=gz 6;have g7:=gz 7;have g8:=gz 8;have l2:=P2.out.res.lt;clear gz
  go_wp2_with (first
   | (at_builtin; refine Zcj encO 133 29 32 _ rfl Tryz.info133 Tryz.underlying29 rfl (.tmp 159) (.tmp 161) rfl (w.heap.size+3) _ [] st.objs oa on oc rfl (OwnG.nil _ _ _ _) rfl (L.out.2.1.rd.below P2.out.bel) L.out.2.1.len (by simp; omega) (by simp only [maxLen]; simp; omega) P2.out.size ?_; intro v8 w8 o8 b8 m8 t8; have P8:Hid (Tri w w8 d (.slice fa fl fc) (.slice oa on oc) (.slice ra rn rc) (.slice ta tn tc) 1 s/\OwnG encO 133 w8 (w.heap.size+3) v8 st.objs):=⟨Zey P2.out b8,by simpa using o8⟩; clear o8 b8 m8 t8; clear x0 x1 x2 x3 x4 x5 x6 x7 x8 y0 y1 z0 z1 z2 z3 z4 z5 z6 z7 z8 g0 g1 g2 g3 g4 g5 g6 g7 g8 l2; obtain ⟨y0,y1⟩:=P8.out.1.fr.cells)
   | (at_builtin; refine Zak encO 133 29 32 _ rfl Tryz.info133 Tryz.underlying29 rfl (.tmp 163) (.tmp 170) rfl (w.heap.size+3) _ st.objs ⟨1,x,body⟩ 133 rfl P8.out.2 rfl (by rw [L.out.2.1.len]; omega) (by rw [L.out.2.1.len]; simp only [maxLen]; omega) P8.out.1.size _ (by rw [<- XI.out,HS.out.1]; rfl) ?_; intro v9 w9 o9 b9 m9 t9; obtain ⟨a9,c9,e9,lg9⟩:=LG.ofOwn (Z:=Zx Z w) o9 HZ.out; obtain ⟨n9,hn9⟩:∃ n9,(st.objs++[(⟨1,x,body⟩:Ob)]).length=n9:=⟨_,rfl⟩; rw [hn9] at e9 lg9; subst e9; have P9:Hid (Tri w w9 d (.slice fa fl fc) (.slice oa on oc) (.slice ra rn rc) (.slice ta tn tc) 1 s/\LG encO (Zx Z w) w9 a9 n9 c9 (st.objs++[⟨1,x,body⟩])):=⟨Zey P8.out.1 b9,lg9⟩; clear o9 b9 m9 t9 lg9 hn9; clear y0 y1; obtain ⟨x0,x1,x2,x3,x4,x5,x6,x7,x8⟩:=P9.out.1.box.cells; obtain ⟨z0,z1,z2,z3,z4,z5,z6,z7,z8⟩:=P9.out.1.res.cells; have gz:=P9.out.1.res.thaw; have g0:=gz 0; have g1:=gz 1; have g2:=gz 2; have g3:=gz 3; have g4:=gz 4; have g5:=gz 5; have g6:=gz 6; have g7:=gz 7; have g8:=gz 8; have l2:=P9.out.1.res.lt; have f6:=P9.out.1.box.thaw 6; have l0:=P9.out.1.box.lt; have ne2:w.heap.size≠w.heap.size+2:=(by omega); clear gz))
  go_wp2;refine bodyPost_ret (v:=.tuple #[rm d (.slice fa fl fc) (.slice a9 n9 c9) (.slice ra rn rc) (.slice ta tn tc),.bool true]) ?_ rfl ⟨_,rfl,?_⟩
  ·simp [results,Tryz.f113];go_simp
  ·exact ZaV P9.out.1.bel (⟨fa,fl,fc,a9,n9,c9,ra,rn,rc,ta,tn,tc,rfl,L.out.1.below P9.out.1.bel,P9.out.2,L.out.2.2.1.below P9.out.1.bel,L.out.2.2.2.below P9.out.1.bel⟩) rfl (Zad _ _ _ _ _ _ _ _ _ _ _)
 ·have t4:(4096:Int)<(s.size:Int):=by omega
  have t4n:4096<s.size:=by omega
  have eg:g=false:=by rw [<- FL.out.2.2]; unfold St.right; rw [if_pos rfl]; simp; have:=HL.out; omega
  have es:=FL.out.1 eg;subst eg es;obtain ⟨v0,v1⟩:=P0.out.fr.cells;clear h1 h2 h3 h4 hs hg hst' zx hss bW1 sW1 raw1 cap1 cap2 hxi hx hbl;obtain ⟨x0,x1,x2,x3,x4,x5,x6,x7,x8⟩:=P1.out.box.cells;obtain ⟨y0,y1⟩:=P1.out.fr.cells;obtain ⟨z0,z1,z2,z3,z4,z5,z6,z7,z8⟩:=P1.out.res.cells;have gz:=P1.out.res.thaw;have g0:=gz 0;have g1:=gz 1;have g2:=gz 2;have g3:=gz 3;have g4:=gz 4;have g5:=gz 5;have g6:=gz 6;have g7:=gz 7;have g8:=gz 8;have l2:=P1.out.res.lt;clear gz;go_enter Tryz.func113,Tryz.ntmps113;go_wp2_with fail;refine hid.mono ?_;rintro e w1 ⟨rfl,hw1⟩;rw [hw1];clear hw1 w1 hid;go_wp2_with fail;refine hh.mono ?_;rintro e w2 ⟨rfl,B2⟩;have P2:Hid (Tri w w2 d (.slice fa fl fc) (.slice oa on oc) (.slice ra rn rc) (.slice ta tn tc) 1 s):=P1.out.below B2;clear B2 hh;clear x0 x1 x2 x3 x4 x5 x6 x7 x8 y0 y1 z0 z1 z2 z3 z4 z5 z6 z7 z8 g0 g1 g2 g3 g4 g5 g6 g7 g8 l2;obtain ⟨x0,x1,x2,x3,x4,x5,x6,x7,x8⟩:=P2.out.box.cells;obtain ⟨y0,y1⟩:=P2.out.fr.cells;obtain ⟨z0,z1,z2,z3,z4,z5,z6,z7,z8⟩:=P2.out.res.cells;have gz:=P2.out.res.thaw;have g0:=gz 0;have g1:=gz 1;have g2:=gz 2;have g3:=gz 3;have g4:=gz 4;have g5:=gz 5;have g6:=gz 6;have g7:=gz 7;have g8:=gz 8;have l2:=P2.out.res.lt;clear gz;go_wp2;refine bodyPost_ret (v:=.tuple #[rm d (.slice fa fl fc) (.slice oa on oc) (.slice ra rn rc) (.slice ta tn tc),.bool false]) ?_ rfl ⟨_,rfl,?_⟩
  ·simp [results,Tryz.f113];go_simp
  ·exact Zai P2.out.bel (RB.out _ P2.out.bel) (Zad _ _ _ _ _ _ _ _ _ _ _)
end Go.Proofs.YtmhcpbbiokpjjaaGreat
