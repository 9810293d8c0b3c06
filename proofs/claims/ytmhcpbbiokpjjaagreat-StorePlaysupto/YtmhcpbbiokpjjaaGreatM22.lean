/-
  Several texts, laid together.
-/
import Derived.Test.YtmhcpbbiokpjjaaGreatM21
set_option maxHeartbeats 6400000
set_option maxRecDepth 100000
namespace Go.Proofs.YtmhcpbbiokpjjaaGreat
open Go.RowKit
theorem ZiE {Z:Nat->Prop} {w:World} {st:St} {d:Dk} {fa oa ra ta:Option Addr} {fl fc on oc rn rc tn tc:Nat} (hZ:∀ i,Z i->i<w.heap.size) (h1:LG encF Z w fa fl fc d.files) (h2:LG encO Z w oa on oc st.objs) (h3:LG encN Z w ra rn rc st.refs) (h4:LG encN Z w ta tn tc st.tags) (hsz:st.size<=1000000) (body:Bs) (hbl:body.length<=1000000) (hne:¬ oid 2 body=0) (hno:st.has 2 (oid 2 body)=false) :
  Calls Tryz.prog 113 #[rm d (.slice fa fl fc) (.slice oa on oc) (.slice ra rn rc) (.slice ta tn tc),.agg #[.int .i64 2,tx body]] w λ e w'=>∃ m',e=.returned (.tuple #[m',.bool (st.fits (2,body))])/\Hid (RMS Z w' m' (if st.fits (2,body) then st.take (2,body) else st) d/\Below w.heap.size w w'):=by
 have hq:st.objs.length<=1000000/\st.refs.length<=1000000/\st.tags.length<=1000000:=by unfold St.size at hsz; omega
 have ho:on<=1000000:=by rw [<- h2.len]; exact hq.1
 have hrl:rn<=1000000:=by rw [<- h3.len]; exact hq.2.1
 have htl:tn<=1000000:=by rw [<- h4.len]; exact hq.2.2
 obtain ⟨s,hs⟩:∃ s:ByteArray,s=⟨body.toArray⟩:=⟨_,rfl⟩
 have hss:s.size=body.length:=by rw [hs]; show body.toArray.size=_; simp
 obtain ⟨g,hg⟩:∃ g,st.fits (2,body)=g:=⟨_,rfl⟩
 obtain ⟨st',hst'⟩:∃ st',(if st.fits (2,body) then st.take (2,body) else st)=st':=⟨_,rfl⟩
 rw [hst',hg,show tx body=.string s by rw [hs]]
 obtain ⟨W,hW⟩:∃ W,((w.alloc (nineC d (.slice fa fl fc) (.slice oa on oc) (.slice ra rn rc) (.slice ta tn tc))).alloc (.cells #[.int .i64 2,.string s] 214)).alloc (.cells #[.slice none 0 0,.int .i64 0,.bool false,.bool false,.int .i64 0,.int .i64 0,.slice none 0 0,.slice none 0 0,.slice none 0 0] 32)=W:=⟨_,rfl⟩
 have P0:Hid (Tri w W d (.slice fa fl fc) (.slice oa on oc) (.slice ra rn rc) (.slice ta tn tc) 2 s):=by rw [<- hW]; exact Tri.new w d _ _ _ _ _ _
 have zx:∀ i,i<w.heap.size->Zx Z w i->Z i:=λ i hi q=>q.elim (λ q=>q) (λ q=>by omega)
 have L:Hid (LG encF (Zx Z w) w fa fl fc d.files/\LG encO (Zx Z w) w oa on oc st.objs/\LG encN (Zx Z w) w ra rn rc st.refs/\LG encN (Zx Z w) w ta tn tc st.tags):=⟨h1.into zx,h2.into zx,h3.into zx,h4.into zx⟩
 have RB:Hid (∀ W',Below w.heap.size w W'->RMS (Zx Z w) W' (rm d (.slice fa fl fc) (.slice oa on oc) (.slice ra rn rc) (.slice ta tn tc)) st d):=λ W' b=>⟨fa,fl,fc,oa,on,oc,ra,rn,rc,ta,tn,tc,rfl,L.out.1.below b,L.out.2.1.below b,L.out.2.2.1.below b,L.out.2.2.2.below b⟩
 have HZ:Hid (∀ i,Zx Z w i->i<w.heap.size+3):=λ i q=>q.elim (λ q=>by have:=hZ i q; omega) (λ q=>q.2)
 have HS:Hid (s=⟨body.toArray⟩/\(if st.fits (2,body) then st.take (2,body) else st)=st'/\st.fits (2,body)=g/\s.size=body.length):=⟨hs,hst',hg,hss⟩
 have falls:g=false->st'=st:=λ q=>by rw [<- HS.out.2.1,HS.out.2.2.1,q]; rfl
 have fall:g=true->st'={ st with objs:=st.objs++[⟨2,oid 2 body,body⟩] }:=λ q=>by rw [<- HS.out.2.1,HS.out.2.2.1,q,if_pos rfl]; unfold St.take; rw [if_neg (by show ¬ (2:Int)=4; omega),if_neg (by show ¬ (2:Int)=5; omega)]
 have hf:(st.right (2,body)&&!(decide (oid 2 body=0))&&!(st.has 2 (oid 2 body)))=g:=by
  rw [<- HS.out.2.2.1];unfold St.fits;rw [if_neg (by show ¬ ((2:Int)=4∨(2:Int)=5); omega)]
 obtain ⟨x,hx⟩:∃ x,oid 2 body=x:=⟨_,rfl⟩
 rw [hx] at hf fall;obtain ⟨W1,cc,hcv,bW1,sW1,raw1,cap1,cap2⟩:=Zbl W body;rw [show tx body=.string s by rw [HS.out.1],<- hss] at hcv;have hid:=ZdN 2 W1 (raw1.at cap1 (cap2 (by simp only [maxLen]; omega))) x hx;rw [<- hss] at hid
 obtain ⟨xi,hxi⟩:∃ xi:Int,(x.toNat:Int)=xi:=⟨_,rfl⟩
 rw [hxi] at hid;have P1:Hid (Tri w W1 d (.slice fa fl fc) (.slice oa on oc) (.slice ra rn rc) (.slice ta tn tc) 2 s):=P0.out.below bW1;have XI:Hid ((x.toNat:Int)=xi):=hxi
 have ok9:¬ 9223372036854775807<s.size:=by omega
 rw [hx] at hne hno;have hh:=ZaA (d:=d) (oc:=oc) (vf:=.slice fa fl fc) (vr:=.slice ra rn rc) (vt:=.slice ta tn tc) (L.out.2.1.rd.below P1.out.bel) L.out.2.1.len ho 2 x false hno;rw [hxi] at hh;have u0:=ZaP x;rw [hxi] at u0
 have m1:(xi==0)=false:=by
  have:=λ z=>hne (u0.1 z)
  simpa using this
 have hf2:st.right (2,body)=g:=by
  rw [<- hf,hno];simp [hne]
 have FL:Hid ((g=false->st'=st)/\(g=true->st'={ st with objs:=st.objs++[⟨2,x,body⟩] })/\st.right (2,body)=g):=⟨falls,fall,hf2⟩
 have HL:Hid (s.size=body.length):=hss;have HB:Hid (body.length<=1000000):=hbl;clear u0 hne hno hf hf2 falls fall hq;obtain ⟨v0,v1⟩:=P0.out.fr.cells;clear h1 h2 h3 h4 hs hg hst' zx hss bW1 sW1 raw1 cap1 cap2 hxi hx hbl;obtain ⟨x0,x1,x2,x3,x4,x5,x6,x7,x8⟩:=P1.out.box.cells;obtain ⟨y0,y1⟩:=P1.out.fr.cells;obtain ⟨z0,z1,z2,z3,z4,z5,z6,z7,z8⟩:=P1.out.res.cells;have gz:=P1.out.res.thaw;have g0:=gz 0;have g1:=gz 1;have g2:=gz 2;have g3:=gz 3;have g4:=gz 4;have g5:=gz 5;have g6:=gz 6;have g7:=gz 7;have g8:=gz 8;have l2:=P1.out.res.lt;clear gz;go_enter Tryz.func113,Tryz.ntmps113;go_wp2_with fail;refine hid.mono ?_;rintro e w1 ⟨rfl,hw1⟩;rw [hw1];clear hw1 w1 hid
 have hrt:=λ W'=>Zcf body HB.out W'
 rw [show tx body=.string s by rw [HS.out.1]] at hrt;have HRT:Hid (∀ W',Calls Tryz.prog 137 #[.string s] W' λ e w'=>∃ es er v,e=.returned (.tuple #[v,.int .i64 er])/\Hid (RT body es er/\OwnG encE 221 w' W'.heap.size v es/\Below W'.heap.size W' w')):=hrt;clear hrt;go_wp2_with fail;refine hh.mono ?_;rintro e w2 ⟨rfl,B2⟩;have P2:Hid (Tri w w2 d (.slice fa fl fc) (.slice oa on oc) (.slice ra rn rc) (.slice ta tn tc) 2 s):=P1.out.below B2;clear B2 hh;clear x0 x1 x2 x3 x4 x5 x6 x7 x8 y0 y1 z0 z1 z2 z3 z4 z5 z6 z7 z8 g0 g1 g2 g3 g4 g5 g6 g7 g8 l2;obtain ⟨x0,x1,x2,x3,x4,x5,x6,x7,x8⟩:=P2.out.box.cells;obtain ⟨y0,y1⟩:=P2.out.fr.cells;obtain ⟨z0,z1,z2,z3,z4,z5,z6,z7,z8⟩:=P2.out.res.cells;have gz:=P2.out.res.thaw;have g0:=gz 0;have g1:=gz 1;have g2:=gz 2;have g3:=gz 3;have g4:=gz 4;have g5:=gz 5;have g6:=gz 6;have g7:=gz 7;have g8:=gz 8;have l2:=P2.out.res.lt;clear gz;go_wp2_with fail;refine (HRT.out w2).mono ?_;rintro e w3 ⟨es,er,v3,rfl,R3⟩;have P3:Hid (Tri w w3 d (.slice fa fl fc) (.slice oa on oc) (.slice ra rn rc) (.slice ta tn tc) 2 s):=P2.out.below R3.out.2.2;clear HRT;clear x0 x1 x2 x3 x4 x5 x6 x7 x8 y0 y1 z0 z1 z2 z3 z4 z5 z6 z7 z8 g0 g1 g2 g3 g4 g5 g6 g7 g8 l2;obtain ⟨x0,x1,x2,x3,x4,x5,x6,x7,x8⟩:=P3.out.box.cells;obtain ⟨y0,y1⟩:=P3.out.fr.cells;obtain ⟨z0,z1,z2,z3,z4,z5,z6,z7,z8⟩:=P3.out.res.cells;have gz:=P3.out.res.thaw;have g0:=gz 0;have g1:=gz 1;have g2:=gz 2;have g3:=gz 3;have g4:=gz 4;have g5:=gz 5;have g6:=gz 6;have g7:=gz 7;have g8:=gz 8;have l2:=P3.out.res.lt;clear gz
 rcases R3.out.1.rd with ⟨rfl,hr⟩ | ⟨rfl,rfl,hr⟩
 ·have hri:st.right (2,body)=st.blobs es:=by unfold St.right; rw [if_neg (by show ¬ (2:Int)=1; omega),if_pos rfl]; simp only [hr]
  obtain ⟨a3,c3,hv3,_,_,r3,_⟩:=OwnG.form R3.out.2.1;have h64:=(ZaQ (Zbf hr).1).1
  obtain ⟨en,hen⟩:∃ en,es.length=en:=⟨_,rfl⟩
  have hbl:=Zeh (d:=d) (oc:=oc) (vf:=.slice fa fl fc) (vr:=.slice ra rn rc) (vt:=.slice ta tn tc) (ec:=c3) (L.out.2.1.rd.below P3.out.bel) L.out.2.1.len ho r3 hen (by omega) g (by rw [<- hri]; exact FL.out.2.2);rw [hen] at hv3;subst hv3;clear hri r3 h64 hen hr R3;go_wp2_with fail;refine hbl.mono ?_;rintro e w4 ⟨rfl,B4⟩;have P4:Hid (Tri w w4 d (.slice fa fl fc) (.slice oa on oc) (.slice ra rn rc) (.slice ta tn tc) 2 s):=P3.out.below B4;clear B4 hbl;clear x0 x1 x2 x3 x4 x5 x6 x7 x8 y0 y1 z0 z1 z2 z3 z4 z5 z6 z7 z8 g0 g1 g2 g3 g4 g5 g6 g7 g8 l2;obtain ⟨x0,x1,x2,x3,x4,x5,x6,x7,x8⟩:=P4.out.box.cells;obtain ⟨y0,y1⟩:=P4.out.fr.cells;obtain ⟨z0,z1,z2,z3,z4,z5,z6,z7,z8⟩:=P4.out.res.cells;have gz:=P4.out.res.thaw;have g0:=gz 0;have g1:=gz 1;have g2:=gz 2;have g3:=gz 3;have g4:=gz 4;have g5:=gz 5;have g6:=gz 6;have g7:=gz 7;have g8:=gz 8;have l2:=P4.out.res.lt;clear gz
  cases g with
  | false =>
   have es:=FL.out.1 rfl;subst es;go_wp2;refine bodyPost_ret (v:=.tuple #[rm d (.slice fa fl fc) (.slice oa on oc) (.slice ra rn rc) (.slice ta tn tc),.bool false]) ?_ rfl ⟨_,rfl,?_⟩
   ·simp [results,Tryz.f113];go_simp
   ·exact Zai P4.out.bel (RB.out _ P4.out.bel) (Zad _ _ _ _ _ _ _ _ _ _ _)
  | true =>
   have es:=FL.out.2.1 rfl;subst es
   go_wp2_with (first
    | (at_builtin; refine Zcj encO 133 29 32 _ rfl Tryz.info133 Tryz.underlying29 rfl (.tmp 159) (.tmp 161) rfl (w.heap.size+3) _ [] st.objs oa on oc rfl (OwnG.nil _ _ _ _) rfl (L.out.2.1.rd.below P4.out.bel) L.out.2.1.len (by simp; omega) (by simp only [maxLen]; simp; omega) P4.out.size ?_; intro v8 w8 o8 b8 m8 t8; have P8:Hid (Tri w w8 d (.slice fa fl fc) (.slice oa on oc) (.slice ra rn rc) (.slice ta tn tc) 2 s/\OwnG encO 133 w8 (w.heap.size+3) v8 st.objs):=⟨Zey P4.out b8,by simpa using o8⟩; clear o8 b8 m8 t8; clear x0 x1 x2 x3 x4 x5 x6 x7 x8 y0 y1 z0 z1 z2 z3 z4 z5 z6 z7 z8 g0 g1 g2 g3 g4 g5 g6 g7 g8 l2; obtain ⟨y0,y1⟩:=P8.out.1.fr.cells)
    | (at_builtin; refine Zak encO 133 29 32 _ rfl Tryz.info133 Tryz.underlying29 rfl (.tmp 163) (.tmp 170) rfl (w.heap.size+3) _ st.objs ⟨2,x,body⟩ 133 rfl P8.out.2 rfl (by rw [L.out.2.1.len]; omega) (by rw [L.out.2.1.len]; simp only [maxLen]; omega) P8.out.1.size _ (by rw [<- XI.out,HS.out.1]; rfl) ?_; intro v9 w9 o9 b9 m9 t9; obtain ⟨a9,c9,e9,lg9⟩:=LG.ofOwn (Z:=Zx Z w) o9 HZ.out; obtain ⟨n9,hn9⟩:∃ n9,(st.objs++[(⟨2,x,body⟩:Ob)]).length=n9:=⟨_,rfl⟩; rw [hn9] at e9 lg9; subst e9; have P9:Hid (Tri w w9 d (.slice fa fl fc) (.slice oa on oc) (.slice ra rn rc) (.slice ta tn tc) 2 s/\LG encO (Zx Z w) w9 a9 n9 c9 (st.objs++[⟨2,x,body⟩])):=⟨Zey P8.out.1 b9,lg9⟩; clear o9 b9 m9 t9 lg9 hn9; clear y0 y1; obtain ⟨x0,x1,x2,x3,x4,x5,x6,x7,x8⟩:=P9.out.1.box.cells; obtain ⟨z0,z1,z2,z3,z4,z5,z6,z7,z8⟩:=P9.out.1.res.cells; have gz:=P9.out.1.res.thaw; have g0:=gz 0; have g1:=gz 1; have g2:=gz 2; have g3:=gz 3; have g4:=gz 4; have g5:=gz 5; have g6:=gz 6; have g7:=gz 7; have g8:=gz 8; have l2:=P9.out.1.res.lt; have f6:=P9.out.1.box.thaw 6; have l0:=P9.out.1.box.lt; have ne2:w.heap.size≠w.heap.size+2:=(by omega); clear gz))
   go_wp2;refine bodyPost_ret (v:=.tuple #[rm d (.slice fa fl fc) (.slice a9 n9 c9) (.slice ra rn rc) (.slice ta tn tc),.bool true]) ?_ rfl ⟨_,rfl,?_⟩
   ·simp [results,Tryz.f113];go_simp
   ·exact ZaV P9.out.1.bel (⟨fa,fl,fc,a9,n9,c9,ra,rn,rc,ta,tn,tc,rfl,L.out.1.below P9.out.1.bel,P9.out.2,L.out.2.2.1.below P9.out.1.bel,L.out.2.2.2.below P9.out.1.bel⟩) rfl (Zad _ _ _ _ _ _ _ _ _ _ _)
 ·have eg:g=false:=by rw [<- FL.out.2.2]; unfold St.right; rw [if_neg (by show ¬ (2:Int)=1; omega),if_pos rfl]; simp only [hr]
  have es:=FL.out.1 eg;subst eg es;clear hr R3;go_wp2;refine bodyPost_ret (v:=.tuple #[rm d (.slice fa fl fc) (.slice oa on oc) (.slice ra rn rc) (.slice ta tn tc),.bool false]) ?_ rfl ⟨_,rfl,?_⟩
  ·simp [results,Tryz.f113];go_simp
  ·exact Zai P3.out.bel (RB.out _ P3.out.bel) (Zad _ _ _ _ _ _ _ _ _ _ _)
theorem Zkp {Z:Nat->Prop} {w:World} {st:St} {d:Dk} {fa oa ra ta:Option Addr} {fl fc on oc rn rc tn tc:Nat} (hZ:∀ i,Z i->i<w.heap.size) (h1:LG encF Z w fa fl fc d.files) (h2:LG encO Z w oa on oc st.objs) (h3:LG encN Z w ra rn rc st.refs) (h4:LG encN Z w ta tn tc st.tags) (hsz:st.size<=1000000) (body:Bs) (hbl:body.length<=1000000) (hne:¬ oid 3 body=0) (hno:st.has 3 (oid 3 body)=false) :
  Calls Tryz.prog 113 #[rm d (.slice fa fl fc) (.slice oa on oc) (.slice ra rn rc) (.slice ta tn tc),.agg #[.int .i64 3,tx body]] w λ e w'=>∃ m',e=.returned (.tuple #[m',.bool (st.fits (3,body))])/\Hid (RMS Z w' m' (if st.fits (3,body) then st.take (3,body) else st) d/\Below w.heap.size w w'):=by
 have hq:st.objs.length<=1000000/\st.refs.length<=1000000/\st.tags.length<=1000000:=by unfold St.size at hsz; omega
 have ho:on<=1000000:=by rw [<- h2.len]; exact hq.1
 have hrl:rn<=1000000:=by rw [<- h3.len]; exact hq.2.1
 have htl:tn<=1000000:=by rw [<- h4.len]; exact hq.2.2
 obtain ⟨s,hs⟩:∃ s:ByteArray,s=⟨body.toArray⟩:=⟨_,rfl⟩
 have hss:s.size=body.length:=by rw [hs]; show body.toArray.size=_; simp
 obtain ⟨g,hg⟩:∃ g,st.fits (3,body)=g:=⟨_,rfl⟩
 obtain ⟨st',hst'⟩:∃ st',(if st.fits (3,body) then st.take (3,body) else st)=st':=⟨_,rfl⟩
 rw [hst',hg,show tx body=.string s by rw [hs]]
 obtain ⟨W,hW⟩:∃ W,((w.alloc (nineC d (.slice fa fl fc) (.slice oa on oc) (.slice ra rn rc) (.slice ta tn tc))).alloc (.cells #[.int .i64 3,.string s] 214)).alloc (.cells #[.slice none 0 0,.int .i64 0,.bool false,.bool false,.int .i64 0,.int .i64 0,.slice none 0 0,.slice none 0 0,.slice none 0 0] 32)=W:=⟨_,rfl⟩
 have P0:Hid (Tri w W d (.slice fa fl fc) (.slice oa on oc) (.slice ra rn rc) (.slice ta tn tc) 3 s):=by rw [<- hW]; exact Tri.new w d _ _ _ _ _ _
 have zx:∀ i,i<w.heap.size->Zx Z w i->Z i:=λ i hi q=>q.elim (λ q=>q) (λ q=>by omega)
 have L:Hid (LG encF (Zx Z w) w fa fl fc d.files/\LG encO (Zx Z w) w oa on oc st.objs/\LG encN (Zx Z w) w ra rn rc st.refs/\LG encN (Zx Z w) w ta tn tc st.tags):=⟨h1.into zx,h2.into zx,h3.into zx,h4.into zx⟩
 have RB:Hid (∀ W',Below w.heap.size w W'->RMS (Zx Z w) W' (rm d (.slice fa fl fc) (.slice oa on oc) (.slice ra rn rc) (.slice ta tn tc)) st d):=λ W' b=>⟨fa,fl,fc,oa,on,oc,ra,rn,rc,ta,tn,tc,rfl,L.out.1.below b,L.out.2.1.below b,L.out.2.2.1.below b,L.out.2.2.2.below b⟩
 have HZ:Hid (∀ i,Zx Z w i->i<w.heap.size+3):=λ i q=>q.elim (λ q=>by have:=hZ i q; omega) (λ q=>q.2)
 have HS:Hid (s=⟨body.toArray⟩/\(if st.fits (3,body) then st.take (3,body) else st)=st'/\st.fits (3,body)=g/\s.size=body.length):=⟨hs,hst',hg,hss⟩
 have falls:g=false->st'=st:=λ q=>by rw [<- HS.out.2.1,HS.out.2.2.1,q]; rfl
 have fall:g=true->st'={ st with objs:=st.objs++[⟨3,oid 3 body,body⟩] }:=λ q=>by rw [<- HS.out.2.1,HS.out.2.2.1,q,if_pos rfl]; unfold St.take; rw [if_neg (by show ¬ (3:Int)=4; omega),if_neg (by show ¬ (3:Int)=5; omega)]
 have hf:(st.right (3,body)&&!(decide (oid 3 body=0))&&!(st.has 3 (oid 3 body)))=g:=by
  rw [<- HS.out.2.2.1];unfold St.fits;rw [if_neg (by show ¬ ((3:Int)=4∨(3:Int)=5); omega)]
 obtain ⟨x,hx⟩:∃ x,oid 3 body=x:=⟨_,rfl⟩
 rw [hx] at hf fall;obtain ⟨W1,cc,hcv,bW1,sW1,raw1,cap1,cap2⟩:=Zbl W body;rw [show tx body=.string s by rw [HS.out.1],<- hss] at hcv;have hid:=ZdN 3 W1 (raw1.at cap1 (cap2 (by simp only [maxLen]; omega))) x hx;rw [<- hss] at hid
 obtain ⟨xi,hxi⟩:∃ xi:Int,(x.toNat:Int)=xi:=⟨_,rfl⟩
 rw [hxi] at hid;have P1:Hid (Tri w W1 d (.slice fa fl fc) (.slice oa on oc) (.slice ra rn rc) (.slice ta tn tc) 3 s):=P0.out.below bW1;have XI:Hid ((x.toNat:Int)=xi):=hxi
 have ok9:¬ 9223372036854775807<s.size:=by omega
 rw [hx] at hne hno;have hh:=ZaA (d:=d) (oc:=oc) (vf:=.slice fa fl fc) (vr:=.slice ra rn rc) (vt:=.slice ta tn tc) (L.out.2.1.rd.below P1.out.bel) L.out.2.1.len ho 3 x false hno;rw [hxi] at hh;have u0:=ZaP x;rw [hxi] at u0
 have m1:(xi==0)=false:=by
  have:=λ z=>hne (u0.1 z)
  simpa using this
 have hf2:st.right (3,body)=g:=by
  rw [<- hf,hno];simp [hne]
 have FL:Hid ((g=false->st'=st)/\(g=true->st'={ st with objs:=st.objs++[⟨3,x,body⟩] })/\st.right (3,body)=g):=⟨falls,fall,hf2⟩
 have HL:Hid (s.size=body.length):=hss;have HB:Hid (body.length<=1000000):=hbl;clear u0 hne hno hf hf2 falls fall hq;obtain ⟨v0,v1⟩:=P0.out.fr.cells;clear h1 h2 h3 h4 hs hg hst' zx hss bW1 sW1 raw1 cap1 cap2 hxi hx hbl;obtain ⟨x0,x1,x2,x3,x4,x5,x6,x7,x8⟩:=P1.out.box.cells;obtain ⟨y0,y1⟩:=P1.out.fr.cells;obtain ⟨z0,z1,z2,z3,z4,z5,z6,z7,z8⟩:=P1.out.res.cells;have gz:=P1.out.res.thaw;have g0:=gz 0;have g1:=gz 1;have g2:=gz 2;have g3:=gz 3;have g4:=gz 4;have g5:=gz 5;have g6:=gz 6;have g7:=gz 7;have g8:=gz 8;have l2:=P1.out.res.lt;clear gz;go_enter Tryz.func113,Tryz.ntmps113;go_wp2_with fail;refine hid.mono ?_;rintro e w1 ⟨rfl,hw1⟩;rw [hw1];clear hw1 w1 hid
 have hrt:=λ W'=>Zc3 body (by have:=HB.out; omega) W'
 rw [show tx body=.string s by rw [HS.out.1]] at hrt;have HRT:Hid (∀ W',Calls Tryz.prog 138 #[.string s] W' λ e w'=>∃ (c:Cm) (er:Int) (pa:Option Addr) (pc:Nat),e=.returned (.tuple #[.agg #[.int .u64 (c.tree.toNat:Int),.slice pa c.ps.length pc,.int .i64 c.date,tx c.note],.int .i64 er])/\Hid (RC body c er/\RdG encU w' pa c.ps/\c.ps.length<=pc/\Below W'.heap.size W' w'/\Za1 W' pa c.ps.length)):=hrt;clear hrt;go_wp2_with fail;refine hh.mono ?_;rintro e w2 ⟨rfl,B2⟩;have P2:Hid (Tri w w2 d (.slice fa fl fc) (.slice oa on oc) (.slice ra rn rc) (.slice ta tn tc) 3 s):=P1.out.below B2;clear B2 hh;clear x0 x1 x2 x3 x4 x5 x6 x7 x8 y0 y1 z0 z1 z2 z3 z4 z5 z6 z7 z8 g0 g1 g2 g3 g4 g5 g6 g7 g8 l2;obtain ⟨x0,x1,x2,x3,x4,x5,x6,x7,x8⟩:=P2.out.box.cells;obtain ⟨y0,y1⟩:=P2.out.fr.cells;obtain ⟨z0,z1,z2,z3,z4,z5,z6,z7,z8⟩:=P2.out.res.cells;have gz:=P2.out.res.thaw;have g0:=gz 0;have g1:=gz 1;have g2:=gz 2;have g3:=gz 3;have g4:=gz 4;have g5:=gz 5;have g6:=gz 6;have g7:=gz 7;have g8:=gz 8;have l2:=P2.out.res.lt;clear gz;go_wp2_with fail;refine (HRT.out w2).mono ?_;rintro e w3 ⟨cm,er,pa,pc,rfl,R3⟩;clear HRT
 obtain ⟨pn,hpn⟩:∃ pn,cm.ps.length=pn:=⟨_,rfl⟩
 have hab:=λ (W':World) (b3:Below w3.heap.size w3 W') (hl:pn<=4000000000000000000) (q:Bool) (hq:st.above cm=q)=>Zeg (d:=d) (oc:=oc) (vf:=.slice fa fl fc) (vr:=.slice ra rn rc) (vt:=.slice ta tn tc) (pc:=pc) (L.out.2.1.rd.below ((P2.out.below R3.out.2.2.2.1).below b3).bel) L.out.2.1.len ho (R3.out.2.1.below b3) hpn hl cm.date ⟨cm.note.toArray⟩ q hq
 obtain ⟨tr,htr⟩:∃ tr:Int,(cm.tree.toNat:Int)=tr:=⟨_,rfl⟩
 obtain ⟨dt,hdt⟩:∃ dt,cm.date=dt:=⟨_,rfl⟩
 obtain ⟨nt,hnt⟩:∃ nt:ByteArray,(⟨cm.note.toArray⟩:ByteArray)=nt:=⟨_,rfl⟩
 rw [htr,hpn,hdt,show tx cm.note=.string nt by rw [<- hnt]];rw [htr,hdt,hnt] at hab
 obtain ⟨wA,hwA⟩:∃ wA,w3.alloc (.cells #[.int .u64 tr,.slice pa pn pc,.int .i64 dt,.string nt] 108)=wA:=⟨_,rfl⟩
 have bA:Below w3.heap.size w3 wA:=by rw [<- hwA]; exact bz1 _ _
 have bxA:Box4 wA w3.heap.size 108 (.int .u64 tr) (.slice pa pn pc) (.int .i64 dt) (.string nt):=by rw [<- hwA]; exact Box4.new _ _ _ _ _ _
 obtain ⟨c0,c1,c2,c3⟩:=bxA.cells;have P3:Hid (Tri w wA d (.slice fa fl fc) (.slice oa on oc) (.slice ra rn rc) (.slice ta tn tc) 3 s):=(P2.out.below R3.out.2.2.2.1).below bA;have hab:=hab wA bA;clear bA bxA htr hdt hnt;clear x0 x1 x2 x3 x4 x5 x6 x7 x8 y0 y1 z0 z1 z2 z3 z4 z5 z6 z7 z8 g0 g1 g2 g3 g4 g5 g6 g7 g8 l2;obtain ⟨x0,x1,x2,x3,x4,x5,x6,x7,x8⟩:=P3.out.box.cells;obtain ⟨y0,y1⟩:=P3.out.fr.cells;obtain ⟨z0,z1,z2,z3,z4,z5,z6,z7,z8⟩:=P3.out.res.cells;have gz:=P3.out.res.thaw;have g0:=gz 0;have g1:=gz 1;have g2:=gz 2;have g3:=gz 3;have g4:=gz 4;have g5:=gz 5;have g6:=gz 6;have g7:=gz 7;have g8:=gz 8;have l2:=P3.out.res.lt;clear gz
 rcases R3.out.1.rd with ⟨rfl,hr⟩ | ⟨rfl,rfl,hr⟩
 ·have hri:st.right (3,body)=st.above cm:=by unfold St.right; rw [if_neg (by show ¬ (3:Int)=1; omega),if_neg (by show ¬ (3:Int)=2; omega),if_pos rfl]; simp only [hr]
  have h8:=(Za3 (Zbr hr).1).1;have hab:=hab (by omega) g (by rw [<- hri]; exact FL.out.2.2);clear hri h8 hr R3 hpn;go_wp2_with fail;refine hab.mono ?_;rintro e w4 ⟨rfl,B4⟩;have P4:Hid (Tri w w4 d (.slice fa fl fc) (.slice oa on oc) (.slice ra rn rc) (.slice ta tn tc) 3 s):=P3.out.below B4;clear B4 hab c0 c1 c2 c3;clear x0 x1 x2 x3 x4 x5 x6 x7 x8 y0 y1 z0 z1 z2 z3 z4 z5 z6 z7 z8 g0 g1 g2 g3 g4 g5 g6 g7 g8 l2;obtain ⟨x0,x1,x2,x3,x4,x5,x6,x7,x8⟩:=P4.out.box.cells;obtain ⟨y0,y1⟩:=P4.out.fr.cells;obtain ⟨z0,z1,z2,z3,z4,z5,z6,z7,z8⟩:=P4.out.res.cells;have gz:=P4.out.res.thaw;have g0:=gz 0;have g1:=gz 1;have g2:=gz 2;have g3:=gz 3;have g4:=gz 4;have g5:=gz 5;have g6:=gz 6;have g7:=gz 7;have g8:=gz 8;have l2:=P4.out.res.lt;clear gz
  cases g with
  | false =>
   have es:=FL.out.1 rfl;subst es;go_wp2;refine bodyPost_ret (v:=.tuple #[rm d (.slice fa fl fc) (.slice oa on oc) (.slice ra rn rc) (.slice ta tn tc),.bool false]) ?_ rfl ⟨_,rfl,?_⟩
   ·simp [results,Tryz.f113];go_simp
   ·exact Zai P4.out.bel (RB.out _ P4.out.bel) (Zad _ _ _ _ _ _ _ _ _ _ _)
  | true =>
   have es:=FL.out.2.1 rfl;subst es
   go_wp2_with (first
    | (at_builtin; refine Zcj encO 133 29 32 _ rfl Tryz.info133 Tryz.underlying29 rfl (.tmp 159) (.tmp 161) rfl (w.heap.size+3) _ [] st.objs oa on oc rfl (OwnG.nil _ _ _ _) rfl (L.out.2.1.rd.below P4.out.bel) L.out.2.1.len (by simp; omega) (by simp only [maxLen]; simp; omega) P4.out.size ?_; intro v8 w8 o8 b8 m8 t8; have P8:Hid (Tri w w8 d (.slice fa fl fc) (.slice oa on oc) (.slice ra rn rc) (.slice ta tn tc) 3 s/\OwnG encO 133 w8 (w.heap.size+3) v8 st.objs):=⟨Zey P4.out b8,by simpa using o8⟩; clear o8 b8 m8 t8; clear x0 x1 x2 x3 x4 x5 x6 x7 x8 y0 y1 z0 z1 z2 z3 z4 z5 z6 z7 z8 g0 g1 g2 g3 g4 g5 g6 g7 g8 l2; obtain ⟨y0,y1⟩:=P8.out.1.fr.cells)
    | (at_builtin; refine Zak encO 133 29 32 _ rfl Tryz.info133 Tryz.underlying29 rfl (.tmp 163) (.tmp 170) rfl (w.heap.size+3) _ st.objs ⟨3,x,body⟩ 133 rfl P8.out.2 rfl (by rw [L.out.2.1.len]; omega) (by rw [L.out.2.1.len]; simp only [maxLen]; omega) P8.out.1.size _ (by rw [<- XI.out,HS.out.1]; rfl) ?_; intro v9 w9 o9 b9 m9 t9; obtain ⟨a9,c9,e9,lg9⟩:=LG.ofOwn (Z:=Zx Z w) o9 HZ.out; obtain ⟨n9,hn9⟩:∃ n9,(st.objs++[(⟨3,x,body⟩:Ob)]).length=n9:=⟨_,rfl⟩; rw [hn9] at e9 lg9; subst e9; have P9:Hid (Tri w w9 d (.slice fa fl fc) (.slice oa on oc) (.slice ra rn rc) (.slice ta tn tc) 3 s/\LG encO (Zx Z w) w9 a9 n9 c9 (st.objs++[⟨3,x,body⟩])):=⟨Zey P8.out.1 b9,lg9⟩; clear o9 b9 m9 t9 lg9 hn9; clear y0 y1; obtain ⟨x0,x1,x2,x3,x4,x5,x6,x7,x8⟩:=P9.out.1.box.cells; obtain ⟨z0,z1,z2,z3,z4,z5,z6,z7,z8⟩:=P9.out.1.res.cells; have gz:=P9.out.1.res.thaw; have g0:=gz 0; have g1:=gz 1; have g2:=gz 2; have g3:=gz 3; have g4:=gz 4; have g5:=gz 5; have g6:=gz 6; have g7:=gz 7; have g8:=gz 8; have l2:=P9.out.1.res.lt; have f6:=P9.out.1.box.thaw 6; have l0:=P9.out.1.box.lt; have ne2:w.heap.size≠w.heap.size+2:=(by omega); clear gz))
   go_wp2;refine bodyPost_ret (v:=.tuple #[rm d (.slice fa fl fc) (.slice a9 n9 c9) (.slice ra rn rc) (.slice ta tn tc),.bool true]) ?_ rfl ⟨_,rfl,?_⟩
   ·simp [results,Tryz.f113];go_simp
   ·exact ZaV P9.out.1.bel (⟨fa,fl,fc,a9,n9,c9,ra,rn,rc,ta,tn,tc,rfl,L.out.1.below P9.out.1.bel,P9.out.2,L.out.2.2.1.below P9.out.1.bel,L.out.2.2.2.below P9.out.1.bel⟩) rfl (Zad _ _ _ _ _ _ _ _ _ _ _)
 ·have eg:g=false:=by rw [<- FL.out.2.2]; unfold St.right; rw [if_neg (by show ¬ (3:Int)=1; omega),if_neg (by show ¬ (3:Int)=2; omega),if_pos rfl]; simp only [hr]
  have es:=FL.out.1 eg;subst eg es;clear hr R3 hpn hab;go_wp2;refine bodyPost_ret (v:=.tuple #[rm d (.slice fa fl fc) (.slice oa on oc) (.slice ra rn rc) (.slice ta tn tc),.bool false]) ?_ rfl ⟨_,rfl,?_⟩
  ·simp [results,Tryz.f113];go_simp
  ·exact Zai P3.out.bel (RB.out _ P3.out.bel) (Zad _ _ _ _ _ _ _ _ _ _ _)
theorem low1 (n:Nat):low 1 n=[UInt8.ofNat n]:=by simp [low]
section
variable {w:World} {k:Int} {body:Bs}
theorem Ziq (h:k<0∨255<k):Calls Tryz.prog 180 #[.agg #[.int .i64 k,tx body]] w λ e w'=>e=.returned (.tuple #[tx [],.int .i64 3])/\Below w.heap.size w w':=by
 by_cases h0:k<0
 ·have q:decide (k<0)=true:=by simpa using h0
  go_enter Tryz.func180,Tryz.ntmps180;go_wp2;refine bodyPost_ret (results_tmp2 rfl _ _ _) rfl ?_;exact ⟨rfl,bz1 _ _⟩
 ·have q:decide (k<0)=false:=by simpa using h0
  have q2:decide (255<k)=true:=by simp; omega
  go_enter Tryz.func180,Tryz.ntmps180;go_wp2;refine bodyPost_ret (results_tmp2 rfl _ _ _) rfl ?_;exact ⟨rfl,bz1 _ _⟩
theorem Zim (h0:¬ k<0) (h1:¬ 255<k) (h:8192<body.length):Calls Tryz.prog 180 #[.agg #[.int .i64 k,tx body]] w λ e w'=>e=.returned (.tuple #[tx [],.int .i64 4])/\Below w.heap.size w w':=by
 have q:decide (k<0)=false:=by simpa using h0
 have q2:decide (255<k)=false:=by simpa using h1
 obtain ⟨s,hs⟩:∃ s:ByteArray,s=⟨body.toArray⟩:=⟨_,rfl⟩
 have e:tx body=.string s:=by rw [hs]
 have hz:s.size=body.length:=by rw [hs]; rfl
 have q3:(8192:Int)<(s.size:Int):=by omega
 rw [e];clear e hs hz;go_enter Tryz.func180,Tryz.ntmps180;go_wp2;refine bodyPost_ret (results_tmp2 rfl _ _ _) rfl ?_;exact ⟨rfl,bz1 _ _⟩
theorem Zio (h0:¬ k<0) (h1:¬ 255<k) (hn:¬ 8192<body.length):Calls Tryz.prog 180 #[.agg #[.int .i64 k,tx body]] w λ e w'=>e=.returned (.tuple #[tx (sealB k body),.int .i64 0])/\Below w.heap.size w w':=by
 have q:decide (k<0)=false:=by simpa using h0
 have q2:decide (255<k)=false:=by simpa using h1
 obtain ⟨s,hs⟩:∃ s:ByteArray,s=⟨body.toArray⟩:=⟨_,rfl⟩
 have e:tx body=.string s:=by rw [hs]
 obtain ⟨n,hz⟩:∃ n,s.size=n:=⟨_,rfl⟩
 have hbl:body.length=n:=by rw [<- hz,hs]; rfl
 have q3:decide ((8192:Int)<(n:Int))=false:=by rw [decide_eq_false_iff_not]; omega
 rw [e]
 obtain ⟨W,hW⟩:∃ W,w.alloc (.cells #[.int .i64 k,.string s] 214)=W:=⟨_,rfl⟩
 have B0:Below w.heap.size w W:=by rw [<- hW]; exact bz1 _ _
 have T:Box W w.heap.size 214 (.int .i64 k) (.string s):=by rw [<- hW]; exact Box.new w _ _ _
 obtain ⟨kk,rfl⟩:∃ kk:Nat,k=(kk:Int):=⟨k.toNat,by omega⟩
 obtain ⟨x0,x1⟩:=T.cells
 have w1:IntKind.u64.wrap (n:Int)=(n:Int):=by rw [IntKind.wrap_u64]; omega
 have w2:IntKind.u64.wrap (kk:Int)=(kk:Int):=by rw [IntKind.wrap_u64]; omega
 obtain ⟨s4,hs4⟩:∃ s4:ByteArray,s4=⟨(low 4 n).toArray⟩:=⟨_,rfl⟩
 obtain ⟨s1,hs1⟩:∃ s1:ByteArray,s1=⟨(low 1 kk).toArray⟩:=⟨_,rfl⟩
 have z4:s4.size=4:=by rw [hs4,low4]; rfl
 have z1:s1.size=1:=by rw [hs1,low1]; rfl
 have NE:Nonempty (SW (Grew W)):=⟨⟨W,Below.refl _ _⟩⟩
 have c0:∀ u:SW (Grew W),u.w.cell? ⟨w.heap.size,0,none⟩=some (.int .i64 (kk:Int)):=λ u=>(T.below u.ok).cells.1
 have c1:∀ u:SW (Grew W),u.w.cell? ⟨w.heap.size,1,none⟩=some (.string s):=λ u=>(T.below u.ok).cells.2
 have n4:∀ u:SW (Grew W),Calls Tryz.prog 96 #[.int .u64 (n:Int),.int .i64 4] u.w λ e w'=>e=.returned (.string s4)/\∃ u':SW (Grew W),w'=u'.w:=λ u=>by
  refine (ZaG n 4 (by omega) (by omega) u.w).mono ?_;rintro e w' ⟨rfl,hb⟩;exact ⟨by rw [hs4],⟨w',u.ok.trans (hb.mono u.ok.size)⟩,rfl⟩
 have n1:∀ u:SW (Grew W),Calls Tryz.prog 96 #[.int .u64 (kk:Int),.int .i64 1] u.w λ e w'=>e=.returned (.string s1)/\∃ u':SW (Grew W),w'=u'.w:=λ u=>by
  refine (ZaG kk 1 (by omega) (by omega) u.w).mono ?_;rintro e w' ⟨rfl,hb⟩;exact ⟨by rw [hs1],⟨w',u.ok.trans (hb.mono u.ok.size)⟩,rfl⟩
 have p1:¬ (9223372036854775807<s4.size+s1.size):=by omega
 have p2:¬ (9223372036854775807<(s4++s1).size+s.size):=by rw [ByteArray.size_append]; omega
 have hhd:s4++s1++s=⟨(headB kk body).toArray⟩:=by
  rw [hs4,hs1,hs,low4,low1,headB,hbl];simp only [Int.toNat_natCast];show ByteArray.mk _=_
  congr 1
 have H:Hid (Below w.heap.size w W/\body.length=n/\n<=8192/\s4++s1++s=⟨(headB kk body).toArray⟩):=⟨B0,hbl,by omega,hhd⟩
 clear B0 T hbl hs hs4 hs1 z4 z1 hhd h0 h1 hn e;go_enter Tryz.func180,Tryz.ntmps180
 go_upto_region 5 with fail
 refine Zab (S:=Grew W) (by kernel_rfl) (by kernel_rfl) (Below.refl _ W).drew ?_
 repeat (go_big_quiet_step (first | with_reducible exact n4 _ | with_reducible exact n1 _))
 refine wpQuiet_nil ?_;intro _ hw';obtain ⟨u,hw''⟩:=hw';subst hw'';have N2:Hid (Below W.heap.size W u.w):=u.ok
 obtain ⟨w2',hw2⟩:∃ w2,w2=u.w:=⟨_,rfl⟩
 rw [<- hw2] at N2 ⊢;clear hw2 x0 x1 c0 c1 n4 n1 NE u p1 p2
 obtain ⟨hd,hhd⟩:∃ hd:ByteArray,s4++s1++s=hd:=⟨_,rfl⟩
 rw [hhd] at H ⊢;obtain ⟨W4,c4,hcv,b4',s4',R4⟩:=Zbl w2' (headB kk body)
 have hcv':(convert 9 39 (.string hd)).run Tryz.prog w2'=.ok (.slice (some ⟨w2'.heap.size,0,none⟩) (headB kk body).length c4) W4:=by rw [H.out.2.2.2]; exact hcv
 obtain ⟨hl,hhl⟩:∃ hl,(headB kk body).length=hl:=⟨_,rfl⟩
 have hll:hl<=8197:=by rw [<- hhl,Zf2]; have:=H.out.2.1; have:=H.out.2.2.1; omega
 have hb4:BAt W4 (.slice (some ⟨w2'.heap.size,0,none⟩) hl c4) (headB kk body):=by
  have:=R4.1.at R4.2.1 (R4.2.2 (by rw [hhl]; simp only [maxLen]; omega));rw [hhl] at this;exact this
 rw [hhl] at hcv'
 obtain ⟨cr,hcr⟩:∃ cr,crc (headB kk body)=cr:=⟨_,rfl⟩
 have hck:=ZcS W4 hb4;rw [hcr] at hck
 have hcl:cr<4294967296:=by rw [<- hcr]; exact Zhj _
 have w3:IntKind.u64.wrap (cr:Int)=(cr:Int):=by rw [IntKind.wrap_u64]; omega
 have hnu:=ZaG cr 4 (by omega) (by omega) W4
 obtain ⟨sc,hsc⟩:∃ sc:ByteArray,sc=⟨(low 4 cr).toArray⟩:=⟨_,rfl⟩
 rw [show tx (low 4 cr)=.string sc by rw [hsc]] at hnu
 have p3:¬ (9223372036854775807<hd.size+sc.size):=by
  rw [hsc,H.out.2.2.2,low4];show ¬ (9223372036854775807<(headB kk body).toArray.size+4);simp only [List.size_toArray];omega
 have HC:Hid (hd++sc=⟨(sealB kk body).toArray⟩/\Below w2'.heap.size w2' W4):=by
  refine ⟨?_,b4'⟩;rw [hsc,H.out.2.2.2,low4,sealB,hcr];show ByteArray.mk _=_
  congr 1
 clear hcv b4' s4' R4 hb4 hhl hcr hsc hhd;go_wp2_with fail;refine hck.mono ?_;rintro e w5 ⟨rfl,hw5⟩;rw [hw5];clear hw5 w5 hck;go_wp2_with fail;refine hnu.mono ?_;rintro e w6 ⟨rfl,B6⟩
 have HB6:Hid (Below w.heap.size w w6):=by
  have b1:=H.out.1.trans (N2.out.mono H.out.1.size);have b2:=b1.trans (HC.out.2.mono b1.size);exact b2.trans (B6.mono b2.size)
 clear B6 hnu;go_wp2;refine bodyPost_ret (results_tmp2 rfl _ _ _) rfl ?_;exact ⟨by rw [HC.out.1]; rfl,HB6.out⟩
theorem Zj0 (k:Int) (body:Bs) (w:World):Calls Tryz.prog 180 #[.agg #[.int .i64 k,tx body]] w λ e w'=>e=.returned (.tuple #[tx (fseal (k,body)).1,.int .i64 (fseal (k,body)).2])/\Below w.heap.size w w':=by
 unfold fseal;by_cases h0:k<0∨255<k
 ·rw [if_pos h0];exact Ziq h0
 ·rw [if_neg h0];by_cases h1:8192<body.length
  ·rw [if_pos h1];exact Zim (by omega) (by omega) h1
  ·rw [if_neg h1];exact Zio (by omega) (by omega) h1
end
theorem ZfM {Z:Nat->Prop} {w:World} {m:Value} {st:St} {d:Dk} (hZ:∀ i,Z i->i<w.heap.size) (h:RMS Z w m st d) (hsz:st.size<=1000000) (k:Int) (body:Bs) (hbl:body.length<=1000000) :
  Calls Tryz.prog 113 #[m,.agg #[.int .i64 k,tx body]] w λ e w'=>∃ m',e=.returned (.tuple #[m',.bool (st.fits (k,body))])/\Hid (RMS Z w' m' (if st.fits (k,body) then st.take (k,body) else st) d/\Below w.heap.size w w'):=by
 obtain ⟨fa,fl,fc,oa,on,oc,ra,rn,rc,ta,tn,tc,rfl,h1,h2,h3,h4⟩:=h;by_cases k4:k=4
 ·subst k4; exact ZjK hZ h1 h2 h3 h4 hsz body hbl
 by_cases k5:k=5
 ·subst k5; exact ZjU hZ h1 h2 h3 h4 hsz body hbl
 by_cases hodd:k<1∨3<k∨oid k body=0∨st.has k (oid k body)=true
 ·exact Zjy hZ h1 h2 h3 h4 hsz k k4 k5 body hbl hodd
 have hne:¬ oid k body=0:=λ q=>hodd (.inr (.inr (.inl q)))
 have hno:st.has k (oid k body)=false:=by
  cases e:st.has k (oid k body) with
  | false=>rfl
  | true=>exact absurd (.inr (.inr (.inr e))) hodd
 have hk:k=1∨k=2∨k=3:=by omega
 rcases hk with rfl | rfl | rfl
 ·exact Zh2 hZ h1 h2 h3 h4 hsz body hbl hne hno
 ·exact ZiE hZ h1 h2 h3 h4 hsz body hbl hne hno
 ·exact Zkp hZ h1 h2 h3 h4 hsz body hbl hne hno
theorem Nine.put {w:World} {B:Nat} {a0 a1 a2 a3 a4 a5 a6 a7 a8:Value} (h:Nine w B a0 a1 a2 a3 a4 a5 a6 a7 a8) (b0 b1 b2 b3 b4 b5:Value):Nine ((((((w.setCell ⟨B,0,none⟩ b0).setCell ⟨B,1,none⟩ b1).setCell ⟨B,2,none⟩ b2).setCell ⟨B,3,none⟩ b3).setCell ⟨B,4,none⟩ b4).setCell ⟨B,5,none⟩ b5) B b0 b1 b2 b3 b4 b5 a6 a7 a8:=by
 unfold Nine at h ⊢;simp [World.setCell,Array.getElem?_modify,h]
theorem ZgR (w:World) (Q:Nat) (v0 v1 v2 v3 v4 v5:Value) :
  Zaa (λ i=>i=Q) w ((((((w.setCell ⟨Q,0,none⟩ v0).setCell ⟨Q,1,none⟩ v1).setCell ⟨Q,2,none⟩ v2).setCell ⟨Q,3,none⟩ v3).setCell ⟨Q,4,none⟩ v4).setCell ⟨Q,5,none⟩ v5) :=
 ((((((Zaa.refl (λ i=>i=Q) w).setCell (p:=⟨Q,0,none⟩) (.inl (show Q=Q from rfl)) v0).setCell (p:=⟨Q,1,none⟩) (.inl (show Q=Q from rfl)) v1).setCell (p:=⟨Q,2,none⟩) (.inl (show Q=Q from rfl)) v2).setCell (p:=⟨Q,3,none⟩) (.inl (show Q=Q from rfl)) v3).setCell (p:=⟨Q,4,none⟩) (.inl (show Q=Q from rfl)) v4).setCell (p:=⟨Q,5,none⟩) (.inl (show Q=Q from rfl)) v5
structure Two (w W:World) (d:Dk) (vf vo vr vt:Value):Prop where
 bel:Below w.heap.size w W
 box:Zbg W w.heap.size d vf vo vr vt
 res:Nine W (w.heap.size+1) (.slice none 0 0) (.int .i64 0) (.bool false) (.bool false) (.int .i64 0) (.int .i64 0) (.slice none 0 0) (.slice none 0 0) (.slice none 0 0)
abbrev zeroC:Obj:=.cells #[.slice none 0 0,.int .i64 0,.bool false,.bool false,.int .i64 0,.int .i64 0,.slice none 0 0,.slice none 0 0,.slice none 0 0] 32
section
variable {w W W':World} {d:Dk} {vf vo vr vt:Value}
theorem Two.new (w:World) (d:Dk) (vf vo vr vt:Value):Two w ((w.alloc (nineC d vf vo vr vt)).alloc zeroC) d vf vo vr vt:=by
 have e1:(w.alloc (nineC d vf vo vr vt)).heap.size=w.heap.size+1:=by simp
 have b3:=Nine.new (w.alloc (nineC d vf vo vr vt)) (.slice none 0 0) (.int .i64 0) (.bool false) (.bool false) (.int .i64 0) (.int .i64 0) (.slice none 0 0) (.slice none 0 0) (.slice none 0 0);rw [e1] at b3;exact ⟨bz2 _ _ _,(Nine.new w _ _ _ _ _ _ _ _ _).below (bz1 _ _) (by rw [e1]; omega),b3⟩
theorem Two.below (h:Two w W d vf vo vr vt) (hb:Below W.heap.size W W'):Two w W' d vf vo vr vt:=⟨h.bel.trans (hb.mono h.bel.size),h.box.below hb h.box.lt,h.res.below hb h.res.lt⟩
theorem Two.size (h:Two w W d vf vo vr vt):w.heap.size+2<=W.heap.size:=by
 have:=h.res.lt;omega
theorem Two.six (h:Two w W d vf vo vr vt) (d':Dk) (vf':Value):Two w ((((((W.setCell ⟨w.heap.size,0,none⟩ vf').setCell ⟨w.heap.size,1,none⟩ (.int .i64 (d'.writes:Int))).setCell ⟨w.heap.size,2,none⟩ (.bool d'.armed)).setCell ⟨w.heap.size,3,none⟩ (.bool d'.dead)).setCell ⟨w.heap.size,4,none⟩ (.int .i64 (d'.after:Int))).setCell ⟨w.heap.size,5,none⟩ (.int .i64 (d'.keep:Int))) d' vf' vo vr vt:=by
 have ht:=ZgR W w.heap.size vf' (.int .i64 (d'.writes:Int)) (.bool d'.armed) (.bool d'.dead) (.int .i64 (d'.after:Int)) (.int .i64 (d'.keep:Int));exact ⟨h.bel.trans (ht.below h.bel.size (λ i hi q=>by have q:i=w.heap.size:=q; omega)),h.box.put _ _ _ _ _ _,h.res.turned ht (λ q=>by have q:w.heap.size+1=w.heap.size:=q; omega)⟩
end
def Zy (Z:Nat->Prop) (w:World):Nat->Prop:=λ i=>Z i∨(w.heap.size<=i/\i<w.heap.size+2)
theorem ZaT {Z:Nat->Prop} {w:World}:∀ i,i<w.heap.size->Zy Z w i->Z i:=λ i hi q=>q.elim (λ q=>q) (λ q=>by omega)
theorem Zgu {Z:Nat->Prop} {w:World} (hZ:∀ i,Z i->i<w.heap.size):∀ i,Zy Z w i->i<w.heap.size+2:=λ i q=>q.elim (λ q=>by have:=hZ i q; omega) (λ q=>q.2)
theorem Zan {Z:Nat->Prop} {w W W':World} {m:Value} {st:St} {d:Dk} (hb:Below w.heap.size w W) (h:RMS (Zy Z w) W m st d) (ht:Zaa (λ i=>i=w.heap.size+1) W W'):RMS Z W' m st d/\Below w.heap.size w W' :=
 ⟨(h.turned ht (λ i q=>.inr (by have q:i=w.heap.size+1:=q; omega))).mono (λ _ q=>.inl q),hb.trans (ht.below hb.size (λ i hi q=>by have q:i=w.heap.size+1:=q; omega))⟩
theorem RMS.rvs {Z:Nat->Prop} {w:World} {d:Dk} {a:Option Addr} {n c:Nat} (h:LG encF Z w a n c d.files):RVS Z w (rv a n c d) d:=⟨a,n,c,rfl,h.len,h.cap,h.rd,h.far⟩
theorem Zdm {Z:Nat->Prop} {w:World} {m:Value} {st:St} {d:Dk} (hZ:∀ i,Z i->i<w.heap.size) (h:RMS Z w m st d) (hsz:st.size<=1000000) (hok:d.ok) (hw:d.writes<=1000000) (k:Int) (hk0:0<=k) (hk:k<=255) (body:Bs) (hbl:body.length<=8192) (hfit:st.fits (k,body)=true) :
  Calls Tryz.prog 126 #[m,.int .i64 k,tx body] w λ e w'=>∃ m' r,e=.returned (.tuple #[m',.int .i64 r])/\Hid (r=(sapp st d (k,body)).2.2/\RMS Z w' m' (sapp st d (k,body)).1 (sapp st d (k,body)).2.1/\Below w.heap.size w w'):=by
 obtain ⟨fa,fl,fc,oa,on,oc,ra,rn,rc,ta,tn,tc,rfl,h1,h2,h3,h4⟩:=h
 have hse:=λ W'=>Zj0 k body W'
 have efs:(fseal (k,body)).2=0:=by
  unfold fseal;rw [if_neg (by show ¬ (k<0∨255<k); omega),if_neg (by show ¬ 8192<body.length; omega)]
 have elen:(fseal (k,body)).1.length<=100000:=by
  unfold fseal;rw [if_neg (by show ¬ (k<0∨255<k); omega),if_neg (by show ¬ 8192<body.length; omega)];show (sealB k body).length<=_;rw [ZfZ];omega
 obtain ⟨sb,hsb⟩:∃ sb,(fseal (k,body)).1=sb:=⟨_,rfl⟩
 obtain ⟨d',hd'⟩:∃ d',(dapp d fileN sb).1=d':=⟨_,rfl⟩
 obtain ⟨cd,hcd⟩:∃ cd,(dapp d fileN sb).2=cd:=⟨_,rfl⟩
 obtain ⟨Q,hQ⟩:∃ Q,sapp st d (k,body)=Q:=⟨_,rfl⟩
 have esa:Q=(if cd=0 then st.take (k,body) else st,d',cd):=by
  rw [<- hQ];unfold sapp;rw [hsb,hd',hcd]
 rw [hQ];rw [efs,hsb] at hse;rw [hsb] at elen
 obtain ⟨bb,hbb⟩:∃ bb:ByteArray,bb=⟨body.toArray⟩:=⟨_,rfl⟩
 obtain ⟨ss,hss⟩:∃ ss:ByteArray,ss=⟨sb.toArray⟩:=⟨_,rfl⟩
 rw [show tx body=.string bb by rw [hbb],show tx sb=.string ss by rw [hss]] at hse;rw [show tx body=.string bb by rw [hbb]]
 obtain ⟨W,hW⟩:∃ W,(w.alloc (nineC d (.slice fa fl fc) (.slice oa on oc) (.slice ra rn rc) (.slice ta tn tc))).alloc zeroC=W:=⟨_,rfl⟩
 have P0:Hid (Two w W d (.slice fa fl fc) (.slice oa on oc) (.slice ra rn rc) (.slice ta tn tc)):=by rw [<- hW]; exact Two.new w d _ _ _ _
 have L:Hid (LG encF (Zy Z w) w fa fl fc d.files/\LG encO (Zy Z w) w oa on oc st.objs/\LG encN (Zy Z w) w ra rn rc st.refs/\LG encN (Zy Z w) w ta tn tc st.tags):=⟨h1.into ZaT,h2.into ZaT,h3.into ZaT,h4.into ZaT⟩
 have HZ:Hid (∀ i,Zy Z w i->i<w.heap.size+2):=Zgu hZ
 have G:Hid (d.ok/\d.writes<=1000000/\sb.length<=100000/\(dapp d fileN sb).1=d'/\(dapp d fileN sb).2=cd/\Q=(if cd=0 then st.take (k,body) else st,d',cd)/\st.size<=1000000/\st.fits (k,body)=true/\body.length<=8192/\bb=⟨body.toArray⟩/\ss=⟨sb.toArray⟩):=⟨hok,hw,elen,hd',hcd,esa,hsz,hfit,hbl,hbb,hss⟩
 obtain ⟨x0,x1,x2,x3,x4,x5,x6,x7,x8⟩:=P0.out.box.cells;have hse:=hse W;clear h1 h2 h3 h4 hok hw elen hd' hcd esa hsz hfit hbl hZ efs hsb hQ hk0 hk hbb hss;go_enter Tryz.func126,Tryz.ntmps126;go_wp2_with fail;refine hse.mono ?_;rintro e w1 ⟨rfl,B1⟩;have P1:Hid (Two w w1 d (.slice fa fl fc) (.slice oa on oc) (.slice ra rn rc) (.slice ta tn tc)):=P0.out.below B1;clear hse B1 x0 x1 x2 x3 x4 x5 x6 x7 x8;obtain ⟨x0,x1,x2,x3,x4,x5,x6,x7,x8⟩:=P1.out.box.cells;have hap:=Zg3 (λ i q=>by have:=HZ.out i q; have:=P1.out.size; omega) (RMS.rvs (L.out.1.below P1.out.bel)) G.out.1 (by have:=G.out.2.1; omega) fileN sb (by decide) (by have:=G.out.2.2.1; omega);rw [G.out.2.2.2.1,G.out.2.2.2.2.1,show tx sb=.string ss by rw [G.out.2.2.2.2.2.2.2.2.2.2]] at hap;go_wp2_with fail;refine hap.mono ?_;rintro e w2 ⟨v2,rfl,V2,B2⟩;obtain ⟨a2,n2,c2,rfl,q1,q2,q3,q4⟩:=V2
 have P2:Hid (Two w w2 d (.slice fa fl fc) (.slice oa on oc) (.slice ra rn rc) (.slice ta tn tc)/\LG encF (Zy Z w) w2 a2 n2 c2 d'.files):=⟨P1.out.below B2,⟨q1,q2,q3,q4⟩⟩
 clear hap B2 q1 q2 q3 q4;clear x0 x1 x2 x3 x4 x5 x6 x7 x8
 obtain ⟨wA,hwA⟩:∃ wA,w2.alloc (.cells #[.slice a2 n2 c2,.int .i64 (d'.writes:Int),.bool d'.armed,.bool d'.dead,.int .i64 (d'.after:Int),.int .i64 (d'.keep:Int)] 28)=wA:=⟨_,rfl⟩
 have bA:Below w2.heap.size w2 wA:=by rw [<- hwA]; exact bz1 _ _
 have sx:Six wA w2.heap.size (.slice a2 n2 c2) (.int .i64 (d'.writes:Int)) (.bool d'.armed) (.bool d'.dead) (.int .i64 (d'.after:Int)) (.int .i64 (d'.keep:Int)):=by rw [<- hwA]; exact Six.new _ _ _ _ _ _ _
 obtain ⟨y0,y1,y2,y3,y4,y5⟩:=sx.cells
 have PA:Hid (Two w wA d (.slice fa fl fc) (.slice oa on oc) (.slice ra rn rc) (.slice ta tn tc)/\LG encF (Zy Z w) wA a2 n2 c2 d'.files):=⟨P2.out.1.below bA,P2.out.2.below bA⟩
 obtain ⟨x0,x1,x2,x3,x4,x5,x6,x7,x8⟩:=PA.out.1.box.cells;have fz:=PA.out.1.box.thaw;have f0:=fz 0;have f1:=fz 1;have f2:=fz 2;have f3:=fz 3;have f4:=fz 4;have f5:=fz 5;have l0:=PA.out.1.box.lt;clear bA sx fz
 go_upto_region 4 with fail
 have t3:=ZgR wA w.heap.size (.slice a2 n2 c2) (.int .i64 (d'.writes:Int)) (.bool d'.armed) (.bool d'.dead) (.int .i64 (d'.after:Int)) (.int .i64 (d'.keep:Int));have p3:=PA.out.1.six d' (.slice a2 n2 c2)
 obtain ⟨w3,hw3⟩:∃ w3,((((((wA.setCell ⟨w.heap.size,0,none⟩ (.slice a2 n2 c2)).setCell ⟨w.heap.size,1,none⟩ (.int .i64 (d'.writes:Int))).setCell ⟨w.heap.size,2,none⟩ (.bool d'.armed)).setCell ⟨w.heap.size,3,none⟩ (.bool d'.dead)).setCell ⟨w.heap.size,4,none⟩ (.int .i64 (d'.after:Int))).setCell ⟨w.heap.size,5,none⟩ (.int .i64 (d'.keep:Int)))=w3:=⟨_,rfl⟩
 rw [hw3] at t3 p3 ⊢
 have toZ:∀ i,i=w.heap.size->Zy Z w i:=λ i q=>.inr (by omega)
 have P3:Hid (Two w w3 d' (.slice a2 n2 c2) (.slice oa on oc) (.slice ra rn rc) (.slice ta tn tc)/\RMS (Zy Z w) w3 (rm d' (.slice a2 n2 c2) (.slice oa on oc) (.slice ra rn rc) (.slice ta tn tc)) st d') :=
  ⟨p3,a2,n2,c2,oa,on,oc,ra,rn,rc,ta,tn,tc,rfl,PA.out.2.turned t3 toZ,(L.out.2.1.below PA.out.1.bel).turned t3 toZ,(L.out.2.2.1.below PA.out.1.bel).turned t3 toZ,(L.out.2.2.2.below PA.out.1.bel).turned t3 toZ⟩
 clear t3 p3 hw3 x0 x1 x2 x3 x4 x5 x6 x7 x8 y0 y1 y2 y3 y4 y5 f0 f1 f2 f3 f4 f5 l0 hwA toZ;obtain ⟨x0,x1,x2,x3,x4,x5,x6,x7,x8⟩:=P3.out.1.box.cells;obtain ⟨z0,z1,z2,z3,z4,z5,z6,z7,z8⟩:=P3.out.1.res.cells;have gz:=P3.out.1.res.thaw;have g0:=gz 0;have g1:=gz 1;have g2:=gz 2;have g3:=gz 3;have g4:=gz 4;have g5:=gz 5;have g6:=gz 6;have g7:=gz 7;have g8:=gz 8;have l2:=P3.out.1.res.lt;clear gz;by_cases hz:cd=0
 ·subst hz;have hfi:=ZfM (λ i q=>by have:=HZ.out i q; have:=P3.out.1.size; omega) P3.out.2 G.out.2.2.2.2.2.2.1 k body (by have:=G.out.2.2.2.2.2.2.2.2.1; omega);rw [G.out.2.2.2.2.2.2.2.1,show tx body=.string bb by rw [G.out.2.2.2.2.2.2.2.2.2.1]] at hfi;simp only [if_true] at hfi;go_wp2_with fail;refine hfi.mono ?_;rintro e w4 ⟨m4,rfl,R4⟩
  have R4':Hid (RMS (Zy Z w) w4 m4 (st.take (k,body)) d'/\Two w w4 d' (.slice a2 n2 c2) (.slice oa on oc) (.slice ra rn rc) (.slice ta tn tc)):=⟨R4.out.1,P3.out.1.below R4.out.2⟩
  clear hfi R4;obtain ⟨fa4,fl4,fc4,oa4,on4,oc4,ra4,rn4,rc4,ta4,tn4,tc4,em,_⟩:=R4'.out.1;subst em;clear x0 x1 x2 x3 x4 x5 x6 x7 x8 z0 z1 z2 z3 z4 z5 z6 z7 z8 g0 g1 g2 g3 g4 g5 g6 g7 g8 l2;obtain ⟨x0,x1,x2,x3,x4,x5,x6,x7,x8⟩:=R4'.out.2.box.cells;have fz:=R4'.out.2.box.thaw;have f0:=fz 0;have f1:=fz 1;have f2:=fz 2;have f3:=fz 3;have f4:=fz 4;have f5:=fz 5;have f6:=fz 6;have f7:=fz 7;have f8:=fz 8;have l0:=R4'.out.2.box.lt;clear fz;obtain ⟨z0,z1,z2,z3,z4,z5,z6,z7,z8⟩:=R4'.out.2.res.cells;have gz:=R4'.out.2.res.thaw;have g0:=gz 0;have g1:=gz 1;have g2:=gz 2;have g3:=gz 3;have g4:=gz 4;have g5:=gz 5;have g6:=gz 6;have g7:=gz 7;have g8:=gz 8;have l2:=R4'.out.2.res.lt;clear gz
  have ne2:w.heap.size≠w.heap.size+1:=by omega
  go_wp2;refine bodyPost_ret (v:=.tuple #[rm d' (.slice fa4 fl4 fc4) (.slice oa4 on4 oc4) (.slice ra4 rn4 rc4) (.slice ta4 tn4 tc4),.int .i64 0]) ?_ rfl ⟨_,_,rfl,?_⟩
  ·simp [results,Tryz.f126];go_simp
  ·have t5:=Zad w4 w.heap.size (.slice fa4 fl4 fc4) (.int .i64 (d'.writes:Int)) (.bool d'.armed) (.bool d'.dead) (.int .i64 (d'.after:Int)) (.int .i64 (d'.keep:Int)) (.slice oa4 on4 oc4) (.slice ra4 rn4 rc4) (.slice ta4 tn4 tc4);have b5:=R4'.out.2.bel.trans (t5.below R4'.out.2.bel.size (λ i hi q=>by have q:i=w.heap.size:=q; omega));rw [G.out.2.2.2.2.2.1];exact ⟨rfl,Zan b5 (R4'.out.1.turned t5 (λ i q=>.inr (by have q:i=w.heap.size:=q; omega))) (Zad _ _ _ _ _ _ _ _ _ _ _)⟩
 ·have m0:(cd != 0)=true:=by simpa using hz
  go_wp2;refine bodyPost_ret (v:=.tuple #[rm d' (.slice a2 n2 c2) (.slice oa on oc) (.slice ra rn rc) (.slice ta tn tc),.int .i64 cd]) ?_ rfl ⟨_,_,rfl,?_⟩
  ·simp [results,Tryz.f126];go_simp
  ·rw [G.out.2.2.2.2.2.1,if_neg hz];exact ⟨rfl,Zan P3.out.1.bel P3.out.2 (Zad _ _ _ _ _ _ _ _ _ _ _)⟩
end Go.Proofs.YtmhcpbbiokpjjaaGreat
