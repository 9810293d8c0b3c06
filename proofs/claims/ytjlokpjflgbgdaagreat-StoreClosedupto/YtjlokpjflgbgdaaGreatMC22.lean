/-
  Several texts, laid together.
-/
import Derived.Test.YtjlokpjflgbgdaaGreatMC20
set_option maxHeartbeats 6400000
set_option maxRecDepth 100000
namespace Go.Proofs.YtjlokpjflgbgdaaGreat
open Go.RowKit
theorem rfits_odd {Z:Nat->Prop} {w:World} {st:St} {d:Dk} {fa oa ra ta:Option Addr} {fl fc on oc rn rc tn tc:Nat} (hZ:∀ i,Z i->i<w.heap.size) (h1:LG encF Z w fa fl fc d.files) (h2:LG encO Z w oa on oc st.objs) (h3:LG encN Z w ra rn rc st.refs) (h4:LG encN Z w ta tn tc st.tags) (hsz:st.size<=1000000) (k:Int) (hk4:¬ k=4) (hk5:¬ k=5) (body:Bs) (hbl:body.length<=1000000) (hodd:k<1∨3<k∨oid k body=0∨st.has k (oid k body)=true) :
  Calls Tryz.prog 119 #[rm d (.slice fa fl fc) (.slice oa on oc) (.slice ra rn rc) (.slice ta tn tc),.agg #[.int .i64 k,tx body]] w λ e w'=>∃ m',e=.returned (.tuple #[m',.bool (st.fits (k,body))])/\Hid (RMS Z w' m' (if st.fits (k,body) then st.take (k,body) else st) d/\Below w.heap.size w w'):=by
 have hq:st.objs.length<=1000000/\st.refs.length<=1000000/\st.tags.length<=1000000:=by unfold St.size at hsz; omega
 have ho:on<=1000000:=by rw [<- h2.len]; exact hq.1
 have hrl:rn<=1000000:=by rw [<- h3.len]; exact hq.2.1
 have htl:tn<=1000000:=by rw [<- h4.len]; exact hq.2.2
 obtain ⟨s,hs⟩:∃ s:ByteArray,s=⟨body.toArray⟩:=⟨_,rfl⟩
 have hss:s.size=body.length:=by rw [hs]; show body.toArray.size=_; simp
 obtain ⟨g,hg⟩:∃ g,st.fits (k,body)=g:=⟨_,rfl⟩
 obtain ⟨st',hst'⟩:∃ st',(if st.fits (k,body) then st.take (k,body) else st)=st':=⟨_,rfl⟩
 rw [hst',hg,show tx body=.string s by rw [hs]]
 obtain ⟨W,hW⟩:∃ W,((w.alloc (nineC d (.slice fa fl fc) (.slice oa on oc) (.slice ra rn rc) (.slice ta tn tc))).alloc (.cells #[.int .i64 k,.string s] 223)).alloc (.cells #[.slice none 0 0,.int .i64 0,.bool false,.bool false,.int .i64 0,.int .i64 0,.slice none 0 0,.slice none 0 0,.slice none 0 0] 32)=W:=⟨_,rfl⟩
 have P0:Hid (Tri w W d (.slice fa fl fc) (.slice oa on oc) (.slice ra rn rc) (.slice ta tn tc) k s):=by rw [<- hW]; exact Tri.new w d _ _ _ _ _ _
 have zx:∀ i,i<w.heap.size->Zx Z w i->Z i:=λ i hi q=>q.elim (λ q=>q) (λ q=>by omega)
 have L:Hid (LG encF (Zx Z w) w fa fl fc d.files/\LG encO (Zx Z w) w oa on oc st.objs/\LG encN (Zx Z w) w ra rn rc st.refs/\LG encN (Zx Z w) w ta tn tc st.tags):=⟨h1.into zx,h2.into zx,h3.into zx,h4.into zx⟩
 have RB:Hid (∀ W',Below w.heap.size w W'->RMS (Zx Z w) W' (rm d (.slice fa fl fc) (.slice oa on oc) (.slice ra rn rc) (.slice ta tn tc)) st d):=λ W' b=>⟨fa,fl,fc,oa,on,oc,ra,rn,rc,ta,tn,tc,rfl,L.out.1.below b,L.out.2.1.below b,L.out.2.2.1.below b,L.out.2.2.2.below b⟩
 have HZ:Hid (∀ i,Zx Z w i->i<w.heap.size+3):=λ i q=>q.elim (λ q=>by have:=hZ i q; omega) (λ q=>q.2)
 have HS:Hid (s=⟨body.toArray⟩/\(if st.fits (k,body) then st.take (k,body) else st)=st'/\st.fits (k,body)=g/\s.size=body.length):=⟨hs,hst',hg,hss⟩
 have sk4:(k==4)=false:=by simpa using hk4
 have sk5:(k==5)=false:=by simpa using hk5
 have falls:g=false->st'=st:=λ q=>by rw [<- HS.out.2.1,HS.out.2.2.1,q]; rfl
 have fall:g=true->st'={ st with objs:=st.objs++[⟨k,oid k body,body⟩] }:=λ q=>by rw [<- HS.out.2.1,HS.out.2.2.1,q,if_pos rfl]; unfold St.take; rw [if_neg (by exact hk4),if_neg (by exact hk5)]
 have hf:(st.right (k,body)&&!(decide (oid k body=0))&&!(st.has k (oid k body)))=g:=by
  rw [<- HS.out.2.2.1];unfold St.fits;rw [if_neg (by show ¬ (k=4∨k=5); omega)]
 obtain ⟨x,hx⟩:∃ x,oid k body=x:=⟨_,rfl⟩
 rw [hx] at hf fall;obtain ⟨W1,cc,hcv,bW1,sW1,raw1,cap1,cap2⟩:=bytes_of W body;rw [show tx body=.string s by rw [HS.out.1],<- hss] at hcv;have hid:=rsid_at k W1 (raw1.at cap1 (cap2 (by simp only [maxLen]; omega))) x hx;rw [<- hss] at hid
 obtain ⟨xi,hxi⟩:∃ xi:Int,(x.toNat:Int)=xi:=⟨_,rfl⟩
 rw [hxi] at hid;have P1:Hid (Tri w W1 d (.slice fa fl fc) (.slice oa on oc) (.slice ra rn rc) (.slice ta tn tc) k s):=P0.out.below bW1;have XI:Hid ((x.toNat:Int)=xi):=hxi
 have ok9:¬ 9223372036854775807<s.size:=by omega
 rw [hx] at hodd
 have eg:g=false:=by
  rw [<- hf]
  rcases hodd with q | q | q | q
  ·rw [show st.right (k,body)=false by unfold St.right; rw [if_neg (by show ¬ k=1; omega),if_neg (by show ¬ k=2; omega),if_neg (by show ¬ k=3; omega)]]; rfl
  ·rw [show st.right (k,body)=false by unfold St.right; rw [if_neg (by show ¬ k=1; omega),if_neg (by show ¬ k=2; omega),if_neg (by show ¬ k=3; omega)]]; rfl
  ·simp [q]
  ·simp [q]
 have es:=(falls eg).symm;subst eg es
 have hh:=λ q hq=>shas_any (d:=d) (oc:=oc) (vf:=.slice fa fl fc) (vr:=.slice ra rn rc) (vt:=.slice ta tn tc) (L.out.2.1.rd.below P1.out.bel) L.out.2.1.len ho k x q hq
 rw [hxi] at hh;have u0:=u64_zero x;rw [hxi] at u0;by_cases c1:k<1
 ·clear hodd hh u0;obtain ⟨v0,v1⟩:=P0.out.fr.cells;clear h1 h2 h3 h4 hs hg hst' zx hss bW1 sW1 raw1 cap1 cap2 hxi hx hf falls fall hq;obtain ⟨x0,x1,x2,x3,x4,x5,x6,x7,x8⟩:=P1.out.box.cells;obtain ⟨y0,y1⟩:=P1.out.fr.cells;obtain ⟨z0,z1,z2,z3,z4,z5,z6,z7,z8⟩:=P1.out.res.cells;have gz:=P1.out.res.thaw;have g0:=gz 0;have g1:=gz 1;have g2:=gz 2;have g3:=gz 3;have g4:=gz 4;have g5:=gz 5;have g6:=gz 6;have g7:=gz 7;have g8:=gz 8;have l2:=P1.out.res.lt;clear gz;go_enter Tryz.func119,Tryz.ntmps119;go_wp2_with fail;refine hid.mono ?_;rintro e w1 ⟨rfl,hw1⟩;rw [hw1];clear hw1 w1 hid;go_wp2;refine bodyPost_ret (v:=.tuple #[rm d (.slice fa fl fc) (.slice oa on oc) (.slice ra rn rc) (.slice ta tn tc),.bool false]) ?_ rfl ⟨_,rfl,?_⟩
  ·simp [results,Tryz.f119];go_simp
  ·exact fits_close P1.out.bel (RB.out _ P1.out.bel) (lay_nine _ _ _ _ _ _ _ _ _ _ _)
 by_cases c2:3<k
 ·clear hodd hh u0;obtain ⟨v0,v1⟩:=P0.out.fr.cells;clear h1 h2 h3 h4 hs hg hst' zx hss bW1 sW1 raw1 cap1 cap2 hxi hx hf falls fall hq;obtain ⟨x0,x1,x2,x3,x4,x5,x6,x7,x8⟩:=P1.out.box.cells;obtain ⟨y0,y1⟩:=P1.out.fr.cells;obtain ⟨z0,z1,z2,z3,z4,z5,z6,z7,z8⟩:=P1.out.res.cells;have gz:=P1.out.res.thaw;have g0:=gz 0;have g1:=gz 1;have g2:=gz 2;have g3:=gz 3;have g4:=gz 4;have g5:=gz 5;have g6:=gz 6;have g7:=gz 7;have g8:=gz 8;have l2:=P1.out.res.lt;clear gz;go_enter Tryz.func119,Tryz.ntmps119;go_wp2_with fail;refine hid.mono ?_;rintro e w1 ⟨rfl,hw1⟩;rw [hw1];clear hw1 w1 hid;go_wp2;refine bodyPost_ret (v:=.tuple #[rm d (.slice fa fl fc) (.slice oa on oc) (.slice ra rn rc) (.slice ta tn tc),.bool false]) ?_ rfl ⟨_,rfl,?_⟩
  ·simp [results,Tryz.f119];go_simp
  ·exact fits_close P1.out.bel (RB.out _ P1.out.bel) (lay_nine _ _ _ _ _ _ _ _ _ _ _)
 by_cases c3:x=0
 ·have z00:xi=0:=u0.2 c3;subst z00;clear hodd hh u0 c3;obtain ⟨v0,v1⟩:=P0.out.fr.cells;clear h1 h2 h3 h4 hs hg hst' zx hss bW1 sW1 raw1 cap1 cap2 hxi hx hf falls fall hq;obtain ⟨x0,x1,x2,x3,x4,x5,x6,x7,x8⟩:=P1.out.box.cells;obtain ⟨y0,y1⟩:=P1.out.fr.cells;obtain ⟨z0,z1,z2,z3,z4,z5,z6,z7,z8⟩:=P1.out.res.cells;have gz:=P1.out.res.thaw;have g0:=gz 0;have g1:=gz 1;have g2:=gz 2;have g3:=gz 3;have g4:=gz 4;have g5:=gz 5;have g6:=gz 6;have g7:=gz 7;have g8:=gz 8;have l2:=P1.out.res.lt;clear gz;go_enter Tryz.func119,Tryz.ntmps119;go_wp2_with fail;refine hid.mono ?_;rintro e w1 ⟨rfl,hw1⟩;rw [hw1];clear hw1 w1 hid;go_wp2;refine bodyPost_ret (v:=.tuple #[rm d (.slice fa fl fc) (.slice oa on oc) (.slice ra rn rc) (.slice ta tn tc),.bool false]) ?_ rfl ⟨_,rfl,?_⟩
  ·simp [results,Tryz.f119];go_simp
  ·exact fits_close P1.out.bel (RB.out _ P1.out.bel) (lay_nine _ _ _ _ _ _ _ _ _ _ _)
 have c4:st.has k x=true:=by
  rcases hodd with q | q | q | q
  ·exact absurd q c1
  ·exact absurd q c2
  ·exact absurd q c3
  ·exact q
 have hh:=hh true c4
 have m1:(xi==0)=false:=by
  have:=λ z=>c3 (u0.1 z)
  simpa using this
 clear hodd u0 c3 c4;obtain ⟨v0,v1⟩:=P0.out.fr.cells;clear h1 h2 h3 h4 hs hg hst' zx hss bW1 sW1 raw1 cap1 cap2 hxi hx hf falls fall hq;obtain ⟨x0,x1,x2,x3,x4,x5,x6,x7,x8⟩:=P1.out.box.cells;obtain ⟨y0,y1⟩:=P1.out.fr.cells;obtain ⟨z0,z1,z2,z3,z4,z5,z6,z7,z8⟩:=P1.out.res.cells;have gz:=P1.out.res.thaw;have g0:=gz 0;have g1:=gz 1;have g2:=gz 2;have g3:=gz 3;have g4:=gz 4;have g5:=gz 5;have g6:=gz 6;have g7:=gz 7;have g8:=gz 8;have l2:=P1.out.res.lt;clear gz;go_enter Tryz.func119,Tryz.ntmps119;go_wp2_with fail;refine hid.mono ?_;rintro e w1 ⟨rfl,hw1⟩;rw [hw1];clear hw1 w1 hid;go_wp2_with fail;refine hh.mono ?_;rintro e w2 ⟨rfl,B2⟩;have P2:Hid (Tri w w2 d (.slice fa fl fc) (.slice oa on oc) (.slice ra rn rc) (.slice ta tn tc) k s):=P1.out.below B2;clear B2 hh;clear x0 x1 x2 x3 x4 x5 x6 x7 x8 y0 y1 z0 z1 z2 z3 z4 z5 z6 z7 z8 g0 g1 g2 g3 g4 g5 g6 g7 g8 l2;obtain ⟨x0,x1,x2,x3,x4,x5,x6,x7,x8⟩:=P2.out.box.cells;obtain ⟨y0,y1⟩:=P2.out.fr.cells;obtain ⟨z0,z1,z2,z3,z4,z5,z6,z7,z8⟩:=P2.out.res.cells;have gz:=P2.out.res.thaw;have g0:=gz 0;have g1:=gz 1;have g2:=gz 2;have g3:=gz 3;have g4:=gz 4;have g5:=gz 5;have g6:=gz 6;have g7:=gz 7;have g8:=gz 8;have l2:=P2.out.res.lt;clear gz;go_wp2;refine bodyPost_ret (v:=.tuple #[rm d (.slice fa fl fc) (.slice oa on oc) (.slice ra rn rc) (.slice ta tn tc),.bool false]) ?_ rfl ⟨_,rfl,?_⟩
 ·simp [results,Tryz.f119];go_simp
 ·exact fits_close P2.out.bel (RB.out _ P2.out.bel) (lay_nine _ _ _ _ _ _ _ _ _ _ _)
end Go.Proofs.YtjlokpjflgbgdaaGreat

namespace Go.Proofs.YtjlokpjflgbgdaaGreat
open Go.RowKit
theorem rfits_blob {Z:Nat->Prop} {w:World} {st:St} {d:Dk} {fa oa ra ta:Option Addr} {fl fc on oc rn rc tn tc:Nat} (hZ:∀ i,Z i->i<w.heap.size) (h1:LG encF Z w fa fl fc d.files) (h2:LG encO Z w oa on oc st.objs) (h3:LG encN Z w ra rn rc st.refs) (h4:LG encN Z w ta tn tc st.tags) (hsz:st.size<=1000000) (body:Bs) (hbl:body.length<=1000000) (hne:¬ oid 1 body=0) (hno:st.has 1 (oid 1 body)=false) :
  Calls Tryz.prog 119 #[rm d (.slice fa fl fc) (.slice oa on oc) (.slice ra rn rc) (.slice ta tn tc),.agg #[.int .i64 1,tx body]] w λ e w'=>∃ m',e=.returned (.tuple #[m',.bool (st.fits (1,body))])/\Hid (RMS Z w' m' (if st.fits (1,body) then st.take (1,body) else st) d/\Below w.heap.size w w'):=by
 have hq:st.objs.length<=1000000/\st.refs.length<=1000000/\st.tags.length<=1000000:=by unfold St.size at hsz; omega
 have ho:on<=1000000:=by rw [<- h2.len]; exact hq.1
 have hrl:rn<=1000000:=by rw [<- h3.len]; exact hq.2.1
 have htl:tn<=1000000:=by rw [<- h4.len]; exact hq.2.2
 obtain ⟨s,hs⟩:∃ s:ByteArray,s=⟨body.toArray⟩:=⟨_,rfl⟩
 have hss:s.size=body.length:=by rw [hs]; show body.toArray.size=_; simp
 obtain ⟨g,hg⟩:∃ g,st.fits (1,body)=g:=⟨_,rfl⟩
 obtain ⟨st',hst'⟩:∃ st',(if st.fits (1,body) then st.take (1,body) else st)=st':=⟨_,rfl⟩
 rw [hst',hg,show tx body=.string s by rw [hs]]
 obtain ⟨W,hW⟩:∃ W,((w.alloc (nineC d (.slice fa fl fc) (.slice oa on oc) (.slice ra rn rc) (.slice ta tn tc))).alloc (.cells #[.int .i64 1,.string s] 223)).alloc (.cells #[.slice none 0 0,.int .i64 0,.bool false,.bool false,.int .i64 0,.int .i64 0,.slice none 0 0,.slice none 0 0,.slice none 0 0] 32)=W:=⟨_,rfl⟩
 have P0:Hid (Tri w W d (.slice fa fl fc) (.slice oa on oc) (.slice ra rn rc) (.slice ta tn tc) 1 s):=by rw [<- hW]; exact Tri.new w d _ _ _ _ _ _
 have zx:∀ i,i<w.heap.size->Zx Z w i->Z i:=λ i hi q=>q.elim (λ q=>q) (λ q=>by omega)
 have L:Hid (LG encF (Zx Z w) w fa fl fc d.files/\LG encO (Zx Z w) w oa on oc st.objs/\LG encN (Zx Z w) w ra rn rc st.refs/\LG encN (Zx Z w) w ta tn tc st.tags):=⟨h1.into zx,h2.into zx,h3.into zx,h4.into zx⟩
 have RB:Hid (∀ W',Below w.heap.size w W'->RMS (Zx Z w) W' (rm d (.slice fa fl fc) (.slice oa on oc) (.slice ra rn rc) (.slice ta tn tc)) st d):=λ W' b=>⟨fa,fl,fc,oa,on,oc,ra,rn,rc,ta,tn,tc,rfl,L.out.1.below b,L.out.2.1.below b,L.out.2.2.1.below b,L.out.2.2.2.below b⟩
 have HZ:Hid (∀ i,Zx Z w i->i<w.heap.size+3):=λ i q=>q.elim (λ q=>by have:=hZ i q; omega) (λ q=>q.2)
 have HS:Hid (s=⟨body.toArray⟩/\(if st.fits (1,body) then st.take (1,body) else st)=st'/\st.fits (1,body)=g/\s.size=body.length):=⟨hs,hst',hg,hss⟩
 have falls:g=false->st'=st:=λ q=>by rw [<- HS.out.2.1,HS.out.2.2.1,q]; rfl
 have fall:g=true->st'={ st with objs:=st.objs++[⟨1,oid 1 body,body⟩] }:=λ q=>by rw [<- HS.out.2.1,HS.out.2.2.1,q,if_pos rfl]; unfold St.take; rw [if_neg (by show ¬ (1:Int)=4; omega),if_neg (by show ¬ (1:Int)=5; omega)]
 have hf:(st.right (1,body)&&!(decide (oid 1 body=0))&&!(st.has 1 (oid 1 body)))=g:=by
  rw [<- HS.out.2.2.1];unfold St.fits;rw [if_neg (by show ¬ ((1:Int)=4∨(1:Int)=5); omega)]
 obtain ⟨x,hx⟩:∃ x,oid 1 body=x:=⟨_,rfl⟩
 rw [hx] at hf fall;obtain ⟨W1,cc,hcv,bW1,sW1,raw1,cap1,cap2⟩:=bytes_of W body;rw [show tx body=.string s by rw [HS.out.1],<- hss] at hcv;have hid:=rsid_at 1 W1 (raw1.at cap1 (cap2 (by simp only [maxLen]; omega))) x hx;rw [<- hss] at hid
 obtain ⟨xi,hxi⟩:∃ xi:Int,(x.toNat:Int)=xi:=⟨_,rfl⟩
 rw [hxi] at hid;have P1:Hid (Tri w W1 d (.slice fa fl fc) (.slice oa on oc) (.slice ra rn rc) (.slice ta tn tc) 1 s):=P0.out.below bW1;have XI:Hid ((x.toNat:Int)=xi):=hxi
 have ok9:¬ 9223372036854775807<s.size:=by omega
 rw [hx] at hne hno;have hh:=shas_any (d:=d) (oc:=oc) (vf:=.slice fa fl fc) (vr:=.slice ra rn rc) (vt:=.slice ta tn tc) (L.out.2.1.rd.below P1.out.bel) L.out.2.1.len ho 1 x false hno;rw [hxi] at hh;have u0:=u64_zero x;rw [hxi] at u0
 have m1:(xi==0)=false:=by
  have:=λ z=>hne (u0.1 z)
  simpa using this
 have hf2:st.right (1,body)=g:=by
  rw [<- hf,hno];simp [hne]
 have FL:Hid ((g=false->st'=st)/\(g=true->st'={ st with objs:=st.objs++[⟨1,x,body⟩] })/\st.right (1,body)=g):=⟨falls,fall,hf2⟩
 have HL:Hid (s.size=body.length):=hss;have HB:Hid (body.length<=1000000):=hbl;clear u0 hne hno hf hf2 falls fall hq;by_cases h4:s.size<=4096
 ·have t4:¬ (4096:Int)<(s.size:Int):=by omega
  have t4n:¬ 4096<s.size:=by omega
  have eg:g=true:=by rw [<- FL.out.2.2]; unfold St.right; rw [if_pos rfl]; simp; have:=HL.out; omega
  have es:=FL.out.2.1 eg;subst eg es;obtain ⟨v0,v1⟩:=P0.out.fr.cells;clear h1 h2 h3 h4 hs hg hst' zx hss bW1 sW1 raw1 cap1 cap2 hxi hx hbl;obtain ⟨x0,x1,x2,x3,x4,x5,x6,x7,x8⟩:=P1.out.box.cells;obtain ⟨y0,y1⟩:=P1.out.fr.cells;obtain ⟨z0,z1,z2,z3,z4,z5,z6,z7,z8⟩:=P1.out.res.cells;have gz:=P1.out.res.thaw;have g0:=gz 0;have g1:=gz 1;have g2:=gz 2;have g3:=gz 3;have g4:=gz 4;have g5:=gz 5;have g6:=gz 6;have g7:=gz 7;have g8:=gz 8;have l2:=P1.out.res.lt;clear gz;go_enter Tryz.func119,Tryz.ntmps119;go_wp2_with fail;refine hid.mono ?_;rintro e w1 ⟨rfl,hw1⟩;rw [hw1];clear hw1 w1 hid;go_wp2_with fail;refine hh.mono ?_;rintro e w2 ⟨rfl,B2⟩;have P2:Hid (Tri w w2 d (.slice fa fl fc) (.slice oa on oc) (.slice ra rn rc) (.slice ta tn tc) 1 s):=P1.out.below B2;clear B2 hh;clear x0 x1 x2 x3 x4 x5 x6 x7 x8 y0 y1 z0 z1 z2 z3 z4 z5 z6 z7 z8 g0 g1 g2 g3 g4 g5 g6 g7 g8 l2;obtain ⟨x0,x1,x2,x3,x4,x5,x6,x7,x8⟩:=P2.out.box.cells;obtain ⟨y0,y1⟩:=P2.out.fr.cells;obtain ⟨z0,z1,z2,z3,z4,z5,z6,z7,z8⟩:=P2.out.res.cells;have gz:=P2.out.res.thaw;have g0:=gz 0;have g1:=gz 1;have g2:=gz 2;have g3:=gz 3;have g4:=gz 4;have g5:=gz 5;have g6:=gz 6;have g7:=gz 7;have g8:=gz 8;have l2:=P2.out.res.lt;clear gz
  go_wp2_with (first
   | (at_builtin; refine appG_list encO 140 29 32 _ rfl Tryz.info140 Tryz.underlying29 rfl (.tmp 159) (.tmp 161) rfl (w.heap.size+3) _ [] st.objs oa on oc rfl (OwnG.nil _ _ _ _) rfl (L.out.2.1.rd.below P2.out.bel) L.out.2.1.len (by simp; omega) (by simp only [maxLen]; simp; omega) P2.out.size ?_; intro v8 w8 o8 b8 m8 t8; have P8:Hid (Tri w w8 d (.slice fa fl fc) (.slice oa on oc) (.slice ra rn rc) (.slice ta tn tc) 1 s/\OwnG encO 140 w8 (w.heap.size+3) v8 st.objs):=⟨tri_on P2.out b8,by simpa using o8⟩; clear o8 b8 m8 t8; clear x0 x1 x2 x3 x4 x5 x6 x7 x8 y0 y1 z0 z1 z2 z3 z4 z5 z6 z7 z8 g0 g1 g2 g3 g4 g5 g6 g7 g8 l2; obtain ⟨y0,y1⟩:=P8.out.1.fr.cells)
   | (at_builtin; refine appG_one encO 140 29 32 _ rfl Tryz.info140 Tryz.underlying29 rfl (.tmp 163) (.tmp 170) rfl (w.heap.size+3) _ st.objs ⟨1,x,body⟩ 140 rfl P8.out.2 rfl (by rw [L.out.2.1.len]; omega) (by rw [L.out.2.1.len]; simp only [maxLen]; omega) P8.out.1.size _ (by rw [<- XI.out,HS.out.1]; rfl) ?_; intro v9 w9 o9 b9 m9 t9; obtain ⟨a9,c9,e9,lg9⟩:=LG.ofOwn (Z:=Zx Z w) o9 HZ.out; obtain ⟨n9,hn9⟩:∃ n9,(st.objs++[(⟨1,x,body⟩:Ob)]).length=n9:=⟨_,rfl⟩; rw [hn9] at e9 lg9; subst e9; have P9:Hid (Tri w w9 d (.slice fa fl fc) (.slice oa on oc) (.slice ra rn rc) (.slice ta tn tc) 1 s/\LG encO (Zx Z w) w9 a9 n9 c9 (st.objs++[⟨1,x,body⟩])):=⟨tri_on P8.out.1 b9,lg9⟩; clear o9 b9 m9 t9 lg9 hn9; clear y0 y1; obtain ⟨x0,x1,x2,x3,x4,x5,x6,x7,x8⟩:=P9.out.1.box.cells; obtain ⟨z0,z1,z2,z3,z4,z5,z6,z7,z8⟩:=P9.out.1.res.cells; have gz:=P9.out.1.res.thaw; have g0:=gz 0; have g1:=gz 1; have g2:=gz 2; have g3:=gz 3; have g4:=gz 4; have g5:=gz 5; have g6:=gz 6; have g7:=gz 7; have g8:=gz 8; have l2:=P9.out.1.res.lt; have f6:=P9.out.1.box.thaw 6; have l0:=P9.out.1.box.lt; have ne2:w.heap.size≠w.heap.size+2:=(by omega); clear gz))
  go_wp2;refine bodyPost_ret (v:=.tuple #[rm d (.slice fa fl fc) (.slice a9 n9 c9) (.slice ra rn rc) (.slice ta tn tc),.bool true]) ?_ rfl ⟨_,rfl,?_⟩
  ·simp [results,Tryz.f119];go_simp
  ·exact fits_close2 P9.out.1.bel (⟨fa,fl,fc,a9,n9,c9,ra,rn,rc,ta,tn,tc,rfl,L.out.1.below P9.out.1.bel,P9.out.2,L.out.2.2.1.below P9.out.1.bel,L.out.2.2.2.below P9.out.1.bel⟩) rfl (lay_nine _ _ _ _ _ _ _ _ _ _ _)
 ·have t4:(4096:Int)<(s.size:Int):=by omega
  have t4n:4096<s.size:=by omega
  have eg:g=false:=by rw [<- FL.out.2.2]; unfold St.right; rw [if_pos rfl]; simp; have:=HL.out; omega
  have es:=FL.out.1 eg;subst eg es;obtain ⟨v0,v1⟩:=P0.out.fr.cells;clear h1 h2 h3 h4 hs hg hst' zx hss bW1 sW1 raw1 cap1 cap2 hxi hx hbl;obtain ⟨x0,x1,x2,x3,x4,x5,x6,x7,x8⟩:=P1.out.box.cells;obtain ⟨y0,y1⟩:=P1.out.fr.cells;obtain ⟨z0,z1,z2,z3,z4,z5,z6,z7,z8⟩:=P1.out.res.cells;have gz:=P1.out.res.thaw;have g0:=gz 0;have g1:=gz 1;have g2:=gz 2;have g3:=gz 3;have g4:=gz 4;have g5:=gz 5;have g6:=gz 6;have g7:=gz 7;have g8:=gz 8;have l2:=P1.out.res.lt;clear gz;go_enter Tryz.func119,Tryz.ntmps119;go_wp2_with fail;refine hid.mono ?_;rintro e w1 ⟨rfl,hw1⟩;rw [hw1];clear hw1 w1 hid;go_wp2_with fail;refine hh.mono ?_;rintro e w2 ⟨rfl,B2⟩;have P2:Hid (Tri w w2 d (.slice fa fl fc) (.slice oa on oc) (.slice ra rn rc) (.slice ta tn tc) 1 s):=P1.out.below B2;clear B2 hh;clear x0 x1 x2 x3 x4 x5 x6 x7 x8 y0 y1 z0 z1 z2 z3 z4 z5 z6 z7 z8 g0 g1 g2 g3 g4 g5 g6 g7 g8 l2;obtain ⟨x0,x1,x2,x3,x4,x5,x6,x7,x8⟩:=P2.out.box.cells;obtain ⟨y0,y1⟩:=P2.out.fr.cells;obtain ⟨z0,z1,z2,z3,z4,z5,z6,z7,z8⟩:=P2.out.res.cells;have gz:=P2.out.res.thaw;have g0:=gz 0;have g1:=gz 1;have g2:=gz 2;have g3:=gz 3;have g4:=gz 4;have g5:=gz 5;have g6:=gz 6;have g7:=gz 7;have g8:=gz 8;have l2:=P2.out.res.lt;clear gz;go_wp2;refine bodyPost_ret (v:=.tuple #[rm d (.slice fa fl fc) (.slice oa on oc) (.slice ra rn rc) (.slice ta tn tc),.bool false]) ?_ rfl ⟨_,rfl,?_⟩
  ·simp [results,Tryz.f119];go_simp
  ·exact fits_close P2.out.bel (RB.out _ P2.out.bel) (lay_nine _ _ _ _ _ _ _ _ _ _ _)
end Go.Proofs.YtjlokpjflgbgdaaGreat

namespace Go.Proofs.YtjlokpjflgbgdaaGreat
open Go.RowKit
theorem rfits_tree {Z:Nat->Prop} {w:World} {st:St} {d:Dk} {fa oa ra ta:Option Addr} {fl fc on oc rn rc tn tc:Nat} (hZ:∀ i,Z i->i<w.heap.size) (h1:LG encF Z w fa fl fc d.files) (h2:LG encO Z w oa on oc st.objs) (h3:LG encN Z w ra rn rc st.refs) (h4:LG encN Z w ta tn tc st.tags) (hsz:st.size<=1000000) (body:Bs) (hbl:body.length<=1000000) (hne:¬ oid 2 body=0) (hno:st.has 2 (oid 2 body)=false) :
  Calls Tryz.prog 119 #[rm d (.slice fa fl fc) (.slice oa on oc) (.slice ra rn rc) (.slice ta tn tc),.agg #[.int .i64 2,tx body]] w λ e w'=>∃ m',e=.returned (.tuple #[m',.bool (st.fits (2,body))])/\Hid (RMS Z w' m' (if st.fits (2,body) then st.take (2,body) else st) d/\Below w.heap.size w w'):=by
 have hq:st.objs.length<=1000000/\st.refs.length<=1000000/\st.tags.length<=1000000:=by unfold St.size at hsz; omega
 have ho:on<=1000000:=by rw [<- h2.len]; exact hq.1
 have hrl:rn<=1000000:=by rw [<- h3.len]; exact hq.2.1
 have htl:tn<=1000000:=by rw [<- h4.len]; exact hq.2.2
 obtain ⟨s,hs⟩:∃ s:ByteArray,s=⟨body.toArray⟩:=⟨_,rfl⟩
 have hss:s.size=body.length:=by rw [hs]; show body.toArray.size=_; simp
 obtain ⟨g,hg⟩:∃ g,st.fits (2,body)=g:=⟨_,rfl⟩
 obtain ⟨st',hst'⟩:∃ st',(if st.fits (2,body) then st.take (2,body) else st)=st':=⟨_,rfl⟩
 rw [hst',hg,show tx body=.string s by rw [hs]]
 obtain ⟨W,hW⟩:∃ W,((w.alloc (nineC d (.slice fa fl fc) (.slice oa on oc) (.slice ra rn rc) (.slice ta tn tc))).alloc (.cells #[.int .i64 2,.string s] 223)).alloc (.cells #[.slice none 0 0,.int .i64 0,.bool false,.bool false,.int .i64 0,.int .i64 0,.slice none 0 0,.slice none 0 0,.slice none 0 0] 32)=W:=⟨_,rfl⟩
 have P0:Hid (Tri w W d (.slice fa fl fc) (.slice oa on oc) (.slice ra rn rc) (.slice ta tn tc) 2 s):=by rw [<- hW]; exact Tri.new w d _ _ _ _ _ _
 have zx:∀ i,i<w.heap.size->Zx Z w i->Z i:=λ i hi q=>q.elim (λ q=>q) (λ q=>by omega)
 have L:Hid (LG encF (Zx Z w) w fa fl fc d.files/\LG encO (Zx Z w) w oa on oc st.objs/\LG encN (Zx Z w) w ra rn rc st.refs/\LG encN (Zx Z w) w ta tn tc st.tags):=⟨h1.into zx,h2.into zx,h3.into zx,h4.into zx⟩
 have RB:Hid (∀ W',Below w.heap.size w W'->RMS (Zx Z w) W' (rm d (.slice fa fl fc) (.slice oa on oc) (.slice ra rn rc) (.slice ta tn tc)) st d):=λ W' b=>⟨fa,fl,fc,oa,on,oc,ra,rn,rc,ta,tn,tc,rfl,L.out.1.below b,L.out.2.1.below b,L.out.2.2.1.below b,L.out.2.2.2.below b⟩
 have HZ:Hid (∀ i,Zx Z w i->i<w.heap.size+3):=λ i q=>q.elim (λ q=>by have:=hZ i q; omega) (λ q=>q.2)
 have HS:Hid (s=⟨body.toArray⟩/\(if st.fits (2,body) then st.take (2,body) else st)=st'/\st.fits (2,body)=g/\s.size=body.length):=⟨hs,hst',hg,hss⟩
 have falls:g=false->st'=st:=λ q=>by rw [<- HS.out.2.1,HS.out.2.2.1,q]; rfl
 have fall:g=true->st'={ st with objs:=st.objs++[⟨2,oid 2 body,body⟩] }:=λ q=>by rw [<- HS.out.2.1,HS.out.2.2.1,q,if_pos rfl]; unfold St.take; rw [if_neg (by show ¬ (2:Int)=4; omega),if_neg (by show ¬ (2:Int)=5; omega)]
 have hf:(st.right (2,body)&&!(decide (oid 2 body=0))&&!(st.has 2 (oid 2 body)))=g:=by
  rw [<- HS.out.2.2.1];unfold St.fits;rw [if_neg (by show ¬ ((2:Int)=4∨(2:Int)=5); omega)]
 obtain ⟨x,hx⟩:∃ x,oid 2 body=x:=⟨_,rfl⟩
 rw [hx] at hf fall;obtain ⟨W1,cc,hcv,bW1,sW1,raw1,cap1,cap2⟩:=bytes_of W body;rw [show tx body=.string s by rw [HS.out.1],<- hss] at hcv;have hid:=rsid_at 2 W1 (raw1.at cap1 (cap2 (by simp only [maxLen]; omega))) x hx;rw [<- hss] at hid
 obtain ⟨xi,hxi⟩:∃ xi:Int,(x.toNat:Int)=xi:=⟨_,rfl⟩
 rw [hxi] at hid;have P1:Hid (Tri w W1 d (.slice fa fl fc) (.slice oa on oc) (.slice ra rn rc) (.slice ta tn tc) 2 s):=P0.out.below bW1;have XI:Hid ((x.toNat:Int)=xi):=hxi
 have ok9:¬ 9223372036854775807<s.size:=by omega
 rw [hx] at hne hno;have hh:=shas_any (d:=d) (oc:=oc) (vf:=.slice fa fl fc) (vr:=.slice ra rn rc) (vt:=.slice ta tn tc) (L.out.2.1.rd.below P1.out.bel) L.out.2.1.len ho 2 x false hno;rw [hxi] at hh;have u0:=u64_zero x;rw [hxi] at u0
 have m1:(xi==0)=false:=by
  have:=λ z=>hne (u0.1 z)
  simpa using this
 have hf2:st.right (2,body)=g:=by
  rw [<- hf,hno];simp [hne]
 have FL:Hid ((g=false->st'=st)/\(g=true->st'={ st with objs:=st.objs++[⟨2,x,body⟩] })/\st.right (2,body)=g):=⟨falls,fall,hf2⟩
 have HL:Hid (s.size=body.length):=hss;have HB:Hid (body.length<=1000000):=hbl;clear u0 hne hno hf hf2 falls fall hq;obtain ⟨v0,v1⟩:=P0.out.fr.cells;clear h1 h2 h3 h4 hs hg hst' zx hss bW1 sW1 raw1 cap1 cap2 hxi hx hbl;obtain ⟨x0,x1,x2,x3,x4,x5,x6,x7,x8⟩:=P1.out.box.cells;obtain ⟨y0,y1⟩:=P1.out.fr.cells;obtain ⟨z0,z1,z2,z3,z4,z5,z6,z7,z8⟩:=P1.out.res.cells;have gz:=P1.out.res.thaw;have g0:=gz 0;have g1:=gz 1;have g2:=gz 2;have g3:=gz 3;have g4:=gz 4;have g5:=gz 5;have g6:=gz 6;have g7:=gz 7;have g8:=gz 8;have l2:=P1.out.res.lt;clear gz;go_enter Tryz.func119,Tryz.ntmps119;go_wp2_with fail;refine hid.mono ?_;rintro e w1 ⟨rfl,hw1⟩;rw [hw1];clear hw1 w1 hid
 have hrt:=λ W'=>rreadTree_any body HB.out W'
 rw [show tx body=.string s by rw [HS.out.1]] at hrt;have HRT:Hid (∀ W',Calls Tryz.prog 139 #[.string s] W' λ e w'=>∃ es er v,e=.returned (.tuple #[v,.int .i64 er])/\Hid (RT body es er/\OwnG encE 230 w' W'.heap.size v es/\Below W'.heap.size W' w')):=hrt;clear hrt;go_wp2_with fail;refine hh.mono ?_;rintro e w2 ⟨rfl,B2⟩;have P2:Hid (Tri w w2 d (.slice fa fl fc) (.slice oa on oc) (.slice ra rn rc) (.slice ta tn tc) 2 s):=P1.out.below B2;clear B2 hh;clear x0 x1 x2 x3 x4 x5 x6 x7 x8 y0 y1 z0 z1 z2 z3 z4 z5 z6 z7 z8 g0 g1 g2 g3 g4 g5 g6 g7 g8 l2;obtain ⟨x0,x1,x2,x3,x4,x5,x6,x7,x8⟩:=P2.out.box.cells;obtain ⟨y0,y1⟩:=P2.out.fr.cells;obtain ⟨z0,z1,z2,z3,z4,z5,z6,z7,z8⟩:=P2.out.res.cells;have gz:=P2.out.res.thaw;have g0:=gz 0;have g1:=gz 1;have g2:=gz 2;have g3:=gz 3;have g4:=gz 4;have g5:=gz 5;have g6:=gz 6;have g7:=gz 7;have g8:=gz 8;have l2:=P2.out.res.lt;clear gz;go_wp2_with fail;refine (HRT.out w2).mono ?_;rintro e w3 ⟨es,er,v3,rfl,R3⟩;have P3:Hid (Tri w w3 d (.slice fa fl fc) (.slice oa on oc) (.slice ra rn rc) (.slice ta tn tc) 2 s):=P2.out.below R3.out.2.2;clear HRT;clear x0 x1 x2 x3 x4 x5 x6 x7 x8 y0 y1 z0 z1 z2 z3 z4 z5 z6 z7 z8 g0 g1 g2 g3 g4 g5 g6 g7 g8 l2;obtain ⟨x0,x1,x2,x3,x4,x5,x6,x7,x8⟩:=P3.out.box.cells;obtain ⟨y0,y1⟩:=P3.out.fr.cells;obtain ⟨z0,z1,z2,z3,z4,z5,z6,z7,z8⟩:=P3.out.res.cells;have gz:=P3.out.res.thaw;have g0:=gz 0;have g1:=gz 1;have g2:=gz 2;have g3:=gz 3;have g4:=gz 4;have g5:=gz 5;have g6:=gz 6;have g7:=gz 7;have g8:=gz 8;have l2:=P3.out.res.lt;clear gz
 rcases R3.out.1.rd with ⟨rfl,hr⟩ | ⟨rfl,rfl,hr⟩
 ·have hri:st.right (2,body)=st.blobs es:=by unfold St.right; rw [if_neg (by show ¬ (2:Int)=1; omega),if_pos rfl]; simp only [hr]
  obtain ⟨a3,c3,hv3,_,_,r3,_⟩:=OwnG.form R3.out.2.1;have h64:=(ctree_ok (rdtree_back hr).1).1
  obtain ⟨en,hen⟩:∃ en,es.length=en:=⟨_,rfl⟩
  have hbl:=rblobs_any (d:=d) (oc:=oc) (vf:=.slice fa fl fc) (vr:=.slice ra rn rc) (vt:=.slice ta tn tc) (ec:=c3) (L.out.2.1.rd.below P3.out.bel) L.out.2.1.len ho r3 hen (by omega) g (by rw [<- hri]; exact FL.out.2.2);rw [hen] at hv3;subst hv3;clear hri r3 h64 hen hr R3;go_wp2_with fail;refine hbl.mono ?_;rintro e w4 ⟨rfl,B4⟩;have P4:Hid (Tri w w4 d (.slice fa fl fc) (.slice oa on oc) (.slice ra rn rc) (.slice ta tn tc) 2 s):=P3.out.below B4;clear B4 hbl;clear x0 x1 x2 x3 x4 x5 x6 x7 x8 y0 y1 z0 z1 z2 z3 z4 z5 z6 z7 z8 g0 g1 g2 g3 g4 g5 g6 g7 g8 l2;obtain ⟨x0,x1,x2,x3,x4,x5,x6,x7,x8⟩:=P4.out.box.cells;obtain ⟨y0,y1⟩:=P4.out.fr.cells;obtain ⟨z0,z1,z2,z3,z4,z5,z6,z7,z8⟩:=P4.out.res.cells;have gz:=P4.out.res.thaw;have g0:=gz 0;have g1:=gz 1;have g2:=gz 2;have g3:=gz 3;have g4:=gz 4;have g5:=gz 5;have g6:=gz 6;have g7:=gz 7;have g8:=gz 8;have l2:=P4.out.res.lt;clear gz
  cases g with
  | false =>
   have es:=FL.out.1 rfl;subst es;go_wp2;refine bodyPost_ret (v:=.tuple #[rm d (.slice fa fl fc) (.slice oa on oc) (.slice ra rn rc) (.slice ta tn tc),.bool false]) ?_ rfl ⟨_,rfl,?_⟩
   ·simp [results,Tryz.f119];go_simp
   ·exact fits_close P4.out.bel (RB.out _ P4.out.bel) (lay_nine _ _ _ _ _ _ _ _ _ _ _)
  | true =>
   have es:=FL.out.2.1 rfl;subst es
   go_wp2_with (first
    | (at_builtin; refine appG_list encO 140 29 32 _ rfl Tryz.info140 Tryz.underlying29 rfl (.tmp 159) (.tmp 161) rfl (w.heap.size+3) _ [] st.objs oa on oc rfl (OwnG.nil _ _ _ _) rfl (L.out.2.1.rd.below P4.out.bel) L.out.2.1.len (by simp; omega) (by simp only [maxLen]; simp; omega) P4.out.size ?_; intro v8 w8 o8 b8 m8 t8; have P8:Hid (Tri w w8 d (.slice fa fl fc) (.slice oa on oc) (.slice ra rn rc) (.slice ta tn tc) 2 s/\OwnG encO 140 w8 (w.heap.size+3) v8 st.objs):=⟨tri_on P4.out b8,by simpa using o8⟩; clear o8 b8 m8 t8; clear x0 x1 x2 x3 x4 x5 x6 x7 x8 y0 y1 z0 z1 z2 z3 z4 z5 z6 z7 z8 g0 g1 g2 g3 g4 g5 g6 g7 g8 l2; obtain ⟨y0,y1⟩:=P8.out.1.fr.cells)
    | (at_builtin; refine appG_one encO 140 29 32 _ rfl Tryz.info140 Tryz.underlying29 rfl (.tmp 163) (.tmp 170) rfl (w.heap.size+3) _ st.objs ⟨2,x,body⟩ 140 rfl P8.out.2 rfl (by rw [L.out.2.1.len]; omega) (by rw [L.out.2.1.len]; simp only [maxLen]; omega) P8.out.1.size _ (by rw [<- XI.out,HS.out.1]; rfl) ?_; intro v9 w9 o9 b9 m9 t9; obtain ⟨a9,c9,e9,lg9⟩:=LG.ofOwn (Z:=Zx Z w) o9 HZ.out; obtain ⟨n9,hn9⟩:∃ n9,(st.objs++[(⟨2,x,body⟩:Ob)]).length=n9:=⟨_,rfl⟩; rw [hn9] at e9 lg9; subst e9; have P9:Hid (Tri w w9 d (.slice fa fl fc) (.slice oa on oc) (.slice ra rn rc) (.slice ta tn tc) 2 s/\LG encO (Zx Z w) w9 a9 n9 c9 (st.objs++[⟨2,x,body⟩])):=⟨tri_on P8.out.1 b9,lg9⟩; clear o9 b9 m9 t9 lg9 hn9; clear y0 y1; obtain ⟨x0,x1,x2,x3,x4,x5,x6,x7,x8⟩:=P9.out.1.box.cells; obtain ⟨z0,z1,z2,z3,z4,z5,z6,z7,z8⟩:=P9.out.1.res.cells; have gz:=P9.out.1.res.thaw; have g0:=gz 0; have g1:=gz 1; have g2:=gz 2; have g3:=gz 3; have g4:=gz 4; have g5:=gz 5; have g6:=gz 6; have g7:=gz 7; have g8:=gz 8; have l2:=P9.out.1.res.lt; have f6:=P9.out.1.box.thaw 6; have l0:=P9.out.1.box.lt; have ne2:w.heap.size≠w.heap.size+2:=(by omega); clear gz))
   go_wp2;refine bodyPost_ret (v:=.tuple #[rm d (.slice fa fl fc) (.slice a9 n9 c9) (.slice ra rn rc) (.slice ta tn tc),.bool true]) ?_ rfl ⟨_,rfl,?_⟩
   ·simp [results,Tryz.f119];go_simp
   ·exact fits_close2 P9.out.1.bel (⟨fa,fl,fc,a9,n9,c9,ra,rn,rc,ta,tn,tc,rfl,L.out.1.below P9.out.1.bel,P9.out.2,L.out.2.2.1.below P9.out.1.bel,L.out.2.2.2.below P9.out.1.bel⟩) rfl (lay_nine _ _ _ _ _ _ _ _ _ _ _)
 ·have eg:g=false:=by rw [<- FL.out.2.2]; unfold St.right; rw [if_neg (by show ¬ (2:Int)=1; omega),if_pos rfl]; simp only [hr]
  have es:=FL.out.1 eg;subst eg es;clear hr R3;go_wp2;refine bodyPost_ret (v:=.tuple #[rm d (.slice fa fl fc) (.slice oa on oc) (.slice ra rn rc) (.slice ta tn tc),.bool false]) ?_ rfl ⟨_,rfl,?_⟩
  ·simp [results,Tryz.f119];go_simp
  ·exact fits_close P3.out.bel (RB.out _ P3.out.bel) (lay_nine _ _ _ _ _ _ _ _ _ _ _)
end Go.Proofs.YtjlokpjflgbgdaaGreat

namespace Go.Proofs.YtjlokpjflgbgdaaGreat
open Go.RowKit
theorem rfits_com {Z:Nat->Prop} {w:World} {st:St} {d:Dk} {fa oa ra ta:Option Addr} {fl fc on oc rn rc tn tc:Nat} (hZ:∀ i,Z i->i<w.heap.size) (h1:LG encF Z w fa fl fc d.files) (h2:LG encO Z w oa on oc st.objs) (h3:LG encN Z w ra rn rc st.refs) (h4:LG encN Z w ta tn tc st.tags) (hsz:st.size<=1000000) (body:Bs) (hbl:body.length<=1000000) (hne:¬ oid 3 body=0) (hno:st.has 3 (oid 3 body)=false) :
  Calls Tryz.prog 119 #[rm d (.slice fa fl fc) (.slice oa on oc) (.slice ra rn rc) (.slice ta tn tc),.agg #[.int .i64 3,tx body]] w λ e w'=>∃ m',e=.returned (.tuple #[m',.bool (st.fits (3,body))])/\Hid (RMS Z w' m' (if st.fits (3,body) then st.take (3,body) else st) d/\Below w.heap.size w w'):=by
 have hq:st.objs.length<=1000000/\st.refs.length<=1000000/\st.tags.length<=1000000:=by unfold St.size at hsz; omega
 have ho:on<=1000000:=by rw [<- h2.len]; exact hq.1
 have hrl:rn<=1000000:=by rw [<- h3.len]; exact hq.2.1
 have htl:tn<=1000000:=by rw [<- h4.len]; exact hq.2.2
 obtain ⟨s,hs⟩:∃ s:ByteArray,s=⟨body.toArray⟩:=⟨_,rfl⟩
 have hss:s.size=body.length:=by rw [hs]; show body.toArray.size=_; simp
 obtain ⟨g,hg⟩:∃ g,st.fits (3,body)=g:=⟨_,rfl⟩
 obtain ⟨st',hst'⟩:∃ st',(if st.fits (3,body) then st.take (3,body) else st)=st':=⟨_,rfl⟩
 rw [hst',hg,show tx body=.string s by rw [hs]]
 obtain ⟨W,hW⟩:∃ W,((w.alloc (nineC d (.slice fa fl fc) (.slice oa on oc) (.slice ra rn rc) (.slice ta tn tc))).alloc (.cells #[.int .i64 3,.string s] 223)).alloc (.cells #[.slice none 0 0,.int .i64 0,.bool false,.bool false,.int .i64 0,.int .i64 0,.slice none 0 0,.slice none 0 0,.slice none 0 0] 32)=W:=⟨_,rfl⟩
 have P0:Hid (Tri w W d (.slice fa fl fc) (.slice oa on oc) (.slice ra rn rc) (.slice ta tn tc) 3 s):=by rw [<- hW]; exact Tri.new w d _ _ _ _ _ _
 have zx:∀ i,i<w.heap.size->Zx Z w i->Z i:=λ i hi q=>q.elim (λ q=>q) (λ q=>by omega)
 have L:Hid (LG encF (Zx Z w) w fa fl fc d.files/\LG encO (Zx Z w) w oa on oc st.objs/\LG encN (Zx Z w) w ra rn rc st.refs/\LG encN (Zx Z w) w ta tn tc st.tags):=⟨h1.into zx,h2.into zx,h3.into zx,h4.into zx⟩
 have RB:Hid (∀ W',Below w.heap.size w W'->RMS (Zx Z w) W' (rm d (.slice fa fl fc) (.slice oa on oc) (.slice ra rn rc) (.slice ta tn tc)) st d):=λ W' b=>⟨fa,fl,fc,oa,on,oc,ra,rn,rc,ta,tn,tc,rfl,L.out.1.below b,L.out.2.1.below b,L.out.2.2.1.below b,L.out.2.2.2.below b⟩
 have HZ:Hid (∀ i,Zx Z w i->i<w.heap.size+3):=λ i q=>q.elim (λ q=>by have:=hZ i q; omega) (λ q=>q.2)
 have HS:Hid (s=⟨body.toArray⟩/\(if st.fits (3,body) then st.take (3,body) else st)=st'/\st.fits (3,body)=g/\s.size=body.length):=⟨hs,hst',hg,hss⟩
 have falls:g=false->st'=st:=λ q=>by rw [<- HS.out.2.1,HS.out.2.2.1,q]; rfl
 have fall:g=true->st'={ st with objs:=st.objs++[⟨3,oid 3 body,body⟩] }:=λ q=>by rw [<- HS.out.2.1,HS.out.2.2.1,q,if_pos rfl]; unfold St.take; rw [if_neg (by show ¬ (3:Int)=4; omega),if_neg (by show ¬ (3:Int)=5; omega)]
 have hf:(st.right (3,body)&&!(decide (oid 3 body=0))&&!(st.has 3 (oid 3 body)))=g:=by
  rw [<- HS.out.2.2.1];unfold St.fits;rw [if_neg (by show ¬ ((3:Int)=4∨(3:Int)=5); omega)]
 obtain ⟨x,hx⟩:∃ x,oid 3 body=x:=⟨_,rfl⟩
 rw [hx] at hf fall;obtain ⟨W1,cc,hcv,bW1,sW1,raw1,cap1,cap2⟩:=bytes_of W body;rw [show tx body=.string s by rw [HS.out.1],<- hss] at hcv;have hid:=rsid_at 3 W1 (raw1.at cap1 (cap2 (by simp only [maxLen]; omega))) x hx;rw [<- hss] at hid
 obtain ⟨xi,hxi⟩:∃ xi:Int,(x.toNat:Int)=xi:=⟨_,rfl⟩
 rw [hxi] at hid;have P1:Hid (Tri w W1 d (.slice fa fl fc) (.slice oa on oc) (.slice ra rn rc) (.slice ta tn tc) 3 s):=P0.out.below bW1;have XI:Hid ((x.toNat:Int)=xi):=hxi
 have ok9:¬ 9223372036854775807<s.size:=by omega
 rw [hx] at hne hno;have hh:=shas_any (d:=d) (oc:=oc) (vf:=.slice fa fl fc) (vr:=.slice ra rn rc) (vt:=.slice ta tn tc) (L.out.2.1.rd.below P1.out.bel) L.out.2.1.len ho 3 x false hno;rw [hxi] at hh;have u0:=u64_zero x;rw [hxi] at u0
 have m1:(xi==0)=false:=by
  have:=λ z=>hne (u0.1 z)
  simpa using this
 have hf2:st.right (3,body)=g:=by
  rw [<- hf,hno];simp [hne]
 have FL:Hid ((g=false->st'=st)/\(g=true->st'={ st with objs:=st.objs++[⟨3,x,body⟩] })/\st.right (3,body)=g):=⟨falls,fall,hf2⟩
 have HL:Hid (s.size=body.length):=hss;have HB:Hid (body.length<=1000000):=hbl;clear u0 hne hno hf hf2 falls fall hq;obtain ⟨v0,v1⟩:=P0.out.fr.cells;clear h1 h2 h3 h4 hs hg hst' zx hss bW1 sW1 raw1 cap1 cap2 hxi hx hbl;obtain ⟨x0,x1,x2,x3,x4,x5,x6,x7,x8⟩:=P1.out.box.cells;obtain ⟨y0,y1⟩:=P1.out.fr.cells;obtain ⟨z0,z1,z2,z3,z4,z5,z6,z7,z8⟩:=P1.out.res.cells;have gz:=P1.out.res.thaw;have g0:=gz 0;have g1:=gz 1;have g2:=gz 2;have g3:=gz 3;have g4:=gz 4;have g5:=gz 5;have g6:=gz 6;have g7:=gz 7;have g8:=gz 8;have l2:=P1.out.res.lt;clear gz;go_enter Tryz.func119,Tryz.ntmps119;go_wp2_with fail;refine hid.mono ?_;rintro e w1 ⟨rfl,hw1⟩;rw [hw1];clear hw1 w1 hid
 have hrt:=λ W'=>rreadCom_any body (by have:=HB.out; omega) W'
 rw [show tx body=.string s by rw [HS.out.1]] at hrt;have HRT:Hid (∀ W',Calls Tryz.prog 140 #[.string s] W' λ e w'=>∃ (c:Cm) (er:Int) (pa:Option Addr) (pc:Nat),e=.returned (.tuple #[.agg #[.int .u64 (c.tree.toNat:Int),.slice pa c.ps.length pc,.int .i64 c.date,tx c.note],.int .i64 er])/\Hid (RC body c er/\RdG encU w' pa c.ps/\c.ps.length<=pc/\Below W'.heap.size W' w'/\NewRow W' pa c.ps.length)):=hrt;clear hrt;go_wp2_with fail;refine hh.mono ?_;rintro e w2 ⟨rfl,B2⟩;have P2:Hid (Tri w w2 d (.slice fa fl fc) (.slice oa on oc) (.slice ra rn rc) (.slice ta tn tc) 3 s):=P1.out.below B2;clear B2 hh;clear x0 x1 x2 x3 x4 x5 x6 x7 x8 y0 y1 z0 z1 z2 z3 z4 z5 z6 z7 z8 g0 g1 g2 g3 g4 g5 g6 g7 g8 l2;obtain ⟨x0,x1,x2,x3,x4,x5,x6,x7,x8⟩:=P2.out.box.cells;obtain ⟨y0,y1⟩:=P2.out.fr.cells;obtain ⟨z0,z1,z2,z3,z4,z5,z6,z7,z8⟩:=P2.out.res.cells;have gz:=P2.out.res.thaw;have g0:=gz 0;have g1:=gz 1;have g2:=gz 2;have g3:=gz 3;have g4:=gz 4;have g5:=gz 5;have g6:=gz 6;have g7:=gz 7;have g8:=gz 8;have l2:=P2.out.res.lt;clear gz;go_wp2_with fail;refine (HRT.out w2).mono ?_;rintro e w3 ⟨cm,er,pa,pc,rfl,R3⟩;clear HRT
 obtain ⟨pn,hpn⟩:∃ pn,cm.ps.length=pn:=⟨_,rfl⟩
 have hab:=λ (W':World) (b3:Below w3.heap.size w3 W') (hl:pn<=4000000000000000000) (q:Bool) (hq:st.above cm=q)=>rabove_any (d:=d) (oc:=oc) (vf:=.slice fa fl fc) (vr:=.slice ra rn rc) (vt:=.slice ta tn tc) (pc:=pc) (L.out.2.1.rd.below ((P2.out.below R3.out.2.2.2.1).below b3).bel) L.out.2.1.len ho (R3.out.2.1.below b3) hpn hl cm.date ⟨cm.note.toArray⟩ q hq
 obtain ⟨tr,htr⟩:∃ tr:Int,(cm.tree.toNat:Int)=tr:=⟨_,rfl⟩
 obtain ⟨dt,hdt⟩:∃ dt,cm.date=dt:=⟨_,rfl⟩
 obtain ⟨nt,hnt⟩:∃ nt:ByteArray,(⟨cm.note.toArray⟩:ByteArray)=nt:=⟨_,rfl⟩
 rw [htr,hpn,hdt,show tx cm.note=.string nt by rw [<- hnt]];rw [htr,hdt,hnt] at hab
 obtain ⟨wA,hwA⟩:∃ wA,w3.alloc (.cells #[.int .u64 tr,.slice pa pn pc,.int .i64 dt,.string nt] 122)=wA:=⟨_,rfl⟩
 have bA:Below w3.heap.size w3 wA:=by rw [<- hwA]; exact bz1 _ _
 have bxA:Box4 wA w3.heap.size 122 (.int .u64 tr) (.slice pa pn pc) (.int .i64 dt) (.string nt):=by rw [<- hwA]; exact Box4.new _ _ _ _ _ _
 obtain ⟨c0,c1,c2,c3⟩:=bxA.cells;have P3:Hid (Tri w wA d (.slice fa fl fc) (.slice oa on oc) (.slice ra rn rc) (.slice ta tn tc) 3 s):=(P2.out.below R3.out.2.2.2.1).below bA;have hab:=hab wA bA;clear bA bxA htr hdt hnt;clear x0 x1 x2 x3 x4 x5 x6 x7 x8 y0 y1 z0 z1 z2 z3 z4 z5 z6 z7 z8 g0 g1 g2 g3 g4 g5 g6 g7 g8 l2;obtain ⟨x0,x1,x2,x3,x4,x5,x6,x7,x8⟩:=P3.out.box.cells;obtain ⟨y0,y1⟩:=P3.out.fr.cells;obtain ⟨z0,z1,z2,z3,z4,z5,z6,z7,z8⟩:=P3.out.res.cells;have gz:=P3.out.res.thaw;have g0:=gz 0;have g1:=gz 1;have g2:=gz 2;have g3:=gz 3;have g4:=gz 4;have g5:=gz 5;have g6:=gz 6;have g7:=gz 7;have g8:=gz 8;have l2:=P3.out.res.lt;clear gz
 rcases R3.out.1.rd with ⟨rfl,hr⟩ | ⟨rfl,rfl,hr⟩
 ·have hri:st.right (3,body)=st.above cm:=by unfold St.right; rw [if_neg (by show ¬ (3:Int)=1; omega),if_neg (by show ¬ (3:Int)=2; omega),if_pos rfl]; simp only [hr]
  have h8:=(ccom_ok (rdcom_back hr).1).1;have hab:=hab (by omega) g (by rw [<- hri]; exact FL.out.2.2);clear hri h8 hr R3 hpn;go_wp2_with fail;refine hab.mono ?_;rintro e w4 ⟨rfl,B4⟩;have P4:Hid (Tri w w4 d (.slice fa fl fc) (.slice oa on oc) (.slice ra rn rc) (.slice ta tn tc) 3 s):=P3.out.below B4;clear B4 hab c0 c1 c2 c3;clear x0 x1 x2 x3 x4 x5 x6 x7 x8 y0 y1 z0 z1 z2 z3 z4 z5 z6 z7 z8 g0 g1 g2 g3 g4 g5 g6 g7 g8 l2;obtain ⟨x0,x1,x2,x3,x4,x5,x6,x7,x8⟩:=P4.out.box.cells;obtain ⟨y0,y1⟩:=P4.out.fr.cells;obtain ⟨z0,z1,z2,z3,z4,z5,z6,z7,z8⟩:=P4.out.res.cells;have gz:=P4.out.res.thaw;have g0:=gz 0;have g1:=gz 1;have g2:=gz 2;have g3:=gz 3;have g4:=gz 4;have g5:=gz 5;have g6:=gz 6;have g7:=gz 7;have g8:=gz 8;have l2:=P4.out.res.lt;clear gz
  cases g with
  | false =>
   have es:=FL.out.1 rfl;subst es;go_wp2;refine bodyPost_ret (v:=.tuple #[rm d (.slice fa fl fc) (.slice oa on oc) (.slice ra rn rc) (.slice ta tn tc),.bool false]) ?_ rfl ⟨_,rfl,?_⟩
   ·simp [results,Tryz.f119];go_simp
   ·exact fits_close P4.out.bel (RB.out _ P4.out.bel) (lay_nine _ _ _ _ _ _ _ _ _ _ _)
  | true =>
   have es:=FL.out.2.1 rfl;subst es
   go_wp2_with (first
    | (at_builtin; refine appG_list encO 140 29 32 _ rfl Tryz.info140 Tryz.underlying29 rfl (.tmp 159) (.tmp 161) rfl (w.heap.size+3) _ [] st.objs oa on oc rfl (OwnG.nil _ _ _ _) rfl (L.out.2.1.rd.below P4.out.bel) L.out.2.1.len (by simp; omega) (by simp only [maxLen]; simp; omega) P4.out.size ?_; intro v8 w8 o8 b8 m8 t8; have P8:Hid (Tri w w8 d (.slice fa fl fc) (.slice oa on oc) (.slice ra rn rc) (.slice ta tn tc) 3 s/\OwnG encO 140 w8 (w.heap.size+3) v8 st.objs):=⟨tri_on P4.out b8,by simpa using o8⟩; clear o8 b8 m8 t8; clear x0 x1 x2 x3 x4 x5 x6 x7 x8 y0 y1 z0 z1 z2 z3 z4 z5 z6 z7 z8 g0 g1 g2 g3 g4 g5 g6 g7 g8 l2; obtain ⟨y0,y1⟩:=P8.out.1.fr.cells)
    | (at_builtin; refine appG_one encO 140 29 32 _ rfl Tryz.info140 Tryz.underlying29 rfl (.tmp 163) (.tmp 170) rfl (w.heap.size+3) _ st.objs ⟨3,x,body⟩ 140 rfl P8.out.2 rfl (by rw [L.out.2.1.len]; omega) (by rw [L.out.2.1.len]; simp only [maxLen]; omega) P8.out.1.size _ (by rw [<- XI.out,HS.out.1]; rfl) ?_; intro v9 w9 o9 b9 m9 t9; obtain ⟨a9,c9,e9,lg9⟩:=LG.ofOwn (Z:=Zx Z w) o9 HZ.out; obtain ⟨n9,hn9⟩:∃ n9,(st.objs++[(⟨3,x,body⟩:Ob)]).length=n9:=⟨_,rfl⟩; rw [hn9] at e9 lg9; subst e9; have P9:Hid (Tri w w9 d (.slice fa fl fc) (.slice oa on oc) (.slice ra rn rc) (.slice ta tn tc) 3 s/\LG encO (Zx Z w) w9 a9 n9 c9 (st.objs++[⟨3,x,body⟩])):=⟨tri_on P8.out.1 b9,lg9⟩; clear o9 b9 m9 t9 lg9 hn9; clear y0 y1; obtain ⟨x0,x1,x2,x3,x4,x5,x6,x7,x8⟩:=P9.out.1.box.cells; obtain ⟨z0,z1,z2,z3,z4,z5,z6,z7,z8⟩:=P9.out.1.res.cells; have gz:=P9.out.1.res.thaw; have g0:=gz 0; have g1:=gz 1; have g2:=gz 2; have g3:=gz 3; have g4:=gz 4; have g5:=gz 5; have g6:=gz 6; have g7:=gz 7; have g8:=gz 8; have l2:=P9.out.1.res.lt; have f6:=P9.out.1.box.thaw 6; have l0:=P9.out.1.box.lt; have ne2:w.heap.size≠w.heap.size+2:=(by omega); clear gz))
   go_wp2;refine bodyPost_ret (v:=.tuple #[rm d (.slice fa fl fc) (.slice a9 n9 c9) (.slice ra rn rc) (.slice ta tn tc),.bool true]) ?_ rfl ⟨_,rfl,?_⟩
   ·simp [results,Tryz.f119];go_simp
   ·exact fits_close2 P9.out.1.bel (⟨fa,fl,fc,a9,n9,c9,ra,rn,rc,ta,tn,tc,rfl,L.out.1.below P9.out.1.bel,P9.out.2,L.out.2.2.1.below P9.out.1.bel,L.out.2.2.2.below P9.out.1.bel⟩) rfl (lay_nine _ _ _ _ _ _ _ _ _ _ _)
 ·have eg:g=false:=by rw [<- FL.out.2.2]; unfold St.right; rw [if_neg (by show ¬ (3:Int)=1; omega),if_neg (by show ¬ (3:Int)=2; omega),if_pos rfl]; simp only [hr]
  have es:=FL.out.1 eg;subst eg es;clear hr R3 hpn hab;go_wp2;refine bodyPost_ret (v:=.tuple #[rm d (.slice fa fl fc) (.slice oa on oc) (.slice ra rn rc) (.slice ta tn tc),.bool false]) ?_ rfl ⟨_,rfl,?_⟩
  ·simp [results,Tryz.f119];go_simp
  ·exact fits_close P3.out.bel (RB.out _ P3.out.bel) (lay_nine _ _ _ _ _ _ _ _ _ _ _)
end Go.Proofs.YtjlokpjflgbgdaaGreat

namespace Go.Proofs.YtjlokpjflgbgdaaGreat
open Go.RowKit
theorem low1 (n:Nat):low 1 n=[UInt8.ofNat n]:=by simp [low]
section
variable {w:World} {k:Int} {body:Bs}
theorem rseal_kind (h:k<0∨255<k):Calls Tryz.prog 186 #[.agg #[.int .i64 k,tx body]] w λ e w'=>e=.returned (.tuple #[tx [],.int .i64 3])/\Below w.heap.size w w':=by
 by_cases h0:k<0
 ·have q:decide (k<0)=true:=by simpa using h0
  go_enter Tryz.func186,Tryz.ntmps186;go_wp2;refine bodyPost_ret (results_tmp2 rfl _ _ _) rfl ?_;exact ⟨rfl,bz1 _ _⟩
 ·have q:decide (k<0)=false:=by simpa using h0
  have q2:decide (255<k)=true:=by simp; omega
  go_enter Tryz.func186,Tryz.ntmps186;go_wp2;refine bodyPost_ret (results_tmp2 rfl _ _ _) rfl ?_;exact ⟨rfl,bz1 _ _⟩
theorem rseal_long (h0:¬ k<0) (h1:¬ 255<k) (h:8192<body.length):Calls Tryz.prog 186 #[.agg #[.int .i64 k,tx body]] w λ e w'=>e=.returned (.tuple #[tx [],.int .i64 4])/\Below w.heap.size w w':=by
 have q:decide (k<0)=false:=by simpa using h0
 have q2:decide (255<k)=false:=by simpa using h1
 obtain ⟨s,hs⟩:∃ s:ByteArray,s=⟨body.toArray⟩:=⟨_,rfl⟩
 have e:tx body=.string s:=by rw [hs]
 have hz:s.size=body.length:=by rw [hs]; rfl
 have q3:(8192:Int)<(s.size:Int):=by omega
 rw [e];clear e hs hz;go_enter Tryz.func186,Tryz.ntmps186;go_wp2;refine bodyPost_ret (results_tmp2 rfl _ _ _) rfl ?_;exact ⟨rfl,bz1 _ _⟩
theorem rseal_done (h0:¬ k<0) (h1:¬ 255<k) (hn:¬ 8192<body.length):Calls Tryz.prog 186 #[.agg #[.int .i64 k,tx body]] w λ e w'=>e=.returned (.tuple #[tx (sealB k body),.int .i64 0])/\Below w.heap.size w w':=by
 have q:decide (k<0)=false:=by simpa using h0
 have q2:decide (255<k)=false:=by simpa using h1
 obtain ⟨s,hs⟩:∃ s:ByteArray,s=⟨body.toArray⟩:=⟨_,rfl⟩
 have e:tx body=.string s:=by rw [hs]
 obtain ⟨n,hz⟩:∃ n,s.size=n:=⟨_,rfl⟩
 have hbl:body.length=n:=by rw [<- hz,hs]; rfl
 have q3:decide ((8192:Int)<(n:Int))=false:=by rw [decide_eq_false_iff_not]; omega
 rw [e]
 obtain ⟨W,hW⟩:∃ W,w.alloc (.cells #[.int .i64 k,.string s] 223)=W:=⟨_,rfl⟩
 have B0:Below w.heap.size w W:=by rw [<- hW]; exact bz1 _ _
 have T:Box W w.heap.size 223 (.int .i64 k) (.string s):=by rw [<- hW]; exact Box.new w _ _ _
 obtain ⟨kk,rfl⟩:∃ kk:Nat,k=(kk:Int):=⟨k.toNat,by omega⟩
 obtain ⟨x0,x1⟩:=T.cells
 have w1:IntKind.u64.wrap (n:Int)=(n:Int):=by rw [IntKind.wrap_u64]; omega
 have w2:IntKind.u64.wrap (kk:Int)=(kk:Int):=by rw [IntKind.wrap_u64]; omega
 obtain ⟨s4,hs4⟩:∃ s4:ByteArray,s4=⟨(low 4 n).toArray⟩:=⟨_,rfl⟩
 obtain ⟨s1,hs1⟩:∃ s1:ByteArray,s1=⟨(low 1 kk).toArray⟩:=⟨_,rfl⟩
 have z4:s4.size=4:=by rw [hs4,low4]; rfl
 have z1:s1.size=1:=by rw [hs1,low1]; rfl
 have NE:Nonempty (SW (Grew W)):=⟨⟨W,Below.refl _ _⟩⟩
 have c0:∀ u:SW (Grew W),u.w.cell? ⟨w.heap.size,0,none⟩=some (.int .i64 (kk:Int)):=λ u=>(T.below u.ok).cells.1
 have c1:∀ u:SW (Grew W),u.w.cell? ⟨w.heap.size,1,none⟩=some (.string s):=λ u=>(T.below u.ok).cells.2
 have n4:∀ u:SW (Grew W),Calls Tryz.prog 104 #[.int .u64 (n:Int),.int .i64 4] u.w λ e w'=>e=.returned (.string s4)/\∃ u':SW (Grew W),w'=u'.w:=λ u=>by
  refine (rnumber_any n 4 (by omega) (by omega) u.w).mono ?_;rintro e w' ⟨rfl,hb⟩;exact ⟨by rw [hs4],⟨w',u.ok.trans (hb.mono u.ok.size)⟩,rfl⟩
 have n1:∀ u:SW (Grew W),Calls Tryz.prog 104 #[.int .u64 (kk:Int),.int .i64 1] u.w λ e w'=>e=.returned (.string s1)/\∃ u':SW (Grew W),w'=u'.w:=λ u=>by
  refine (rnumber_any kk 1 (by omega) (by omega) u.w).mono ?_;rintro e w' ⟨rfl,hb⟩;exact ⟨by rw [hs1],⟨w',u.ok.trans (hb.mono u.ok.size)⟩,rfl⟩
 have p1:¬ (9223372036854775807<s4.size+s1.size):=by omega
 have p2:¬ (9223372036854775807<(s4++s1).size+s.size):=by rw [ByteArray.size_append]; omega
 have hhd:s4++s1++s=⟨(headB kk body).toArray⟩:=by
  rw [hs4,hs1,hs,low4,low1,headB,hbl];simp only [Int.toNat_natCast];show ByteArray.mk _=_
  congr 1
 have H:Hid (Below w.heap.size w W/\body.length=n/\n<=8192/\s4++s1++s=⟨(headB kk body).toArray⟩):=⟨B0,hbl,by omega,hhd⟩
 clear B0 T hbl hs hs4 hs1 z4 z1 hhd h0 h1 hn e;go_enter Tryz.func186,Tryz.ntmps186
 go_upto_region 5 with fail
 refine wp_region_class (S:=Grew W) (by kernel_rfl) (by kernel_rfl) (Below.refl _ W).drew ?_
 repeat (go_big_quiet_step (first | with_reducible exact n4 _ | with_reducible exact n1 _))
 refine wpQuiet_nil ?_;intro _ hw';obtain ⟨u,hw''⟩:=hw';subst hw'';have N2:Hid (Below W.heap.size W u.w):=u.ok
 obtain ⟨w2',hw2⟩:∃ w2,w2=u.w:=⟨_,rfl⟩
 rw [<- hw2] at N2 ⊢;clear hw2 x0 x1 c0 c1 n4 n1 NE u p1 p2
 obtain ⟨hd,hhd⟩:∃ hd:ByteArray,s4++s1++s=hd:=⟨_,rfl⟩
 rw [hhd] at H ⊢;obtain ⟨W4,c4,hcv,b4',s4',R4⟩:=bytes_of w2' (headB kk body)
 have hcv':(convert 9 39 (.string hd)).run Tryz.prog w2'=.ok (.slice (some ⟨w2'.heap.size,0,none⟩) (headB kk body).length c4) W4:=by rw [H.out.2.2.2]; exact hcv
 obtain ⟨hl,hhl⟩:∃ hl,(headB kk body).length=hl:=⟨_,rfl⟩
 have hll:hl<=8197:=by rw [<- hhl,headB_len]; have:=H.out.2.1; have:=H.out.2.2.1; omega
 have hb4:BAt W4 (.slice (some ⟨w2'.heap.size,0,none⟩) hl c4) (headB kk body):=by
  have:=R4.1.at R4.2.1 (R4.2.2 (by rw [hhl]; simp only [maxLen]; omega));rw [hhl] at this;exact this
 rw [hhl] at hcv'
 obtain ⟨cr,hcr⟩:∃ cr,crc (headB kk body)=cr:=⟨_,rfl⟩
 have hck:=rcheck_any W4 hb4;rw [hcr] at hck
 have hcl:cr<4294967296:=by rw [<- hcr]; exact crc_lt _
 have w3:IntKind.u64.wrap (cr:Int)=(cr:Int):=by rw [IntKind.wrap_u64]; omega
 have hnu:=rnumber_any cr 4 (by omega) (by omega) W4
 obtain ⟨sc,hsc⟩:∃ sc:ByteArray,sc=⟨(low 4 cr).toArray⟩:=⟨_,rfl⟩
 rw [show tx (low 4 cr)=.string sc by rw [hsc]] at hnu
 have p3:¬ (9223372036854775807<hd.size+sc.size):=by
  rw [hsc,H.out.2.2.2,low4];show ¬ (9223372036854775807<(headB kk body).toArray.size+4);simp only [List.size_toArray];omega
 have HC:Hid (hd++sc=⟨(sealB kk body).toArray⟩/\Below w2'.heap.size w2' W4):=by
  refine ⟨?_,b4'⟩;rw [hsc,H.out.2.2.2,low4,sealB,hcr];show ByteArray.mk _=_
  congr 1
 clear hcv b4' s4' R4 hb4 hhl hcr hsc hhd;go_wp2_with fail;refine hck.mono ?_;rintro e w5 ⟨rfl,hw5⟩;rw [hw5];clear hw5 w5 hck;go_wp2_with fail;refine hnu.mono ?_;rintro e w6 ⟨rfl,B6⟩
 have HB6:Hid (Below w.heap.size w w6):=by
  have b1:=H.out.1.trans (N2.out.mono H.out.1.size);have b2:=b1.trans (HC.out.2.mono b1.size);exact b2.trans (B6.mono b2.size)
 clear B6 hnu;go_wp2;refine bodyPost_ret (results_tmp2 rfl _ _ _) rfl ?_;exact ⟨by rw [HC.out.1]; rfl,HB6.out⟩
theorem rseal_any (k:Int) (body:Bs) (w:World):Calls Tryz.prog 186 #[.agg #[.int .i64 k,tx body]] w λ e w'=>e=.returned (.tuple #[tx (fseal (k,body)).1,.int .i64 (fseal (k,body)).2])/\Below w.heap.size w w':=by
 unfold fseal;by_cases h0:k<0∨255<k
 ·rw [if_pos h0];exact rseal_kind h0
 ·rw [if_neg h0];by_cases h1:8192<body.length
  ·rw [if_pos h1];exact rseal_long (by omega) (by omega) h1
  ·rw [if_neg h1];exact rseal_done (by omega) (by omega) h1
end
end Go.Proofs.YtjlokpjflgbgdaaGreat
