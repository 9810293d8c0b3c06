/-
  Several texts, laid together.
-/
import Derived.Test.YtjlokpjflgbgdaaGreatMC19
import Derived.Test.YtjlokpjflgbgdaaGreatMC18
set_option maxHeartbeats 6400000
set_option maxRecDepth 100000
namespace Go.Proofs.YtjlokpjflgbgdaaGreat
open Go.RowKit
section
variable {S:Nat->Prop} {X:Bs->Prop} {w:World} {b m:Nat} {f:Bs->Option Value} {a k:Int} {d:Dk}
theorem turned_mine {w':World} (hb:S b) (h:Turned (λ i=>i=b) w w'):Turned S w w':=h.mono (T:=S) (λ i _ e=>by rw [e]; exact hb)
theorem DiskM.since {w':World} {d':Dk} {f':Bs->Option Value} {a':Int} (hD:DiskM w' b m f' a' k d' S) (w:World):DiskAt w' b d' (Since S w w') :=
 ⟨m,f',a',k,DiskX.mono hD (λ _ q=>.inl q) (λ _ q=>q) (λ i hi=>by
  rcases hi with q | q
  ·exact hD.lt i q
  ·exact q.2)⟩
end
end Go.Proofs.YtjlokpjflgbgdaaGreat

namespace Go.Proofs.YtjlokpjflgbgdaaGreat
open Go.RowKit
section
variable {S:Nat->Prop} {w:World} {b m:Nat} {f:Bs->Option Value} {a k:Int} {d:Dk}
theorem trim_bad (b:Nat) (n:Bs) (z:Int) (hg:isName n=false):Calls Tryz.prog 79 #[.pointer (some ⟨b,0,none⟩),tx n,.int .i64 z] w λ e w'=>e=.returned (.int .i64 2)/\w'=w:=by
 have hc:=find_bad (w:=w) b n hg;clear hg;go_enter Tryz.func79,Tryz.ntmps79;go_wp2_with fail;refine hc.mono ?_;rintro e w1 ⟨rfl,rfl⟩;go_wp2;go_ret;exact ⟨rfl,rfl⟩
theorem trim_none (h:DiskM w b m f a k d S) (n:Bs) (z:Int) (hg:isName n=true) (hn:n.length<=maxLen) (hf:f n=none):Calls Tryz.prog 79 #[.pointer (some ⟨b,0,none⟩),tx n,.int .i64 z] w λ e w'=>e=.returned (.int .i64 5)/\w'=w:=by
 have hc:=find_none h n hg hn hf;clear h hg hf;go_enter Tryz.func79,Tryz.ntmps79;go_wp2_with fail;refine hc.mono ?_;rintro e w1 ⟨rfl,rfl⟩;go_wp2;go_ret;exact ⟨rfl,rfl⟩
theorem trim_range (h:DiskM w b m f a k d S) (n:Bs) (z:Int) (hg:isName n=true) (hn:n.length<=maxLen) {v:Value} {bs:Bs} (hf:f n=some v) (hO:OwnB w v bs) (hz:z<0∨(bs.length:Int)<z) :
  Calls Tryz.prog 79 #[.pointer (some ⟨b,0,none⟩),tx n,.int .i64 z] w λ e w'=>e=.returned (.int .i64 3)/\w'=w:=by
 have hc:=find_ok h n hg hn hf;obtain ⟨ao,cc,rfl,_⟩:=OwnG.form hO
 obtain ⟨L,hL⟩:∃ L,bs.length=L:=⟨_,rfl⟩
 rw [hL] at hz hc;clear h hg hf hO hL;by_cases h0:z<0
 ·have p:decide (z<0)=true:=by simpa using h0
  go_enter Tryz.func79,Tryz.ntmps79;go_wp2_with fail;refine hc.mono ?_;rintro e w1 ⟨rfl,rfl⟩;go_wp2;go_ret;exact ⟨rfl,rfl⟩
 ·have p:decide (z<0)=false:=by simpa using h0
  have p2:decide ((L:Int)<z)=true:=by rw [decide_eq_true_eq]; omega
  go_enter Tryz.func79,Tryz.ntmps79;go_wp2_with fail;refine hc.mono ?_;rintro e w1 ⟨rfl,rfl⟩;go_wp2;go_ret;exact ⟨rfl,rfl⟩
theorem trim_off (h:DiskM w b m f a k d S) (n:Bs) (z:Int) (hg:isName n=true) (hn:n.length<=maxLen) {v:Value} {bs:Bs} (hf:f n=some v) (hO:OwnB w v bs) (h0:0<=z) (h1:z<=(bs.length:Int)) (hb:d.after<9223372036854775808) (hw:d.writes<4611686018427387904) (hdo:(dnext d).2.1=false) :
  Calls Tryz.prog 79 #[.pointer (some ⟨b,0,none⟩),tx n,.int .i64 z] w λ e w'=>e=.returned (.int .i64 8)/\∃ a',DiskM w' b m f a' k (dnext d).1 S/\Turned (λ i=>i=b) w w':=by
 have hc:=find_ok h n hg hn hf;have hwr:=write_any h hb hw;obtain ⟨ao,cc,rfl,_⟩:=OwnG.form hO
 obtain ⟨L,hL⟩:∃ L,bs.length=L:=⟨_,rfl⟩
 rw [hL] at h1 hc;clear h hg hf hO hL
 have p:decide (z<0)=false:=by simpa using h0
 have p2:decide ((L:Int)<z)=false:=by rw [decide_eq_false_iff_not]; omega
 go_enter Tryz.func79,Tryz.ntmps79;go_wp2_with fail;refine hc.mono ?_;rintro e w1 ⟨rfl,hw1⟩;rw [hw1];clear hw1 w1;go_wp2_with fail;refine hwr.mono ?_;rintro e w2 ⟨r,a',rfl,hr,hD,ht2⟩
 have er:r=8:=by rw [hr.out,if_neg (by rw [hdo]; simp)]
 subst er
 have W2:Hid (DiskM w2 b m f a' k (dnext d).1 S/\Turned (λ i=>i=b) w w2):=⟨hD,ht2⟩
 clear hD ht2 hr;go_wp2;go_ret;exact ⟨rfl,a',W2.out⟩
theorem fresh_mid {w1 w2 w3:World} {v3:Value} {cs:Bs} {a':Int} {d':Dk} (h:S b) (hS:∀ i,S i->i<w.heap.size) (T1:Turned (λ i=>i=b) w w1) (hD:DiskM w1 b m f a' k d' S) (hw2:w1=w2) (B3:Below w2.heap.size w2 w3) (hO:OwnG encB 5 w3 w2.heap.size v3 cs) :
  DiskM w3 b m f a' k d' (Since S w w3)/\OwnB w3 v3 cs/\(∀ y u g,f y=some u->u.ownBlock=some g->v3.ownBlock≠some g)/\(∀ g,v3.ownBlock=some g->Since S w w3 g)/\Turned S w w3:=by
 subst hw2;have hsz:=T1.size;refine ⟨DiskX.mono (DiskX.below hD B3) (λ _ q=>.inl q) (λ _ q=>q) (λ i hi=>?_),OwnG.low hO (Nat.zero_le _),?_,?_,(turned_mine h T1).trans (Turned.ofBelow (S:=S) B3) (λ _ _ q=>q)⟩
 ·rcases hi with q | q
  ·exact Nat.lt_of_lt_of_le (hS i q) (Nat.le_trans hsz B3.size)
  ·exact q.2
 ·intro y u g hu hg q;have h1:=(hO.lt g q).1;have h2:=DiskM.row_lt hD hu hg;omega
 ·intro g hg;have h1:=hO.lt g hg;exact .inr ⟨by omega,h1.2⟩
theorem trim_ok (h:DiskM w b m f a k d S) (hrise:FRise d.files) (hfl:d.files.length<=1000) (n:Bs) (z:Nat) (hg:isName n=true) (hn:n.length<=140737488355328) {v:Value} {bs:Bs} (hf:f n=some v) (hO:OwnB w v bs) (hbl:bs.length<=262144) (h1:z<=bs.length) (hb:d.after<9223372036854775808) (hw:d.writes<4611686018427387904) (hdo:(dnext d).2.1=true) :
  Calls Tryz.prog 79 #[.pointer (some ⟨b,0,none⟩),tx n,.int .i64 (z:Int)] w λ e w'=>e=.returned (.int .i64 0)/\DiskAt w' b { (dnext d).1 with files:=fwith d.files n (bs.take z) } (Since S w w')/\Turned S w w':=by
 have hc:=find_ok h n hg (by simp only [maxLen]; omega) hf;have hwr:=write_any h hb hw
 have H:Hid (DiskM w b m f a k d S/\FRise d.files/\d.files.length<=1000/\f n=some v/\OwnB w v bs):=⟨h,hrise,hfl,hf,hO⟩
 obtain ⟨v',hsl,hsb⟩:=bslice_j (j:=z) w (OwnB.at hO) h1;have SB:Hid (∀ w,BAt w v bs->BAt w v' (bs.take z)):=hsb;obtain ⟨ao,cc,rfl,_⟩:=OwnG.form hO
 obtain ⟨L,hL⟩:∃ L,bs.length=L:=⟨_,rfl⟩
 rw [hL] at h1 hc H SB hsl hbl;have LL:Hid (bs.length=L):=hL;clear h hg hf hO hL hsb
 have p:decide ((z:Int)<0)=false:=by rw [decide_eq_false_iff_not]; omega
 have p2:decide ((L:Int)<(z:Int))=false:=by rw [decide_eq_false_iff_not]; omega
 go_enter Tryz.func79,Tryz.ntmps79;go_wp2_with fail;refine hc.mono ?_;rintro e w1 ⟨rfl,hw1⟩;rw [hw1];clear hw1 w1;go_wp2_with fail;refine hwr.mono ?_;rintro e w2 ⟨r,a',rfl,hr,hD,ht2⟩
 have er:r=0:=by rw [hr.out,if_pos hdo]
 subst er;have ef:(dnext d).1.files=d.files:=dnext_files d
 have W2:Hid (DiskM w2 b m f a' k (dnext d).1 S/\Turned (λ i=>i=b) w w2):=⟨hD,ht2⟩
 have b2:OwnB w2 (.slice ao L cc) bs:=H.out.2.2.2.2.turned ht2 (λ g hg e=>(DiskM.row_ne H.out.1 H.out.2.2.2.1 hg).1 e);have hcl:=bclone_any w2 (SB.out w2 (OwnB.at b2)) (by rw [List.length_take,LL.out]; omega);clear hD ht2 hr hwr hc b2;go_wp2_with fail;refine hcl.mono ?_;rintro e w3 ⟨v3,rfl,O3,B3⟩;have F:=fresh_mid H.out.1.mine.1 H.out.1.lt W2.out.2 W2.out.1 rfl B3 O3;have hs:=set_any F.1 (by rw [ef]; exact H.out.2.1) (by rw [ef]; exact H.out.2.2.1) hn (λ _ q=>q.elim) F.2.1 (λ y u g _ hu hg=>F.2.2.1 y u g hu hg) F.2.2.2.1;have FT:Hid (Turned S w w3):=F.2.2.2.2;clear F O3 B3 hcl;go_wp2_with fail;refine hs.mono ?_;rintro e w4 ⟨rfl,D4,T4⟩;have E:=lay_end H.out.1.mine.2 FT.out D4 T4;rw [ef] at E;clear D4 T4 hs;go_wp2;go_ret;exact ⟨rfl,E.1,E.2⟩
theorem trim_at (h:DiskAt w b d S) (hk:d.ok) (hw:d.writes<4611686018427387904) (n:Bs) (hn:n.length<=140737488355328) (z:Int) :
  Calls Tryz.prog 79 #[.pointer (some ⟨b,0,none⟩),tx n,.int .i64 z] w λ e w'=>∃ r,e=.returned (.int .i64 r)/\Hid (r=(dtrim d n z).2)/\DiskAt w' b (dtrim d n z).1 (Since S w w')/\Turned S w w':=by
 obtain ⟨m,f,a,k,h⟩:=h
 have hn':n.length<=maxLen:=by simp only [maxLen]; omega
 unfold dtrim;by_cases hg:isName n=false
 ·refine (trim_bad b n z hg).mono ?_;rintro e w' ⟨rfl,rfl⟩;rw [if_pos hg];exact ⟨2,rfl,rfl,DiskM.same h,Turned.refl _ _⟩
 ·rw [if_neg hg]
  have hg':isName n=true:=by simpa using hg
  rcases h.file n with ⟨h1,h2⟩ | ⟨bs,v,h1,h2,ho⟩
  ·refine (trim_none h n z hg' hn' h2).mono ?_;rintro e w' ⟨rfl,rfl⟩;rw [h1];exact ⟨5,rfl,rfl,DiskM.same h,Turned.refl _ _⟩
  ·rw [h1];have ho:OwnB w v bs:=ho.elim False.elim id;by_cases hz:z<0∨(bs.length:Int)<z
   ·refine (trim_range h n z hg' hn' h2 ho hz).mono ?_;rintro e w' ⟨rfl,rfl⟩;simp only [hz,if_true];exact ⟨3,rfl,rfl,DiskM.same h,Turned.refl _ _⟩
   ·obtain ⟨q,rfl⟩:∃ q:Nat,z=(q:Int):=⟨z.toNat,by omega⟩
    by_cases hdo:(dnext d).2.1=true
    ·refine (trim_ok h hk.rise (by have:=hk.few; omega) n q hg' hn h2 ho (hk.get h1) (by omega) hk.after hw hdo).mono ?_;rintro e w' ⟨rfl,h3,h4⟩;simp only [hz,hdo,if_true,if_false,Int.toNat_natCast];exact ⟨0,rfl,rfl,h3,h4⟩
    ·have hdo':(dnext d).2.1=false:=by simpa using hdo
     refine (trim_off h n q hg' hn' h2 ho (by omega) (by omega) hk.after hw hdo').mono ?_;rintro e w' ⟨rfl,a',h3,h4⟩;simp only [hz,hdo',Bool.false_eq_true,if_false];exact ⟨8,rfl,rfl,DiskM.since h3 w,turned_mine h.mine.1 h4⟩
end
end Go.Proofs.YtjlokpjflgbgdaaGreat

namespace Go.Proofs.YtjlokpjflgbgdaaGreat
open Go.RowKit
section
variable {w:World} {s b:Nat} {st:St} {S:Nat->Prop}
theorem keep_fit {S':Nat->Prop} (h:StoreAt w s b st S) (hSS:∀ i,S i->S' i) (hSl:∀ i,S' i->i<w.heap.size) (hok:st.ok) (hsz:st.size<=1000000) (k:Int) {a:Option Addr} {n c:Nat} {body:Bs} (hv:BAt w (.slice a n c) body) (hl:body.length=n) (hn:n<=8192) (hin:Within S' (.slice a n c)) (hf:st.fits (k,body)=true) :
  Calls Tryz.prog 143 #[.pointer (some ⟨s,0,none⟩),.agg #[.int .i64 k,.slice a n c]] w λ e w'=>e=.returned (.tuple #[])/\StoreAt w' s b (st.take (k,body)) S'/\Turned S w w':=by
 have hz:st.objs.length<=1000000/\st.refs.length<=1000000/\st.tags.length<=1000000:=by unfold St.size at hsz; omega
 have hob:k=1∨k=2∨k=3->Calls Tryz.prog 143 #[.pointer (some ⟨s,0,none⟩),.agg #[.int .i64 k,.slice a n c]] w λ e w'=>e=.returned (.tuple #[])/\StoreAt w' s b (st.take (k,body)) S'/\Turned S w w' :=
  λ hk=>keep_any h hSS hSl k hk hv hin (fits_obj hf hk).2.2 hz.1
 have fin:∀ w',StoreAt w' s b (st.take (k,body)) S->Turned S w w'->StoreAt w' s b (st.take (k,body)) S'/\Turned S w w' :=
  λ w' q1 q2=>⟨q1.mono hSS (λ i q=>Nat.lt_of_lt_of_le (hSl i q) q2.size),q2⟩
 rcases fits_kind hf with q | q | q | q | q
 ·exact hob (.inl q)
 ·exact hob (.inr (.inl q))
 ·exact hob (.inr (.inr q))
 ·have q:k=4:=q;subst q;have hlab:=fits_lab hf (.inl rfl);refine (keep_ref h hok.refs hz.2.1 hv hl (by have:=hlab.1; simp only at this; omega) (by omega) (hlab.2.2.2.1 rfl)).mono ?_;rintro e w' ⟨rfl,q1,q2⟩;exact ⟨rfl,fin w' q1 q2⟩
 ·have q:k=5:=q;subst q;have hlab:=fits_lab hf (.inr rfl);refine (keep_tag h hok.tags hz.2.2 hv hl (by have:=hlab.1; simp only at this; omega) (by omega)).mono ?_;rintro e w' ⟨rfl,q1,q2⟩;exact ⟨rfl,fin w' q1 q2⟩
structure RdI (w:World) (s b:Nat) (S:Nat->Prop) (fa:Option Addr) (fn fc:Nat) (file:Bs) (s0:St) (wr:World) (st:St) (d:Nat):Prop where
 at_:StoreAt wr s b st (Since S w wr)
 tu:Turned S w wr
 rd:ReadAt s0 file st d
 fl:BAt wr (.slice fa fn fc) file
theorem read_any (h:StoreAt w s b st S) (hok:st.ok) (hs0:st.size=0) {fa:Option Addr} {fn fc:Nat} {file:Bs} (hv:BAt w (.slice fa fn fc) file) (hl:file.length=fn) (hn:fn<=262144) (hfar:∀ i,Blk fa fn i->¬ S i) :
  Calls Tryz.prog 78 #[.pointer (some ⟨s,0,none⟩),.slice fa fn fc] w λ e w'=>∃ g:Nat,e=.returned (.int .i64 (g:Int))/\Hid (g=(sread st file).2/\StoreAt w' s b (sread st file).1 (Since S w w')/\Turned S w w'/\BAt w' (.slice fa fn fc) file):=by
 have hcap:fn<=fc:=by
  obtain ⟨ao,c',e,h1,_,_⟩:=hv;cases e;exact h1
 have hblk:=hv.blk
 have H:Hid (file.length=fn/\(∀ i,Blk fa fn i->¬ S i)/\(∀ i,Blk fa fn i->i<w.heap.size)):=⟨hl,hfar,hblk⟩
 have I0:Hid (RdI w s b S fa fn fc file st w st 0):=⟨h.mono (λ _ q=>.inl q) (λ i q=>q.elim (h.lt i) (λ q=>q.2)),Turned.refl _ _,ReadAt.start file hok hs0,hv⟩
 obtain ⟨s0,hs⟩:∃ s0,s0=st:=⟨_,rfl⟩
 rw [<- hs];rw [<- hs] at I0;clear h hok hs0 hv hl hfar hblk hs;go_enter Tryz.func78,Tryz.ntmps78;go_wp2_with fail;go_loopg [5] fn (λ m iv wr=>∃ d:Nat,iv=.int .i64 (d:Int)/\d+m=fn/\∃ st,Hid (RdI w s b S fa fn fc file s0 wr st d))
 case atStart=>exact ⟨0,rfl,by omega,s0,I0⟩
 case round =>
  obtain ⟨d,rfl,hd,st,I⟩:=hrel;by_cases hdn:d<fn
  ·have id:(d:Int)<(fn:Int):=by omega
   obtain ⟨a1,c1,sl,q1,q1',r1⟩:=sliceB_l (ao:=fa) (n:=fn) (c:=fc) (k:=d) hcap (by omega)
   have hrd:RdG encB wr fa file/\fc<=9223372036854775807:=by
    obtain ⟨ao,c',e,h1,h2,h3⟩:=I.out.fl;cases e;exact ⟨h3,h2⟩
   have hB1:BAt wr (.slice a1 (fn - d) c1) (file.drop d):=⟨a1,c1,by rw [List.length_drop,H.out.1],by rw [List.length_drop,H.out.1]; exact q1,by omega,r1 wr file H.out.1 hrd.1⟩
   have hop:=open_any hB1 (by rw [List.length_drop,H.out.1]) (by omega)
   obtain ⟨fk,hfk⟩:∃ fk,(fopen (file.drop d)).1.1=fk:=⟨_,rfl⟩
   obtain ⟨fb,hfb⟩:∃ fb,(fopen (file.drop d)).1.2=fb:=⟨_,rfl⟩
   obtain ⟨fs,hfs⟩:∃ fs,(fopen (file.drop d)).2.1=fs:=⟨_,rfl⟩
   obtain ⟨fe,hfe⟩:∃ fe,(fopen (file.drop d)).2.2=fe:=⟨_,rfl⟩
   rw [hfk,hfb,hfs,hfe] at hop
   have EF:Hid ((fopen (file.drop d)).1=(fk,fb)/\(fopen (file.drop d)).2.1=fs/\(fopen (file.drop d)).2.2=fe):=⟨by rw [<- hfk,<- hfb],hfs,hfe⟩
   clear r1 hrd hB1 hfk hfb hfs hfe q1';go_wp2_with fail;refine hop.mono ?_;rintro e w1 ⟨fv,rfl,O1⟩
   obtain ⟨a2,c2,n2,hv2,N2⟩:∃ a2 c2 n2,fv=.slice a2 n2 c2/\Hid (fb.length=n2):=by
    obtain ⟨a2,c2,e,_⟩:=OwnG.form O1.out.1;exact ⟨a2,c2,_,e,rfl⟩
   subst hv2
   obtain ⟨wA,hwA⟩:∃ wA,w1.alloc (.cells #[.int .i64 fk,.slice a2 n2 c2] 237)=wA:=⟨_,rfl⟩
   have bA:Below w1.heap.size w1 wA:=by rw [<- hwA]; exact bz1 _ _
   have bxA:Box wA w1.heap.size 237 (.int .i64 fk) (.slice a2 n2 c2):=by rw [<- hwA]; exact Box.new _ _ _ _
   obtain ⟨x0,x1⟩:=bxA.cells;have B1:Below wr.heap.size wr wA:=O1.out.2.trans (bA.mono O1.out.2.size);have hva:BAt wA (.slice a2 n2 c2) fb:=(OwnB.at (OwnG.low O1.out.1 (Nat.zero_le _))).below bA;have hnew:NewRow wr a2 n2:=O1.out.1.newRow (Nat.le_refl _)
   have G:Hid (Below wr.heap.size wr wA/\BAt wA (.slice a2 n2 c2) fb/\NewRow wr a2 n2/\Box wA w1.heap.size 237 (.int .i64 fk) (.slice a2 n2 c2)):=⟨B1,hva,hnew,bxA⟩
   clear hop O1 bA bxA B1 hva hnew;by_cases he:fe=0
   ·subst he
    have hbl:fb.length<=8192:=by
     have:=fopen_body EF.out.2.2;rw [EF.out.1] at this;exact this
    obtain ⟨g,hg⟩:∃ g,st.fits (fk,fb)=g:=⟨_,rfl⟩
    have hfi:=sfits_any (I.out.at_.below G.out.1) G.out.2.1 N2.out (by have:=N2.out; omega) fk g hg
    have HG:Hid (st.fits (fk,fb)=g/\fb.length<=8192):=⟨hg,hbl⟩
    clear hg hbl
    cases g with
    | false =>
     have hst:=I.out.rd.stop (by rw [EF.out.1]; rw [HG.out.1]; simp);go_wp2_with fail;refine hfi.mono ?_;rintro e w2 ⟨rfl,B2⟩;have B3:Hid (Below wr.heap.size wr w2):=G.out.1.trans (B2.mono G.out.1.size);have HS:Hid (sread s0 file=(st,d)):=hst;clear B2 hfi hst;go_wp2;go_ret;refine ⟨d,rfl,?_⟩;rw [HS.out];have t2:Turned S w w2:=I.out.tu.trans (Turned.ofBelow (S:=S) B3.out) (λ _ _ q=>q);refine ⟨rfl,(I.out.at_.below B3.out).mono (λ i q=>q.elim .inl (λ q=>.inr ⟨q.1,Nat.lt_of_lt_of_le q.2 B3.out.size⟩)) (λ i q=>?_),t2,I.out.fl.below B3.out⟩
     rcases q with q | q
     ·exact Nat.lt_of_lt_of_le (I.out.at_.lt i (.inl q)) B3.out.size
     ·exact q.2
    | true =>
     have hst:=I.out.rd.step (by rw [H.out.1]; exact hdn) EF.out.2.2 (by rw [EF.out.1]; exact HG.out.1) (by rw [EF.out.1]; exact HG.out.2);have hf9:=fopen_n EF.out.2.2;rw [EF.out.1,EF.out.2.1,List.length_drop,H.out.1] at hf9;rw [EF.out.1,EF.out.2.1] at hst;have l1:fs<=fn - d:=hf9.2.1;have l9:9<=fs:=hf9.1;have HS:Hid (ReadAt s0 file (st.take (fk,fb)) (d+fs)):=hst;clear hst hf9;go_wp2_with fail;refine hfi.mono ?_;rintro e w2 ⟨rfl,B2⟩
     have B3:Hid (Below wr.heap.size wr w2/\Below wA.heap.size wA w2):=⟨G.out.1.trans (B2.mono G.out.1.size),B2⟩
     obtain ⟨y0,y1⟩:=(G.out.2.2.2.below B2).cells;have szs:=I.out.rd.size
     have hke:=keep_fit (S':=Since S w w2) (I.out.at_.below B3.out.1) (λ i q=>q.elim .inl (λ q=>.inr ⟨q.1,Nat.lt_of_lt_of_le q.2 B3.out.1.size⟩))
      (λ i q=>q.elim (λ q=>Nat.lt_of_lt_of_le (I.out.at_.lt i (.inl q)) B3.out.1.size) (λ q=>q.2)) I.out.rd.ok (by omega) fk (G.out.2.1.below B2) N2.out (by have:=N2.out; have:=HG.out.2; omega)
      (λ p m c3 e h0=>by
       simp only [Value.slice.injEq] at e;obtain ⟨e1,e2,_⟩:=e;have h1:=G.out.2.2.1 (by omega) p e1;have h2:=(G.out.2.1.below B2).blk p.block ⟨by omega,p,e1,rfl⟩
       exact .inr ⟨Nat.le_trans I.out.tu.size h1,h2⟩) HG.out.1
     clear B2 hfi szs;go_wp2_with fail;refine hke.mono ?_;rintro e w3 ⟨rfl,S3,T3⟩
     have I3:Hid (RdI w s b S fa fn fc file s0 w3 (st.take (fk,fb)) (d+fs)):=by
      refine ⟨S3.mono (λ i q=>q.elim .inl (λ q=>.inr ⟨q.1,Nat.lt_of_lt_of_le q.2 T3.size⟩)) (λ i q=>q.elim (λ q=>S3.lt i (.inl q)) (λ q=>q.2)),?_,HS.out,?_⟩
      ·refine (I.out.tu.trans (Turned.ofBelow (S:=S) B3.out.1) (λ _ _ q=>q)).trans T3 (λ i hi q=>q.elim (λ q=>q) (λ q=>by omega))
      ·refine (I.out.fl.below B3.out.1).turned T3 (λ h0 p hp q=>?_)
       rcases q with q | q
       ·exact H.out.2.1 _ ⟨h0,p,hp,rfl⟩ q
       ·have:=H.out.2.2 _ ⟨h0,p,hp,rfl⟩;omega
     clear S3 T3 hke y0 y1 x0 x1;go_wp2;go_roundg (fn - (d+fs))
     case measure=>omega
     case rel=>exact ⟨d+fs,by go_num,by omega,_,I3⟩
   ·have m0:(fe != 0)=true:=by simpa using he
    have hst:=I.out.rd.stop (λ q=>he (EF.out.2.2.symm.trans q.1));have HS:Hid (sread s0 file=(st,d)):=hst;clear hst;go_wp2;go_ret;refine ⟨d,rfl,?_⟩;rw [HS.out];have B3:=G.out.1;have t2:Turned S w wA:=I.out.tu.trans (Turned.ofBelow (S:=S) B3) (λ _ _ q=>q);refine ⟨rfl,(I.out.at_.below B3).mono (λ i q=>q.elim .inl (λ q=>.inr ⟨q.1,Nat.lt_of_lt_of_le q.2 B3.size⟩)) (λ i q=>?_),t2,I.out.fl.below B3⟩
    rcases q with q | q
    ·exact Nat.lt_of_lt_of_le (I.out.at_.lt i (.inl q)) B3.size
    ·exact q.2
  ·have hst:=I.out.rd.done (by rw [H.out.1]; exact hdn);have HS:Hid (sread s0 file=(st,d)):=hst
   have t:decide ((d:Int)<(fn:Int))=false:=by rw [decide_eq_false_iff_not]; omega
   clear hst;go_wp2;go_ret;refine ⟨d,rfl,?_⟩;rw [HS.out];exact ⟨rfl,I.out.at_,I.out.tu,I.out.fl⟩
theorem StoreX.zero {w:World} {s b:Nat} {M:Nat->Nat} {r t:Nat} {S:Nat->Prop} (hc:w.heap[s]? = some (.cells #[.pointer (some ⟨b,0,none⟩),.map (some (M 0)),.map (some (M 1)),.map (some (M 2)),.map (some (M 3)),.map (some r),.map (some t)] 160 (0,0)))
  (hm:∀ k,k<4->w.heap[M k]? = some (.map #[] 0)) (hr:w.heap[r]? = some (.map #[] 0)) (ht:w.heap[t]? = some (.map #[] 0)) (hi:∀ j k,j<4->k<4->M j=M k->j=k) (ha:(∀ k,k<4->M k≠r/\M k≠t)/\r≠t) (ho:S s/\S r/\S t/\∀ k,k<4->S (M k)) (hl:∀ i,S i->i<w.heap.size) :
  StoreX w s b M r t (λ _ _=>none) st0 S where
 cells:=hc
 objs:=λ k hk=>⟨0,Nat.zero_le _,MapG.new (hm k hk)⟩
 refs:=MapG.new hr
 tags:=MapG.new ht
 gone:=λ _ _ _ _=>rfl
 there:=λ k hk i bs h=>by simp [st0,oget] at h
 inj:=hi
 apart:=ha
 own:=ho
 lt:=hl
end
end Go.Proofs.YtjlokpjflgbgdaaGreat

namespace Go.Proofs.YtjlokpjflgbgdaaGreat
open Go.RowKit
def mm (B k j:Nat):Value:=if j<k then .map (some (B+3+j)) else .map none
structure OpI (w:World) (b k:Nat) (wr:World):Prop where
 sz:wr.heap.size=w.heap.size+3+k
 cells:wr.heap[w.heap.size+2]? = some (.cells #[.pointer (some ⟨b,0,none⟩),mm w.heap.size k 0,mm w.heap.size k 1,mm w.heap.size k 2,mm w.heap.size k 3,.map (some w.heap.size),.map (some (w.heap.size+1))] 160 (0,0))
 maps:∀ j,j<k->wr.heap[w.heap.size+3+j]? = some (.map #[] 0)
 r:wr.heap[w.heap.size]? = some (.map #[] 0)
 t:wr.heap[w.heap.size+1]? = some (.map #[] 0)
 bel:Below w.heap.size w wr
theorem OpI.cell {w wr:World} {b k:Nat} (h:OpI w b k wr) (j:Nat) (hj:j<4):wr.cell? ⟨w.heap.size+2,1+j,none⟩=some (mm w.heap.size k j)/\wr.frozen? ⟨w.heap.size+2,1+j,none⟩=false:=by
 have h4:j=0∨j=1∨j=2∨j=3:=by omega
 rcases h4 with rfl | rfl | rfl | rfl <;> simp [World.cell?,World.frozen?,h.cells]
theorem OpI.step {w wr:World} {b k:Nat} (h:OpI w b k wr) (hk:k<4):OpI w b (k+1) ((wr.setCell ⟨w.heap.size+2,1+k,none⟩ (.map (some (w.heap.size+3+k)))).alloc (.map #[] 0)):=by
 obtain ⟨W,hW⟩:∃ W,wr.setCell ⟨w.heap.size+2,1+k,none⟩ (.map (some (w.heap.size+3+k)))=W:=⟨_,rfl⟩
 have set:Turned (λ i=>i=w.heap.size+2) wr W:=by rw [<- hW]; exact turned_set _ _
 have szW:W.heap.size=w.heap.size+3+k:=by rw [<- hW]; simp [World.setCell,h.sz]
 have hc:=set_block h.cells (1+k) (.map (some (w.heap.size+3+k)));rw [hW] at hc ⊢;have hn:=heap_alloc_new W (.map #[] 0);rw [szW] at hn;have hsz:=h.sz
 have old:∀ i,i<w.heap.size+3+k->(W.alloc (.map #[] 0)).heap[i]? = W.heap[i]? := λ i hi=>(bz1 W (.map #[] 0)).block i (by rw [szW]; exact hi)
 have oth:∀ i,i<w.heap.size+3+k->i≠w.heap.size+2->W.heap[i]? = wr.heap[i]? := λ i hi hne=>set.block i (by omega) hne
 refine ⟨by simp [szW]; omega,?_,?_,?_,?_,?_⟩
 ·rw [old _ (by omega),hc]
  have h4:k=0∨k=1∨k=2∨k=3:=by omega
  rcases h4 with rfl | rfl | rfl | rfl <;> simp [mm]
 ·intro j hj;by_cases e:j=k
  ·rw [e]; exact hn
  ·rw [old _ (by omega),oth _ (by omega) (by omega)];exact h.maps j (by omega)
 ·rw [old _ (by omega),oth _ (by omega) (by omega)]; exact h.r
 ·rw [old _ (by omega),oth _ (by omega) (by omega)]; exact h.t
 ·exact h.bel.trans ((set.below (by omega) (λ i hi q=>by omega)).trans ((bz1 W _).mono (by omega)))
theorem OpI.start (w:World) (b:Nat):OpI w b 0 (((w.alloc (.map #[] 0)).alloc (.map #[] 0)).alloc (.cells #[.pointer (some ⟨b,0,none⟩),.map none,.map none,.map none,.map none,.map (some w.heap.size),.map (some (w.heap.size+1))] 160)):=by
 have e1:(w.alloc (.map #[] 0)).heap.size=w.heap.size+1:=by simp
 have e2:((w.alloc (.map #[] 0)).alloc (.map #[] 0)).heap.size=w.heap.size+2:=by simp
 have h1:=heap_alloc_new w (.map #[] 0);have h2:=heap_alloc_new (w.alloc (.map #[] 0)) (.map #[] 0);rw [e1] at h2;have h3:=heap_alloc_new ((w.alloc (.map #[] 0)).alloc (.map #[] 0)) (.cells #[.pointer (some ⟨b,0,none⟩),.map none,.map none,.map none,.map none,.map (some w.heap.size),.map (some (w.heap.size+1))] 160);rw [e2] at h3;refine ⟨by simp,?_,λ j hj=>by omega,?_,?_,bz3 _ _ _ _⟩
 ·rw [h3];simp [mm]
 ·rw [(bz1 _ _).block _ (by rw [e2]; omega),(bz1 _ _).block _ (by rw [e1]; omega)];exact h1
 ·rw [(bz1 _ _).block _ (by rw [e2]; omega)];exact h2
theorem OpI.store {w wr:World} {b:Nat} (h:OpI w b 4 wr):StoreAt wr (w.heap.size+2) b st0 (λ i=>w.heap.size<=i/\i<w.heap.size+7):=by
 refine ⟨λ k=>w.heap.size+3+k,w.heap.size,w.heap.size+1,_,StoreX.zero ?_ (λ k hk=>h.maps k hk) h.r h.t (λ j k _ _ e=>by omega) ⟨λ k _=>⟨by omega,by omega⟩,by omega⟩ ⟨by omega,by omega,by omega,λ k hk=>by omega⟩ (λ i hi=>by rw [h.sz]; omega)⟩;rw [h.cells];simp [mm]
section
variable {w:World} {b:Nat} {d:Dk} {T:Nat->Prop}
def Left (w w':World) (b:Nat) (d':Dk) (T:Nat->Prop) (T':Nat->Prop):Prop:=DiskAt w' b d' T'/\(∀ i,T' i->T i∨w.heap.size<=i)/\Turned T w w'
theorem open_store (hT:DiskAt w b d T) (hok:d.ok) (hw:d.writes<=1000000) :
  Calls Tryz.prog 20 #[.pointer (some ⟨b,0,none⟩)] w λ e w'=>∃ T',Hid (Left w w' b (sopen d).2.1 T T') /\
   ((Hid ((sopen d).2.2=0)/\∃ s,e=.returned (.tuple #[.pointer (some ⟨s,0,none⟩),.int .i64 0])/\Hid (∃ S,StoreAt w' s b (sopen d).1 S/\∀ i,S i->w.heap.size<=i/\¬ T' i)) ∨
    (∃ r,e=.returned (.tuple #[.pointer none,.int .i64 r])/\Hid ((sopen d).2.2=r/\r≠0))):=by
 obtain ⟨Z,hZ⟩:∃ Z,sopen d=Z:=⟨_,rfl⟩
 rw [hZ]
 have H:Hid (DiskAt w b d T/\d.ok/\d.writes<=1000000/\sopen d=Z):=⟨hT,hok,hw,hZ⟩
 have hTl:=hT.lt
 have hmk:=λ W=>run_makeMap (P:=Tryz.prog) 156 W
 have hmk2:=λ W=>run_makeMap (P:=Tryz.prog) 157 W
 obtain ⟨W,hW⟩:∃ W,((w.alloc (.map #[] 0)).alloc (.map #[] 0)).alloc (.cells #[.pointer (some ⟨b,0,none⟩),.map none,.map none,.map none,.map none,.map (some w.heap.size),.map (some (w.heap.size+1))] 160)=W:=⟨_,rfl⟩
 have I0:Hid (OpI w b 0 W):=by rw [<- hW]; exact OpI.start w b
 have HT:Hid (∀ i,T i->i<w.heap.size):=hTl;clear hT hok hw hZ hTl;go_enter Tryz.func20,Tryz.ntmps20;go_wp2_with fail;go_loopg [15] 4 (λ m iv wr=>∃ k:Nat,iv=.int .i64 (k:Int)/\k+m=4/\Hid (OpI w b k wr))
 case atStart=>exact ⟨0,rfl,by omega,I0⟩
 case round =>
  obtain ⟨k,rfl,hk,I⟩:=hrel;by_cases hk4:k<4
  ·have sz:=I.out.sz;have st:=I.out.step hk4;have hc:=I.out.cell k hk4
   have h4:k=0∨k=1∨k=2∨k=3:=by omega
   rcases h4 with rfl | rfl | rfl | rfl
   all_goals
    obtain ⟨c1,f1⟩:=hc;simp only [mm,Nat.lt_irrefl,if_false] at c1;simp only [Nat.add_zero,Nat.reduceAdd] at c1 f1 st sz;have ST:Hid _:=st;clear st hk4;go_wp2;go_roundg (gk - 1)
    case measure=>omega
    case rel=>first | exact ⟨1,rfl,by omega,ST⟩ | exact ⟨2,rfl,by omega,ST⟩ | exact ⟨3,rfl,by omega,ST⟩ | exact ⟨4,rfl,by omega,ST⟩
  ·obtain rfl:k=4:=by omega
   have t4:decide ((4:Int)<4)=false:=by decide
   have hDs:=H.out.1.below I.out.bel;have hrd:=read_at hDs fileN (by decide) (λ bs hb=>H.out.2.1.get hb)
   obtain ⟨fl,hfl⟩:∃ fl,(fget d.files fileN).getD []=fl:=⟨_,rfl⟩
   have hlen:fl.length<=262144:=by
    rw [<- hfl]
    cases e:fget d.files fileN with
    | none=>simp
    | some bs=>exact H.out.2.1.get e
   rw [hfl] at hrd
   obtain ⟨g0,hg0⟩:∃ g0,(fget d.files fileN).isSome=g0:=⟨_,rfl⟩
   rw [hg0] at hrd
   have HF:Hid ((fget d.files fileN).getD []=fl/\fl.length<=262144):=⟨hfl,hlen⟩
   clear hDs hfl hlen hg0;go_wp2_with fail;refine hrd.mono ?_;rintro e w5 ⟨v5,rfl,O5,B5⟩
   obtain ⟨a5,c5,n5,hv5,N5⟩:∃ a5 c5 n5,v5=.slice a5 n5 c5/\Hid (fl.length=n5):=by
    obtain ⟨a2,c2,e,_⟩:=OwnG.form O5;exact ⟨a2,c2,_,e,rfl⟩
   subst hv5;have szr:=I.out.sz;have hva:BAt w5 (.slice a5 n5 c5) fl:=OwnB.at (OwnG.low O5 (Nat.zero_le _));have hnew:NewRow wr a5 n5:=O5.newRow (Nat.le_refl _)
   have hre:=read_any (I.out.store.below B5) St.ok0 rfl hva N5.out (by have:=N5.out; have:=HF.out.2; omega) (λ i q r=>by
    obtain ⟨h0,p,hp,rfl⟩:=q;have:=hnew h0 p hp
    omega)
   obtain ⟨stR,hstR⟩:∃ stR,(sread st0 fl).1=stR:=⟨_,rfl⟩
   obtain ⟨gR,hgR⟩:∃ gR,(sread st0 fl).2=gR:=⟨_,rfl⟩
   rw [hstR,hgR] at hre
   have HR:Hid ((sread st0 fl).1=stR/\(sread st0 fl).2=gR/\gR<=fl.length):=⟨hstR,hgR,by rw [<- hgR]; exact (sread_ok fl St.ok0 rfl).2.2⟩
   have HB5:Hid (Below wr.heap.size wr w5):=B5;clear hva hnew hstR hgR O5 B5 hrd szr;go_wp2_with fail;refine hre.mono ?_;rintro e w6 ⟨g6,rfl,R6⟩;have eg:g6=gR:=R6.out.1;subst eg;clear hre;have szr:=I.out.sz;have bel5:Below w.heap.size w w5:=I.out.bel.trans (HB5.out.mono I.out.bel.size);have D6:DiskAt w6 b d T:=(H.out.1.below bel5).stays R6.out.2.2.1 (λ i hi q=>by have:=HT.out i hi; omega)
   have t6:Turned T w w6:=by
    have:Below w.heap.size w5 w6:=R6.out.2.2.1.below bel5.size (λ k hk q=>by omega);exact Turned.ofBelow (S:=T) (bel5.trans this)
   have s6:∀ i,Since (λ i=>w.heap.size<=i/\i<w.heap.size+7) w5 w6 i->w.heap.size<=i:=λ i q=>q.elim (λ q=>q.1) (λ q=>Nat.le_trans bel5.size q.1)
   have G6:Hid (DiskAt w6 b d T/\Turned T w w6/\StoreAt w6 (w.heap.size+2) b stR (Since (λ i=>w.heap.size<=i/\i<w.heap.size+7) w5 w6)/\∀ i,Since (λ i=>w.heap.size<=i/\i<w.heap.size+7) w5 w6 i->w.heap.size<=i):=⟨D6,t6,R6.out.2.1,s6⟩
   clear szr bel5 D6 t6 s6 R6;by_cases hlt:g6<n5
   ·have tl:(g6:Int)<(n5:Int):=by omega
    have htr:=trim_at G6.out.1 H.out.2.1 (by have:=H.out.2.2.1; omega) fileN (by decide) (g6:Int)
    obtain ⟨d7,hd7⟩:∃ d7,(dtrim d fileN (g6:Int)).1=d7:=⟨_,rfl⟩
    obtain ⟨cd,hcd⟩:∃ cd,(dtrim d fileN (g6:Int)).2=cd:=⟨_,rfl⟩
    rw [hd7,hcd] at htr
    have ez:Z=(if cd=0 then stR else st0,d7,cd):=by
     rw [<- H.out.2.2.2];unfold sopen ofile;rw [HF.out.1,HR.out.2.1,if_pos (by rw [N5.out]; exact hlt),hd7,hcd,HR.out.1]
    have EZ:Hid (Z=(if cd=0 then stR else st0,d7,cd)):=ez;clear hd7 hcd ez hlt;go_wp2_with fail;refine htr.mono ?_;rintro e w7 ⟨r7,rfl,hr7,D7,T7⟩;have er:r7=cd:=hr7.out;subst er
    have LL:Hid (Left w w7 b d7 T (Since T w6 w7)):=⟨D7,λ i q=>q.elim .inl (λ q=>.inr (Nat.le_trans G6.out.2.1.size q.1)),G6.out.2.1.trans T7 (λ _ _ q=>q)⟩
    have SS:Hid (StoreAt w7 (w.heap.size+2) b stR (Since (λ i=>w.heap.size<=i/\i<w.heap.size+7) w5 w6)/\∀ i,Since (λ i=>w.heap.size<=i/\i<w.heap.size+7) w5 w6 i->w.heap.size<=i/\¬ (Since T w6 w7) i):=by
     refine ⟨G6.out.2.2.1.stays T7 (λ i hi q=>?_),λ i hi=>⟨G6.out.2.2.2 i hi,λ q=>?_⟩⟩
     ·have:=G6.out.2.2.2 i hi;have:=HT.out i q;omega
     ·rcases q with q | q
      ·have:=G6.out.2.2.2 i hi;have:=HT.out i q;omega
      ·have:=G6.out.2.2.1.lt i hi;omega
    clear hr7 D7 T7 htr;by_cases hz:r7=0
    ·subst hz;go_wp2;refine bodyPost_ret (results_tmp2 rfl _ _ _) rfl ?_;rw [EZ.out];exact ⟨_,LL,.inl ⟨rfl,_,rfl,_,SS.out⟩⟩
    ·have m0:(r7 != 0)=true:=by simpa using hz
     go_wp2;refine bodyPost_ret (results_tmp2 rfl _ _ _) rfl ?_;rw [EZ.out];exact ⟨_,LL,.inr ⟨_,rfl,rfl,hz⟩⟩
   ·have tl:decide ((g6:Int)<(n5:Int))=false:=by rw [decide_eq_false_iff_not]; omega
    have ez:Z=(stR,d,0):=by
     rw [<- H.out.2.2.2];unfold sopen ofile;rw [HF.out.1,HR.out.2.1,if_neg (by rw [N5.out]; exact hlt),HR.out.1]
    have EZ:Hid (Z=(stR,d,0)):=ez;clear ez
    have tl2:¬ (g6:Int)<(n5:Int):=by omega
    go_wp2;refine bodyPost_ret (results_tmp2 rfl _ _ _) rfl ?_;rw [EZ.out];refine ⟨T,⟨G6.out.1,λ i q=>.inl q,G6.out.2.1⟩,.inl ⟨rfl,_,rfl,_,G6.out.2.2.1,λ i hi=>⟨G6.out.2.2.2 i hi,λ q=>?_⟩⟩⟩;have:=G6.out.2.2.2 i hi;have:=HT.out i q;omega
end
end Go.Proofs.YtjlokpjflgbgdaaGreat

namespace Go.Proofs.YtjlokpjflgbgdaaGreat
open Go.RowKit Go.Maps
section
variable {S:Nat->Prop} {w:World} {b m:Nat} {f:Bs->Option Value} {a k:Int} {d:Dk}
section
variable {wr:World} {c m2 r:Nat} {D:DataW Value} {left:Lit->Bool} {cnt:Nat} {f2:Bs->Option Value} {n2:Nat}
end
end
end Go.Proofs.YtjlokpjflgbgdaaGreat
