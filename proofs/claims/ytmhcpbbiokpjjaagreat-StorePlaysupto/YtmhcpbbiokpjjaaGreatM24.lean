/-
  Several texts, laid together.
-/
import Derived.Test.YtmhcpbbiokpjjaaGreatM23
set_option maxHeartbeats 6400000
set_option maxRecDepth 100000
namespace Go.Proofs.YtmhcpbbiokpjjaaGreat
open Go.RowKit
section
variable {S:Nat->Prop} {w:World} {b m:Nat} {f:Bs->Option Value} {a k:Int} {d:Dk}
theorem Zmb (b:Nat) (n:Bs) (z:Int) (hg:isName n=false):Calls Tryz.prog 110 #[.pointer (some ⟨b,0,none⟩),tx n,.int .i64 z] w λ e w'=>e=.returned (.int .i64 2)/\w'=w:=by
 have hc:=ZlV (w:=w) b n hg;clear hg;go_enter Tryz.func110,Tryz.ntmps110;go_wp2_with fail;refine hc.mono ?_;rintro e w1 ⟨rfl,rfl⟩;go_wp2;go_ret;exact ⟨rfl,rfl⟩
theorem ZkG (h:Zal w b m f a k d S) (n:Bs) (z:Int) (hg:isName n=true) (hn:n.length<=maxLen) (hf:f n=none):Calls Tryz.prog 110 #[.pointer (some ⟨b,0,none⟩),tx n,.int .i64 z] w λ e w'=>e=.returned (.int .i64 5)/\w'=w:=by
 have hc:=Zjx h n hg hn hf;clear h hg hf;go_enter Tryz.func110,Tryz.ntmps110;go_wp2_with fail;refine hc.mono ?_;rintro e w1 ⟨rfl,rfl⟩;go_wp2;go_ret;exact ⟨rfl,rfl⟩
theorem ZhR (h:Zal w b m f a k d S) (n:Bs) (z:Int) (hg:isName n=true) (hn:n.length<=maxLen) {v:Value} {bs:Bs} (hf:f n=some v) (hO:OwnB w v bs) (hz:z<0∨(bs.length:Int)<z) :
  Calls Tryz.prog 110 #[.pointer (some ⟨b,0,none⟩),tx n,.int .i64 z] w λ e w'=>e=.returned (.int .i64 3)/\w'=w:=by
 have hc:=ZgA h n hg hn hf;obtain ⟨ao,cc,rfl,_⟩:=OwnG.form hO
 obtain ⟨L,hL⟩:∃ L,bs.length=L:=⟨_,rfl⟩
 rw [hL] at hz hc;clear h hg hf hO hL;by_cases h0:z<0
 ·have p:decide (z<0)=true:=by simpa using h0
  go_enter Tryz.func110,Tryz.ntmps110;go_wp2_with fail;refine hc.mono ?_;rintro e w1 ⟨rfl,rfl⟩;go_wp2;go_ret;exact ⟨rfl,rfl⟩
 ·have p:decide (z<0)=false:=by simpa using h0
  have p2:decide ((L:Int)<z)=true:=by rw [decide_eq_true_eq]; omega
  go_enter Tryz.func110,Tryz.ntmps110;go_wp2_with fail;refine hc.mono ?_;rintro e w1 ⟨rfl,rfl⟩;go_wp2;go_ret;exact ⟨rfl,rfl⟩
theorem Zlk (h:Zal w b m f a k d S) (n:Bs) (z:Int) (hg:isName n=true) (hn:n.length<=maxLen) {v:Value} {bs:Bs} (hf:f n=some v) (hO:OwnB w v bs) (h0:0<=z) (h1:z<=(bs.length:Int)) (hb:d.after<9223372036854775808) (hw:d.writes<4611686018427387904) (hdo:(dnext d).2.1=false) :
  Calls Tryz.prog 110 #[.pointer (some ⟨b,0,none⟩),tx n,.int .i64 z] w λ e w'=>e=.returned (.int .i64 8)/\∃ a',Zal w' b m f a' k (dnext d).1 S/\Zaa (λ i=>i=b) w w':=by
 have hc:=ZgA h n hg hn hf;have hwr:=Zci h hb hw;obtain ⟨ao,cc,rfl,_⟩:=OwnG.form hO
 obtain ⟨L,hL⟩:∃ L,bs.length=L:=⟨_,rfl⟩
 rw [hL] at h1 hc;clear h hg hf hO hL
 have p:decide (z<0)=false:=by simpa using h0
 have p2:decide ((L:Int)<z)=false:=by rw [decide_eq_false_iff_not]; omega
 go_enter Tryz.func110,Tryz.ntmps110;go_wp2_with fail;refine hc.mono ?_;rintro e w1 ⟨rfl,hw1⟩;rw [hw1];clear hw1 w1;go_wp2_with fail;refine hwr.mono ?_;rintro e w2 ⟨r,a',rfl,hr,hD,ht2⟩
 have er:r=8:=by rw [hr.out,if_neg (by rw [hdo]; simp)]
 subst er
 have W2:Hid (Zal w2 b m f a' k (dnext d).1 S/\Zaa (λ i=>i=b) w w2):=⟨hD,ht2⟩
 clear hD ht2 hr;go_wp2;go_ret;exact ⟨rfl,a',W2.out⟩
theorem ZkB {w1 w2 w3:World} {v3:Value} {cs:Bs} {a':Int} {d':Dk} (h:S b) (hS:∀ i,S i->i<w.heap.size) (T1:Zaa (λ i=>i=b) w w1) (hD:Zal w1 b m f a' k d' S) (hw2:w1=w2) (B3:Below w2.heap.size w2 w3) (hO:OwnG encB 5 w3 w2.heap.size v3 cs) :
  Zal w3 b m f a' k d' (Zaj S w w3)/\OwnB w3 v3 cs/\(∀ y u g,f y=some u->u.ownBlock=some g->v3.ownBlock≠some g)/\(∀ g,v3.ownBlock=some g->Zaj S w w3 g)/\Zaa S w w3:=by
 subst hw2;have hsz:=T1.size;refine ⟨ZaE.mono (ZaE.below hD B3) (λ _ q=>.inl q) (λ _ q=>q) (λ i hi=>?_),OwnG.low hO (Nat.zero_le _),?_,?_,(ZdK h T1).trans (Zaa.ofBelow (S:=S) B3) (λ _ _ q=>q)⟩
 ·rcases hi with q | q
  ·exact Nat.lt_of_lt_of_le (hS i q) (Nat.le_trans hsz B3.size)
  ·exact q.2
 ·intro y u g hu hg q;have h1:=(hO.lt g q).1;have h2:=Zal.row_lt hD hu hg;omega
 ·intro g hg;have h1:=hO.lt g hg;exact .inr ⟨by omega,h1.2⟩
theorem ZmG (h:Zal w b m f a k d S) (hrise:Za4 d.files) (hfl:d.files.length<=1000) (n:Bs) (z:Nat) (hg:isName n=true) (hn:n.length<=140737488355328) {v:Value} {bs:Bs} (hf:f n=some v) (hO:OwnB w v bs) (hbl:bs.length<=262144) (h1:z<=bs.length) (hb:d.after<9223372036854775808) (hw:d.writes<4611686018427387904) (hdo:(dnext d).2.1=true) :
  Calls Tryz.prog 110 #[.pointer (some ⟨b,0,none⟩),tx n,.int .i64 (z:Int)] w λ e w'=>e=.returned (.int .i64 0)/\Zao w' b { (dnext d).1 with files:=fwith d.files n (bs.take z) } (Zaj S w w')/\Zaa S w w':=by
 have hc:=ZgA h n hg (by simp only [maxLen]; omega) hf;have hwr:=Zci h hb hw
 have H:Hid (Zal w b m f a k d S/\Za4 d.files/\d.files.length<=1000/\f n=some v/\OwnB w v bs):=⟨h,hrise,hfl,hf,hO⟩
 obtain ⟨v',hsl,hsb⟩:=ZlE (j:=z) w (OwnB.at hO) h1;have SB:Hid (∀ w,BAt w v bs->BAt w v' (bs.take z)):=hsb;obtain ⟨ao,cc,rfl,_⟩:=OwnG.form hO
 obtain ⟨L,hL⟩:∃ L,bs.length=L:=⟨_,rfl⟩
 rw [hL] at h1 hc H SB hsl hbl;have LL:Hid (bs.length=L):=hL;clear h hg hf hO hL hsb
 have p:decide ((z:Int)<0)=false:=by rw [decide_eq_false_iff_not]; omega
 have p2:decide ((L:Int)<(z:Int))=false:=by rw [decide_eq_false_iff_not]; omega
 go_enter Tryz.func110,Tryz.ntmps110;go_wp2_with fail;refine hc.mono ?_;rintro e w1 ⟨rfl,hw1⟩;rw [hw1];clear hw1 w1;go_wp2_with fail;refine hwr.mono ?_;rintro e w2 ⟨r,a',rfl,hr,hD,ht2⟩
 have er:r=0:=by rw [hr.out,if_pos hdo]
 subst er;have ef:(dnext d).1.files=d.files:=ZaU d
 have W2:Hid (Zal w2 b m f a' k (dnext d).1 S/\Zaa (λ i=>i=b) w w2):=⟨hD,ht2⟩
 have b2:OwnB w2 (.slice ao L cc) bs:=H.out.2.2.2.2.turned ht2 (λ g hg e=>(Zal.row_ne H.out.1 H.out.2.2.2.1 hg).1 e);have hcl:=Zb5 w2 (SB.out w2 (OwnB.at b2)) (by rw [List.length_take,LL.out]; omega);clear hD ht2 hr hwr hc b2;go_wp2_with fail;refine hcl.mono ?_;rintro e w3 ⟨v3,rfl,O3,B3⟩;have F:=ZkB H.out.1.mine.1 H.out.1.lt W2.out.2 W2.out.1 rfl B3 O3;have hs:=Zgv F.1 (by rw [ef]; exact H.out.2.1) (by rw [ef]; exact H.out.2.2.1) hn (λ _ q=>q.elim) F.2.1 (λ y u g _ hu hg=>F.2.2.1 y u g hu hg) F.2.2.2.1;have FT:Hid (Zaa S w w3):=F.2.2.2.2;clear F O3 B3 hcl;go_wp2_with fail;refine hs.mono ?_;rintro e w4 ⟨rfl,D4,T4⟩;have E:=Zgr H.out.1.mine.2 FT.out D4 T4;rw [ef] at E;clear D4 T4 hs;go_wp2;go_ret;exact ⟨rfl,E.1,E.2⟩
theorem ZmH (h:Zao w b d S) (hk:d.ok) (hw:d.writes<4611686018427387904) (n:Bs) (hn:n.length<=140737488355328) (z:Int) :
  Calls Tryz.prog 110 #[.pointer (some ⟨b,0,none⟩),tx n,.int .i64 z] w λ e w'=>∃ r,e=.returned (.int .i64 r)/\Hid (r=(dtrim d n z).2)/\Zao w' b (dtrim d n z).1 (Zaj S w w')/\Zaa S w w':=by
 obtain ⟨m,f,a,k,h⟩:=h
 have hn':n.length<=maxLen:=by simp only [maxLen]; omega
 unfold dtrim;by_cases hg:isName n=false
 ·refine (Zmb b n z hg).mono ?_;rintro e w' ⟨rfl,rfl⟩;rw [if_pos hg];exact ⟨2,rfl,rfl,Zal.same h,Zaa.refl _ _⟩
 ·rw [if_neg hg]
  have hg':isName n=true:=by simpa using hg
  rcases h.file n with ⟨h1,h2⟩ | ⟨bs,v,h1,h2,ho⟩
  ·refine (ZkG h n z hg' hn' h2).mono ?_;rintro e w' ⟨rfl,rfl⟩;rw [h1];exact ⟨5,rfl,rfl,Zal.same h,Zaa.refl _ _⟩
  ·rw [h1];have ho:OwnB w v bs:=ho.elim False.elim id;by_cases hz:z<0∨(bs.length:Int)<z
   ·refine (ZhR h n z hg' hn' h2 ho hz).mono ?_;rintro e w' ⟨rfl,rfl⟩;simp only [hz,if_true];exact ⟨3,rfl,rfl,Zal.same h,Zaa.refl _ _⟩
   ·obtain ⟨q,rfl⟩:∃ q:Nat,z=(q:Int):=⟨z.toNat,by omega⟩
    by_cases hdo:(dnext d).2.1=true
    ·refine (ZmG h hk.rise (by have:=hk.few; omega) n q hg' hn h2 ho (hk.get h1) (by omega) hk.after hw hdo).mono ?_;rintro e w' ⟨rfl,h3,h4⟩;simp only [hz,hdo,if_true,if_false,Int.toNat_natCast];exact ⟨0,rfl,rfl,h3,h4⟩
    ·have hdo':(dnext d).2.1=false:=by simpa using hdo
     refine (Zlk h n q hg' hn' h2 ho (by omega) (by omega) hk.after hw hdo').mono ?_;rintro e w' ⟨rfl,a',h3,h4⟩;simp only [hz,hdo',Bool.false_eq_true,if_false];exact ⟨8,rfl,rfl,Zal.since h3 w,ZdK h.mine.1 h4⟩
end
section
variable {w:World} {s b:Nat} {st:St} {S:Nat->Prop}
theorem ZkN {S':Nat->Prop} (h:Zac w s b st S) (hSS:∀ i,S i->S' i) (hSl:∀ i,S' i->i<w.heap.size) (hok:st.ok) (hsz:st.size<=1000000) (k:Int) {a:Option Addr} {n c:Nat} {body:Bs} (hv:BAt w (.slice a n c) body) (hl:body.length=n) (hn:n<=8192) (hin:Zc6 S' (.slice a n c)) (hf:st.fits (k,body)=true) :
  Calls Tryz.prog 166 #[.pointer (some ⟨s,0,none⟩),.agg #[.int .i64 k,.slice a n c]] w λ e w'=>e=.returned (.tuple #[])/\Zac w' s b (st.take (k,body)) S'/\Zaa S w w':=by
 have hz:st.objs.length<=1000000/\st.refs.length<=1000000/\st.tags.length<=1000000:=by unfold St.size at hsz; omega
 have hob:k=1∨k=2∨k=3->Calls Tryz.prog 166 #[.pointer (some ⟨s,0,none⟩),.agg #[.int .i64 k,.slice a n c]] w λ e w'=>e=.returned (.tuple #[])/\Zac w' s b (st.take (k,body)) S'/\Zaa S w w' :=
  λ hk=>Zg8 h hSS hSl k hk hv hin (ZhN hf hk).2.2 hz.1
 have fin:∀ w',Zac w' s b (st.take (k,body)) S->Zaa S w w'->Zac w' s b (st.take (k,body)) S'/\Zaa S w w' :=
  λ w' q1 q2=>⟨q1.mono hSS (λ i q=>Nat.lt_of_lt_of_le (hSl i q) q2.size),q2⟩
 rcases ZfH hf with q | q | q | q | q
 ·exact hob (.inl q)
 ·exact hob (.inr (.inl q))
 ·exact hob (.inr (.inr q))
 ·have q:k=4:=q;subst q;have hlab:=Zb7 hf (.inl rfl);refine (Zht h hok.refs hz.2.1 hv hl (by have:=hlab.1; simp only at this; omega) (by omega) (hlab.2.2.2.1 rfl)).mono ?_;rintro e w' ⟨rfl,q1,q2⟩;exact ⟨rfl,fin w' q1 q2⟩
 ·have q:k=5:=q;subst q;have hlab:=Zb7 hf (.inr rfl);refine (Zhk h hok.tags hz.2.2 hv hl (by have:=hlab.1; simp only at this; omega) (by omega)).mono ?_;rintro e w' ⟨rfl,q1,q2⟩;exact ⟨rfl,fin w' q1 q2⟩
structure RdI (w:World) (s b:Nat) (S:Nat->Prop) (fa:Option Addr) (fn fc:Nat) (file:Bs) (s0:St) (wr:World) (st:St) (d:Nat):Prop where
 at_:Zac wr s b st (Zaj S w wr)
 tu:Zaa S w wr
 rd:Za5 s0 file st d
 fl:BAt wr (.slice fa fn fc) file
theorem ZlS (h:Zac w s b st S) (hok:st.ok) (hs0:st.size=0) {fa:Option Addr} {fn fc:Nat} {file:Bs} (hv:BAt w (.slice fa fn fc) file) (hl:file.length=fn) (hn:fn<=262144) (hfar:∀ i,Blk fa fn i->¬ S i) :
  Calls Tryz.prog 109 #[.pointer (some ⟨s,0,none⟩),.slice fa fn fc] w λ e w'=>∃ g:Nat,e=.returned (.int .i64 (g:Int))/\Hid (g=(sread st file).2/\Zac w' s b (sread st file).1 (Zaj S w w')/\Zaa S w w'/\BAt w' (.slice fa fn fc) file):=by
 have hcap:fn<=fc:=by
  obtain ⟨ao,c',e,h1,_,_⟩:=hv;cases e;exact h1
 have hblk:=hv.blk
 have H:Hid (file.length=fn/\(∀ i,Blk fa fn i->¬ S i)/\(∀ i,Blk fa fn i->i<w.heap.size)):=⟨hl,hfar,hblk⟩
 have I0:Hid (RdI w s b S fa fn fc file st w st 0):=⟨h.mono (λ _ q=>.inl q) (λ i q=>q.elim (h.lt i) (λ q=>q.2)),Zaa.refl _ _,Za5.start file hok hs0,hv⟩
 obtain ⟨s0,hs⟩:∃ s0,s0=st:=⟨_,rfl⟩
 rw [<- hs];rw [<- hs] at I0;clear h hok hs0 hv hl hfar hblk hs;go_enter Tryz.func109,Tryz.ntmps109;go_wp2_with fail;go_loopg [5] fn (λ m iv wr=>∃ d:Nat,iv=.int .i64 (d:Int)/\d+m=fn/\∃ st,Hid (RdI w s b S fa fn fc file s0 wr st d))
 case atStart=>exact ⟨0,rfl,by omega,s0,I0⟩
 case round =>
  obtain ⟨d,rfl,hd,st,I⟩:=hrel;by_cases hdn:d<fn
  ·have id:(d:Int)<(fn:Int):=by omega
   obtain ⟨a1,c1,sl,q1,q1',r1⟩:=ZbU (ao:=fa) (n:=fn) (c:=fc) (k:=d) hcap (by omega)
   have hrd:RdG encB wr fa file/\fc<=9223372036854775807:=by
    obtain ⟨ao,c',e,h1,h2,h3⟩:=I.out.fl;cases e;exact ⟨h3,h2⟩
   have hB1:BAt wr (.slice a1 (fn - d) c1) (file.drop d):=⟨a1,c1,by rw [List.length_drop,H.out.1],by rw [List.length_drop,H.out.1]; exact q1,by omega,r1 wr file H.out.1 hrd.1⟩
   have hop:=Zmc hB1 (by rw [List.length_drop,H.out.1]) (by omega)
   obtain ⟨fk,hfk⟩:∃ fk,(fopen (file.drop d)).1.1=fk:=⟨_,rfl⟩
   obtain ⟨fb,hfb⟩:∃ fb,(fopen (file.drop d)).1.2=fb:=⟨_,rfl⟩
   obtain ⟨fs,hfs⟩:∃ fs,(fopen (file.drop d)).2.1=fs:=⟨_,rfl⟩
   obtain ⟨fe,hfe⟩:∃ fe,(fopen (file.drop d)).2.2=fe:=⟨_,rfl⟩
   rw [hfk,hfb,hfs,hfe] at hop
   have EF:Hid ((fopen (file.drop d)).1=(fk,fb)/\(fopen (file.drop d)).2.1=fs/\(fopen (file.drop d)).2.2=fe):=⟨by rw [<- hfk,<- hfb],hfs,hfe⟩
   clear r1 hrd hB1 hfk hfb hfs hfe q1';go_wp2_with fail;refine hop.mono ?_;rintro e w1 ⟨fv,rfl,O1⟩
   obtain ⟨a2,c2,n2,hv2,N2⟩:∃ a2 c2 n2,fv=.slice a2 n2 c2/\Hid (fb.length=n2):=by
    obtain ⟨a2,c2,e,_⟩:=OwnG.form O1.out.1;exact ⟨a2,c2,_,e,rfl⟩
   subst hv2
   obtain ⟨wA,hwA⟩:∃ wA,w1.alloc (.cells #[.int .i64 fk,.slice a2 n2 c2] 228)=wA:=⟨_,rfl⟩
   have bA:Below w1.heap.size w1 wA:=by rw [<- hwA]; exact bz1 _ _
   have bxA:Box wA w1.heap.size 228 (.int .i64 fk) (.slice a2 n2 c2):=by rw [<- hwA]; exact Box.new _ _ _ _
   obtain ⟨x0,x1⟩:=bxA.cells;have B1:Below wr.heap.size wr wA:=O1.out.2.trans (bA.mono O1.out.2.size);have hva:BAt wA (.slice a2 n2 c2) fb:=(OwnB.at (OwnG.low O1.out.1 (Nat.zero_le _))).below bA;have hnew:Za1 wr a2 n2:=O1.out.1.newRow (Nat.le_refl _)
   have G:Hid (Below wr.heap.size wr wA/\BAt wA (.slice a2 n2 c2) fb/\Za1 wr a2 n2/\Box wA w1.heap.size 228 (.int .i64 fk) (.slice a2 n2 c2)):=⟨B1,hva,hnew,bxA⟩
   clear hop O1 bA bxA B1 hva hnew;by_cases he:fe=0
   ·subst he
    have hbl:fb.length<=8192:=by
     have:=ZcH EF.out.2.2;rw [EF.out.1] at this;exact this
    obtain ⟨g,hg⟩:∃ g,st.fits (fk,fb)=g:=⟨_,rfl⟩
    have hfi:=ZjC (I.out.at_.below G.out.1) G.out.2.1 N2.out (by have:=N2.out; omega) fk g hg
    have HG:Hid (st.fits (fk,fb)=g/\fb.length<=8192):=⟨hg,hbl⟩
    clear hg hbl
    cases g with
    | false =>
     have hst:=I.out.rd.stop (by rw [EF.out.1]; rw [HG.out.1]; simp);go_wp2_with fail;refine hfi.mono ?_;rintro e w2 ⟨rfl,B2⟩;have B3:Hid (Below wr.heap.size wr w2):=G.out.1.trans (B2.mono G.out.1.size);have HS:Hid (sread s0 file=(st,d)):=hst;clear B2 hfi hst;go_wp2;go_ret;refine ⟨d,rfl,?_⟩;rw [HS.out];have t2:Zaa S w w2:=I.out.tu.trans (Zaa.ofBelow (S:=S) B3.out) (λ _ _ q=>q);refine ⟨rfl,(I.out.at_.below B3.out).mono (λ i q=>q.elim .inl (λ q=>.inr ⟨q.1,Nat.lt_of_lt_of_le q.2 B3.out.size⟩)) (λ i q=>?_),t2,I.out.fl.below B3.out⟩
     rcases q with q | q
     ·exact Nat.lt_of_lt_of_le (I.out.at_.lt i (.inl q)) B3.out.size
     ·exact q.2
    | true =>
     have hst:=I.out.rd.step (by rw [H.out.1]; exact hdn) EF.out.2.2 (by rw [EF.out.1]; exact HG.out.1) (by rw [EF.out.1]; exact HG.out.2);have hf9:=Zbh EF.out.2.2;rw [EF.out.1,EF.out.2.1,List.length_drop,H.out.1] at hf9;rw [EF.out.1,EF.out.2.1] at hst;have l1:fs<=fn - d:=hf9.2.1;have l9:9<=fs:=hf9.1;have HS:Hid (Za5 s0 file (st.take (fk,fb)) (d+fs)):=hst;clear hst hf9;go_wp2_with fail;refine hfi.mono ?_;rintro e w2 ⟨rfl,B2⟩
     have B3:Hid (Below wr.heap.size wr w2/\Below wA.heap.size wA w2):=⟨G.out.1.trans (B2.mono G.out.1.size),B2⟩
     obtain ⟨y0,y1⟩:=(G.out.2.2.2.below B2).cells;have szs:=I.out.rd.size
     have hke:=ZkN (S':=Zaj S w w2) (I.out.at_.below B3.out.1) (λ i q=>q.elim .inl (λ q=>.inr ⟨q.1,Nat.lt_of_lt_of_le q.2 B3.out.1.size⟩))
      (λ i q=>q.elim (λ q=>Nat.lt_of_lt_of_le (I.out.at_.lt i (.inl q)) B3.out.1.size) (λ q=>q.2)) I.out.rd.ok (by omega) fk (G.out.2.1.below B2) N2.out (by have:=N2.out; have:=HG.out.2; omega)
      (λ p m c3 e h0=>by
       simp only [Value.slice.injEq] at e;obtain ⟨e1,e2,_⟩:=e;have h1:=G.out.2.2.1 (by omega) p e1;have h2:=(G.out.2.1.below B2).blk p.block ⟨by omega,p,e1,rfl⟩
       exact .inr ⟨Nat.le_trans I.out.tu.size h1,h2⟩) HG.out.1
     clear B2 hfi szs;go_wp2_with fail;refine hke.mono ?_;rintro e w3 ⟨rfl,S3,T3⟩
     have I3:Hid (RdI w s b S fa fn fc file s0 w3 (st.take (fk,fb)) (d+fs)):=by
      refine ⟨S3.mono (λ i q=>q.elim .inl (λ q=>.inr ⟨q.1,Nat.lt_of_lt_of_le q.2 T3.size⟩)) (λ i q=>q.elim (λ q=>S3.lt i (.inl q)) (λ q=>q.2)),?_,HS.out,?_⟩
      ·refine (I.out.tu.trans (Zaa.ofBelow (S:=S) B3.out.1) (λ _ _ q=>q)).trans T3 (λ i hi q=>q.elim (λ q=>q) (λ q=>by omega))
      ·refine (I.out.fl.below B3.out.1).turned T3 (λ h0 p hp q=>?_)
       rcases q with q | q
       ·exact H.out.2.1 _ ⟨h0,p,hp,rfl⟩ q
       ·have:=H.out.2.2 _ ⟨h0,p,hp,rfl⟩;omega
     clear S3 T3 hke y0 y1 x0 x1;go_wp2;go_roundg (fn - (d+fs))
     case measure=>omega
     case rel=>exact ⟨d+fs,by go_num,by omega,_,I3⟩
   ·have m0:(fe != 0)=true:=by simpa using he
    have hst:=I.out.rd.stop (λ q=>he (EF.out.2.2.symm.trans q.1));have HS:Hid (sread s0 file=(st,d)):=hst;clear hst;go_wp2;go_ret;refine ⟨d,rfl,?_⟩;rw [HS.out];have B3:=G.out.1;have t2:Zaa S w wA:=I.out.tu.trans (Zaa.ofBelow (S:=S) B3) (λ _ _ q=>q);refine ⟨rfl,(I.out.at_.below B3).mono (λ i q=>q.elim .inl (λ q=>.inr ⟨q.1,Nat.lt_of_lt_of_le q.2 B3.size⟩)) (λ i q=>?_),t2,I.out.fl.below B3⟩
    rcases q with q | q
    ·exact Nat.lt_of_lt_of_le (I.out.at_.lt i (.inl q)) B3.size
    ·exact q.2
  ·have hst:=I.out.rd.done (by rw [H.out.1]; exact hdn);have HS:Hid (sread s0 file=(st,d)):=hst
   have t:decide ((d:Int)<(fn:Int))=false:=by rw [decide_eq_false_iff_not]; omega
   clear hst;go_wp2;go_ret;refine ⟨d,rfl,?_⟩;rw [HS.out];exact ⟨rfl,I.out.at_,I.out.tu,I.out.fl⟩
theorem Zaq.zero {w:World} {s b:Nat} {M:Nat->Nat} {r t:Nat} {S:Nat->Prop} (hc:w.heap[s]? = some (.cells #[.pointer (some ⟨b,0,none⟩),.map (some (M 0)),.map (some (M 1)),.map (some (M 2)),.map (some (M 3)),.map (some r),.map (some t)] 176 (0,0)))
  (hm:∀ k,k<4->w.heap[M k]? = some (.map #[] 0)) (hr:w.heap[r]? = some (.map #[] 0)) (ht:w.heap[t]? = some (.map #[] 0)) (hi:∀ j k,j<4->k<4->M j=M k->j=k) (ha:(∀ k,k<4->M k≠r/\M k≠t)/\r≠t) (ho:S s/\S r/\S t/\∀ k,k<4->S (M k)) (hl:∀ i,S i->i<w.heap.size) :
  Zaq w s b M r t (λ _ _=>none) st0 S where
 cells:=hc
 objs:=λ k hk=>⟨0,Nat.zero_le _,MapG.new (hm k hk)⟩
 refs:=MapG.new hr
 tags:=MapG.new ht
 gone:=λ _ _ _ _=>rfl
 there:=λ k hk i bs h=>by simp [st0,oget] at h
 inj:=hi
 apart:=ha
 own:=ho
 lt:=hl
end
def mm (B k j:Nat):Value:=if j<k then .map (some (B+3+j)) else .map none
structure OpI (w:World) (b k:Nat) (wr:World):Prop where
 sz:wr.heap.size=w.heap.size+3+k
 cells:wr.heap[w.heap.size+2]? = some (.cells #[.pointer (some ⟨b,0,none⟩),mm w.heap.size k 0,mm w.heap.size k 1,mm w.heap.size k 2,mm w.heap.size k 3,.map (some w.heap.size),.map (some (w.heap.size+1))] 176 (0,0))
 maps:∀ j,j<k->wr.heap[w.heap.size+3+j]? = some (.map #[] 0)
 r:wr.heap[w.heap.size]? = some (.map #[] 0)
 t:wr.heap[w.heap.size+1]? = some (.map #[] 0)
 bel:Below w.heap.size w wr
theorem OpI.cell {w wr:World} {b k:Nat} (h:OpI w b k wr) (j:Nat) (hj:j<4):wr.cell? ⟨w.heap.size+2,1+j,none⟩=some (mm w.heap.size k j)/\wr.frozen? ⟨w.heap.size+2,1+j,none⟩=false:=by
 have h4:j=0∨j=1∨j=2∨j=3:=by omega
 rcases h4 with rfl | rfl | rfl | rfl <;> simp [World.cell?,World.frozen?,h.cells]
theorem OpI.step {w wr:World} {b k:Nat} (h:OpI w b k wr) (hk:k<4):OpI w b (k+1) ((wr.setCell ⟨w.heap.size+2,1+k,none⟩ (.map (some (w.heap.size+3+k)))).alloc (.map #[] 0)):=by
 obtain ⟨W,hW⟩:∃ W,wr.setCell ⟨w.heap.size+2,1+k,none⟩ (.map (some (w.heap.size+3+k)))=W:=⟨_,rfl⟩
 have set:Zaa (λ i=>i=w.heap.size+2) wr W:=by rw [<- hW]; exact Zae _ _
 have szW:W.heap.size=w.heap.size+3+k:=by rw [<- hW]; simp [World.setCell,h.sz]
 have hc:=Zay h.cells (1+k) (.map (some (w.heap.size+3+k)));rw [hW] at hc ⊢;have hn:=heap_alloc_new W (.map #[] 0);rw [szW] at hn;have hsz:=h.sz
 have old:∀ i,i<w.heap.size+3+k->(W.alloc (.map #[] 0)).heap[i]? = W.heap[i]? := λ i hi=>(bz1 W (.map #[] 0)).block i (by rw [szW]; exact hi)
 have oth:∀ i,i<w.heap.size+3+k->i≠w.heap.size+2->W.heap[i]? = wr.heap[i]? := λ i hi hne=>set.block i (by omega) hne
 refine ⟨by simp [szW]; omega,?_,?_,?_,?_,?_⟩
 ·rw [old _ (by omega),hc]
  have h4:k=0∨k=1∨k=2∨k=3:=by omega
  rcases h4 with rfl | rfl | rfl | rfl <;> simp [mm]
 ·intro j hj;by_cases e:j=k
  ·rw [e]; exact hn
  ·rw [old _ (by omega),oth _ (by omega) (by omega)];exact h.maps j (by omega)
 ·rw [old _ (by omega),oth _ (by omega) (by omega)]; exact h.r
 ·rw [old _ (by omega),oth _ (by omega) (by omega)]; exact h.t
 ·exact h.bel.trans ((set.below (by omega) (λ i hi q=>by omega)).trans ((bz1 W _).mono (by omega)))
theorem OpI.start (w:World) (b:Nat):OpI w b 0 (((w.alloc (.map #[] 0)).alloc (.map #[] 0)).alloc (.cells #[.pointer (some ⟨b,0,none⟩),.map none,.map none,.map none,.map none,.map (some w.heap.size),.map (some (w.heap.size+1))] 176)):=by
 have e1:(w.alloc (.map #[] 0)).heap.size=w.heap.size+1:=by simp
 have e2:((w.alloc (.map #[] 0)).alloc (.map #[] 0)).heap.size=w.heap.size+2:=by simp
 have h1:=heap_alloc_new w (.map #[] 0);have h2:=heap_alloc_new (w.alloc (.map #[] 0)) (.map #[] 0);rw [e1] at h2;have h3:=heap_alloc_new ((w.alloc (.map #[] 0)).alloc (.map #[] 0)) (.cells #[.pointer (some ⟨b,0,none⟩),.map none,.map none,.map none,.map none,.map (some w.heap.size),.map (some (w.heap.size+1))] 176);rw [e2] at h3;refine ⟨by simp,?_,λ j hj=>by omega,?_,?_,bz3 _ _ _ _⟩
 ·rw [h3];simp [mm]
 ·rw [(bz1 _ _).block _ (by rw [e2]; omega),(bz1 _ _).block _ (by rw [e1]; omega)];exact h1
 ·rw [(bz1 _ _).block _ (by rw [e2]; omega)];exact h2
theorem OpI.store {w wr:World} {b:Nat} (h:OpI w b 4 wr):Zac wr (w.heap.size+2) b st0 (λ i=>w.heap.size<=i/\i<w.heap.size+7):=by
 refine ⟨λ k=>w.heap.size+3+k,w.heap.size,w.heap.size+1,_,Zaq.zero ?_ (λ k hk=>h.maps k hk) h.r h.t (λ j k _ _ e=>by omega) ⟨λ k _=>⟨by omega,by omega⟩,by omega⟩ ⟨by omega,by omega,by omega,λ k hk=>by omega⟩ (λ i hi=>by rw [h.sz]; omega)⟩;rw [h.cells];simp [mm]
section
variable {w:World} {b:Nat} {d:Dk} {T:Nat->Prop}
def Left (w w':World) (b:Nat) (d':Dk) (T:Nat->Prop) (T':Nat->Prop):Prop:=Zao w' b d' T'/\(∀ i,T' i->T i∨w.heap.size<=i)/\Zaa T w w'
theorem Zd7 (hT:Zao w b d T) (hok:d.ok) (hw:d.writes<=1000000) :
  Calls Tryz.prog 35 #[.pointer (some ⟨b,0,none⟩)] w λ e w'=>∃ T',Hid (Left w w' b (sopen d).2.1 T T') /\
   ((Hid ((sopen d).2.2=0)/\∃ s,e=.returned (.tuple #[.pointer (some ⟨s,0,none⟩),.int .i64 0])/\Hid (∃ S,Zac w' s b (sopen d).1 S/\∀ i,S i->w.heap.size<=i/\¬ T' i)) ∨
    (∃ r,e=.returned (.tuple #[.pointer none,.int .i64 r])/\Hid ((sopen d).2.2=r/\r≠0))):=by
 obtain ⟨Z,hZ⟩:∃ Z,sopen d=Z:=⟨_,rfl⟩
 rw [hZ]
 have H:Hid (Zao w b d T/\d.ok/\d.writes<=1000000/\sopen d=Z):=⟨hT,hok,hw,hZ⟩
 have hTl:=hT.lt
 have hmk:=λ W=>run_makeMap (P:=Tryz.prog) 174 W
 have hmk2:=λ W=>run_makeMap (P:=Tryz.prog) 172 W
 obtain ⟨W,hW⟩:∃ W,((w.alloc (.map #[] 0)).alloc (.map #[] 0)).alloc (.cells #[.pointer (some ⟨b,0,none⟩),.map none,.map none,.map none,.map none,.map (some w.heap.size),.map (some (w.heap.size+1))] 176)=W:=⟨_,rfl⟩
 have I0:Hid (OpI w b 0 W):=by rw [<- hW]; exact OpI.start w b
 have HT:Hid (∀ i,T i->i<w.heap.size):=hTl;clear hT hok hw hZ hTl;go_enter Tryz.func35,Tryz.ntmps35;go_wp2_with fail;go_loopg [15] 4 (λ m iv wr=>∃ k:Nat,iv=.int .i64 (k:Int)/\k+m=4/\Hid (OpI w b k wr))
 case atStart=>exact ⟨0,rfl,by omega,I0⟩
 case round =>
  obtain ⟨k,rfl,hk,I⟩:=hrel;by_cases hk4:k<4
  ·have sz:=I.out.sz;have st:=I.out.step hk4;have hc:=I.out.cell k hk4
   have h4:k=0∨k=1∨k=2∨k=3:=by omega
   rcases h4 with rfl | rfl | rfl | rfl
   all_goals
    obtain ⟨c1,f1⟩:=hc;simp only [mm,Nat.lt_irrefl,if_false] at c1;simp only [Nat.add_zero,Nat.reduceAdd] at c1 f1 st sz;have ST:Hid _:=st;clear st hk4;go_wp2;go_roundg (gk - 1)
    case measure=>omega
    case rel=>first | exact ⟨1,rfl,by omega,ST⟩ | exact ⟨2,rfl,by omega,ST⟩ | exact ⟨3,rfl,by omega,ST⟩ | exact ⟨4,rfl,by omega,ST⟩
  ·obtain rfl:k=4:=by omega
   have t4:decide ((4:Int)<4)=false:=by decide
   have hDs:=H.out.1.below I.out.bel;have hrd:=ZgV hDs fileN (by decide) (λ bs hb=>H.out.2.1.get hb)
   obtain ⟨fl,hfl⟩:∃ fl,(fget d.files fileN).getD []=fl:=⟨_,rfl⟩
   have hlen:fl.length<=262144:=by
    rw [<- hfl]
    cases e:fget d.files fileN with
    | none=>simp
    | some bs=>exact H.out.2.1.get e
   rw [hfl] at hrd
   obtain ⟨g0,hg0⟩:∃ g0,(fget d.files fileN).isSome=g0:=⟨_,rfl⟩
   rw [hg0] at hrd
   have HF:Hid ((fget d.files fileN).getD []=fl/\fl.length<=262144):=⟨hfl,hlen⟩
   clear hDs hfl hlen hg0;go_wp2_with fail;refine hrd.mono ?_;rintro e w5 ⟨v5,rfl,O5,B5⟩
   obtain ⟨a5,c5,n5,hv5,N5⟩:∃ a5 c5 n5,v5=.slice a5 n5 c5/\Hid (fl.length=n5):=by
    obtain ⟨a2,c2,e,_⟩:=OwnG.form O5;exact ⟨a2,c2,_,e,rfl⟩
   subst hv5;have szr:=I.out.sz;have hva:BAt w5 (.slice a5 n5 c5) fl:=OwnB.at (OwnG.low O5 (Nat.zero_le _));have hnew:Za1 wr a5 n5:=O5.newRow (Nat.le_refl _)
   have hre:=ZlS (I.out.store.below B5) St.ok0 rfl hva N5.out (by have:=N5.out; have:=HF.out.2; omega) (λ i q r=>by
    obtain ⟨h0,p,hp,rfl⟩:=q;have:=hnew h0 p hp
    omega)
   obtain ⟨stR,hstR⟩:∃ stR,(sread st0 fl).1=stR:=⟨_,rfl⟩
   obtain ⟨gR,hgR⟩:∃ gR,(sread st0 fl).2=gR:=⟨_,rfl⟩
   rw [hstR,hgR] at hre
   have HR:Hid ((sread st0 fl).1=stR/\(sread st0 fl).2=gR/\gR<=fl.length):=⟨hstR,hgR,by rw [<- hgR]; exact (ZeR fl St.ok0 rfl).2.2⟩
   have HB5:Hid (Below wr.heap.size wr w5):=B5;clear hva hnew hstR hgR O5 B5 hrd szr;go_wp2_with fail;refine hre.mono ?_;rintro e w6 ⟨g6,rfl,R6⟩;have eg:g6=gR:=R6.out.1;subst eg;clear hre;have szr:=I.out.sz;have bel5:Below w.heap.size w w5:=I.out.bel.trans (HB5.out.mono I.out.bel.size);have D6:Zao w6 b d T:=(H.out.1.below bel5).stays R6.out.2.2.1 (λ i hi q=>by have:=HT.out i hi; omega)
   have t6:Zaa T w w6:=by
    have:Below w.heap.size w5 w6:=R6.out.2.2.1.below bel5.size (λ k hk q=>by omega);exact Zaa.ofBelow (S:=T) (bel5.trans this)
   have s6:∀ i,Zaj (λ i=>w.heap.size<=i/\i<w.heap.size+7) w5 w6 i->w.heap.size<=i:=λ i q=>q.elim (λ q=>q.1) (λ q=>Nat.le_trans bel5.size q.1)
   have G6:Hid (Zao w6 b d T/\Zaa T w w6/\Zac w6 (w.heap.size+2) b stR (Zaj (λ i=>w.heap.size<=i/\i<w.heap.size+7) w5 w6)/\∀ i,Zaj (λ i=>w.heap.size<=i/\i<w.heap.size+7) w5 w6 i->w.heap.size<=i):=⟨D6,t6,R6.out.2.1,s6⟩
   clear szr bel5 D6 t6 s6 R6;by_cases hlt:g6<n5
   ·have tl:(g6:Int)<(n5:Int):=by omega
    have htr:=ZmH G6.out.1 H.out.2.1 (by have:=H.out.2.2.1; omega) fileN (by decide) (g6:Int)
    obtain ⟨d7,hd7⟩:∃ d7,(dtrim d fileN (g6:Int)).1=d7:=⟨_,rfl⟩
    obtain ⟨cd,hcd⟩:∃ cd,(dtrim d fileN (g6:Int)).2=cd:=⟨_,rfl⟩
    rw [hd7,hcd] at htr
    have ez:Z=(if cd=0 then stR else st0,d7,cd):=by
     rw [<- H.out.2.2.2];unfold sopen ofile;rw [HF.out.1,HR.out.2.1,if_pos (by rw [N5.out]; exact hlt),hd7,hcd,HR.out.1]
    have EZ:Hid (Z=(if cd=0 then stR else st0,d7,cd)):=ez;clear hd7 hcd ez hlt;go_wp2_with fail;refine htr.mono ?_;rintro e w7 ⟨r7,rfl,hr7,D7,T7⟩;have er:r7=cd:=hr7.out;subst er
    have LL:Hid (Left w w7 b d7 T (Zaj T w6 w7)):=⟨D7,λ i q=>q.elim .inl (λ q=>.inr (Nat.le_trans G6.out.2.1.size q.1)),G6.out.2.1.trans T7 (λ _ _ q=>q)⟩
    have SS:Hid (Zac w7 (w.heap.size+2) b stR (Zaj (λ i=>w.heap.size<=i/\i<w.heap.size+7) w5 w6)/\∀ i,Zaj (λ i=>w.heap.size<=i/\i<w.heap.size+7) w5 w6 i->w.heap.size<=i/\¬ (Zaj T w6 w7) i):=by
     refine ⟨G6.out.2.2.1.stays T7 (λ i hi q=>?_),λ i hi=>⟨G6.out.2.2.2 i hi,λ q=>?_⟩⟩
     ·have:=G6.out.2.2.2 i hi;have:=HT.out i q;omega
     ·rcases q with q | q
      ·have:=G6.out.2.2.2 i hi;have:=HT.out i q;omega
      ·have:=G6.out.2.2.1.lt i hi;omega
    clear hr7 D7 T7 htr;by_cases hz:r7=0
    ·subst hz;go_wp2;refine bodyPost_ret (results_tmp2 rfl _ _ _) rfl ?_;rw [EZ.out];exact ⟨_,LL,.inl ⟨rfl,_,rfl,_,SS.out⟩⟩
    ·have m0:(r7 != 0)=true:=by simpa using hz
     go_wp2;refine bodyPost_ret (results_tmp2 rfl _ _ _) rfl ?_;rw [EZ.out];exact ⟨_,LL,.inr ⟨_,rfl,rfl,hz⟩⟩
   ·have tl:decide ((g6:Int)<(n5:Int))=false:=by rw [decide_eq_false_iff_not]; omega
    have ez:Z=(stR,d,0):=by
     rw [<- H.out.2.2.2];unfold sopen ofile;rw [HF.out.1,HR.out.2.1,if_neg (by rw [N5.out]; exact hlt),HR.out.1]
    have EZ:Hid (Z=(stR,d,0)):=ez;clear ez
    have tl2:¬ (g6:Int)<(n5:Int):=by omega
    go_wp2;refine bodyPost_ret (results_tmp2 rfl _ _ _) rfl ?_;rw [EZ.out];refine ⟨T,⟨G6.out.1,λ i q=>.inl q,G6.out.2.1⟩,.inl ⟨rfl,_,rfl,_,G6.out.2.2.1,λ i hi=>⟨G6.out.2.2.2 i hi,λ q=>?_⟩⟩⟩;have:=G6.out.2.2.2 i hi;have:=HT.out i q;omega
end
abbrev wdC (vd vs vf:Value) (wr:Int) (ar de:Bool) (af ke:Int) (vo vr vt bv tv cv:Value):Array Value:=#[vd,vs,vf,.int .i64 wr,.bool ar,.bool de,.int .i64 af,.int .i64 ke,vo,vr,vt,bv,tv,cv]
def anode (data:Bs) (qs:List Int) (dt:Int) (tids cids:List UInt64):Cm:=⟨pickU tids (pickI qs 0),qs.tail.map (pickU cids),dt,data⟩
theorem ZkK {qs:List Int} {cids:List UInt64} {i:Nat} {x:Int} (h1:1<=i) (hx:qs[i]? = some x):(qs.tail.take i).map (pickU cids)=(qs.tail.take (i - 1)).map (pickU cids)++[pickU cids x]:=by
 obtain ⟨j,rfl⟩:∃ j,i=j+1:=⟨i - 1,by omega⟩
 have e:qs.tail[j]? = some x:=by rw [List.getElem?_tail]; exact hx
 rw [Nat.add_sub_cancel,List.take_add_one,e,List.map_append]
 rfl
theorem Zko {w:World} {da qa ta ca:Option Addr} {dn dc qn qc tn tc cn cc:Nat} {data:Bs} {qs:List Int} {tids cids:List UInt64} (k:Int) (pv:Value) (nm:ByteArray) (dt kp:Int)
  (vd vs vf:Value) (xw:Int) (xa xd:Bool) (xf xk:Int) (vo vr vt bv:Value)
  (hd:BAt w (.slice da dn dc) data) (nt:ByteArray) (hnt:nt=⟨data.toArray⟩) (hq:RdG encI w qa qs) (hql:qs.length=qn) (hqn:qn*8<=140737488355328) (ht:RdG encU w ta tids) (htl:tids.length=tn) (htn:tn<=4000000000000000000) (hc:RdG encU w ca cids) (hcl:cids.length=cn) (hcn:cn<=4000000000000000000) (tr:Int) (htr:((anode data qs dt tids cids).tree.toNat:Int)=tr) (N:Nat) (hN:(anode data qs dt tids cids).ps.length=N) :
  Calls Tryz.prog 41 #[actV k (.slice da dn dc) pv (.slice qa qn qc) nm dt kp,.agg (wdC vd vs vf xw xa xd xf xk vo vr vt bv (.slice ta tn tc) (.slice ca cn cc))] w λ e w'=>∃ ua uc,e=.returned (.agg #[.int .u64 tr,.slice ua N uc,.int .i64 dt,.string nt])/\Hid (OwnG encU 53 w' (w.heap.size+4) (.slice ua N uc) (anode data qs dt tids cids).ps/\Below w.heap.size w w'):=by
 obtain ⟨y,hy⟩:∃ y,pickI qs 0=y:=⟨_,rfl⟩
 obtain ⟨W,hW⟩:∃ W,((w.alloc (.cells (actC k (.slice da dn dc) pv (.slice qa qn qc) nm dt kp) 43)).alloc (.cells (wdC vd vs vf xw xa xd xf xk vo vr vt bv (.slice ta tn tc) (.slice ca cn cc)) 35)).alloc (.cells #[.int .u64 0,.slice none 0 0,.int .i64 0,.string ⟨#[]⟩] 67)=W:=⟨_,rfl⟩
 have bW:Below w.heap.size w W:=by rw [<- hW]; exact bz3 _ _ _ _
 have NB:Hid (BoxA W w.heap.size 43 (actC k (.slice da dn dc) pv (.slice qa qn qc) nm dt kp)/\BoxA W (w.heap.size+1) 35 (wdC vd vs vf xw xa xd xf xk vo vr vt bv (.slice ta tn tc) (.slice ca cn cc))/\BoxA W (w.heap.size+2) 67 #[.int .u64 0,.slice none 0 0,.int .i64 0,.string ⟨#[]⟩]/\Below w.heap.size w W):=by
  rw [<- hW];exact ZbE _ _ _ _ _ _ _
 have HB0:Hid (Below W.heap.size W W.drew):=(Below.refl _ _).drew;have HB1:Hid (Below W.heap.size W (W.alloc (.cells #[.int .u64 0,.slice none 0 0,.int .i64 0,.string ⟨#[]⟩] 67)).drew):=(bz1 W _).drew;have HB2:Hid (Below W.heap.size W (W.alloc (.cells #[.int .u64 tr,.slice none 0 0,.int .i64 dt,.string nt] 67)).drew):=(bz1 W _).drew
 have bWu:∀ u,Below W.heap.size W u->Below w.heap.size w u:=λ u b=>bW.trans (b.mono bW.size)
 have KS:Hid (∀ u,Below W.heap.size W u->u.cell? ⟨w.heap.size,1,none⟩=some (.slice da dn dc)/\u.cell? ⟨w.heap.size,3,none⟩=some (.slice qa qn qc)/\u.cell? ⟨w.heap.size,5,none⟩=some (.int .i64 dt)/\u.cell? ⟨w.heap.size+1,12,none⟩=some (.slice ta tn tc)/\(convert 39 9 (.slice da dn dc)).run Tryz.prog u=.ok (.string nt) u):=by
  intro u b;have b1:=NB.out.1.below b NB.out.1.lt;have b2:=NB.out.2.1.below b NB.out.2.1.lt;refine ⟨b1.cell (j:=1) rfl,b1.cell (j:=3) rfl,b1.cell (j:=5) rfl,b2.cell (j:=12) rfl,?_⟩;rw [ZaY (hd.below (bWu u b)),hnt]
 have P1:Hid (∀ u,Below W.heap.size W u->Calls Tryz.prog 45 #[.slice qa qn qc,.int .i64 0] u λ e w'=>e=.returned (.int .i64 y)/\w'=u):=λ u bu=>Zcx (hq.below (bWu u bu)) hql (by omega) 0 y hy
 have P2:Hid (∀ u,Below W.heap.size W u->Calls Tryz.prog 17 #[.slice ta tn tc,.int .i64 y] u λ e w'=>e=.returned (.int .u64 tr)/\w'=u):=λ u bu=>ZbR (ht.below (bWu u bu)) htl htn y tr (by rw [<- htr,<- hy]; rfl)
 have H:Hid (RdG encI w qa qs/\qs.length=qn/\RdG encU w ca cids/\cids.length=cn/\(anode data qs dt tids cids).ps=qs.tail.map (pickU cids)):=⟨hq,hql,hc,hcl,rfl⟩
 clear hq hql hc hcl hd hy htr ht htl htn hnt bWu;go_enter Tryz.func41,Tryz.ntmps41
 go_upto_region 1 with fail
 have HW:Hid (((w.alloc (.cells (actC k (.slice da dn dc) pv (.slice qa qn qc) nm dt kp) 43)).alloc (.cells (wdC vd vs vf xw xa xd xf xk vo vr vt bv (.slice ta tn tc) (.slice ca cn cc)) 35)).alloc (.cells #[.int .u64 0,.slice none 0 0,.int .i64 0,.string ⟨#[]⟩] 67)=W):=hW;have n0:=NB.out.1.cell (j:=1) rfl;have n1:=NB.out.1.cell (j:=3) rfl;have n2:=NB.out.1.cell (j:=5) rfl;have n3:=NB.out.2.1.cell (j:=12) rfl;have l0:=NB.out.1.lt;have l1:=NB.out.2.1.lt;clear hW
 have HY:Hid (BoxA (W.alloc (.cells #[.int .u64 tr,.slice none 0 0,.int .i64 dt,.string nt] 67)).drew w.heap.size 43 (actC k (.slice da dn dc) pv (.slice qa qn qc) nm dt kp)/\BoxA (W.alloc (.cells #[.int .u64 tr,.slice none 0 0,.int .i64 dt,.string nt] 67)).drew (w.heap.size+1) 35 (wdC vd vs vf xw xa xd xf xk vo vr vt bv (.slice ta tn tc) (.slice ca cn cc))/\BoxA (W.alloc (.cells #[.int .u64 tr,.slice none 0 0,.int .i64 dt,.string nt] 67)).drew (w.heap.size+1+1) 67 #[.int .u64 0,.slice none 0 0,.int .i64 0,.string ⟨#[]⟩]/\BoxA (W.alloc (.cells #[.int .u64 tr,.slice none 0 0,.int .i64 dt,.string nt] 67)).drew W.heap.size 67 #[.int .u64 tr,.slice none 0 0,.int .i64 dt,.string nt]/\OwnG encU 53 (W.alloc (.cells #[.int .u64 tr,.slice none 0 0,.int .i64 dt,.string nt] 67)).drew (w.heap.size+4) (.slice none 0 0) []/\Below w.heap.size w (W.alloc (.cells #[.int .u64 tr,.slice none 0 0,.int .i64 dt,.string nt] 67)).drew):=by
  have bu:=HB2.out;exact ⟨NB.out.1.below bu NB.out.1.lt,NB.out.2.1.below bu NB.out.2.1.lt,NB.out.2.2.1.below bu NB.out.2.2.1.lt,BoxA.new W _ _,OwnG.nil _ _ _ _,NB.out.2.2.2.trans (bu.mono NB.out.2.2.2.size)⟩
 go_cut [5] (λ zv u=>zv=.pointer (some ⟨W.heap.size,0,none⟩)/\Hid (BoxA u w.heap.size 43 (actC k (.slice da dn dc) pv (.slice qa qn qc) nm dt kp)/\BoxA u (w.heap.size+1) 35 (wdC vd vs vf xw xa xd xf xk vo vr vt bv (.slice ta tn tc) (.slice ca cn cc))/\BoxA u (w.heap.size+1+1) 67 #[.int .u64 0,.slice none 0 0,.int .i64 0,.string ⟨#[]⟩]/\BoxA u W.heap.size 67 #[.int .u64 tr,.slice none 0 0,.int .i64 dt,.string nt]/\OwnG encU 53 u (w.heap.size+4) (.slice none 0 0) []/\Below w.heap.size w u))
 case first =>
  have kS0:W.drew.cell? ⟨w.heap.size,1,none⟩=some (.slice da dn dc)/\W.drew.cell? ⟨w.heap.size,3,none⟩=some (.slice qa qn qc)/\W.drew.cell? ⟨w.heap.size,5,none⟩=some (.int .i64 dt)/\W.drew.cell? ⟨w.heap.size+1,12,none⟩=some (.slice ta tn tc)/\(convert 39 9 (.slice da dn dc)).run Tryz.prog W.drew=.ok (.string nt) W.drew:=KS.out _ HB0.out;have kS1:(W.alloc (.cells #[.int .u64 0,.slice none 0 0,.int .i64 0,.string ⟨#[]⟩] 67)).drew.cell? ⟨w.heap.size,1,none⟩=some (.slice da dn dc)/\(W.alloc (.cells #[.int .u64 0,.slice none 0 0,.int .i64 0,.string ⟨#[]⟩] 67)).drew.cell? ⟨w.heap.size,3,none⟩=some (.slice qa qn qc)/\(W.alloc (.cells #[.int .u64 0,.slice none 0 0,.int .i64 0,.string ⟨#[]⟩] 67)).drew.cell? ⟨w.heap.size,5,none⟩=some (.int .i64 dt)/\(W.alloc (.cells #[.int .u64 0,.slice none 0 0,.int .i64 0,.string ⟨#[]⟩] 67)).drew.cell? ⟨w.heap.size+1,12,none⟩=some (.slice ta tn tc)/\(convert 39 9 (.slice da dn dc)).run Tryz.prog (W.alloc (.cells #[.int .u64 0,.slice none 0 0,.int .i64 0,.string ⟨#[]⟩] 67)).drew=.ok (.string nt) (W.alloc (.cells #[.int .u64 0,.slice none 0 0,.int .i64 0,.string ⟨#[]⟩] 67)).drew:=KS.out _ HB1.out;have kS2:(W.alloc (.cells #[.int .u64 tr,.slice none 0 0,.int .i64 dt,.string nt] 67)).drew.cell? ⟨w.heap.size,1,none⟩=some (.slice da dn dc)/\(W.alloc (.cells #[.int .u64 tr,.slice none 0 0,.int .i64 dt,.string nt] 67)).drew.cell? ⟨w.heap.size,3,none⟩=some (.slice qa qn qc)/\(W.alloc (.cells #[.int .u64 tr,.slice none 0 0,.int .i64 dt,.string nt] 67)).drew.cell? ⟨w.heap.size,5,none⟩=some (.int .i64 dt)/\(W.alloc (.cells #[.int .u64 tr,.slice none 0 0,.int .i64 dt,.string nt] 67)).drew.cell? ⟨w.heap.size+1,12,none⟩=some (.slice ta tn tc)/\(convert 39 9 (.slice da dn dc)).run Tryz.prog (W.alloc (.cells #[.int .u64 tr,.slice none 0 0,.int .i64 dt,.string nt] 67)).drew=.ok (.string nt) (W.alloc (.cells #[.int .u64 tr,.slice none 0 0,.int .i64 dt,.string nt] 67)).drew:=KS.out _ HB2.out
  go_region_held3 (λ u=>u.cell? ⟨w.heap.size,1,none⟩=some (.slice da dn dc)/\u.cell? ⟨w.heap.size,3,none⟩=some (.slice qa qn qc)/\u.cell? ⟨w.heap.size,5,none⟩=some (.int .i64 dt)/\u.cell? ⟨w.heap.size+1,12,none⟩=some (.slice ta tn tc)/\(convert 39 9 (.slice da dn dc)).run Tryz.prog u=.ok (.string nt) u)
   (first | with_reducible exact kS0 | with_reducible exact kS1 | with_reducible exact kS2)
   (first
    | (go_at_call 45; (with_reducible refine (P1.out _ HB0.out).mono ?_); rintro e w3 ⟨rfl,hw3⟩; rw [hw3]; clear hw3 w3)
    | (go_at_call 45; (with_reducible refine (P1.out _ HB1.out).mono ?_); rintro e w3 ⟨rfl,hw3⟩; rw [hw3]; clear hw3 w3)
    | (go_at_call 17; (with_reducible refine (P2.out _ HB0.out).mono ?_); rintro e w3 ⟨rfl,hw3⟩; rw [hw3]; clear hw3 w3)
    | (go_at_call 17; (with_reducible refine (P2.out _ HB1.out).mono ?_); rintro e w3 ⟨rfl,hw3⟩; rw [hw3]; clear hw3 w3))
  all_goals
   go_wp2_with fail;go_meet;exact ⟨rfl,HY.out⟩
 case rest =>
  obtain ⟨rfl,HX⟩:=hcut
  have EW:Hid (W.heap.size=w.heap.size+3):=by
   show W.heap.size=w.heap.size+3;rw [<- HW.out];simp
  clear n0 n1 n2 n3;go_wp2_with fail;go_loopg [6] (qn - 1) (λ m iv wr=>∃ (i j:Nat) (la:Option Addr) (lc:Nat),iv=.int .i64 i/\i=j+1/\j+m=qn - 1/\Hid (BoxA wr w.heap.size 43 (actC k (.slice da dn dc) pv (.slice qa qn qc) nm dt kp)/\BoxA wr (w.heap.size+1) 35 (wdC vd vs vf xw xa xd xf xk vo vr vt bv (.slice ta tn tc) (.slice ca cn cc))/\BoxA wr (w.heap.size+1+1) 67 #[.int .u64 0,.slice none 0 0,.int .i64 0,.string ⟨#[]⟩]/\BoxA wr W.heap.size 67 #[.int .u64 tr,.slice la j lc,.int .i64 dt,.string nt]/\OwnG encU 53 wr (w.heap.size+4) (.slice la j lc) ((qs.tail.take j).map (pickU cids))/\Below w.heap.size w wr))
  case atStart=>exact ⟨1,0,none,0,rfl,rfl,by omega,HX.out⟩
  case round =>
   obtain ⟨i,j,la,lc,rfl,hij,hi,HR⟩:=hrel;have x3:=HR.out.1.cell (j:=3) rfl;by_cases hin:i<qn
   ·have id:(i:Int)<(qn:Int):=by omega
    have id0:(0:Int)<=(i:Int):=by omega
    obtain ⟨x,hx⟩:=Zaf H.out.2.1 hin;obtain ⟨b,off,rfl,hlt⟩:=H.out.1.some_of hx;have c0:=(H.out.1.below HR.out.2.2.2.2.2).ints hx;have hbw:b<wr.heap.size:=Nat.lt_of_lt_of_le hlt HR.out.2.2.2.2.2.size;have y5:=HR.out.2.1.cell (j:=13) rfl;have z1:=HR.out.2.2.2.1.cell (j:=1) rfl;have hs3:=HR.out.2.2.2.1.lt
    have hs4:w.heap.size+4<=wr.heap.size:=by have:=EW.out; omega
    have HIJ:Hid (i=j+1/\j+gk=qn - 1):=⟨hij,hi⟩
    obtain ⟨z,hz⟩:∃ z,pickU cids x=z:=⟨_,rfl⟩
    obtain ⟨zi,hzi⟩:∃ zi:Int,(z.toNat:Int)=zi:=⟨_,rfl⟩
    have hts:=ZkK (cids:=cids) (i:=i) (by omega) hx;rw [show i - 1=j by omega,hz] at hts
    have hj:((qs.tail.take j).map (pickU cids)).length=j:=by
     rw [List.length_map,List.length_take,List.length_tail,H.out.2.1];omega
    have HS:Hid ((qs.tail.take i).map (pickU cids)=(qs.tail.take j).map (pickU cids)++[z]/\((qs.tail.take j).map (pickU cids)).length=j/\((qs.tail.take j).map (pickU cids)++[z]).length=i):=⟨hts,hj,by rw [List.length_append,hj,hij]; rfl⟩
    have P3:Hid (Calls Tryz.prog 17 #[.slice ca cn cc,.int .i64 x] wr.drew λ e w'=>e=.returned (.int .u64 zi)/\w'=wr.drew):=ZbR (H.out.2.2.1.below HR.out.2.2.2.2.2.drew) H.out.2.2.2.1 hcn x zi (by rw [hz,hzi])
    have HC:Hid (∀ j u,(encU.cells z)[j]? = some u->(wr.drew.alloc (.cells #[.int .u64 zi] 53)).cell? ((⟨wr.heap.size,0,none⟩:Addr).add j)=some u):=by
     have:=ZaC encU wr.drew z 53;rw [show (encU.cells z).toArray=#[Value.int .u64 zi] from (by show #[Value.int .u64 (z.toNat:Int)]=_; rw [hzi])] at this;exact this
    have x1':=(HR.out.2.2.2.1.below (bz1 wr (.cells #[.int .u64 zi] 53)) hs3).cell (j:=1) rfl
    have hjl:(j+1)*8<=140737488355328:=by omega
    clear hx hz hzi hts hj hlt hij hi;go_wp2_with fail
    go_region_law
     (first
      | (refine Zbi rfl (.tmp 29) (.tmp 34) 17 #[33,3] rfl Zbx (.slice ca cn cc) (.int .i64 x) (.int .u64 zi) (by simp [Act.eval]) (by simp [Act.eval]) P3.out ?_)
      | (refine Za8 encU 53 33 8 _ rfl Tryz.info53 Tryz.underlying33 rfl (.tmp 27) (.tmp 36) rfl (w.heap.size+4) (.slice la j lc) ((qs.tail.take j).map (pickU cids)) z (by simp [Act.eval]) (HR.out.2.2.2.2.1.below ((Below.refl _ wr).drew.trans (bz1 wr.drew _))) wr.heap.size (by simp [Act.eval]) HC.out (by rw [HS.out.2.1]; omega) (by rw [HS.out.2.1]; simp only [maxLen]; omega) (by simp; omega) ?_; intro v5 w5 ho5 hb5 hm5 ht5; obtain ⟨a5,c5,e5,_,_,_,_⟩:=OwnG.form ho5; rw [HS.out.2.2] at e5; subst e5; have J5:Hid (OwnG encU 53 w5 (w.heap.size+4) (.slice a5 i c5) ((qs.tail.take j).map (pickU cids)++[z])/\Below (w.heap.size+4) wr w5):=⟨ho5,((bz1 wr _).drew.mono (by omega)).trans hb5⟩; have Z5:=HR.out.2.2.2.1.below J5.out.2 (by have:=EW.out; omega); have z5:=Z5.cell (j:=1) rfl; have g5:=Z5.thaw 1; clear Z5 ho5 hb5 hm5 ht5)
      | fail)
    all_goals
     have HO:Hid (∀ S:World,S=w5.setCell ⟨W.heap.size,1,none⟩ (.slice a5 i c5)->BoxA S w.heap.size 43 (actC k (.slice da dn dc) pv (.slice (some ⟨b,off,none⟩) qn qc) nm dt kp)/\BoxA S (w.heap.size+1) 35 (wdC vd vs vf xw xa xd xf xk vo vr vt bv (.slice ta tn tc) (.slice ca cn cc))/\BoxA S (w.heap.size+1+1) 67 #[.int .u64 0,.slice none 0 0,.int .i64 0,.string ⟨#[]⟩]/\BoxA S W.heap.size 67 #[.int .u64 tr,.slice a5 i c5,.int .i64 dt,.string nt]/\OwnG encU 53 S (w.heap.size+4) (.slice a5 i c5) ((qs.tail.take i).map (pickU cids))/\Below w.heap.size w S):=by
      rintro S rfl;have eW:=EW.out;have ht:Zaa (λ k=>k=W.heap.size) w5 (w5.setCell ⟨W.heap.size,1,none⟩ (.slice a5 i c5)):=Zae 1 _;refine ⟨(HR.out.1.below J5.out.2 (by omega)).turned ht (by show ¬ w.heap.size=W.heap.size; omega),(HR.out.2.1.below J5.out.2 (by omega)).turned ht (by show ¬ w.heap.size+1=W.heap.size; omega),(HR.out.2.2.1.below J5.out.2 (by omega)).turned ht (by show ¬ w.heap.size+1+1=W.heap.size; omega),(HR.out.2.2.2.1.below J5.out.2 (by omega)).put 1 _,?_,?_⟩
      ·rw [HS.out.1];exact J5.out.1.stays ht (λ g hg q=>by have:=(J5.out.1.lt g hg).1; have q':g=W.heap.size:=q; omega)
      ·have b1:Below w.heap.size w w5:=HR.out.2.2.2.2.2.trans (J5.out.2.mono (by omega));exact b1.trans (ht.below b1.size (λ k hk q=>by have q':k=W.heap.size:=q; omega))
     go_wp2;go_roundg (gk - 1)
     case measure=>have:=HIJ.out; omega
     case rel=>exact ⟨i+1,i,a5,c5,by go_num,rfl,by have:=HIJ.out; omega,HO.out _ rfl⟩
   ·have ej:(qs.tail.take j).map (pickU cids)=(anode data qs dt tids cids).ps:=by
     rw [H.out.2.2.2.2,List.take_of_length_le (by rw [List.length_tail,H.out.2.1]; omega)]
    have eN:j=N:=by
     rw [<- hN,H.out.2.2.2.2,List.length_map,List.length_tail,H.out.2.1];omega
    subst eN
    have HH:Hid (OwnG encU 53 wr (w.heap.size+4) (.slice la j lc) (anode data qs dt tids cids).ps):=by
     have:=HR.out.2.2.2.2.1;rw [ej] at this;exact this
    have y0:=HR.out.2.2.2.1.cell (j:=0) rfl;have y1:=HR.out.2.2.2.1.cell (j:=1) rfl;have y2:=HR.out.2.2.2.1.cell (j:=2) rfl;have y3:=HR.out.2.2.2.1.cell (j:=3) rfl;have z0:=HR.out.2.2.1.cell (j:=0) rfl;have z1:=HR.out.2.2.1.cell (j:=1) rfl;have z2:=HR.out.2.2.1.cell (j:=2) rfl;have z3:=HR.out.2.2.1.cell (j:=3) rfl;have f0:=HR.out.2.2.1.thaw 0;have f1:=HR.out.2.2.1.thaw 1;have f2:=HR.out.2.2.1.thaw 2;have f3:=HR.out.2.2.1.thaw 3
    have id:¬ (i:Int)<(qn:Int):=by omega
    clear ej hN hij hi;go_wp2;refine bodyPost_ret (v:=.agg #[.int .u64 tr,.slice la j lc,.int .i64 dt,.string nt]) ?_ rfl ?_
    ·simp [results,Tryz.f41];go_simp
    ·have ht:=ZaI wr (w.heap.size+1+1) (.int .u64 tr) (.slice la j lc) (.int .i64 dt) (.string nt);have o:=HH.out.stays ht (λ g hg q=>by have:=(HH.out.lt g hg).1; have q':g=w.heap.size+1+1:=q; omega);exact ⟨la,lc,rfl,o,HR.out.2.2.2.2.2.trans (ht.below HR.out.2.2.2.2.2.size (λ k hk q=>by have q':k=w.heap.size+1+1:=q; omega))⟩
end Go.Proofs.YtmhcpbbiokpjjaaGreat
