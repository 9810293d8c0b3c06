/-
  Several texts, laid together.
-/
import Derived.Test.YtmhcpbbiokpjjaaGreatM18
set_option maxHeartbeats 6400000
set_option maxRecDepth 100000
namespace Go.Proofs.YtmhcpbbiokpjjaaGreat
open Go.RowKit

def encR:Enc Fr:=⟨λ f=>[.int .i64 f.1,tx f.2],2,λ _=>rfl,by decide,by intro x u h; simp at h; rcases h with rfl | rfl <;> rfl⟩
theorem ZnK:(Tryz.prog.info? 214).map (λ i=>(i.zero,i.size,i.bytes))=some (some (.agg #[.int .i64 0,.string ⟨#[]⟩]),2,24):=by kernel_rfl
theorem RdG.rframes {w:World} {b off:Nat} {fs:List Fr} (h:RdG encR w (some ⟨b,off,none⟩) fs) {i:Nat} {f:Fr} (hx:fs[i]? = some f):b<w.heap.size/\w.cell? ⟨b,off+i*2,none⟩=some (.int .i64 f.1)/\w.cell? ⟨b,off+i*2+1,none⟩=some (tx f.2):=by
 obtain ⟨b', off', e, hlt, hc⟩ := h (by rcases Nat.lt_or_ge i fs.length with q | q
                                        · omega
                                        · rw [List.getElem?_eq_none q] at hx; cases hx)
 obtain ⟨rfl,rfl⟩:b=b'/\off=off':=by simpa using e
 have h0:=hc i f hx 0 _ rfl;have h1:=hc i f hx 1 _ rfl;exact ⟨hlt,by simpa [encR] using h0,by simpa [encR,Nat.add_assoc] using h1⟩
theorem Zl5 (bs:Bs) (w:World) (s:ByteArray) (hs:s=⟨bs.toArray⟩) (fk:Int) (fb:Bs) (fn:Nat) (fe:Int) (h:fopen bs=((fk,fb),fn,fe)):Calls Tryz.prog 171 #[.string s] w λ e w'=>e=.returned (.tuple #[.agg #[.int .i64 fk,tx fb],.int .i64 (fn:Int),.int .i64 fe])/\Below w.heap.size w w':=by
 have:=ZjL bs w;rw [h,show tx bs=.string s by rw [hs]] at this;exact this
theorem Zho (bs:Bs) (w:World) (hn:bs.length<=1000000000000) :
  Calls Tryz.prog 112 #[tx bs] w λ e w'=>∃ lv,e=.returned (.tuple #[lv,.int .i64 ((fcut bs).2.1:Int),.int .i64 (fcut bs).2.2])/\Hid (OwnG encR 214 w' w.heap.size lv (fcut bs).1/\Below w.heap.size w w'):=by
 obtain ⟨s,hs⟩:∃ s:ByteArray,s=⟨bs.toArray⟩:=⟨_,rfl⟩
 obtain ⟨n,hz⟩:∃ n,s.size=n:=⟨_,rfl⟩
 have hl:bs.length=n:=by rw [<- hz,hs]; show _=bs.toArray.size; simp
 rw [show tx bs=.string s by rw [hs]]
 have H:Hid (bs.length=n/\s=⟨bs.toArray⟩):=⟨hl,hs⟩
 have hn':n<=1000000000000:=by omega
 clear hl hs hn;go_enter Tryz.func112,Tryz.ntmps112;go_wp2_with fail;go_loopg [5,6] n (λ m lv dv wr=>∃ (d:Nat) (fs:List Fr),dv=.int .i64 d/\d<=n/\m=n - d/\Hid (OwnG encR 214 wr w.heap.size lv fs/\Below w.heap.size w wr/\ZcU bs fs d))
 case atStart=>exact ⟨0,[],rfl,Nat.zero_le _,by omega,OwnG.nil _ _ _ _,Below.refl _ _,ZcU.start bs⟩
 case round =>
  obtain ⟨d,fs,rfl,hd,hm,HR⟩:=hrel;by_cases hdn:d<n
  ·have id:(d:Int)<(n:Int):=by omega
   have id2:(d:Int)<=(n:Int):=by omega
   have hd0:(0:Int)<=(d:Int):=by omega
   obtain ⟨fo,hfo⟩:∃ fo,fopen (bs.drop d)=fo:=⟨_,rfl⟩
   obtain ⟨⟨fk,fb⟩,fn,fe⟩:=fo
   obtain ⟨p,hp⟩:∃ p,s.extract d n=p:=⟨_,rfl⟩
   have ep:p=⟨(bs.drop d).toArray⟩:=by
    have:=ZaR bs d n;rw [<- H.out.2,hp] at this;have e2:(bs.drop d).take (n - d)=bs.drop d:=List.take_of_length_le (by rw [List.length_drop,H.out.1]; omega);rw [e2] at this;rw [<- this]
   have ho:=Zl5 (bs.drop d) wr p ep fk fb fn fe hfo;have HF:Hid (fopen (bs.drop d)=((fk,fb),fn,fe)):=hfo;clear hfo ep;go_wp2_with fail;refine ho.mono ?_;rintro e w2 ⟨rfl,B2⟩;clear ho;by_cases he:fe=0
   ·subst he;have hn2:=Zbh (b:=bs.drop d) (by rw [HF.out]);rw [HF.out,List.length_drop,H.out.1] at hn2;simp only at hn2;have fn1:fn<=n - d:=hn2.2.1;have fn9:9<=fn:=hn2.1
    obtain ⟨wA,hwA⟩:∃ wA,w2.alloc (.cells #[.int .i64 fk,tx fb] 214)=wA:=⟨_,rfl⟩
    have bA:Below wr.heap.size wr wA:=by rw [<- hwA]; exact B2.trans ((bz1 w2 _).mono B2.size)
    have bx:Box wA w2.heap.size 214 (.int .i64 fk) (tx fb):=by rw [<- hwA]; exact Box.new w2 _ _ _
    have JA:Hid (OwnG encR 214 wA w.heap.size u5 fs/\Below w.heap.size w wA/\ZcU bs fs d):=⟨HR.out.1.below bA,HR.out.2.1.trans (bA.mono HR.out.2.1.size),HR.out.2.2⟩
    obtain ⟨x0,x1⟩:=bx.cells;have hvl:9*fs.length<=d:=HR.out.2.2.2.1;clear bA bx B2 hn2;go_wp2_with (at_builtin; refine Zak encR 214 208 24 _ rfl ZnK Tryz.underlying208 rfl (.tmp 27) (.tmp 29) rfl w.heap.size _ fs (fk,fb) _ rfl JA.out.1 rfl (by omega) (by simp only [maxLen]; omega) JA.out.2.1.size _ rfl ?_; intro v4 w4 ho4 hb4 hm4 ht4)
    have J4:Hid (OwnG encR 214 w4 w.heap.size v4 (fs++[(fk,fb)])/\Below w.heap.size w w4/\ZcU bs (fs++[(fk,fb)]) (d+fn)):=by
     refine ⟨ho4,JA.out.2.1.trans hb4,?_⟩;have:=JA.out.2.2.step (by rw [H.out.1]; exact hdn) (by rw [HF.out]);rw [HF.out] at this;exact this
    clear ho4 hb4 hm4 ht4;go_wp2;go_roundg (n - (d+fn))
    case measure=>omega
    case rel=>exact ⟨d+fn,_,by go_num,by omega,rfl,J4⟩
   ·have m0:(fe != 0)=true:=by simpa using he
    have hst:=HR.out.2.2.stop (by rw [H.out.1]; exact hdn) (by rw [HF.out]; exact he);rw [HF.out] at hst;simp only at hst
    have HH:Hid (OwnG encR 214 (w2.alloc (.cells #[.int .i64 fk,tx fb] 214)) w.heap.size u5 fs/\Below w.heap.size w (w2.alloc (.cells #[.int .i64 fk,tx fb] 214))):=by
     have bA:Below wr.heap.size wr (w2.alloc (.cells #[.int .i64 fk,tx fb] 214)):=B2.trans ((bz1 w2 _).mono B2.size);exact ⟨HR.out.1.below bA,HR.out.2.1.trans (bA.mono HR.out.2.1.size)⟩
    clear B2;go_wp2;refine bodyPost_ret (v:=.tuple #[u5,.int .i64 (d:Int),.int .i64 fe]) ?_ rfl ?_
    ·simp [results,Tryz.f112]
    ·rw [hst];exact ⟨u5,rfl,HH.out⟩
  ·obtain rfl:d=n:=by omega
   have hdo:=HR.out.2.2.done (by rw [H.out.1]; omega);go_wp2;refine bodyPost_ret (v:=.tuple #[u5,.int .i64 (d:Int),.int .i64 0]) ?_ rfl ?_
   ·simp [results,Tryz.f112]
   ·rw [hdo];exact ⟨u5,rfl,HR.out.1,HR.out.2.1⟩
theorem ZbF {w:World} {a:Option Addr} {L c:Nat} {bs:Bs} (h:BAt w (.slice a L c) bs) (hl:bs.length=L) (h8:8<=L) :
  Calls Tryz.prog 225 #[.slice a L c] w λ e w'=>e=.returned (.tuple #[tx (labN bs),.int .u64 ((labI bs).toNat:Int)])/\w'=w:=by
 obtain ⟨h1,h2,h3⟩:L<=c/\c<=9223372036854775807/\RdG encB w a bs:=by
  obtain ⟨ao,c',e,h1,h2,h3⟩:=h;cases e;exact ⟨h1,h2,h3⟩
 clear h;obtain ⟨a1,c1,s1,q1,_,r1⟩:=Zcl (ao:=a) (k:=8) h1 h8;obtain ⟨a2,c2,s2,q2,q2',r2⟩:=ZbU (ao:=a) (k:=8) h1 h8;have e8:((8:Nat):Int)=8:=rfl;rw [e8] at s1 s2;have hcv:=ZaY (w:=w) (v:=.slice a2 (L - 8) c2) (bs:=bs.drop 8) ⟨a2,c2,by rw [List.length_drop,hl],by rw [List.length_drop,hl]; exact q2,by omega,r2 w bs hl h3⟩;have hv:(labI bs).toNat=val (bs.take 8):=Zbe (by rw [List.length_take]; omega)
 have H:Hid (RdG encB w a1 (bs.take 8)/\(bs.take 8).length=8):=⟨r1 w bs h3,by rw [List.length_take]; omega⟩
 rw [hv];unfold labN
 obtain ⟨tl,htl⟩:∃ tl,tx (bs.drop 8)=.string tl:=⟨_,rfl⟩
 rw [htl] at hcv ⊢
 obtain ⟨hd,hhd⟩:∃ hd,bs.take 8=hd:=⟨_,rfl⟩
 rw [hhd] at H ⊢;clear h1 h2 h3 r1 r2 hv hhd htl hl;go_enter Tryz.func225,Tryz.ntmps225;go_wp2_with fail;go_loopg [4,10] 8 (λ m vv iv wr=>wr=w/\∃ (i v:Nat),iv=.int .i64 i/\i+m=8/\vv=.int .u64 (v:Int)/\Hid (val (hd.take i)=v))
 case atStart=>exact ⟨rfl,0,0,rfl,by omega,rfl,rfl⟩
 case round =>
  obtain ⟨hwr,i,v,rfl,hi,rfl,HR⟩:=hrel;subst hwr;by_cases hin:i<8
  ·have id:(i:Int)<8:=by omega
   obtain ⟨b,off,rfl,hlt,hc⟩:=H.out.1 (by rw [H.out.2]; omega)
   have hil:i<hd.length:=by rw [H.out.2]; exact hin
   obtain ⟨y,hy⟩:∃ y,hd[i]=y:=⟨_,rfl⟩
   have cy:wr.cell? ⟨b,off+i,none⟩=some (.int .u8 (y.toNat:Int)):=by
    have:=hc i y (by rw [List.getElem?_eq_getElem hil,hy]) 0 _ rfl;rw [show i*encB.size+0=i from (by show i*1+0=i; omega)] at this;exact this
   have hvt:=ZeY hd i hil;have hlt2:=Zf8 (hd.take i);rw [HR.out] at hvt hlt2;rw [hy] at hvt
   have hv2:v<72057594037927936:=by
    have:(hd.take i).length<=7:=by rw [List.length_take]; omega
    have:=Nat.pow_le_pow_right (n:=256) (by decide) this
    have e:256 ^ 7=72057594037927936:=by decide
    omega
   have hor:=Zjv y hv2;have HV:Hid (val (hd.take (i+1))=v*256+y.toNat):=hvt;clear hvt hlt2 hil hc hy;go_wp2;go_roundg (gk - 1)
   case measure=>omega
   case rel=>exact ⟨rfl,i+1,v*256+y.toNat,by go_num,by omega,by go_num,HV.out⟩
  ·obtain rfl:i=8:=by omega
   have e:hd.take 8=hd:=List.take_of_length_le (by rw [H.out.2]; omega)
   have HH:Hid (val hd=v):=by rw [<- e]; exact HR.out
   clear e;go_wp2;refine bodyPost_ret (results_tmp2 rfl _ _ _) rfl ?_;exact ⟨by rw [HH.out]; rfl,rfl⟩
theorem ZiV {w W wr w5:World} {n:Nat} {nm:Bs} {v5:Value} (hx:Box W w.heap.size 228 (.int .i64 0) (.slice none 0 0)) (hr:Below (w.heap.size+1) W wr) (ho:OwnG encB 5 w5 (w.heap.size+1) v5 (low (8 - 0) (n / 256 ^ 0)++nm)) (hb:Below (w.heap.size+1) wr w5) :
  ∃ a5 c5 n5,v5=.slice a5 n5 c5/\Hid (n5=8+nm.length)/\Hid (OwnG encB 5 w5 (w.heap.size+1) v5 (low 8 n++nm)/\Below (w.heap.size+1) W w5)/\w5.cell? ⟨w.heap.size,0,none⟩=some (.int .i64 0)/\w5.cell? ⟨w.heap.size,1,none⟩=some (.slice none 0 0)/\w5.frozen? ⟨w.heap.size,0,none⟩=false/\w5.frozen? ⟨w.heap.size,1,none⟩=false/\w.heap.size<w5.heap.size:=by
 have ho':OwnG encB 5 w5 (w.heap.size+1) v5 (low 8 n++nm):=by simpa using ho
 have b5:Box w5 w.heap.size 228 (.int .i64 0) (.slice none 0 0):=((hr.trans hb).block _ (by omega)).trans hx;obtain ⟨a5,c5,e,h1,_⟩:=OwnG.form ho';obtain ⟨x0,x1⟩:=b5.cells;obtain ⟨f0,f1⟩:=b5.thaw;exact ⟨a5,c5,_,e,(by show _=_; rw [List.length_append,Zav]),⟨ho',hr.trans hb⟩,x0,x1,f0,f1,b5.lt⟩
theorem ZdT (k:Int) (nm:Bs) (hnm:nm.length<=1000000) (i:UInt64) (w:World) :
  Calls Tryz.prog 124 #[.int .i64 k,tx nm,.int .u64 (i.toNat:Int)] w λ e w'=>∃ a c,e=.returned (.agg #[.int .i64 k,.slice a (8+nm.length) c])/\Hid (BAt w' (.slice a (8+nm.length) c) (labB i nm)/\(∀ j,Blk a (8+nm.length) j->w.heap.size<=j)/\Below w.heap.size w w'):=by
 obtain ⟨n,hn⟩:∃ n,i.toNat=n:=⟨_,rfl⟩
 have eb:labB i nm=low 8 n++nm:=by unfold labB b8; rw [hn]
 rw [hn,eb]
 obtain ⟨W,hW⟩:∃ W,w.alloc (.cells #[.int .i64 0,.slice none 0 0] 228)=W:=⟨_,rfl⟩
 have bW:Below w.heap.size w W:=by rw [<- hW]; exact bz1 _ _
 have bx:Box W w.heap.size 228 (.int .i64 0) (.slice none 0 0):=by rw [<- hW]; exact Box.new _ _ _ _
 have sW:W.heap.size=w.heap.size+1:=by rw [<- hW]; simp
 obtain ⟨s,hs⟩:∃ s:ByteArray,s=⟨nm.toArray⟩:=⟨_,rfl⟩
 rw [show tx nm=.string s by rw [hs]]
 have H:Hid (Below w.heap.size w W/\Box W w.heap.size 228 (.int .i64 0) (.slice none 0 0)/\s=⟨nm.toArray⟩/\nm.length<=1000000/\W.heap.size=w.heap.size+1):=⟨bW,bx,hs,hnm,sW⟩
 clear bW bx hs hnm eb hn sW;go_enter Tryz.func124,Tryz.ntmps124;go_wp2_with fail;go_loopg [7,8] 8 (λ m bv iv wr=>iv=.int .i64 (8*(m:Int) - 8)/\m<=8/\Hid (OwnG encB 5 wr (w.heap.size+1) bv (low (8 - m) (n / 256 ^ m))/\Below (w.heap.size+1) W wr))
 case atStart=>exact ⟨rfl,Nat.le_refl _,by simpa [low] using OwnG.nil encB 5 W (w.heap.size+1),Below.refl _ _⟩
 case round =>
  obtain ⟨rfl,hm,HR⟩:=hrel
  cases gk with
  | zero =>
   have hll:(low (8 - 0) (n / 256 ^ 0)).length<=8:=by rw [Zav]; omega
   go_wp2_with (at_builtin; refine appS rfl (.tmp 21) (.tmp 22) rfl (w.heap.size+1) _ _ nm rfl HR.out.1 (by show Value.string s=_; rw [H.out.2.2.1]) (by have:=H.out.2.2.2.1; omega) (by have:=HR.out.2.size; have:=H.out.2.2.2.2; omega) ?_; intro v5 w5 ho5 hb5 ht5; obtain ⟨a5,c5,n5,hv5,B5,HR5,x0,x1,f0,f1,lt5⟩:=ZiV H.out.2.1 HR.out.2 ho5 hb5; subst hv5; clear ho5 hb5 ht5 hll);refine bodyPost_ret (v:=.agg #[.int .i64 k,.slice a5 n5 c5]) ?_ rfl ⟨a5,c5,by rw [B5.out],?_⟩
   ·simp [results,Tryz.f124];go_simp
   ·have t6:Zaa (λ j=>j=w.heap.size) w5 ((w5.setCell ⟨w.heap.size,0,none⟩ (.int .i64 k)).setCell ⟨w.heap.size,1,none⟩ (.slice a5 n5 c5)):=((Zaa.refl (λ j=>j=w.heap.size) w5).setCell (p:=⟨w.heap.size,0,none⟩) (.inl rfl) _).setCell (p:=⟨w.heap.size,1,none⟩) (.inl rfl) _;have o6:=HR5.out.1.stays t6 (λ g hg q=>by have:=(HR5.out.1.lt g hg).1; omega);have bel:Below w.heap.size w w5:=H.out.1.trans (HR5.out.2.mono (by omega));refine ⟨?_,?_,bel.trans (t6.below bel.size (λ j hj q=>by omega))⟩
    ·have:=OwnB.at (OwnG.low o6 (Nat.zero_le _));rw [<- B5.out];exact this
    ·rintro j ⟨h0,p,rfl,rfl⟩;obtain ⟨a6,c6,e6,_,_,_,q4⟩:=OwnG.form o6;simp only [Value.slice.injEq] at e6;obtain ⟨g,eg⟩:=q4 (by rw [List.length_append,Zav]; omega);rw [eg] at e6;obtain ⟨e6,-,-⟩:=e6;cases e6;have:=(o6.lt g rfl).1;show w.heap.size<=g;omega
  | succ gk =>
   obtain ⟨y,hy⟩:∃ y:UInt8,UInt8.ofNat (n / 256 ^ gk)=y:=⟨_,rfl⟩
   have hc:(n:Int) / 2 ^ (8*(gk+1) - 8) % 256=(y.toNat:Int):=by
    have e1:((2:Int) ^ (8*gk))=((256 ^ gk:Nat):Int):=by
     rw [show (256:Nat) ^ gk=2 ^ (8*gk) by rw [Nat.pow_mul]];exact (Int.natCast_pow 2 (8*gk)).symm
    rw [<- hy,UInt8.toNat_ofNat',show 8*(gk+1) - 8=8*gk by omega,e1,<- Int.natCast_ediv];omega
   have hs:low (8 - gk) (n / 256 ^ gk)=low (8 - (gk+1)) (n / 256 ^ (gk+1))++[y]:=by
    rw [show 8 - gk=(8 - (gk+1))+1 by omega,low,hy,Nat.div_div_eq_div_mul,<- Nat.pow_succ]
   have HS:Hid _:=hs
   have hll:(low (8 - (gk+1)) (n / 256 ^ (gk+1))).length<=8:=by
    rw [Zav];omega
   clear hs hy;go_wp2_with (at_builtin; refine Zak encB 5 39 1 (.int .u8 0) rfl Tryz.info5 Tryz.underlying39 rfl (.tmp 13) (.tmp 18) rfl (w.heap.size+1) _ _ y _ rfl HR.out.1 rfl (by omega) (by simp only [maxLen]; omega) (by have:=HR.out.2.size; have:=H.out.2.2.2.2; omega) _ (by first | rfl | (rw [hc]; rfl)) ?_; intro v4 w4 ho4 hb4 hm4 ht4);go_wp2;go_roundg gk
   case measure=>omega
   case rel=>exact ⟨by go_num,by omega,by rw [HS.out]; exact ho4,HR.out.2.trans hb4⟩
end Go.Proofs.YtmhcpbbiokpjjaaGreat
