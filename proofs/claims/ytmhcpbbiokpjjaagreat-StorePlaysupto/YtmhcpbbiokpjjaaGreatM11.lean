/-
  Several texts, laid together.
-/
import Derived.Test.YtmhcpbbiokpjjaaGreatM10
set_option maxHeartbeats 6400000
set_option maxRecDepth 100000
namespace Go.Proofs.YtmhcpbbiokpjjaaGreat
variable {d:Dk}
theorem Ziv (d:Dk):(dnext d).1.after<=d.after:=by
 unfold dnext
 split
 ·exact Nat.le_refl _
 ·split
  ·exact Nat.le_refl _
  ·show (if d.armed then d.after - 1 else d.after)<=d.after
   split <;> omega
theorem ZgG (d:Dk):(dnext d).1.writes<=d.writes+1:=by
 unfold dnext
 split
 ·exact Nat.le_succ _
 ·split
  ·exact Nat.le_succ _
  ·exact Nat.le_refl _
theorem Dk.ok.next (h:d.ok):(dnext d).1.ok:=by
 have e:=ZaU d;exact ⟨by rw [e]; exact h.rise,by rw [e]; exact h.few,by rw [e]; exact h.each,Nat.lt_of_le_of_lt (Ziv d) h.after⟩
theorem Dk.ok.with {d':Dk} (h:d.ok) (h':d'.ok) {n bs:Bs} (hn:isName n=true) (hb:bs.length<=262144) (hf:fget d.files n≠none∨d.files.length<32):({ d' with files:=fwith d.files n bs }:Dk).ok:=by
 refine ⟨Zf9 n bs h.rise,?_,?_,h'.after⟩
 ·show (fwith d.files n bs).length<=32;rw [ZdL n bs h.rise];have:=h.few
  cases e:fget d.files n with
  | none =>
   have:d.files.length<32:=hf.elim (λ q=>absurd e q) id;simp;omega
  | some _=>simpa using this
 ·intro f hf
  rcases ZdO _ _ _ _ hf with rfl | q
  ·exact ⟨hn,hb⟩
  ·exact h.each f q
theorem Znp (h:d.ok) {n own more:Bs}:(dlay d n own more).1.ok:=by
 unfold dlay
 split
 ·exact h
 ·rename_i hn
  have hn':isName n=true:=by simpa using hn
  split
  ·exact h
  ·rename_i hf
   have hlen:own.length+more.length<=262144:=by omega
   have hroom:fget d.files n≠none∨d.files.length<32:=by
    by_cases q:fget d.files n=none
    ·exact .inr (by have:¬ 32<=d.files.length:=λ r=>hf (.inr ⟨q,r⟩); omega)
    ·exact .inl q
   split
   ·exact h.with h.next hn' (by simp; omega) hroom
   ·split
    ·exact h.with h.next hn' (by simp; omega) hroom
    ·exact h.next
theorem Zeq (h:d.ok) (n v:Bs):(dapp d n v).1.ok:=Znp h
theorem ZmF (h:d.ok) (n:Bs) (z:Int):(dtrim d n z).1.ok:=by
 unfold dtrim
 split
 ·exact h
 ·rename_i hn
  have hn':isName n=true:=by simpa using hn
  split
  ·exact h
  ·rename_i s hs
   split
   ·exact h
   ·split
    ·exact h.with h.next hn' (by have:=h.get hs; rw [List.length_take]; omega) (.inl (by rw [hs]; simp))
    ·exact h.next
theorem ZnF (h:d.ok) (x y:Int) (hx:x<=9223372036854775807):(dcut d x y).1.ok:=by
 unfold dcut
 split
 ·exact h
 ·split
  ·exact h
  ·exact ⟨h.rise,h.few,h.each,by show x.toNat<_; omega⟩
theorem Zed (h:d.ok):(dres d).ok:=⟨h.rise,h.few,h.each,h.after⟩
theorem ZiQ (d:Dk) (n own more:Bs):(dlay d n own more).1.writes<=d.writes+1:=by
 unfold dlay
 repeat' split
 all_goals first | exact ZgG d | exact Nat.le_succ _
theorem Zmt (d:Dk) (n v:Bs):(dapp d n v).1.writes<=d.writes+1:=ZiQ _ _ _ _
theorem ZnC (d:Dk) (x y:Int):(dcut d x y).1.writes<=d.writes+1:=by
 unfold dcut
 repeat' split
 all_goals exact Nat.le_succ _
end Go.Proofs.YtmhcpbbiokpjjaaGreat
namespace Go.Proofs.YtmhcpbbiokpjjaaGreat
open Go.RowKit
def Blk (a:Option Addr) (n:Nat):Nat->Prop:=λ i=>0<n/\∃ p,a=some p/\p.block=i
theorem BAt.blk {w:World} {a:Option Addr} {n c:Nat} {bs:Bs} (h:BAt w (.slice a n c) bs):∀ i,Blk a n i->i<w.heap.size:=by
 rintro i ⟨h0,p,hp,rfl⟩;obtain ⟨ao,c',e,h1,h2,h3⟩:=h;cases e;obtain ⟨g,off,e2,hlt,_⟩:=h3 h0;rw [hp] at e2;cases e2;exact hlt
def ZgJ (U:Nat->Prop) (w w':World) (a:Option Addr) (n:Nat):Nat->Prop:=λ i=>Zaj U w w' i∨Blk a n i
section
variable {w:World} {s b:Nat} {st:St} {d:Dk} {U:Nat->Prop} {a:Option Addr} {n c:Nat} {body:Bs}
theorem ZhB {w1 w2 w3:World} {S T:Nat->Prop} {st':St} {d':Dk} (hS:∀ i,S i->i<w.heap.size) (hap:∀ i,S i->¬ T i) (hU:∀ i,S i∨T i->U i) (hUl:∀ i,U i->i<w.heap.size) (hfar:∀ i,Blk a n i->¬ U i) (hbl:∀ i,Blk a n i->i<w.heap.size)
  (h1:Below w.heap.size w w1) (hd:Zao w2 b d' (Zaj T w1 w2)) (ht2:Zaa T w1 w2) (hs:Zac w3 s b st' (λ i=>S i∨Blk a n i)) (ht3:Zaa S w2 w3):Duo w3 s b st' d' (ZgJ U w w3 a n)/\Zaa U w w3:=by
 have t2:Zaa U w w2:=(Zaa.ofBelow h1).trans ht2 (λ i _ q=>hU i (.inr q));refine ⟨⟨_,_,hs,hd.stays ht3 ?_,?_,?_,?_⟩,t2.trans ht3 (λ i _ q=>hU i (.inl q))⟩
 ·intro i hi q
  rcases hi with r | r
  ·exact hap i q r
  ·have:=hS i q;have:=h1.size;omega
 ·intro i hi q
  rcases hi with r | r
  ·rcases q with q | q
   ·exact hap i r q
   ·have:=hS i r;have:=h1.size;omega
  ·rcases q with q | q
   ·exact hfar i r (hU i (.inr q))
   ·have:=hbl i r;have:=h1.size;omega
 ·intro i hi
  rcases hi with (r | r) | (r | r)
  ·exact .inl (.inl (hU i (.inl r)))
  ·exact .inr r
  ·exact .inl (.inl (hU i (.inr r)))
  ·exact .inl (.inr ⟨by have:=h1.size; omega,Nat.lt_of_lt_of_le r.2 ht3.size⟩)
 ·intro i hi;have sz:=Nat.le_trans t2.size ht3.size
  rcases hi with (r | r) | r
  ·exact Nat.lt_of_lt_of_le (hUl i r) sz
  ·exact r.2
  ·exact Nat.lt_of_lt_of_le (hbl i r) sz
theorem Zmj (hD:Duo w s b st d U) (hv:BAt w (.slice a n c) body) (hfar:∀ i,Blk a n i->¬ U i) (hl:body.length=n) (hn:n<=8192) (k:Int) (hk0:0<=k) (hk:k<=255) (hok:d.ok) (hw:d.writes<=1000000)
  (keepc:∀ w2 S,(∀ i,S i->U i)->Zac w2 s b st S->BAt w2 (.slice a n c) body->(∀ i,S i∨Blk a n i->i<w2.heap.size) ->
   Calls Tryz.prog 166 #[.pointer (some ⟨s,0,none⟩),.agg #[.int .i64 k,.slice a n c]] w2 λ e w'=>e=.returned (.tuple #[])/\Zac w' s b (st.take (k,body)) (λ i=>S i∨Blk a n i)/\Zaa S w2 w') :
  Calls Tryz.prog 123 #[.pointer (some ⟨s,0,none⟩),.agg #[.int .i64 k,.slice a n c]] w λ e w'=>∃ r,e=.returned (.int .i64 r)/\Hid (r=(sapp st d (k,body)).2.2/\Duo w' s b (sapp st d (k,body)).1 (sapp st d (k,body)).2.1 (ZgJ U w w' a n)/\Zaa U w w'):=by
 obtain ⟨S,T,hS,hT,hap,hU,hUl⟩:=hD
 obtain ⟨W,hW⟩:∃ W,w.alloc (.cells #[.int .i64 k,.slice a n c] 228)=W:=⟨_,rfl⟩
 have bW:Below w.heap.size w W:=by rw [<- hW]; exact bz1 _ _
 have bx:Box W w.heap.size 228 (.int .i64 k) (.slice a n c):=by rw [<- hW]; exact Box.new _ _ _ _
 obtain ⟨x0,x1⟩:=bx.cells;have hse:=Zk7 (k:=k) (hv.below bW) hl
 have efs:(fseal (k,body)).2=0:=by
  unfold fseal;rw [if_neg (by show ¬ (k<0∨255<k); omega),if_neg (by show ¬ 8192<body.length; omega)]
 have elen:(fseal (k,body)).1.length<=100000:=by
  unfold fseal;rw [if_neg (by show ¬ (k<0∨255<k); omega),if_neg (by show ¬ 8192<body.length; omega)];show (sealB k body).length<=_;rw [ZfZ];omega
 obtain ⟨sb,hsb⟩:∃ sb,(fseal (k,body)).1=sb:=⟨_,rfl⟩
 obtain ⟨d',hd'⟩:∃ d',(dapp d fileN sb).1=d':=⟨_,rfl⟩
 obtain ⟨cd,hcd⟩:∃ cd,(dapp d fileN sb).2=cd:=⟨_,rfl⟩
 have esa:sapp st d (k,body)=(if cd=0 then st.take (k,body) else st,d',cd):=by
  unfold sapp;rw [hsb,hd',hcd]
 rw [efs,hsb] at hse;rw [hsb] at elen;rw [esa];obtain ⟨M,r,t,F,hX⟩:=hS;have hSl:∀ i,S i->i<w.heap.size:=hX.lt;have hbl:=hv.blk
 have H:Hid (Zac W s b st S/\Zao W b d T/\BAt W (.slice a n c) body/\Below w.heap.size w W/\Box W w.heap.size 228 (.int .i64 k) (.slice a n c)):=⟨⟨M,r,t,F,hX.below bW⟩,hT.below bW,hv.below bW,bW,bx⟩
 have G:Hid ((∀ i,S i->i<w.heap.size)/\(∀ i,S i->¬ T i)/\(∀ i,S i∨T i->U i)/\(∀ i,U i->i<w.heap.size)/\(∀ i,Blk a n i->¬ U i)/\(∀ i,Blk a n i->i<w.heap.size)):=⟨hSl,hap,hU,hUl,hfar,hbl⟩
 have K:Hid (∀ w2 S,(∀ i,S i->U i)->Zac w2 s b st S->BAt w2 (.slice a n c) body->(∀ i,S i∨Blk a n i->i<w2.heap.size)->Calls Tryz.prog 166 #[.pointer (some ⟨s,0,none⟩),.agg #[.int .i64 k,.slice a n c]] w2 λ e w'=>e=.returned (.tuple #[])/\Zac w' s b (st.take (k,body)) (λ i=>S i∨Blk a n i)/\Zaa S w2 w'):=keepc
 have C0:Hid (W.cell? ⟨s,0,none⟩=some (.pointer (some ⟨b,0,none⟩))/\s<W.heap.size):=⟨(hX.below bW).cell.1,(hX.below bW).lt_s⟩
 have Q:Hid (d.ok/\d.writes<=1000000/\sb.length<=100000/\(dapp d fileN sb).1=d'/\(dapp d fileN sb).2=cd):=⟨hok,hw,elen,hd',hcd⟩
 clear hv hfar hl hn hk0 hk hok hw keepc hT hap hU hUl bW bx efs elen hsb hd' hcd esa hX hSl hbl;go_enter Tryz.func123,Tryz.ntmps123;go_wp2_with fail;refine hse.mono ?_;rintro e w1 ⟨v1,rfl,O1⟩
 obtain ⟨a1,c1,n1,hv1⟩:∃ a1 c1 n1,v1=.slice a1 n1 c1:=by
  obtain ⟨a1,c1,e,_⟩:=OwnG.form O1.out.1;exact ⟨a1,c1,_,e⟩
 subst hv1;have p0:w1.cell? ⟨s,0,none⟩=some (.pointer (some ⟨b,0,none⟩)):=(O1.out.2.cell C0.out.2).trans C0.out.1;have B1:Hid (Below w.heap.size w w1):=H.out.2.2.2.1.trans (O1.out.2.mono H.out.2.2.2.1.size);have hap1:=Zfs ((H.out.2.1.below O1.out.2).below (bz1 w1 (.cells #[.slice a1 n1 c1] 39))) Q.out.1 (by have:=Q.out.2.1; omega) fileN (by decide) (ZaB (OwnB.at (OwnG.low O1.out.1 (Nat.zero_le _))) 39) (by simp) (by have:=Q.out.2.2.1; simp; omega)
 have efl:[sb].flatten=sb:=by simp
 rw [efl,Q.out.2.2.2.1,Q.out.2.2.2.2] at hap1;clear hse;go_wp2_with fail;refine hap1.mono ?_;rintro e w2 ⟨r2,rfl,hr2,D2,T2⟩;have er:r2=cd:=hr2.out;subst er;clear hr2 hap1 efl p0;have bz:=bz1 w1 (.cells #[.slice a1 n1 c1] 39);have B1':Hid (Below w.heap.size w (w1.alloc (.cells #[.slice a1 n1 c1] 39))):=B1.out.trans (bz.mono B1.out.size);have S2:Hid (Zac w2 s b st S):=((H.out.1.below O1.out.2).below bz).stays T2 G.out.2.1;have V2:Hid (BAt w2 (.slice a n c) body):=((H.out.2.2.1.below O1.out.2).below bz).turned T2 (λ h0 p hp q=>G.out.2.2.2.2.1 _ ⟨h0,p,hp,rfl⟩ (G.out.2.2.1 _ (.inr q)))
 have DT:Hid (Zao w2 b d' (Zaj T (w1.alloc (.cells #[.slice a1 n1 c1] 39)) w2)/\Zaa T (w1.alloc (.cells #[.slice a1 n1 c1] 39)) w2):=⟨D2,T2⟩
 have y0:w2.cell? ⟨w.heap.size,0,none⟩=some (.int .i64 k)/\w2.cell? ⟨w.heap.size,1,none⟩=some (.slice a n c):=((((H.out.2.2.2.2.below O1.out.2).below bz).turned T2 (λ q=>by have:=G.out.2.2.2.1 _ (G.out.2.2.1 _ (.inr q)); omega))).cells;obtain ⟨y0,y1⟩:=y0;clear D2 T2 bz;by_cases hz:r2=0
 ·subst hz;have kc:=K.out w2 S (λ i hi=>G.out.2.2.1 i (.inl hi)) S2.out V2.out (λ i hi=>hi.elim (S2.out.lt i) (V2.out.blk i));go_wp2_with fail;refine kc.mono ?_;rintro e w3 ⟨rfl,S3,T3⟩;have FF:Hid _:=ZhB G.out.1 G.out.2.1 G.out.2.2.1 G.out.2.2.2.1 G.out.2.2.2.2.1 G.out.2.2.2.2.2 B1'.out DT.out.1 DT.out.2 S3 T3;clear S3 T3 kc;go_wp2;go_ret;exact ⟨0,rfl,rfl,FF.out.1,FF.out.2⟩
 ·have m0:(r2 != 0)=true:=by simpa using hz
  go_wp2;go_ret;have S3:Zac w2 s b st (λ i=>S i∨Blk a n i):=S2.out.mono (λ i q=>.inl q) (λ i hi=>hi.elim (S2.out.lt i) (V2.out.blk i));have FF:=ZhB G.out.1 G.out.2.1 G.out.2.2.1 G.out.2.2.2.1 G.out.2.2.2.2.1 G.out.2.2.2.2.2 B1'.out DT.out.1 DT.out.2 S3 (Zaa.refl _ _);exact ⟨_,rfl,rfl,FF.1,FF.2⟩
theorem Zmh {u v:Value} {xs ys:Bs} (hx:BAt w u xs) (hy:BAt w v ys) (g:Bool) (hg:(xs==ys)=g) :
  Calls Tryz.prog 157 #[u,v] w λ e w'=>e=.returned (.bool g)/\w'=w:=by
 have h1:=ZaY hx;have h2:=ZaY hy;clear hx hy;subst hg;go_enter Tryz.func157,Tryz.ntmps157;go_wp2;go_ret;exact ⟨by simp,rfl⟩
theorem Duo.grown {w w':World} (hD:Duo w s b st d U) (hv:∀ i,Blk a n i->i<w.heap.size) (hb:Below w.heap.size w w'):Duo w' s b st d (ZgJ U w w' a n) :=
 (hD.below hb).mono (λ i hi=>.inl (.inl hi)) (λ i hi=>by
  rcases hi with (r | r) | r
  ·exact Nat.lt_of_lt_of_le (hD.lt i r) hb.size
  ·exact r.2
  ·exact Nat.lt_of_lt_of_le (hv i r) hb.size)
theorem Duo.regrown {w w1 w':World} {st':St} {d':Dk} (hb:Below w.heap.size w w1) (h:Duo w' s b st' d' (ZgJ U w1 w' a n)) (hs:w1.heap.size<=w'.heap.size) (hl:∀ i,U i∨Blk a n i->i<w.heap.size):Duo w' s b st' d' (ZgJ U w w' a n) :=
 h.mono (λ i hi=>by
  rcases hi with (r | r) | r
  ·exact .inl (.inl r)
  ·exact .inl (.inr ⟨by have:=hb.size; omega,r.2⟩)
  ·exact .inr r) (λ i hi=>by
  have:=hb.size
  rcases hi with (r | r) | r
  ·have:=hl i (.inl r); omega
  ·exact r.2
  ·have:=hl i (.inr r); omega)
theorem put_k (hD:Duo w s b st d U) (hv:BAt w (.slice a n c) body) (hfar:∀ i,Blk a n i->¬ U i) (hl:body.length=n) (hn:n<=8192) (k:Nat) (hk1:1<=k) (hk:k<4) (kI:Int) (hkI:(k:Int)=kI) (hok:d.ok) (hw:d.writes<=1000000) (hob:st.objs.length<=1000000) :
  Calls Tryz.prog 105 #[.pointer (some ⟨s,0,none⟩),.int .i64 kI,.slice a n c] w λ e w'=>∃ i r,e=.returned (.tuple #[.int .u64 i,.int .i64 r])/\Hid (i=((sput st d kI body).2.1.toNat:Int)/\r=(sput st d kI body).2.2/\Duo w' s b (sput st d kI body).1.1 (sput st d kI body).1.2 (ZgJ U w w' a n)/\Zaa U w w'):=by
 have hk3:kI=1∨kI=2∨kI=3:=by omega
 obtain ⟨W,hW⟩:∃ W,w.alloc (.cells #[.slice a n c] 39)=W:=⟨_,rfl⟩
 have bW:Below w.heap.size w W:=by rw [<- hW]; exact bz1 _ _
 have hUl:=hD.lt;have hbl:=hv.blk;obtain ⟨S,T,hS,hT,hap,hU,_⟩:=hD;obtain ⟨M,r,t,F,hX⟩:=hS
 have hD:Duo w s b st d U:=⟨S,T,⟨M,r,t,F,hX⟩,hT,hap,hU,hUl⟩
 obtain ⟨x,hx⟩:∃ x,oid kI body=x:=⟨_,rfl⟩
 have sid:=Zj4 kI W (by rw [<- hW]; exact ZaB hv 39) (by simp) x (by simpa using hx);obtain ⟨v,hlk,hthere,hgone⟩:=(hX.below bW).look hk x;rw [hkI] at hlk hthere hgone;obtain ⟨c0,c1,c2,c3,c4,c5,c6⟩:=(hX.below bW).cell
 have same:∀ (z:UInt64) (e:Int),sput st d kI body=((st,d),z,e)->Duo W s b (sput st d kI body).1.1 (sput st d kI body).1.2 (ZgJ U w W a n)/\Zaa U w W:=by
  intro z e q;rw [q];exact ⟨hD.grown hbl bW,Zaa.ofBelow bW⟩
 have hV:BAt W (.slice a n c) body:=hv.below bW
 have hx0:(x.toNat:Int)=0↔x=0:=by
  constructor
  ·intro q;exact UInt64.toNat_inj.1 (by simpa using q)
  ·rintro rfl; rfl
 cases hg:oget st.objs kI x with
 | some old =>
  have eh:st.has kI x=true:=by unfold St.has; rw [hg]; rfl
  rw [eh] at hlk;have hO:=(hthere old hg).1;clear hthere hgone
  cases hq:(old==body) with
  | true =>
   have eq:old=body:=by simpa using hq
   have e:sput st d kI body=((st,d),x,0):=by unfold sput; rw [hx,hg]; simp [eq]
   have bq:=Zmh hO hV true hq;have FF:Hid _:=same x 0 e;rw [e] at FF ⊢
   obtain ⟨xi,hxi⟩:∃ xi,(x.toNat:Int)=xi:=⟨_,rfl⟩
   rw [hxi] at sid hlk;have HX:Hid ((x.toNat:Int)=xi):=hxi;clear hv hfar hl hok hw hob hT hap hU hX hD hx hO hV same hg eh hUl hbl bW hq eq e hx0 hxi
   have hk4:k=1∨k=2∨k=3:=by omega
   rcases hk4 with rfl | rfl | rfl
   all_goals
    subst hkI;go_enter Tryz.func105,Tryz.ntmps105;go_wp2_with fail;refine sid.mono ?_;rintro e w1 ⟨rfl,hw1⟩;rw [hw1];clear hw1 w1;go_wp2_with fail;refine bq.mono ?_;rintro e w1 ⟨rfl,hw1⟩;rw [hw1];clear hw1 w1;go_wp2;refine bodyPost_ret (results_tmp2 rfl _ _ _) rfl ?_;exact ⟨_,_,rfl,HX.out.symm,rfl,FF.out⟩
  | false =>
   have eq:¬ old=body:=by simpa using hq
   have e:sput st d kI body=((st,d),0,13):=by unfold sput; rw [hx,hg]; simp [eq]
   have bq:=Zmh hO hV false hq;have FF:Hid _:=same 0 13 e;rw [e] at FF ⊢
   obtain ⟨xi,hxi⟩:∃ xi,(x.toNat:Int)=xi:=⟨_,rfl⟩
   rw [hxi] at sid hlk;clear hv hfar hl hok hw hob hT hap hU hX hD hx hO hV same hg eh hUl hbl bW hq eq e hx0 hxi
   have hk4:k=1∨k=2∨k=3:=by omega
   rcases hk4 with rfl | rfl | rfl
   all_goals
    subst hkI;go_enter Tryz.func105,Tryz.ntmps105;go_wp2_with fail;refine sid.mono ?_;rintro e w1 ⟨rfl,hw1⟩;rw [hw1];clear hw1 w1;go_wp2_with fail;refine bq.mono ?_;rintro e w1 ⟨rfl,hw1⟩;rw [hw1];clear hw1 w1;go_wp2;refine bodyPost_ret (results_tmp2 rfl _ _ _) rfl ?_;exact ⟨_,_,rfl,rfl,rfl,FF.out⟩
 | none =>
  have eh:st.has kI x=false:=by unfold St.has; rw [hg]; rfl
  rw [eh] at hlk;have hv0:=hgone hg;subst hv0;clear hthere hgone;by_cases h0:x=0
  ·have e:sput st d kI body=((st,d),0,13):=by unfold sput; rw [hx,hg]; simp [h0]
   have FF:Hid _:=same 0 13 e;rw [e] at FF ⊢;rw [hx0.2 h0] at sid hlk;clear hv hfar hl hok hw hob hT hap hU hX hD hx hV same hg eh hUl hbl bW e hx0 h0
   have hk4:k=1∨k=2∨k=3:=by omega
   rcases hk4 with rfl | rfl | rfl
   all_goals
    subst hkI;go_enter Tryz.func105,Tryz.ntmps105;go_wp2_with fail;refine sid.mono ?_;rintro e w1 ⟨rfl,hw1⟩;rw [hw1];clear hw1 w1;go_wp2;refine bodyPost_ret (results_tmp2 rfl _ _ _) rfl ?_;exact ⟨_,_,rfl,rfl,rfl,FF.out⟩
  ·have e:sput st d kI body=(((sapp st d (kI,body)).1,(sapp st d (kI,body)).2.1),if (sapp st d (kI,body)).2.2=0 then x else 0,(sapp st d (kI,body)).2.2):=by unfold sput; rw [hx,hg]; simp [h0]
   have had:=Zmj (hD.below bW) hV hfar hl hn kI (by omega) (by omega) hok hw (λ w2 S hSU hS2 hV2 hl2 =>
    Zg8 hS2 (λ i q=>.inl q) hl2 kI hk3 hV2 (λ p m c2 e h0=>by cases e; exact .inr ⟨h0,p,rfl,rfl⟩) (by rw [hx]; exact hg) hob)
   obtain ⟨Z,hZ⟩:∃ Z,sput st d kI body=Z:=⟨_,rfl⟩
   have EZ:Hid (Z=(((sapp st d (kI,body)).1,(sapp st d (kI,body)).2.1),if (sapp st d (kI,body)).2.2=0 then x else 0,(sapp st d (kI,body)).2.2)):=hZ.symm.trans e;rw [hZ]
   have n0:¬ (x.toNat:Int)=0:=λ q=>h0 (hx0.1 q)
   have REG:Hid (Below w.heap.size w W/\∀ i,U i∨Blk a n i->i<w.heap.size):=⟨bW,λ i q=>q.elim (hUl i) (hbl i)⟩
   obtain ⟨xi,hxi⟩:∃ xi,(x.toNat:Int)=xi:=⟨_,rfl⟩
   rw [hxi] at sid hlk n0
   have m1:(xi==0)=false:=by simpa using n0
   have HX:Hid ((x.toNat:Int)=xi):=hxi;clear hv hfar hl hn hok hw hob hT hap hU hX hD hx hV same hg eh hUl hbl bW e hx0 h0 hxi n0 hZ
   have hk4:k=1∨k=2∨k=3:=by omega
   rcases hk4 with rfl | rfl | rfl
   all_goals
    subst hkI;go_enter Tryz.func105,Tryz.ntmps105;go_wp2_with fail;refine sid.mono ?_;rintro e w1 ⟨rfl,hw1⟩;rw [hw1];clear hw1 w1;go_wp2_with fail;refine had.mono ?_;rintro e w2 ⟨r2,rfl,R2⟩;have FF:Hid _:=And.intro R2.out.1 (And.intro (Duo.regrown REG.out.1 R2.out.2.1 R2.out.2.2.size REG.out.2) ((Zaa.ofBelow (S:=U) REG.out.1).trans R2.out.2.2 (λ _ _ q=>q)));clear R2;by_cases hz:r2=0
    ·subst hz;go_wp2;refine bodyPost_ret (results_tmp2 rfl _ _ _) rfl ?_;exact ⟨_,_,rfl,by rw [EZ.out]; exact ⟨by rw [if_pos FF.out.1.symm]; exact HX.out.symm,FF.out.1,FF.out.2⟩⟩
    ·have m0:(r2 != 0)=true:=by simpa using hz
     go_wp2;refine bodyPost_ret (results_tmp2 rfl _ _ _) rfl ?_;exact ⟨_,_,rfl,by rw [EZ.out]; exact ⟨by rw [if_neg (λ q=>hz (FF.out.1.trans q))]; rfl,FF.out.1,FF.out.2⟩⟩
end
section
variable {w:World} {s b:Nat} {st:St} {d:Dk} {U:Nat->Prop}
theorem ZgF {W0 W:World} {k:Nat} {v:Value} {body:Bs} (hD:Duo W0 s b st d U) (hb:Below W0.heap.size W0 W) (ho:OwnG encB 5 W W0.heap.size v body) (hn:body.length<=8192) (hk1:1<=k) (hk:k<4) (kI:Int) (hkI:(k:Int)=kI) (hok:d.ok) (hw:d.writes<=1000000) (hob:st.objs.length<=1000000) :
  Calls Tryz.prog 105 #[.pointer (some ⟨s,0,none⟩),.int .i64 kI,v] W λ e w'=>∃ i r,e=.returned (.tuple #[.int .u64 i,.int .i64 r])/\Hid (i=((sput st d kI body).2.1.toNat:Int)/\r=(sput st d kI body).2.2/\Duo w' s b (sput st d kI body).1.1 (sput st d kI body).1.2 (Zaj U W0 w')/\Zaa U W0 w'):=by
 have hlow:=hD.lt
 have hnew:∀ p n c,v=.slice (some p) n c->0<n->W0.heap.size<=p.block:=by
  intro p n c e h0
  exact (ho.lt p.block (by
   obtain ⟨ao,c',e',h1,h2,h3,h4⟩:=OwnG.form ho;rw [e'] at e;cases e;obtain ⟨g,eg⟩:=h4 h0;cases eg;rw [e']
   rfl)).1
 obtain ⟨ao,c,rfl,h1,h2,h3,h4⟩:=OwnG.form ho
 have hv:BAt W (.slice ao body.length c) body:=⟨ao,c,rfl,h1,h2,h3⟩
 have hfar:∀ i,Blk ao body.length i->¬ U i:=by
  rintro i ⟨h0,p,rfl,rfl⟩ q;have:=hnew p _ c rfl h0;have:=hlow _ q;omega
 refine (put_k (hD.below hb) hv hfar rfl hn k hk1 hk kI hkI hok hw hob).mono ?_;rintro e w' ⟨i,r,rfl,R⟩;refine ⟨i,r,rfl,R.out.1,R.out.2.1,R.out.2.2.1.mono ?_ ?_,(Zaa.ofBelow (S:=U) hb).trans R.out.2.2.2 (λ _ _ q=>q)⟩
 ·intro i hi;have sz:=R.out.2.2.2.size
  rcases hi with (q | q) | q
  ·exact .inl q
  ·exact .inr ⟨by have:=hb.size; omega,q.2⟩
  ·obtain ⟨h0,p,rfl,rfl⟩:=q;exact .inr ⟨hnew p _ c rfl h0,Nat.lt_of_lt_of_le (hv.blk _ ⟨h0,p,rfl,rfl⟩) sz⟩
 ·intro i hi
  rcases hi with q | q
  ·exact Nat.lt_of_lt_of_le (hlow i q) (Nat.le_trans hb.size R.out.2.2.2.size)
  ·exact q.2
theorem Duo.since {W0 W:World} (hD:Duo W0 s b st d U) (hb:Below W0.heap.size W0 W):Duo W s b st d (Zaj U W0 W) :=
 (hD.below hb).mono (λ _ q=>.inl q) (λ i q=>q.elim (λ q=>Nat.lt_of_lt_of_le (hD.lt i q) hb.size) (λ q=>q.2))
theorem Zhb (hD:Duo w s b st d U) {v:Value} {xss:List Bs} (hp:Zau w v xss) (hl:xss.length<=1000000) (hx:∀ x∈xss,x.length<=140737488355328) (hok:d.ok) (hw:d.writes<=1000000) (hob:st.objs.length<=1000000) :
  Calls Tryz.prog 31 #[.pointer (some ⟨s,0,none⟩),v] w λ e w'=>∃ i r,e=.returned (.tuple #[.int .u64 i,.int .i64 r])/\Hid (i=((sblob st d xss.flatten).2.1.toNat:Int)/\r=(sblob st d xss.flatten).2.2/\Duo w' s b (sblob st d xss.flatten).1.1 (sblob st d xss.flatten).1.2 (Zaj U w w')/\Zaa U w w'):=by
 have P:Hid (Zau w v xss):=hp;obtain ⟨ao,c,rfl,h1,h2⟩:=hp
 obtain ⟨N,eN⟩:∃ N,xss.length=N:=⟨_,rfl⟩
 rw [eN] at hl h1 P ⊢
 obtain ⟨Z,hZ⟩:∃ Z,sblob st d xss.flatten=Z:=⟨_,rfl⟩
 rw [hZ];have A:Hid (0<N->∃ b off,ao=some ⟨b,off,none⟩/\b<w.heap.size):=h1;have B:Hid (∀ j x b off,xss[j]? = some x->ao=some ⟨b,off,none⟩->∃ u,w.cell? ⟨b,off+j,none⟩=some u/\BAt w u x):=h2
 have H:Hid (sblob st d xss.flatten=Z/\xss.length=N/\(∀ x∈xss,x.length<=140737488355328)/\Duo w s b st d U/\d.ok/\d.writes<=1000000/\st.objs.length<=1000000):=⟨hZ,eN,hx,hD,hok,hw,hob⟩
 clear h1 h2 eN hx hD hok hw hob hZ;go_enter Tryz.func31,Tryz.ntmps31;go_wp2_with fail;go_loopg [6,11] N (λ k sv iv wr=>wr=w/\∃ i s:Nat,iv=.int .i64 i/\i+k=N/\sv=.int .i64 (s:Int)/\s<=4096/\Hid (s+(xss.take i).flatten.length=4096))
 case atStart=>exact ⟨rfl,0,4096,rfl,by omega,rfl,by omega,rfl⟩
 case round =>
  obtain ⟨hw,i,s1,rfl,hi,rfl,hs,HS⟩:=hrel;have hw':=hw.symm;subst hw';clear hw;by_cases hin:i<N
  ·have id:(i:Int)<(N:Int):=by omega
   obtain ⟨x,hx⟩:=Zaf H.out.2.1 hin;obtain ⟨b1,o1,rfl,hlt⟩:=A.out (by omega);obtain ⟨u,hu,a2,c2,rfl,_,_,_⟩:=B.out i x b1 o1 hx rfl;have e2:=Zdn xss (i+1);rw [ZaZ hx,List.length_append] at e2;have hxl:=H.out.2.2.1 x (List.mem_of_getElem? hx)
   obtain ⟨xl,exl⟩:∃ xl,x.length=xl:=⟨_,rfl⟩
   rw [exl] at hxl hu e2
   have E:Hid ((xss.take i).flatten.length+xl<=xss.flatten.length/\(xss.take (i+1)).flatten.length=(xss.take i).flatten.length+xl):=⟨e2,by rw [ZaZ hx,List.length_append,exl]⟩
   clear e2 hx exl;by_cases hbig:s1<xl
   ·have t:(s1:Int)<(xl:Int):=by omega
    have ez:Z=((st,d),0,4):=by
     rw [<- H.out.1];unfold sblob;rw [if_pos (by have:=E.out.1; have:=HS.out; omega)]
    subst ez;go_wp2;refine bodyPost_ret (results_tmp2 rfl _ _ _) rfl ?_;exact ⟨_,_,rfl,rfl,rfl,H.out.2.2.2.1.since (Below.refl _ _),Zaa.refl _ _⟩
   ·have t:decide ((s1:Int)<(xl:Int))=false:=by rw [decide_eq_false_iff_not]; omega
    go_wp2;go_roundg (gk - 1)
    case measure=>omega
    case rel=>exact ⟨rfl,i+1,s1 - xl,by go_num,by omega,by go_num,by omega,by have:=E.out.2; have:=HS.out; show s1 - xl+_=_; omega⟩
  ·obtain rfl:i=N:=by omega
   have hfl:s1+xss.flatten.length=4096:=by
    have:=HS.out;rw [List.take_of_length_le (by rw [H.out.2.1]; omega)] at this;exact this
   have ez:Z=sput st d 1 xss.flatten:=by
    rw [<- H.out.1];unfold sblob;rw [if_neg (by omega)]
   have hco:=ZbW w P.out (by rw [H.out.2.1]; exact hl) (by omega)
   have HF:Hid (xss.flatten.length<=8192):=by show _<=_; omega
   have EZ:Hid (Z=sput st d 1 xss.flatten):=ez;clear hfl ez;go_wp2_with fail;refine hco.mono ?_;rintro e w1 ⟨v1,rfl,O1,B1⟩;have hpu:=ZgF H.out.2.2.2.1 B1 O1 HF.out (k:=1) (by omega) (by omega) 1 rfl H.out.2.2.2.2.1 H.out.2.2.2.2.2.1 H.out.2.2.2.2.2.2;rw [<- EZ.out] at hpu;clear hco O1 B1;go_wp2_with fail;refine hpu.mono ?_;rintro e w2 ⟨i2,r2,rfl,R2⟩;go_wp2;refine bodyPost_ret (results_tmp2 rfl _ _ _) rfl ?_;exact ⟨_,_,rfl,R2.out⟩
theorem ZhH {ao:Option Addr} {n c:Nat} {es:List En} (hD:Duo w s b st d U) (hr:RdG encE w ao es) (hl:es.length=n) (hn:n<=4000000000000000000) (hf:Fine es) (hc:n<=c) (hok:d.ok) (hw:d.writes<=1000000) (hob:st.objs.length<=1000000) :
  Calls Tryz.prog 32 #[.pointer (some ⟨s,0,none⟩),.slice ao n c] w λ e w'=>∃ i r,e=.returned (.tuple #[.int .u64 i,.int .i64 r])/\Hid (i=((stree st d es).2.1.toNat:Int)/\r=(stree st d es).2.2/\Duo w' s b (stree st d es).1.1 (stree st d es).1.2 (Zaj U w w')/\Zaa U w w'):=by
 obtain ⟨Z,hZ⟩:∃ Z,stree st d es=Z:=⟨_,rfl⟩
 rw [hZ]
 obtain ⟨fe,hfe⟩:∃ fe,(ftree es).2=fe:=⟨_,rfl⟩
 obtain ⟨fb,hfb⟩:∃ fb,(ftree es).1=fb:=⟨_,rfl⟩
 have htr:=Zln w hr hl hf hc;rw [hfe,hfb] at htr;by_cases h0:fe=0
 ·subst h0
  have hct:ctree es=0:=by
   unfold ftree at hfe
   split at hfe
   ·assumption
   ·exact hfe
  have hlen:fb.length<=8192:=by
   rw [<- hfb];unfold ftree;rw [if_pos hct];show (treeB es).length<=_;have h64:=(ZaQ hct).1
   have:∀ l:List En,(∀ e∈l,e.1.length<=102)->(treeB l).length<=111*l.length:=by
    intro l
    induction l with
    | nil=>intro _; simp [treeB]
    | cons x t ih =>
     intro hx;have:=ih (λ e he=>hx e (List.mem_cons_of_mem _ he));have e1:=hx x List.mem_cons_self
     have e2:(treeB (x::t)).length=(entB x).length+(treeB t).length:=by simp [treeB]
     rw [e2,Zdj,List.length_cons];omega
   have h2:=this es (λ e he=>Zbp (List.all_eq_true.1 (ZaQ hct).2.1 e he));omega
  obtain ⟨g,hg⟩:∃ g,st.blobs es=g:=⟨_,rfl⟩
  obtain ⟨S,T,hS,hT,hap,hU,hUl⟩:=hD
  have hD:Duo w s b st d U:=⟨S,T,hS,hT,hap,hU,hUl⟩
  have H:Hid (Zac w s b st S/\RdG encE w ao es/\es.length=n/\Duo w s b st d U/\d.ok/\d.writes<=1000000/\st.objs.length<=1000000/\fb.length<=8192/\st.blobs es=g/\stree st d es=Z/\(ftree es).2=0/\(ftree es).1=fb):=⟨hS,hr,hl,hD,hok,hw,hob,hlen,hg,hZ,hfe,hfb⟩
  clear hr hl hf hc hok hw hob hlen hg hZ hfe hfb hS hT hap hU hUl hD hct;go_enter Tryz.func32,Tryz.ntmps32;go_wp2_with fail;refine htr.mono ?_;rintro e w1 ⟨v1,rfl,O1⟩;have hb:=ZcW (c:=c) (H.out.1.below O1.out.2) (H.out.2.1.below O1.out.2) H.out.2.2.1 hn g H.out.2.2.2.2.2.2.2.2.1;clear htr;go_wp2_with fail;refine hb.mono ?_;rintro e w2 ⟨rfl,B2⟩;have B12:Hid (Below w.heap.size w w2):=O1.out.2.trans (B2.mono O1.out.2.size);have O2:Hid (OwnG encB 5 w2 w.heap.size v1 fb):=O1.out.1.below B2;clear hb B2 O1
  cases g with
  | false =>
   have ez:Z=((st,d),0,5):=by
    rw [<- H.out.2.2.2.2.2.2.2.2.2.1];unfold stree;rw [if_neg (by rw [H.out.2.2.2.2.2.2.2.2.2.2.1]; simp),if_pos H.out.2.2.2.2.2.2.2.2.1]
   subst ez;go_wp2;refine bodyPost_ret (results_tmp2 rfl _ _ _) rfl ?_;exact ⟨_,_,rfl,rfl,rfl,H.out.2.2.2.1.since B12.out,Zaa.ofBelow B12.out⟩
  | true =>
   have ez:Z=sput st d 2 fb:=by
    rw [<- H.out.2.2.2.2.2.2.2.2.2.1];unfold stree;rw [if_neg (by rw [H.out.2.2.2.2.2.2.2.2.2.2.1]; simp),if_neg (by rw [H.out.2.2.2.2.2.2.2.2.1]; simp),H.out.2.2.2.2.2.2.2.2.2.2.2]
   have hpu:=ZgF H.out.2.2.2.1 B12.out O2.out H.out.2.2.2.2.2.2.2.1 (k:=2) (by omega) (by omega) 2 rfl H.out.2.2.2.2.1 H.out.2.2.2.2.2.1 H.out.2.2.2.2.2.2.1;rw [<- ez] at hpu;clear ez;go_wp2_with fail;refine hpu.mono ?_;rintro e w3 ⟨i2,r2,rfl,R2⟩;go_wp2;refine bodyPost_ret (results_tmp2 rfl _ _ _) rfl ?_;exact ⟨_,_,rfl,R2.out⟩
 ·have ez:Z=((st,d),0,fe):=by
   rw [<- hZ];unfold stree;rw [if_pos (by rw [hfe]; exact h0),hfe]
  have m0:(fe != 0)=true:=by simpa using h0
  have H:Hid (Duo w s b st d U):=hD;subst ez;clear hr hl hf hc hok hw hob hZ hfe hfb hD;go_enter Tryz.func32,Tryz.ntmps32;go_wp2_with fail;refine htr.mono ?_;rintro e w1 ⟨v1,rfl,O1⟩;clear htr;go_wp2;refine bodyPost_ret (results_tmp2 rfl _ _ _) rfl ?_;exact ⟨_,_,rfl,rfl,rfl,H.out.since O1.out.2,Zaa.ofBelow O1.out.2⟩
theorem ZmB {pa:Option Addr} {pn pc:Nat} {cm:Cm} (hD:Duo w s b st d U) (hr:RdG encU w pa cm.ps) (hl:cm.ps.length=pn) (hn:pn<=4000000000000000000) (hpc:pn<=pc) (nt:ByteArray) (hnt:nt=⟨cm.note.toArray⟩) (dt:Int) (hdt:cm.date=dt) (hok:d.ok) (hw:d.writes<=1000000) (hob:st.objs.length<=1000000) :
  Calls Tryz.prog 44 #[.pointer (some ⟨s,0,none⟩),.agg #[.int .u64 (cm.tree.toNat:Int),.slice pa pn pc,.int .i64 dt,.string nt]] w λ e w'=>∃ i r,e=.returned (.tuple #[.int .u64 i,.int .i64 r])/\Hid (i=((scom st d cm).2.1.toNat:Int)/\r=(scom st d cm).2.2/\Duo w' s b (scom st d cm).1.1 (scom st d cm).1.2 (Zaj U w w')/\Zaa U w w'):=by
 obtain ⟨Z,hZ⟩:∃ Z,scom st d cm=Z:=⟨_,rfl⟩
 rw [hZ]
 obtain ⟨fe,hfe⟩:∃ fe,(fcom cm).2=fe:=⟨_,rfl⟩
 obtain ⟨fb,hfb⟩:∃ fb,(fcom cm).1=fb:=⟨_,rfl⟩
 have hct0:=λ (W:World) (bW:Below w.heap.size w W)=>ZmT (c:=cm) (hr.below bW) hl hpc nt hnt dt hdt
 have hba0:=λ (W:World) (S:Nat->Prop) (hS:Zac W s b st S) (bW:Below w.heap.size w W) (g:Bool) (hg:st.above cm=g)=>ZdJ (pc:=pc) (cm:=cm) hS (hr.below bW) hl hn dt nt g hg
 obtain ⟨tr,htr⟩:∃ tr,(cm.tree.toNat:Int)=tr:=⟨_,rfl⟩
 rw [htr] at hct0 hba0 ⊢
 obtain ⟨W,hW⟩:∃ W,w.alloc (.cells #[.int .u64 tr,.slice pa pn pc,.int .i64 dt,.string nt] 67)=W:=⟨_,rfl⟩
 have bW:Below w.heap.size w W:=by rw [<- hW]; exact bz1 _ _
 have bx:Box4 W w.heap.size 67 (.int .u64 tr) (.slice pa pn pc) (.int .i64 dt) (.string nt):=by rw [<- hW]; exact Box4.new _ _ _ _ _ _
 obtain ⟨x0,x1,x2,x3⟩:=bx.cells;have hco:=hct0 W bW;rw [hfe,hfb] at hco;by_cases h0:fe=0
 ·subst h0
  have hct:ccom cm=0:=by
   unfold fcom at hfe
   split at hfe
   ·assumption
   ·exact hfe
  have hlen:fb.length<=8192:=by
   rw [<- hfb];unfold fcom;rw [if_pos hct];show (comB cm).length<=_;have h1:=(Zb4 hct).2.1;have h2:=Za3 hct;omega
  obtain ⟨g,hg⟩:∃ g,st.above cm=g:=⟨_,rfl⟩
  obtain ⟨S,T,hS,hT,hap,hU,hUl⟩:=hD
  have hD:Duo w s b st d U:=⟨S,T,hS,hT,hap,hU,hUl⟩
  have hba:=λ W2 (b2:Below W.heap.size W W2)=>hba0 W2 S (hS.below (bW.trans (b2.mono bW.size))) (bW.trans (b2.mono bW.size)) g hg
  have HB:Hid (∀ W2,Below W.heap.size W W2->Calls Tryz.prog 121 #[.pointer (some ⟨s,0,none⟩),.agg #[.int .u64 tr,.slice pa pn pc,.int .i64 dt,.string nt]] W2 λ e w'=>e=.returned (.bool g)/\Below W2.heap.size W2 w'):=hba
  have H:Hid (Below w.heap.size w W/\Box4 W w.heap.size 67 (.int .u64 tr) (.slice pa pn pc) (.int .i64 dt) (.string nt)/\Duo w s b st d U/\d.ok/\d.writes<=1000000/\st.objs.length<=1000000/\fb.length<=8192/\st.above cm=g/\scom st d cm=Z/\(fcom cm).2=0/\(fcom cm).1=fb):=⟨bW,bx,hD,hok,hw,hob,hlen,hg,hZ,hfe,hfb⟩
  clear hr hl hpc hnt hdt hok hw hob hlen hg hZ hfe hfb hS hT hap hU hUl hD hct hba hba0 hct0 htr bW bx;go_enter Tryz.func44,Tryz.ntmps44;go_wp2_with fail;refine hco.mono ?_;rintro e w1 ⟨v1,rfl,O1⟩;have hb:=HB.out w1 O1.out.2;obtain ⟨y0,y1,y2,y3⟩:=(H.out.2.1.below O1.out.2 H.out.2.1.lt).cells;clear hco;go_wp2_with fail;refine hb.mono ?_;rintro e w2 ⟨rfl,B2⟩;have B12:Hid (Below w.heap.size w w2):=H.out.1.trans ((O1.out.2.trans (B2.mono O1.out.2.size)).mono H.out.1.size);have O2:Hid (OwnG encB 5 w2 w.heap.size v1 fb):=(O1.out.1.low H.out.1.size).below B2;clear hb B2 O1 y0 y1 y2 y3
  cases g with
  | false =>
   have ez:Z=((st,d),0,5):=by
    rw [<- H.out.2.2.2.2.2.2.2.2.1];unfold scom;rw [if_neg (by rw [H.out.2.2.2.2.2.2.2.2.2.1]; simp),if_pos H.out.2.2.2.2.2.2.2.1]
   subst ez;go_wp2;refine bodyPost_ret (results_tmp2 rfl _ _ _) rfl ?_;exact ⟨_,_,rfl,rfl,rfl,H.out.2.2.1.since B12.out,Zaa.ofBelow B12.out⟩
  | true =>
   have ez:Z=sput st d 3 fb:=by
    rw [<- H.out.2.2.2.2.2.2.2.2.1];unfold scom;rw [if_neg (by rw [H.out.2.2.2.2.2.2.2.2.2.1]; simp),if_neg (by rw [H.out.2.2.2.2.2.2.2.1]; simp),H.out.2.2.2.2.2.2.2.2.2.2]
   have hpu:=ZgF H.out.2.2.1 B12.out O2.out H.out.2.2.2.2.2.2.1 (k:=3) (by omega) (by omega) 3 rfl H.out.2.2.2.1 H.out.2.2.2.2.1 H.out.2.2.2.2.2.1;rw [<- ez] at hpu;clear ez;go_wp2_with fail;refine hpu.mono ?_;rintro e w3 ⟨i2,r2,rfl,R2⟩;go_wp2;refine bodyPost_ret (results_tmp2 rfl _ _ _) rfl ?_;exact ⟨_,_,rfl,R2.out⟩
 ·have ez:Z=((st,d),0,fe):=by
   rw [<- hZ];unfold scom;rw [if_pos (by rw [hfe]; exact h0),hfe]
  have m0:(fe != 0)=true:=by simpa using h0
  have H:Hid (Duo w s b st d U/\Below w.heap.size w W):=⟨hD,bW⟩
  subst ez;clear hr hl hpc hok hw hob hZ hfe hfb hD hba0 hct0 htr bW bx hnt hdt;go_enter Tryz.func44,Tryz.ntmps44;go_wp2_with fail;refine hco.mono ?_;rintro e w1 ⟨v1,rfl,O1⟩;clear hco;go_wp2;refine bodyPost_ret (results_tmp2 rfl _ _ _) rfl ?_;have B1:=H.out.2.trans (O1.out.2.mono H.out.2.size);exact ⟨_,_,rfl,rfl,rfl,H.out.1.since B1,Zaa.ofBelow B1⟩
end
theorem Zap (s:ByteArray) (hm:s.size<=9223372036854775807) (w:World) :
  Calls Tryz.prog 125 #[.string s] w λ e w'=>e=.returned (.bool (isName s.data.toList))/\w'=w:=by
 have E:Hid (s.size=s.data.toList.length):=bsize s;go_enter Tryz.func125,Tryz.ntmps125;go_wp2_with fail;go_loopg [3] s.size (λ k v wr=>∃ i:Nat,v=.int .i64 i/\i+k=s.size/\wr=w/\Hid ((s.data.toList.take i).all okB=true))
 case atStart=>exact ⟨0,rfl,by omega,rfl,by simp [Hid]⟩
 case round =>
  obtain ⟨i,rfl,hi,rfl,HA⟩:=hrel;by_cases hin:i<s.size
  ·obtain ⟨c,hc⟩:∃ c:Int,(s[i].toNat:Int)=c:=⟨_,rfl⟩
   have HC:Hid ((s[i].toNat:Int)=c):=hc;go_wp2_with fail
   all_goals first
    | (have ok:okI c=true:=by (clear HA HC hc E; simp_all [okI]; try omega)
       go_roundg (gk - 1)
       case measure=>omega
       case rel=>exact ⟨i+1,by go_num,by omega,rfl,Zfn (E.out ▸ hin) HA.out (HC.out ▸ ok)⟩)
    | (have ok:okI c=false:=by (clear HA HC hc E; simp_all [okI]; try omega)
       go_ret
       exact ⟨by rw [Zg5 (E.out ▸ hin) (HC.out ▸ ok)]; rfl,rfl⟩)
  ·obtain rfl:i=s.size:=by omega
   have HB:=HA.out;rw [E.out,List.take_length] at HB
   have e:isName s.data.toList=(decide (1<=s.size)&&decide (s.size<=16)):=by rw [isName,HB,<- E.out,Bool.and_true]
   have EE:Hid (isName s.data.toList=(decide (1<=s.size)&&decide (s.size<=16))):=e;clear HB e HA;go_wp2
   all_goals go_ret
   all_goals refine ⟨congrArg (λ b=>Ending.returned (Value.bool b)) ?_,rfl⟩
   all_goals (rw [EE.out,Bool.eq_iff_iff]; simp; try omega)
theorem Zgq {p d:Bs} (h:p.length<d.length):under p d=false:=by
 rw [Bool.eq_false_iff];intro q;simp only [under,Bool.or_eq_true,List.isPrefixOf_iff_prefix,beq_iff_eq] at q
 rcases q with rfl | q
 ·omega
 ·have:=q.length_le;simp at this;omega
theorem ZiH {p d:Bs} (q:under p d=true):p.take d.length=d:=by
 simp only [under,Bool.or_eq_true,List.isPrefixOf_iff_prefix,beq_iff_eq] at q
 rcases q with rfl | ⟨u,rfl⟩
 ·simp
 ·simp
theorem Zlf {p d:Bs} (h:p.take d.length≠d):under p d=false:=by
 rw [Bool.eq_false_iff]
 exact λ q=>h (ZiH q)
theorem Zk3 {p d:Bs} (h:p.take d.length=d) (hl:p.length=d.length):under p d=true:=by
 rw [<- hl,List.take_length] at h;simp [under,h]
theorem ZlM {p d:Bs} (h:p.take d.length=d) (hl:d.length<p.length):under p d=decide (((p[d.length]).toNat:Int)=47):=by
 obtain ⟨u,rfl⟩:∃ u,p=d++u:=⟨p.drop d.length,by
  have:=List.take_append_drop d.length p;rw [h] at this
  exact this.symm⟩
 cases u with
 | nil=>simp at hl
 | cons c t =>
  have e1:(d++c::t)[d.length]=c:=by simp
  rw [e1,Bool.eq_iff_iff];simp only [under,Bool.or_eq_true,List.isPrefixOf_iff_prefix,beq_iff_eq,decide_eq_true_eq]
  constructor
  ·rintro (q | ⟨u,q⟩)
   ·simp at q
   ·rw [List.append_assoc,List.append_cancel_left_eq] at q;simp at q;rw [<- q.1]; rfl
  ·intro q
   right
   have c47:c.toNat=(47:UInt8).toNat:=by show c.toNat=47; omega
   have:c=47:=UInt8.toNat_inj.1 c47;subst this;exact ⟨t,by simp⟩
theorem ZnA {p d:ByteArray}:((p.extract 0 d.size).toList==d.toList)=(p.data.toList.take d.data.toList.length==d.data.toList):=by
 rw [ZbV,ByteArray.toList_mk,ByteArray.toList_eq,bsize]
theorem Zib (p d:ByteArray) (w:World) :
  Calls Tryz.prog 178 #[.string p,.string d] w λ e w'=>e=.returned (.bool (under p.data.toList d.data.toList))/\w'=w:=by
 have hp:Hid _:=bsize p;have hd:Hid _:=bsize d;by_cases h1:p.size<d.size
 ·rw [Zgq (by rw [<- hp.out,<- hd.out]; exact h1)];go_enter Tryz.func178,Tryz.ntmps178;go_wp2;go_ret;exact ⟨rfl,rfl⟩
 ·have X:=@ZnA p d
  obtain ⟨f,hf⟩:∃ f,((p.extract 0 d.size).toList==d.toList)=f:=⟨_,rfl⟩
  cases f with
  | false =>
   rw [Zlf (by rw [hf] at X; simpa using X.symm)]
   have hf2:(!(p.extract 0 d.size).toList==d.toList)=true:=by rw [hf]; rfl
   have hf3:¬ List.take d.size p.data.toList=d.data.toList:=by rw [hf] at X; rw [hd.out]; simpa using X.symm
   go_enter Tryz.func178,Tryz.ntmps178;go_wp2
   all_goals go_ret
   all_goals first
    | exact ⟨rfl,rfl⟩
    | (exfalso; clear X hp hd; simp_all; done)
  | true =>
   have T:p.data.toList.take d.data.toList.length=d.data.toList:=by rw [hf] at X; simpa using X.symm
   have hf2:(!(p.extract 0 d.size).toList==d.toList)=false:=by rw [hf]; rfl
   by_cases h2:p.size=d.size
   ·rw [Zk3 T (by rw [<- hp.out,<- hd.out]; exact h2)];clear X T;go_enter Tryz.func178,Tryz.ntmps178;go_wp2
    all_goals go_ret
    all_goals exact ⟨rfl,rfl⟩
   ·have h3:d.size<p.size:=by omega
    have U:=ZlM T (by rw [<- hp.out,<- hd.out]; exact h3);rw [U]
    have e:(p.data.toList[d.data.toList.length]'(by rw [<- hp.out,<- hd.out]; exact h3))=p[d.size]:=by
     show p.data.toList[d.data.toList.length]'_=p.data.toList[d.size]'_
     congr 1
    rw [e];clear X T U;go_enter Tryz.func178,Tryz.ntmps178;go_wp2
    all_goals go_ret
    all_goals refine ⟨congrArg (λ b=>Ending.returned (Value.bool b)) ?_,rfl⟩
    all_goals (rw [Bool.eq_iff_iff]; simp; try omega)
end Go.Proofs.YtmhcpbbiokpjjaaGreat
