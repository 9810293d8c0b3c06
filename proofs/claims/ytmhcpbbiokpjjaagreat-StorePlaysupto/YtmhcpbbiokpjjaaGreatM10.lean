/-
  Several texts, laid together.
-/
import Derived.Test.YtmhcpbbiokpjjaaGreatM09
import Derived.Test.YtmhcpbbiokpjjaaGreatM08
set_option maxHeartbeats 6400000
set_option maxRecDepth 100000
namespace Go.Proofs.YtmhcpbbiokpjjaaGreat
open Go.RowKit
theorem Zaw (n:Bs):(⟨n.toArray⟩:ByteArray).size=n.length:=by simp [ByteArray.size]
section
variable {S:Nat->Prop} {X:Bs->Prop} {w:World} {b m:Nat} {f:Bs->Option Value} {a k:Int} {d:Dk}
theorem ZaE.look (h:ZaE w b m f a k d S X) (n:Bs) (hn:n.length<=maxLen) (o:Option Value) (ho:f n=o) :
  (Instr.lookup 200 (.map (some m)) (tx n) true).run Tryz.prog w=.ok (.tuple #[o.getD (.slice none 0 0),.bool o.isSome]) w:=by
 subst ho;exact h.files.map.look ⟨n.toArray⟩ (by rw [Zaw]; exact hn)
theorem ZaE.look1 (h:ZaE w b m f a k d S X) (n:Bs) (hn:n.length<=maxLen) (o:Option Value) (ho:f n=o) :
  (Instr.lookup 200 (.map (some m)) (tx n) false).run Tryz.prog w=.ok (o.getD (.slice none 0 0)) w:=by
 subst ho;exact h.files.map.look1 ⟨n.toArray⟩ (by rw [Zaw]; exact hn)
theorem ZlV (b:Nat) (n:Bs) (hg:isName n=false):Calls Tryz.prog 167 #[.pointer (some ⟨b,0,none⟩),tx n] w λ e w'=>e=.returned (.tuple #[.slice none 0 0,.int .i64 2])/\w'=w:=by
 have hc:=ZaW n false hg w;clear hg;go_enter Tryz.func167,Tryz.ntmps167;go_wp2_with fail;refine hc.mono ?_;rintro e w1 ⟨rfl,rfl⟩;go_wp2;refine bodyPost_ret (results_tmp2 rfl _ _ _) rfl ?_;exact ⟨rfl,rfl⟩
theorem Zjx (h:Zal w b m f a k d S) (n:Bs) (hg:isName n=true) (hn:n.length<=maxLen) (hf:f n=none) :
  Calls Tryz.prog 167 #[.pointer (some ⟨b,0,none⟩),tx n] w λ e w'=>e=.returned (.tuple #[.slice none 0 0,.int .i64 5])/\w'=w:=by
 have hc:=ZaW n true hg w;have hr:=h.look n hn _ hf;have c0:=h.cell.1;have H:Hid _:=h;clear hg hf h;go_enter Tryz.func167,Tryz.ntmps167;go_wp2_with fail;refine hc.mono ?_;rintro e w1 ⟨rfl,rfl⟩;go_wp2;refine bodyPost_ret (results_tmp2 rfl _ _ _) rfl ?_;exact ⟨rfl,rfl⟩
theorem ZgA (h:Zal w b m f a k d S) (n:Bs) (hg:isName n=true) (hn:n.length<=maxLen) {v:Value} (hf:f n=some v) :
  Calls Tryz.prog 167 #[.pointer (some ⟨b,0,none⟩),tx n] w λ e w'=>e=.returned (.tuple #[v,.int .i64 0])/\w'=w:=by
 have hc:=ZaW n true hg w;have hr:=h.look n hn _ hf;have c0:=h.cell.1;have H:Hid _:=h;clear hg hf h;go_enter Tryz.func167,Tryz.ntmps167;go_wp2_with fail;refine hc.mono ?_;rintro e w1 ⟨rfl,rfl⟩;go_wp2;refine bodyPost_ret (results_tmp2 rfl _ _ _) rfl ?_;exact ⟨rfl,rfl⟩
theorem Zmg (h:Zal w b m f a k d S) (n:Bs) (hn:n.length<=maxLen) (o:Option Value) (ho:f n=o) (bs:Bs) (hB:BAt w (o.getD (.slice none 0 0)) bs) (hl:bs.length<=262144) :
  Calls Tryz.prog 61 #[.pointer (some ⟨b,0,none⟩),tx n] w λ e w'=>∃ v,e=.returned (.tuple #[v,.bool o.isSome])/\OwnG encB 5 w' w.heap.size v bs/\Below w.heap.size w w':=by
 have hc:=Zb5 w hB (by omega);have hr:=h.look n hn o ho;have c0:=h.cell.1;have H:Hid _:=h;clear ho h hB
 obtain ⟨u,hu⟩:∃ u,o.getD (.slice none 0 0)=u:=⟨_,rfl⟩
 obtain ⟨g,hg⟩:∃ g,o.isSome=g:=⟨_,rfl⟩
 rw [hu,hg] at hr;rw [hu] at hc;rw [hg];go_enter Tryz.func61,Tryz.ntmps61;go_wp2_with fail;refine hc.mono ?_;rintro e w1 ⟨v,rfl,hO,hB⟩;go_wp2;refine bodyPost_ret (results_tmp2 rfl _ _ _) rfl ?_;exact ⟨v,rfl,hO,hB⟩
theorem ZgV (h:Zao w b d S) (n:Bs) (hn:n.length<=maxLen) (hl:∀ bs,fget d.files n=some bs->bs.length<=262144) :
  Calls Tryz.prog 61 #[.pointer (some ⟨b,0,none⟩),tx n] w λ e w'=>∃ v,e=.returned (.tuple #[v,.bool (fget d.files n).isSome])/\OwnG encB 5 w' w.heap.size v ((fget d.files n).getD [])/\Below w.heap.size w w':=by
 obtain ⟨m,f,a,k,h⟩:=h
 rcases h.file n with ⟨h1,h2⟩ | ⟨bs,v,h1,h2,ho⟩
 ·rw [h1];exact Zmg h n hn none h2 [] (OwnB.at (OwnG.nil _ _ _ _)) (by simp)
 ·rw [h1];exact Zmg h n hn (some v) h2 bs (OwnB.at (ho.elim False.elim id)) (hl bs h1)
theorem Zdo (h:Zal w b m f a k d S) (n:Bs) (hn:n.length<=maxLen) (z:Nat) (hz:z<=262144) {v:Value} {xss:List Bs} (hp:Zau w v xss) (hl:xss.length<=1000000) (hx:∀ x∈xss,x.length<=140737488355328)
  (g:Bool) (hg:(decide (z+xss.flatten.length<=262144)&&((fget d.files n).isSome||decide (d.files.length<32)))=g) :
  Calls Tryz.prog 182 #[.pointer (some ⟨b,0,none⟩),tx n,.int .i64 (z:Int),v] w λ e w'=>e=.returned (.bool g)/\w'=w:=by
 obtain ⟨ao,c,rfl,h1,h2⟩:=hp
 obtain ⟨N,eN⟩:∃ N,xss.length=N:=⟨_,rfl⟩
 rw [eN] at hl h1 ⊢;have hr:=h.look n hn _ rfl;rw [h.some_iff n] at hr
 obtain ⟨u,hu⟩:∃ u,(f n).getD (.slice none 0 0)=u:=⟨_,rfl⟩
 obtain ⟨q,hq⟩:∃ q,(fget d.files n).isSome=q:=⟨_,rfl⟩
 obtain ⟨L,hL⟩:∃ L,d.files.length=L:=⟨_,rfl⟩
 rw [hu,hq] at hr;rw [hq,hL] at hg;have hlen:=h.files.map.len;rw [hL] at hlen;have c0:=h.cell.1;have A:Hid (0<N->∃ b off,ao=some ⟨b,off,none⟩/\b<w.heap.size):=h1;have B:Hid (∀ j x b off,xss[j]? = some x->ao=some ⟨b,off,none⟩->∃ u,w.cell? ⟨b,off+j,none⟩=some u/\BAt w u x):=h2
 have H:Hid ((decide (z+xss.flatten.length<=262144)&&(q||decide (L<32)))=g/\xss.length=N/\∀ x∈xss,x.length<=140737488355328):=⟨hg,eN,hx⟩
 clear h1 h2 hg eN hx hu hq h;go_enter Tryz.func182,Tryz.ntmps182;go_wp2;go_loopg [2,15] N (λ k sv iv wr=>wr=w/\∃ i s:Nat,iv=.int .i64 i/\i+k=N/\sv=.int .i64 (s:Int)/\s<=262144/\Hid (s=z+(xss.take i).flatten.length))
 case atStart=>exact ⟨rfl,0,z,rfl,by omega,rfl,hz,rfl⟩
 case round =>
  obtain ⟨hw,i,s,rfl,hi,rfl,hs,HS⟩:=hrel;have hw':=hw.symm;subst hw';clear hw;by_cases hin:i<N
  ·have id:(i:Int)<(N:Int):=by omega
   obtain ⟨x,hx⟩:=Zaf H.out.2.1 hin;obtain ⟨b1,o1,rfl,hlt⟩:=A.out (by omega);obtain ⟨u,hu,a2,c2,rfl,_,_,_⟩:=B.out i x b1 o1 hx rfl;have e2:=Zdn xss (i+1);rw [ZaZ hx,List.length_append] at e2;have hxl:=H.out.2.2 x (List.mem_of_getElem? hx)
   obtain ⟨xl,exl⟩:∃ xl,x.length=xl:=⟨_,rfl⟩
   rw [exl] at hxl hu e2
   have E:Hid ((xss.take i).flatten.length+xl<=xss.flatten.length/\s+xl=z+(xss.take (i+1)).flatten.length):=⟨e2,by rw [ZaZ hx,List.length_append,exl,HS.out]; omega⟩
   clear e2 hx exl;by_cases hbig:262144<s+xl
   ·have t:decide ((262144:Int)<(s:Int)+(xl:Int))=true:=by simp; omega
    have gf:g=false:=by
     rw [<- H.out.1]
     have:decide (z+xss.flatten.length<=262144)=false:=by
      have e3:=E.out.1;have e4:=HS.out;rw [decide_eq_false_iff_not];omega
     rw [this]
     rfl
    subst gf;go_wp2;go_ret;exact ⟨rfl,rfl⟩
   ·have t:decide ((262144:Int)<(s:Int)+(xl:Int))=false:=by simp; omega
    go_wp2;go_roundg (gk - 1)
    all_goals first
     | omega
     | exact ⟨rfl,i+1,s+xl,by go_num,by omega,by go_num,by omega,E.out.2⟩
  ·obtain rfl:i=N:=by omega
   have e0:s=z+xss.flatten.length:=by rw [HS.out,List.take_of_length_le (by rw [H.out.2.1]; exact Nat.le_refl _)]
   have hg:(q||decide (L<32))=g:=by
    rw [<- H.out.1]
    have:decide (z+xss.flatten.length<=262144)=true:=by rw [decide_eq_true_eq]; omega
    rw [this]
    rfl
   clear e0;cases q
   ·have hg':decide ((L:Int)<32)=g:=by rw [<- hg,Bool.false_or]; exact decide_eq_decide.2 (by omega)
    clear hg;go_wp2;go_ret;exact ⟨rfl,rfl⟩
   ·subst hg;go_wp2;go_ret;exact ⟨rfl,rfl⟩
end
section
variable {S:Nat->Prop} {X:Bs->Prop} {w:World} {b m:Nat} {f:Bs->Option Value} {a k:Int} {d:Dk}
theorem ZbT {w w':World} {m:Nat} (h:w.grownBy w' (some m)):Zaa (λ i=>i=m) w w':=(Zaa.refl _ w).grown h (λ i _ e=>by cases e; rfl)
theorem ZiG {w w':World} {m:Nat} (h:w.grownBy w' (some m)) {p:Addr} (hp:p.block<w.heap.size) (hne:p.block≠m):w'.cell? p=w.cell? p:=(ZbT h).cell hp hne
theorem ZaE.putIn (h:ZaE w b m f a k d S X) (hr:Za4 d.files) {n bs:Bs} (hX:∀ x,X x->x=n) {v:Value} (hv:OwnB w v bs) (hap:∀ y u g,y≠n->f y=some u->u.ownBlock=some g->v.ownBlock≠some g) (hvS:∀ g,v.ownBlock=some g->S g)
  {w':World} (hg:w.grownBy w' (some m)) (hm:ZbM w' m (fput f n v) (if (f n).isSome then d.files.length else d.files.length+1)) :
  Zal w' b m (fput f n v) a k { d with files:=fwith d.files n bs } S:=by
 have ht:Zaa (λ i=>i=m) w w':=(Zaa.refl _ w).grown hg (λ i _ e=>by cases e; rfl)
 have ne_m:∀ {u:Value} {cs:Bs} {g:Nat},OwnB w u cs->u.ownBlock=some g->g≠m:=by
  intro u cs g ho hg e;obtain ⟨cur,hc⟩:=ho.block hg;obtain ⟨es,c,hmb⟩:=h.files.map.block;rw [e,hmb] at hc;cases hc
 refine ⟨?_,h.cut,?_,h.mine,λ i hi=>Nat.lt_of_lt_of_le (h.lt i hi) hg.size⟩
 ·rw [ht.block b h.lt_b (λ e=>h.m_ne e.symm)];exact h.cells
 ·refine ⟨?_,?_,?_,?_,?_⟩
  ·rw [ZdL n bs hr,<- h.some_iff n];cases e:(f n).isSome
   ·rw [e] at hm; exact hm
   ·rw [e] at hm; exact hm
  ·intro x hx;rw [Zcy n bs x hr] at hx;by_cases e:n=x
   ·rw [if_pos e] at hx; cases hx
   ·rw [if_neg e] at hx;unfold fput;rw [if_neg (λ q=>e q.symm)];exact h.files.no x hx
  ·intro x cs hx;rw [Zcy n bs x hr] at hx;unfold fput;by_cases e:n=x
   ·rw [if_pos e] at hx;cases hx;rw [if_pos e.symm];exact ⟨v,rfl,.inr (hv.turned ht (λ g hg=>ne_m hv hg))⟩
   ·rw [if_neg e] at hx;rw [if_neg (λ q=>e q.symm)];obtain ⟨u,hu,ho⟩:=h.files.yes x cs hx;refine ⟨u,hu,.inr ?_⟩
    rcases ho with q | q
    ·exact absurd (hX x q).symm e
    ·exact q.turned ht (λ g hg=>ne_m q hg)
  ·intro x y u v' g hxy hx hy hu;unfold fput at hx hy;by_cases e1:x=n
   ·rw [if_pos e1] at hx;cases hx;rw [if_neg (λ q=>hxy (by rw [e1,q]))] at hy;intro q;exact hap y v' g (λ q=>hxy (by rw [e1,q])) hy q hu
   ·rw [if_neg e1] at hx;by_cases e2:y=n
    ·rw [if_pos e2] at hy;cases hy;exact hap x u g e1 hx hu
    ·rw [if_neg e2] at hy;exact h.files.apart x y u v' g hxy hx hy hu
  ·intro x u g hx hu;unfold fput at hx;by_cases e:x=n
   ·rw [if_pos e] at hx;cases hx;exact hvS g hu
   ·rw [if_neg e] at hx;exact h.files.own x u g hx hu
theorem Zgv (h:ZaE w b m f a k d S X) (hr:Za4 d.files) (hl:d.files.length<=1000) {n bs:Bs} (hn:n.length<=140737488355328) (hX:∀ x,X x->x=n) {v:Value} (hv:OwnB w v bs) (hap:∀ y u g,y≠n->f y=some u->u.ownBlock=some g->v.ownBlock≠some g) (hvS:∀ g,v.ownBlock=some g->S g) :
  Calls Tryz.prog 169 #[.pointer (some ⟨b,0,none⟩),tx n,v] w λ e w'=>e=.returned (.tuple #[])/\Zal w' b m (fput f n v) a k { d with files:=fwith d.files n bs } S/\Zaa (λ i=>i=m) w w':=by
 have c0:=h.cell.1
 have H:Hid (ZaE w b m f a k d S X/\Za4 d.files/\d.files.length<=1000/\(∀ x,X x->x=n)/\OwnB w v bs/\(∀ y u g,y≠n->f y=some u->u.ownBlock=some g->v.ownBlock≠some g)/\∀ g,v.ownBlock=some g->S g):=⟨h,hr,hl,hX,hv,hap,hvS⟩
 clear h hr hl hX hv hap hvS;go_enter Tryz.func169,Tryz.ntmps169;go_wp2_with fail
 go_region_held3 (λ u=>u.cell? ⟨b,0,none⟩=some (.map (some m))) (go_keep)
  (first | (go_at_call 226; refine (ZhQ ⟨n.toArray⟩ _ (by rw [Zaw]; omega)).mono ?_; rintro e w1 ⟨rfl,B0⟩; have B1:=Zag B0; obtain ⟨w2,hrun,hm2,hg2⟩:=(H.out.1.below B1).files.map.put ⟨n.toArray⟩ (by rw [Zaw]; simp only [maxLen]; omega) (by have:=H.out.2.2.1; simp only [maxLen]; omega) v; have k1:=(H.out.1.below B1).cell.1; have k2:=(ZiG hg2 (p:=⟨b,0,none⟩) (H.out.1.below B1).lt_b (λ e=>H.out.1.m_ne e.symm)).trans k1; have M:Hid (Below w.heap.size w w1/\w1.grownBy w2 (some m)/\ZbM w2 m (fput f n v) (if (f n).isSome then d.files.length else d.files.length+1)):=⟨B1,hg2,hm2⟩; clear B0 B1 hm2 hg2))
 go_end0;have hw1:=M.out.1;have hD:=H.out.1.below hw1;have ho:=H.out.2.2.2.2.1.turned (Zaa.ofBelow (S:=λ _=>False) hw1) (λ _ _ q=>q);exact ⟨rfl,ZaE.putIn hD H.out.2.1 H.out.2.2.2.1 ho H.out.2.2.2.2.2.1 H.out.2.2.2.2.2.2 M.out.2.1 M.out.2.2,(Zaa.ofBelow hw1).trans (ZbT M.out.2.1) (λ _ _ q=>q)⟩
theorem Zal.row_lt (h:Zal w b m f a k d S) {x:Bs} {v:Value} {g:Nat} (hx:f x=some v) (hg:v.ownBlock=some g):g<w.heap.size:=h.lt g (h.files.own x v g hx hg)
theorem Zi0 {w1 w2 w3:World} {n cs:Bs} {va v3:Value} {a':Int} {d':Dk} (h:Zal w b m f a k d S) (hva:∀ g,va.ownBlock=some g->f n=some va) (B1:Below w.heap.size w w1) (hD:Zal w2 b m f a' k d' S) (ht2:Zaa (λ i=>i=b) w1 w2)
  (hO:OwnB w3 v3 cs) (hM:ZaS w2 va v3) (ht3:Zaa (λ i=>va.ownBlock=some i) w2 w3) :
  ZaE w3 b m f a' k d' (Zaj S w w3) (λ x=>x=n)/\(∀ y u g,y≠n->f y=some u->u.ownBlock=some g->v3.ownBlock≠some g)/\(∀ g,v3.ownBlock=some g->Zaj S w w3 g)/\Zaa S w w3:=by
 have hS:∀ i,S i->i<w3.heap.size:=λ i hi=>Nat.lt_of_lt_of_le (hD.lt i hi) ht3.size
 have hbk:∀ g,va.ownBlock=some g->g≠b/\g≠m/\S g:=λ g hg=>⟨(Zal.row_ne hD (hva g hg) hg).1,(Zal.row_ne hD (hva g hg) hg).2,hD.files.own n va g (hva g hg) hg⟩
 have hw2:w.heap.size<=w2.heap.size:=Nat.le_trans B1.size ht2.size;refine ⟨⟨?_,hD.cut,?_,⟨.inl hD.mine.1,.inl hD.mine.2⟩,?_⟩,?_,?_,?_⟩
 ·rw [ht3.block b hD.lt_b (λ e=>(hbk b e).1 rfl)];exact hD.cells
 ·refine (Zcz.mono hD.files (S':=Zaj S w w3) (X':=λ x=>x=n) (λ i hi=>.inl hi) (λ _ q=>q.elim)).turned ht3 (λ e=>(hbk m e).2.1 rfl) ?_;intro x u g hx hne hu hg;exact hD.files.apart x n u va g hne hx (hva g hg) hu hg
 ·intro i hi
  rcases hi with q | q
  ·exact hS i q
  ·exact q.2
 ·intro y u g hy hu hg q
  rcases hM with e | e
  ·have hg':va.ownBlock=some g:=by rw [<- e]; exact q
   exact hD.files.apart y n u va g hy hu (hva g hg') hg hg'
  ·have h1:=e g q;have h2:=Zal.row_lt hD hu hg;omega
 ·intro g hg
  rcases hM with e | e
  ·exact .inl (hbk g (by rw [<- e]; exact hg)).2.2
  ·have h1:=e g hg;exact .inr ⟨by omega,(hO.lt g hg).2⟩
 ·refine ((Zaa.ofBelow B1).trans (ht2.mono (T:=S) (λ i _ e=>by rw [e]; exact h.mine.1)) (λ _ _ q=>q)).trans (ht3.mono (T:=S) (λ i _ e=>(hbk i e).2.2)) (λ _ _ q=>q)
theorem Zgr {w3 w4:World} {a':Int} {d':Dk} {f':Bs->Option Value} (hm:S m) (hT:Zaa S w w3) (hD:Zal w4 b m f' a' k d' (Zaj S w w3)) (ht:Zaa (λ i=>i=m) w3 w4):Zao w4 b d' (Zaj S w w4)/\Zaa S w w4:=by
 refine ⟨⟨m,f',a',k,ZaE.mono hD (λ i hi=>?_) (λ _ q=>q) (λ i hi=>?_)⟩,hT.trans (ht.mono (T:=S) (λ i _ e=>by rw [e]; exact hm)) (λ _ _ q=>q)⟩
 ·rcases hi with q | q
  ·exact .inl q
  ·exact .inr ⟨q.1,Nat.lt_of_lt_of_le q.2 ht.size⟩
 ·rcases hi with q | q
  ·exact hD.lt i (.inl q)
  ·exact q.2
theorem ZlE {v:Value} {xs:Bs} {j:Nat} (w0:World) (h:BAt w0 v xs) (hj:j<=xs.length) :
  ∃ v',(∀ w,(Instr.slice 39 v none (some (.int .i64 (j:Int))) none).run Tryz.prog w=.ok v' w)/\∀ w,BAt w v xs->BAt w v' (xs.take j):=by
 obtain ⟨i0,hi0,hz0,hz1,hz2⟩:=info_parts Tryz.info5;obtain ⟨ao,c,rfl,h1,h2,h3⟩:=h;refine ⟨.slice (if c=0 then ao else ao.map (·.add 0)) j c,λ w=>?_,λ w hB=>?_⟩
 ·rw [run_slice_h w 39 ao xs.length c Tryz.underlying39 .i64 (j:Int) (by omega) (by omega)]
  have:(sizeOf (Tryz.prog.elem 39)).run Tryz.prog w=.ok 1 w:=by
   have he:Tryz.prog.elem 39=5:=by kernel_rfl
   rw [he];simp [sizeOf,typeInfo,hi0,hz1]
  rw [this];simp [Result.andThen,sliced]
 ·obtain ⟨ao',c',e,_,_,h3⟩:=hB;cases e
  have hlen:(xs.take j).length=j:=by rw [List.length_take]; omega
  refine ⟨_,c,by rw [hlen],by omega,h2,?_⟩
  have key:(if c=0 then ao else ao.map (·.add 0))=ao∨xs=[]:=by
   by_cases hx:0<xs.length
   ·obtain ⟨b,off,rfl,_⟩:=h3 hx
    left
    split
    ·rfl
    ·simp [Zas]
   ·right
    exact List.eq_nil_of_length_eq_zero (by omega)
  rcases key with q | q
  ·rw [q];exact h3.take j
  ·rw [q,List.take_nil];exact RdG.nil _ _ _
theorem Zna (b:Nat) (n:Bs) (hg:isName n=false) (va v:Value):Calls Tryz.prog 129 #[.pointer (some ⟨b,0,none⟩),tx n,va,v] w λ e w'=>e=.returned (.int .i64 2)/\w'=w:=by
 have hc:=ZaW n false hg w;clear hg;go_enter Tryz.func129,Tryz.ntmps129;go_wp2_with fail;refine hc.mono ?_;rintro e w1 ⟨rfl,rfl⟩;go_wp2;go_ret;exact ⟨rfl,rfl⟩
theorem Zll (h:Zal w b m f a k d S) (n:Bs) (hg:isName n=true) (hn:n.length<=maxLen) {va v:Value} {own:Bs} {xss:List Bs} (hva:OwnB w va own) (hz:own.length<=262144) (hp:Zau w v xss) (hl:xss.length<=1000000) (hx:∀ x∈xss,x.length<=140737488355328)
  (hf:(decide (own.length+xss.flatten.length<=262144)&&((fget d.files n).isSome||decide (d.files.length<32)))=false) :
  Calls Tryz.prog 129 #[.pointer (some ⟨b,0,none⟩),tx n,va,v] w λ e w'=>e=.returned (.int .i64 7)/\w'=w:=by
 have hc:=ZaW n true hg w;have hr:=Zdo h n hn own.length hz hp hl hx false hf;obtain ⟨ao,cc,rfl,_⟩:=OwnG.form hva;clear hg h hva hp hx hf;go_enter Tryz.func129,Tryz.ntmps129;go_wp2_with fail;refine hc.mono ?_;rintro e w1 ⟨rfl,rfl⟩;go_wp2_with fail;refine hr.mono ?_;rintro e w1 ⟨rfl,rfl⟩;go_wp2;go_ret;exact ⟨rfl,rfl⟩
theorem Zk4 (h:Zal w b m f a k d S) (hd:d.dead=true) (n:Bs) (hg:isName n=true) (hn:n.length<=maxLen) {va v:Value} {own:Bs} {xss:List Bs} (hva:OwnB w va own) (hz:own.length<=262144) (hp:Zau w v xss) (hl:xss.length<=1000000) (hx:∀ x∈xss,x.length<=140737488355328)
  (hf:(decide (own.length+xss.flatten.length<=262144)&&((fget d.files n).isSome||decide (d.files.length<32)))=true) :
  Calls Tryz.prog 129 #[.pointer (some ⟨b,0,none⟩),tx n,va,v] w λ e w'=>e=.returned (.int .i64 8)/\w'=w:=by
 have hc:=ZaW n true hg w;have hr:=Zdo h n hn own.length hz hp hl hx true hf;have c2:=h.cell.2.2.1;rw [hd] at c2;obtain ⟨ao,cc,rfl,_⟩:=OwnG.form hva;clear hg h hva hp hx hf hd;go_enter Tryz.func129,Tryz.ntmps129;go_wp2_with fail;refine hc.mono ?_;rintro e w1 ⟨rfl,rfl⟩;go_wp2_with fail;refine hr.mono ?_;rintro e w1 ⟨rfl,rfl⟩;go_wp2;go_ret;exact ⟨rfl,rfl⟩
theorem Zlc (h:Zal w b m f a k d S) (hr:Za4 d.files) (hfl:d.files.length<=1000) (hd:d.dead=false) (hdo:(dnext d).2.1=true) (hb:d.after<9223372036854775808) (hw:d.writes<4611686018427387904) (n:Bs) (hg:isName n=true) (hn:n.length<=140737488355328) {va v:Value} {own:Bs} {xss:List Bs}
  (hva:OwnB w va own) (hvf:∀ g,va.ownBlock=some g->f n=some va) (hz:own.length<=262144) (hp:Zau w v xss) (hl:xss.length<=1000000) (hx:∀ x∈xss,x.length<=140737488355328)
  (hf:(decide (own.length+xss.flatten.length<=262144)&&((fget d.files n).isSome||decide (d.files.length<32)))=true) :
  Calls Tryz.prog 129 #[.pointer (some ⟨b,0,none⟩),tx n,va,v] w λ e w'=>e=.returned (.int .i64 0)/\Zao w' b { (dnext d).1 with files:=fwith d.files n (own++xss.flatten) } (Zaj S w w')/\Zaa S w w':=by
 have hc:=ZaW n true hg w;have hrm:=Zdo h n (by simp only [maxLen]; omega) own.length hz hp hl hx true hf
 have hsum:own.length+xss.flatten.length<=262144:=by
  simp only [Bool.and_eq_true,decide_eq_true_eq] at hf;exact hf.1
 have c2:=h.cell.2.2.1;rw [hd] at c2;have hcc:=ZbW w hp hl (by omega);have hva':OwnB w va own:=hva;obtain ⟨ao,cc,rfl,_⟩:=OwnG.form hva
 have H:Hid (Zal w b m f a k d S/\Za4 d.files/\d.files.length<=1000/\(dnext d).2.1=true/\OwnB w (.slice ao own.length cc) own/\(∀ g,(Value.slice ao own.length cc).ownBlock=some g->f n=some (.slice ao own.length cc))/\own.length+xss.flatten.length<=262144):=⟨h,hr,hfl,hdo,hva',hvf,hsum⟩
 clear hg h hva hp hx hf hd hr hfl hdo hva' hvf hsum;go_enter Tryz.func129,Tryz.ntmps129;go_wp2_with fail;refine hc.mono ?_;rintro e w1 ⟨rfl,hw1⟩;rw [hw1];clear hw1 w1;go_wp2_with fail;refine hrm.mono ?_;rintro e w1 ⟨rfl,hw1⟩;rw [hw1];clear hw1 w1;go_wp2_with fail;refine hcc.mono ?_;rintro e w1 ⟨vb,rfl,O1,B1⟩;have hwr:=Zci (H.out.1.below B1) hb hw
 have W1:Hid (OwnG encB 5 w1 w.heap.size vb xss.flatten/\Below w.heap.size w w1):=⟨O1,B1⟩
 clear O1 B1 hcc;go_wp2_with fail;refine hwr.mono ?_;rintro e w2 ⟨r,a',rfl,hr,hD,ht2⟩
 have er:r=0:=by rw [hr.out,if_pos H.out.2.2.2.1]
 subst er
 have W2:Hid (Zal w2 b m f a' k (dnext d).1 S/\Zaa (λ i=>i=b) w1 w2):=⟨hD,ht2⟩
 have b2:Hid (BAt w2 vb xss.flatten/\OwnB w2 (.slice ao own.length cc) own):=by
  refine ⟨?_,?_⟩
  ·refine OwnB.at (OwnB.turned (OwnG.low W1.out.1 (Nat.zero_le _)) ht2 (λ g hg e=>?_));have:=(W1.out.1.lt g hg).1;have:=H.out.1.lt_b;rw [e] at *;omega
  ·refine OwnB.turned (OwnG.below H.out.2.2.2.2.1 W1.out.2) ht2 (λ g hg e=>?_);exact (Zal.row_ne H.out.1 (H.out.2.2.2.2.2.1 g hg) hg).1 e
 clear hwr hr hD ht2;go_wp2_with (at_builtin; (refine appB rfl (.tmp 46) (.tmp 47) rfl 0 _ _ own xss.flatten rfl b2.out.2 rfl b2.out.1 (by have:=H.out.2.2.2.2.2.2; omega) (Nat.zero_le _) ?_; intro v3 w3 O3 _ M3 T3));have L:=Zi0 H.out.1 H.out.2.2.2.2.2.1 W1.out.2 W2.out.1 W2.out.2 O3 M3 T3;have ef:(dnext d).1.files=d.files:=ZaU d;have hs:=Zgv L.1 (by rw [ef]; exact H.out.2.1) (by rw [ef]; exact H.out.2.2.1) hn (λ x q=>q) O3 L.2.1 L.2.2.1;have LH:Hid (Zaa S w w3):=L.2.2.2;clear L O3 M3 T3;go_wp2_with fail;refine hs.mono ?_;rintro e w4 ⟨rfl,D4,T4⟩;have E:=Zgr H.out.1.mine.2 LH.out D4 T4;rw [ef] at E;clear D4 T4 hs;go_wp2;go_ret;exact ⟨rfl,E.1,E.2⟩
theorem ZlP (h:Zal w b m f a k d S) (hr:Za4 d.files) (hfl:d.files.length<=1000) (hd:d.dead=false) (ha:d.armed=true) (h0:d.after=0) (hb:d.after<9223372036854775808) (hw:d.writes<4611686018427387904) (n:Bs) (hg:isName n=true) (hn:n.length<=140737488355328) {va v:Value} {own:Bs} {xss:List Bs}
  (hva:OwnB w va own) (hvf:∀ g,va.ownBlock=some g->f n=some va) (hz:own.length<=262144) (hp:Zau w v xss) (hl:xss.length<=1000000) (hx:∀ x∈xss,x.length<=140737488355328)
  (hf:(decide (own.length+xss.flatten.length<=262144)&&((fget d.files n).isSome||decide (d.files.length<32)))=true) :
  Calls Tryz.prog 129 #[.pointer (some ⟨b,0,none⟩),tx n,va,v] w λ e w'=>e=.returned (.int .i64 8)/\Zao w' b { (dnext d).1 with files:=fwith d.files n (own++xss.flatten.take d.keep) } (Zaj S w w')/\Zaa S w w':=by
 have hc:=ZaW n true hg w;have hrm:=Zdo h n (by simp only [maxLen]; omega) own.length hz hp hl hx true hf
 have hsum:own.length+xss.flatten.length<=262144:=by
  simp only [Bool.and_eq_true,decide_eq_true_eq] at hf;exact hf.1
 have hdo:(dnext d).2.1=false:=by rw [Zbu hd ha h0]
 have ek:k=(d.keep:Int):=(h.cut ha).2;subst ek;have c2:=h.cell.2.2.1;rw [hd] at c2;have hcc:=ZbW w hp hl (by omega);have hva':OwnB w va own:=hva;obtain ⟨ao,cc,rfl,_⟩:=OwnG.form hva
 have H:Hid (Zal w b m f a (d.keep:Int) d S/\Za4 d.files/\d.files.length<=1000/\(dnext d).2.1=false/\OwnB w (.slice ao own.length cc) own/\(∀ g,(Value.slice ao own.length cc).ownBlock=some g->f n=some (.slice ao own.length cc))/\own.length+xss.flatten.length<=262144):=⟨h,hr,hfl,hdo,hva',hvf,hsum⟩
 clear hg h hva hp hx hf hd hr hfl hdo hva' hvf hsum;go_enter Tryz.func129,Tryz.ntmps129;go_wp2_with fail;refine hc.mono ?_;rintro e w1 ⟨rfl,hw1⟩;rw [hw1];clear hw1 w1;go_wp2_with fail;refine hrm.mono ?_;rintro e w1 ⟨rfl,hw1⟩;rw [hw1];clear hw1 w1;go_wp2_with fail;refine hcc.mono ?_;rintro e w1 ⟨vb,rfl,O1,B1⟩;have hwr:=Zci (H.out.1.below B1) hb hw
 have W1:Hid (OwnG encB 5 w1 w.heap.size vb xss.flatten/\Below w.heap.size w w1):=⟨O1,B1⟩
 clear O1 B1 hcc;go_wp2_with fail;refine hwr.mono ?_;rintro e w2 ⟨r,a',rfl,hr,hD,ht2⟩
 have er:r=8:=by rw [hr.out,if_neg (by rw [H.out.2.2.2.1]; simp)]
 subst er
 have W2:Hid (Zal w2 b m f a' (d.keep:Int) (dnext d).1 S/\Zaa (λ i=>i=b) w1 w2):=⟨hD,ht2⟩
 have b2:Hid (BAt w2 vb xss.flatten/\OwnB w2 (.slice ao own.length cc) own):=by
  refine ⟨?_,?_⟩
  ·refine OwnB.at (OwnB.turned (OwnG.low W1.out.1 (Nat.zero_le _)) ht2 (λ g hg e=>?_));have:=(W1.out.1.lt g hg).1;have:=H.out.1.lt_b;rw [e] at *;omega
  ·refine OwnB.turned (OwnG.below H.out.2.2.2.2.1 W1.out.2) ht2 (λ g hg e=>?_);exact (Zal.row_ne H.out.1 (H.out.2.2.2.2.2.1 g hg) hg).1 e
 clear hwr hr hD ht2;have c5:=W2.out.1.cell.2.2.2.2.2.1
 obtain ⟨K,eK⟩:∃ K,d.keep=K:=⟨_,rfl⟩
 rw [eK] at c5;have b3:=b2.out.1;obtain ⟨ab,cb,rfl,h31,h32,h33⟩:=b3
 obtain ⟨L,eL⟩:∃ L,xss.flatten.length=L:=⟨_,rfl⟩
 obtain ⟨J,eJ⟩:∃ J,min K L=J:=⟨_,rfl⟩
 have mj:min (K:Int) (L:Int)=(J:Int):=by omega
 have b4:Hid (BAt w2 (.slice ab J cb) (xss.flatten.take K)):=by
  have e:(xss.flatten.take K).length=J:=by rw [List.length_take,eL,eJ]
  exact ⟨ab,cb,by rw [e],by rw [e]; omega,h32,h33.take K⟩
 have hJ:J<=L:=by omega
 have hJc:(J:Int)<=(cb:Int):=by omega
 rw [eL];have ef:(dnext d).1.files=d.files:=ZaU d
 have tl:(xss.flatten.take K).length<=xss.flatten.length:=by rw [List.length_take]; omega
 have T:Hid (own.length+(xss.flatten.take K).length<=262144):=by have:=H.out.2.2.2.2.2.2; show _<=_; omega
 clear h31 h32 h33 eJ tl;cases ab
 all_goals go_wp2_with (at_builtin; (refine appB rfl (.tmp 46) (.tmp 47) rfl 0 _ _ own (xss.flatten.take K) rfl b2.out.2 rfl b4.out (by have:=T.out; omega) (Nat.zero_le _) ?_; intro v3 w3 O3 _ M3 T3))
 all_goals have LL:=Zi0 H.out.1 H.out.2.2.2.2.2.1 W1.out.2 W2.out.1 W2.out.2 O3 M3 T3
 all_goals have hs:=Zgv LL.1 (by rw [ef]; exact H.out.2.1) (by rw [ef]; exact H.out.2.2.1) hn (λ x q=>q) O3 LL.2.1 LL.2.2.1
 all_goals have LH:Hid (Zaa S w w3):=LL.2.2.2
 all_goals clear LL O3 M3 T3
 all_goals go_wp2_with fail
 all_goals refine hs.mono ?_
 all_goals rintro e w4 ⟨rfl,D4,T4⟩
 all_goals have E:=Zgr H.out.1.mine.2 LH.out D4 T4
 all_goals rw [ef] at E
 all_goals clear D4 T4 hs
 all_goals go_wp2
 all_goals go_ret
 all_goals exact ⟨rfl,by rw [eK]; exact E.1,E.2⟩
structure Dk.ok (d:Dk):Prop where
 rise:Za4 d.files
 few:d.files.length<=32
 each:∀ f∈d.files,isName f.1=true/\f.2.length<=262144
 after:d.after<9223372036854775808
theorem Dk.ok.get (h:Dk.ok d) {n bs:Bs} (hg:fget d.files n=some bs):bs.length<=262144:=(h.each _ (ZeO hg)).2
theorem Zh8 (S:Nat->Prop) (w:World):∀ i,Zaj S w w i->S i:=by
 intro i h
 rcases h with q | q
 ·exact q
 ·omega
theorem Zal.same (h:Zal w b m f a k d S):Zao w b d (Zaj S w w):=⟨m,f,a,k,ZaE.mono h (λ _ q=>.inl q) (λ _ q=>q) (λ i hi=>h.lt i (Zh8 S w i hi))⟩
theorem Zkl (h:Zal w b m f a k d S) (hk:d.ok) (hw:d.writes<4611686018427387904) (n:Bs) (hn:n.length<=140737488355328) {va v:Value} {own:Bs} {xss:List Bs}
  (hva:OwnB w va own) (hvf:∀ g,va.ownBlock=some g->f n=some va) (hz:own.length<=262144) (hp:Zau w v xss) (hl:xss.length<=1000000) (hx:∀ x∈xss,x.length<=140737488355328) :
  Calls Tryz.prog 129 #[.pointer (some ⟨b,0,none⟩),tx n,va,v] w λ e w'=>∃ r,e=.returned (.int .i64 r)/\Hid (r=(dlay d n own xss.flatten).2)/\Zao w' b (dlay d n own xss.flatten).1 (Zaj S w w')/\Zaa S w w':=by
 have hn':n.length<=maxLen:=by simp only [maxLen]; omega
 unfold dlay;by_cases hg:isName n=false
 ·refine (Zna b n hg va v).mono ?_;rintro e w' ⟨rfl,rfl⟩;rw [if_pos hg];exact ⟨2,rfl,rfl,Zal.same h,Zaa.refl _ _⟩
 ·rw [if_neg hg]
  have hg':isName n=true:=by simpa using hg
  by_cases hfull:262144<own.length+xss.flatten.length∨(fget d.files n=none/\32<=d.files.length)
  ·have hf:(decide (own.length+xss.flatten.length<=262144)&&((fget d.files n).isSome||decide (d.files.length<32)))=false:=by
    rcases hfull with q | ⟨q1,q2⟩
    ·rw [decide_eq_false (by omega)]; rfl
    ·rw [q1,decide_eq_false (p:=d.files.length<32) (by omega)]; simp
   refine (Zll h n hg' hn' hva hz hp hl hx hf).mono ?_;rintro e w' ⟨rfl,rfl⟩;rw [if_pos hfull];exact ⟨7,rfl,rfl,Zal.same h,Zaa.refl _ _⟩
  ·rw [if_neg hfull]
   have hf:(decide (own.length+xss.flatten.length<=262144)&&((fget d.files n).isSome||decide (d.files.length<32)))=true:=by
    rw [decide_eq_true (by omega),Bool.true_and]
    cases q:fget d.files n with
    | none=>rw [decide_eq_true (p:=d.files.length<32) (by have:¬ (32<=d.files.length):=λ q2=>hfull (.inr ⟨q,q2⟩); omega)]; rfl
    | some _=>rfl
   by_cases hd:d.dead=true
   ·refine (Zk4 h hd n hg' hn' hva hz hp hl hx hf).mono ?_;rintro e w' ⟨rfl,rfl⟩;rw [Zb6 hd];exact ⟨8,rfl,rfl,Zal.same h,Zaa.refl _ _⟩
   ·have hd:d.dead=false:=by simpa using hd
    by_cases hto:d.armed=true/\d.after=0
    ·refine (ZlP h hk.rise (by have:=hk.few; omega) hd hto.1 hto.2 hk.after hw n hg' hn hva hvf hz hp hl hx hf).mono ?_;rintro e w' ⟨rfl,h1,h2⟩;rw [Zbu hd hto.1 hto.2] at h1 ⊢;exact ⟨8,rfl,rfl,h1,h2⟩
    ·have hdo:(dnext d).2.1=true:=by
      by_cases ha:d.armed=true
      ·rw [Zby hd ha (λ q=>hto ⟨ha,q⟩)]
      ·rw [ZbB hd (by simpa using ha)]
     refine (Zlc h hk.rise (by have:=hk.few; omega) hd hdo hk.after hw n hg' hn hva hvf hz hp hl hx hf).mono ?_;rintro e w' ⟨rfl,h1,h2⟩;rw [if_pos hdo];exact ⟨0,rfl,rfl,h1,h2⟩
theorem Zfs (h:Zao w b d S) (hk:d.ok) (hw:d.writes<4611686018427387904) (n:Bs) (hn:n.length<=140737488355328) {v:Value} {xss:List Bs} (hp:Zau w v xss) (hl:xss.length<=1000000) (hx:∀ x∈xss,x.length<=140737488355328) :
  Calls Tryz.prog 56 #[.pointer (some ⟨b,0,none⟩),tx n,v] w λ e w'=>∃ r,e=.returned (.int .i64 r)/\Hid (r=(dapp d n xss.flatten).2)/\Zao w' b (dapp d n xss.flatten).1 (Zaj S w w')/\Zaa S w w':=by
 obtain ⟨m,f,a,k,h⟩:=h;have hlk:=h.look1 n (by simp only [maxLen]; omega) _ rfl;have c0:=h.cell.1
 have hc:Calls Tryz.prog 129 #[.pointer (some ⟨b,0,none⟩),tx n,(f n).getD (.slice none 0 0),v] w λ e w'=>∃ r,e=.returned (.int .i64 r)/\Hid (r=(dapp d n xss.flatten).2)/\Zao w' b (dapp d n xss.flatten).1 (Zaj S w w')/\Zaa S w w':=by
  unfold dapp
  rcases h.file n with ⟨h1,h2⟩ | ⟨bs,u,h1,h2,ho⟩
  ·rw [h1,h2];exact Zkl h hk hw n hn (OwnG.nil encB 5 w 0) (λ g hg=>by simp [Value.ownBlock] at hg) (by simp) hp hl hx
  ·rw [h1,h2];exact Zkl h hk hw n hn (ho.elim False.elim id) (λ g hg=>h2) (hk.get h1) hp hl hx
 obtain ⟨u,hu⟩:∃ u,(f n).getD (.slice none 0 0)=u:=⟨_,rfl⟩
 rw [hu] at hc hlk;clear h hp hu;go_enter Tryz.func56,Tryz.ntmps56;go_wp2_with fail;refine hc.mono ?_;rintro e w1 ⟨r,rfl,h1,h2,h3⟩;have H:Hid _:=And.intro h2 h3;clear h2 h3;go_wp2;go_ret;exact ⟨r,rfl,h1,H.out.1,H.out.2⟩
end
theorem Zj4 (k:Int) {v:Value} {xss:List Bs} (w:World) (h:Zau w v xss) (hl:xss.length<=1000000) (x:UInt64) (hx:oid k xss.flatten=x) :
  Calls Tryz.prog 158 #[.int .i64 k,v] w λ e w'=>e=.returned (.int .u64 (x.toNat:Int))/\w'=w:=by
 refine (Znr k v _ w (h.parts hl)).mono ?_;rintro e w' ⟨rfl,hw⟩;exact ⟨by rw [Zfj,Zmm,hx],hw⟩
theorem ZdN (k:Int) {v:Value} {bs:Bs} (w:World) (h:BAt w v bs) (x:UInt64) (hx:oid k bs=x) :
  Calls Tryz.prog 174 #[.int .i64 k,v] w λ e w'=>e=.returned (.int .u64 (x.toNat:Int))/\w'=w:=by
 refine (Zm5 k v _ w h.bytes).mono ?_;rintro e w' ⟨rfl,hw⟩;exact ⟨by rw [Zmm,hx],hw⟩
section
variable {w:World} {s b:Nat} {M:Nat->Nat} {r t:Nat} {F:Nat->UInt64->Option Value} {st:St} {S:Nat->Prop}
theorem Zaq.look (h:Zaq w s b M r t F st S) {k:Nat} (hk:k<4) (i:UInt64) :
  ∃ v,(Instr.lookup 172 (.map (some (M k))) (.int .u64 (i.toNat:Int)) true).run Tryz.prog w=.ok (.tuple #[v,.bool (st.has (k:Int) i)]) w/\(∀ bs,oget st.objs (k:Int) i=some bs->BAt w v bs/\Zc6 S v)/\(oget st.objs (k:Int) i=none->v=.slice none 0 0):=by
 obtain ⟨n,_,hm⟩:=h.objs k hk;have hl:=hm.look Tryz.underlying172 (zeroS w) i trivial;have hl:(Instr.lookup 172 (.map (some (M k))) (.int .u64 (i.toNat:Int)) true).run Tryz.prog w=.ok (.tuple #[(F k i).getD (.slice none 0 0),.bool (F k i).isSome]) w:=hl;unfold St.has
 cases e:oget st.objs (k:Int) i with
 | none =>
  have e2:=h.gone k hk i e;rw [e2] at hl;exact ⟨_,hl,λ bs q=>(by cases q),λ _=>rfl⟩
 | some bs =>
  obtain ⟨v,h1,h2,h3⟩:=h.there k hk i bs e;rw [h1] at hl;exact ⟨v,hl,λ bs' q=>(by cases q; exact ⟨h2,h3⟩),λ q=>(by cases q)⟩
theorem ZnE (h:Zaq w s b M r t F st S) {k:Nat} (hk:k<4) (i:UInt64) (g:Bool) (hg:st.has (k:Int) i=g) :
  Calls Tryz.prog 163 #[.pointer (some ⟨s,0,none⟩),.int .i64 (k:Int),.int .u64 (i.toNat:Int)] w λ e w'=>e=.returned (.bool g)/\w'=w:=by
 obtain ⟨v,hl,_⟩:=h.look hk i;rw [hg] at hl;obtain ⟨c0,c1,c2,c3,c4,c5,c6⟩:=h.cell;clear h hg
 obtain ⟨x,hx⟩:∃ x:Int,(i.toNat:Int)=x:=⟨_,rfl⟩
 rw [hx] at hl ⊢;clear hx
 have hk4:k=0∨k=1∨k=2∨k=3:=by omega
 rcases hk4 with rfl | rfl | rfl | rfl
 all_goals
  go_enter Tryz.func163,Tryz.ntmps163;go_wp2;go_ret;exact ⟨rfl,rfl⟩
theorem Zco (h:Zac w s b st S) {k:Nat} (hk:k<4) (i:UInt64) (g:Bool) (hg:st.has (k:Int) i=g) :
  Calls Tryz.prog 163 #[.pointer (some ⟨s,0,none⟩),.int .i64 (k:Int),.int .u64 (i.toNat:Int)] w λ e w'=>e=.returned (.bool g)/\w'=w:=by
 obtain ⟨M,r,t,F,h⟩:=h;exact ZnE h hk i g hg
end
theorem ZcD {α:Type} {es:List α} {p:α->Bool} {i:Nat} {e:α} (h:es[i]? = some e) (ht:(es.take i).all p=true) (hx:p e=true):(es.take (i+1)).all p=true:=by
 rw [List.take_add_one,h,List.all_append,ht];simp [hx]
theorem Zcg {α:Type} {es:List α} {p:α->Bool} {i:Nat} {e:α} (h:es[i]? = some e) (hx:p e=false):es.all p=false:=by
 rw [List.all_eq_false];exact ⟨e,List.mem_of_getElem? h,by simp [hx]⟩
section
variable {w:World} {s b:Nat} {st:St} {S:Nat->Prop}
theorem ZcW {ao:Option Addr} {c n:Nat} {es:List En} (h:Zac w s b st S) (hr:RdG encE w ao es) (hl:es.length=n) (hn:n<=4000000000000000000) (g:Bool) (hg:st.blobs es=g) :
  Calls Tryz.prog 108 #[.pointer (some ⟨s,0,none⟩),.slice ao n c] w λ e w'=>e=.returned (.bool g)/\Below w.heap.size w w':=by
 have H:Hid (Zac w s b st S/\RdG encE w ao es/\es.length=n/\st.blobs es=g):=⟨h,hr,hl,hg⟩
 clear h hr hl hg;go_enter Tryz.func108,Tryz.ntmps108;go_wp2_with fail;go_loopg [9] n (λ m iv wr=>∃ i:Nat,iv=.int .i64 i/\i+m=n/\Hid ((es.take i).all (λ e=>st.has 1 e.2)=true/\Below w.heap.size w wr))
 case atStart=>exact ⟨0,rfl,by omega,rfl,Below.refl _ _⟩
 case round =>
  obtain ⟨i,rfl,hi,HR⟩:=hrel;by_cases hin:i<n
  ·have id:(i:Int)<(n:Int):=by omega
   obtain ⟨e,he⟩:=Zaf H.out.2.2.1 hin;obtain ⟨b1,off,rfl,hlt⟩:=H.out.2.1.some_of he;obtain ⟨_,c0,c1⟩:=(H.out.2.1.below HR.out.2).ents he;obtain ⟨d,z⟩:=e;simp only at c0 c1;have HE:Hid (es[i]? = some (d,z)):=he;clear he
   have hc:=λ (q:Bool) (hq:st.has 1 z=q)=>Zco ((H.out.1.below HR.out.2).below (bz1 wr (.cells #[tx d,.int .u64 (z.toNat:Int)] 91))) (k:=1) (by omega) z q hq
   obtain ⟨zi,hz⟩:∃ zi,(z.toNat:Int)=zi:=⟨_,rfl⟩
   rw [hz] at c1 hc;clear hz
   cases hp:st.has 1 z with
   | true =>
    have hc:=hc true hp;go_wp2_with fail;refine hc.mono ?_;rintro e w2 ⟨rfl,hw2⟩;rw [hw2];clear hw2 w2;go_wp2;go_roundg (gk - 1)
    case measure=>omega
    case rel=>exact ⟨i+1,by go_num,by omega,ZcD HE.out HR.out.1 hp,HR.out.2.trans ((bz1 wr _).mono HR.out.2.size)⟩
   | false =>
    have hc:=hc false hp
    have hg:g=false:=by rw [<- H.out.2.2.2]; exact Zcg HE.out hp
    subst hg;go_wp2_with fail;refine hc.mono ?_;rintro e w2 ⟨rfl,hw2⟩;rw [hw2];clear hw2 w2;go_wp2;go_ret;exact ⟨rfl,HR.out.2.trans ((bz1 wr _).mono HR.out.2.size)⟩
  ·obtain rfl:i=n:=by omega
   have hall:=HR.out.1;rw [List.take_of_length_le (by rw [H.out.2.2.1]; omega)] at hall
   have hg:g=true:=by rw [<- H.out.2.2.2]; exact hall
   subst hg;clear hall;go_wp2;go_ret;exact ⟨rfl,HR.out.2⟩
theorem ZdJ {pa:Option Addr} {pn pc:Nat} {cm:Cm} (h:Zac w s b st S) (hr:RdG encU w pa cm.ps) (hl:cm.ps.length=pn) (hn:pn<=4000000000000000000) (dt:Int) (nt:ByteArray) (g:Bool) (hg:st.above cm=g) :
  Calls Tryz.prog 121 #[.pointer (some ⟨s,0,none⟩),.agg #[.int .u64 (cm.tree.toNat:Int),.slice pa pn pc,.int .i64 dt,.string nt]] w λ e w'=>e=.returned (.bool g)/\Below w.heap.size w w':=by
 have ht:=λ (W:World) (hW:Below w.heap.size w W) (q:Bool) (hq:st.has 2 cm.tree=q)=>Zco (h.below hW) (k:=2) (by omega) cm.tree q hq
 obtain ⟨tr,htr⟩:∃ tr,(cm.tree.toNat:Int)=tr:=⟨_,rfl⟩
 rw [htr] at ht ⊢;clear htr
 obtain ⟨W,hW⟩:∃ W,w.alloc (.cells #[.int .u64 tr,.slice pa pn pc,.int .i64 dt,.string nt] 67)=W:=⟨_,rfl⟩
 have bW:Below w.heap.size w W:=by rw [<- hW]; exact bz1 _ _
 have bx:Box4 W w.heap.size 67 (.int .u64 tr) (.slice pa pn pc) (.int .i64 dt) (.string nt):=by rw [<- hW]; exact Box4.new _ _ _ _ _ _
 obtain ⟨x0,x1,x2,x3⟩:=bx.cells;have ht:=ht W bW
 have H:Hid (Zac W s b st S/\RdG encU W pa cm.ps/\cm.ps.length=pn/\st.above cm=g/\Below w.heap.size w W):=⟨h.below bW,hr.below bW,hl,hg,bW⟩
 clear h hr hl hg bW bx;go_enter Tryz.func121,Tryz.ntmps121;go_wp2_with fail;go_loopg [10] pn (λ m iv wr=>∃ i:Nat,iv=.int .i64 i/\i+m=pn/\wr=W/\Hid ((cm.ps.take i).all (λ p=>st.has 3 p)=true))
 case atStart=>exact ⟨0,rfl,by omega,rfl,rfl⟩
 case round =>
  obtain ⟨i,rfl,hi,rfl,HR⟩:=hrel;by_cases hin:i<pn
  ·have id:(i:Int)<(pn:Int):=by omega
   obtain ⟨x,hx⟩:=Zaf H.out.2.2.1 hin;obtain ⟨b1,off,rfl,hlt⟩:=H.out.2.1.some_of hx;obtain ⟨_,c0⟩:=H.out.2.1.nums hx;have HE:Hid (cm.ps[i]? = some x):=hx;clear hx
   have hc:=λ (q:Bool) (hq:st.has 3 x=q)=>Zco H.out.1 (k:=3) (by omega) x q hq
   obtain ⟨zi,hz⟩:∃ zi,(x.toNat:Int)=zi:=⟨_,rfl⟩
   rw [hz] at c0 hc;clear hz
   cases hp:st.has 3 x with
   | true =>
    have hc:=hc true hp;go_wp2_with fail;refine hc.mono ?_;rintro e w2 ⟨rfl,hw2⟩;rw [hw2];clear hw2 w2;go_wp2;go_roundg (gk - 1)
    case measure=>omega
    case rel=>exact ⟨i+1,by go_num,by omega,rfl,ZcD HE.out HR.out hp⟩
   | false =>
    have hc:=hc false hp
    have hg:g=false:=by rw [<- H.out.2.2.2.1]; unfold St.above; rw [Zcg HE.out hp]; rfl
    subst hg;go_wp2_with fail;refine hc.mono ?_;rintro e w2 ⟨rfl,hw2⟩;rw [hw2];clear hw2 w2;go_wp2;go_ret;exact ⟨rfl,H.out.2.2.2.2⟩
  ·obtain rfl:i=pn:=by omega
   have hall:=HR.out;rw [List.take_of_length_le (by rw [H.out.2.2.1]; omega)] at hall
   have hg:st.has 2 cm.tree=g:=by
    rw [<- H.out.2.2.2.1];unfold St.above;rw [hall]
    rfl
   have ht:=ht g hg;clear hall hg;go_wp2_with fail;refine ht.mono ?_;rintro e w2 ⟨rfl,hw2⟩;rw [hw2];clear hw2 w2;go_wp2;go_ret;exact ⟨rfl,H.out.2.2.2.2⟩
end
theorem Zj7 {W w1:World} {o:Obj} (h:Below (W.drew.alloc o).heap.size (W.drew.alloc o) w1):Below W.heap.size W w1:=Zag ((bz1 W.drew o).trans (h.mono (bz1 W.drew o).size))
theorem ZmO (k:Int) {v:Value} {xss:List Bs} (w:World) (h:Zau w v xss) (hl:xss.length<=1000000) (x:UInt64) (hx:oid k xss.flatten=x) :
  Calls Tryz.prog 158 #[.int .i64 k,v] w λ e w'=>e=.returned (.int .u64 (x.toNat:Int))/\Below w.heap.size w w':=by
 refine (Zj4 k w h hl x hx).mono ?_;rintro e w' ⟨rfl,rfl⟩;exact ⟨rfl,Below.refl _ _⟩
theorem Zbw {w w':World} {m:Nat} (h:w.grownBy w' (some m)):Zaa (λ i=>i=m) w w':=(Zaa.refl _ _).grown h (λ k _ e=>by cases e; rfl)
theorem ZcB {W w1 w2:World} {m:Nat} (B1:Below W.heap.size W w1) (ht:Zaa (λ x=>x=m) w1 w2) {p:Addr} {v:Value} (hp:p.block<W.heap.size) (hne:p.block≠m) (hc:W.cell? p=some v):w1.cell? p=some v/\w2.cell? p=some v:=by
 have h1:w1.cell? p=some v:=(B1.cell hp).trans hc;exact ⟨h1,(ht.cell (Nat.lt_of_lt_of_le hp B1.size) hne).trans h1⟩
section
variable {w:World} {s b:Nat} {M:Nat->Nat} {r t:Nat} {F:Nat->UInt64->Option Value} {st:St} {S:Nat->Prop}
theorem Zaq.update {w1:World} (h:Zaq w s b M r t F st S) (hb:Below w.heap.size w w1) {k:Nat} (hk:k<4) (i:UInt64) (hn:st.objs.length<=1000000) (v:Value) :
  ∃ w2 n,(Instr.mapUpdate 172 (.map (some (M k))) (.int .u64 (i.toNat:Int)) v).run Tryz.prog w1=.ok () w2/\MapG kU w2 (M k) (gput (F k) i v) n/\n<=st.objs.length+1/\Zaa (λ x=>x=M k) w1 w2:=by
 obtain ⟨n,h1,h2⟩:=(h.below hb).objs k hk;obtain ⟨w2,h3,h4,h5⟩:=h2.put Tryz.underlying172 i trivial (by simp only [maxLen]; omega) v;refine ⟨w2,_,h3,h4,?_,Zbw h5⟩
 split <;> omega
theorem Znt {S':Nat->Prop} (h:Zaq w s b M r t F st S) (hSS:∀ i,S i->S' i) (hSl:∀ i,S' i->i<w.heap.size) {k:Nat} (hk1:1<=k) (hk:k<4) (kI:Int) (hkI:(k:Int)=kI) {a:Option Addr} {n c:Nat} {body:Bs} (hv:BAt w (.slice a n c) body) (hin:Zc6 S' (.slice a n c)) (i:UInt64) (hi:oid kI body=i) (hno:oget st.objs kI i=none) (hn:st.objs.length<=1000000) :
  Calls Tryz.prog 166 #[.pointer (some ⟨s,0,none⟩),.agg #[.int .i64 kI,.slice a n c]] w λ e w'=>e=.returned (.tuple #[])/\Zac w' s b { st with objs:=st.objs++[⟨kI,i,body⟩] } S'/\Zaa S w w':=by
 obtain ⟨W,hW⟩:∃ W,w.alloc (.cells #[.int .i64 kI,.slice a n c] 228)=W:=⟨_,rfl⟩
 have bW:Below w.heap.size w W:=by rw [<- hW]; exact bz1 _ _
 have bx:Box W w.heap.size 228 (.int .i64 kI) (.slice a n c):=by rw [<- hW]; exact Box.new _ _ _ _
 have hX:=(h.mono hSS hSl).below bW;have hown:=h.own.2.2.2 k hk;obtain ⟨x0,x1⟩:=bx.cells;obtain ⟨c0,c1,c2,c3,c4,c5,c6⟩:=hX.cell
 have H:Hid (Zaq W s b M r t F st S'/\BAt W (.slice a n c) body/\Zc6 S' (.slice a n c)/\oid kI body=i/\oget st.objs kI i=none/\st.objs.length<=1000000/\Below w.heap.size w W/\Box W w.heap.size 228 (.int .i64 kI) (.slice a n c)):=⟨hX,hv.below bW,hin,hi,hno,hn,bW,bx⟩
 have fin:∀ w1 w2 m,Below W.heap.size W w1->MapG kU w2 (M k) (gput (F k) i (.slice a n c)) m->m<=st.objs.length+1->Zaa (λ x=>x=M k) w1 w2->Zac w2 s b { st with objs:=st.objs++[⟨kI,i,body⟩] } S'/\Zaa S w w2:=by
  intro w1 w2 m q1 q2 q3 q4;have:=(H.out.1.below q1).add hk (by rw [hkI]; exact H.out.2.2.2.2.1) (H.out.2.1.below q1) H.out.2.2.1 q2 q3 q4;rw [hkI] at this;refine ⟨⟨M,r,t,_,this⟩,?_⟩;refine (Zaa.ofBelow (S:=S) (H.out.2.2.2.2.2.2.1.trans (q1.mono H.out.2.2.2.2.2.2.1.size))).trans q4 (λ j _ e=>?_);have e:j=M k:=e;rw [e];exact hown
 have up:=λ w1 hb=>Zaq.update (w1:=w1) H.out.1 hb hk i H.out.2.2.2.2.2.1 (.slice a n c)
 have ne:M k≠s:=H.out.1.map_ne.2.2 k hk
 obtain ⟨x,hx⟩:∃ x:Int,(i.toNat:Int)=x:=⟨_,rfl⟩
 have sid:=λ u (v:Value) (hu:Zau u v [body])=>ZmO kI u hu (by simp) i (by simpa using hi)
 rw [hx] at sid up;have hlt:s<W.heap.size:=hX.lt_s;have hlw:w.heap.size<W.heap.size:=bx.lt
 have hmw:w.heap.size≠M k:=λ e=>by
  have:=h.lt _ (h.own.2.2.2 k hk);omega
 have HH:Hid ((∀ w1 w2 m,Below W.heap.size W w1->MapG kU w2 (M k) (gput (F k) i (.slice a n c)) m->m<=st.objs.length+1->Zaa (λ x=>x=M k) w1 w2->Zac w2 s b { st with objs:=st.objs++[⟨kI,i,body⟩] } S'/\Zaa S w w2)
  /\ (∀ w1,Below W.heap.size W w1->∃ w2 n_1,(Instr.mapUpdate 172 (.map (some (M k))) (.int .u64 x) (.slice a n c)).run Tryz.prog w1=.ok () w2/\MapG kU w2 (M k) (gput (F k) i (.slice a n c)) n_1/\n_1<=st.objs.length+1/\Zaa (λ x=>x=M k) w1 w2)
  /\ (∀ u v,Zau u v [body]->Calls Tryz.prog 158 #[.int .i64 kI,v] u λ e w'=>e=.returned (.int .u64 x)/\Below u.heap.size u w')/\BAt W (.slice a n c) body/\s<W.heap.size/\w.heap.size<W.heap.size/\s≠M k/\w.heap.size≠M k):=⟨fin,up,sid,H.out.2.1,hlt,hlw,ne.symm,hmw⟩
 clear h hv hin hi hno hn bW bx hX fin up sid hx H hlt hlw hmw ne hown hSS hSl
 have hk4:k=1∨k=2∨k=3:=by omega
 rcases hk4 with rfl | rfl | rfl
 ·obtain rfl:kI=1:=by rw [<- hkI]; rfl
  go_enter Tryz.func166,Tryz.ntmps166;go_wp2_with fail
  go_region_held3 (λ u=>u.cell? ⟨w.heap.size,0,none⟩=some (.int .i64 1)/\u.cell? ⟨w.heap.size,1,none⟩=some (.slice a n c)/\u.cell? ⟨s,2,none⟩=some (.map (some (M 1))))
   (go_keep)
   (first | (go_at_call 158; refine (HH.out.2.2.1 _ _ (ZaB (HH.out.2.2.2.1.below (bdrewN W 1)) 39)).mono ?_; rintro e w1 ⟨rfl,B0⟩; have B1:Below W.heap.size W w1:=Zj7 B0; obtain ⟨w2,m2,hrun,hm2,hn2,ht2⟩:=HH.out.2.1 w1 B1; obtain ⟨k0,l0⟩:=ZcB B1 ht2 (p:=⟨w.heap.size,0,none⟩) HH.out.2.2.2.2.2.1 HH.out.2.2.2.2.2.2.2 x0; obtain ⟨k1,l1⟩:=ZcB B1 ht2 (p:=⟨w.heap.size,1,none⟩) HH.out.2.2.2.2.2.1 HH.out.2.2.2.2.2.2.2 x1; obtain ⟨k2,l2⟩:=ZcB B1 ht2 (p:=⟨s,2,none⟩) HH.out.2.2.2.2.1 HH.out.2.2.2.2.2.2.1 c2; have FF:Hid (Zac w2 s b { st with objs:=st.objs++[⟨1,i,body⟩] } S'/\Zaa S w w2):=HH.out.1 w1 w2 m2 B1 hm2 hn2 ht2; clear B0 B1 hm2 hn2 ht2))
  go_end0;exact ⟨rfl,FF.out⟩
 ·obtain rfl:kI=2:=by rw [<- hkI]; rfl
  go_enter Tryz.func166,Tryz.ntmps166;go_wp2_with fail
  go_region_held3 (λ u=>u.cell? ⟨w.heap.size,0,none⟩=some (.int .i64 2)/\u.cell? ⟨w.heap.size,1,none⟩=some (.slice a n c)/\u.cell? ⟨s,3,none⟩=some (.map (some (M 2))))
   (go_keep)
   (first | (go_at_call 158; refine (HH.out.2.2.1 _ _ (ZaB (HH.out.2.2.2.1.below (bdrewN W 1)) 39)).mono ?_; rintro e w1 ⟨rfl,B0⟩; have B1:Below W.heap.size W w1:=Zj7 B0; obtain ⟨w2,m2,hrun,hm2,hn2,ht2⟩:=HH.out.2.1 w1 B1; obtain ⟨k0,l0⟩:=ZcB B1 ht2 (p:=⟨w.heap.size,0,none⟩) HH.out.2.2.2.2.2.1 HH.out.2.2.2.2.2.2.2 x0; obtain ⟨k1,l1⟩:=ZcB B1 ht2 (p:=⟨w.heap.size,1,none⟩) HH.out.2.2.2.2.2.1 HH.out.2.2.2.2.2.2.2 x1; obtain ⟨k2,l2⟩:=ZcB B1 ht2 (p:=⟨s,3,none⟩) HH.out.2.2.2.2.1 HH.out.2.2.2.2.2.2.1 c3; have FF:Hid (Zac w2 s b { st with objs:=st.objs++[⟨2,i,body⟩] } S'/\Zaa S w w2):=HH.out.1 w1 w2 m2 B1 hm2 hn2 ht2; clear B0 B1 hm2 hn2 ht2))
  go_end0;exact ⟨rfl,FF.out⟩
 ·obtain rfl:kI=3:=by rw [<- hkI]; rfl
  go_enter Tryz.func166,Tryz.ntmps166;go_wp2_with fail
  go_region_held3 (λ u=>u.cell? ⟨w.heap.size,0,none⟩=some (.int .i64 3)/\u.cell? ⟨w.heap.size,1,none⟩=some (.slice a n c)/\u.cell? ⟨s,4,none⟩=some (.map (some (M 3))))
   (go_keep)
   (first | (go_at_call 158; refine (HH.out.2.2.1 _ _ (ZaB (HH.out.2.2.2.1.below (bdrewN W 1)) 39)).mono ?_; rintro e w1 ⟨rfl,B0⟩; have B1:Below W.heap.size W w1:=Zj7 B0; obtain ⟨w2,m2,hrun,hm2,hn2,ht2⟩:=HH.out.2.1 w1 B1; obtain ⟨k0,l0⟩:=ZcB B1 ht2 (p:=⟨w.heap.size,0,none⟩) HH.out.2.2.2.2.2.1 HH.out.2.2.2.2.2.2.2 x0; obtain ⟨k1,l1⟩:=ZcB B1 ht2 (p:=⟨w.heap.size,1,none⟩) HH.out.2.2.2.2.2.1 HH.out.2.2.2.2.2.2.2 x1; obtain ⟨k2,l2⟩:=ZcB B1 ht2 (p:=⟨s,4,none⟩) HH.out.2.2.2.2.1 HH.out.2.2.2.2.2.2.1 c4; have FF:Hid (Zac w2 s b { st with objs:=st.objs++[⟨3,i,body⟩] } S'/\Zaa S w w2):=HH.out.1 w1 w2 m2 B1 hm2 hn2 ht2; clear B0 B1 hm2 hn2 ht2))
  go_end0;exact ⟨rfl,FF.out⟩
theorem Zg8 {S':Nat->Prop} (h:Zac w s b st S) (hSS:∀ i,S i->S' i) (hSl:∀ i,S' i->i<w.heap.size) (k:Int) (hk:k=1∨k=2∨k=3) {a:Option Addr} {n c:Nat} {body:Bs} (hv:BAt w (.slice a n c) body) (hin:Zc6 S' (.slice a n c)) (hno:oget st.objs k (oid k body)=none) (hn:st.objs.length<=1000000) :
  Calls Tryz.prog 166 #[.pointer (some ⟨s,0,none⟩),.agg #[.int .i64 k,.slice a n c]] w λ e w'=>e=.returned (.tuple #[])/\Zac w' s b (st.take (k,body)) S'/\Zaa S w w':=by
 obtain ⟨M,r,t,F,h⟩:=h
 have e:st.take (k,body)={ st with objs:=st.objs++[⟨k,oid k body,body⟩] }:=by
  unfold St.take;rw [if_neg (by show ¬ k=4; omega),if_neg (by show ¬ k=5; omega)]
 rw [e];exact Znt h hSS hSl (k:=k.toNat) (by omega) (by omega) k (by omega) hv hin _ rfl hno hn
end
end Go.Proofs.YtmhcpbbiokpjjaaGreat
