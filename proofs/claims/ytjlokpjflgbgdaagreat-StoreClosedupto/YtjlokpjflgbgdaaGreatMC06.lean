/-
  Several texts, laid together.
-/
import Derived.Test.YtjlokpjflgbgdaaGreatMC05
set_option maxHeartbeats 6400000
set_option maxRecDepth 100000
namespace Go.Proofs.YtjlokpjflgbgdaaGreat
open Go.RowKit
theorem str_size (n:Bs):(⟨n.toArray⟩:ByteArray).size=n.length:=by simp [ByteArray.size]
section
variable {S:Nat->Prop} {X:Bs->Prop} {w:World} {b m:Nat} {f:Bs->Option Value} {a k:Int} {d:Dk}
theorem DiskX.look (h:DiskX w b m f a k d S X) (n:Bs) (hn:n.length<=maxLen) (o:Option Value) (ho:f n=o) :
  (Instr.lookup 151 (.map (some m)) (tx n) true).run Tryz.prog w=.ok (.tuple #[o.getD (.slice none 0 0),.bool o.isSome]) w:=by
 subst ho;exact h.files.map.look ⟨n.toArray⟩ (by rw [str_size]; exact hn)
theorem DiskX.look1 (h:DiskX w b m f a k d S X) (n:Bs) (hn:n.length<=maxLen) (o:Option Value) (ho:f n=o) :
  (Instr.lookup 151 (.map (some m)) (tx n) false).run Tryz.prog w=.ok (o.getD (.slice none 0 0)) w:=by
 subst ho;exact h.files.map.look1 ⟨n.toArray⟩ (by rw [str_size]; exact hn)
theorem find_bad (b:Nat) (n:Bs) (hg:isName n=false):Calls Tryz.prog 144 #[.pointer (some ⟨b,0,none⟩),tx n] w λ e w'=>e=.returned (.tuple #[.slice none 0 0,.int .i64 2])/\w'=w:=by
 have hc:=name_at n false hg w;clear hg;go_enter Tryz.func144,Tryz.ntmps144;go_wp2_with fail;refine hc.mono ?_;rintro e w1 ⟨rfl,rfl⟩;go_wp2;refine bodyPost_ret (results_tmp2 rfl _ _ _) rfl ?_;exact ⟨rfl,rfl⟩
theorem find_none (h:DiskM w b m f a k d S) (n:Bs) (hg:isName n=true) (hn:n.length<=maxLen) (hf:f n=none) :
  Calls Tryz.prog 144 #[.pointer (some ⟨b,0,none⟩),tx n] w λ e w'=>e=.returned (.tuple #[.slice none 0 0,.int .i64 5])/\w'=w:=by
 have hc:=name_at n true hg w;have hr:=h.look n hn _ hf;have c0:=h.cell.1;have H:Hid _:=h;clear hg hf h;go_enter Tryz.func144,Tryz.ntmps144;go_wp2_with fail;refine hc.mono ?_;rintro e w1 ⟨rfl,rfl⟩;go_wp2;refine bodyPost_ret (results_tmp2 rfl _ _ _) rfl ?_;exact ⟨rfl,rfl⟩
theorem find_ok (h:DiskM w b m f a k d S) (n:Bs) (hg:isName n=true) (hn:n.length<=maxLen) {v:Value} (hf:f n=some v) :
  Calls Tryz.prog 144 #[.pointer (some ⟨b,0,none⟩),tx n] w λ e w'=>e=.returned (.tuple #[v,.int .i64 0])/\w'=w:=by
 have hc:=name_at n true hg w;have hr:=h.look n hn _ hf;have c0:=h.cell.1;have H:Hid _:=h;clear hg hf h;go_enter Tryz.func144,Tryz.ntmps144;go_wp2_with fail;refine hc.mono ?_;rintro e w1 ⟨rfl,rfl⟩;go_wp2;refine bodyPost_ret (results_tmp2 rfl _ _ _) rfl ?_;exact ⟨rfl,rfl⟩
theorem read_m (h:DiskM w b m f a k d S) (n:Bs) (hn:n.length<=maxLen) (o:Option Value) (ho:f n=o) (bs:Bs) (hB:BAt w (o.getD (.slice none 0 0)) bs) (hl:bs.length<=262144) :
  Calls Tryz.prog 67 #[.pointer (some ⟨b,0,none⟩),tx n] w λ e w'=>∃ v,e=.returned (.tuple #[v,.bool o.isSome])/\OwnG encB 5 w' w.heap.size v bs/\Below w.heap.size w w':=by
 have hc:=bclone_any w hB (by omega);have hr:=h.look n hn o ho;have c0:=h.cell.1;have H:Hid _:=h;clear ho h hB
 obtain ⟨u,hu⟩:∃ u,o.getD (.slice none 0 0)=u:=⟨_,rfl⟩
 obtain ⟨g,hg⟩:∃ g,o.isSome=g:=⟨_,rfl⟩
 rw [hu,hg] at hr;rw [hu] at hc;rw [hg];go_enter Tryz.func67,Tryz.ntmps67;go_wp2_with fail;refine hc.mono ?_;rintro e w1 ⟨v,rfl,hO,hB⟩;go_wp2;refine bodyPost_ret (results_tmp2 rfl _ _ _) rfl ?_;exact ⟨v,rfl,hO,hB⟩
theorem read_at (h:DiskAt w b d S) (n:Bs) (hn:n.length<=maxLen) (hl:∀ bs,fget d.files n=some bs->bs.length<=262144) :
  Calls Tryz.prog 67 #[.pointer (some ⟨b,0,none⟩),tx n] w λ e w'=>∃ v,e=.returned (.tuple #[v,.bool (fget d.files n).isSome])/\OwnG encB 5 w' w.heap.size v ((fget d.files n).getD [])/\Below w.heap.size w w':=by
 obtain ⟨m,f,a,k,h⟩:=h
 rcases h.file n with ⟨h1,h2⟩ | ⟨bs,v,h1,h2,ho⟩
 ·rw [h1];exact read_m h n hn none h2 [] (OwnB.at (OwnG.nil _ _ _ _)) (by simp)
 ·rw [h1];exact read_m h n hn (some v) h2 bs (OwnB.at (ho.elim False.elim id)) (hl bs h1)
theorem room_any (h:DiskM w b m f a k d S) (n:Bs) (hn:n.length<=maxLen) (z:Nat) (hz:z<=262144) {v:Value} {xss:List Bs} (hp:PartsB w v xss) (hl:xss.length<=1000000) (hx:∀ x∈xss,x.length<=140737488355328)
  (g:Bool) (hg:(decide (z+xss.flatten.length<=262144)&&((fget d.files n).isSome||decide (d.files.length<32)))=g) :
  Calls Tryz.prog 154 #[.pointer (some ⟨b,0,none⟩),tx n,.int .i64 (z:Int),v] w λ e w'=>e=.returned (.bool g)/\w'=w:=by
 obtain ⟨ao,c,rfl,h1,h2⟩:=hp
 obtain ⟨N,eN⟩:∃ N,xss.length=N:=⟨_,rfl⟩
 rw [eN] at hl h1 ⊢;have hr:=h.look n hn _ rfl;rw [h.some_iff n] at hr
 obtain ⟨u,hu⟩:∃ u,(f n).getD (.slice none 0 0)=u:=⟨_,rfl⟩
 obtain ⟨q,hq⟩:∃ q,(fget d.files n).isSome=q:=⟨_,rfl⟩
 obtain ⟨L,hL⟩:∃ L,d.files.length=L:=⟨_,rfl⟩
 rw [hu,hq] at hr;rw [hq,hL] at hg;have hlen:=h.files.map.len;rw [hL] at hlen;have c0:=h.cell.1;have A:Hid (0<N->∃ b off,ao=some ⟨b,off,none⟩/\b<w.heap.size):=h1;have B:Hid (∀ j x b off,xss[j]? = some x->ao=some ⟨b,off,none⟩->∃ u,w.cell? ⟨b,off+j,none⟩=some u/\BAt w u x):=h2
 have H:Hid ((decide (z+xss.flatten.length<=262144)&&(q||decide (L<32)))=g/\xss.length=N/\∀ x∈xss,x.length<=140737488355328):=⟨hg,eN,hx⟩
 clear h1 h2 hg eN hx hu hq h;go_enter Tryz.func154,Tryz.ntmps154;go_wp2;go_loopg [2,15] N (λ k sv iv wr=>wr=w/\∃ i s:Nat,iv=.int .i64 i/\i+k=N/\sv=.int .i64 (s:Int)/\s<=262144/\Hid (s=z+(xss.take i).flatten.length))
 case atStart=>exact ⟨rfl,0,z,rfl,by omega,rfl,hz,rfl⟩
 case round =>
  obtain ⟨hw,i,s,rfl,hi,rfl,hs,HS⟩:=hrel;have hw':=hw.symm;subst hw';clear hw;by_cases hin:i<N
  ·have id:(i:Int)<(N:Int):=by omega
   obtain ⟨x,hx⟩:=get_some H.out.2.1 hin;obtain ⟨b1,o1,rfl,hlt⟩:=A.out (by omega);obtain ⟨u,hu,a2,c2,rfl,_,_,_⟩:=B.out i x b1 o1 hx rfl;have e2:=parts_le xss (i+1);rw [flat_take hx,List.length_append] at e2;have hxl:=H.out.2.2 x (List.mem_of_getElem? hx)
   obtain ⟨xl,exl⟩:∃ xl,x.length=xl:=⟨_,rfl⟩
   rw [exl] at hxl hu e2
   have E:Hid ((xss.take i).flatten.length+xl<=xss.flatten.length/\s+xl=z+(xss.take (i+1)).flatten.length):=⟨e2,by rw [flat_take hx,List.length_append,exl,HS.out]; omega⟩
   clear e2 hx exl;by_cases hbig:262144<s+xl
   ·have t:decide ((262144:Int)<(s:Int)+(xl:Int))=true:=by simp; omega
    have gf:g=false:=by
     rw [<- H.out.1]
     have:decide (z+xss.flatten.length<=262144)=false:=by
      have e3:=E.out.1;have e4:=HS.out;rw [decide_eq_false_iff_not];omega
     rw [this]
     rfl
    subst gf;go_wp2;go_ret;exact ⟨rfl,rfl⟩
   ·have t:decide ((262144:Int)<(s:Int)+(xl:Int))=false:=by simp; omega
    go_wp2;go_roundg (gk - 1)
    all_goals first
     | omega
     | exact ⟨rfl,i+1,s+xl,by go_num,by omega,by go_num,by omega,E.out.2⟩
  ·obtain rfl:i=N:=by omega
   have e0:s=z+xss.flatten.length:=by rw [HS.out,List.take_of_length_le (by rw [H.out.2.1]; exact Nat.le_refl _)]
   have hg:(q||decide (L<32))=g:=by
    rw [<- H.out.1]
    have:decide (z+xss.flatten.length<=262144)=true:=by rw [decide_eq_true_eq]; omega
    rw [this]
    rfl
   clear e0;cases q
   ·have hg':decide ((L:Int)<32)=g:=by rw [<- hg,Bool.false_or]; exact decide_eq_decide.2 (by omega)
    clear hg;go_wp2;go_ret;exact ⟨rfl,rfl⟩
   ·subst hg;go_wp2;go_ret;exact ⟨rfl,rfl⟩
end
end Go.Proofs.YtjlokpjflgbgdaaGreat

namespace Go.Proofs.YtjlokpjflgbgdaaGreat
open Go.RowKit
section
variable {S:Nat->Prop} {X:Bs->Prop} {w:World} {b m:Nat} {f:Bs->Option Value} {a k:Int} {d:Dk}
theorem grown_turned {w w':World} {m:Nat} (h:w.grownBy w' (some m)):Turned (λ i=>i=m) w w':=(Turned.refl _ w).grown h (λ i _ e=>by cases e; rfl)
theorem grown_cell {w w':World} {m:Nat} (h:w.grownBy w' (some m)) {p:Addr} (hp:p.block<w.heap.size) (hne:p.block≠m):w'.cell? p=w.cell? p:=(grown_turned h).cell hp hne
theorem DiskX.putIn (h:DiskX w b m f a k d S X) (hr:FRise d.files) {n bs:Bs} (hX:∀ x,X x->x=n) {v:Value} (hv:OwnB w v bs) (hap:∀ y u g,y≠n->f y=some u->u.ownBlock=some g->v.ownBlock≠some g) (hvS:∀ g,v.ownBlock=some g->S g)
  {w':World} (hg:w.grownBy w' (some m)) (hm:MapIs w' m (fput f n v) (if (f n).isSome then d.files.length else d.files.length+1)) :
  DiskM w' b m (fput f n v) a k { d with files:=fwith d.files n bs } S:=by
 have ht:Turned (λ i=>i=m) w w':=(Turned.refl _ w).grown hg (λ i _ e=>by cases e; rfl)
 have ne_m:∀ {u:Value} {cs:Bs} {g:Nat},OwnB w u cs->u.ownBlock=some g->g≠m:=by
  intro u cs g ho hg e;obtain ⟨cur,hc⟩:=ho.block hg;obtain ⟨es,c,hmb⟩:=h.files.map.block;rw [e,hmb] at hc;cases hc
 refine ⟨?_,h.cut,?_,h.mine,λ i hi=>Nat.lt_of_lt_of_le (h.lt i hi) hg.size⟩
 ·rw [ht.block b h.lt_b (λ e=>h.m_ne e.symm)];exact h.cells
 ·refine ⟨?_,?_,?_,?_,?_⟩
  ·rw [kwith_len n bs hr,<- h.some_iff n];cases e:(f n).isSome
   ·rw [e] at hm; exact hm
   ·rw [e] at hm; exact hm
  ·intro x hx;rw [fget_with n bs x hr] at hx;by_cases e:n=x
   ·rw [if_pos e] at hx; cases hx
   ·rw [if_neg e] at hx;unfold fput;rw [if_neg (λ q=>e q.symm)];exact h.files.no x hx
  ·intro x cs hx;rw [fget_with n bs x hr] at hx;unfold fput;by_cases e:n=x
   ·rw [if_pos e] at hx;cases hx;rw [if_pos e.symm];exact ⟨v,rfl,.inr (hv.turned ht (λ g hg=>ne_m hv hg))⟩
   ·rw [if_neg e] at hx;rw [if_neg (λ q=>e q.symm)];obtain ⟨u,hu,ho⟩:=h.files.yes x cs hx;refine ⟨u,hu,.inr ?_⟩
    rcases ho with q | q
    ·exact absurd (hX x q).symm e
    ·exact q.turned ht (λ g hg=>ne_m q hg)
  ·intro x y u v' g hxy hx hy hu;unfold fput at hx hy;by_cases e1:x=n
   ·rw [if_pos e1] at hx;cases hx;rw [if_neg (λ q=>hxy (by rw [e1,q]))] at hy;intro q;exact hap y v' g (λ q=>hxy (by rw [e1,q])) hy q hu
   ·rw [if_neg e1] at hx;by_cases e2:y=n
    ·rw [if_pos e2] at hy;cases hy;exact hap x u g e1 hx hu
    ·rw [if_neg e2] at hy;exact h.files.apart x y u v' g hxy hx hy hu
  ·intro x u g hx hu;unfold fput at hx;by_cases e:x=n
   ·rw [if_pos e] at hx;cases hx;exact hvS g hu
   ·rw [if_neg e] at hx;exact h.files.own x u g hx hu
theorem set_any (h:DiskX w b m f a k d S X) (hr:FRise d.files) (hl:d.files.length<=1000) {n bs:Bs} (hn:n.length<=140737488355328) (hX:∀ x,X x->x=n) {v:Value} (hv:OwnB w v bs) (hap:∀ y u g,y≠n->f y=some u->u.ownBlock=some g->v.ownBlock≠some g) (hvS:∀ g,v.ownBlock=some g->S g) :
  Calls Tryz.prog 146 #[.pointer (some ⟨b,0,none⟩),tx n,v] w λ e w'=>e=.returned (.tuple #[])/\DiskM w' b m (fput f n v) a k { d with files:=fwith d.files n bs } S/\Turned (λ i=>i=m) w w':=by
 have c0:=h.cell.1
 have H:Hid (DiskX w b m f a k d S X/\FRise d.files/\d.files.length<=1000/\(∀ x,X x->x=n)/\OwnB w v bs/\(∀ y u g,y≠n->f y=some u->u.ownBlock=some g->v.ownBlock≠some g)/\∀ g,v.ownBlock=some g->S g):=⟨h,hr,hl,hX,hv,hap,hvS⟩
 clear h hr hl hX hv hap hvS;go_enter Tryz.func146,Tryz.ntmps146;go_wp2_with fail
 go_region_held3 (λ u=>u.cell? ⟨b,0,none⟩=some (.map (some m))) (go_keep)
  (first | (go_at_call 195; refine (sclone_any ⟨n.toArray⟩ _ (by rw [str_size]; omega)).mono ?_; rintro e w1 ⟨rfl,B0⟩; have B1:=below_drew B0; obtain ⟨w2,hrun,hm2,hg2⟩:=(H.out.1.below B1).files.map.put ⟨n.toArray⟩ (by rw [str_size]; simp only [maxLen]; omega) (by have:=H.out.2.2.1; simp only [maxLen]; omega) v; have k1:=(H.out.1.below B1).cell.1; have k2:=(grown_cell hg2 (p:=⟨b,0,none⟩) (H.out.1.below B1).lt_b (λ e=>H.out.1.m_ne e.symm)).trans k1; have M:Hid (Below w.heap.size w w1/\w1.grownBy w2 (some m)/\MapIs w2 m (fput f n v) (if (f n).isSome then d.files.length else d.files.length+1)):=⟨B1,hg2,hm2⟩; clear B0 B1 hm2 hg2))
 go_end0;have hw1:=M.out.1;have hD:=H.out.1.below hw1;have ho:=H.out.2.2.2.2.1.turned (Turned.ofBelow (S:=λ _=>False) hw1) (λ _ _ q=>q);exact ⟨rfl,DiskX.putIn hD H.out.2.1 H.out.2.2.2.1 ho H.out.2.2.2.2.2.1 H.out.2.2.2.2.2.2 M.out.2.1 M.out.2.2,(Turned.ofBelow hw1).trans (grown_turned M.out.2.1) (λ _ _ q=>q)⟩
theorem DiskM.row_lt (h:DiskM w b m f a k d S) {x:Bs} {v:Value} {g:Nat} (hx:f x=some v) (hg:v.ownBlock=some g):g<w.heap.size:=h.lt g (h.files.own x v g hx hg)
theorem lay_mid {w1 w2 w3:World} {n cs:Bs} {va v3:Value} {a':Int} {d':Dk} (h:DiskM w b m f a k d S) (hva:∀ g,va.ownBlock=some g->f n=some va) (B1:Below w.heap.size w w1) (hD:DiskM w2 b m f a' k d' S) (ht2:Turned (λ i=>i=b) w1 w2)
  (hO:OwnB w3 v3 cs) (hM:Moved w2 va v3) (ht3:Turned (λ i=>va.ownBlock=some i) w2 w3) :
  DiskX w3 b m f a' k d' (Since S w w3) (λ x=>x=n)/\(∀ y u g,y≠n->f y=some u->u.ownBlock=some g->v3.ownBlock≠some g)/\(∀ g,v3.ownBlock=some g->Since S w w3 g)/\Turned S w w3:=by
 have hS:∀ i,S i->i<w3.heap.size:=λ i hi=>Nat.lt_of_lt_of_le (hD.lt i hi) ht3.size
 have hbk:∀ g,va.ownBlock=some g->g≠b/\g≠m/\S g:=λ g hg=>⟨(DiskM.row_ne hD (hva g hg) hg).1,(DiskM.row_ne hD (hva g hg) hg).2,hD.files.own n va g (hva g hg) hg⟩
 have hw2:w.heap.size<=w2.heap.size:=Nat.le_trans B1.size ht2.size;refine ⟨⟨?_,hD.cut,?_,⟨.inl hD.mine.1,.inl hD.mine.2⟩,?_⟩,?_,?_,?_⟩
 ·rw [ht3.block b hD.lt_b (λ e=>(hbk b e).1 rfl)];exact hD.cells
 ·refine (FilesX.mono hD.files (S':=Since S w w3) (X':=λ x=>x=n) (λ i hi=>.inl hi) (λ _ q=>q.elim)).turned ht3 (λ e=>(hbk m e).2.1 rfl) ?_;intro x u g hx hne hu hg;exact hD.files.apart x n u va g hne hx (hva g hg) hu hg
 ·intro i hi
  rcases hi with q | q
  ·exact hS i q
  ·exact q.2
 ·intro y u g hy hu hg q
  rcases hM with e | e
  ·have hg':va.ownBlock=some g:=by rw [<- e]; exact q
   exact hD.files.apart y n u va g hy hu (hva g hg') hg hg'
  ·have h1:=e g q;have h2:=DiskM.row_lt hD hu hg;omega
 ·intro g hg
  rcases hM with e | e
  ·exact .inl (hbk g (by rw [<- e]; exact hg)).2.2
  ·have h1:=e g hg;exact .inr ⟨by omega,(hO.lt g hg).2⟩
 ·refine ((Turned.ofBelow B1).trans (ht2.mono (T:=S) (λ i _ e=>by rw [e]; exact h.mine.1)) (λ _ _ q=>q)).trans (ht3.mono (T:=S) (λ i _ e=>(hbk i e).2.2)) (λ _ _ q=>q)
theorem lay_end {w3 w4:World} {a':Int} {d':Dk} {f':Bs->Option Value} (hm:S m) (hT:Turned S w w3) (hD:DiskM w4 b m f' a' k d' (Since S w w3)) (ht:Turned (λ i=>i=m) w3 w4):DiskAt w4 b d' (Since S w w4)/\Turned S w w4:=by
 refine ⟨⟨m,f',a',k,DiskX.mono hD (λ i hi=>?_) (λ _ q=>q) (λ i hi=>?_)⟩,hT.trans (ht.mono (T:=S) (λ i _ e=>by rw [e]; exact hm)) (λ _ _ q=>q)⟩
 ·rcases hi with q | q
  ·exact .inl q
  ·exact .inr ⟨q.1,Nat.lt_of_lt_of_le q.2 ht.size⟩
 ·rcases hi with q | q
  ·exact hD.lt i (.inl q)
  ·exact q.2
theorem bslice_j {v:Value} {xs:Bs} {j:Nat} (w0:World) (h:BAt w0 v xs) (hj:j<=xs.length) :
  ∃ v',(∀ w,(Instr.slice 39 v none (some (.int .i64 (j:Int))) none).run Tryz.prog w=.ok v' w)/\∀ w,BAt w v xs->BAt w v' (xs.take j):=by
 obtain ⟨i0,hi0,hz0,hz1,hz2⟩:=info_parts Tryz.info5;obtain ⟨ao,c,rfl,h1,h2,h3⟩:=h;refine ⟨.slice (if c=0 then ao else ao.map (·.add 0)) j c,λ w=>?_,λ w hB=>?_⟩
 ·rw [run_slice_h w 39 ao xs.length c Tryz.underlying39 .i64 (j:Int) (by omega) (by omega)]
  have:(sizeOf (Tryz.prog.elem 39)).run Tryz.prog w=.ok 1 w:=by
   have he:Tryz.prog.elem 39=5:=by kernel_rfl
   rw [he];simp [sizeOf,typeInfo,hi0,hz1]
  rw [this];simp [Result.andThen,sliced]
 ·obtain ⟨ao',c',e,_,_,h3⟩:=hB;cases e
  have hlen:(xs.take j).length=j:=by rw [List.length_take]; omega
  refine ⟨_,c,by rw [hlen],by omega,h2,?_⟩
  have key:(if c=0 then ao else ao.map (·.add 0))=ao∨xs=[]:=by
   by_cases hx:0<xs.length
   ·obtain ⟨b,off,rfl,_⟩:=h3 hx
    left
    split
    ·rfl
    ·simp [addr_plus]
   ·right
    exact List.eq_nil_of_length_eq_zero (by omega)
  rcases key with q | q
  ·rw [q];exact h3.take j
  ·rw [q,List.take_nil];exact RdG.nil _ _ _
theorem lay_bad (b:Nat) (n:Bs) (hg:isName n=false) (va v:Value):Calls Tryz.prog 85 #[.pointer (some ⟨b,0,none⟩),tx n,va,v] w λ e w'=>e=.returned (.int .i64 2)/\w'=w:=by
 have hc:=name_at n false hg w;clear hg;go_enter Tryz.func85,Tryz.ntmps85;go_wp2_with fail;refine hc.mono ?_;rintro e w1 ⟨rfl,rfl⟩;go_wp2;go_ret;exact ⟨rfl,rfl⟩
theorem lay_full (h:DiskM w b m f a k d S) (n:Bs) (hg:isName n=true) (hn:n.length<=maxLen) {va v:Value} {own:Bs} {xss:List Bs} (hva:OwnB w va own) (hz:own.length<=262144) (hp:PartsB w v xss) (hl:xss.length<=1000000) (hx:∀ x∈xss,x.length<=140737488355328)
  (hf:(decide (own.length+xss.flatten.length<=262144)&&((fget d.files n).isSome||decide (d.files.length<32)))=false) :
  Calls Tryz.prog 85 #[.pointer (some ⟨b,0,none⟩),tx n,va,v] w λ e w'=>e=.returned (.int .i64 7)/\w'=w:=by
 have hc:=name_at n true hg w;have hr:=room_any h n hn own.length hz hp hl hx false hf;obtain ⟨ao,cc,rfl,_⟩:=OwnG.form hva;clear hg h hva hp hx hf;go_enter Tryz.func85,Tryz.ntmps85;go_wp2_with fail;refine hc.mono ?_;rintro e w1 ⟨rfl,rfl⟩;go_wp2_with fail;refine hr.mono ?_;rintro e w1 ⟨rfl,rfl⟩;go_wp2;go_ret;exact ⟨rfl,rfl⟩
theorem lay_dead (h:DiskM w b m f a k d S) (hd:d.dead=true) (n:Bs) (hg:isName n=true) (hn:n.length<=maxLen) {va v:Value} {own:Bs} {xss:List Bs} (hva:OwnB w va own) (hz:own.length<=262144) (hp:PartsB w v xss) (hl:xss.length<=1000000) (hx:∀ x∈xss,x.length<=140737488355328)
  (hf:(decide (own.length+xss.flatten.length<=262144)&&((fget d.files n).isSome||decide (d.files.length<32)))=true) :
  Calls Tryz.prog 85 #[.pointer (some ⟨b,0,none⟩),tx n,va,v] w λ e w'=>e=.returned (.int .i64 8)/\w'=w:=by
 have hc:=name_at n true hg w;have hr:=room_any h n hn own.length hz hp hl hx true hf;have c2:=h.cell.2.2.1;rw [hd] at c2;obtain ⟨ao,cc,rfl,_⟩:=OwnG.form hva;clear hg h hva hp hx hf hd;go_enter Tryz.func85,Tryz.ntmps85;go_wp2_with fail;refine hc.mono ?_;rintro e w1 ⟨rfl,rfl⟩;go_wp2_with fail;refine hr.mono ?_;rintro e w1 ⟨rfl,rfl⟩;go_wp2;go_ret;exact ⟨rfl,rfl⟩
theorem lay_done (h:DiskM w b m f a k d S) (hr:FRise d.files) (hfl:d.files.length<=1000) (hd:d.dead=false) (hdo:(dnext d).2.1=true) (hb:d.after<9223372036854775808) (hw:d.writes<4611686018427387904) (n:Bs) (hg:isName n=true) (hn:n.length<=140737488355328) {va v:Value} {own:Bs} {xss:List Bs}
  (hva:OwnB w va own) (hvf:∀ g,va.ownBlock=some g->f n=some va) (hz:own.length<=262144) (hp:PartsB w v xss) (hl:xss.length<=1000000) (hx:∀ x∈xss,x.length<=140737488355328)
  (hf:(decide (own.length+xss.flatten.length<=262144)&&((fget d.files n).isSome||decide (d.files.length<32)))=true) :
  Calls Tryz.prog 85 #[.pointer (some ⟨b,0,none⟩),tx n,va,v] w λ e w'=>e=.returned (.int .i64 0)/\DiskAt w' b { (dnext d).1 with files:=fwith d.files n (own++xss.flatten) } (Since S w w')/\Turned S w w':=by
 have hc:=name_at n true hg w;have hrm:=room_any h n (by simp only [maxLen]; omega) own.length hz hp hl hx true hf
 have hsum:own.length+xss.flatten.length<=262144:=by
  simp only [Bool.and_eq_true,decide_eq_true_eq] at hf;exact hf.1
 have c2:=h.cell.2.2.1;rw [hd] at c2;have hcc:=concat_any w hp hl (by omega);have hva':OwnB w va own:=hva;obtain ⟨ao,cc,rfl,_⟩:=OwnG.form hva
 have H:Hid (DiskM w b m f a k d S/\FRise d.files/\d.files.length<=1000/\(dnext d).2.1=true/\OwnB w (.slice ao own.length cc) own/\(∀ g,(Value.slice ao own.length cc).ownBlock=some g->f n=some (.slice ao own.length cc))/\own.length+xss.flatten.length<=262144):=⟨h,hr,hfl,hdo,hva',hvf,hsum⟩
 clear hg h hva hp hx hf hd hr hfl hdo hva' hvf hsum;go_enter Tryz.func85,Tryz.ntmps85;go_wp2_with fail;refine hc.mono ?_;rintro e w1 ⟨rfl,hw1⟩;rw [hw1];clear hw1 w1;go_wp2_with fail;refine hrm.mono ?_;rintro e w1 ⟨rfl,hw1⟩;rw [hw1];clear hw1 w1;go_wp2_with fail;refine hcc.mono ?_;rintro e w1 ⟨vb,rfl,O1,B1⟩;have hwr:=write_any (H.out.1.below B1) hb hw
 have W1:Hid (OwnG encB 5 w1 w.heap.size vb xss.flatten/\Below w.heap.size w w1):=⟨O1,B1⟩
 clear O1 B1 hcc;go_wp2_with fail;refine hwr.mono ?_;rintro e w2 ⟨r,a',rfl,hr,hD,ht2⟩
 have er:r=0:=by rw [hr.out,if_pos H.out.2.2.2.1]
 subst er
 have W2:Hid (DiskM w2 b m f a' k (dnext d).1 S/\Turned (λ i=>i=b) w1 w2):=⟨hD,ht2⟩
 have b2:Hid (BAt w2 vb xss.flatten/\OwnB w2 (.slice ao own.length cc) own):=by
  refine ⟨?_,?_⟩
  ·refine OwnB.at (OwnB.turned (OwnG.low W1.out.1 (Nat.zero_le _)) ht2 (λ g hg e=>?_));have:=(W1.out.1.lt g hg).1;have:=H.out.1.lt_b;rw [e] at *;omega
  ·refine OwnB.turned (OwnG.below H.out.2.2.2.2.1 W1.out.2) ht2 (λ g hg e=>?_);exact (DiskM.row_ne H.out.1 (H.out.2.2.2.2.2.1 g hg) hg).1 e
 clear hwr hr hD ht2;go_wp2_with (at_builtin; (refine appB rfl (.tmp 46) (.tmp 47) rfl 0 _ _ own xss.flatten rfl b2.out.2 rfl b2.out.1 (by have:=H.out.2.2.2.2.2.2; omega) (Nat.zero_le _) ?_; intro v3 w3 O3 _ M3 T3));have L:=lay_mid H.out.1 H.out.2.2.2.2.2.1 W1.out.2 W2.out.1 W2.out.2 O3 M3 T3;have ef:(dnext d).1.files=d.files:=dnext_files d;have hs:=set_any L.1 (by rw [ef]; exact H.out.2.1) (by rw [ef]; exact H.out.2.2.1) hn (λ x q=>q) O3 L.2.1 L.2.2.1;have LH:Hid (Turned S w w3):=L.2.2.2;clear L O3 M3 T3;go_wp2_with fail;refine hs.mono ?_;rintro e w4 ⟨rfl,D4,T4⟩;have E:=lay_end H.out.1.mine.2 LH.out D4 T4;rw [ef] at E;clear D4 T4 hs;go_wp2;go_ret;exact ⟨rfl,E.1,E.2⟩
theorem lay_torn (h:DiskM w b m f a k d S) (hr:FRise d.files) (hfl:d.files.length<=1000) (hd:d.dead=false) (ha:d.armed=true) (h0:d.after=0) (hb:d.after<9223372036854775808) (hw:d.writes<4611686018427387904) (n:Bs) (hg:isName n=true) (hn:n.length<=140737488355328) {va v:Value} {own:Bs} {xss:List Bs}
  (hva:OwnB w va own) (hvf:∀ g,va.ownBlock=some g->f n=some va) (hz:own.length<=262144) (hp:PartsB w v xss) (hl:xss.length<=1000000) (hx:∀ x∈xss,x.length<=140737488355328)
  (hf:(decide (own.length+xss.flatten.length<=262144)&&((fget d.files n).isSome||decide (d.files.length<32)))=true) :
  Calls Tryz.prog 85 #[.pointer (some ⟨b,0,none⟩),tx n,va,v] w λ e w'=>e=.returned (.int .i64 8)/\DiskAt w' b { (dnext d).1 with files:=fwith d.files n (own++xss.flatten.take d.keep) } (Since S w w')/\Turned S w w':=by
 have hc:=name_at n true hg w;have hrm:=room_any h n (by simp only [maxLen]; omega) own.length hz hp hl hx true hf
 have hsum:own.length+xss.flatten.length<=262144:=by
  simp only [Bool.and_eq_true,decide_eq_true_eq] at hf;exact hf.1
 have hdo:(dnext d).2.1=false:=by rw [dnext_torn hd ha h0]
 have ek:k=(d.keep:Int):=(h.cut ha).2;subst ek;have c2:=h.cell.2.2.1;rw [hd] at c2;have hcc:=concat_any w hp hl (by omega);have hva':OwnB w va own:=hva;obtain ⟨ao,cc,rfl,_⟩:=OwnG.form hva
 have H:Hid (DiskM w b m f a (d.keep:Int) d S/\FRise d.files/\d.files.length<=1000/\(dnext d).2.1=false/\OwnB w (.slice ao own.length cc) own/\(∀ g,(Value.slice ao own.length cc).ownBlock=some g->f n=some (.slice ao own.length cc))/\own.length+xss.flatten.length<=262144):=⟨h,hr,hfl,hdo,hva',hvf,hsum⟩
 clear hg h hva hp hx hf hd hr hfl hdo hva' hvf hsum;go_enter Tryz.func85,Tryz.ntmps85;go_wp2_with fail;refine hc.mono ?_;rintro e w1 ⟨rfl,hw1⟩;rw [hw1];clear hw1 w1;go_wp2_with fail;refine hrm.mono ?_;rintro e w1 ⟨rfl,hw1⟩;rw [hw1];clear hw1 w1;go_wp2_with fail;refine hcc.mono ?_;rintro e w1 ⟨vb,rfl,O1,B1⟩;have hwr:=write_any (H.out.1.below B1) hb hw
 have W1:Hid (OwnG encB 5 w1 w.heap.size vb xss.flatten/\Below w.heap.size w w1):=⟨O1,B1⟩
 clear O1 B1 hcc;go_wp2_with fail;refine hwr.mono ?_;rintro e w2 ⟨r,a',rfl,hr,hD,ht2⟩
 have er:r=8:=by rw [hr.out,if_neg (by rw [H.out.2.2.2.1]; simp)]
 subst er
 have W2:Hid (DiskM w2 b m f a' (d.keep:Int) (dnext d).1 S/\Turned (λ i=>i=b) w1 w2):=⟨hD,ht2⟩
 have b2:Hid (BAt w2 vb xss.flatten/\OwnB w2 (.slice ao own.length cc) own):=by
  refine ⟨?_,?_⟩
  ·refine OwnB.at (OwnB.turned (OwnG.low W1.out.1 (Nat.zero_le _)) ht2 (λ g hg e=>?_));have:=(W1.out.1.lt g hg).1;have:=H.out.1.lt_b;rw [e] at *;omega
  ·refine OwnB.turned (OwnG.below H.out.2.2.2.2.1 W1.out.2) ht2 (λ g hg e=>?_);exact (DiskM.row_ne H.out.1 (H.out.2.2.2.2.2.1 g hg) hg).1 e
 clear hwr hr hD ht2;have c5:=W2.out.1.cell.2.2.2.2.2.1
 obtain ⟨K,eK⟩:∃ K,d.keep=K:=⟨_,rfl⟩
 rw [eK] at c5;have b3:=b2.out.1;obtain ⟨ab,cb,rfl,h31,h32,h33⟩:=b3
 obtain ⟨L,eL⟩:∃ L,xss.flatten.length=L:=⟨_,rfl⟩
 obtain ⟨J,eJ⟩:∃ J,min K L=J:=⟨_,rfl⟩
 have mj:min (K:Int) (L:Int)=(J:Int):=by omega
 have b4:Hid (BAt w2 (.slice ab J cb) (xss.flatten.take K)):=by
  have e:(xss.flatten.take K).length=J:=by rw [List.length_take,eL,eJ]
  exact ⟨ab,cb,by rw [e],by rw [e]; omega,h32,h33.take K⟩
 have hJ:J<=L:=by omega
 have hJc:(J:Int)<=(cb:Int):=by omega
 rw [eL];have ef:(dnext d).1.files=d.files:=dnext_files d
 have tl:(xss.flatten.take K).length<=xss.flatten.length:=by rw [List.length_take]; omega
 have T:Hid (own.length+(xss.flatten.take K).length<=262144):=by have:=H.out.2.2.2.2.2.2; show _<=_; omega
 clear h31 h32 h33 eJ tl;cases ab
 all_goals go_wp2_with (at_builtin; (refine appB rfl (.tmp 46) (.tmp 47) rfl 0 _ _ own (xss.flatten.take K) rfl b2.out.2 rfl b4.out (by have:=T.out; omega) (Nat.zero_le _) ?_; intro v3 w3 O3 _ M3 T3))
 all_goals have LL:=lay_mid H.out.1 H.out.2.2.2.2.2.1 W1.out.2 W2.out.1 W2.out.2 O3 M3 T3
 all_goals have hs:=set_any LL.1 (by rw [ef]; exact H.out.2.1) (by rw [ef]; exact H.out.2.2.1) hn (λ x q=>q) O3 LL.2.1 LL.2.2.1
 all_goals have LH:Hid (Turned S w w3):=LL.2.2.2
 all_goals clear LL O3 M3 T3
 all_goals go_wp2_with fail
 all_goals refine hs.mono ?_
 all_goals rintro e w4 ⟨rfl,D4,T4⟩
 all_goals have E:=lay_end H.out.1.mine.2 LH.out D4 T4
 all_goals rw [ef] at E
 all_goals clear D4 T4 hs
 all_goals go_wp2
 all_goals go_ret
 all_goals exact ⟨rfl,by rw [eK]; exact E.1,E.2⟩
structure Dk.ok (d:Dk):Prop where
 rise:FRise d.files
 few:d.files.length<=32
 each:∀ f∈d.files,isName f.1=true/\f.2.length<=262144
 after:d.after<9223372036854775808
theorem Dk.ok.get (h:Dk.ok d) {n bs:Bs} (hg:fget d.files n=some bs):bs.length<=262144:=(h.each _ (fget_mem hg)).2
theorem since_same (S:Nat->Prop) (w:World):∀ i,Since S w w i->S i:=by
 intro i h
 rcases h with q | q
 ·exact q
 ·omega
theorem DiskM.same (h:DiskM w b m f a k d S):DiskAt w b d (Since S w w):=⟨m,f,a,k,DiskX.mono h (λ _ q=>.inl q) (λ _ q=>q) (λ i hi=>h.lt i (since_same S w i hi))⟩
theorem lay_any (h:DiskM w b m f a k d S) (hk:d.ok) (hw:d.writes<4611686018427387904) (n:Bs) (hn:n.length<=140737488355328) {va v:Value} {own:Bs} {xss:List Bs}
  (hva:OwnB w va own) (hvf:∀ g,va.ownBlock=some g->f n=some va) (hz:own.length<=262144) (hp:PartsB w v xss) (hl:xss.length<=1000000) (hx:∀ x∈xss,x.length<=140737488355328) :
  Calls Tryz.prog 85 #[.pointer (some ⟨b,0,none⟩),tx n,va,v] w λ e w'=>∃ r,e=.returned (.int .i64 r)/\Hid (r=(dlay d n own xss.flatten).2)/\DiskAt w' b (dlay d n own xss.flatten).1 (Since S w w')/\Turned S w w':=by
 have hn':n.length<=maxLen:=by simp only [maxLen]; omega
 unfold dlay;by_cases hg:isName n=false
 ·refine (lay_bad b n hg va v).mono ?_;rintro e w' ⟨rfl,rfl⟩;rw [if_pos hg];exact ⟨2,rfl,rfl,DiskM.same h,Turned.refl _ _⟩
 ·rw [if_neg hg]
  have hg':isName n=true:=by simpa using hg
  by_cases hfull:262144<own.length+xss.flatten.length∨(fget d.files n=none/\32<=d.files.length)
  ·have hf:(decide (own.length+xss.flatten.length<=262144)&&((fget d.files n).isSome||decide (d.files.length<32)))=false:=by
    rcases hfull with q | ⟨q1,q2⟩
    ·rw [decide_eq_false (by omega)]; rfl
    ·rw [q1,decide_eq_false (p:=d.files.length<32) (by omega)]; simp
   refine (lay_full h n hg' hn' hva hz hp hl hx hf).mono ?_;rintro e w' ⟨rfl,rfl⟩;rw [if_pos hfull];exact ⟨7,rfl,rfl,DiskM.same h,Turned.refl _ _⟩
  ·rw [if_neg hfull]
   have hf:(decide (own.length+xss.flatten.length<=262144)&&((fget d.files n).isSome||decide (d.files.length<32)))=true:=by
    rw [decide_eq_true (by omega),Bool.true_and]
    cases q:fget d.files n with
    | none=>rw [decide_eq_true (p:=d.files.length<32) (by have:¬ (32<=d.files.length):=λ q2=>hfull (.inr ⟨q,q2⟩); omega)]; rfl
    | some _=>rfl
   by_cases hd:d.dead=true
   ·refine (lay_dead h hd n hg' hn' hva hz hp hl hx hf).mono ?_;rintro e w' ⟨rfl,rfl⟩;rw [dnext_dead hd];exact ⟨8,rfl,rfl,DiskM.same h,Turned.refl _ _⟩
   ·have hd:d.dead=false:=by simpa using hd
    by_cases hto:d.armed=true/\d.after=0
    ·refine (lay_torn h hk.rise (by have:=hk.few; omega) hd hto.1 hto.2 hk.after hw n hg' hn hva hvf hz hp hl hx hf).mono ?_;rintro e w' ⟨rfl,h1,h2⟩;rw [dnext_torn hd hto.1 hto.2] at h1 ⊢;exact ⟨8,rfl,rfl,h1,h2⟩
    ·have hdo:(dnext d).2.1=true:=by
      by_cases ha:d.armed=true
      ·rw [dnext_armed hd ha (λ q=>hto ⟨ha,q⟩)]
      ·rw [dnext_plain hd (by simpa using ha)]
     refine (lay_done h hk.rise (by have:=hk.few; omega) hd hdo hk.after hw n hg' hn hva hvf hz hp hl hx hf).mono ?_;rintro e w' ⟨rfl,h1,h2⟩;rw [if_pos hdo];exact ⟨0,rfl,rfl,h1,h2⟩
theorem append_at (h:DiskAt w b d S) (hk:d.ok) (hw:d.writes<4611686018427387904) (n:Bs) (hn:n.length<=140737488355328) {v:Value} {xss:List Bs} (hp:PartsB w v xss) (hl:xss.length<=1000000) (hx:∀ x∈xss,x.length<=140737488355328) :
  Calls Tryz.prog 25 #[.pointer (some ⟨b,0,none⟩),tx n,v] w λ e w'=>∃ r,e=.returned (.int .i64 r)/\Hid (r=(dapp d n xss.flatten).2)/\DiskAt w' b (dapp d n xss.flatten).1 (Since S w w')/\Turned S w w':=by
 obtain ⟨m,f,a,k,h⟩:=h;have hlk:=h.look1 n (by simp only [maxLen]; omega) _ rfl;have c0:=h.cell.1
 have hc:Calls Tryz.prog 85 #[.pointer (some ⟨b,0,none⟩),tx n,(f n).getD (.slice none 0 0),v] w λ e w'=>∃ r,e=.returned (.int .i64 r)/\Hid (r=(dapp d n xss.flatten).2)/\DiskAt w' b (dapp d n xss.flatten).1 (Since S w w')/\Turned S w w':=by
  unfold dapp
  rcases h.file n with ⟨h1,h2⟩ | ⟨bs,u,h1,h2,ho⟩
  ·rw [h1,h2];exact lay_any h hk hw n hn (OwnG.nil encB 5 w 0) (λ g hg=>by simp [Value.ownBlock] at hg) (by simp) hp hl hx
  ·rw [h1,h2];exact lay_any h hk hw n hn (ho.elim False.elim id) (λ g hg=>h2) (hk.get h1) hp hl hx
 obtain ⟨u,hu⟩:∃ u,(f n).getD (.slice none 0 0)=u:=⟨_,rfl⟩
 rw [hu] at hc hlk;clear h hp hu;go_enter Tryz.func25,Tryz.ntmps25;go_wp2_with fail;refine hc.mono ?_;rintro e w1 ⟨r,rfl,h1,h2,h3⟩;have H:Hid _:=And.intro h2 h3;clear h2 h3;go_wp2;go_ret;exact ⟨r,rfl,h1,H.out.1,H.out.2⟩
end
end Go.Proofs.YtjlokpjflgbgdaaGreat

namespace Go.Proofs.YtjlokpjflgbgdaaGreat
variable {d:Dk}
theorem next_after (d:Dk):(dnext d).1.after<=d.after:=by
 unfold dnext
 split
 ·exact Nat.le_refl _
 ·split
  ·exact Nat.le_refl _
  ·show (if d.armed then d.after - 1 else d.after)<=d.after
   split <;> omega
theorem next_writes (d:Dk):(dnext d).1.writes<=d.writes+1:=by
 unfold dnext
 split
 ·exact Nat.le_succ _
 ·split
  ·exact Nat.le_succ _
  ·exact Nat.le_refl _
theorem Dk.ok.next (h:d.ok):(dnext d).1.ok:=by
 have e:=dnext_files d;exact ⟨by rw [e]; exact h.rise,by rw [e]; exact h.few,by rw [e]; exact h.each,Nat.lt_of_le_of_lt (next_after d) h.after⟩
theorem Dk.ok.with {d':Dk} (h:d.ok) (h':d'.ok) {n bs:Bs} (hn:isName n=true) (hb:bs.length<=262144) (hf:fget d.files n≠none∨d.files.length<32):({ d' with files:=fwith d.files n bs }:Dk).ok:=by
 refine ⟨rise_with n bs h.rise,?_,?_,h'.after⟩
 ·show (fwith d.files n bs).length<=32;rw [kwith_len n bs h.rise];have:=h.few
  cases e:fget d.files n with
  | none =>
   have:d.files.length<32:=hf.elim (λ q=>absurd e q) id;simp;omega
  | some _=>simpa using this
 ·intro f hf
  rcases mem_fwith _ _ _ _ hf with rfl | q
  ·exact ⟨hn,hb⟩
  ·exact h.each f q
theorem ok_lay (h:d.ok) {n own more:Bs}:(dlay d n own more).1.ok:=by
 unfold dlay
 split
 ·exact h
 ·rename_i hn
  have hn':isName n=true:=by simpa using hn
  split
  ·exact h
  ·rename_i hf
   have hlen:own.length+more.length<=262144:=by omega
   have hroom:fget d.files n≠none∨d.files.length<32:=by
    by_cases q:fget d.files n=none
    ·exact .inr (by have:¬ 32<=d.files.length:=λ r=>hf (.inr ⟨q,r⟩); omega)
    ·exact .inl q
   split
   ·exact h.with h.next hn' (by simp; omega) hroom
   ·split
    ·exact h.with h.next hn' (by simp; omega) hroom
    ·exact h.next
theorem ok_app (h:d.ok) (n v:Bs):(dapp d n v).1.ok:=ok_lay h
theorem ok_trim (h:d.ok) (n:Bs) (z:Int):(dtrim d n z).1.ok:=by
 unfold dtrim
 split
 ·exact h
 ·rename_i hn
  have hn':isName n=true:=by simpa using hn
  split
  ·exact h
  ·rename_i s hs
   split
   ·exact h
   ·split
    ·exact h.with h.next hn' (by have:=h.get hs; rw [List.length_take]; omega) (.inl (by rw [hs]; simp))
    ·exact h.next
theorem wr_lay (d:Dk) (n own more:Bs):(dlay d n own more).1.writes<=d.writes+1:=by
 unfold dlay
 repeat' split
 all_goals first | exact next_writes d | exact Nat.le_succ _
end Go.Proofs.YtjlokpjflgbgdaaGreat

namespace Go.Proofs.YtjlokpjflgbgdaaGreat
open Go.RowKit
theorem sput_cases (st:St) (d:Dk) (k:Int) (b:Bs) (h4:k≠4) (h5:k≠5) :
  (oget st.objs k (oid k b)=some b/\sput st d k b=((st,d),oid k b,0)) ∨
  (∃ e,e≠0/\(sput st d k b).2.2=e/\(sput st d k b).1.1=st/\((sput st d k b).1.2=d∨(sput st d k b).1.2=(dapp d fileN (fseal (k,b)).1).1)) ∨
  (oget st.objs k (oid k b)=none/\sput st d k b=(({ st with objs:=st.objs++[⟨k,oid k b,b⟩] },(dapp d fileN (fseal (k,b)).1).1),oid k b,0)):=by
 cases e:oget st.objs k (oid k b) with
 | some old =>
  by_cases ho:old=b
  ·subst ho
   left
   refine ⟨rfl,?_⟩;unfold sput;rw [e];simp
  ·right; left
   refine ⟨13,by decide,?_⟩;unfold sput;rw [e];simp [ho]
 | none =>
  by_cases h0:oid k b=0
  ·right; left
   refine ⟨13,by decide,?_⟩;unfold sput;rw [e];simp [h0]
  ·by_cases hc:(dapp d fileN (fseal (k,b)).1).2=0
   ·right; right
    refine ⟨rfl,?_⟩;unfold sput;rw [e];simp only [h0,if_false];unfold sapp;simp only [hc,if_true];unfold St.take;simp [h4,h5]
   ·right; left
    refine ⟨(dapp d fileN (fseal (k,b)).1).2,hc,?_⟩;unfold sput;rw [e];simp only [h0,if_false];unfold sapp;simp [hc]
theorem sput_got {st:St} {d:Dk} {k:Int} {b:Bs} (h4:k≠4) (h5:k≠5) (h:(sput st d k b).2.2=0):oget (sput st d k b).1.1.objs k (oid k b)=some b/\(sput st d k b).2.1=oid k b:=by
 rcases sput_cases st d k b h4 h5 with ⟨g,e⟩ | ⟨e,h0,h1,_⟩ | ⟨g,e⟩
 ·rw [e]; exact ⟨g,rfl⟩
 ·rw [h] at h1; exact absurd h1.symm h0
 ·rw [e];refine ⟨?_,rfl⟩;show oget (st.objs++[⟨k,oid k b,b⟩]) k (oid k b)=some b;rw [oget_snoc,g];simp
theorem has_get {st:St} {k:Int} {i:UInt64}:st.has k i=true↔∃ b,oget st.objs k i=some b:=by
 unfold St.has;rw [Option.isSome_iff_exists]
structure More (st st':St) (d d':Dk):Prop where
 size:st'.size<=st.size+1
 writes:d'.writes<=d.writes+1
 ok:d.ok->d'.ok
theorem More.same (st:St) (d:Dk):More st st d d:=⟨by omega,by omega,λ h=>h⟩
theorem sput_more (st:St) (d:Dk) (k:Int) (b:Bs) (h4:k≠4) (h5:k≠5):More st (sput st d k b).1.1 d (sput st d k b).1.2:=by
 have wr:(dapp d fileN (fseal (k,b)).1).1.writes<=d.writes+1:=wr_lay _ _ _ _
 rcases sput_cases st d k b h4 h5 with ⟨_,e⟩ | ⟨_,_,_,e,e2 | e2⟩ | ⟨_,e⟩
 ·rw [e]; exact More.same _ _
 ·rw [e,e2]; exact More.same _ _
 ·rw [e,e2]; exact ⟨by omega,wr,λ h=>ok_app h _ _⟩
 ·rw [e];refine ⟨?_,wr,λ h=>ok_app h _ _⟩;unfold St.size;simp;omega
theorem sblob_more (st:St) (d:Dk) (b:Bs):More st (sblob st d b).1.1 d (sblob st d b).1.2:=by
 unfold sblob
 split
 ·exact More.same _ _
 ·exact sput_more st d 1 b (by decide) (by decide)
theorem stree_more (st:St) (d:Dk) (es:List En):More st (stree st d es).1.1 d (stree st d es).1.2:=by
 unfold stree
 split
 ·exact More.same _ _
 ·split
  ·exact More.same _ _
  ·exact sput_more st d 2 _ (by decide) (by decide)
theorem scom_more (st:St) (d:Dk) (c:Cm):More st (scom st d c).1.1 d (scom st d c).1.2:=by
 unfold scom
 split
 ·exact More.same _ _
 ·split
  ·exact More.same _ _
  ·exact sput_more st d 3 _ (by decide) (by decide)
end Go.Proofs.YtjlokpjflgbgdaaGreat

namespace Go.Proofs.YtjlokpjflgbgdaaGreat
open Go.RowKit
structure KeyK (α:Type) where
 ty:TypeId
 val:α->Value
 lit:α->Lit
 fit:α->Prop
 keyed:Maps.Keyed Tryz.prog ty
 key:∀ x,fit x->keyOf Tryz.prog ty (val x)=some (lit x)
 inj:∀ {x y},lit x=lit y->x=y
def kU:KeyK UInt64 where
 ty:=56
 val:=λ x=>.int .u64 (x.toNat:Int)
 lit:=λ x=>.int .u64 (x.toNat:Int)
 fit:=λ _=>True
 keyed:=Maps.int_keyed Tryz.underlying56
 key:=λ x _=>Maps.keyOf_int_mk Tryz.underlying56 (by
  have:=x.toNat_lt;simp [Lit.wf,IntKind.min,IntKind.max,IntKind.signed,IntKind.bits]
  omega)
 inj:=λ {x y} h=>by
  injection h with _ h
  exact UInt64.toNat_inj.1 (by omega)
def kS:KeyK Bs where
 ty:=9
 val:=λ x=>.string ⟨x.toArray⟩
 lit:=λ x=>.string x
 fit:=λ x=>x.length<=maxLen
 keyed:=keyedS
 key:=λ x h=>key_of ⟨x.toArray⟩ (by simpa [ByteArray.size] using h)
 inj:=λ h=>by cases h; rfl
section
variable {α:Type} (K:KeyK α)
def MapG (w:World) (m:Nat) (f:α->Option Value) (n:Nat):Prop :=
 ∃ D:DataW Value,w.ownsMap Tryz.prog K.ty heldR m n D/\Maps.size D=n/\(∀ x,Maps.has D (K.lit x)=(f x).isSome)/\∀ x v,f x=some v->∀ zd,D.atKey (K.lit x) zd=.held v
variable {K} {w w':World} {m n:Nat} {f:α->Option Value}
theorem ownG_tight {D:DataW Value} (h:w.ownsMap Tryz.prog K.ty heldR m n D):w.ownsMap Tryz.prog K.ty heldR m (Maps.size D) D:=by
 obtain ⟨es,clock,hb,F,_,rfl⟩:=h;refine ⟨es,clock,hb,F,?_,rfl⟩;simp [Maps.size,length_sorted]
theorem MapG.block (h:MapG K w m f n):∃ es clock,w.heap[m]? = some (.map es clock):=by
 obtain ⟨D,⟨es,clock,hb,_⟩,_⟩:=h;exact ⟨es,clock,hb⟩
theorem MapG.turned {S:Nat->Prop} (h:MapG K w m f n) (ht:Turned S w w') (hS:¬ S m):MapG K w' m f n:=by
 obtain ⟨D,⟨es,clock,hb,r⟩,q⟩:=h;exact ⟨D,⟨es,clock,(ht.block m (Array.getElem?_eq_some_iff.1 hb).1 hS).trans hb,r⟩,q⟩
theorem MapG.new (hm:w.heap[m]? = some (.map #[] 0)):MapG K w m (λ _=>none) 0 :=
 ⟨.map [],⟨#[],0,hm,⟨by simp,MapKept.stamped_empty 0,by simp⟩,Nat.le_refl _,rfl⟩,rfl,λ _=>rfl,λ _ _ h=>by cases h⟩
theorem MapG.look (h:MapG K w m f n) {t e:TypeId} (ht:Tryz.prog.underlying t=some (.map K.ty e)) {z:Value} (hz:(zeroValue e).run Tryz.prog w=.ok z w) (x:α) (hx:K.fit x) :
  (Instr.lookup t (.map (some m)) (K.val x) true).run Tryz.prog w=.ok (.tuple #[(f x).getD z,.bool (f x).isSome]) w:=by
 obtain ⟨D,ho,_,hh,ha⟩:=h;obtain ⟨v,ps,hrun,hv⟩:=ho.look_ok K.keyed ht hz (zd:=.held z) (zp:=[]) rfl (K.key x hx);rw [hrun,hh]
 have e:DataW.held v=D.atKey (K.lit x) (.held z):=by
  have:=Option.some.inj hv;exact congrArg Prod.fst this
 cases hf:f x with
 | none =>
  rw [Maps.atKey_of_not_has (by rw [hh,hf]; rfl)] at e;cases e
  rfl
 | some u =>
  rw [ha _ u hf] at e;cases e
  rfl
def gput [DecidableEq α] (f:α->Option Value) (x:α) (v:Value):α->Option Value:=λ y=>if y=x then some v else f y
def gdel [DecidableEq α] (f:α->Option Value) (x:α):α->Option Value:=λ y=>if y=x then none else f y
theorem KeyK.ne (K:KeyK α) {x y:α} (h:y≠x):K.lit y≠K.lit x:=λ e=>h (K.inj e)
theorem MapG.put [DecidableEq α] (h:MapG K w m f n) {t e:TypeId} (ht:Tryz.prog.underlying t=some (.map K.ty e)) (x:α) (hx:K.fit x) (hn:n<maxLen) (v:Value) :
  ∃ w',(Instr.mapUpdate t (.map (some m)) (K.val x) v).run Tryz.prog w=.ok () w'/\MapG K w' m (gput f x v) (if (f x).isSome then n else n+1)/\w.grownBy w' (some m):=by
 obtain ⟨D,ho,hsz,hh,ha⟩:=h;obtain ⟨w',hrun,h1,h2⟩:=ho.update K.keyed ht hn (K.key x hx) (d:=.held v) (ps:=[]) (val:=v) rfl;have hkl:WideAt.IsKeyLit (K.lit x):=K.keyed.key (K.key x hx)
 have hsz':Maps.size (D.put (K.lit x) (.held v))=if (f x).isSome then n else n+1:=by
  rw [Maps.size_put (ho.tidy K.keyed),hh,hsz]
 refine ⟨w',hrun,⟨_,?_,hsz',?_,?_⟩,h2⟩
 ·rw [<- hsz'];exact ownG_tight h1
 ·intro y;unfold gput;by_cases e:y=x
  ·rw [if_pos e,e,Maps.has_put_same ho.isMap hkl]
   rfl
  ·rw [if_neg e,Maps.has_put_other (K.ne e),hh]
 ·intro y u hy zd;unfold gput at hy;by_cases e:y=x
  ·rw [if_pos e] at hy;cases hy;rw [e,Maps.atKey_put_same ho.isMap hkl]
  ·rw [if_neg e] at hy;rw [Maps.atKey_put_other (K.ne e),ha y u hy]
theorem MapG.del [DecidableEq α] (h:MapG K w m f n) {t e:TypeId} (ht:Tryz.prog.underlying t=some (.map K.ty e)) (x:α) (hx:K.fit x) (hi:(f x).isSome=true) (k2 ty:TypeId) :
  ∃ w',(Builtin.delete_ #[t,k2] ty #[.map (some m),K.val x]).run Tryz.prog w=.ok (.tuple #[]) w'/\MapG K w' m (gdel f x) (n - 1)/\w.grownBy w' (some m):=by
 obtain ⟨D,ho,hsz,hh,ha⟩:=h;obtain ⟨w',hrun,h1,h2⟩:=ho.drop K.keyed ht (K.key x hx) ty
 have hsz':Maps.size (D.del (K.lit x))=n - 1:=by
  have:=Maps.size_del (k:=K.lit x) (ho.tidy K.keyed);rw [hh,hi,hsz] at this;simp at this;omega
 refine ⟨w',hrun,⟨_,?_,hsz',?_,?_⟩,h2.grown⟩
 ·rw [<- hsz'];exact ownG_tight h1
 ·intro y;unfold gdel;by_cases e:y=x
  ·rw [if_pos e,e,Maps.has_del_same]
   rfl
  ·rw [if_neg e,Maps.has_del_other (K.ne e),hh]
 ·intro y u hy zd;unfold gdel at hy;by_cases e:y=x
  ·rw [if_pos e] at hy;cases hy
  ·rw [if_neg e] at hy;rw [Maps.atKey_del_other (K.ne e),ha y u hy]
end
end Go.Proofs.YtjlokpjflgbgdaaGreat
