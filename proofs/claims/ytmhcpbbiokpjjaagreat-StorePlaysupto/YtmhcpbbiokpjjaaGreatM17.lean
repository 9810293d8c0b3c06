/-
  Several texts, laid together.
-/
import Derived.Test.YtmhcpbbiokpjjaaGreatM16
set_option maxHeartbeats 6400000
set_option maxRecDepth 100000
namespace Go.Proofs.YtmhcpbbiokpjjaaGreat
open Go.RowKit
theorem Zg9 {r:Rs} (hr:r.2=false) (hne:r.1≠[]) :
  ((rnum (rtxt r).2).2.2=false/\one r.1=some (((rtxt r).1,UInt64.ofNat (rnum (rtxt r).2).1),(rnum (rtxt r).2).2.1))∨((rnum (rtxt r).2).2=([],true)/\one r.1=none):=by
 obtain ⟨l,s⟩:=r;simp only at hr hne;subst hr
 cases l with
 | nil=>exact absurd rfl hne
 | cons x t =>
  have hx:=x.toNat_lt
  have e1:rcnt (x::t,false)=(x.toNat,(t,false)):=by
   have:=ZeE x.toNat (by omega) t false;simpa using this
  have e2:rtxt (x::t,false)=rtake x.toNat (t,false):=by
   unfold rtxt;rw [e1]
  rw [e2];by_cases h1:t.length<x.toNat
  ·right
   have e3:rtake x.toNat (t,false)=([],([],true)):=by unfold rtake; rw [if_pos h1]
   rw [e3];refine ⟨by unfold rnum rtake; simp,?_⟩;simp only [one];rw [if_pos (by omega)]
  ·have e3:rtake x.toNat (t,false)=(t.take x.toNat,(t.drop x.toNat,false)):=by unfold rtake; rw [if_neg h1]
   rw [e3];by_cases h2:t.length<x.toNat+8
   ·right
    refine ⟨?_,?_⟩
    ·unfold rnum rtake;simp only;rw [if_pos (by rw [List.length_drop]; omega)]
    ·simp only [one];rw [if_pos h2]
   ·left
    have e4:rtake 8 (t.drop x.toNat,false)=((t.drop x.toNat).take 8,((t.drop x.toNat).drop 8,false)):=by
     unfold rtake;simp only;rw [if_neg (by rw [List.length_drop]; omega)]
    unfold rnum;simp only;rw [e4];refine ⟨rfl,?_⟩;simp only [one];rw [if_neg h2,List.drop_drop]
theorem Zjm {r:Rs} (hr:r.2=false) (hne:r.1≠[]):(rnum (rtxt r).2).2.1.length<r.1.length:=by
 rcases Zg9 hr hne with ⟨_,h⟩ | ⟨h,_⟩
 ·have:=(Zdf h).1;have l:=congrArg List.length this;rw [List.length_append,Zdj] at l;omega
 ·rw [h]
  cases hl:r.1 with
  | nil=>exact absurd hl hne
  | cons x t=>simp
def Zfc (bs:Bs) (es:List En) (r:Rs):Prop:=es.length<=65/\Sm es/\((r.2=false/\bs=treeB es++r.1)∨(r=([],true)/\RT bs [] 9))
theorem Zfc.start (bs:Bs):Zfc bs [] (bs,false):=⟨by simp,λ e h=>by simp at h,.inl ⟨rfl,by simp [treeB]⟩⟩
theorem Zfc.step {bs:Bs} {es:List En} {r:Rs} (h:Zfc bs es r) (hne:r.1≠[]) (h64:es.length<=64) :
  Zfc bs (es++[((rtxt r).1,UInt64.ofNat (rnum (rtxt r).2).1)]) (rnum (rtxt r).2).2/\(rnum (rtxt r).2).2.1.length<r.1.length:=by
 obtain ⟨_,h2,h3⟩:=h
 rcases h3 with ⟨h3,h4⟩ | ⟨h3,_⟩
 ·refine ⟨⟨by simp; omega,h2.snoc (ZkT r),?_⟩,Zjm h3 hne⟩
  rcases Zg9 h3 hne with ⟨q1,q2⟩ | ⟨q1,q2⟩
  ·left
   refine ⟨q1,?_⟩;rw [ZcF,List.append_assoc,<- (Zdf q2).1];exact h4
  ·right
   exact ⟨q1,Zjd h2 h4 hne q2⟩
 ·rw [h3] at hne;exact absurd rfl hne
theorem ZcY {a:Option Addr} {n c:Nat} {bs:Bs} (w:World) (hb:BAt w (.slice a n c) bs) (hl:bs.length=n) :
  Calls Tryz.prog 135 #[.slice a n c] w λ e w'=>∃ es er v,e=.returned (.tuple #[v,.int .i64 er])/\Hid (RT bs es er/\OwnG encE 91 w' w.heap.size v es/\Below w.heap.size w w'):=by
 have H:Hid (Rdr (w.alloc (.cells #[.slice a n c,.bool false] 272)) w.heap.size (bs,false)/\Below w.heap.size w (w.alloc (.cells #[.slice a n c,.bool false] 272))/\(w.alloc (.cells #[.slice a n c,.bool false] 272)).heap.size=w.heap.size+1/\bs.length=n) :=
  ⟨Rdr.new hb hl,bz1 _ _,by simp,hl⟩
 clear hb hl;go_enter Tryz.func135,Tryz.ntmps135;go_wp2_with fail;go_loopg [5] n (λ m lv wr=>∃ (es:List En) (r:Rs) (la:Option Addr) (lc L:Nat),lv=.slice la L lc/\L<=65/\m=r.1.length/\Hid (L=es.length/\Zfc bs es r/\Rdr wr w.heap.size r/\OwnG encE 91 wr (w.heap.size+1) lv es/\Below w.heap.size w wr/\w.heap.size+1<=wr.heap.size))
 case atStart=>exact ⟨[],(bs,false),none,0,0,rfl,by omega,H.out.2.2.2.symm,rfl,Zfc.start bs,H.out.1,OwnG.nil _ _ _ _,H.out.2.1,by rw [H.out.2.2.1]; exact Nat.le_refl _⟩
 case round =>
  obtain ⟨es,r,la,lc,L,rfl,hL,hm,HR⟩:=hrel;obtain ⟨ra,rc,hbx,_⟩:=HR.out.2.2.1.at_;rw [<- hm] at hbx;obtain ⟨x0,x1⟩:=hbx.cells;clear hbx;by_cases h0:gk=0
  ·subst h0;have hr0:r.1=[]:=List.eq_nil_of_length_eq_zero hm.symm;have hh:=HR.out.2.1;obtain ⟨_,hsm,hq⟩:=hh;clear hm
   cases hs:r.2 with
   | true =>
    rw [hs] at x1
    have hrt:RT bs [] 9:=by
     rcases hq with ⟨q1,_⟩ | ⟨_,q2⟩
     ·rw [hs] at q1; cases q1
     ·exact q2
    have HH:Hid (RT bs [] 9):=hrt;clear hq hrt hs hr0 hsm;go_wp2;refine bodyPost_ret (results_tmp2 rfl _ _ _) rfl ?_;exact ⟨[],9,_,rfl,HH.out,OwnG.nil _ _ _ _,HR.out.2.2.2.2.1⟩
   | false =>
    rw [hs] at x1
    have hbs:bs=treeB es:=by
     rcases hq with ⟨_,q2⟩ | ⟨q1,_⟩
     ·rw [hr0,List.append_nil] at q2; exact q2
     ·rw [q1] at hs; cases hs
    obtain ⟨ao',cap',e',o1,_,o3,_⟩:=OwnG.form HR.out.2.2.2.1;rw [<- HR.out.1] at e' o1;cases e';have hct:=ZcC wr o3 HR.out.1.symm (λ e he=>by have:=hsm e he; omega) o1
    obtain ⟨ce,hce⟩:∃ ce,ctree es=ce:=⟨_,rfl⟩
    rw [hce] at hct
    have HH:Hid (bs=treeB es/\Sm es/\ctree es=ce):=⟨hbs,hsm,hce⟩
    clear hq hbs hsm hce o1 o3 hs hr0;by_cases hc0:ce=0
    ·subst hc0;go_wp2_with fail;refine hct.mono ?_;rintro e w2 ⟨rfl,hb2⟩;go_wp2;refine bodyPost_ret (results_tmp2 rfl _ _ _) rfl ?_;exact ⟨es,0,_,rfl,.inl ⟨rfl,HH.out.2.2,HH.out.1.symm⟩,(HR.out.2.2.2.1.below hb2).low (Nat.le_succ _),HR.out.2.2.2.2.1.trans (hb2.mono HR.out.2.2.2.2.1.size)⟩
    ·have m0:(ce==0)=false:=by simpa using hc0
     have m1:(ce != 0)=true:=by simpa using hc0
     go_wp2_with fail;refine hct.mono ?_;rintro e w2 ⟨rfl,hb2⟩;go_wp2;refine bodyPost_ret (results_tmp2 rfl _ _ _) rfl ?_;exact ⟨[],9,_,rfl,Zmr HH.out.2.1 HH.out.1.symm (by rw [HH.out.2.2]; exact hc0),OwnG.nil _ _ _ _,HR.out.2.2.2.2.1.trans (hb2.mono HR.out.2.2.2.2.1.size)⟩
  ·have d0:(0:Int)<(gk:Int):=by omega
   have hne:r.1≠[]:=by intro q; rw [q] at hm; simp at hm; exact h0 hm
   by_cases h64:L<=64
   ·have d1:(L:Int)<=64:=by omega
    have hst:=HR.out.2.1.step hne (by rw [<- HR.out.1]; exact h64)
    obtain ⟨t,ht⟩:∃ t:ByteArray,t=⟨(rtxt r).1.toArray⟩:=⟨_,rfl⟩
    have htx:=Zkb HR.out.2.2.1 t (rtxt r).2 (by rw [ht])
    obtain ⟨r1,hr1⟩:∃ r1,(rtxt r).2=r1:=⟨_,rfl⟩
    rw [hr1] at htx hst
    obtain ⟨v,hv⟩:∃ v,(rnum r1).1=v:=⟨_,rfl⟩
    obtain ⟨r2,hr2⟩:∃ r2,(rnum r1).2=r2:=⟨_,rfl⟩
    have hrn:rnum r1=(v,r2):=by rw [<- hv,<- hr2]
    have hvl:(UInt64.ofNat v).toNat=v:=by
     have:=Zdv r1;rw [hv] at this;rw [UInt64.toNat_ofNat'];omega
    rw [hv,hr2] at hst
    have HS:Hid (Zfc bs (es++[((rtxt r).1,UInt64.ofNat v)]) r2/\r2.1.length<r.1.length/\rnum r1=(v,r2)/\t=⟨(rtxt r).1.toArray⟩/\(UInt64.ofNat v).toNat=v):=⟨hst.1,hst.2,hrn,ht,hvl⟩
    clear hst hr1 hv hr2 hrn hvl ht;go_wp2_with fail;refine htx.mono ?_;rintro e w2 ⟨rfl,J2⟩;have hnu:=Ze1 J2.out.1 v r2 HS.out.2.2.1;clear htx x0 x1;go_wp2_with fail;refine hnu.mono ?_;rintro e w3 ⟨rfl,J3⟩;have T3:Zaa (λ i=>i=w.heap.size) wr w3:=J2.out.2.trans J3.out.2 (λ _ _ q=>q);have B3:Below w.heap.size w w3:=HR.out.2.2.2.2.1.trans (T3.below HR.out.2.2.2.2.1.size (λ k hk q=>by have q':k=w.heap.size:=q; omega));have o3:=HR.out.2.2.2.1.stays T3 (λ g hg q=>by have:=(HR.out.2.2.2.1.lt g hg).1; have q':g=w.heap.size:=q; omega);have s3:w.heap.size+1<=w3.heap.size:=Nat.le_trans HR.out.2.2.2.2.2 T3.size
    have J4:Hid (OwnG encE 91 w3 (w.heap.size+1) (.slice la L lc) es/\Below w.heap.size w w3/\w.heap.size+1<=w3.heap.size):=⟨o3,B3,s3⟩
    clear T3 B3 o3 s3 hnu;go_wp2_with (at_builtin; refine Zak encE 91 100 24 _ rfl Tryz.info91 Tryz.underlying100 rfl (.tmp 19) (.tmp 23) rfl (w.heap.size+1) _ es ((rtxt r).1,UInt64.ofNat v) _ rfl J4.out.1 rfl (by rw [<- HR.out.1]; omega) (by rw [<- HR.out.1]; simp only [maxLen]; omega) J4.out.2.2 _ (by show _=#[tx (rtxt r).1,Value.int .u64 ((UInt64.ofNat v).toNat:Int)]; rw [HS.out.2.2.2.2,HS.out.2.2.2.1]) ?_; intro v4 w4 ho4 hb4 hm4 ht4);obtain ⟨a4,c4,rfl,_,_,_,_⟩:=OwnG.form ho4
    have l4:(es++[((rtxt r).1,UInt64.ofNat v)]).length=L+1:=by rw [List.length_append,<- HR.out.1]; rfl
    rw [l4] at ho4 ⊢;go_wp2;go_roundg r2.1.length
    case measure=>have:=HS.out.2.1; omega
    case rel =>
     exact ⟨_,r2,a4,c4,L+1,rfl,by omega,rfl,l4.symm,HS.out.1,J3.out.1.over hb4,ho4,J4.out.2.1.trans (hb4.mono (Nat.le_succ _)),Nat.le_trans J4.out.2.2 hb4.size⟩
   ·have d1:decide ((L:Int)<=64)=false:=by rw [decide_eq_false_iff_not]; omega
    have hh:=HR.out.2.1;obtain ⟨_,hsm,hq⟩:=hh
    have hq2:r.2=false/\bs=treeB es++r.1:=by
     rcases hq with q | ⟨q,_⟩
     ·exact q
     ·rw [q] at hne; exact absurd rfl hne
    rw [hq2.1] at x1;have hrt:RT bs [] 9:=ZkL hsm (by rw [<- HR.out.1]; omega) hq2.2;obtain ⟨ao',cap',e',o1,_,o3,_⟩:=OwnG.form HR.out.2.2.2.1;rw [<- HR.out.1] at e' o1;cases e';have hct:=ZcC wr o3 HR.out.1.symm (λ e he=>by have:=hsm e he; omega) o1
    have hce:ctree es=4:=by unfold ctree; rw [if_pos (by rw [<- HR.out.1]; omega)]
    rw [hce] at hct;have HH:Hid (RT bs [] 9):=hrt;clear hq hq2 hsm hce o1 o3 hrt;go_wp2_with fail;refine hct.mono ?_;rintro e w2 ⟨rfl,hb2⟩;go_wp2;refine bodyPost_ret (results_tmp2 rfl _ _ _) rfl ?_;exact ⟨[],9,_,rfl,HH.out,OwnG.nil _ _ _ _,HR.out.2.2.2.2.1.trans (hb2.mono HR.out.2.2.2.2.1.size)⟩
theorem Zct (t:ByteArray) (ht:t.size<=8) (v:Nat) (hv:val t.data.toList=v) (w:World) :
  Calls Tryz.prog 102 #[.string t] w λ e w'=>e=.returned (.int .u64 (v:Int))/\w'=w:=by
 rw [<- hv];exact ZaH t ht w
theorem Zcf (bs:Bs) (hn:bs.length<=1000000) (w:World) :
  Calls Tryz.prog 137 #[tx bs] w λ e w'=>∃ es er v,e=.returned (.tuple #[v,.int .i64 er])/\Hid (RT bs es er/\OwnG encE 221 w' w.heap.size v es/\Below w.heap.size w w'):=by
 obtain ⟨s,hs⟩:∃ s:ByteArray,s=⟨bs.toArray⟩:=⟨_,rfl⟩
 obtain ⟨N,hN⟩:∃ N,s.size=N:=⟨_,rfl⟩
 have hbl:bs.length=N:=by rw [<- hN,hs]; show _=bs.toArray.size; simp
 rw [show tx bs=.string s by rw [hs]]
 have H:Hid (s=⟨bs.toArray⟩/\bs.length=N):=⟨hs,hbl⟩
 have hN2:N<=1000000:=by omega
 clear hs hbl hn;go_enter Tryz.func137,Tryz.ntmps137;go_wp2_with fail;go_loopg [4,5] N (λ m lv av wr=>∃ (at_ L:Nat) (es:List En) (la:Option Addr) (lc:Nat),av=.int .i64 at_/\at_+m=N/\lv=.slice la L lc/\L<=65/\Hid (L=es.length/\Sm es/\bs=treeB es++bs.drop at_/\OwnG encE 221 wr w.heap.size lv es/\Below w.heap.size w wr))
 case atStart=>exact ⟨0,0,[],none,0,rfl,by omega,rfl,by omega,rfl,λ e h=>by simp at h,by simp [treeB],OwnG.nil _ _ _ _,Below.refl _ _⟩
 case round =>
  obtain ⟨p,L,es,la,lc,rfl,hm,rfl,hL,HR⟩:=hrel;by_cases hin:p<N
  ·have id:(p:Int)<(N:Int):=by omega
   have id0:(0:Int)<=(p:Int):=by omega
   have hps:p<s.size:=by omega
   obtain ⟨y,hy⟩:∃ y,s[p]=y:=⟨_,rfl⟩
   have hyl:=y.toNat_lt
   have wy:IntKind.i64.wrap (y.toNat:Int)=(y.toNat:Int):=by rw [IntKind.wrap_i64]; omega
   have hdr:bs.drop p=y::bs.drop (p+1):=by
    have hpl:p<bs.length:=by rw [H.out.2]; exact hin
    rw [List.drop_eq_getElem_cons hpl]
    congr 1
    rw [<- hy];have hs:=H.out.1;subst hs;simp [ByteArray.getElem_eq_getElem_data]
   obtain ⟨yn,hyn⟩:∃ yn,y.toNat=yn:=⟨_,rfl⟩
   obtain ⟨p1,hp1⟩:∃ p1,p+1=p1:=⟨_,rfl⟩
   obtain ⟨p2,hp2⟩:∃ p2,p1+yn=p2:=⟨_,rfl⟩
   obtain ⟨p3,hp3⟩:∃ p3,p+yn+9=p3:=⟨_,rfl⟩
   rw [hyn] at wy hyl
   have i1:(p:Int)+1=(p1:Int):=by omega
   have i2:(p1:Int)+(yn:Int)=(p2:Int):=by omega
   have i3:(p:Int)+(yn:Int)+9=(p3:Int):=by omega
   by_cases hbad:N<p3
   ·have d1:(N:Int)<(p3:Int):=by omega
    have hrt:RT bs [] 9:=Zjd HR.out.2.1 HR.out.2.2.1 (by rw [hdr]; simp) (by
     rw [hdr];simp only [one]
     rw [if_pos (by rw [List.length_drop,H.out.2,hyn]; omega)])
    have HH:Hid (RT bs [] 9):=hrt;clear hrt hdr hp1 hp2 hp3;go_wp2;refine bodyPost_ret (results_tmp2 rfl _ _ _) rfl ?_;exact ⟨[],9,_,rfl,HH.out,OwnG.nil _ _ _ _,HR.out.2.2.2.2⟩
   ·have d1:decide ((N:Int)<(p3:Int))=false:=by rw [decide_eq_false_iff_not]; omega
    by_cases h64:64<L
    ·have d2:(64:Int)<(L:Int):=by omega
     have hrt:RT bs [] 9:=ZkL HR.out.2.1 (by rw [<- HR.out.1]; exact h64) HR.out.2.2.1;have HH:Hid (RT bs [] 9):=hrt;clear hrt hdr hp1 hp2 hp3;go_wp2;refine bodyPost_ret (results_tmp2 rfl _ _ _) rfl ?_;exact ⟨[],9,_,rfl,HH.out,OwnG.nil _ _ _ _,HR.out.2.2.2.2⟩
    ·have d2:decide ((64:Int)<(L:Int))=false:=by rw [decide_eq_false_iff_not]; omega
     have e1:(0:Int)<=(p1:Int):=by omega
     have e2:(p1:Int)<=(p2:Int):=by omega
     have e3:(p2:Int)<=(p3:Int):=by omega
     have e4:(p3:Int)<=(N:Int):=by omega
     have e5:(p2:Int)<=(N:Int):=by omega
     have e6:(0:Int)<=(p2:Int):=by omega
     have g1:IntKind.i64.wrap (p1:Int)=(p1:Int):=by rw [IntKind.wrap_i64]; omega
     have g2:IntKind.i64.wrap (p2:Int)=(p2:Int):=by rw [IntKind.wrap_i64]; omega
     have g3:IntKind.i64.wrap (p3:Int)=(p3:Int):=by rw [IntKind.wrap_i64]; omega
     have g4:IntKind.i64.wrap ((p:Int)+(yn:Int))=(p:Int)+(yn:Int):=by rw [IntKind.wrap_i64]; omega
     obtain ⟨t1,ht1⟩:∃ t1,s.extract p1 p2=t1:=⟨_,rfl⟩
     obtain ⟨t2,ht2⟩:∃ t2,s.extract p2 p3=t2:=⟨_,rfl⟩
     obtain ⟨v,hv⟩:∃ v,val t2.data.toList=v:=⟨_,rfl⟩
     have ht2s:t2.size<=8:=by rw [<- ht2,ByteArray.size_extract]; omega
     have hval:=λ u=>Zct t2 ht2s v hv u
     have ht2l:t2.data.toList.length=t2.size:=rfl
     have hvl:(UInt64.ofNat v).toNat=v:=by rw [<- hv]; exact Zbe (by omega)
     have hone:one (bs.drop p)=some ((t1.data.toList,UInt64.ofNat v),bs.drop p3):=by
      rw [hdr];simp only [one];rw [if_neg (by rw [List.length_drop,H.out.2,hyn]; omega),hyn,<- hv,<- ht1,<- ht2,H.out.1,ZaR,ZaR,List.drop_drop,List.drop_drop];rw [show p+1=p1 from hp1,show p2 - p1=yn by omega,show p3 - p2=8 by omega,show p1+yn=p2 from hp2,show p1+(yn+8)=p3 by omega]
     obtain ⟨ho1,ho2⟩:=Zdf hone
     have hnew:bs=treeB (es++[(t1.data.toList,UInt64.ofNat v)])++bs.drop p3:=by
      rw [ZcF,List.append_assoc,<- ho1];exact HR.out.2.2.1
     have HV:Hid (∀ u,Calls Tryz.prog 102 #[.string t2] u λ e w'=>e=.returned (.int .u64 (v:Int))/\w'=u):=hval
     have HZ:Hid (bs=treeB (es++[(t1.data.toList,UInt64.ofNat v)])++bs.drop p3/\Sm (es++[(t1.data.toList,UInt64.ofNat v)])/\(UInt64.ofNat v).toNat=v):=⟨hnew,HR.out.2.1.snoc ho2,hvl⟩
     have hp3N:p<p3/\p3<=N:=by omega
     clear hval hnew ho1 ho2 hone hvl hv hdr ht2s ht2l hp1 hp2 hp3;go_wp2_with fail
     have HC:Hid (∀ j u,(encE.cells (t1.data.toList,UInt64.ofNat v))[j]? = some u->(wr.drew.alloc (.cells #[.string t1,.int .u64 (v:Int)] 221)).cell? ((⟨wr.heap.size,0,none⟩:Addr).add j)=some u):=by
      have:=ZaC encE wr.drew (t1.data.toList,UInt64.ofNat v) 221
      have e:(encE.cells (t1.data.toList,UInt64.ofNat v)).toArray=#[.string t1,.int .u64 (v:Int)]:=by
       show #[tx t1.data.toList,Value.int .u64 ((UInt64.ofNat v).toNat:Int)]=_;rw [HZ.out.2.2]
      rw [e] at this;exact this
     have HX0:Hid (Below w.heap.size w wr):=HR.out.2.2.2.2;have HX1:Hid (Below w.heap.size w wr.drew):=HR.out.2.2.2.2.drew
     go_region_held3 (λ u=>Hid (Below w.heap.size w u))
      (first | with_reducible assumption | (refine keepA ?_; with_reducible assumption) | (refine keepD ?_; with_reducible assumption) | (refine keepD (keepA ?_); with_reducible assumption))
      (first
       | (refine Za8 encE 221 103 24 _ rfl Tryz.info221 Tryz.underlying103 rfl (.tmp 29) (.tmp 50) rfl w.heap.size _ es (t1.data.toList,UInt64.ofNat v) rfl (HR.out.2.2.2.1.below ((Below.refl _ wr).drew.trans (bz1 wr.drew _))) wr.heap.size rfl HC.out (by rw [<- HR.out.1]; omega) (by rw [<- HR.out.1]; simp only [maxLen]; omega) (by have:=HR.out.2.2.2.2.size; simp; omega) ?_; intro v4 w4 ho4 hb4 hm4 ht4; have HX4:Hid (Below w.heap.size w w4):=HR.out.2.2.2.2.trans ((((bz1 wr _).drew).mono HR.out.2.2.2.2.size).trans hb4))
       | (go_at_call 102; (with_reducible refine (HV.out _).mono ?_); rintro e w3 ⟨rfl,hw3⟩; rw [hw3]; clear hw3 w3))
     all_goals
      obtain ⟨a4,c4,rfl,_,_,_,_⟩:=OwnG.form ho4
      have l4:(es++[(t1.data.toList,UInt64.ofNat v)]).length=L+1:=by rw [List.length_append,<- HR.out.1]; rfl
      rw [l4] at ho4 ⊢
      have HO:Hid (OwnG encE 221 w4 w.heap.size (.slice a4 (L+1) c4) (es++[(t1.data.toList,UInt64.ofNat v)])/\(es++[(t1.data.toList,UInt64.ofNat v)]).length=L+1):=⟨ho4,l4⟩
      clear hb4 hm4 ht4 ho4 l4;go_wp2;go_roundg (N - p3)
      case measure=>omega
      case rel=>exact ⟨p3,L+1,_,a4,c4,by go_num,by omega,rfl,by omega,HO.out.2.symm,HZ.out.2.1,HZ.out.1,HO.out.1,HX4.out⟩
  ·obtain rfl:p=N:=by omega
   have hbs:bs=treeB es:=by
    have:=HR.out.2.2.1;rw [List.drop_of_length_le (by rw [H.out.2]; omega),List.append_nil] at this;exact this
   obtain ⟨ao',cap',e',o1,_,o3,_⟩:=OwnG.form HR.out.2.2.2.1;rw [<- HR.out.1] at e' o1;cases e';have hrt:=ZfP (c:=lc) wr o3 HR.out.1.symm
   obtain ⟨fe,hfe⟩:∃ fe,(ftree es).2=fe:=⟨_,rfl⟩
   obtain ⟨fb,hfb⟩:∃ fb:ByteArray,fb=⟨(ftree es).1.toArray⟩:=⟨_,rfl⟩
   rw [show tx (ftree es).1=.string fb by rw [hfb],hfe] at hrt
   have HH:Hid (bs=treeB es/\(ftree es).2=fe):=⟨hbs,hfe⟩
   clear o1 o3 hbs hfe hfb;by_cases hf0:fe=0
   ·subst hf0;go_wp2_with fail;refine hrt.mono ?_;rintro e w2 ⟨rfl,hb2⟩;go_wp2;refine bodyPost_ret (results_tmp2 rfl _ _ _) rfl ?_
    have hg:RT bs es 0:=by
     have:=ZlI HH.out.2;have h2:=this.back;unfold ftree at h2
     split at h2
     ·rename_i q
      exact .inl ⟨rfl,q,HH.out.1.symm⟩
     ·rename_i q
      simp only [Prod.mk.injEq] at h2;exact absurd h2.2 q
    exact ⟨es,0,_,rfl,hg,HR.out.2.2.2.1.below hb2,HR.out.2.2.2.2.trans (hb2.mono HR.out.2.2.2.2.size)⟩
   ·have m0:(fe==0)=false:=by simpa using hf0
    have m1:(fe != 0)=true:=by simpa using hf0
    go_wp2_with fail;refine hrt.mono ?_;rintro e w2 ⟨rfl,hb2⟩;go_wp2;refine bodyPost_ret (results_tmp2 rfl _ _ _) rfl ?_
    have hg:RT bs [] 9:=Zmr HR.out.2.1 HH.out.1.symm (λ q=>hf0 (by
     have:=HH.out.2;unfold ftree at this;rw [if_pos q] at this
     exact this.symm))
    exact ⟨[],9,_,rfl,hg,OwnG.nil _ _ _ _,HR.out.2.2.2.2.trans (hb2.mono HR.out.2.2.2.2.size)⟩
theorem ZfF {w:World} {pa:Option Addr} {pn pc:Nat} {xs:List UInt64} (hr:RdG encU w pa xs) (hl:xs.length=pn) (hn:pn*8<=140737488355328) (nt:ByteArray) (dt tr:Int) :
  Calls Tryz.prog 43 #[.agg #[.int .u64 tr,.slice pa pn pc,.int .i64 dt,.string nt]] w λ e w'=>∃ qa qc,e=.returned (.agg #[.int .u64 tr,.slice qa pn qc,.int .i64 dt,.string nt])/\Hid (RdG encU w' qa xs/\pn<=qc/\Below w.heap.size w w'):=by
 have H:Hid (RdG encU w pa xs/\xs.length=pn):=⟨hr,hl⟩
 clear hr hl;go_enter Tryz.func43,Tryz.ntmps43;go_wp2_with fail;go_loopg [4] pn (λ m iv wr=>∃ (i:Nat) (qa:Option Addr) (qc:Nat),iv=.int .i64 i/\i+m=pn/\Hid (Box4 wr w.heap.size 67 (.int .u64 tr) (.slice pa pn pc) (.int .i64 dt) (.string nt)/\Box4 wr (w.heap.size+1) 108 (.int .u64 0) (.slice none 0 0) (.int .i64 0) (.string ⟨#[]⟩)/\Box4 wr (w.heap.size+1+1) 108 (.int .u64 tr) (.slice qa i qc) (.int .i64 dt) (.string nt)/\OwnG encU 52 wr (w.heap.size+3) (.slice qa i qc) (xs.take i)/\Below w.heap.size w wr))
 case atStart =>
  have hb:=Zgh w (.int .u64 tr) (.slice pa pn pc) (.int .i64 dt) (.string nt) (.int .u64 0) (.slice none 0 0) (.int .i64 0) (.string ⟨#[]⟩) (.int .u64 tr) (.slice none 0 0) (.int .i64 dt) (.string nt) 67 108 108;exact ⟨0,none,0,rfl,by omega,hb.1,hb.2.1,hb.2.2,OwnG.nil _ _ _ _,bz3 _ _ _ _⟩
 case round =>
  obtain ⟨i,qa,qc,rfl,hi,HR⟩:=hrel;obtain ⟨x0,x1,x2,x3⟩:=HR.out.1.cells;by_cases hin:i<pn
  ·have id:(i:Int)<(pn:Int):=by omega
   have id0:(0:Int)<=(i:Int):=by omega
   obtain ⟨x,hx⟩:=Zaf H.out.2 hin;obtain ⟨b,off,rfl,hlt⟩:=H.out.1.some_of hx;obtain ⟨hbw,c0⟩:=(H.out.1.below HR.out.2.2.2.2).nums hx;obtain ⟨y0,y1,y2,y3⟩:=HR.out.2.2.1.cells;obtain ⟨f0,f1,f2,f3⟩:=HR.out.2.2.1.thaw;have hs3:w.heap.size+1+1<wr.heap.size:=HR.out.2.2.1.lt
   have hll:(xs.take i).length=i:=by rw [List.length_take,H.out.2]; omega
   have htk:xs.take (i+1)=xs.take i++[x]:=by rw [List.take_add_one,hx]; rfl
   have HX:Hid (xs.take (i+1)=xs.take i++[x]/\(xs.take i).length=i/\(xs.take i++[x]).length=i+1):=⟨htk,hll,by rw [List.length_append,hll]; rfl⟩
   clear hx htk hll;go_wp2_with fail;go_region_law (refine Za8 encU 52 60 8 _ rfl Tryz.info52 Tryz.underlying60 rfl (.tmp 20) (.tmp 26) rfl (w.heap.size+3) _ (xs.take i) x rfl (HR.out.2.2.2.1.below ((Below.refl _ wr).drew.trans (bz1 wr.drew _))) wr.heap.size rfl (ZaC encU wr.drew x 52) (by rw [HX.out.2.1]; omega) (by rw [HX.out.2.1]; simp only [maxLen]; omega) (by simp; omega) ?_; intro v4 w4 ho4 hb4 hm4 ht4; obtain ⟨a4,c4,e4,_,_,_,_⟩:=OwnG.form ho4; rw [HX.out.2.2] at e4; subst e4; have J4:Hid (OwnG encU 52 w4 (w.heap.size+3) (.slice a4 (i+1) c4) (xs.take i++[x])/\Below (w.heap.size+3) wr w4):=⟨ho4,((bz1 wr _).drew.mono (by omega)).trans hb4⟩; have z4:=(HR.out.2.2.1.below J4.out.2 (by omega)).cells; have g4:=(HR.out.2.2.1.below J4.out.2 (by omega)).thaw; obtain ⟨z0,z1,z2,z3⟩:=z4; obtain ⟨g0,g1,g2,g3⟩:=g4; clear ho4 hb4 hm4 ht4)
   all_goals
    have HO:Hid ((∀ S:World,S=w4.setCell ⟨w.heap.size+1+1,1,none⟩ (.slice a4 (i+1) c4)->Box4 S w.heap.size 67 (.int .u64 tr) (.slice (some ⟨b,off,none⟩) pn pc) (.int .i64 dt) (.string nt)/\Box4 S (w.heap.size+1) 108 (.int .u64 0) (.slice none 0 0) (.int .i64 0) (.string ⟨#[]⟩)/\Box4 S (w.heap.size+1+1) 108 (.int .u64 tr) (.slice a4 (i+1) c4) (.int .i64 dt) (.string nt)/\OwnG encU 52 S (w.heap.size+3) (.slice a4 (i+1) c4) (xs.take (i+1))/\Below w.heap.size w S)):=by
     rintro S rfl;have ht:Zaa (λ k=>k=w.heap.size+1+1) w4 (w4.setCell ⟨w.heap.size+1+1,1,none⟩ (.slice a4 (i+1) c4)):=Zae 1 _;have hs4:=J4.out.2.size;refine ⟨(HR.out.1.below J4.out.2 (by omega)).turned ht (by omega),(HR.out.2.1.below J4.out.2 (by omega)).turned ht (by omega),(HR.out.2.2.1.below J4.out.2 (by omega)).put1 _,?_,?_⟩
     ·rw [HX.out.1];exact J4.out.1.stays ht (λ g hg q=>by have:=(J4.out.1.lt g hg).1; have q':g=w.heap.size+1+1:=q; omega)
     ·have b1:Below w.heap.size w w4:=HR.out.2.2.2.2.trans (J4.out.2.mono (by omega));exact b1.trans (ht.below b1.size (λ k hk q=>by have q':k=w.heap.size+1+1:=q; omega))
    go_wp2;go_roundg (gk - 1)
    case measure=>omega
    case rel=>exact ⟨i+1,a4,c4,by go_num,by omega,HO.out _ rfl⟩
  ·obtain rfl:i=pn:=by omega
   obtain ⟨y0,y1,y2,y3⟩:=HR.out.2.2.1.cells;obtain ⟨z0,z1,z2,z3⟩:=HR.out.2.1.cells;obtain ⟨f0,f1,f2,f3⟩:=HR.out.2.1.thaw;have htk:xs.take i=xs:=List.take_of_length_le (by rw [H.out.2]; omega)
   have HH:Hid (OwnG encU 52 wr (w.heap.size+3) (.slice qa i qc) xs):=by
    have:=HR.out.2.2.2.1;rw [htk] at this;exact this
   clear htk;go_wp2;refine bodyPost_ret (v:=.agg #[.int .u64 tr,.slice qa i qc,.int .i64 dt,.string nt]) ?_ rfl ?_
   ·simp [results,Tryz.f43];go_simp
   ·have ht:=ZaI wr (w.heap.size+1) (.int .u64 tr) (.slice qa i qc) (.int .i64 dt) (.string nt);have o:=HH.out.stays ht (λ g hg q=>by have:=(HH.out.lt g hg).1; have q':g=w.heap.size+1:=q; omega);obtain ⟨r,hc⟩:=o.rdc;exact ⟨qa,qc,rfl,r,hc,HR.out.2.2.2.2.trans (ht.below HR.out.2.2.2.2.size (λ k hk q=>by have q':k=w.heap.size+1:=q; omega))⟩
theorem ZgZ {w:World} {pa qa:Option Addr} {pn pc qc:Nat} {xs:List UInt64} (hr:RdG encU w pa xs) (hr2:RdG encU w qa xs) (hl:xs.length=pn) (hn:pn<=4000000000000000000) (nt:ByteArray) (dt tr:Int) :
  Calls Tryz.prog 72 #[.agg #[.int .u64 tr,.slice pa pn pc,.int .i64 dt,.string nt],.agg #[.int .u64 tr,.slice qa pn qc,.int .i64 dt,.string nt]] w λ e w'=>e=.returned (.bool true)/\Below w.heap.size w w':=by
 obtain ⟨W,hW⟩:∃ W,(w.alloc (.cells #[.int .u64 tr,.slice pa pn pc,.int .i64 dt,.string nt] 108)).alloc (.cells #[.int .u64 tr,.slice qa pn qc,.int .i64 dt,.string nt] 108)=W:=⟨_,rfl⟩
 have bW:Below w.heap.size w W:=by rw [<- hW]; exact bz2 _ _ _
 have s1:(w.alloc (.cells #[.int .u64 tr,.slice pa pn pc,.int .i64 dt,.string nt] 108)).heap.size=w.heap.size+1:=by simp
 have bx:Box4 W w.heap.size 108 (.int .u64 tr) (.slice pa pn pc) (.int .i64 dt) (.string nt):=by
  rw [<- hW];exact (Box4.new _ _ _ _ _ _).below (bz1 _ _) (by rw [s1]; omega)
 have by_:Box4 W (w.heap.size+1) 108 (.int .u64 tr) (.slice qa pn qc) (.int .i64 dt) (.string nt):=by
  have:=Box4.new (w.alloc (.cells #[.int .u64 tr,.slice pa pn pc,.int .i64 dt,.string nt] 108)) 108 (.int .u64 tr) (.slice qa pn qc) (.int .i64 dt) (.string nt);rw [s1,hW] at this;exact this
 have H:Hid (RdG encU W pa xs/\RdG encU W qa xs/\xs.length=pn/\Below w.heap.size w W/\Box4 W w.heap.size 108 (.int .u64 tr) (.slice pa pn pc) (.int .i64 dt) (.string nt)/\Box4 W (w.heap.size+1) 108 (.int .u64 tr) (.slice qa pn qc) (.int .i64 dt) (.string nt)):=⟨hr.below bW,hr2.below bW,hl,bW,bx,by_⟩
 obtain ⟨x0,x1,x2,x3⟩:=bx.cells;obtain ⟨y0,y1,y2,y3⟩:=by_.cells;clear hr hr2 hl bx by_ bW s1;go_enter Tryz.func72,Tryz.ntmps72;go_wp2_with fail;go_loopg [5] pn (λ m iv wr=>∃ i:Nat,iv=.int .i64 i/\i+m=pn/\Hid (Below W.heap.size W wr))
 case atStart=>exact ⟨0,rfl,by omega,Below.refl _ _⟩
 case round =>
  obtain ⟨i,rfl,hi,HR⟩:=hrel;have hs:=H.out.2.2.2.2.2.lt;clear x0 x1 x2 x3 y0 y1 y2 y3;obtain ⟨x0,x1,x2,x3⟩:=(H.out.2.2.2.2.1.below HR.out (by omega)).cells;obtain ⟨y0,y1,y2,y3⟩:=(H.out.2.2.2.2.2.below HR.out (by omega)).cells;by_cases hin:i<pn
  ·have id:(i:Int)<(pn:Int):=by omega
   have id0:(0:Int)<=(i:Int):=by omega
   obtain ⟨x,hx⟩:=Zaf H.out.2.2.1 hin;obtain ⟨b,off,rfl,hlt⟩:=H.out.1.some_of hx;obtain ⟨b2,off2,rfl,hlt2⟩:=H.out.2.1.some_of hx;obtain ⟨hbw,c0⟩:=(H.out.1.below HR.out).nums hx;obtain ⟨hbw2,c1⟩:=(H.out.2.1.below HR.out).nums hx;clear hx;go_wp2_with fail;go_quiet (fail);go_wp2;go_roundg (gk - 1)
   case measure=>omega
   case rel=>exact ⟨i+1,by go_num,by omega,HR.out.trans ((bdrewN _ _).mono HR.out.size)⟩
  ·obtain rfl:i=pn:=by omega
   go_wp2;go_ret;exact ⟨rfl,H.out.2.2.2.1.trans (HR.out.mono H.out.2.2.2.1.size)⟩
theorem ZfG {xs:List UInt64} {i:Nat} {x:UInt64} (h:∀ k,k<i->∀ y,xs[k]? = some y->y≠x):(xs.take i).any (λ y=>x==y)=false:=by
 rw [List.any_eq_false];intro y hy;obtain ⟨k,hk⟩:=List.getElem?_of_mem hy;rw [List.getElem?_take] at hk
 split at hk
 ·rename_i q
  have:=h k q y hk;simp only [beq_iff_eq]
  exact λ e=>this e.symm
 ·cases hk
section
variable {w:World} {c:Cm} {pa:Option Addr} {pn pc:Nat}
theorem ZhU (hl:c.ps.length=pn) (nt:ByteArray) (hnt:nt=⟨c.note.toArray⟩) (dt tr:Int) (h:8<pn∨64<nt.size) :
  Calls Tryz.prog 118 #[.agg #[.int .u64 tr,.slice pa pn pc,.int .i64 dt,.string nt]] w λ e w'=>e=.returned (.tuple #[tx (fcom c).1,.int .i64 (fcom c).2])/\Below w.heap.size w w':=by
 have hnl:nt.size=c.note.length:=by rw [hnt]; show c.note.toArray.size=_; simp
 have e:fcom c=([],4):=by
  have:ccom c=4:=by unfold ccom; rw [if_pos (by omega)]
  unfold fcom; rw [this]; rfl
 rw [e];by_cases h8:8<pn
 ·have q:(8:Int)<(pn:Int):=by omega
  clear hl hnt hnl e h;go_enter Tryz.func118,Tryz.ntmps118;go_wp2;refine bodyPost_ret (results_tmp2 rfl _ _ _) rfl ?_;exact ⟨rfl,bz1 _ _⟩
 ·have q:decide ((8:Int)<(pn:Int))=false:=by rw [decide_eq_false_iff_not]; omega
  have q2:(64:Int)<(nt.size:Int):=by omega
  clear hl hnt hnl e h;go_enter Tryz.func118,Tryz.ntmps118;go_wp2;refine bodyPost_ret (results_tmp2 rfl _ _ _) rfl ?_;exact ⟨rfl,bz1 _ _⟩
theorem Zly (hr:RdG encU w pa c.ps) (hl:c.ps.length=pn) (nt:ByteArray) (hnt:nt=⟨c.note.toArray⟩) (dt:Int) (hdt:c.date=dt) (h8:pn<=8) (h64:nt.size<=64) :
  Calls Tryz.prog 118 #[.agg #[.int .u64 (c.tree.toNat:Int),.slice pa pn pc,.int .i64 dt,.string nt]] w λ e w'=>e=.returned (.tuple #[tx (fcom c).1,.int .i64 (fcom c).2])/\Below w.heap.size w w':=by
 have hnl:nt.size=c.note.length:=by rw [hnt]; show c.note.toArray.size=_; simp
 have q:decide ((8:Int)<(pn:Int))=false:=by rw [decide_eq_false_iff_not]; omega
 have q2:decide ((64:Int)<(nt.size:Int))=false:=by rw [decide_eq_false_iff_not]; omega
 have h4:¬ (8<c.ps.length∨64<c.note.length):=by omega
 obtain ⟨W,hW⟩:∃ W,w.alloc (.cells #[.int .u64 (c.tree.toNat:Int),.slice pa pn pc,.int .i64 dt,.string nt] 108)=W:=⟨_,rfl⟩
 have bW:Below w.heap.size w W:=by rw [<- hW]; exact bz1 _ _
 have sW:W.heap.size=w.heap.size+1:=by rw [<- hW]; simp
 have bx:Box4 W w.heap.size 108 (.int .u64 (c.tree.toNat:Int)) (.slice pa pn pc) (.int .i64 dt) (.string nt):=by rw [<- hW]; exact Box4.new _ _ _ _ _ _
 obtain ⟨x0,x1,x2,x3⟩:=bx.cells
 have hwp:IntKind.u64.wrap (pn:Int)=(pn:Int):=by rw [IntKind.wrap_u64]; omega
 have hwn:IntKind.u64.wrap (nt.size:Int)=(nt.size:Int):=by rw [IntKind.wrap_u64]; omega
 have H:Hid (RdG encU W pa c.ps/\c.ps.length=pn/\Below w.heap.size w W/\W.heap.size=w.heap.size+1/\Box4 W w.heap.size 108 (.int .u64 (c.tree.toNat:Int)) (.slice pa pn pc) (.int .i64 dt) (.string nt)/\¬ (8<c.ps.length∨64<c.note.length)/\c.date=dt/\nt=⟨c.note.toArray⟩):=⟨hr.below bW,hl,bW,sW,bx,h4,hdt,hnt⟩
 obtain ⟨z8,hz8⟩:∃ z8:ByteArray,z8=⟨(low 8 c.tree.toNat).toArray⟩:=⟨_,rfl⟩
 obtain ⟨z1,hz1⟩:∃ z1:ByteArray,z1=⟨(low 1 pn).toArray⟩:=⟨_,rfl⟩
 have l8:z8.size=8:=by rw [hz8]; show (low 8 c.tree.toNat).toArray.size=8; simp [Zav]
 have l1:z1.size=1:=by rw [hz1]; show (low 1 pn).toArray.size=1; simp [Zav]
 have NE:Nonempty (SW (Grew W)):=⟨⟨W,Below.refl _ _⟩⟩
 have bu:∀ u:SW (Grew W),Box4 u.w w.heap.size 108 (.int .u64 (c.tree.toNat:Int)) (.slice pa pn pc) (.int .i64 dt) (.string nt):=λ u=>bx.below u.ok (by rw [sW]; omega)
 have k0:∀ u:SW (Grew W),u.w.cell? ⟨w.heap.size,0,none⟩=some (.int .u64 (c.tree.toNat:Int)):=λ u=>(bu u).cells.1
 have k1:∀ u:SW (Grew W),u.w.cell? ⟨w.heap.size,1,none⟩=some (.slice pa pn pc):=λ u=>(bu u).cells.2.1
 have n8:∀ u:SW (Grew W),Calls Tryz.prog 96 #[.int .u64 (c.tree.toNat:Int),.int .i64 8] u.w λ e w'=>e=.returned (.string z8)/\∃ u':SW (Grew W),w'=u'.w:=ZcR c.tree.toNat 8 c.tree.toNat_lt (by omega) z8 hz8 W
 have n1:∀ u:SW (Grew W),Calls Tryz.prog 96 #[.int .u64 (pn:Int),.int .i64 1] u.w λ e w'=>e=.returned (.string z1)/\∃ u':SW (Grew W),w'=u'.w:=ZcR pn 1 (by omega) (by omega) z1 hz1 W
 have a1:¬ (9223372036854775807<z8.size+z1.size):=by omega
 have HZ:Hid (z8++z1=⟨(low 8 c.tree.toNat++low 1 pn).toArray⟩):=by
  show _=_;rw [hz8,hz1];apply ByteArray.ext;simp
 clear hr hl hnt hdt hnl h4 bW sW bx bu hz8 hz1 l8 l1;go_enter Tryz.func118,Tryz.ntmps118;go_wp2_with fail;refine Zab (S:=Grew W) (by kernel_rfl) (by kernel_rfl) (Below.refl _ W).drew ?_
 repeat (go_big_quiet_step (first | with_reducible exact n1 _ | with_reducible exact n8 _))
 refine wpQuiet_nil ?_;intro _ hw';obtain ⟨u,hw''⟩:=hw';subst hw'';have N1:Hid (Below W.heap.size W u.w):=u.ok
 obtain ⟨w1,hw1⟩:∃ w1,w1=u.w:=⟨_,rfl⟩
 rw [<- hw1] at N1 ⊢;clear hw1 k0 k1 n1 n8 NE u x0 x1 x2 x3;go_wp2_with fail;go_loopg [4,5,6] pn (λ m sv iv _ wr=>∃ (i:Nat) (s:ByteArray),iv=.int .i64 i/\i+m=pn/\sv=.string s/\Hid (s=⟨(low 8 c.tree.toNat++low 1 pn++psB (c.ps.take i)).toArray⟩/\(c.ps.take i).Nodup/\Below W.heap.size W wr))
 case atStart=>exact ⟨0,_,rfl,by omega,rfl,by rw [HZ.out]; simp [psB],by simp,N1.out⟩
 case round =>
  obtain ⟨i,s,rfl,hi,rfl,HR⟩:=hrel
  have hsW:w.heap.size<W.heap.size:=by have:=H.out.2.2.2.1; omega
  obtain ⟨x0,x1,x2,x3⟩:=(H.out.2.2.2.2.1.below HR.out.2.2 hsW).cells;by_cases hin:i<pn
  ·have id:(i:Int)<(pn:Int):=by omega
   have id0:(0:Int)<=(i:Int):=by omega
   obtain ⟨x,hx⟩:=Zaf H.out.2.1 hin;obtain ⟨b,off,rfl,hlt⟩:=H.out.1.some_of hx;have HX:Hid (c.ps[i]? = some x):=hx
   obtain ⟨w2,hw2⟩:∃ w2,w2=wr:=⟨_,rfl⟩
   rw [<- hw2] at HR x0 x1 x2 x3 ⊢;clear hw2 wr hx;go_wp2_with fail;go_loopg [6] i (λ m iv wr=>∃ k:Nat,iv=.int .i64 k/\k+m=i/\Hid ((∀ j,j<k->∀ y,c.ps[j]? = some y->y≠x)/\Below W.heap.size W wr))
   case atStart=>exact ⟨0,rfl,by omega,λ j h=>absurd h (by omega),HR.out.2.2⟩
   case round =>
    obtain ⟨k,rfl,hk,HQ⟩:=hrel;clear x0 x1 x2 x3;obtain ⟨x0,x1,x2,x3⟩:=(H.out.2.2.2.2.1.below HQ.out.2 hsW).cells;by_cases hkn:k<i
    ·have kd:(k:Int)<(i:Int):=by omega
     have kd0:(0:Int)<=(k:Int):=by omega
     have kd1:(k:Int)<(pn:Int):=by omega
     obtain ⟨y,hy⟩:=Zaf H.out.2.1 (show k<pn by omega);obtain ⟨_,c0⟩:=(H.out.1.below HQ.out.2).nums HX.out;obtain ⟨_,c1⟩:=(H.out.1.below HQ.out.2).nums hy;by_cases hxy:y=x
     ·subst hxy
      have hct:fcom c=([],6):=by
       have:ccom c=6:=by
        unfold ccom;rw [if_neg H.out.2.2.2.2.2.1,if_pos (Zfu HX.out (List.any_eq_true.2 ⟨y,List.mem_of_getElem? (show (c.ps.take i)[k]? = some y by rw [List.getElem?_take,if_pos hkn]; exact hy),by simp⟩))]
       unfold fcom; rw [this]; rfl
      clear hy;go_wp2_with fail;go_quiet (fail);go_wp2;refine bodyPost_ret (results_tmp2 rfl _ _ _) rfl ?_;exact ⟨by first | rfl | (rw [hct]; rfl),(H.out.2.2.1.trans (HQ.out.2.mono H.out.2.2.1.size)).trans ((bdrewN _ _).mono (by have:=H.out.2.2.1.size; have:=HQ.out.2.size; omega))⟩
     ·have m0:((y.toNat:Int)==(x.toNat:Int))=false:=by
       rw [beq_eq_false_iff_ne];intro q;exact hxy (UInt64.toNat_inj.1 (by omega))
      have m1:(y.toNat==x.toNat)=false:=by
       rw [beq_eq_false_iff_ne];intro q;exact hxy (UInt64.toNat_inj.1 q)
      have HN:Hid (∀ j,j<k+1->∀ y,c.ps[j]? = some y->y≠x):=by
       intro j hj y' hy'
       rcases Nat.lt_or_ge j k with q | q
       ·exact HQ.out.1 j q y' hy'
       ·obtain rfl:j=k:=by omega
        rw [hy] at hy';cases hy';exact hxy
      clear hy;go_wp2_with fail;go_quiet (fail);go_wp2;go_roundg (gk - 1)
      case measure=>omega
      case rel=>exact ⟨k+1,by go_num,by omega,HN.out,HQ.out.2.trans ((bdrewN _ _).mono HQ.out.2.size)⟩
    ·obtain rfl:k=i:=by omega
     obtain ⟨_,c0⟩:=(H.out.1.below HQ.out.2).nums HX.out;have hnd:=Zd5 HX.out HR.out.2.1 (ZfG HQ.out.1)
     obtain ⟨y8,hy8⟩:∃ y8:ByteArray,y8=⟨(low 8 x.toNat).toArray⟩:=⟨_,rfl⟩
     have hnu:Calls Tryz.prog 96 #[.int .u64 (x.toNat:Int),.int .i64 8] wr λ e w'=>e=.returned (.string y8)/\Below wr.heap.size wr w':=by
      rw [hy8];exact ZaG x.toNat 8 x.toNat_lt (by omega) wr
     have l8:y8.size=8:=by rw [hy8]; show (low 8 x.toNat).toArray.size=8; simp [Zav]
     have hsl:s.size<=1000:=by
      rw [HR.out.1];show (low 8 c.tree.toNat++low 1 pn++psB (c.ps.take k)).toArray.size<=_;simp [Zav,ZcQ];omega
     have a1:¬ (9223372036854775807<s.size+y8.size):=by omega
     have HS:Hid (s++y8=⟨(low 8 c.tree.toNat++low 1 pn++psB (c.ps.take (k+1))).toArray⟩/\(c.ps.take (k+1)).Nodup):=by
      refine ⟨?_,hnd⟩;rw [HR.out.1,hy8,List.take_add_one,HX.out];show _=(⟨(low 8 c.tree.toNat++low 1 pn++psB (c.ps.take k++[x])).toArray⟩:ByteArray);rw [Zdp];apply ByteArray.ext;simp [b8]
     clear hnd hy8 l8 hsl;go_wp2_with fail;refine hnu.mono ?_;rintro e w4 ⟨rfl,hb4⟩;have B4:Hid (Below W.heap.size W w4):=HQ.out.2.trans (hb4.mono HQ.out.2.size);clear hb4 hnu;go_wp2;go_roundg (pn - (k+1))
     case measure=>omega
     case rel=>exact ⟨k+1,_,by go_num,by omega,rfl,HS.out.1,HS.out.2,B4.out⟩
  ·obtain rfl:i=pn:=by omega
   have htk:c.ps.take i=c.ps:=List.take_of_length_le (by rw [H.out.2.1]; omega)
   have hnd:c.ps.Nodup:=by have:=HR.out.2.1; rw [htk] at this; exact this
   by_cases hd:dt<0∨1099511627776<dt
   ·have hct:fcom c=([],3):=by
     have:ccom c=3:=by
      unfold ccom;rw [if_neg H.out.2.2.2.2.2.1,if_neg (by simpa using hnd),if_pos (by rw [H.out.2.2.2.2.2.2.1]; exact hd)]
     unfold fcom; rw [this]; rfl
    clear hnd htk;by_cases hd0:dt<0
    ·have d1:decide (dt<0)=true:=by simpa using hd0
     go_wp2;refine bodyPost_ret (results_tmp2 rfl _ _ _) rfl ?_;exact ⟨by first | rfl | (rw [hct]; rfl),H.out.2.2.1.trans (HR.out.2.2.mono H.out.2.2.1.size)⟩
    ·have d1:decide (dt<0)=false:=by simpa using hd0
     have d2:decide (1099511627776<dt)=true:=by rw [decide_eq_true_iff]; omega
     go_wp2;refine bodyPost_ret (results_tmp2 rfl _ _ _) rfl ?_;exact ⟨by first | rfl | (rw [hct]; rfl),H.out.2.2.1.trans (HR.out.2.2.mono H.out.2.2.1.size)⟩
   ·have d1:decide (dt<0)=false:=by rw [decide_eq_false_iff_not]; omega
    have d2:decide (1099511627776<dt)=false:=by rw [decide_eq_false_iff_not]; omega
    have hct:fcom c=(comB c,0):=by
     have:ccom c=0:=by
      unfold ccom;rw [if_neg H.out.2.2.2.2.2.1,if_neg (by simpa using hnd),if_neg (by rw [H.out.2.2.2.2.2.2.1]; exact hd)]
     unfold fcom; rw [if_pos this]
    have hww:IntKind.u64.wrap dt=(dt.toNat:Int):=by rw [IntKind.wrap_u64]; omega
    obtain ⟨dn,hdn⟩:∃ dn,dt.toNat=dn:=⟨_,rfl⟩
    rw [hdn] at hww
    have hld:low 8 dn=b8 (dw c.date):=by rw [<- hdn,H.out.2.2.2.2.2.2.1]; exact Zmd (by omega)
    obtain ⟨y8,hy8⟩:∃ y8:ByteArray,y8=⟨(low 8 dn).toArray⟩:=⟨_,rfl⟩
    obtain ⟨y1,hy1⟩:∃ y1:ByteArray,y1=⟨(low 1 nt.size).toArray⟩:=⟨_,rfl⟩
    have l8:y8.size=8:=by rw [hy8]; show (low 8 dn).toArray.size=8; simp [Zav]
    have l1:y1.size=1:=by rw [hy1]; show (low 1 nt.size).toArray.size=1; simp [Zav]
    have hsl:s.size<=1000:=by
     rw [HR.out.1];show (low 8 c.tree.toNat++low 1 i++psB (c.ps.take i)).toArray.size<=_;simp [Zav,ZcQ];omega
    have NE:Nonempty (SW (Grew wr)):=⟨⟨wr,Below.refl _ _⟩⟩
    have bu:∀ u:SW (Grew wr),Box4 u.w w.heap.size 108 (.int .u64 (c.tree.toNat:Int)) (.slice pa i pc) (.int .i64 dt) (.string nt):=λ u=>(H.out.2.2.2.2.1.below HR.out.2.2 hsW).below u.ok (by have:=HR.out.2.2.size; omega)
    have k2:∀ u:SW (Grew wr),u.w.cell? ⟨w.heap.size,2,none⟩=some (.int .i64 dt):=λ u=>(bu u).cells.2.2.1
    have k3:∀ u:SW (Grew wr),u.w.cell? ⟨w.heap.size,3,none⟩=some (.string nt):=λ u=>(bu u).cells.2.2.2
    have n8:∀ u:SW (Grew wr),Calls Tryz.prog 96 #[.int .u64 (dn:Int),.int .i64 8] u.w λ e w'=>e=.returned (.string y8)/\∃ u':SW (Grew wr),w'=u'.w:=ZcR dn 8 (by omega) (by omega) y8 hy8 wr
    have n1:∀ u:SW (Grew wr),Calls Tryz.prog 96 #[.int .u64 (nt.size:Int),.int .i64 1] u.w λ e w'=>e=.returned (.string y1)/\∃ u':SW (Grew wr),w'=u'.w:=ZcR nt.size 1 (by omega) (by omega) y1 hy1 wr
    have a1:¬ (9223372036854775807<s.size+y8.size):=by omega
    have a2:¬ (9223372036854775807<(s++y8).size+y1.size):=by rw [Zb8]; omega
    have a3:¬ (9223372036854775807<(s++y8++y1).size+nt.size):=by rw [Zb8,Zb8]; omega
    have HE:Hid (Value.string (s++y8++y1++nt)=tx (comB c)/\Below w.heap.size w wr):=by
     refine ⟨?_,H.out.2.2.1.trans (HR.out.2.2.mono H.out.2.2.1.size)⟩;show Value.string _=Value.string _
     congr 1
     have e1:low 1 (⟨c.note.toArray⟩:ByteArray).size=[UInt8.ofNat c.note.length]:=by
      have:(⟨c.note.toArray⟩:ByteArray).size=c.note.length:=by show c.note.toArray.size=_; simp
      rw [this]; rfl
     have e2:low 1 i=[UInt8.ofNat c.ps.length]:=by rw [H.out.2.1]; rfl
     rw [HR.out.1,htk,hy8,hy1,H.out.2.2.2.2.2.2.2,e1,e2,hld];unfold comB;apply ByteArray.ext;simp [b8]
    clear hnd htk bu hld hdn hy8 hy1 l8 l1 hsl hd;go_wp2_with fail;refine Zab (S:=Grew wr) (by kernel_rfl) (by kernel_rfl) (Below.refl _ wr).drew ?_
    repeat (go_big_quiet_step (first | with_reducible exact n1 _ | with_reducible exact n8 _))
    refine wpQuiet_nil ?_;intro _ hw';obtain ⟨u,hw''⟩:=hw';subst hw'';have N4:Hid (Below w.heap.size w u.w):=HE.out.2.trans (u.ok.mono HE.out.2.size)
    obtain ⟨w4,hw4⟩:∃ w4,w4=u.w:=⟨_,rfl⟩
    rw [<- hw4] at N4 ⊢;clear hw4 k2 k3 n1 n8 NE u;go_wp2;refine bodyPost_ret (results_tmp2 rfl _ _ _) rfl ?_;exact ⟨by rw [hct,<- HE.out.1]; rfl,N4.out⟩
theorem Zev (hr:RdG encU w pa c.ps) (hl:c.ps.length=pn) (nt:ByteArray) (hnt:nt=⟨c.note.toArray⟩) (dt:Int) (hdt:c.date=dt) :
  Calls Tryz.prog 118 #[.agg #[.int .u64 (c.tree.toNat:Int),.slice pa pn pc,.int .i64 dt,.string nt]] w λ e w'=>e=.returned (.tuple #[tx (fcom c).1,.int .i64 (fcom c).2])/\Below w.heap.size w w':=by
 by_cases h:8<pn∨64<nt.size
 ·exact ZhU hl nt hnt dt _ h
 ·exact Zly hr hl nt hnt dt hdt (by omega) (by omega)
end
end Go.Proofs.YtmhcpbbiokpjjaaGreat
