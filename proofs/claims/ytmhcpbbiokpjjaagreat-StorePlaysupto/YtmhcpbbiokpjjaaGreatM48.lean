/-
  Several texts, laid together.
-/
import Derived.Test.YtmhcpbbiokpjjaaGreatM47
import Derived.ProofKit
import Derived.OpenShut
import Derived.ShutString
import Derived.Below
import Derived.SizedLaws
import Derived.Deep.SlicePairs
import Derived.JoinedCond
set_option maxHeartbeats 6400000
set_option maxRecDepth 100000
namespace Go.Proofs.YtmhcpbbiokpjjaaGreat
open Go.RowKit
section
variable {B:Nat} {w W:World} {b:Nat} {d:Dk}
end
abbrev kA:Bs:=[97]
def a1:Dk:=(dput dk0 kA [[49,50]].flatten).1
def a2:Dk:=(dcut a1 1 1).1
def a3:Dk:=(dapp a2 kA [[51]].flatten).1
def a4:Dk:=(dput a3 kA [[52,53]].flatten).1
theorem Zm8 {d:Dk} (hk:d.ok):fget d.files [110,111,32,102,105,108,101]=none:=by
 rw [Zcs];intro f hf e;have:=(hk.each f hf).1;rw [e] at this;revert this
 decide
theorem ZgS {d:Dk} (hk:d.ok) {i:Nat} {n v:Bs} (h:d.files[i]? = some (n,v)):n.length<=1000000/\v.length<=262144:=by
 have hm:=List.mem_of_getElem? h;have h1:=hk.each _ hm;have h2:=h1.1;simp only [isName,Bool.and_eq_true,decide_eq_true_eq] at h2;have:=h2.1.2;exact ⟨by omega,h1.2⟩
theorem Zlj {l:Fs} (h:Za4 l) {i:Nat} {n v:Bs} (hi:l[i]? = some (n,v)):fget l n=some v:=by
 refine Zee (i:=i) (λ j hj m u hm e=>?_) hi;have:=List.pairwise_iff_getElem.1 h;obtain ⟨h1,e1⟩:=List.getElem?_eq_some_iff.1 hm;obtain ⟨h2,e2⟩:=List.getElem?_eq_some_iff.1 hi;have:=this j i h1 h2 hj;rw [e1,e2] at this;simp only at this;rw [e] at this;exact Zat _ this
section
variable {S:Nat->Prop} {w:World} {b:Nat} {d:Dk}
def ZgK (L i:Nat) (fs:Fs) (ls:List Bs):Prop:=ls.length=L/\∀ j n v,i<=j->fs[j]? = some (n,v)->ls[j]? = some n
theorem ZgK.start {fs:Fs} {L:Nat} (h:fs.length=L):ZgK L 0 fs (fs.map (·.1)):=⟨by simpa using h,λ j n v _ hj=>by rw [List.getElem?_map,hj]; rfl⟩
theorem ZgK.put {L i:Nat} {fs:Fs} {ls:List Bs} (h:ZgK L i fs ls) (y:Bs):ZgK L (i+1) fs (ls.set i y):=⟨by simpa using h.1,λ j n v hj e=>by rw [List.getElem?_set_ne (by omega)]; exact h.2 j n v (by omega) e⟩
theorem Zid (h:Zao w b d S) (hk:d.ok) {ao:Option Addr} {L c:Nat} (hL:d.files.length=L) (hR:RdG encF w ao d.files) :
  Calls Tryz.prog 12 #[.pointer (some ⟨b,0,none⟩),rv ao L c d] w λ e w'=>e=.returned (.bool true)/\Below w.heap.size w w':=by
 obtain ⟨W,hW⟩:∃ W,w.alloc (.cells #[.slice ao L c,.int .i64 (d.writes:Int),.bool d.armed,.bool d.dead,.int .i64 (d.after:Int),.int .i64 (d.keep:Int)] 28)=W:=⟨_,rfl⟩
 have B0:Below w.heap.size w W:=by rw [<- hW]; exact bz1 _ _
 have T:Six W w.heap.size (.slice ao L c) (.int .i64 (d.writes:Int)) (.bool d.armed) (.bool d.dead) (.int .i64 (d.after:Int)) (.int .i64 (d.keep:Int)):=by rw [<- hW]; exact Six.new w _ _ _ _ _ _
 have hl:L<=1000:=by have:=hk.few; omega
 have H:Hid (Below w.heap.size w W/\Six W w.heap.size (.slice ao L c) (.int .i64 (d.writes:Int)) (.bool d.armed) (.bool d.dead) (.int .i64 (d.after:Int)) (.int .i64 (d.keep:Int))/\RdG encF W ao d.files/\d.files.length=L/\Zao W b d S/\d.ok):=⟨B0,T,hR.below B0,hL,h.below B0,hk⟩
 clear hR hL B0 T h hk;have hnm:=Zlw H.out.2.2.2.2.1 H.out.2.2.2.2.2.rise H.out.2.2.2.2.2.few;go_enter Tryz.func12,Tryz.ntmps12;go_wp2_with fail;refine hnm.mono ?_;rintro e w1 ⟨lv,rfl,O1,B1⟩;obtain ⟨la,lc,rfl,hc1,hc2,R1⟩:=O1.form
 have hll:(d.files.map (·.1)).length=L:=by rw [List.length_map]; exact H.out.2.2.2.1
 rw [hll] at O1 hc1 ⊢
 have N1:Hid (Own w1 W.heap.size (.slice la L lc) (d.files.map (·.1))/\Below W.heap.size W w1):=⟨O1,B1⟩
 clear O1 B1 R1 hnm hll
 have NE:Nonempty (SW (Grew w1)):=⟨⟨w1,Below.refl _ _⟩⟩
 have sx:=(H.out.2.1.below N1.out.2)
 have x0:∀ u:SW (Grew w1),u.w.cell? ⟨w.heap.size,0,none⟩=some (.slice ao L c):=λ u=>(sx.below u.ok).cells.1
 have x1:∀ u:SW (Grew w1),u.w.cell? ⟨w.heap.size,1,none⟩=some (.int .i64 (d.writes:Int)):=λ u=>(sx.below u.ok).cells.2.1
 have x3:∀ u:SW (Grew w1),u.w.cell? ⟨w.heap.size,3,none⟩=some (.bool d.dead):=λ u=>(sx.below u.ok).cells.2.2.2.1
 have dd:∀ u:SW (Grew w1),Calls Tryz.prog 60 #[.pointer (some ⟨b,0,none⟩)] u.w λ e w'=>e=.returned (.bool d.dead)/\∃ u':SW (Grew w1),w'=u'.w:=λ u=>(ZmL ((H.out.2.2.2.2.1.below N1.out.2).below u.ok)).mono (λ e w' h=>⟨h.1,u,h.2⟩)
 have dw:∀ u:SW (Grew w1),Calls Tryz.prog 33 #[.pointer (some ⟨b,0,none⟩)] u.w λ e w'=>e=.returned (.int .i64 (d.writes:Int))/\∃ u':SW (Grew w1),w'=u'.w:=λ u=>(Zf1 ((H.out.2.2.2.2.1.below N1.out.2).below u.ok)).mono (λ e w' h=>⟨h.1,u,h.2⟩)
 clear sx
 go_upto_region 2 with fail
 refine Zab (S:=Grew w1) (by kernel_rfl) (by kernel_rfl) (Below.refl _ w1).drew ?_
 repeat (go_big_quiet_step (first | with_reducible exact dd _ | with_reducible exact dw _))
 refine wpQuiet_nil ?_;intro _ hw';obtain ⟨u,hw''⟩:=hw';subst hw''
 have N2:Hid (Own u.w W.heap.size (.slice la L lc) (d.files.map (·.1))/\Below W.heap.size W u.w):=⟨N1.out.1.below u.ok,N1.out.2.trans (u.ok.mono N1.out.2.size)⟩
 obtain ⟨w2,hw2⟩:∃ w2,w2=u.w:=⟨_,rfl⟩
 rw [<- hw2] at N2 ⊢;clear hw2 x0 x1 x3 dd dw NE N1 u;go_wp2_with fail;go_loopg [6] L (λ k iv wr=>∃ (i:Nat) (ls:List Bs),iv=.int .i64 i/\i+k=L/\Hid (Own wr W.heap.size (.slice la L lc) ls/\ZgK L i d.files ls/\Below W.heap.size W wr))
 case atStart=>exact ⟨0,_,rfl,by omega,N2.out.1,ZgK.start H.out.2.2.2.1,N2.out.2⟩
 case round =>
  obtain ⟨i,ls,rfl,hi,HR⟩:=hrel
  obtain ⟨wo,hwo⟩:∃ wo,wo=wr:=⟨_,rfl⟩
  subst hwo
  obtain ⟨ok,hok⟩:∃ ok,ok=gk:=⟨_,rfl⟩
  subst hok;by_cases hin:i<L
  ·have id:(i:Int)<(L:Int):=by omega
   obtain ⟨n,v,hnv⟩:=Zi7 H.out.2.2.2.1 hin;have hg:=Zlj H.out.2.2.2.2.2.rise hnv;have hs:=ZgS H.out.2.2.2.2.2 hnv;have hln:=HR.out.2.1.2 i n v (Nat.le_refl _) hnv;obtain ⟨hil,hle⟩:=List.getElem?_eq_some_iff.1 hln;have F:=Zdl HR.out.1;rw [HR.out.2.1.1] at F;obtain ⟨la',lc',e',_,_,hgg⟩:=F;cases e';obtain ⟨g,rfl⟩:=hgg (by omega)
   have hel:el ls i=n:=by rw [Zdx hil]; exact hle
   have kl:=ZkJ HR.out.1 hil;rw [hel] at kl;have hgW:W.heap.size<=g:=(HR.out.1.lt g rfl).1;have hgw:g<wo.heap.size:=(HR.out.1.lt g rfl).2;have hrd:=ZgV (H.out.2.2.2.2.1.below HR.out.2.2) n (by simp only [maxLen]; omega) (λ bs hb=>H.out.2.2.2.2.2.get hb);rw [hg] at hrd;have KL:Hid (wo.cell? ⟨g,i,none⟩=some (tx n)):=kl.1;have kl1:=kl.1;obtain ⟨fb,fo,rfl,hfl,hfc⟩:=H.out.2.2.1 (by rw [H.out.2.2.2.1]; omega);have kf:=RdG.files (λ _=>⟨fb,fo,rfl,hfl,hfc⟩) hnv
   have HF:Hid (W.cell? ⟨fb,fo+i*2,none⟩=some (tx n)/\W.cell? ⟨fb,fo+i*2+1,none⟩=some (tx v)/\fb<W.heap.size/\fget d.files n=some v/\d.files[i]? = some (n,v)/\v.length<=262144/\n.length<=1000000):=⟨kf.1,kf.2,hfl,hg,hnv,hs.2,hs.1⟩
   clear hg hnv hs hln hle hel kl hfc kf hgg hil;go_wp2_with fail;refine hrd.mono ?_;rintro e w3 ⟨v1,rfl,O3,B3⟩;obtain ⟨a3,c3,rfl,_,_,_,hb3⟩:=OwnG.form O3;rw [show (some v:Option Bs).getD []=v from rfl] at O3 hb3 ⊢
   obtain ⟨vl,hvl⟩:∃ vl,v.length=vl:=⟨_,rfl⟩
   rw [hvl] at O3 hb3 ⊢
   have N3:Hid (OwnG encB 5 w3 wo.heap.size (.slice a3 vl c3) v/\Below wo.heap.size wo w3/\v.length=vl/\(0<vl->∃ g,a3=some ⟨g,0,none⟩)):=⟨O3,B3,hvl,hb3⟩
   have hvb:vl<=262144:=by rw [<- hvl]; exact HF.out.2.2.2.2.2.1
   clear hrd O3 B3 kl1 hb3 hvl
   have NE:Nonempty (SW (Grew w3)):=⟨⟨w3,Below.refl _ _⟩⟩
   have bW:∀ u:SW (Grew w3),Below W.heap.size W u.w:=λ u=>by
    have b1:=HR.out.2.2.trans (N3.out.2.1.mono HR.out.2.2.size);exact b1.trans (u.ok.mono b1.size)
   have x0:∀ u:SW (Grew w3),u.w.cell? ⟨w.heap.size,0,none⟩=some (.slice (some ⟨fb,fo,none⟩) L c):=λ u=>(H.out.2.1.below (bW u)).cells.1
   have y0:∀ u:SW (Grew w3),u.w.cell? ⟨g,i,none⟩=some (tx n):=λ u=>((N3.out.2.1.trans (u.ok.mono N3.out.2.1.size)).cell (p:=⟨g,i,none⟩) hgw).trans KL.out
   have z0:∀ u:SW (Grew w3),u.w.cell? ⟨fb,fo+i*2,none⟩=some (tx n):=λ u=>((bW u).cell (p:=⟨fb,fo+i*2,none⟩) HF.out.2.2.1).trans HF.out.1
   have z1:∀ u:SW (Grew w3),u.w.cell? ⟨fb,fo+i*2+1,none⟩=some (tx v):=λ u=>((bW u).cell (p:=⟨fb,fo+i*2+1,none⟩) HF.out.2.2.1).trans HF.out.2.1
   have hcs:∀ u:SW (Grew w3),(convert 39 9 (.slice a3 vl c3)).run Tryz.prog u.w=.ok (tx v) u.w:=λ u=>ZaY (OwnB.at (OwnG.low (N3.out.1.below u.ok) (Nat.zero_le _)))
   clear bW
   go_upto_region 8 with fail
   refine Zab (S:=Grew w3) (by kernel_rfl) (by kernel_rfl) (Below.refl _ w3).drew ?_
   repeat (go_big_quiet_step (fail))
   refine wpQuiet_nil ?_;intro _ hw';obtain ⟨u,hw''⟩:=hw';subst hw''
   have N4:Hid (OwnG encB 5 u.w wo.heap.size (.slice a3 vl c3) v/\Below wo.heap.size wo u.w):=⟨N3.out.1.below u.ok,N3.out.2.1.trans (u.ok.mono N3.out.2.1.size)⟩
   obtain ⟨w4,hw4⟩:∃ w4,w4=u.w:=⟨_,rfl⟩
   rw [<- hw4] at N4 ⊢;clear hw4 x0 y0 z0 z1 hcs NE u;go_wp2_with fail;go_loopg [9] vl (λ k jv wq=>∃ (j:Nat) (bs:Bs),jv=.int .i64 j/\j+k=vl/\Hid (OwnG encB 5 wq wo.heap.size (.slice a3 vl c3) bs/\Below wo.heap.size wo wq))
   case atStart=>exact ⟨0,v,rfl,by omega,N4.out⟩
   case round =>
    obtain ⟨j,bs,rfl,hj,HQ⟩:=hrel;by_cases hjn:j<vl
    ·have jd:(j:Int)<(vl:Int):=by omega
     obtain ⟨h3,rfl⟩:=N3.out.2.2.2 (by omega);have hbl:bs.length=vl:=ZaF HQ.out.1;obtain ⟨y,hy,ky,fy⟩:=Zmu HQ.out.1 (i:=j) (by omega);clear hy;go_wp2;go_roundg (gk - 1)
     case measure=>omega
     case rel =>
      have hge:wo.heap.size<=h3:=(HQ.out.1.lt h3 rfl).1;refine ⟨j+1,bs.set j (y+1),by go_num,by omega,?_,HQ.out.2.trans ((Zae j _).below HQ.out.2.size (λ k hk q=>by omega))⟩;rw [<- Zno];exact Zk1 HQ.out.1 (by omega) (y+1)
    ·obtain rfl:j=vl:=by omega
     have BQ:Hid (Below W.heap.size W wr):=HR.out.2.2.trans (HQ.out.2.mono HR.out.2.2.size);have OQ:=HR.out.1.below HQ.out.2;obtain ⟨cl,fl⟩:=ZkJ OQ (i:=i) (by rw [HR.out.2.1.1]; exact hin);have HO:Hid (Own wr W.heap.size (.slice (some ⟨g,0,none⟩) L lc) ls):=OQ;clear OQ;go_wp2;go_roundg (ok - 1)
     case measure=>omega
     case rel=>exact ⟨i+1,ls.set i [109,97,114,107,101,100],by go_num,by omega,Zja HO.out i _,HR.out.2.1.put _,BQ.out.trans ((Zae i _).below BQ.out.size (λ k hk q=>by omega))⟩
  ·obtain rfl:i=L:=by omega
   have hrd:=ZgV (H.out.2.2.2.2.1.below HR.out.2.2) [110,111,32,102,105,108,101] (by simp [maxLen]) (λ bs hb=>H.out.2.2.2.2.2.get hb);rw [Zm8 H.out.2.2.2.2.2] at hrd;go_wp2_with fail;refine hrd.mono ?_;rintro e w3 ⟨v1,rfl,O3,B3⟩;obtain ⟨a3,c3,rfl,_,_,_,_⟩:=OwnG.form O3
   have BB:Hid (Below w.heap.size w w3):=by
    have b1:=H.out.1.trans (HR.out.2.2.mono H.out.1.size);exact b1.trans (B3.mono b1.size)
   clear O3 B3 hrd;go_wp2;go_ret;exact ⟨rfl,BB.out⟩
end
theorem ZgB {w:World} {ao:Option Addr} {n c:Nat} {l:List AV} (hA:Acts w ao n l) (hN:∀ a∈l,a.nm.size<=140737488355328/\(-9223372036854775808<=a.kp/\a.kp<=9223372036854775807)) (hn:n<=4000000000000000000) :
  Calls Tryz.prog 3 #[.slice ao n c] w λ e w'=>e=.returned (.bool true)/\Below w.heap.size w w':=by
 have HA:Hid (Acts w ao n l/\(∀ a∈l,a.nm.size<=140737488355328/\(-9223372036854775808<=a.kp/\a.kp<=9223372036854775807))):=⟨hA,hN⟩
 clear hA hN;go_enter Tryz.func3,Tryz.ntmps3;go_wp2_with fail;refine (ZkA w).mono ?_;rintro e w1 ⟨rfl,b1⟩;have B1:Hid (Below w.heap.size w w1):=b1;clear b1;go_wp2_with fail;refine (Zf4 w1).mono ?_;rintro e w2 ⟨s,b,rfl,H2⟩
 obtain ⟨R,hR⟩:∃ R,w2.heap.size=R:=⟨_,rfl⟩
 have L1:Hid (∃ v:Wd,(v.fine 262144/\Nmd v.st)/\WB w.heap.size R w (w2.alloc (.cells (wdV s b dk0 nilV nilV nilV nilV nilV nilV nilV) 35)) v):=by
  rw [<- hR];have h:=WB.start B1.out H2.out.1 H2.out.2;exact ⟨wd0,⟨⟨St.ok0,Dk.ok0,by decide,by decide,by decide,by decide,by decide⟩,Nmd.zero⟩,s,b,none,0,0,none,0,0,none,0,0,none,0,0,none,0,0,none,0,0,none,0,0,_,h.1,h.2.1,h.2.2.1,h.2.2.2⟩
 have HRB:Hid (w.heap.size<=R):=by
  rw [<- hR];have:=B1.out.size;have:=H2.out.2.size;show w.heap.size<=_;omega
 clear H2
 go_upto_region 4 with fail
 clear hR;go_wp2_with fail;go_loopg [4,5] (min n 60) (λ m ov iv wr=>ov=.bool true/\∃ i:Nat,iv=.int .i64 i/\i+m=min n 60/\Hid (∃ v:Wd,(v.fine (262144+2*i)/\Nmd v.st)/\WB w.heap.size R w wr v))
 case atStart=>exact ⟨rfl,0,rfl,by omega,L1.out⟩
 case round =>
  obtain ⟨rfl,i,rfl,hi,HR⟩:=hrel;clear L1;obtain ⟨v,hv,hwb⟩:=HR.out
  have HV:Hid ((v.fine (262144+2*i)/\Nmd v.st)/\WB w.heap.size R w wr v):=⟨hv,hwb⟩
  clear HR hv;obtain ⟨s,b,fa,fl,fc,oa,on,oc,ra,rn,rc,ta,tn,tc,xa,xn,xc,ya,yn,yc,za,zn,zc,U,h1,h2,h4,h5⟩:=hwb
  have HW:Hid (WI w.heap.size (λ j=>j=R) wr s b (.slice fa fl fc) (.slice oa on oc) (.slice ra rn rc) (.slice ta tn tc) (.slice xa xn xc) (.slice ya yn yc) (.slice za zn zc) U v.st v.d v.bl v.tl v.cl/\BoxA wr R 35 (wdV s b v.d (.slice fa fl fc) (.slice oa on oc) (.slice ra rn rc) (.slice ta tn tc) (.slice xa xn xc) (.slice ya yn yc) (.slice za zn zc))/\Below w.heap.size w wr):=⟨h1,h2,h4⟩
  clear h1 h2 h4 h5
  go_upto_region 5 with fail
  go_cut [19] from 12 to 50 (λ tv u=>∃ f,u=wr/\tv=.bool f/\Hid (f=true->i<min n 60))
  case first =>
   by_cases hin:i<n
   ·have id:(i:Int)<(n:Int):=by omega
    have id2:decide ((i:Int)<(n:Int))=true:=by simpa using id
    by_cases h40:i<60
    ·have i6:(i:Int)<60:=by omega
     have i62:decide ((i:Int)<60)=true:=by simpa using i6
     go_wp2_with fail;go_meet;exact ⟨_,rfl,rfl,λ _=>by omega⟩
    ·have i6:¬ (i:Int)<60:=by omega
     have i62:decide ((i:Int)<60)=false:=by simpa using i6
     go_wp2_with fail;go_meet;exact ⟨_,rfl,rfl,λ q=>(by cases q)⟩
   ·have id:¬ (i:Int)<(n:Int):=by omega
    have id2:decide ((i:Int)<(n:Int))=false:=by simpa using id
    go_wp2_with fail;go_meet;exact ⟨_,rfl,rfl,λ q=>(by cases q)⟩
  case rest =>
   obtain ⟨f,rfl,rfl,HF⟩:=hcut
   cases f with
   | true =>
    have hin:=HF.out rfl
    have id:(i:Int)<(n:Int):=by omega
    have id0:(0:Int)<=(i:Int):=by omega
    obtain ⟨a,ha⟩:=Zaf HA.out.1.len (show i<n by omega);obtain ⟨g,off,rfl,hlt⟩:=HA.out.1.rd.some_of ha;have HAC:=hid ((HA.out.1.rd.below HW.out.2.2).acts ha);obtain ⟨hbw,c0,c1,c2,c3,c4,c5',c6⟩:=HAC.out;have hnm:=HA.out.2 a (List.mem_of_getElem? ha);obtain ⟨data,ps,qs,hAt⟩:=HA.out.1.each a (List.mem_of_getElem? ha)
    obtain ⟨ak,hak⟩:∃ ak,a.k=ak:=⟨_,rfl⟩
    rw [hak] at c0;have PA:=hid (play9 (w0:=w) (v:=v) (a:=a) (N:=262144+2*i) (HW.out.1.below (Below.refl _ _).drew) HW.out.2.2.drew rfl (Nat.le_trans HW.out.2.2.size (Nat.le_refl _)) hAt hnm.1 hnm.2 HV.out.1.1 (by omega))
    have HG:Hid (∀ ac kp,(pstep ac kp v).fine (262144+2*(i+1))/\Nmd (pstep ac kp v).st):=λ ac kp=>⟨HV.out.1.1.pstep (by omega) ac kp,HV.out.1.2.pstep HV.out.1.1.st ac kp⟩
    obtain ⟨k,da,dn,dc,pa,pn,pc,qa,qn,qc,nm,dt,kp⟩:=a;simp only at hak c1 c2 c3 c4 c5' c6;obtain rfl:k=ak:=hak;clear ha hAt hnm HV HF
    go_upto_region 9 with fail
    go_cut [4] from 12 to 50 (λ ov u=>ov=.bool true/\Hid (∃ v:Wd,(v.fine (262144+2*(i+1))/\Nmd v.st)/\WB w.heap.size R w u v))
    case first =>
      obtain ⟨p0,p1,p2,p3,p4,p5,p6,p7,p8,p9,p10,p11,p12,p13⟩:=HW.out.2.1.c14
      go_region_law
       (first
        | (refine Zbc rfl (.tmp 25) (.tmp 29) 11 #[35,43] rfl Zg0 (.agg (wdV s b v.d (.slice fa fl fc) (.slice oa on oc) (.slice ra rn rc) (.slice ta tn tc) (.slice xa xn xc) (.slice ya yn yc) (.slice za zn zc))) (actV k (.slice da dn dc) (.slice pa pn pc) (.slice qa qn qc) nm dt kp) (by simp [Act.eval]) (by simp [Act.eval]) _ PA.out ?_; intro v3 w3 h3; obtain ⟨s',fa',fl',fc',oa',on',oc',ra',rn',rc',ta',tn',tc',xa',xn',xc',ya',yn',yc',za',zn',zc',U',e3,q1,q2,q3⟩:=h3.out; subst e3; have kR:BoxA w3 R 35 (wdV s b v.d (.slice fa fl fc) (.slice oa on oc) (.slice ra rn rc) (.slice ta tn tc) (.slice xa xn xc) (.slice ya yn yc) (.slice za zn zc)):=(q3 R rfl).trans HW.out.2.1; have H9:=hid (WB.stored q1 q2 kR ⟨_,_,_,_,_,_,_,_,_,_,_,_,_,_,rfl⟩ HRB.out); have k0:=kR.cell (j:=0) rfl; have f0:=kR.thaw 0; have k1:=kR.cell (j:=1) rfl; have f1:=kR.thaw 1; have k2:=kR.cell (j:=2) rfl; have f2:=kR.thaw 2; have k3:=kR.cell (j:=3) rfl; have f3:=kR.thaw 3; have k4:=kR.cell (j:=4) rfl; have f4:=kR.thaw 4; have k5:=kR.cell (j:=5) rfl; have f5:=kR.thaw 5; have k6:=kR.cell (j:=6) rfl; have f6:=kR.thaw 6; have k7:=kR.cell (j:=7) rfl; have f7:=kR.thaw 7; have k8:=kR.cell (j:=8) rfl; have f8:=kR.thaw 8; have k9:=kR.cell (j:=9) rfl; have f9:=kR.thaw 9; have k10:=kR.cell (j:=10) rfl; have f10:=kR.thaw 10; have k11:=kR.cell (j:=11) rfl; have f11:=kR.thaw 11; have k12:=kR.cell (j:=12) rfl; have f12:=kR.thaw 12; have k13:=kR.cell (j:=13) rfl; have f13:=kR.thaw 13; clear h3 q1 q2 q3 kR)
        | fail)
      all_goals
       simp only [layL,Nat.reduceAdd] at H9;go_wp2_with fail;go_meet;exact ⟨rfl,_,HG.out _ _,H9.out⟩
    case rest =>
     obtain ⟨rfl,J⟩:=hcut;clear HW HAC HG PA c0 c1 c2 c3 c4 c5' c6;obtain ⟨v',hv',hwb'⟩:=J.out;obtain ⟨s1,b1,fa1,fl1,fc1,oa1,on1,oc1,ra1,rn1,rc1,ta1,tn1,tc1,xa1,xn1,xc1,ya1,yn1,yc1,za1,zn1,zc1,U1,h1,h2,h4,h5⟩:=hwb'
     have HV':Hid ((v'.fine (262144+2*(i+1))/\Nmd v'.st)/\w.heap.size<=R/\v'.st.size<=1000000):=⟨hv',h5,by have:=hv'.1.size; omega⟩
     have HW':Hid (WI w.heap.size (λ j=>j=R) wc s1 b1 (.slice fa1 fl1 fc1) (.slice oa1 on1 oc1) (.slice ra1 rn1 rc1) (.slice ta1 tn1 tc1) (.slice xa1 xn1 xc1) (.slice ya1 yn1 yc1) (.slice za1 zn1 zc1) U1 v'.st v'.d v'.bl v'.tl v'.cl/\BoxA wc R 35 (wdV s1 b1 v'.d (.slice fa1 fl1 fc1) (.slice oa1 on1 oc1) (.slice ra1 rn1 rc1) (.slice ta1 tn1 tc1) (.slice xa1 xn1 xc1) (.slice ya1 yn1 yc1) (.slice za1 zn1 zc1))/\Below w.heap.size w wc):=⟨h1,h2,h4⟩
     obtain ⟨S1,T1,hS,hT,_⟩:=h1.duo;obtain ⟨_,_,_,_,_,_,_,_,_,_,_,_,em,l1,l2,l3,l4⟩:=h1.ref;cases em;have ht1:=Zid (c:=fc1) hT hv'.1.d l1.len l1.rd;have LS:=hid (And.intro hS (And.intro l2 (And.intro l3 l4)));have p0:=h2.cell (j:=0) rfl;have p2:=h2.cell (j:=2) rfl;have p3:=h2.cell (j:=3) rfl;have p4:=h2.cell (j:=4) rfl;have p5:=h2.cell (j:=5) rfl;have p6:=h2.cell (j:=6) rfl;have p7:=h2.cell (j:=7) rfl;clear h1 h2 h4 h5 hS hT l1 l2 l3 l4 hv' J;go_wp2_with fail;refine ht1.mono ?_;rintro e w5 ⟨rfl,B5⟩;clear ht1 p0 p2 p3 p4 p5 p6 p7;have BX:=HW'.out.2.1.below B5 HW'.out.2.1.lt;have ht2:=ZgQ (d:=v'.d) (vf:=.slice fa1 fl1 fc1) (oc:=oc1) (rc:=rc1) (tc:=tc1) (LS.out.1.below B5) HV'.out.1.1.st HV'.out.1.2 HV'.out.2.2 (LS.out.2.1.rd.below B5) (LS.out.2.2.1.rd.below B5) (LS.out.2.2.2.rd.below B5) LS.out.2.1.len LS.out.2.2.1.len LS.out.2.2.2.len;have B5h:=hid B5;have p1:=BX.cell (j:=1) rfl;have p2:=BX.cell (j:=2) rfl;have p3:=BX.cell (j:=3) rfl;have p4:=BX.cell (j:=4) rfl;have p5:=BX.cell (j:=5) rfl;have p6:=BX.cell (j:=6) rfl;have p7:=BX.cell (j:=7) rfl;have p8:=BX.cell (j:=8) rfl;have p9:=BX.cell (j:=9) rfl;have p10:=BX.cell (j:=10) rfl;clear BX B5;go_wp2_with fail;refine ht2.mono ?_;rintro e w6 ⟨rfl,B6⟩
     have JJ:Hid (∃ v:Wd,(v.fine (262144+2*(i+1))/\Nmd v.st)/\WB w.heap.size R w w6 v):=by
      have bb:=B5h.out.trans (B6.out.mono B5h.out.size);have z:=HW'.out.2.2.size;exact ⟨v',HV'.out.1,s1,b1,fa1,fl1,fc1,oa1,on1,oc1,ra1,rn1,rc1,ta1,tn1,tc1,xa1,xn1,xc1,ya1,yn1,yc1,za1,zn1,zc1,U1,HW'.out.1.below bb,HW'.out.2.1.below bb HW'.out.2.1.lt,HW'.out.2.2.trans (bb.mono z),HV'.out.2.1⟩
     clear ht2 HW' HV' LS B5h B6 p1 p2 p3 p4 p5 p6 p7 p8 p9 p10;go_wp2;go_roundg (gk - 1)
     case measure=>omega
     case rel=>exact ⟨rfl,i+1,by go_num,by omega,JJ.out⟩
   | false =>
    clear HF;have FB:=hid HW.out.2.2;clear HW HV;go_wp2;go_ret;exact ⟨rfl,FB.out⟩
end Go.Proofs.YtmhcpbbiokpjjaaGreat
namespace Go.Proofs.YtmhcpbbiokpjjaaGreat
open Go.ChangeShapes Go.WideShapes Go.ChangeAt Go.RowKit
theorem Zms {n:Int} (h:(Lit.int .i64 n).wf=true) : -9223372036854775808<=n/\n<=9223372036854775807:=by
 have e1:IntKind.i64.min = -9223372036854775808:=by decide
 have e2:IntKind.i64.max=9223372036854775807:=by decide
 simpa [Lit.wf,e1,e2] using h
theorem wf_u8 {n:Int} (h:(Lit.int .u8 n).wf=true):∃ y:UInt8,n=(y.toNat:Int):=by
 have e1:IntKind.u8.min=0:=by decide
 have e2:IntKind.u8.max=255:=by decide
 have h':0<=n/\n<=255:=by simpa [Lit.wf,e1,e2] using h
 refine ⟨UInt8.ofNat n.toNat,?_⟩;rw [UInt8.toNat_ofNat'];omega
def AV.fit (a:AV):Prop:=a.nm.size<=140737488355328/\(-9223372036854775808<=a.dt/\a.dt<=9223372036854775807)/\(-9223372036854775808<=a.kp/\a.kp<=9223372036854775807)
theorem ZlD {H:Type} (d:DataW H):0<Rows.uptoBulk d:=by
 cases d with
 | lit l=>cases l <;> simp [Rows.uptoBulk]
 | nil=>simp [Rows.uptoBulk]
 | ptr d=>simp [Rows.uptoBulk]
 | slice es sp=>simp [Rows.uptoBulk]
 | agg ps=>simp [Rows.uptoBulk]
 | iface t d=>simp [Rows.uptoBulk]
 | map es=>simp [Rows.uptoBulk]
 | held h=>simp [Rows.uptoBulk]
theorem ZbO {H:Type}:∀ l:List (DataW H),l.length<=Rows.uptoBulkAll l
 | []=>by simp [Rows.uptoBulkAll]
 | d::t=>by
  have h1:=ZbO t;have h2:=ZlD d;simp only [Rows.uptoBulkAll,List.length_cons];omega
theorem ZeV {H:Type}:∀ (l:List (DataW H)) (d:DataW H),d∈l->Rows.uptoBulk d<=Rows.uptoBulkAll l
 | [],_,h=>by cases h
 | x::t,d,h=>by
  simp only [Rows.uptoBulkAll]
  rcases List.mem_cons.1 h with rfl | q
  ·omega
  ·have:=ZeV t d q;omega
section
variable {H:Type} {enc:TypeId×Value->H} {W:World} {spare:Nat->Bool} {held:Bool} {fuel:Nat} {v:Value} {x:DataW H×List MemPlace}
theorem ZhX (h:DataW.trod enc Tryz.prog W 0 spare held fuel 39 [v]=some x):∃ (a:Option Addr) (n c:Nat) (xs:List UInt8),v=.slice a n c/\xs.length=n/\n<=c/\c<=9223372036854775807/\n<=Rows.uptoBulk x.1/\RdG encB W a xs:=by
 rcases Go.Deep.open_slice Tryz.underlying39 h with ⟨hcs,_⟩ | ⟨y,l,c,m,k,D,Pl,hcs,_,hl,hm,hmm,hx,hc⟩
 ·obtain rfl:v=.slice none 0 0:=by simpa using hcs
  exact ⟨none,0,0,[],rfl,rfl,by omega,by omega,Nat.zero_le _,RdG.nil _ _ _⟩
 ·obtain rfl:v=.slice (some y) l c:=by simpa using hcs
  have hlm:l<=m:=by rw [hmm]; split <;> omega
  have ce:Tryz.prog.cellsOf 5=1:=by kernel_rfl
  have hnl:l<=Rows.uptoBulk x.1:=by
   rw [hx];have:=ZbO ((List.range l).map D);rw [List.length_map,List.length_range] at this;simp only [Rows.uptoBulk];omega
  have each:∀ i,i<l->∃ q:UInt8,W.cell? (y.add i)=some (.int .u8 (q.toNat:Int)):=by
   intro i hi;obtain ⟨cs',h1,h2⟩:=hc i (by omega);rw [ce,Nat.mul_one] at h1;obtain ⟨_,hlen,hcell⟩:=World.cells?_some h1;obtain ⟨z,e0,_,hwf⟩:=DataW.trod_int Tryz.underlying5 h2;obtain ⟨q,rfl⟩:=wf_u8 hwf;subst e0;have:=hcell 0 (by simp);rw [Go.Deep.add_add] at this;exact ⟨q,this⟩
  haveI:Inhabited (UInt8):=⟨0⟩
  obtain ⟨q,hq⟩:=Go.Deep.choose_lt each;refine ⟨some y,l,c,(List.range l).map q,rfl,by simp,hl,by unfold maxLen at hm; omega,hnl,?_⟩
  ·intro h0
   have h0':0<l:=by simpa using h0
   obtain ⟨b,off,spot⟩:=y
   have first:=(hq 0 h0')
   have hs:spot=none:=by
    have:=World.cell?_spot first
    simpa [Addr.add] using this
   subst hs;refine ⟨b,off,rfl,?_,?_⟩
   ·have:=World.block_lt_of_cell? W _ first
    rw [Zas] at this;exact this
   ·intro i z hz j u hu
    have hi:i<l:=by
     have:=(List.getElem?_eq_some_iff.1 hz).1;simpa using this
    obtain rfl:z=q i:=by simpa [hi] using hz.symm
    have hj:j=0:=by
     rcases Nat.eq_zero_or_pos j with q' | q'
     ·exact q'
     ·rw [List.getElem?_eq_none (by show ([_]:List Value).length<=j; simp; omega)] at hu; cases hu
    subst hj
    have:=(hq i hi)
    rw [Zas] at this;rw [show off+(i*encB.size+0)=off+i from (by show off+(i*1+0)=off+i; omega),this];exact hu
theorem Zjh (h:DataW.trod enc Tryz.prog W 0 spare held fuel 41 [v]=some x):∃ (a:Option Addr) (n c:Nat) (xs:List Int),v=.slice a n c/\xs.length=n/\n<=c/\c<=9223372036854775807/\n<=Rows.uptoBulk x.1/\RdG encI W a xs:=by
 rcases Go.Deep.open_slice Tryz.underlying41 h with ⟨hcs,_⟩ | ⟨y,l,c,m,k,D,Pl,hcs,_,hl,hm,hmm,hx,hc⟩
 ·obtain rfl:v=.slice none 0 0:=by simpa using hcs
  exact ⟨none,0,0,[],rfl,rfl,by omega,by omega,Nat.zero_le _,RdG.nil _ _ _⟩
 ·obtain rfl:v=.slice (some y) l c:=by simpa using hcs
  have hlm:l<=m:=by rw [hmm]; split <;> omega
  have ce:Tryz.prog.cellsOf 3=1:=by kernel_rfl
  have hnl:l<=Rows.uptoBulk x.1:=by
   rw [hx];have:=ZbO ((List.range l).map D);rw [List.length_map,List.length_range] at this;simp only [Rows.uptoBulk];omega
  have each:∀ i,i<l->∃ q:Int,W.cell? (y.add i)=some (.int .i64 q):=by
   intro i hi;obtain ⟨cs',h1,h2⟩:=hc i (by omega);rw [ce,Nat.mul_one] at h1;obtain ⟨_,hlen,hcell⟩:=World.cells?_some h1;obtain ⟨z,e0,_,hwf⟩:=DataW.trod_int Tryz.underlying3 h2;subst e0;have:=hcell 0 (by simp);rw [Go.Deep.add_add] at this;exact ⟨z,this⟩
  haveI:Inhabited (Int):=⟨0⟩
  obtain ⟨q,hq⟩:=Go.Deep.choose_lt each;refine ⟨some y,l,c,(List.range l).map q,rfl,by simp,hl,by unfold maxLen at hm; omega,hnl,?_⟩
  ·intro h0
   have h0':0<l:=by simpa using h0
   obtain ⟨b,off,spot⟩:=y
   have first:=(hq 0 h0')
   have hs:spot=none:=by
    have:=World.cell?_spot first
    simpa [Addr.add] using this
   subst hs;refine ⟨b,off,rfl,?_,?_⟩
   ·have:=World.block_lt_of_cell? W _ first
    rw [Zas] at this;exact this
   ·intro i z hz j u hu
    have hi:i<l:=by
     have:=(List.getElem?_eq_some_iff.1 hz).1;simpa using this
    obtain rfl:z=q i:=by simpa [hi] using hz.symm
    have hj:j=0:=by
     rcases Nat.eq_zero_or_pos j with q' | q'
     ·exact q'
     ·rw [List.getElem?_eq_none (by show ([_]:List Value).length<=j; simp; omega)] at hu; cases hu
    subst hj
    have:=(hq i hi)
    rw [Zas] at this;rw [show off+(i*encI.size+0)=off+i from (by show off+(i*1+0)=off+i; omega),this];exact hu
theorem Zky (h:DataW.trod enc Tryz.prog W 0 spare held fuel 40 [v]=some x):∃ (a:Option Addr) (n c:Nat) (xs:List Bs),v=.slice a n c/\xs.length=n/\n<=c/\c<=9223372036854775807/\n<=Rows.uptoBulk x.1/\RdG encT W a xs/\∀ p∈xs,p.length<=Rows.uptoBulk x.1:=by
 rcases Go.Deep.open_slice Tryz.underlying40 h with ⟨hcs,_⟩ | ⟨y,l,c,m,k,D,Pl,hcs,_,hl,hm,hmm,hx,hc⟩
 ·obtain rfl:v=.slice none 0 0:=by simpa using hcs
  exact ⟨none,0,0,[],rfl,rfl,by omega,by omega,Nat.zero_le _,RdG.nil _ _ _,λ p q=>(by cases q)⟩
 ·obtain rfl:v=.slice (some y) l c:=by simpa using hcs
  have hlm:l<=m:=by rw [hmm]; split <;> omega
  have ce:Tryz.prog.cellsOf 9=1:=by kernel_rfl
  have hnl:l<=Rows.uptoBulk x.1:=by
   rw [hx];have:=ZbO ((List.range l).map D);rw [List.length_map,List.length_range] at this;simp only [Rows.uptoBulk];omega
  have each:∀ i,i<l->∃ q:Bs,W.cell? (y.add i)=some (tx q)/\q.length<=Rows.uptoBulk x.1:=by
   intro i hi;obtain ⟨cs',h1,h2⟩:=hc i (by omega);rw [ce,Nat.mul_one] at h1;obtain ⟨_,hlen,hcell⟩:=World.cells?_some h1;obtain ⟨s,e0,hD,_⟩:=DataW.trod_string Tryz.underlying9 h2;subst e0;have:=hcell 0 (by simp);rw [Go.Deep.add_add] at this;refine ⟨s.data.toList,by simpa using this,?_⟩;rw [hx];have h5:=ZeV ((List.range l).map D) (D i) (List.mem_map.2 ⟨i,List.mem_range.2 hi,rfl⟩)
   have h6:D i=.lit (.string s.data.toList)/\Pl i=[]:=by simpa using hD
   rw [h6.1] at h5;simp only [Rows.uptoBulk] at h5 ⊢;omega
  haveI:Inhabited (Bs):=⟨[]⟩
  obtain ⟨q,hq⟩:=Go.Deep.choose_lt each;refine ⟨some y,l,c,(List.range l).map q,rfl,by simp,hl,by unfold maxLen at hm; omega,hnl,?_,?_⟩
  ·intro h0
   have h0':0<l:=by simpa using h0
   obtain ⟨b,off,spot⟩:=y
   have first:=(hq 0 h0').1
   have hs:spot=none:=by
    have:=World.cell?_spot first
    simpa [Addr.add] using this
   subst hs;refine ⟨b,off,rfl,?_,?_⟩
   ·have:=World.block_lt_of_cell? W _ first
    rw [Zas] at this;exact this
   ·intro i z hz j u hu
    have hi:i<l:=by
     have:=(List.getElem?_eq_some_iff.1 hz).1;simpa using this
    obtain rfl:z=q i:=by simpa [hi] using hz.symm
    have hj:j=0:=by
     rcases Nat.eq_zero_or_pos j with q' | q'
     ·exact q'
     ·rw [List.getElem?_eq_none (by show ([_]:List Value).length<=j; simp; omega)] at hu; cases hu
    subst hj;have:=(hq i hi).1;rw [Zas] at this;rw [show off+(i*encT.size+0)=off+i from (by show off+(i*1+0)=off+i; omega),this];exact hu
  ·intro p hp;obtain ⟨i,hi,rfl⟩:=List.mem_map.1 hp;exact (hq i (List.mem_range.1 hi)).2
theorem ZlU {c0 c1 c2 c3 c4 c5 c6:Value} (h:DataW.trod enc Tryz.prog W 0 spare held fuel 43 [c0,c1,c2,c3,c4,c5,c6]=some x) (hs:Rows.uptoBulk x.1<=1048576):∃ (a:AV) (data:Bs) (ps:List Bs) (qs:List Int),c0=.int .i64 a.k/\c1=.slice a.da a.dn a.dc/\c2=.slice a.pa a.pn a.pc/\c3=.slice a.qa a.qn a.qc/\c4=.string a.nm/\c5=.int .i64 a.dt/\c6=.int .i64 a.kp/\ZiN W a data ps qs/\a.fit:=by
 have z0:Tryz.prog.cellsOf 3=1:=by kernel_rfl
 have z1:Tryz.prog.cellsOf 39=1:=by kernel_rfl
 have z2:Tryz.prog.cellsOf 40=1:=by kernel_rfl
 have z3:Tryz.prog.cellsOf 41=1:=by kernel_rfl
 have z4:Tryz.prog.cellsOf 9=1:=by kernel_rfl
 have z5:Tryz.prog.cellsOf 2=1:=by kernel_rfl
 obtain ⟨xs,k',hk,hxy,_,hxl,hf⟩:=DataW.trod_struct Tryz.underlying43 h
 match xs,hxl with
 | [y0,y1,y2,y3,y4,y5,y6],_ =>
  have g0:DataW.trod enc Tryz.prog W 0 spare held k' 3 [c0]=some y0:=by simpa [z0,z1,z2,z3,z4,z5] using hf 0 _ rfl
  have g1:DataW.trod enc Tryz.prog W 0 spare held k' 39 [c1]=some y1:=by simpa [z0,z1,z2,z3,z4,z5] using hf 1 _ rfl
  have g2:DataW.trod enc Tryz.prog W 0 spare held k' 40 [c2]=some y2:=by simpa [z0,z1,z2,z3,z4,z5] using hf 2 _ rfl
  have g3:DataW.trod enc Tryz.prog W 0 spare held k' 41 [c3]=some y3:=by simpa [z0,z1,z2,z3,z4,z5] using hf 3 _ rfl
  have g4:DataW.trod enc Tryz.prog W 0 spare held k' 9 [c4]=some y4:=by simpa [z0,z1,z2,z3,z4,z5] using hf 4 _ rfl
  have g5:DataW.trod enc Tryz.prog W 0 spare held k' 2 [c5]=some y5:=by simpa [z0,z1,z2,z3,z4,z5] using hf 5 _ rfl
  have g6:DataW.trod enc Tryz.prog W 0 spare held k' 3 [c6]=some y6:=by simpa [z0,z1,z2,z3,z4,z5] using hf 6 _ rfl
  obtain ⟨k,e0,_,w0⟩:=DataW.trod_int Tryz.underlying3 g0
  obtain rfl:c0=.int .i64 k:=by simpa using e0
  obtain ⟨da,dn,dc,data,rfl,d1,d2,d3,d4,d5⟩:=ZhX g1;obtain ⟨pa,pn,pc,ps,rfl,p1,p2,p3,p4,p5,p6⟩:=Zky g2;obtain ⟨qa,qn,qc,qs,rfl,q1,q2,q3,q4,q5⟩:=Zjh g3;obtain ⟨nm,e4,e4b,_⟩:=DataW.trod_string Tryz.underlying9 g4
  obtain rfl:c4=.string nm:=by simpa using e4
  obtain ⟨dt,e5,_,w5⟩:=DataW.trod_int Tryz.underlying2 g5
  obtain rfl:c5=.int .i64 dt:=by simpa using e5
  obtain ⟨kp,e6,_,w6⟩:=DataW.trod_int Tryz.underlying3 g6
  obtain rfl:c6=.int .i64 kp:=by simpa using e6
  have hx1:x.1=.agg [y0.1,y1.1,y2.1,y3.1,y4.1,y5.1,y6.1]:=by rw [hxy]; rfl
  rw [hx1] at hs;simp only [Rows.uptoBulk,Rows.uptoBulkAll] at hs
  have hnm:nm.size<=1048576:=by
   rw [e4b] at hs;simp only [Rows.uptoBulk] at hs;have:nm.data.toList.length=nm.size:=Array.length_toList;omega
  refine ⟨⟨k,da,dn,dc,pa,pn,pc,qa,qn,qc,nm,dt,kp⟩,data,ps,qs,rfl,rfl,rfl,rfl,rfl,rfl,rfl,⟨⟨da,dc,by rw [d1],by rw [d1]; exact d2,by omega,d5⟩,d1,?_,p5,p1,?_,λ p hp=>?_,q5,q1,?_⟩,⟨?_,Zms w5,Zms w6⟩⟩
  ·show dn<=_;omega
  ·show pn*24<=_;omega
  ·have:=p6 p hp;omega
  ·show qn*8<=_;omega
  ·show nm.size<=_;omega
theorem Zku {a:Option Addr} {len cap:Nat} (h:DataW.trod enc Tryz.prog W 0 spare held fuel 22 [.slice a len cap]=some x) (hs:Rows.uptoBulk x.1<=1048576):∃ l:List AV,Acts W a len l/\len<=1048576/\∀ a∈l,a.fit:=by
 rcases Go.Deep.open_slice Tryz.underlying22 h with ⟨hcs,_⟩ | ⟨y,l,c,m,k,D,Pl,hcs,_,hl,hm,hmm,hx,hc⟩
 ·simp only [List.cons.injEq,Value.slice.injEq,and_true] at hcs;obtain ⟨rfl,rfl,rfl⟩:=hcs;exact ⟨[],⟨RdG.nil _ _ _,rfl,λ a q=>(by cases q)⟩,by omega,λ a q=>(by cases q)⟩
 ·simp only [List.cons.injEq,Value.slice.injEq,and_true] at hcs;obtain ⟨rfl,rfl,rfl⟩:=hcs
  have hlm:len<=m:=by rw [hmm]; split <;> omega
  have ce:Tryz.prog.cellsOf 43=7:=by kernel_rfl
  rw [hx] at hs
  have hnl:len<=1048576:=by
   have:=ZbO ((List.range len).map D);rw [List.length_map,List.length_range] at this;simp only [Rows.uptoBulk] at hs;omega
  have each:∀ i,i<len->∃ q:AV,(∀ j u,(encA.cells q)[j]? = some u->W.cell? (y.add (i*7+j))=some u)/\(∃ data ps qs,ZiN W q data ps qs)/\q.fit:=by
   intro i hi;obtain ⟨cs',h1,h2⟩:=hc i (by omega);rw [ce] at h1;obtain ⟨_,hlen,hcell⟩:=World.cells?_some h1
   have hD:Rows.uptoBulk (D i)<=1048576:=by
    have:=ZeV ((List.range len).map D) (D i) (List.mem_map.2 ⟨i,List.mem_range.2 hi,rfl⟩);simp only [Rows.uptoBulk] at hs;omega
   match cs',hlen with
   | [v0,v1,v2,v3,v4,v5,v6],_ =>
    obtain ⟨q,data,ps,qs,rfl,rfl,rfl,rfl,rfl,rfl,rfl,hq,hq2⟩:=ZlU h2 hD;refine ⟨q,?_,⟨data,ps,qs,hq⟩,hq2⟩;intro j u hu
    have hj:j<7:=by
     have:=(List.getElem?_eq_some_iff.1 hu).1;simpa [encA] using this
    have:=hcell j (by omega);rw [Go.Deep.add_add] at this;rw [this]
    match j,hj,hu with
    | 0,_,hu=>simpa [encA] using hu
    | 1,_,hu=>simpa [encA] using hu
    | 2,_,hu=>simpa [encA] using hu
    | 3,_,hu=>simpa [encA] using hu
    | 4,_,hu=>simpa [encA] using hu
    | 5,_,hu=>simpa [encA] using hu
    | 6,_,hu=>simpa [encA] using hu
  haveI:Inhabited AV:=⟨⟨0,none,0,0,none,0,0,none,0,0,⟨#[]⟩,0,0⟩⟩
  obtain ⟨q,hq⟩:=Go.Deep.choose_lt each;refine ⟨(List.range len).map q,⟨?_,by simp,?_⟩,hnl,?_⟩
  ·intro h0
   have h0':0<len:=by simpa using h0
   obtain ⟨b,off,spot⟩:=y
   have first:=(hq 0 h0').1 0 (.int .i64 (q 0).k) rfl
   have hs:spot=none:=by
    have:=World.cell?_spot first
    simpa [Addr.add] using this
   subst hs;refine ⟨b,off,rfl,?_,?_⟩
   ·have:=World.block_lt_of_cell? W _ first
    rw [Zas] at this;exact this
   ·intro i z hz j u hu
    have hi:i<len:=by
     have:=(List.getElem?_eq_some_iff.1 hz).1;simpa using this
    obtain rfl:z=q i:=by simpa [hi] using hz.symm
    have:=(hq i hi).1 j u hu;rw [Zas] at this;exact this
  ·intro z hz;obtain ⟨i,hi,rfl⟩:=List.mem_map.1 hz;exact (hq i (List.mem_range.1 hi)).2.1
  ·intro z hz;obtain ⟨i,hi,rfl⟩:=List.mem_map.1 hz;exact (hq i (List.mem_range.1 hi)).2.2
end
theorem ZlN:ownKnob Tryz.prog.godebug=none:=by kernel_rfl
theorem laidOut:laidOutB Tryz.prog=true:=by kernel_rfl
end Go.Proofs.YtmhcpbbiokpjjaaGreat
