/-
  Several texts, laid together.
-/
import Derived.Test.YtjlokpjflgbgdaaGreatMC09
set_option maxHeartbeats 6400000
set_option maxRecDepth 100000
namespace Go.Proofs.YtjlokpjflgbgdaaGreat
open Go.RowKit
def encF:Enc (Bs×Bs):=⟨λ f=>[tx f.1,tx f.2],2,λ _=>rfl,by decide,by intro x u h; simp at h; rcases h with rfl | rfl <;> rfl⟩
theorem RdG.files {w:World} {b off:Nat} {fs:Fs} (h:RdG encF w (some ⟨b,off,none⟩) fs) {i:Nat} {n v:Bs} (hx:fs[i]? = some (n,v)):w.cell? ⟨b,off+i*2,none⟩=some (tx n)/\w.cell? ⟨b,off+i*2+1,none⟩=some (tx v):=by
 obtain ⟨b', off', e, hlt, hc⟩ := h (by rcases Nat.lt_or_ge i fs.length with q | q
                                        · omega
                                        · rw [List.getElem?_eq_none q] at hx; cases hx)
 obtain ⟨rfl,rfl⟩:b=b'/\off=off':=by simpa using e
 have h0:=hc i (n,v) hx 0 _ rfl;have h1:=hc i (n,v) hx 1 _ rfl;exact ⟨by simpa [encF] using h0,by simpa [encF,Nat.add_assoc] using h1⟩
abbrev rv (ao:Option Addr) (L c:Nat) (d:Dk):Value:=.agg #[.slice ao L c,.int .i64 (d.writes:Int),.bool d.armed,.bool d.dead,.int .i64 (d.after:Int),.int .i64 (d.keep:Int)]
theorem fget_skip {l:Fs} {n:Bs}:∀ {i:Nat},(∀ j,j<i->∀ m v,l[j]? = some (m,v)->m≠n)->fget l n=fget (l.drop i) n:=by
 induction l with
 | nil=>intro i _; simp
 | cons f t ih =>
  intro i h
  cases i with
  | zero=>rfl
  | succ i =>
   have h0:f.1≠n:=h 0 (by omega) f.1 f.2 rfl;simp only [fget,if_neg h0,List.drop_succ_cons];exact ih (i:=i) (λ j hj m v hm=>h (j+1) (by omega) m v hm)
theorem fget_first {l:Fs} {n v:Bs} {i:Nat} (h:∀ j,j<i->∀ m v,l[j]? = some (m,v)->m≠n) (hi:l[i]? = some (n,v)):fget l n=some v:=by
 obtain ⟨hlt,e⟩:=List.getElem?_eq_some_iff.1 hi;rw [fget_skip h,List.drop_eq_getElem_cons hlt,e];simp [fget]
theorem get_fs {l:Fs} {i n:Nat} (hl:l.length=n) (hi:i<n):∃ m v,l[i]? = some (m,v):=⟨(l[i]'(by omega)).1,(l[i]'(by omega)).2,List.getElem?_eq_getElem (by omega)⟩
theorem at_walk {ao:Option Addr} {L c:Nat} (d:Dk) (n:Bs) (w:World) (h:RdG encF w ao d.files) (hL:d.files.length=L) (hl:L<=1000) :
  Calls Tryz.prog 176 #[rv ao L c d,tx n] w λ e w'=>∃ r,e=.returned (.int .i64 r)/\Hid ((fget d.files n=none/\r = -1)∨∃ (i:Nat) (v:Bs),r=(i:Int)/\d.files[i]? = some (n,v)/\fget d.files n=some v)/\Below w.heap.size w w':=by
 have H:Hid (RdG encF w ao d.files/\d.files.length=L):=⟨h,hL⟩
 clear h hL
 obtain ⟨W,hW⟩:∃ W,w.alloc (.cells #[.slice ao L c,.int .i64 (d.writes:Int),.bool d.armed,.bool d.dead,.int .i64 (d.after:Int),.int .i64 (d.keep:Int)] 28)=W:=⟨_,rfl⟩
 have k0:W.cell? ⟨w.heap.size,0,none⟩=some (.slice ao L c):=by rw [<- hW]; simp
 have HW:Hid (Below w.heap.size w W):=by rw [<- hW]; exact bz1 _ _
 go_enter Tryz.func176,Tryz.ntmps176;go_wp2_with fail;go_loopg [5] L (λ k iv wr=>wr=W/\∃ i:Nat,iv=.int .i64 i/\i+k=L/\Hid (∀ j,j<i->∀ m v,d.files[j]? = some (m,v)->m≠n))
 case atStart=>exact ⟨rfl,0,rfl,by omega,λ j hj=>by omega⟩
 case round =>
  obtain ⟨hwr,i,rfl,hi,HT⟩:=hrel;subst hwr;by_cases hin:i<L
  ·have id:(i:Int)<(L:Int):=by omega
   obtain ⟨m,v,hm⟩:=get_fs H.out.2 hin;have R:=H.out.1.below HW.out;obtain ⟨b1,o1,rfl,hlt⟩:=R.some_of hm;have cc:=(R.files hm).1;have X:Hid (d.files[i]? = some (m,v)):=hm;clear R hm
   cases hxy:m==n with
   | true =>
    go_wp2;go_ret
    have e:m=n:=by simpa using hxy
    subst e;exact ⟨_,rfl,.inr ⟨i,v,rfl,X.out,fget_first HT.out X.out⟩,HW.out⟩
   | false =>
    go_wp2;go_roundg (gk - 1)
    all_goals first
     | omega
     | exact ⟨rfl,i+1,by go_num,by omega,λ j hj m' v' hm'=>by
       rcases Nat.lt_or_ge j i with q | q
       ·exact HT.out j q m' v' hm'
       ·obtain rfl:j=i:=by omega
        rw [X.out] at hm';cases hm'
        simpa using hxy⟩
  ·obtain rfl:i=L:=by omega
   go_wp2;go_ret;refine ⟨_,rfl,.inl ⟨?_,rfl⟩,HW.out⟩;rw [fget_skip HT.out,List.drop_of_length_le (by rw [H.out.2]; exact Nat.le_refl _)]
   rfl
theorem at_none {ao:Option Addr} {L c:Nat} (d:Dk) (n:Bs) (w:World) (h:RdG encF w ao d.files) (hL:d.files.length=L) (hl:L<=1000) (hf:fget d.files n=none) :
  Calls Tryz.prog 176 #[rv ao L c d,tx n] w λ e w'=>e=.returned (.int .i64 (-1))/\Below w.heap.size w w':=by
 refine (at_walk d n w h hL hl).mono ?_;rintro e w' ⟨r,rfl,h1,h2⟩
 rcases h1.out with ⟨_,rfl⟩ | ⟨i,v,_,_,q⟩
 ·exact ⟨rfl,h2⟩
 ·rw [hf] at q; cases q
theorem at_some {ao:Option Addr} {L c:Nat} (d:Dk) (n:Bs) (w:World) (h:RdG encF w ao d.files) (hL:d.files.length=L) (hl:L<=1000) {v:Bs} (hf:fget d.files n=some v) :
  Calls Tryz.prog 176 #[rv ao L c d,tx n] w λ e w'=>∃ i:Nat,e=.returned (.int .i64 (i:Int))/\i<L/\Hid (d.files[i]? = some (n,v))/\Below w.heap.size w w':=by
 refine (at_walk d n w h hL hl).mono ?_;rintro e w' ⟨r,rfl,h1,h2⟩
 rcases h1.out with ⟨q,_⟩ | ⟨i,u,rfl,q1,q2⟩
 ·rw [hf] at q; cases q
 ·rw [hf] at q2;cases q2;exact ⟨i,rfl,by rw [<- hL]; exact (List.getElem?_eq_some_iff.1 q1).1,q1,h2⟩
theorem data_none {ao:Option Addr} {L c:Nat} (d:Dk) (n:Bs) (w:World) (h:RdG encF w ao d.files) (hL:d.files.length=L) (hl:L<=1000) (hf:fget d.files n=none) :
  Calls Tryz.prog 117 #[rv ao L c d,tx n] w λ e w'=>e=.returned (tx [])/\Below w.heap.size w w':=by
 have B:=bz1 w (.cells #[.slice ao L c,.int .i64 (d.writes:Int),.bool d.armed,.bool d.dead,.int .i64 (d.after:Int),.int .i64 (d.keep:Int)] 28)
 have hc:=at_none (c:=c) d n _ (h.below B) hL hl hf
 have HB:Hid _:=B;clear h hL hf B;go_enter Tryz.func117,Tryz.ntmps117;go_wp2_with fail;refine hc.mono ?_;rintro e w1 ⟨rfl,B1⟩;have B2:Hid (Below w.heap.size w w1):=HB.out.trans (B1.mono HB.out.size);clear B1 hc;go_wp2;go_ret;exact ⟨rfl,B2.out⟩
theorem data_some {ao:Option Addr} {L c:Nat} (d:Dk) (n:Bs) (w:World) (h:RdG encF w ao d.files) (hL:d.files.length=L) (hl:L<=1000) {v:Bs} (hf:fget d.files n=some v) :
  Calls Tryz.prog 117 #[rv ao L c d,tx n] w λ e w'=>e=.returned (tx v)/\Below w.heap.size w w':=by
 have B:=bz1 w (.cells #[.slice ao L c,.int .i64 (d.writes:Int),.bool d.armed,.bool d.dead,.int .i64 (d.after:Int),.int .i64 (d.keep:Int)] 28)
 have hc:=at_some (c:=c) d n _ (h.below B) hL hl hf
 have HB:Hid (_/\RdG encF w ao d.files):=⟨B,h⟩
 clear h hL hf B;go_enter Tryz.func117,Tryz.ntmps117;go_wp2_with fail;refine hc.mono ?_;rintro e w1 ⟨i,rfl,hi,hx,B1⟩;have B2:Hid (Below w.heap.size w w1):=HB.out.1.trans (B1.mono HB.out.1.size);have R:=HB.out.2.below B2.out;obtain ⟨b1,o1,rfl,hlt⟩:=R.some_of hx.out;have cc:=(R.files hx.out).2
 have k0:w1.cell? ⟨w.heap.size,0,none⟩=some (.slice (some ⟨b1,o1,none⟩) L c):=by
  rw [B1.cell (p:=⟨w.heap.size,0,none⟩) (by simp)];simp
 have ii:(i:Int)<(L:Int):=by omega
 have i0:decide ((0:Int)<=(i:Int))=true:=by rw [decide_eq_true_eq]; omega
 clear B1 hc R;go_wp2;go_ret;exact ⟨rfl,B2.out⟩
theorem info136:(Tryz.prog.info? 136).map (λ i=>(i.zero,i.size,i.bytes))=some (some (.agg #[.string ⟨#[]⟩,.string ⟨#[]⟩]),2,32):=by kernel_rfl
end Go.Proofs.YtjlokpjflgbgdaaGreat

namespace Go.Proofs.YtjlokpjflgbgdaaGreat
open Go.RowKit
theorem with_small {n v:Bs}:∀ {a b:Fs},(∀ f∈a,f.1<n)->fwith (a++b) n v=a++fwith b n v
 | [],b,_=>rfl
 | f::t,b,h=>by
  have h1:f.1<n:=h f List.mem_cons_self;have ih:=with_small (v:=v) (b:=b) (λ g hg=>h g (List.mem_cons_of_mem _ hg):∀ g∈t,g.1<n);simp only [List.cons_append,fwith];rw [if_neg (fs_asymm h1),if_neg (λ e=>by rw [e] at h1; exact fs_irrefl _ h1),ih]
theorem with_snoc {n v:Bs} {x:Bs×Bs}:∀ {l:Fs},(∃ f∈l,¬ f.1<n)->fwith (l++[x]) n v=fwith l n v++[x]
 | [],h=>by obtain ⟨f,hf,_⟩:=h; cases hf
 | f::t,h=>by
  simp only [List.cons_append,fwith]
  split
  ·simp
  ·split
   ·simp
   ·rename_i h1 h2
    have hlt:f.1<n:=by
     rcases fs_tri f.1 n with q | q | q
     ·exact q
     ·exact absurd q h2
     ·exact absurd q h1
    obtain ⟨g,hg,hn⟩:=h
    rcases List.mem_cons.1 hg with rfl | q
    ·exact absurd hlt hn
    ·rw [with_snoc ⟨g,q,hn⟩]
     rfl
def Laid (l:Fs) (n v:Bs) (i:Nat) (done:Bool) (out:Fs):Prop:=(done=false/\(∀ f∈l.take i,f.1<n)/\out=l.take i)∨(done=true/\(∃ f∈l.take i,¬ f.1<n)/\out=fwith (l.take i) n v)
theorem ktake_snoc {l:Fs} {i:Nat} {x:Bs×Bs} (h:l[i]? = some x):l.take (i+1)=l.take i++[x]:=by rw [List.take_add_one,h]; rfl
theorem laid_len {l:Fs} {n v:Bs} {i:Nat} {out:Fs} (h:Laid l n v i false out):out.length<=i:=by
 rcases h with ⟨_,_,h2⟩ | ⟨q,_⟩
 ·rw [h2,List.length_take]; omega
 ·cases q
theorem laid_less {l:Fs} {n v m u:Bs} {i:Nat} {out:Fs} (h:Laid l n v i false out) (hx:l[i]? = some (m,u)) (hm:m<n):Laid l n v (i+1) false (out++[(m,u)]):=by
 rcases h with ⟨_,h1,h2⟩ | ⟨q,_⟩
 ·refine .inl ⟨rfl,?_,by rw [h2,ktake_snoc hx]⟩;intro f hf;rw [ktake_snoc hx] at hf
  rcases List.mem_append.1 hf with q | q
  ·exact h1 f q
  ·simp at q; rw [q]; exact hm
 ·cases q
theorem laid_same {l:Fs} {n v u:Bs} {i:Nat} {out:Fs} (h:Laid l n v i false out) (hx:l[i]? = some (n,u)):Laid l n v (i+1) true (out++[(n,v)]):=by
 rcases h with ⟨_,h1,h2⟩ | ⟨q,_⟩
 ·refine .inr ⟨rfl,⟨(n,u),by rw [ktake_snoc hx]; simp,fs_irrefl _⟩,?_⟩;rw [h2,ktake_snoc hx,with_small h1];simp [fwith,fs_irrefl]
 ·cases q
theorem laid_more {l:Fs} {n v m u:Bs} {i:Nat} {out:Fs} (h:Laid l n v i false out) (hx:l[i]? = some (m,u)) (hm:n<m):Laid l n v (i+1) true (out++[(n,v)]++[(m,u)]):=by
 rcases h with ⟨_,h1,h2⟩ | ⟨q,_⟩
 ·refine .inr ⟨rfl,⟨(m,u),by rw [ktake_snoc hx]; simp,fs_asymm hm⟩,?_⟩;rw [h2,ktake_snoc hx,with_small h1];simp [fwith,hm]
 ·cases q
theorem laid_done {l:Fs} (hr:FRise l) {n v m u:Bs} {i:Nat} {out:Fs} (h:Laid l n v i true out) (hx:l[i]? = some (m,u)):n<m/\Laid l n v (i+1) true (out++[(m,u)]):=by
 rcases h with ⟨q,_⟩ | ⟨_,⟨f,hf,hn⟩,h2⟩
 ·cases q
 ·have hfm:f.1<m:=by
   obtain ⟨j,hj,e⟩:=List.getElem_of_mem hf
   have hji:j<i:=by simp at hj; omega
   obtain ⟨hi,ei⟩:=List.getElem?_eq_some_iff.1 hx;have:=List.pairwise_iff_getElem.1 hr j i (by omega) hi hji;rw [ei] at this;rw [List.getElem_take] at e;rw [e] at this;exact this
  have hnm:n<m:=by
   rcases fs_tri f.1 n with q | q | q
   ·exact absurd q hn
   ·rw [<- q]; exact hfm
   ·exact fs_trans q hfm
  refine ⟨hnm,.inr ⟨rfl,⟨f,by rw [ktake_snoc hx]; exact List.mem_append_left _ hf,hn⟩,?_⟩⟩;rw [ktake_snoc hx,with_snoc ⟨f,hf,hn⟩,h2]
theorem kwith_any {ao:Option Addr} {L c:Nat} (l:Fs) (n v:Bs) (w:World) (h:RdG encF w ao l) (hL:l.length=L) (hl:L<=1000) (hr:FRise l) :
  Calls Tryz.prog 182 #[.slice ao L c,.agg #[tx n,tx v]] w λ e w'=>∃ u,e=.returned u/\OwnG encF 136 w' w.heap.size u (fwith l n v)/\Below w.heap.size w w':=by
 have H:Hid (RdG encF w ao l/\l.length=L/\FRise l):=⟨h,hL,hr⟩
 clear h hL hr
 obtain ⟨W,hW⟩:∃ W,w.alloc (.cells #[tx n,tx v] 136)=W:=⟨_,rfl⟩
 have HW:Hid (Below w.heap.size w W/\W.cell? ⟨w.heap.size,0,none⟩=some (tx n)/\W.cell? ⟨w.heap.size,1,none⟩=some (tx v)/\w.heap.size<W.heap.size):=by rw [<- hW]; exact ⟨bz1 _ _,by simp,by simp,by simp⟩
 go_enter Tryz.func182,Tryz.ntmps182;go_wp2_with fail;go_loopg [5,6,7] L (λ k lv dv iv wr=>∃ (i:Nat) (dn:Bool) (out:Fs),iv=.int .i64 i/\i+k=L/\dv=.bool dn/\Hid (Laid l n v i dn out/\out.length<=i+1/\OwnG encF 136 wr W.heap.size lv out/\Below W.heap.size W wr))
 case atStart=>exact ⟨0,false,[],rfl,by omega,rfl,.inl ⟨rfl,by simp,by simp⟩,by simp,OwnG.nil _ _ _ _,Below.refl _ _⟩
 case round =>
  obtain ⟨i,dn,out,rfl,hi,rfl,HR⟩:=hrel;have B0:=HW.out.1.trans (HR.out.2.2.2.mono HW.out.1.size);have k0:=(HR.out.2.2.2.cell (p:=⟨w.heap.size,0,none⟩) HW.out.2.2.2).trans HW.out.2.1;have k1:=(HR.out.2.2.2.cell (p:=⟨w.heap.size,1,none⟩) HW.out.2.2.2).trans HW.out.2.2.1;by_cases hin:i<L
  ·have id:(i:Int)<(L:Int):=by omega
   obtain ⟨m,u,hm⟩:=get_fs H.out.2.1 hin;have R:=H.out.1.below B0;obtain ⟨b1,o1,rfl,hlt⟩:=R.some_of hm;obtain ⟨cc,cd⟩:=R.files hm;have X:Hid (l[i]? = some (m,u)):=hm;clear R hm B0;have G:Hid (Laid l n v i dn out/\out.length<=i+1/\OwnG encF 136 wr W.heap.size u5 out/\Below W.heap.size W wr):=HR;clear HR;have sz:W.heap.size<=wr.heap.size:=G.out.2.2.2.size
   cases dn with
   | false =>
    rcases fs_tri m n with hlt' | heq | hgt
    ·have q1:(Op.bytesLess n m||n==m)=false:=by
      rw [Go.Proofs.bytesLess_eq,decide_eq_false (fs_asymm hlt'),Bool.false_or,beq_eq_false_iff_ne];intro e; rw [e] at hlt'; exact fs_irrefl _ hlt'
     have q2:(!n==m)=true:=by
      have:(n==m)=false:=by rw [beq_eq_false_iff_ne]; intro e; rw [e] at hlt'; exact fs_irrefl _ hlt'
      rw [this]; rfl
     have Q:Hid (m<n):=hlt';clear hlt';go_wp2_with fail;go_quiet (fail);go_wp2_with fail;go_quiet (fail);go_wp2_with (at_builtin; (refine appG_one encF 136 26 32 _ rfl info136 Tryz.underlying26 rfl (.tmp 38) (.tmp 43) rfl W.heap.size _ out (m,u) 136 (by rfl) (G.out.2.2.1.below (below_drewN (Below.refl _ _) _)) (by rfl) (by have:=G.out.2.1; omega) (by have:=G.out.2.1; simp only [maxLen]; omega) sz _ rfl ?_; intro v2 w2 O2 B2 _ _));go_wp2;go_roundg (gk - 1)
     all_goals first
      | omega
      | exact ⟨i+1,false,_,by go_num,by omega,rfl,laid_less G.out.1 X.out Q.out,by have:=G.out.2.1; simp; omega,O2,(below_drewN G.out.2.2.2 _).trans B2⟩
    ·subst heq
     have q1:(Op.bytesLess m m||m==m)=true:=by simp
     have q2:(!m==m)=false:=by simp
     go_wp2_with fail;go_quiet (fail);go_wp2_with (at_builtin; (refine appG_one encF 136 26 32 _ rfl info136 Tryz.underlying26 rfl (.tmp 26) (.tmp 28) rfl W.heap.size _ out (m,v) 136 (by rfl) (G.out.2.2.1.below (below_drewN (Below.refl _ _) _)) (by rfl) (by have:=G.out.2.1; omega) (by have:=G.out.2.1; simp only [maxLen]; omega) sz _ rfl ?_; intro v2 w2 O2 B2 _ _))
     have C:Hid (OwnG encF 136 w2 W.heap.size v2 (out++[(m,v)])/\Below W.heap.size W w2):=⟨O2,(below_drewN G.out.2.2.2 _).trans B2⟩
     have k0:=(C.out.2.cell (p:=⟨w.heap.size,0,none⟩) HW.out.2.2.2).trans HW.out.2.1;have R:=H.out.1.below (HW.out.1.trans (C.out.2.mono HW.out.1.size));have cc:=(R.files X.out).1;clear O2 B2 R;go_wp2_with fail;go_quiet (fail);go_wp2;go_roundg (gk - 1)
     all_goals first
      | omega
      | exact ⟨i+1,true,_,by go_num,by omega,rfl,laid_same G.out.1 X.out,by have:=G.out.2.1; simp; omega,C.out.1.below (below_drewN (Below.refl _ _) _),below_drewN C.out.2 _⟩
    ·have hne:(n==m)=false:=by rw [beq_eq_false_iff_ne]; intro e; rw [e] at hgt; exact fs_irrefl _ hgt
     have q1:(Op.bytesLess n m||n==m)=true:=by
      rw [Go.Proofs.bytesLess_eq,decide_eq_true hgt]; rfl
     have q2:(!n==m)=true:=by rw [hne]; rfl
     have Q:Hid (n<m):=hgt;clear hgt hne;go_wp2_with fail;go_quiet (fail);go_wp2_with (at_builtin; (refine appG_one encF 136 26 32 _ rfl info136 Tryz.underlying26 rfl (.tmp 26) (.tmp 28) rfl W.heap.size _ out (n,v) 136 (by rfl) (G.out.2.2.1.below (below_drewN (Below.refl _ _) _)) (by rfl) (by have:=G.out.2.1; omega) (by have:=G.out.2.1; simp only [maxLen]; omega) sz _ rfl ?_; intro v2 w2 O2 B2 _ _))
     have C:Hid (OwnG encF 136 w2 W.heap.size v2 (out++[(n,v)])/\Below W.heap.size W w2):=⟨O2,(below_drewN G.out.2.2.2 _).trans B2⟩
     have k0:=(C.out.2.cell (p:=⟨w.heap.size,0,none⟩) HW.out.2.2.2).trans HW.out.2.1;have R:=H.out.1.below (HW.out.1.trans (C.out.2.mono HW.out.1.size));obtain ⟨cc,cd⟩:=R.files X.out;have sz2:W.heap.size<=w2.heap.size:=C.out.2.size;clear O2 B2 R;go_wp2_with fail;go_quiet (fail);go_wp2_with (at_builtin; (refine appG_one encF 136 26 32 _ rfl info136 Tryz.underlying26 rfl (.tmp 38) (.tmp 43) rfl W.heap.size _ (out++[(n,v)]) (m,u) 136 (by rfl) (C.out.1.below (below_drewN (Below.refl _ _) _)) (by rfl) (by have:=G.out.2.1; simp; omega) (by have:=G.out.2.1; simp [maxLen]; omega) sz2 _ rfl ?_; intro v3 w3 O3 B3 _ _));go_wp2;go_roundg (gk - 1)
     all_goals first
      | omega
      | exact ⟨i+1,true,_,by go_num,by omega,rfl,laid_more G.out.1 X.out Q.out,by have:=laid_len G.out.1; simp; omega,O3,(below_drewN C.out.2 _).trans B3⟩
   | true =>
    have D:=laid_done H.out.2.2 G.out.1 X.out
    have hne:(n==m)=false:=by rw [beq_eq_false_iff_ne]; intro e; have:=D.1; rw [e] at this; exact fs_irrefl _ this
    have q2:(!n==m)=true:=by rw [hne]; rfl
    have DD:Hid (Laid l n v (i+1) true (out++[(m,u)])):=D.2;clear D hne;go_wp2_with fail;go_quiet (fail);go_wp2_with fail;go_quiet (fail);go_wp2_with (at_builtin; (refine appG_one encF 136 26 32 _ rfl info136 Tryz.underlying26 rfl (.tmp 38) (.tmp 43) rfl W.heap.size _ out (m,u) 136 (by rfl) (G.out.2.2.1.below (below_drewN (Below.refl _ _) _)) (by rfl) (by have:=G.out.2.1; omega) (by have:=G.out.2.1; simp only [maxLen]; omega) sz _ rfl ?_; intro v2 w2 O2 B2 _ _));go_wp2;go_roundg (gk - 1)
    all_goals first
     | omega
     | exact ⟨i+1,true,_,by go_num,by omega,rfl,DD.out,by have:=G.out.2.1; simp; omega,O2,(below_drewN G.out.2.2.2 _).trans B2⟩
  ·obtain rfl:i=L:=by omega
   have e0:l.take i=l:=List.take_of_length_le (by rw [H.out.2.1]; exact Nat.le_refl _);have hLa:=HR.out.1;unfold Laid at hLa;rw [e0] at hLa
   have G:Hid (OwnG encF 136 wr W.heap.size u5 out/\Below W.heap.size W wr/\out.length<=i+1):=⟨HR.out.2.2.1,HR.out.2.2.2,HR.out.2.1⟩
   have sz:W.heap.size<=wr.heap.size:=G.out.2.1.size;have LH:Hid _:=hLa;clear HR hLa
   cases dn with
   | false =>
    have hf:fwith l n v=out++[(n,v)]:=by
     rcases LH.out with ⟨_,h1,h2⟩ | ⟨q,_⟩
     ·have:=with_small (v:=v) (b:=[]) h1;rw [List.append_nil] at this;rw [this,h2]; rfl
     ·cases q
    clear LH;go_wp2_with (at_builtin; (refine appG_one encF 136 26 32 _ rfl info136 Tryz.underlying26 rfl (.tmp 47) (.tmp 49) rfl W.heap.size _ out (n,v) 136 rfl G.out.1 rfl (by have:=G.out.2.2; omega) (by have:=G.out.2.2; simp only [maxLen]; omega) sz _ rfl ?_; intro v2 w2 O2 B2 _ _));go_wp2;go_ret;rw [hf];exact ⟨_,rfl,OwnG.low O2 HW.out.1.size,HW.out.1.trans ((G.out.2.1.trans B2).mono HW.out.1.size)⟩
   | true =>
    have hf:fwith l n v=out:=by
     rcases LH.out with ⟨q,_⟩ | ⟨_,_,h2⟩
     ·cases q
     ·exact h2.symm
    clear LH;go_wp2;go_ret;rw [hf];exact ⟨_,rfl,OwnG.low G.out.1 HW.out.1.size,HW.out.1.trans (G.out.2.1.mono HW.out.1.size)⟩
end Go.Proofs.YtjlokpjflgbgdaaGreat

namespace Go.Proofs.YtjlokpjflgbgdaaGreat
open Go.RowKit
section
variable {ao:Option Addr} {L c:Nat} {d:Dk} {w:World}
theorem rnext_dead (hd:d.dead=true):Calls Tryz.prog 181 #[rv ao L c d] w λ e w'=>e=.returned (.tuple #[rv ao L c d,.bool false,.bool false])/\Below w.heap.size w w':=by
 unfold rv;rw [hd];go_enter Tryz.func181,Tryz.ntmps181;go_wp2;refine bodyPost_ret (v:=.tuple #[.agg #[.slice ao L c,.int .i64 (d.writes:Int),.bool d.armed,.bool true,.int .i64 (d.after:Int),.int .i64 (d.keep:Int)],.bool false,.bool false]) ?_ rfl ⟨rfl,bz2 _ _ _⟩;simp [results,Tryz.f181];go_simp
theorem rnext_torn (hd:d.dead=false) (ha:d.armed=true) (h0:d.after=0):Calls Tryz.prog 181 #[rv ao L c d] w λ e w'=>e=.returned (.tuple #[rv ao L c { d with dead:=true,armed:=false },.bool false,.bool true])/\Below w.heap.size w w':=by
 unfold rv;rw [hd,ha,h0];go_enter Tryz.func181,Tryz.ntmps181;go_wp2;refine bodyPost_ret (v:=.tuple #[.agg #[.slice ao L c,.int .i64 (d.writes:Int),.bool false,.bool true,.int .i64 0,.int .i64 (d.keep:Int)],.bool false,.bool true]) ?_ rfl ⟨rfl,bz2 _ _ _⟩;simp [results,Tryz.f181];go_simp
theorem rnext_armed (hd:d.dead=false) (ha:d.armed=true) (h0:d.after≠0) (hb:d.after<9223372036854775808) (hw:d.writes<4611686018427387904):Calls Tryz.prog 181 #[rv ao L c d] w λ e w'=>e=.returned (.tuple #[rv ao L c { d with after:=d.after - 1,writes:=d.writes+1 },.bool true,.bool false])/\Below w.heap.size w w':=by
 unfold rv
 obtain ⟨n,hn⟩:∃ n,d.after=n+1:=⟨d.after - 1,by omega⟩
 obtain ⟨q,hq⟩:∃ q,d.writes=q:=⟨_,rfl⟩
 have e1:((d.after - 1:Nat):Int)=(n:Int):=by omega
 show Calls Tryz.prog 181 _ w λ e w'=>e=.returned (.tuple #[.agg #[.slice ao L c,.int .i64 ((d.writes+1:Nat):Int),.bool d.armed,.bool d.dead,.int .i64 ((d.after - 1:Nat):Int),.int .i64 (d.keep:Int)],.bool true,.bool false])/\Below w.heap.size w w'
 rw [hd,ha,e1,hn,hq];rw [hq] at hw
 have hn1:n<9223372036854775807:=by omega
 clear e1 h0 hb hn
 have z:(((n+1:Nat):Int)==0)=false:=by simp; omega
 go_enter Tryz.func181,Tryz.ntmps181;go_wp2;refine bodyPost_ret (v:=.tuple #[.agg #[.slice ao L c,.int .i64 ((q:Int)+1),.bool true,.bool false,.int .i64 (n:Int),.int .i64 (d.keep:Int)],.bool true,.bool false]) ?_ rfl ⟨rfl,bz2 _ _ _⟩;simp [results,Tryz.f181];go_simp
theorem rnext_plain (hd:d.dead=false) (ha:d.armed=false) (hw:d.writes<4611686018427387904):Calls Tryz.prog 181 #[rv ao L c d] w λ e w'=>e=.returned (.tuple #[rv ao L c { d with writes:=d.writes+1 },.bool true,.bool false])/\Below w.heap.size w w':=by
 unfold rv
 obtain ⟨q,hq⟩:∃ q,d.writes=q:=⟨_,rfl⟩
 show Calls Tryz.prog 181 _ w λ e w'=>e=.returned (.tuple #[.agg #[.slice ao L c,.int .i64 ((d.writes+1:Nat):Int),.bool d.armed,.bool d.dead,.int .i64 (d.after:Int),.int .i64 (d.keep:Int)],.bool true,.bool false])/\Below w.heap.size w w'
 rw [hd,ha,hq];rw [hq] at hw;go_enter Tryz.func181,Tryz.ntmps181;go_wp2;refine bodyPost_ret (v:=.tuple #[.agg #[.slice ao L c,.int .i64 ((q:Int)+1),.bool false,.bool false,.int .i64 (d.after:Int),.int .i64 (d.keep:Int)],.bool true,.bool false]) ?_ rfl ⟨rfl,bz2 _ _ _⟩;simp [results,Tryz.f181];go_simp
theorem rnext_any (hb:d.after<9223372036854775808) (hw:d.writes<4611686018427387904) :
  Calls Tryz.prog 181 #[rv ao L c d] w λ e w'=>e=.returned (.tuple #[rv ao L c (dnext d).1,.bool (dnext d).2.1,.bool (dnext d).2.2])/\Below w.heap.size w w':=by
 by_cases hd:d.dead=true
 ·rw [dnext_dead hd]; exact rnext_dead hd
 ·have hd:d.dead=false:=by simpa using hd
  by_cases ha:d.armed=true
  ·by_cases h0:d.after=0
   ·rw [dnext_torn hd ha h0]; exact rnext_torn hd ha h0
   ·rw [dnext_armed hd ha h0]; exact rnext_armed hd ha h0 hb hw
  ·have ha:d.armed=false:=by simpa using ha
   rw [dnext_plain hd ha]; exact rnext_plain hd ha hw
end
end Go.Proofs.YtjlokpjflgbgdaaGreat
