/-
  Several texts, laid together.
-/
import Derived.Test.YtmhcpbbiokpjjaaGreatM12
set_option maxHeartbeats 6400000
set_option maxRecDepth 100000
namespace Go.Proofs.YtmhcpbbiokpjjaaGreat
open Go.RowKit
theorem ZjA {w:World} {dv:Value} {pa qa ba:Option Addr} {pn pc qn qc bn bc:Nat} {ps:List Bs} {qs:List Int} {ids:List UInt64} (k:Int) (nm:ByteArray) (dt kp:Int)
  (hp:RdG encT w pa ps) (hpl:ps.length=pn) (hpn:pn*24<=140737488355328) (hq:RdG encI w qa qs) (hql:qs.length=qn) (hqn:qn<=4000000000000000000) (hb:RdG encU w ba ids) (hbl:ids.length=bn) (hbn:bn<=4000000000000000000) :
  Calls Tryz.prog 38 #[actV k dv (.slice pa pn pc) (.slice qa qn qc) nm dt kp,.slice ba bn bc] w λ e w'=>∃ v,e=.returned v/\Hid (OwnG encE 91 w' (w.heap.size+1) v (aents ps qs ids)/\Below w.heap.size w w'):=by
 have H:Hid (RdG encT w pa ps/\ps.length=pn/\RdG encI w qa qs/\qs.length=qn/\RdG encU w ba ids/\ids.length=bn):=⟨hp,hpl,hq,hql,hb,hbl⟩
 clear hp hpl hq hql hb hbl;go_enter Tryz.func38,Tryz.ntmps38;go_wp2_with fail;go_loopg [5,6] pn (λ m rv iv wr=>∃ i:Nat,iv=.int .i64 i/\i+m=pn/\Hid (OwnG encE 91 wr (w.heap.size+1) rv ((List.range i).map (aent ps qs ids))/\BoxA wr w.heap.size 43 (actC k dv (.slice pa pn pc) (.slice qa qn qc) nm dt kp)/\Below w.heap.size w wr))
 case atStart=>exact ⟨0,rfl,by omega,OwnG.nil _ _ _ _,BoxA.new _ _ _,bz1 _ _⟩
 case round =>
  obtain ⟨i,rfl,hi,HR⟩:=hrel;have x2:=HR.out.2.1.cell (j:=2) rfl;have x3:=HR.out.2.1.cell (j:=3) rfl;by_cases hin:i<pn
  ·have id:(i:Int)<(pn:Int):=by omega
   have id0:(0:Int)<=(i:Int):=by omega
   obtain ⟨s,hs⟩:=Zaf H.out.2.1 hin;obtain ⟨b,off,rfl,hlt⟩:=H.out.1.some_of hs;obtain ⟨hbw,c0⟩:=(H.out.1.below HR.out.2.2).txts hs
   obtain ⟨y,hy⟩:∃ y,pickI qs i=y:=⟨_,rfl⟩
   obtain ⟨z,hz⟩:∃ z,pickU ids y=z:=⟨_,rfl⟩
   obtain ⟨zi,hzi⟩:∃ zi:Int,(z.toNat:Int)=zi:=⟨_,rfl⟩
   have ea:aent ps qs ids i=(s,z):=by
    unfold aent;rw [List.getD_eq_getElem?_getD,hs,hy,hz]
    rfl
   have hst:(List.range (i+1)).map (aent ps qs ids)=(List.range i).map (aent ps qs ids)++[(s,z)]:=by rw [List.range_succ,List.map_append,<- ea]; rfl
   have HS:Hid ((List.range (i+1)).map (aent ps qs ids)=(List.range i).map (aent ps qs ids)++[(s,z)]/\((List.range i).map (aent ps qs ids)).length=i):=⟨hst,by simp⟩
   have sz1:w.heap.size+1<=wr.heap.size:=HR.out.2.1.lt;have bd:Below w.heap.size w wr.drew:=HR.out.2.2.drew;have P1:Hid (Calls Tryz.prog 45 #[.slice qa qn qc,.int .i64 (i:Int)] wr.drew λ e w'=>e=.returned (.int .i64 y)/\w'=wr.drew):=Zcx (H.out.2.2.1.below bd) H.out.2.2.2.1 hqn i y hy;have P2:Hid (Calls Tryz.prog 17 #[.slice ba bn bc,.int .i64 y] wr.drew λ e w'=>e=.returned (.int .u64 zi)/\w'=wr.drew):=ZbR (H.out.2.2.2.2.1.below bd) H.out.2.2.2.2.2 hbn y zi (by rw [hz,hzi])
   have HC:Hid (∀ j u,(encE.cells (s,z))[j]? = some u->(wr.drew.alloc (.cells #[tx s,.int .u64 zi] 91)).cell? ((⟨wr.heap.size,0,none⟩:Addr).add j)=some u):=by
    have:=ZaC encE wr.drew (s,z) 91;rw [show (encE.cells (s,z)).toArray=#[tx s,Value.int .u64 zi] from (by show #[tx s,Value.int .u64 (z.toNat:Int)]=_; rw [hzi])] at this;exact this
   clear hs hst hy hz hzi ea bd;go_wp2_with fail
   go_region_law
    (first
     | (refine Zbi rfl (.tmp 22) (.tmp 23) 45 #[41,3] rfl Zcc (.slice qa qn qc) (.int .i64 (i:Int)) (.int .i64 y) (by simp [Act.eval,Act.put]) (by simp [Act.eval,Act.put]) P1.out ?_)
     | (refine Zbi rfl (.tmp 20) (.tmp 24) 17 #[33,3] rfl Zbx (.slice ba bn bc) (.int .i64 y) (.int .u64 zi) (by simp [Act.eval,Act.put]) (by simp [Act.eval,Act.put]) P2.out ?_)
     | (refine Za8 encE 91 100 24 _ rfl Tryz.info91 Tryz.underlying100 rfl (.tmp 14) (.tmp 27) rfl (w.heap.size+1) u5 ((List.range i).map (aent ps qs ids)) (s,z) (by simp [Act.eval]) (HR.out.1.below ((Below.refl _ wr).drew.trans (bz1 wr.drew _))) wr.heap.size (by simp [Act.eval]) HC.out (by rw [HS.out.2]; omega) (by rw [HS.out.2]; simp only [maxLen]; omega) (by simp; omega) ?_; intro v4 w4 ho4 hb4 hm4 ht4)
     | fail)
   all_goals
    have J4:Hid (OwnG encE 91 w4 (w.heap.size+1) v4 ((List.range (i+1)).map (aent ps qs ids))/\Below (w.heap.size+1) wr w4):=⟨by rw [HS.out.1]; exact ho4,((bz1 wr _).drew.mono (by omega)).trans hb4⟩
    clear ho4 hb4 hm4 ht4;go_wp2;go_roundg (gk - 1)
    case measure=>omega
    case rel=>exact ⟨i+1,by go_num,by omega,J4.out.1,HR.out.2.1.below J4.out.2 (by omega),HR.out.2.2.trans (J4.out.2.mono (by omega))⟩
  ·obtain rfl:i=pn:=by omega
   have htk:(List.range i).map (aent ps qs ids)=aents ps qs ids:=by unfold aents; rw [H.out.2.1]
   rw [htk] at HR;go_wp2;go_ret;exact ⟨_,rfl,HR.out.1,HR.out.2.2⟩
theorem ZfH {st:St} {f:Fr} (h:st.fits f=true):f.1=1∨f.1=2∨f.1=3∨f.1=4∨f.1=5:=by
 unfold St.fits at h
 split at h
 ·omega
 ·unfold St.right at h;by_cases k1:f.1=1
  ·omega
  by_cases k2:f.1=2
  ·omega
  by_cases k3:f.1=3
  ·omega
  rw [if_neg k1,if_neg k2,if_neg k3] at h;simp at h
theorem ZhN {st:St} {f:Fr} (h:st.fits f=true) (hk:f.1=1∨f.1=2∨f.1=3):st.right f=true/\oid f.1 f.2≠0/\oget st.objs f.1 (oid f.1 f.2)=none:=by
 unfold St.fits at h;rw [if_neg (by omega)] at h;simp only [Bool.and_eq_true,Bool.not_eq_true',decide_eq_false_iff_not] at h;refine ⟨h.1.1,h.1.2,?_⟩;have:=h.2;unfold St.has at this;simpa using this
theorem Zb7 {st:St} {f:Fr} (h:st.fits f=true) (hk:f.1=4∨f.1=5):8<=f.2.length/\isName (labN f.2)=true/\(f.1=5->st.has 3 (labI f.2)=true/\(nget st.tags (labN f.2)).isSome=false)/\(f.1=4->labI f.2=0->(nget st.refs (labN f.2)).isSome=true)/\(f.1=4->labI f.2≠0->st.has 3 (labI f.2)=true):=by
 unfold St.fits at h;rw [if_pos hk] at h;simp only [Bool.and_eq_true,decide_eq_true_eq] at h;refine ⟨h.1.1,h.1.2,λ h5=>?_,λ h4 h0=>?_,λ h4 h0=>?_⟩
 ·have:=h.2;rw [if_pos h5] at this;simpa using this
 ·have:=h.2;rw [if_neg (by omega),if_pos h0] at this;exact this
 ·have:=h.2;rw [if_neg (by omega),if_neg h0] at this;exact this
theorem ZkD {st:St} (h:st.ok) {f:Fr} (hf:st.fits f=true) (hl:f.2.length<=8192):(st.take f).ok:=by
 rcases ZfH hf with k | k | k | k | k
 case inr.inr.inr.inl =>
  have hlab:=Zb7 hf (.inl k);unfold St.take;rw [if_pos k];by_cases h0:labI f.2=0
  ·rw [if_pos h0];refine ⟨ZfV _ h.refs,h.tags,h.one,h.ids,h.blob,h.tree,h.com,λ n i hn=>?_⟩;refine h.names n i ?_
   rcases hn with q | q
   ·have q:nget (nout st.refs (labN f.2)) n=some i:=q;rw [ZbY] at q
    split at q
    ·cases q
    ·exact .inl q
   ·exact .inr q
  ·rw [if_neg h0];refine ⟨Zen _ _ h.refs,h.tags,h.one,h.ids,h.blob,h.tree,h.com,λ n i hn=>?_⟩
   rcases hn with q | q
   ·have q:nget (nwith st.refs (labN f.2) (labI f.2)) n=some i:=q;rw [Zdy] at q
    split at q
    ·cases q;exact hlab.2.2.2.2 k h0
    ·exact h.names n i (.inl q)
   ·exact h.names n i (.inr q)
 case inr.inr.inr.inr =>
  have hlab:=Zb7 hf (.inr k);unfold St.take;rw [if_neg (by omega),if_pos k];refine ⟨h.refs,Zen _ _ h.tags,h.one,h.ids,h.blob,h.tree,h.com,λ n i hn=>?_⟩
  rcases hn with q | q
  ·exact h.names n i (.inl q)
  ·have q:nget (nwith st.tags (labN f.2) (labI f.2)) n=some i:=q;rw [Zdy] at q
   split at q
   ·cases q;exact (hlab.2.2.1 k).1
   ·exact h.names n i (.inr q)
 all_goals
  have hob:=ZhN hf (by omega)
  have et:st.take f={ st with objs:=st.objs++[⟨f.1,oid f.1 f.2,f.2⟩] }:=by
   unfold St.take;rw [if_neg (by omega),if_neg (by omega)]
  rw [et];refine ⟨h.refs,h.tags,?_,?_,?_,?_,?_,λ n i hn=>Zdi (h.names n i hn)⟩
  ·refine List.pairwise_append.2 ⟨h.one,List.pairwise_singleton _ _,λ x hx y hy=>?_⟩
   have hy:y=⟨f.1,oid f.1 f.2,f.2⟩:=by simpa using hy
   rw [hy];exact ZdQ.1 hob.2.2 x hx
  ·intro o ho
   rcases List.mem_append.1 ho with q | q
   ·exact h.ids o q
   ·have q:o=⟨f.1,oid f.1 f.2,f.2⟩:=by simpa using q
    rw [q];exact ⟨rfl,hob.2.1,by show 1<=f.1; omega,by show f.1<=3; omega,hl⟩
  ·intro o ho hk
   rcases List.mem_append.1 ho with q | q
   ·exact h.blob o q hk
   ·have q:o=⟨f.1,oid f.1 f.2,f.2⟩:=by simpa using q
    rw [q] at hk ⊢;have hk:f.1=1:=hk;have:=hob.1;unfold St.right at this;rw [if_pos hk] at this;simpa using this
  ·intro o ho hk
   rcases List.mem_append.1 ho with q | q
   ·obtain ⟨es,h1,h2⟩:=h.tree o q hk;exact ⟨es,h1,Zei h2⟩
   ·have q:o=⟨f.1,oid f.1 f.2,f.2⟩:=by simpa using q
    rw [q] at hk ⊢;have hk:f.1=2:=hk;have:=hob.1;unfold St.right at this;rw [if_neg (by omega),if_pos hk] at this
    cases e:rdtree f.2 with
    | none=>rw [e] at this; cases this
    | some es=>rw [e] at this; exact ⟨es,rfl,Zei this⟩
  ·intro o ho hk
   rcases List.mem_append.1 ho with q | q
   ·obtain ⟨c,h1,h2⟩:=h.com o q hk;exact ⟨c,h1,Zec h2⟩
   ·have q:o=⟨f.1,oid f.1 f.2,f.2⟩:=by simpa using q
    rw [q] at hk ⊢;have hk:f.1=3:=hk;have:=hob.1;unfold St.right at this;rw [if_neg (by omega),if_neg (by omega),if_pos hk] at this
    cases e:rdcom f.2 with
    | none=>rw [e] at this; cases this
    | some c=>rw [e] at this; exact ⟨c,rfl,Zec this⟩
def St.size (st:St):Nat:=st.objs.length+st.refs.length+st.tags.length
theorem ZfX {st:St} (h:st.ok) {f:Fr}:(st.take f).size<=st.size+1:=by
 unfold St.take St.size
 split
 ·show st.objs.length+(if labI f.2=0 then _ else _:List _).length+st.tags.length<=_
  split
  ·have:(nout st.refs (labN f.2)).length<=st.refs.length:=List.length_filter_le _ _;omega
  ·have:=Zch (labN f.2) (labI f.2) h.refs
   split at this <;> omega
 ·split
  ·have:=Zch (labN f.2) (labI f.2) h.tags;show st.objs.length+st.refs.length+(nwith st.tags (labN f.2) (labI f.2)).length<=_
   split at this <;> omega
  ·show (st.objs++[_]).length+_+_<=_;simp;omega
def sread (st:St) (b:Bs):St×Nat :=
 if _h0:b=[] then (st,0)
 else if _h:(fopen b).2.2=0/\st.fits (fopen b).1=true then ((sread (st.take (fopen b).1) (b.drop (fopen b).2.1)).1,(fopen b).2.1+(sread (st.take (fopen b).1) (b.drop (fopen b).2.1)).2)
 else (st,0)
termination_by b.length
decreasing_by
 all_goals
  have:=Zbh _h.1
  have:0<b.length:=by
   rcases b with _ | _
   ·exact absurd rfl _h0
   ·simp
  simp only [List.length_drop];omega
theorem Zck (st:St):sread st []=(st,0):=by rw [sread]; simp
theorem Zeb {st:St} {b:Bs} (h:¬ ((fopen b).2.2=0/\st.fits (fopen b).1=true)):sread st b=(st,0):=by
 by_cases h0:b=[]
 ·rw [h0,Zck]
 ·rw [sread,dif_neg h0,dif_neg h]
theorem Zez {st:St} {b:Bs} (h0:0<b.length) (h:(fopen b).2.2=0/\st.fits (fopen b).1=true):sread st b=((sread (st.take (fopen b).1) (b.drop (fopen b).2.1)).1,(fopen b).2.1+(sread (st.take (fopen b).1) (b.drop (fopen b).2.1)).2):=by
 rw [sread,dif_neg (by intro e; rw [e] at h0; simp at h0),dif_pos h]
structure Za5 (st0:St) (b:Bs) (st:St) (d:Nat):Prop where
 le:d<=b.length
 eq:sread st0 b=((sread st (b.drop d)).1,d+(sread st (b.drop d)).2)
 ok:st.ok
 size:st.size<=d
theorem Za5.start {st:St} (b:Bs) (h:st.ok) (hs:st.size=0):Za5 st b st 0:=⟨Nat.zero_le _,by simp,h,by omega⟩
theorem Za5.step {s0 st:St} {b:Bs} {d:Nat} (h:Za5 s0 b st d) (hd:d<b.length) (he:(fopen (b.drop d)).2.2=0) (hf:st.fits (fopen (b.drop d)).1=true) (hl:(fopen (b.drop d)).1.2.length<=8192):Za5 s0 b (st.take (fopen (b.drop d)).1) (d+(fopen (b.drop d)).2.1):=by
 have hn:=Zbh he;rw [List.length_drop] at hn;refine ⟨by omega,?_,ZkD h.ok hf hl,?_⟩
 ·rw [h.eq,Zez (by rw [List.length_drop]; omega) ⟨he,hf⟩,List.drop_drop];simp [Nat.add_assoc]
 ·have:=ZfX h.ok (f:=(fopen (b.drop d)).1);have:=h.size;omega
theorem Za5.stop {s0 st:St} {b:Bs} {d:Nat} (h:Za5 s0 b st d) (hf:¬ ((fopen (b.drop d)).2.2=0/\st.fits (fopen (b.drop d)).1=true)):sread s0 b=(st,d):=by
 rw [h.eq,Zeb hf];simp
theorem Za5.done {s0 st:St} {b:Bs} {d:Nat} (h:Za5 s0 b st d) (hd:¬ d<b.length):sread s0 b=(st,d):=by
 have:b.drop d=[]:=List.drop_eq_nil_of_le (by omega);rw [h.eq,this,Zck];simp
theorem ZcH {b:Bs} (h:(fopen b).2.2=0):(fopen b).1.2.length<=8192:=by
 obtain ⟨h1,h2,h3,h4,h5⟩:=Zhe h;rw [h5];show ((b.drop 5).take (val (b.take 4))).length<=_;rw [List.length_take];omega
theorem Zgd (s0:St) (b:Bs):∀ (n:Nat) (st:St) (d:Nat),b.length - d<=n->Za5 s0 b st d->(sread s0 b).1.ok/\(sread s0 b).1.size<=(sread s0 b).2/\(sread s0 b).2<=b.length
 | n,st,d,hn,h=>by
  by_cases hd:d<b.length
  ·by_cases hf:(fopen (b.drop d)).2.2=0/\st.fits (fopen (b.drop d)).1=true
   ·have hs:=h.step hd hf.1 hf.2 (ZcH hf.1);have h9:=Zbh hf.1
    cases n with
    | zero=>omega
    | succ n=>exact Zgd s0 b n _ _ (by omega) hs
   ·rw [h.stop hf];exact ⟨h.ok,h.size,h.le⟩
  ·rw [h.done hd];exact ⟨h.ok,h.size,h.le⟩
theorem ZeR {st:St} (b:Bs) (h:st.ok) (hs:st.size=0):(sread st b).1.ok/\(sread st b).1.size<=(sread st b).2/\(sread st b).2<=b.length:=Zgd st b _ st 0 (Nat.le_refl _) (Za5.start b h hs)
def ofile (d:Dk):Bs:=(fget d.files fileN).getD []
def sopen (d:Dk):St×Dk×Int :=
 if (sread st0 (ofile d)).2<(ofile d).length then
  (if (dtrim d fileN ((sread st0 (ofile d)).2:Int)).2=0 then (sread st0 (ofile d)).1 else st0,(dtrim d fileN ((sread st0 (ofile d)).2:Int)).1,(dtrim d fileN ((sread st0 (ofile d)).2:Int)).2)
 else ((sread st0 (ofile d)).1,d,0)
def encF:Enc (Bs×Bs):=⟨λ f=>[tx f.1,tx f.2],2,λ _=>rfl,by decide,by intro x u h; simp at h; rcases h with rfl | rfl <;> rfl⟩
theorem RdG.files {w:World} {b off:Nat} {fs:Fs} (h:RdG encF w (some ⟨b,off,none⟩) fs) {i:Nat} {n v:Bs} (hx:fs[i]? = some (n,v)):w.cell? ⟨b,off+i*2,none⟩=some (tx n)/\w.cell? ⟨b,off+i*2+1,none⟩=some (tx v):=by
 obtain ⟨b', off', e, hlt, hc⟩ := h (by rcases Nat.lt_or_ge i fs.length with q | q
                                        · omega
                                        · rw [List.getElem?_eq_none q] at hx; cases hx)
 obtain ⟨rfl,rfl⟩:b=b'/\off=off':=by simpa using e
 have h0:=hc i (n,v) hx 0 _ rfl;have h1:=hc i (n,v) hx 1 _ rfl;exact ⟨by simpa [encF] using h0,by simpa [encF,Nat.add_assoc] using h1⟩
abbrev rv (ao:Option Addr) (L c:Nat) (d:Dk):Value:=.agg #[.slice ao L c,.int .i64 (d.writes:Int),.bool d.armed,.bool d.dead,.int .i64 (d.after:Int),.int .i64 (d.keep:Int)]
theorem ZfR {l:Fs} {n:Bs}:∀ {i:Nat},(∀ j,j<i->∀ m v,l[j]? = some (m,v)->m≠n)->fget l n=fget (l.drop i) n:=by
 induction l with
 | nil=>intro i _; simp
 | cons f t ih =>
  intro i h
  cases i with
  | zero=>rfl
  | succ i =>
   have h0:f.1≠n:=h 0 (by omega) f.1 f.2 rfl;simp only [fget,if_neg h0,List.drop_succ_cons];exact ih (i:=i) (λ j hj m v hm=>h (j+1) (by omega) m v hm)
theorem Zee {l:Fs} {n v:Bs} {i:Nat} (h:∀ j,j<i->∀ m v,l[j]? = some (m,v)->m≠n) (hi:l[i]? = some (n,v)):fget l n=some v:=by
 obtain ⟨hlt,e⟩:=List.getElem?_eq_some_iff.1 hi;rw [ZfR h,List.drop_eq_getElem_cons hlt,e];simp [fget]
theorem Zi7 {l:Fs} {i n:Nat} (hl:l.length=n) (hi:i<n):∃ m v,l[i]? = some (m,v):=⟨(l[i]'(by omega)).1,(l[i]'(by omega)).2,List.getElem?_eq_getElem (by omega)⟩
theorem Zkw {ao:Option Addr} {L c:Nat} (d:Dk) (n:Bs) (w:World) (h:RdG encF w ao d.files) (hL:d.files.length=L) (hl:L<=1000) :
  Calls Tryz.prog 170 #[rv ao L c d,tx n] w λ e w'=>∃ r,e=.returned (.int .i64 r)/\Hid ((fget d.files n=none/\r = -1)∨∃ (i:Nat) (v:Bs),r=(i:Int)/\d.files[i]? = some (n,v)/\fget d.files n=some v)/\Below w.heap.size w w':=by
 have H:Hid (RdG encF w ao d.files/\d.files.length=L):=⟨h,hL⟩
 clear h hL
 obtain ⟨W,hW⟩:∃ W,w.alloc (.cells #[.slice ao L c,.int .i64 (d.writes:Int),.bool d.armed,.bool d.dead,.int .i64 (d.after:Int),.int .i64 (d.keep:Int)] 28)=W:=⟨_,rfl⟩
 have k0:W.cell? ⟨w.heap.size,0,none⟩=some (.slice ao L c):=by rw [<- hW]; simp
 have HW:Hid (Below w.heap.size w W):=by rw [<- hW]; exact bz1 _ _
 go_enter Tryz.func170,Tryz.ntmps170;go_wp2_with fail;go_loopg [5] L (λ k iv wr=>wr=W/\∃ i:Nat,iv=.int .i64 i/\i+k=L/\Hid (∀ j,j<i->∀ m v,d.files[j]? = some (m,v)->m≠n))
 case atStart=>exact ⟨rfl,0,rfl,by omega,λ j hj=>by omega⟩
 case round =>
  obtain ⟨hwr,i,rfl,hi,HT⟩:=hrel;subst hwr;by_cases hin:i<L
  ·have id:(i:Int)<(L:Int):=by omega
   obtain ⟨m,v,hm⟩:=Zi7 H.out.2 hin;have R:=H.out.1.below HW.out;obtain ⟨b1,o1,rfl,hlt⟩:=R.some_of hm;have cc:=(R.files hm).1;have X:Hid (d.files[i]? = some (m,v)):=hm;clear R hm
   cases hxy:m==n with
   | true =>
    go_wp2;go_ret
    have e:m=n:=by simpa using hxy
    subst e;exact ⟨_,rfl,.inr ⟨i,v,rfl,X.out,Zee HT.out X.out⟩,HW.out⟩
   | false =>
    go_wp2;go_roundg (gk - 1)
    all_goals first
     | omega
     | exact ⟨rfl,i+1,by go_num,by omega,λ j hj m' v' hm'=>by
       rcases Nat.lt_or_ge j i with q | q
       ·exact HT.out j q m' v' hm'
       ·obtain rfl:j=i:=by omega
        rw [X.out] at hm';cases hm'
        simpa using hxy⟩
  ·obtain rfl:i=L:=by omega
   go_wp2;go_ret;refine ⟨_,rfl,.inl ⟨?_,rfl⟩,HW.out⟩;rw [ZfR HT.out,List.drop_of_length_le (by rw [H.out.2]; exact Nat.le_refl _)]
   rfl
theorem Zce {ao:Option Addr} {L c:Nat} (d:Dk) (n:Bs) (w:World) (h:RdG encF w ao d.files) (hL:d.files.length=L) (hl:L<=1000) (hf:fget d.files n=none) :
  Calls Tryz.prog 170 #[rv ao L c d,tx n] w λ e w'=>e=.returned (.int .i64 (-1))/\Below w.heap.size w w':=by
 refine (Zkw d n w h hL hl).mono ?_;rintro e w' ⟨r,rfl,h1,h2⟩
 rcases h1.out with ⟨_,rfl⟩ | ⟨i,v,_,_,q⟩
 ·exact ⟨rfl,h2⟩
 ·rw [hf] at q; cases q
theorem ZbD {ao:Option Addr} {L c:Nat} (d:Dk) (n:Bs) (w:World) (h:RdG encF w ao d.files) (hL:d.files.length=L) (hl:L<=1000) {v:Bs} (hf:fget d.files n=some v) :
  Calls Tryz.prog 170 #[rv ao L c d,tx n] w λ e w'=>∃ i:Nat,e=.returned (.int .i64 (i:Int))/\i<L/\Hid (d.files[i]? = some (n,v))/\Below w.heap.size w w':=by
 refine (Zkw d n w h hL hl).mono ?_;rintro e w' ⟨r,rfl,h1,h2⟩
 rcases h1.out with ⟨q,_⟩ | ⟨i,u,rfl,q1,q2⟩
 ·rw [hf] at q; cases q
 ·rw [hf] at q2;cases q2;exact ⟨i,rfl,by rw [<- hL]; exact (List.getElem?_eq_some_iff.1 q1).1,q1,h2⟩
theorem ZdB {ao:Option Addr} {L c:Nat} (d:Dk) (n:Bs) (w:World) (h:RdG encF w ao d.files) (hL:d.files.length=L) (hl:L<=1000) (hf:fget d.files n=none) :
  Calls Tryz.prog 111 #[rv ao L c d,tx n] w λ e w'=>e=.returned (tx [])/\Below w.heap.size w w':=by
 have B:=bz1 w (.cells #[.slice ao L c,.int .i64 (d.writes:Int),.bool d.armed,.bool d.dead,.int .i64 (d.after:Int),.int .i64 (d.keep:Int)] 28)
 have hc:=Zce (c:=c) d n _ (h.below B) hL hl hf
 have HB:Hid _:=B;clear h hL hf B;go_enter Tryz.func111,Tryz.ntmps111;go_wp2_with fail;refine hc.mono ?_;rintro e w1 ⟨rfl,B1⟩;have B2:Hid (Below w.heap.size w w1):=HB.out.trans (B1.mono HB.out.size);clear B1 hc;go_wp2;go_ret;exact ⟨rfl,B2.out⟩
theorem Zbn {ao:Option Addr} {L c:Nat} (d:Dk) (n:Bs) (w:World) (h:RdG encF w ao d.files) (hL:d.files.length=L) (hl:L<=1000) {v:Bs} (hf:fget d.files n=some v) :
  Calls Tryz.prog 111 #[rv ao L c d,tx n] w λ e w'=>e=.returned (tx v)/\Below w.heap.size w w':=by
 have B:=bz1 w (.cells #[.slice ao L c,.int .i64 (d.writes:Int),.bool d.armed,.bool d.dead,.int .i64 (d.after:Int),.int .i64 (d.keep:Int)] 28)
 have hc:=ZbD (c:=c) d n _ (h.below B) hL hl hf
 have HB:Hid (_/\RdG encF w ao d.files):=⟨B,h⟩
 clear h hL hf B;go_enter Tryz.func111,Tryz.ntmps111;go_wp2_with fail;refine hc.mono ?_;rintro e w1 ⟨i,rfl,hi,hx,B1⟩;have B2:Hid (Below w.heap.size w w1):=HB.out.1.trans (B1.mono HB.out.1.size);have R:=HB.out.2.below B2.out;obtain ⟨b1,o1,rfl,hlt⟩:=R.some_of hx.out;have cc:=(R.files hx.out).2
 have k0:w1.cell? ⟨w.heap.size,0,none⟩=some (.slice (some ⟨b1,o1,none⟩) L c):=by
  rw [B1.cell (p:=⟨w.heap.size,0,none⟩) (by simp)];simp
 have ii:(i:Int)<(L:Int):=by omega
 have i0:decide ((0:Int)<=(i:Int))=true:=by rw [decide_eq_true_eq]; omega
 clear B1 hc R;go_wp2;go_ret;exact ⟨rfl,B2.out⟩
theorem ZcE:(Tryz.prog.info? 127).map (λ i=>(i.zero,i.size,i.bytes))=some (some (.agg #[.string ⟨#[]⟩,.string ⟨#[]⟩]),2,32):=by kernel_rfl
theorem Zb0 {n v:Bs}:∀ {a b:Fs},(∀ f∈a,f.1<n)->fwith (a++b) n v=a++fwith b n v
 | [],b,_=>rfl
 | f::t,b,h=>by
  have h1:f.1<n:=h f List.mem_cons_self;have ih:=Zb0 (v:=v) (b:=b) (λ g hg=>h g (List.mem_cons_of_mem _ hg):∀ g∈t,g.1<n);simp only [List.cons_append,fwith];rw [if_neg (Zdh h1),if_neg (λ e=>by rw [e] at h1; exact Zat _ h1),ih]
theorem ZfN {n v:Bs} {x:Bs×Bs}:∀ {l:Fs},(∃ f∈l,¬ f.1<n)->fwith (l++[x]) n v=fwith l n v++[x]
 | [],h=>by obtain ⟨f,hf,_⟩:=h; cases hf
 | f::t,h=>by
  simp only [List.cons_append,fwith]
  split
  ·simp
  ·split
   ·simp
   ·rename_i h1 h2
    have hlt:f.1<n:=by
     rcases Zeu f.1 n with q | q | q
     ·exact q
     ·exact absurd q h2
     ·exact absurd q h1
    obtain ⟨g,hg,hn⟩:=h
    rcases List.mem_cons.1 hg with rfl | q
    ·exact absurd hlt hn
    ·rw [ZfN ⟨g,q,hn⟩]
     rfl
def Laid (l:Fs) (n v:Bs) (i:Nat) (done:Bool) (out:Fs):Prop:=(done=false/\(∀ f∈l.take i,f.1<n)/\out=l.take i)∨(done=true/\(∃ f∈l.take i,¬ f.1<n)/\out=fwith (l.take i) n v)
theorem ZaN {l:Fs} {i:Nat} {x:Bs×Bs} (h:l[i]? = some x):l.take (i+1)=l.take i++[x]:=by rw [List.take_add_one,h]; rfl
theorem Zlo {l:Fs} {n v:Bs} {i:Nat} {out:Fs} (h:Laid l n v i false out):out.length<=i:=by
 rcases h with ⟨_,_,h2⟩ | ⟨q,_⟩
 ·rw [h2,List.length_take]; omega
 ·cases q
theorem Zi9 {l:Fs} {n v m u:Bs} {i:Nat} {out:Fs} (h:Laid l n v i false out) (hx:l[i]? = some (m,u)) (hm:m<n):Laid l n v (i+1) false (out++[(m,u)]):=by
 rcases h with ⟨_,h1,h2⟩ | ⟨q,_⟩
 ·refine .inl ⟨rfl,?_,by rw [h2,ZaN hx]⟩;intro f hf;rw [ZaN hx] at hf
  rcases List.mem_append.1 hf with q | q
  ·exact h1 f q
  ·simp at q; rw [q]; exact hm
 ·cases q
theorem ZjY {l:Fs} {n v u:Bs} {i:Nat} {out:Fs} (h:Laid l n v i false out) (hx:l[i]? = some (n,u)):Laid l n v (i+1) true (out++[(n,v)]):=by
 rcases h with ⟨_,h1,h2⟩ | ⟨q,_⟩
 ·refine .inr ⟨rfl,⟨(n,u),by rw [ZaN hx]; simp,Zat _⟩,?_⟩;rw [h2,ZaN hx,Zb0 h1];simp [fwith,Zat]
 ·cases q
theorem Zjk {l:Fs} {n v m u:Bs} {i:Nat} {out:Fs} (h:Laid l n v i false out) (hx:l[i]? = some (m,u)) (hm:n<m):Laid l n v (i+1) true (out++[(n,v)]++[(m,u)]):=by
 rcases h with ⟨_,h1,h2⟩ | ⟨q,_⟩
 ·refine .inr ⟨rfl,⟨(m,u),by rw [ZaN hx]; simp,Zdh hm⟩,?_⟩;rw [h2,ZaN hx,Zb0 h1];simp [fwith,hm]
 ·cases q
theorem ZiS {l:Fs} (hr:Za4 l) {n v m u:Bs} {i:Nat} {out:Fs} (h:Laid l n v i true out) (hx:l[i]? = some (m,u)):n<m/\Laid l n v (i+1) true (out++[(m,u)]):=by
 rcases h with ⟨q,_⟩ | ⟨_,⟨f,hf,hn⟩,h2⟩
 ·cases q
 ·have hfm:f.1<m:=by
   obtain ⟨j,hj,e⟩:=List.getElem_of_mem hf
   have hji:j<i:=by simp at hj; omega
   obtain ⟨hi,ei⟩:=List.getElem?_eq_some_iff.1 hx;have:=List.pairwise_iff_getElem.1 hr j i (by omega) hi hji;rw [ei] at this;rw [List.getElem_take] at e;rw [e] at this;exact this
  have hnm:n<m:=by
   rcases Zeu f.1 n with q | q | q
   ·exact absurd q hn
   ·rw [<- q]; exact hfm
   ·exact Zdq q hfm
  refine ⟨hnm,.inr ⟨rfl,⟨f,by rw [ZaN hx]; exact List.mem_append_left _ hf,hn⟩,?_⟩⟩;rw [ZaN hx,ZfN ⟨f,hf,hn⟩,h2]
theorem Zcn {ao:Option Addr} {L c:Nat} (l:Fs) (n v:Bs) (w:World) (h:RdG encF w ao l) (hL:l.length=L) (hl:L<=1000) (hr:Za4 l) :
  Calls Tryz.prog 176 #[.slice ao L c,.agg #[tx n,tx v]] w λ e w'=>∃ u,e=.returned u/\OwnG encF 127 w' w.heap.size u (fwith l n v)/\Below w.heap.size w w':=by
 have H:Hid (RdG encF w ao l/\l.length=L/\Za4 l):=⟨h,hL,hr⟩
 clear h hL hr
 obtain ⟨W,hW⟩:∃ W,w.alloc (.cells #[tx n,tx v] 127)=W:=⟨_,rfl⟩
 have HW:Hid (Below w.heap.size w W/\W.cell? ⟨w.heap.size,0,none⟩=some (tx n)/\W.cell? ⟨w.heap.size,1,none⟩=some (tx v)/\w.heap.size<W.heap.size):=by rw [<- hW]; exact ⟨bz1 _ _,by simp,by simp,by simp⟩
 go_enter Tryz.func176,Tryz.ntmps176;go_wp2_with fail;go_loopg [5,6,7] L (λ k lv dv iv wr=>∃ (i:Nat) (dn:Bool) (out:Fs),iv=.int .i64 i/\i+k=L/\dv=.bool dn/\Hid (Laid l n v i dn out/\out.length<=i+1/\OwnG encF 127 wr W.heap.size lv out/\Below W.heap.size W wr))
 case atStart=>exact ⟨0,false,[],rfl,by omega,rfl,.inl ⟨rfl,by simp,by simp⟩,by simp,OwnG.nil _ _ _ _,Below.refl _ _⟩
 case round =>
  obtain ⟨i,dn,out,rfl,hi,rfl,HR⟩:=hrel;have B0:=HW.out.1.trans (HR.out.2.2.2.mono HW.out.1.size);have k0:=(HR.out.2.2.2.cell (p:=⟨w.heap.size,0,none⟩) HW.out.2.2.2).trans HW.out.2.1;have k1:=(HR.out.2.2.2.cell (p:=⟨w.heap.size,1,none⟩) HW.out.2.2.2).trans HW.out.2.2.1;by_cases hin:i<L
  ·have id:(i:Int)<(L:Int):=by omega
   obtain ⟨m,u,hm⟩:=Zi7 H.out.2.1 hin;have R:=H.out.1.below B0;obtain ⟨b1,o1,rfl,hlt⟩:=R.some_of hm;obtain ⟨cc,cd⟩:=R.files hm;have X:Hid (l[i]? = some (m,u)):=hm;clear R hm B0;have G:Hid (Laid l n v i dn out/\out.length<=i+1/\OwnG encF 127 wr W.heap.size u5 out/\Below W.heap.size W wr):=HR;clear HR;have sz:W.heap.size<=wr.heap.size:=G.out.2.2.2.size
   cases dn with
   | false =>
    rcases Zeu m n with hlt' | heq | hgt
    ·have q1:(Op.bytesLess n m||n==m)=false:=by
      rw [Go.Proofs.bytesLess_eq,decide_eq_false (Zdh hlt'),Bool.false_or,beq_eq_false_iff_ne];intro e; rw [e] at hlt'; exact Zat _ hlt'
     have q2:(!n==m)=true:=by
      have:(n==m)=false:=by rw [beq_eq_false_iff_ne]; intro e; rw [e] at hlt'; exact Zat _ hlt'
      rw [this]; rfl
     have Q:Hid (m<n):=hlt';clear hlt';go_wp2_with fail;go_quiet (fail);go_wp2_with fail;go_quiet (fail);go_wp2_with (at_builtin; (refine Zak encF 127 26 32 _ rfl ZcE Tryz.underlying26 rfl (.tmp 38) (.tmp 43) rfl W.heap.size _ out (m,u) 127 (by rfl) (G.out.2.2.1.below (below_drewN (Below.refl _ _) _)) (by rfl) (by have:=G.out.2.1; omega) (by have:=G.out.2.1; simp only [maxLen]; omega) sz _ rfl ?_; intro v2 w2 O2 B2 _ _));go_wp2;go_roundg (gk - 1)
     all_goals first
      | omega
      | exact ⟨i+1,false,_,by go_num,by omega,rfl,Zi9 G.out.1 X.out Q.out,by have:=G.out.2.1; simp; omega,O2,(below_drewN G.out.2.2.2 _).trans B2⟩
    ·subst heq
     have q1:(Op.bytesLess m m||m==m)=true:=by simp
     have q2:(!m==m)=false:=by simp
     go_wp2_with fail;go_quiet (fail);go_wp2_with (at_builtin; (refine Zak encF 127 26 32 _ rfl ZcE Tryz.underlying26 rfl (.tmp 26) (.tmp 28) rfl W.heap.size _ out (m,v) 127 (by rfl) (G.out.2.2.1.below (below_drewN (Below.refl _ _) _)) (by rfl) (by have:=G.out.2.1; omega) (by have:=G.out.2.1; simp only [maxLen]; omega) sz _ rfl ?_; intro v2 w2 O2 B2 _ _))
     have C:Hid (OwnG encF 127 w2 W.heap.size v2 (out++[(m,v)])/\Below W.heap.size W w2):=⟨O2,(below_drewN G.out.2.2.2 _).trans B2⟩
     have k0:=(C.out.2.cell (p:=⟨w.heap.size,0,none⟩) HW.out.2.2.2).trans HW.out.2.1;have R:=H.out.1.below (HW.out.1.trans (C.out.2.mono HW.out.1.size));have cc:=(R.files X.out).1;clear O2 B2 R;go_wp2_with fail;go_quiet (fail);go_wp2;go_roundg (gk - 1)
     all_goals first
      | omega
      | exact ⟨i+1,true,_,by go_num,by omega,rfl,ZjY G.out.1 X.out,by have:=G.out.2.1; simp; omega,C.out.1.below (below_drewN (Below.refl _ _) _),below_drewN C.out.2 _⟩
    ·have hne:(n==m)=false:=by rw [beq_eq_false_iff_ne]; intro e; rw [e] at hgt; exact Zat _ hgt
     have q1:(Op.bytesLess n m||n==m)=true:=by
      rw [Go.Proofs.bytesLess_eq,decide_eq_true hgt]; rfl
     have q2:(!n==m)=true:=by rw [hne]; rfl
     have Q:Hid (n<m):=hgt;clear hgt hne;go_wp2_with fail;go_quiet (fail);go_wp2_with (at_builtin; (refine Zak encF 127 26 32 _ rfl ZcE Tryz.underlying26 rfl (.tmp 26) (.tmp 28) rfl W.heap.size _ out (n,v) 127 (by rfl) (G.out.2.2.1.below (below_drewN (Below.refl _ _) _)) (by rfl) (by have:=G.out.2.1; omega) (by have:=G.out.2.1; simp only [maxLen]; omega) sz _ rfl ?_; intro v2 w2 O2 B2 _ _))
     have C:Hid (OwnG encF 127 w2 W.heap.size v2 (out++[(n,v)])/\Below W.heap.size W w2):=⟨O2,(below_drewN G.out.2.2.2 _).trans B2⟩
     have k0:=(C.out.2.cell (p:=⟨w.heap.size,0,none⟩) HW.out.2.2.2).trans HW.out.2.1;have R:=H.out.1.below (HW.out.1.trans (C.out.2.mono HW.out.1.size));obtain ⟨cc,cd⟩:=R.files X.out;have sz2:W.heap.size<=w2.heap.size:=C.out.2.size;clear O2 B2 R;go_wp2_with fail;go_quiet (fail);go_wp2_with (at_builtin; (refine Zak encF 127 26 32 _ rfl ZcE Tryz.underlying26 rfl (.tmp 38) (.tmp 43) rfl W.heap.size _ (out++[(n,v)]) (m,u) 127 (by rfl) (C.out.1.below (below_drewN (Below.refl _ _) _)) (by rfl) (by have:=G.out.2.1; simp; omega) (by have:=G.out.2.1; simp [maxLen]; omega) sz2 _ rfl ?_; intro v3 w3 O3 B3 _ _));go_wp2;go_roundg (gk - 1)
     all_goals first
      | omega
      | exact ⟨i+1,true,_,by go_num,by omega,rfl,Zjk G.out.1 X.out Q.out,by have:=Zlo G.out.1; simp; omega,O3,(below_drewN C.out.2 _).trans B3⟩
   | true =>
    have D:=ZiS H.out.2.2 G.out.1 X.out
    have hne:(n==m)=false:=by rw [beq_eq_false_iff_ne]; intro e; have:=D.1; rw [e] at this; exact Zat _ this
    have q2:(!n==m)=true:=by rw [hne]; rfl
    have DD:Hid (Laid l n v (i+1) true (out++[(m,u)])):=D.2;clear D hne;go_wp2_with fail;go_quiet (fail);go_wp2_with fail;go_quiet (fail);go_wp2_with (at_builtin; (refine Zak encF 127 26 32 _ rfl ZcE Tryz.underlying26 rfl (.tmp 38) (.tmp 43) rfl W.heap.size _ out (m,u) 127 (by rfl) (G.out.2.2.1.below (below_drewN (Below.refl _ _) _)) (by rfl) (by have:=G.out.2.1; omega) (by have:=G.out.2.1; simp only [maxLen]; omega) sz _ rfl ?_; intro v2 w2 O2 B2 _ _));go_wp2;go_roundg (gk - 1)
    all_goals first
     | omega
     | exact ⟨i+1,true,_,by go_num,by omega,rfl,DD.out,by have:=G.out.2.1; simp; omega,O2,(below_drewN G.out.2.2.2 _).trans B2⟩
  ·obtain rfl:i=L:=by omega
   have e0:l.take i=l:=List.take_of_length_le (by rw [H.out.2.1]; exact Nat.le_refl _);have hLa:=HR.out.1;unfold Laid at hLa;rw [e0] at hLa
   have G:Hid (OwnG encF 127 wr W.heap.size u5 out/\Below W.heap.size W wr/\out.length<=i+1):=⟨HR.out.2.2.1,HR.out.2.2.2,HR.out.2.1⟩
   have sz:W.heap.size<=wr.heap.size:=G.out.2.1.size;have LH:Hid _:=hLa;clear HR hLa
   cases dn with
   | false =>
    have hf:fwith l n v=out++[(n,v)]:=by
     rcases LH.out with ⟨_,h1,h2⟩ | ⟨q,_⟩
     ·have:=Zb0 (v:=v) (b:=[]) h1;rw [List.append_nil] at this;rw [this,h2]; rfl
     ·cases q
    clear LH;go_wp2_with (at_builtin; (refine Zak encF 127 26 32 _ rfl ZcE Tryz.underlying26 rfl (.tmp 47) (.tmp 49) rfl W.heap.size _ out (n,v) 127 rfl G.out.1 rfl (by have:=G.out.2.2; omega) (by have:=G.out.2.2; simp only [maxLen]; omega) sz _ rfl ?_; intro v2 w2 O2 B2 _ _));go_wp2;go_ret;rw [hf];exact ⟨_,rfl,OwnG.low O2 HW.out.1.size,HW.out.1.trans ((G.out.2.1.trans B2).mono HW.out.1.size)⟩
   | true =>
    have hf:fwith l n v=out:=by
     rcases LH.out with ⟨q,_⟩ | ⟨_,_,h2⟩
     ·cases q
     ·exact h2.symm
    clear LH;go_wp2;go_ret;rw [hf];exact ⟨_,rfl,OwnG.low G.out.1 HW.out.1.size,HW.out.1.trans (G.out.2.1.mono HW.out.1.size)⟩
end Go.Proofs.YtmhcpbbiokpjjaaGreat
