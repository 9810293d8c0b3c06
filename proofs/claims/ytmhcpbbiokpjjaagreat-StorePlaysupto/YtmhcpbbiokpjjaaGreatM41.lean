/-
  Several texts, laid together.
-/
import Derived.Test.YtmhcpbbiokpjjaaGreatM40
import Derived.Test.YtmhcpbbiokpjjaaGreatM38
set_option maxHeartbeats 6400000
set_option maxRecDepth 100000
namespace Go.Proofs.YtmhcpbbiokpjjaaGreat
open Go.RowKit
def ZbH (l:List UInt64):Prop:=l.Pairwise (λ a b=>a<b)
theorem Zem (a:UInt64):¬ a<a:=by rw [UInt64.lt_iff_toNat_lt]; omega
theorem ZiR {a b c:UInt64} (h:a<b) (k:b<c):a<c:=by rw [UInt64.lt_iff_toNat_lt] at *; omega
theorem ZnM {a b c:UInt64} (h:a<=b) (k:b<c):a<c:=by rw [UInt64.lt_iff_toNat_lt] at *; rw [UInt64.le_iff_toNat_le] at h; omega
theorem ZbH.snoc {l:List UInt64} {x:UInt64} (h:ZbH l) (hx:∀ y∈l,y<x):ZbH (l++[x]):=by
 refine List.pairwise_append.2 ⟨h,by simp,λ a ha b hb=>?_⟩;rw [List.mem_singleton] at hb;rw [hb];exact hx a ha
theorem ZbH.nodup {l:List UInt64} (h:ZbH l):l.Nodup:=h.imp (λ {a b} q e=>by rw [e] at q; exact Zem _ q)
theorem ZbH.ris {l:List UInt64} (h:ZbH l):risU l=l:=by
 refine List.mergeSort_of_pairwise (h.imp ?_);intro a b q;rw [decide_eq_true_eq,UInt64.le_iff_toNat_le];rw [UInt64.lt_iff_toNat_lt] at q;omega
structure UW (l:List UInt64) (x:UInt64) (i:Nat) (out:List UInt64) (done:Bool):Prop where
 rise:ZbH out
 yes:done=true->(∀ y,y∈out↔y∈l.take i∨y=x)/\∃ z∈l.take i,x<=z
 no:done=false->out=l.take i/\∀ y∈l.take i,y<x
 len:out.length<=i+1
theorem UW.start (l:List UInt64) (x:UInt64):UW l x 0 [] false:=⟨List.Pairwise.nil,λ q=>(by cases q),λ _=>⟨by simp,λ _ q=>(by simp at q)⟩,by simp⟩
section
variable {l:List UInt64} {x y:UInt64} {i:Nat} {out:List UInt64}
theorem ZaM {l:List UInt64} {i:Nat} {y:UInt64} (h:l[i]? = some y):l.take (i+1)=l.take i++[y]:=by
 obtain ⟨q,e⟩:=List.getElem?_eq_some_iff.1 h;rw [List.take_succ_eq_append_getElem q,e]
theorem Zgi (hl:ZbH l) (h:l[i]? = some y):∀ z∈l.take i,z<y:=by
 intro z hz;obtain ⟨j,hj,e⟩:=List.getElem_of_mem hz;obtain ⟨q,e2⟩:=List.getElem?_eq_some_iff.1 h;rw [List.length_take] at hj;rw [List.getElem_take] at e;rw [<- e,<- e2];exact List.pairwise_iff_getElem.1 hl j i (by omega) q (by omega)
theorem UW.less (hl:ZbH l) (h:UW l x i out false) (hy:l[i]? = some y) (hxy:y<x):UW l x (i+1) (out++[y]) false:=by
 obtain ⟨e,k⟩:=h.no rfl;refine ⟨?_,λ q=>(by cases q),λ _=>⟨by rw [ZaM hy,e],λ z hz=>?_⟩,by have:=h.len; simp; omega⟩
 ·refine h.rise.snoc ?_;rw [e];exact Zgi hl hy
 ·rw [ZaM hy] at hz
  rcases List.mem_append.1 hz with r | r
  ·exact k z r
  ·rw [List.mem_singleton] at r;rw [r];exact hxy
theorem UW.same (_hl:ZbH l) (h:UW l x i out false) (hy:l[i]? = some x):UW l x (i+1) (out++[x]) true:=by
 obtain ⟨e,k⟩:=h.no rfl;refine ⟨?_,λ _=>⟨λ z=>?_,x,?_,by rw [UInt64.le_iff_toNat_le]; omega⟩,λ q=>(by cases q),by have:=h.len; simp; omega⟩
 ·refine h.rise.snoc ?_;rw [e];exact k
 ·rw [ZaM hy,e];simp
 ·rw [ZaM hy];simp
theorem UW.more (_hl:ZbH l) (h:UW l x i out false) (hy:l[i]? = some y) (hxy:x<y):UW l x (i+1) (out++[x]++[y]) true:=by
 obtain ⟨e,k⟩:=h.no rfl
 have hr:ZbH (out++[x]):=by
  refine h.rise.snoc ?_;rw [e];exact k
 have hlen:out.length<=i:=by rw [e,List.length_take]; omega
 refine ⟨hr.snoc (λ z hz=>?_),λ _=>⟨λ z=>?_,y,?_,?_⟩,λ q=>(by cases q),by simp; omega⟩
 ·rcases List.mem_append.1 hz with r | r
  ·rw [e] at r;exact ZiR (k z r) hxy
  ·rw [List.mem_singleton] at r;rw [r];exact hxy
 ·rw [ZaM hy,e];simp only [List.mem_append,List.mem_singleton]
  constructor
  ·rintro ((r | r) | r)
   ·exact .inl (.inl r)
   ·exact .inr r
   ·exact .inl (.inr r)
  ·rintro ((r | r) | r)
   ·exact .inl (.inl r)
   ·exact .inr r
   ·exact .inl (.inr r)
 ·rw [ZaM hy];simp
 ·rw [UInt64.le_iff_toNat_le];rw [UInt64.lt_iff_toNat_lt] at hxy;omega
theorem UW.next (hl:ZbH l) (h:UW l x i out true) (hy:l[i]? = some y):x≠y/\UW l x (i+1) (out++[y]) true:=by
 obtain ⟨k,z0,hz0,hxz⟩:=h.yes rfl;have hxy:x<y:=ZnM hxz (Zgi hl hy z0 hz0);refine ⟨λ e=>by rw [e] at hxy; exact Zem _ hxy,h.rise.snoc (λ z hz=>?_),λ _=>⟨λ z=>?_,z0,?_,hxz⟩,λ q=>(by cases q),by have:=h.len; simp; omega⟩
 ·rcases (k z).1 hz with r | r
  ·exact Zgi hl hy z r
  ·rw [r]; exact hxy
 ·rw [ZaM hy];simp only [List.mem_append,List.mem_singleton,k]
  constructor
  ·rintro ((r | r) | r)
   ·exact .inl (.inl r)
   ·exact .inr r
   ·exact .inl (.inr r)
  ·rintro ((r | r) | r)
   ·exact .inl (.inl r)
   ·exact .inr r
   ·exact .inl (.inr r)
 ·rw [ZaM hy];exact List.mem_append_left _ hz0
end
def Zm1 (l:List UInt64) (x:UInt64) (l':List UInt64):Prop:=ZbH l'/\(∀ y,y∈l'↔y∈l∨y=x)/\l'.length<=l.length+1
theorem UW.end_ {l:List UInt64} {x:UInt64} {out:List UInt64} {g:Bool} (h:UW l x l.length out g):Zm1 l x (if g then out else out++[x]):=by
 have ht:l.take l.length=l:=List.take_length
 cases g with
 | true =>
  obtain ⟨k,_⟩:=h.yes rfl;rw [ht] at k;exact ⟨h.rise,k,h.len⟩
 | false =>
  obtain ⟨e,k⟩:=h.no rfl;rw [ht] at e k;refine ⟨h.rise.snoc (by rw [e]; exact k),λ y=>by rw [e]; simp,by rw [e]; simp⟩
theorem infoU:(Tryz.prog.info? 52).map (λ i=>(i.zero,i.size,i.bytes))=some (some (.int .u64 0),1,8):=by kernel_rfl
theorem ZhI {u:World} {b off i:Nat} {l:List UInt64} {y:UInt64} {yi:Int} (h:RdG encU u (some ⟨b,off,none⟩) l) (hy:Hid (l[i]? = some y/\(y.toNat:Int)=yi)):u.cell? ⟨b,off+i,none⟩=some (.int .u64 yi):=by
 have:=(h.nums hy.out.1).2;rw [hy.out.2] at this;exact this
theorem Znn {w:World} {a:Option Addr} {L c:Nat} {l:List UInt64} (h:RdG encU w a l) (hl:l.length=L) (hL:L<=1000000) (hr:ZbH l) (x:UInt64) :
  Calls Tryz.prog 85 #[.slice a L c,.int .u64 (x.toNat:Int)] w λ e w'=>∃ a' n' c',e=.returned (.slice a' n' c')/\Hid (∃ l',Zm1 l x l'/\OwnG encU 52 w' w.heap.size (.slice a' n' c') l'/\Below w.heap.size w w'):=by
 have H:Hid (RdG encU w a l/\l.length=L/\ZbH l):=⟨h,hl,hr⟩
 obtain ⟨xi,hxi⟩:∃ xi:Int,(x.toNat:Int)=xi:=⟨_,rfl⟩
 have HX:Hid ((x.toNat:Int)=xi):=hxi;rw [hxi];clear h hl hr hxi;go_enter Tryz.func85,Tryz.ntmps85;go_wp2_with fail;go_loopg [5,6,7] L (λ m ov dv iv wr=>∃ (i:Nat) (oa:Option Addr) (on oc:Nat) (out:List UInt64) (g:Bool),iv=.int .i64 i/\i+m=L/\ov=.slice oa on oc/\dv=.bool g/\Hid (UW l x i out g/\OwnG encU 52 wr w.heap.size (.slice oa on oc) out/\Below w.heap.size w wr))
 case atStart=>exact ⟨0,none,0,0,[],false,rfl,by omega,rfl,rfl,UW.start l x,OwnG.nil _ _ _ _,Below.refl _ _⟩
 case round =>
  obtain ⟨i,oa,on,oc,out,g,rfl,hi,rfl,rfl,HR⟩:=hrel;have hob:=HR.out.1.len;by_cases hin:i<L
  ·have id:(i:Int)<(L:Int):=by omega
   obtain ⟨y,hy⟩:=Zaf H.out.2.1 hin;have hrw:RdG encU _ a l:=H.out.1.below HR.out.2.2;obtain ⟨b1,off,rfl,_⟩:=hrw.some_of hy;obtain ⟨_,c0⟩:=hrw.nums hy
   obtain ⟨yi,hyi⟩:∃ yi:Int,(y.toNat:Int)=yi:=⟨_,rfl⟩
   rw [hyi] at c0;have HY:=shidR (And.intro hy hyi);have O1:=HR.out.2.1;have B1:=HR.out.2.2
   have hl8:(out.length+1)*8<=140737488355328:=by omega
   have hlm:out.length+1<=maxLen:=by simp only [maxLen]; omega
   clear hyi hrw
   cases g with
   | true =>
    obtain ⟨hne,hU⟩:=HR.out.1.next H.out.2.2 hy
    have n1:¬ yi=xi:=λ q=>hne (UInt64.toNat_inj.1 (by have:=HX.out; have:=HY.out.2; omega))
    have n2:(yi != xi)=true:=by simpa using n1
    have n3:(yi==xi)=false:=by simpa using n1
    have HU:=shidR hU;clear hne hU hy;go_wp2_with (at_builtin; refine Zak encU 52 60 8 _ rfl infoU Tryz.underlying60 rfl (.tmp 34) (.tmp 39) rfl w.heap.size (.slice oa on oc) out y _ rfl O1 rfl hl8 hlm B1.size _ (by rw [show (encU.cells y).toArray=#[.int .u64 (y.toNat:Int)] from rfl,HY.out.2]) ?_; intro v4 w4 ho4 hb4 hm4 ht4);obtain ⟨a4,c4,rfl,_,_⟩:=ho4.whole rfl;go_wp2;go_roundg (gk - 1)
    case measure=>omega
    case rel=>exact ⟨i+1,_,_,_,out++[y],true,by go_num,by omega,rfl,rfl,HU.out,ho4,B1.trans hb4⟩
   | false =>
    by_cases h1:x<=y
    ·have z1:xi<=yi:=by have:=HX.out; have:=HY.out.2; rw [UInt64.le_iff_toNat_le] at h1; omega
     have z2:decide (xi<=yi)=true:=by simpa using z1
     by_cases h2:y=x
     ·subst h2
      obtain rfl:yi=xi:=by rw [<- HX.out,<- HY.out.2]
      have n2:(yi != yi)=false:=by simp
      have n3:(yi==yi)=true:=by simp
      have HU:=shidR (HR.out.1.same H.out.2.2 hy);clear hy;go_wp2_with (at_builtin; refine Zak encU 52 60 8 _ rfl infoU Tryz.underlying60 rfl (.tmp 24) (.tmp 26) rfl w.heap.size (.slice oa on oc) out y _ rfl O1 rfl hl8 hlm B1.size _ (by rw [show (encU.cells y).toArray=#[.int .u64 (y.toNat:Int)] from rfl,HY.out.2]) ?_; intro v4 w4 ho4 hb4 hm4 ht4; have c9:=ZhI (H.out.1.below (B1.trans hb4)) HY; clear c0);obtain ⟨a4,c4,rfl,_,_⟩:=ho4.whole rfl;go_wp2;go_roundg (gk - 1)
      case measure=>omega
      case rel=>exact ⟨i+1,_,_,_,out++[y],true,by go_num,by omega,rfl,rfl,HU.out,ho4,B1.trans hb4⟩
     ·have n1:¬ yi=xi:=λ q=>h2 (UInt64.toNat_inj.1 (by have:=HX.out; have:=HY.out.2; omega))
      have n2:(yi != xi)=true:=by simpa using n1
      have n3:(yi==xi)=false:=by simpa using n1
      have hlt:x<y:=by
       rw [UInt64.le_iff_toNat_le] at h1;rw [UInt64.lt_iff_toNat_lt]
       have:x.toNat≠y.toNat:=λ q=>h2 (UInt64.toNat_inj.1 q.symm)
       omega
      have HU:=shidR (HR.out.1.more H.out.2.2 hy hlt)
      have hl9:((out++[x]).length+1)*8<=140737488355328:=by simp; omega
      have hlm9:(out++[x]).length+1<=maxLen:=by simp only [maxLen]; simp; omega
      clear hy hlt
      go_wp2_with (first
       | (at_builtin; refine Zak encU 52 60 8 _ rfl infoU Tryz.underlying60 rfl (.tmp 34) (.tmp 39) rfl w.heap.size v4 (out++[x]) y _ rfl ho4 rfl hl9 hlm9 (B1.trans hb4).size _ (by rw [show (encU.cells y).toArray=#[.int .u64 (y.toNat:Int)] from rfl,HY.out.2]) ?_; intro v5 w5 ho5 hb5 hm5 ht5)
       | (at_builtin; refine Zak encU 52 60 8 _ rfl infoU Tryz.underlying60 rfl (.tmp 24) (.tmp 26) rfl w.heap.size (.slice oa on oc) out x _ rfl O1 rfl hl8 hlm B1.size _ (by rw [show (encU.cells x).toArray=#[.int .u64 (x.toNat:Int)] from rfl,HX.out]) ?_; intro v4 w4 ho4 hb4 hm4 ht4; have c9:=ZhI (H.out.1.below (B1.trans hb4)) HY; clear c0))
      obtain ⟨a5,c5,rfl,_,_⟩:=ho5.whole rfl;go_wp2;go_roundg (gk - 1)
      case measure=>omega
      case rel=>exact ⟨i+1,_,_,_,out++[x]++[y],true,by go_num,by omega,rfl,rfl,HU.out,ho5,(B1.trans hb4).trans hb5⟩
    ·have z1:¬ xi<=yi:=by have:=HX.out; have:=HY.out.2; rw [UInt64.le_iff_toNat_le] at h1; omega
     have z2:decide (xi<=yi)=false:=by simpa using z1
     have n1:¬ yi=xi:=by omega
     have n2:(yi != xi)=true:=by simpa using n1
     have n3:(yi==xi)=false:=by simpa using n1
     have hlt:y<x:=by
      rw [UInt64.le_iff_toNat_le] at h1;rw [UInt64.lt_iff_toNat_lt];omega
     have HU:=shidR (HR.out.1.less H.out.2.2 hy hlt);clear hy hlt;go_wp2_with (at_builtin; refine Zak encU 52 60 8 _ rfl infoU Tryz.underlying60 rfl (.tmp 34) (.tmp 39) rfl w.heap.size (.slice oa on oc) out y _ rfl O1 rfl hl8 hlm B1.size _ (by rw [show (encU.cells y).toArray=#[.int .u64 (y.toNat:Int)] from rfl,HY.out.2]) ?_; intro v4 w4 ho4 hb4 hm4 ht4);obtain ⟨a4,c4,rfl,_,_⟩:=ho4.whole rfl;go_wp2;go_roundg (gk - 1)
     case measure=>omega
     case rel=>exact ⟨i+1,_,_,_,out++[y],false,by go_num,by omega,rfl,rfl,HU.out,ho4,B1.trans hb4⟩
  ·have id:¬ (i:Int)<(L:Int):=by omega
   obtain rfl:i=L:=by omega
   have hU:=HR.out.1;rw [<- H.out.2.1] at hU;have hE:=UW.end_ hU;have O1:=HR.out.2.1;have B1:=HR.out.2.2
   have hl8:(out.length+1)*8<=140737488355328:=by omega
   have hlm:out.length+1<=maxLen:=by simp only [maxLen]; omega
   cases g with
   | true =>
    have FIN:=shidR hE;clear hU hE;go_wp2;go_ret;exact ⟨_,_,_,rfl,out,FIN.out,O1,B1⟩
   | false =>
    have FIN:=shidR hE;clear hU hE;go_wp2_with (at_builtin; refine Zak encU 52 60 8 _ rfl infoU Tryz.underlying60 rfl (.tmp 43) (.tmp 45) rfl w.heap.size (.slice oa on oc) out x _ rfl O1 rfl hl8 hlm B1.size _ (by rw [show (encU.cells x).toArray=#[.int .u64 (x.toNat:Int)] from rfl,HX.out]) ?_; intro v4 w4 ho4 hb4 hm4 ht4);obtain ⟨a4,c4,rfl,_,_⟩:=ho4.whole rfl;go_wp2;go_ret;exact ⟨_,_,_,rfl,out++[x],FIN.out,ho4,B1.trans hb4⟩
structure UC (l:List Ob) (i:Nat) (out:List UInt64):Prop where
 rise:ZbH out
 mem:∀ y,y∈out↔∃ o∈l.take i,o.kind=3/\o.id=y
 len:out.length<=i
theorem UC.skip {l:List Ob} {i:Nat} {out:List UInt64} {o:Ob} (h:UC l i out) (ho:l[i]? = some o) (hk:o.kind≠3):UC l (i+1) out:=by
 obtain ⟨q,e⟩:=List.getElem?_eq_some_iff.1 ho;refine ⟨h.rise,λ y=>?_,by have:=h.len; omega⟩;rw [h.mem,List.take_succ_eq_append_getElem q,e]
 constructor
 ·rintro ⟨z,hz,r⟩;exact ⟨z,List.mem_append_left _ hz,r⟩
 ·rintro ⟨z,hz,r⟩
  rcases List.mem_append.1 hz with r1 | r1
  ·exact ⟨z,r1,r⟩
  ·rw [List.mem_singleton] at r1;rw [r1] at r;exact absurd r.1 hk
theorem UC.take {l:List Ob} {i:Nat} {out out':List UInt64} {o:Ob} (h:UC l i out) (ho:l[i]? = some o) (hk:o.kind=3) (hw:Zm1 out o.id out'):UC l (i+1) out':=by
 obtain ⟨q,e⟩:=List.getElem?_eq_some_iff.1 ho;refine ⟨hw.1,λ y=>?_,by have:=h.len; have:=hw.2.2; omega⟩;rw [hw.2.1,h.mem,List.take_succ_eq_append_getElem q,e]
 constructor
 ·rintro (⟨z,hz,r⟩ | r)
  ·exact ⟨z,List.mem_append_left _ hz,r⟩
  ·exact ⟨o,by simp,hk,r.symm⟩
 ·rintro ⟨z,hz,r⟩
  rcases List.mem_append.1 hz with r1 | r1
  ·exact .inl ⟨z,r1,r⟩
  ·rw [List.mem_singleton] at r1;rw [r1] at r;exact .inr r.2.symm
theorem UC.end_ {st:St} {out:List UInt64} (h:UC st.objs st.objs.length out) (h1:st.objs.Pairwise (λ a b=>¬ (a.kind=b.kind/\a.id=b.id))):out=st.coms:=by
 rw [<- Zje h1 h.rise.nodup (λ x=>?_),h.rise.ris];rw [h.mem,List.take_length,<- ZhO];unfold St.coms;rw [Zfb,List.mem_map]
 constructor
 ·rintro ⟨o,ho,k,e⟩;exact ⟨o,List.mem_filter.2 ⟨ho,by simpa using k⟩,e⟩
 ·rintro ⟨o,ho,e⟩;rw [List.mem_filter] at ho;exact ⟨o,ho.1,by simpa using ho.2,e⟩
theorem ZfU {w:World} {d:Dk} {st:St} {oa:Option Addr} {on oc:Nat} {vf vr vt:Value} (h:RdG encO w oa st.objs) (hl:st.objs.length=on) (hn:on<=1000000) (h1:st.objs.Pairwise (λ a b=>¬ (a.kind=b.kind/\a.id=b.id))) :
  Calls Tryz.prog 62 #[rm d vf (.slice oa on oc) vr vt] w λ e w'=>∃ (a:Option Addr) (n c:Nat),e=.returned (.slice a n c)/\Hid (st.coms.length=n/\RdG encU w' a st.coms/\Below w.heap.size w w'):=by
 obtain ⟨W,hW⟩:∃ W,w.alloc (nineC d vf (.slice oa on oc) vr vt)=W:=⟨_,rfl⟩
 have bW:Below w.heap.size w W:=by rw [<- hW]; exact bz1 _ _
 have n9:Zbg W w.heap.size d vf (.slice oa on oc) vr vt:=by rw [<- hW]; exact Nine.new w _ _ _ _ _ _ _ _ _
 have HW:Hid (Below w.heap.size w W/\RdG encO W oa st.objs/\Zbg W w.heap.size d vf (.slice oa on oc) vr vt/\st.objs.length=on/\st.objs.Pairwise (λ a b=>¬ (a.kind=b.kind/\a.id=b.id))):=⟨bW,h.below bW,n9,hl,h1⟩
 have hsW:Hid (w.heap.size<W.heap.size):=n9.lt;clear h hl h1 bW n9;go_enter Tryz.func62,Tryz.ntmps62;go_wp2_with fail;go_loopg [3,4] on (λ m ov iv wr=>∃ (i:Nat) (ua:Option Addr) (un uc:Nat) (out:List UInt64),iv=.int .i64 i/\i+m=on/\ov=.slice ua un uc/\Hid (UC st.objs i out/\out.length=un/\RdG encU wr ua out/\Below W.heap.size W wr))
 case atStart=>exact ⟨0,none,0,0,[],rfl,by omega,rfl,⟨List.Pairwise.nil,λ y=>by simp,by simp⟩,rfl,RdG.nil _ _ _,Below.refl _ _⟩
 case round =>
  obtain ⟨i,ua,un,uc,out,rfl,hi,rfl,HR⟩:=hrel;have r9:=HW.out.2.2.1.below HR.out.2.2.2 HW.out.2.2.1.lt;obtain ⟨k0,k1,k2,k3,k4,k5,k6,k7,k8⟩:=r9.cells;clear k0 k1 k2 k3 k4 k5 k7 k8 r9;by_cases hin:i<on
  ·have id:(i:Int)<(on:Int):=by omega
   obtain ⟨o,ho⟩:=Zaf HW.out.2.2.2.1 hin;have hrw:=HW.out.2.1.below HR.out.2.2.2;obtain ⟨b1,off,rfl,_⟩:=hrw.some_of ho;obtain ⟨_,o0,o1,_⟩:=hrw.obs ho
   obtain ⟨ok,hok⟩:∃ ok,o.kind=ok:=⟨_,rfl⟩
   rw [hok] at o0;by_cases hk:ok=3
   ·have hwc:=Znn (c:=uc) HR.out.2.2.1 HR.out.2.1 (by have:=HR.out.1.len; have:=HR.out.2.1; omega) HR.out.1.rise o.id;have HO:=shidR (And.intro ho (hok.trans hk))
    obtain ⟨xi,hxi⟩:∃ xi:Int,(o.id.toNat:Int)=xi:=⟨_,rfl⟩
    rw [hxi] at o1 hwc;subst hk;clear hrw hok ho hxi;go_wp2_with fail;refine hwc.mono ?_;rintro e w2 ⟨a2,n2,c2,rfl,J⟩;obtain ⟨l2,j1,j2,j3⟩:=J.out;have N2:=shidR (And.intro (HR.out.1.take HO.out.1 HO.out.2 j1) (And.intro (ZaF j2) (And.intro j2.rdc.1 (HR.out.2.2.2.trans (j3.mono HR.out.2.2.2.size)))));clear hwc J o0 o1 k6 j1 j2 j3;go_wp2;go_roundg (gk - 1)
    case measure=>omega
    case rel=>exact ⟨i+1,_,_,_,l2,by go_num,by omega,rfl,N2.out⟩
   ·have kb:(ok==3)=false:=by simpa using hk
    have N2:=shidR (HR.out.1.skip ho (by rw [hok]; exact hk));clear hrw hok ho o1;go_wp2;go_roundg (gk - 1)
    case measure=>omega
    case rel=>exact ⟨i+1,_,_,_,out,by go_num,by omega,rfl,N2.out,HR.out.2⟩
  ·have id:¬ (i:Int)<(on:Int):=by omega
   obtain rfl:i=on:=by omega
   have hU:=HR.out.1;rw [<- HW.out.2.2.2.1] at hU;have e1:=hU.end_ HW.out.2.2.2.2;subst e1;have FIN:=shidR (And.intro HR.out.2.1 (And.intro HR.out.2.2.1 (HW.out.1.trans (HR.out.2.2.2.mono HW.out.1.size))));clear HR hU;go_wp2;go_ret;exact ⟨_,_,⟨_,rfl⟩,FIN⟩
theorem ZiF (st:St) (d:Dk) (k:Int) (b:Bs) (h4:k≠4) (h5:k≠5) :
  (oget st.objs k (oid k b)=some b/\sput st d k b=((st,d),oid k b,0)) ∨
  (∃ e,e≠0/\(sput st d k b).2.2=e/\(sput st d k b).1.1=st/\((sput st d k b).1.2=d∨(sput st d k b).1.2=(dapp d fileN (fseal (k,b)).1).1)) ∨
  (oget st.objs k (oid k b)=none/\sput st d k b=(({ st with objs:=st.objs++[⟨k,oid k b,b⟩] },(dapp d fileN (fseal (k,b)).1).1),oid k b,0)):=by
 cases e:oget st.objs k (oid k b) with
 | some old =>
  by_cases ho:old=b
  ·subst ho
   left
   refine ⟨rfl,?_⟩;unfold sput;rw [e];simp
  ·right; left
   refine ⟨13,by decide,?_⟩;unfold sput;rw [e];simp [ho]
 | none =>
  by_cases h0:oid k b=0
  ·right; left
   refine ⟨13,by decide,?_⟩;unfold sput;rw [e];simp [h0]
  ·by_cases hc:(dapp d fileN (fseal (k,b)).1).2=0
   ·right; right
    refine ⟨rfl,?_⟩;unfold sput;rw [e];simp only [h0,if_false];unfold sapp;simp only [hc,if_true];unfold St.take;simp [h4,h5]
   ·right; left
    refine ⟨(dapp d fileN (fseal (k,b)).1).2,hc,?_⟩;unfold sput;rw [e];simp only [h0,if_false];unfold sapp;simp [hc]
theorem ZgU {st:St} {k:Int} {i:UInt64}:st.has k i=true↔∃ b,oget st.objs k i=some b:=by
 unfold St.has;rw [Option.isSome_iff_exists]
structure More (st st':St) (d d':Dk):Prop where
 size:st'.size<=st.size+1
 writes:d'.writes<=d.writes+1
 ok:d.ok->d'.ok
theorem More.same (st:St) (d:Dk):More st st d d:=⟨by omega,by omega,λ h=>h⟩
theorem ZdW (st:St) (d:Dk) (k:Int) (b:Bs) (h4:k≠4) (h5:k≠5):More st (sput st d k b).1.1 d (sput st d k b).1.2:=by
 have wr:(dapp d fileN (fseal (k,b)).1).1.writes<=d.writes+1:=ZiQ _ _ _ _
 rcases ZiF st d k b h4 h5 with ⟨_,e⟩ | ⟨_,_,_,e,e2 | e2⟩ | ⟨_,e⟩
 ·rw [e]; exact More.same _ _
 ·rw [e,e2]; exact More.same _ _
 ·rw [e,e2]; exact ⟨by omega,wr,λ h=>Zeq h _ _⟩
 ·rw [e];refine ⟨?_,wr,λ h=>Zeq h _ _⟩;unfold St.size;simp;omega
theorem Zin (st:St) (d:Dk) (b:Bs):More st (sblob st d b).1.1 d (sblob st d b).1.2:=by
 unfold sblob
 split
 ·exact More.same _ _
 ·exact ZdW st d 1 b (by decide) (by decide)
theorem Zif (st:St) (d:Dk) (es:List En):More st (stree st d es).1.1 d (stree st d es).1.2:=by
 unfold stree
 split
 ·exact More.same _ _
 ·split
  ·exact More.same _ _
  ·exact ZdW st d 2 _ (by decide) (by decide)
theorem Zi5 (st:St) (d:Dk) (c:Cm):More st (scom st d c).1.1 d (scom st d c).1.2:=by
 unfold scom
 split
 ·exact More.same _ _
 ·split
  ·exact More.same _ _
  ·exact ZdW st d 3 _ (by decide) (by decide)
theorem Ze8 {st:St} {d:Dk} {f:Fr} (h:st.ok) (hf:st.fits f=true) (hl:f.2.length<=8192):(sapp st d f).1.ok:=by
 unfold sapp;simp only
 split
 ·exact ZkD h hf hl
 ·exact h
theorem Zds {st:St} {d:Dk} {f:Fr} (h:st.ok):More st (sapp st d f).1 d (sapp st d f).2.1:=by
 have wr:(dapp d fileN (fseal f).1).1.writes<=d.writes+1:=ZiQ _ _ _ _;refine ⟨?_,wr,λ q=>Zeq q _ _⟩;unfold sapp;simp only
 split
 ·exact ZfX h
 ·omega
theorem Zg1 {st:St} {d:Dk} {k:Int} {b:Bs} (h:st.ok) (hk:k=1∨k=2∨k=3) (hr:st.right (k,b)=true) (hl:b.length<=8192):(sput st d k b).1.1.ok:=by
 unfold sput
 cases e:oget st.objs k (oid k b) with
 | some old =>
  simp only
  split <;> exact h
 | none =>
  simp only
  split
  ·exact h
  ·rename_i h0
   refine Ze8 h ?_ hl;unfold St.fits;rw [if_neg (by show ¬ (k=4∨k=5); omega),hr]
   have hh:st.has k (oid k b)=false:=by
    unfold St.has;rw [e]
    rfl
   simp [h0,hh]
theorem Zlt {st:St} {d:Dk} {b:Bs} (h:st.ok):(sblob st d b).1.1.ok:=by
 unfold sblob
 split
 ·exact h
 ·exact Zg1 h (.inl rfl) (by unfold St.right; rw [if_pos rfl]; simp; omega) (by omega)
theorem Zl0 {st:St} {d:Dk} {es:List En} (h:st.ok):(stree st d es).1.1.ok:=by
 unfold stree
 split
 ·exact h
 ·rename_i h1
  split
  ·exact h
  ·rename_i h2
   obtain ⟨c1,c2⟩:=ZcT (by simpa using h1);rw [c2];refine Zg1 h (.inr (.inl rfl)) ?_ (ZcN c1);unfold St.right;rw [if_neg (by show ¬ (2:Int)=1; omega),if_pos rfl];simp only [Zcr c1];simpa using h2
theorem Znb {st:St} {d:Dk} {c:Cm} (h:st.ok):(scom st d c).1.1.ok:=by
 unfold scom
 split
 ·exact h
 ·rename_i h1
  split
  ·exact h
  ·rename_i h2
   obtain ⟨c1,c2⟩:=ZdP (by simpa using h1);rw [c2]
   refine Zg1 h (.inr (.inr rfl)) ?_ (by
    have h3:=(Zb4 c1).2.1;have h4:=Za3 c1
    omega)
   unfold St.right;rw [if_neg (by show ¬ (3:Int)=1; omega),if_neg (by show ¬ (3:Int)=2; omega),if_pos rfl];simp only [Zdg c1];simpa using h2
theorem Zfe {st:St} {n:Bs} {i:UInt64} (hst:st.ok) (hin:isName n=true) (hg:st.has 3 i=true):st.fits (4,labB i n)=true:=by
 have hi0:i≠0:=by
  intro e;rw [e,Zdc hst] at hg;cases hg
 unfold St.fits;rw [if_pos (.inl rfl)];simp [Zbz,ZbC,Zaz,hin,hg,hi0]
theorem Zbo {n:Bs} (i:UInt64) (h:isName n=true):(labB i n).length<=8192:=by
 rw [Zaz];have:=Za7 h;omega
theorem ZjB {st:St} {d:Dk} {n:Bs} {i:UInt64} (h:st.ok):(sref st d n i).1.ok/\More st (sref st d n i).1 d (sref st d n i).2.1:=by
 unfold sref
 split
 ·exact ⟨h,More.same _ _⟩
 ·rename_i h1
  split
  ·exact ⟨h,More.same _ _⟩
  ·rename_i h2
   have h1':isName n=true:=by simpa using h1
   exact ⟨Ze8 h (Zfe h h1' (by simpa using h2)) (Zbo i h1'),Zds h⟩
theorem Zi2 {st:St} {d:Dk} {n:Bs} {i:UInt64} (h:st.ok):(stag st d n i).1.ok/\More st (stag st d n i).1 d (stag st d n i).2.1:=by
 unfold stag
 split
 ·exact ⟨h,More.same _ _⟩
 ·rename_i h1
  split
  ·exact ⟨h,More.same _ _⟩
  ·rename_i h2
   split
   ·exact ⟨h,More.same _ _⟩
   ·rename_i h3
    have h1':isName n=true:=by simpa using h1
    have h2':st.has 3 i=true:=by simpa using h2
    have h3':(nget st.tags n).isSome=false:=by simpa using h3
    refine ⟨Ze8 h ?_ (Zbo i h1'),Zds h⟩;unfold St.fits;rw [if_pos (.inr rfl)];simp [Zbz,ZbC,Zaz,h1',h2',h3']
theorem Zhh {st:St} {d:Dk} {n:Bs} (h:st.ok):(sdrop st d n).1.ok/\More st (sdrop st d n).1 d (sdrop st d n).2.1:=by
 unfold sdrop
 split
 ·exact ⟨h,More.same _ _⟩
 ·rename_i h1
  split
  ·exact ⟨h,More.same _ _⟩
  ·rename_i h2
   have h1':isName n=true:=by simpa using h1
   have h2':(nget st.refs n).isSome=true:=by
    cases q:(nget st.refs n).isSome with
    | true=>rfl
    | false=>exact absurd q h2
   refine ⟨Ze8 h ?_ (Zbo 0 h1'),Zds h⟩;unfold St.fits;rw [if_pos (.inl rfl)];simp [Zbz,ZbC,Zaz,h1',h2']
structure Wd where
 st:St
 d:Dk
 bl:List UInt64
 tl:List UInt64
 cl:List UInt64
structure Ac where
 k:Int
 data:Bs
 ps:List Bs
 qs:List Int
 nm:Bs
 dt:Int
def wstep (a:Ac) (v:Wd):Wd :=
 if a.k=0 then ⟨(sblob v.st v.d a.data).1.1,(sblob v.st v.d a.data).1.2,if (sblob v.st v.d a.data).2.2=0 then v.bl++[(sblob v.st v.d a.data).2.1] else v.bl,v.tl,v.cl⟩
 else if a.k=1 then ⟨(stree v.st v.d (aents a.ps a.qs v.bl)).1.1,(stree v.st v.d (aents a.ps a.qs v.bl)).1.2,v.bl,if (stree v.st v.d (aents a.ps a.qs v.bl)).2.2=0 then v.tl++[(stree v.st v.d (aents a.ps a.qs v.bl)).2.1] else v.tl,v.cl⟩
 else if a.k=2 then ⟨(scom v.st v.d (anode a.data a.qs a.dt v.tl v.cl)).1.1,(scom v.st v.d (anode a.data a.qs a.dt v.tl v.cl)).1.2,v.bl,v.tl,if (scom v.st v.d (anode a.data a.qs a.dt v.tl v.cl)).2.2=0 then v.cl++[(scom v.st v.d (anode a.data a.qs a.dt v.tl v.cl)).2.1] else v.cl⟩
 else if a.k=3 then ⟨(sref v.st v.d a.nm (pickU v.cl (pickI a.qs 0))).1,(sref v.st v.d a.nm (pickU v.cl (pickI a.qs 0))).2.1,v.bl,v.tl,v.cl⟩
 else if a.k=4 then ⟨(stag v.st v.d a.nm (pickU v.cl (pickI a.qs 0))).1,(stag v.st v.d a.nm (pickU v.cl (pickI a.qs 0))).2.1,v.bl,v.tl,v.cl⟩
 else if a.k=5 then ⟨(sdrop v.st v.d a.nm).1,(sdrop v.st v.d a.nm).2.1,v.bl,v.tl,v.cl⟩
 else v
structure Wd.fine (v:Wd) (n:Nat):Prop where
 st:v.st.ok
 d:v.d.ok
 writes:v.d.writes<=n
 size:v.st.size<=n
 bl:v.bl.length<=n
 tl:v.tl.length<=n
 cl:v.cl.length<=n
theorem ZeH {xs:List UInt64} {x:UInt64} {p:Prop} [Decidable p] {n:Nat} (h:xs.length<=n):(if p then xs++[x] else xs).length<=n+1:=by
 split
 ·simp; omega
 ·omega
theorem Wd.fine.more {v:Wd} {n:Nat} (h:v.fine n):v.fine (n+1):=⟨h.st,h.d,by have:=h.writes; omega,by have:=h.size; omega,by have:=h.bl; omega,by have:=h.tl; omega,by have:=h.cl; omega⟩
theorem Wd.fine.step {v:Wd} {n:Nat} (h:v.fine n) (a:Ac):(wstep a v).fine (n+1):=by
 have hb:=h.bl;have ht:=h.tl;have hc:=h.cl;have hw:=h.writes;have hs:=h.size
 have mk:∀ {st':St} {d':Dk},st'.ok->More v.st st' v.d d'->st'.ok/\d'.ok/\d'.writes<=n+1/\st'.size<=n+1:=by
  intro st' d' q m;exact ⟨q,m.ok h.d,by have:=m.writes; omega,by have:=m.size; omega⟩
 unfold wstep
 split
 ·obtain ⟨q1,q2,q3,q4⟩:=mk (Zlt h.st) (Zin v.st v.d a.data);exact ⟨q1,q2,q3,q4,ZeH hb,Nat.le_succ_of_le ht,Nat.le_succ_of_le hc⟩
 ·split
  ·obtain ⟨q1,q2,q3,q4⟩:=mk (Zl0 h.st) (Zif v.st v.d (aents a.ps a.qs v.bl));exact ⟨q1,q2,q3,q4,Nat.le_succ_of_le hb,ZeH ht,Nat.le_succ_of_le hc⟩
  ·split
   ·obtain ⟨q1,q2,q3,q4⟩:=mk (Znb h.st) (Zi5 v.st v.d (anode a.data a.qs a.dt v.tl v.cl));exact ⟨q1,q2,q3,q4,Nat.le_succ_of_le hb,Nat.le_succ_of_le ht,ZeH hc⟩
   ·split
    ·obtain ⟨q1,q2,q3,q4⟩:=mk (ZjB h.st).1 (ZjB h.st).2;exact ⟨q1,q2,q3,q4,Nat.le_succ_of_le hb,Nat.le_succ_of_le ht,Nat.le_succ_of_le hc⟩
    ·split
     ·obtain ⟨q1,q2,q3,q4⟩:=mk (Zi2 h.st).1 (Zi2 h.st).2;exact ⟨q1,q2,q3,q4,Nat.le_succ_of_le hb,Nat.le_succ_of_le ht,Nat.le_succ_of_le hc⟩
     ·split
      ·obtain ⟨q1,q2,q3,q4⟩:=mk (Zhh h.st).1 (Zhh h.st).2;exact ⟨q1,q2,q3,q4,Nat.le_succ_of_le hb,Nat.le_succ_of_le ht,Nat.le_succ_of_le hc⟩
      ·exact h.more
def Calm (d:Dk):Prop:=d.armed=false/\d.dead=false
theorem Zkt {d:Dk} (h:Calm d) (n own more:Bs):Calm (dlay d n own more).1/\((dlay d n own more).2≠0->(dlay d n own more).1=d):=by
 obtain ⟨ha,hd⟩:=h
 have e:dnext d=({ d with writes:=d.writes+1 },true,false):=by
  unfold dnext;rw [ha,hd];simp
 unfold dlay;rw [e];by_cases h1:isName n=false
 ·rw [if_pos h1]; exact ⟨⟨ha,hd⟩,λ _=>rfl⟩
 rw [if_neg h1];by_cases h2:262144<own.length+more.length∨(fget d.files n=none/\32<=d.files.length)
 ·rw [if_pos h2]; exact ⟨⟨ha,hd⟩,λ _=>rfl⟩
 rw [if_neg h2];exact ⟨⟨ha,hd⟩,λ q=>absurd rfl q⟩
section
variable {co:Array Value} {B R O:Nat} {w0 u u':World} {s b:Nat} {vf vo vr vt xb xt xc:Value} {U:Nat->Prop} {st:St} {d:Dk} {bl tl cl:List UInt64}
end
end Go.Proofs.YtmhcpbbiokpjjaaGreat
