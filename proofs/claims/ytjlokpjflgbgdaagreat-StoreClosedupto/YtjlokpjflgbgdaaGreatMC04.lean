/-
  Several texts, laid together.
-/
import Derived.Test.YtjlokpjflgbgdaaGreatMC03
import Derived.Maps.Ext
import Derived.Maps.OwnSet
import Derived.Maps.RangeWalk
import Derived.Sort.KeysCollected
set_option maxHeartbeats 6400000
set_option maxRecDepth 100000
namespace Go.Proofs.YtjlokpjflgbgdaaGreat
open Go.RowKit
theorem fits_kind {st:St} {f:Fr} (h:st.fits f=true):f.1=1∨f.1=2∨f.1=3∨f.1=4∨f.1=5:=by
 unfold St.fits at h
 split at h
 ·omega
 ·unfold St.right at h;by_cases k1:f.1=1
  ·omega
  by_cases k2:f.1=2
  ·omega
  by_cases k3:f.1=3
  ·omega
  rw [if_neg k1,if_neg k2,if_neg k3] at h;simp at h
theorem fits_obj {st:St} {f:Fr} (h:st.fits f=true) (hk:f.1=1∨f.1=2∨f.1=3):st.right f=true/\oid f.1 f.2≠0/\oget st.objs f.1 (oid f.1 f.2)=none:=by
 unfold St.fits at h;rw [if_neg (by omega)] at h;simp only [Bool.and_eq_true,Bool.not_eq_true',decide_eq_false_iff_not] at h;refine ⟨h.1.1,h.1.2,?_⟩;have:=h.2;unfold St.has at this;simpa using this
theorem fits_lab {st:St} {f:Fr} (h:st.fits f=true) (hk:f.1=4∨f.1=5):8<=f.2.length/\isName (labN f.2)=true/\(f.1=5->st.has 3 (labI f.2)=true/\(nget st.tags (labN f.2)).isSome=false)/\(f.1=4->labI f.2=0->(nget st.refs (labN f.2)).isSome=true)/\(f.1=4->labI f.2≠0->st.has 3 (labI f.2)=true):=by
 unfold St.fits at h;rw [if_pos hk] at h;simp only [Bool.and_eq_true,decide_eq_true_eq] at h;refine ⟨h.1.1,h.1.2,λ h5=>?_,λ h4 h0=>?_,λ h4 h0=>?_⟩
 ·have:=h.2;rw [if_pos h5] at this;simpa using this
 ·have:=h.2;rw [if_neg (by omega),if_pos h0] at this;exact this
 ·have:=h.2;rw [if_neg (by omega),if_neg h0] at this;exact this
theorem ok_take {st:St} (h:st.ok) {f:Fr} (hf:st.fits f=true) (hl:f.2.length<=8192):(st.take f).ok:=by
 rcases fits_kind hf with k | k | k | k | k
 case inr.inr.inr.inl =>
  have hlab:=fits_lab hf (.inl k);unfold St.take;rw [if_pos k];by_cases h0:labI f.2=0
  ·rw [if_pos h0];refine ⟨nrise_out _ h.refs,h.tags,h.one,h.ids,h.blob,h.tree,h.com,λ n i hn=>?_⟩;refine h.names n i ?_
   rcases hn with q | q
   ·have q:nget (nout st.refs (labN f.2)) n=some i:=q;rw [nget_out] at q
    split at q
    ·cases q
    ·exact .inl q
   ·exact .inr q
  ·rw [if_neg h0];refine ⟨nrise_with _ _ h.refs,h.tags,h.one,h.ids,h.blob,h.tree,h.com,λ n i hn=>?_⟩
   rcases hn with q | q
   ·have q:nget (nwith st.refs (labN f.2) (labI f.2)) n=some i:=q;rw [nget_with] at q
    split at q
    ·cases q;exact hlab.2.2.2.2 k h0
    ·exact h.names n i (.inl q)
   ·exact h.names n i (.inr q)
 case inr.inr.inr.inr =>
  have hlab:=fits_lab hf (.inr k);unfold St.take;rw [if_neg (by omega),if_pos k];refine ⟨h.refs,nrise_with _ _ h.tags,h.one,h.ids,h.blob,h.tree,h.com,λ n i hn=>?_⟩
  rcases hn with q | q
  ·exact h.names n i (.inl q)
  ·have q:nget (nwith st.tags (labN f.2) (labI f.2)) n=some i:=q;rw [nget_with] at q
   split at q
   ·cases q;exact (hlab.2.2.1 k).1
   ·exact h.names n i (.inr q)
 all_goals
  have hob:=fits_obj hf (by omega)
  have et:st.take f={ st with objs:=st.objs++[⟨f.1,oid f.1 f.2,f.2⟩] }:=by
   unfold St.take;rw [if_neg (by omega),if_neg (by omega)]
  rw [et];refine ⟨h.refs,h.tags,?_,?_,?_,?_,?_,λ n i hn=>has_snoc (h.names n i hn)⟩
  ·refine List.pairwise_append.2 ⟨h.one,List.pairwise_singleton _ _,λ x hx y hy=>?_⟩
   have hy:y=⟨f.1,oid f.1 f.2,f.2⟩:=by simpa using hy
   rw [hy];exact oget_none.1 hob.2.2 x hx
  ·intro o ho
   rcases List.mem_append.1 ho with q | q
   ·exact h.ids o q
   ·have q:o=⟨f.1,oid f.1 f.2,f.2⟩:=by simpa using q
    rw [q];exact ⟨rfl,hob.2.1,by show 1<=f.1; omega,by show f.1<=3; omega,hl⟩
  ·intro o ho hk
   rcases List.mem_append.1 ho with q | q
   ·exact h.blob o q hk
   ·have q:o=⟨f.1,oid f.1 f.2,f.2⟩:=by simpa using q
    rw [q] at hk ⊢;have hk:f.1=1:=hk;have:=hob.1;unfold St.right at this;rw [if_pos hk] at this;simpa using this
  ·intro o ho hk
   rcases List.mem_append.1 ho with q | q
   ·obtain ⟨es,h1,h2⟩:=h.tree o q hk;exact ⟨es,h1,blobs_snoc h2⟩
   ·have q:o=⟨f.1,oid f.1 f.2,f.2⟩:=by simpa using q
    rw [q] at hk ⊢;have hk:f.1=2:=hk;have:=hob.1;unfold St.right at this;rw [if_neg (by omega),if_pos hk] at this
    cases e:rdtree f.2 with
    | none=>rw [e] at this; cases this
    | some es=>rw [e] at this; exact ⟨es,rfl,blobs_snoc this⟩
  ·intro o ho hk
   rcases List.mem_append.1 ho with q | q
   ·obtain ⟨c,h1,h2⟩:=h.com o q hk;exact ⟨c,h1,above_snoc h2⟩
   ·have q:o=⟨f.1,oid f.1 f.2,f.2⟩:=by simpa using q
    rw [q] at hk ⊢;have hk:f.1=3:=hk;have:=hob.1;unfold St.right at this;rw [if_neg (by omega),if_neg (by omega),if_pos hk] at this
    cases e:rdcom f.2 with
    | none=>rw [e] at this; cases this
    | some c=>rw [e] at this; exact ⟨c,rfl,above_snoc this⟩
def St.size (st:St):Nat:=st.objs.length+st.refs.length+st.tags.length
theorem size_take {st:St} (h:st.ok) {f:Fr}:(st.take f).size<=st.size+1:=by
 unfold St.take St.size
 split
 ·show st.objs.length+(if labI f.2=0 then _ else _:List _).length+st.tags.length<=_
  split
  ·have:(nout st.refs (labN f.2)).length<=st.refs.length:=List.length_filter_le _ _;omega
  ·have:=nwith_len (labN f.2) (labI f.2) h.refs
   split at this <;> omega
 ·split
  ·have:=nwith_len (labN f.2) (labI f.2) h.tags;show st.objs.length+st.refs.length+(nwith st.tags (labN f.2) (labI f.2)).length<=_
   split at this <;> omega
  ·show (st.objs++[_]).length+_+_<=_;simp;omega
def sread (st:St) (b:Bs):St×Nat :=
 if _h0:b=[] then (st,0)
 else if _h:(fopen b).2.2=0/\st.fits (fopen b).1=true then ((sread (st.take (fopen b).1) (b.drop (fopen b).2.1)).1,(fopen b).2.1+(sread (st.take (fopen b).1) (b.drop (fopen b).2.1)).2)
 else (st,0)
termination_by b.length
decreasing_by
 all_goals
  have:=fopen_n _h.1
  have:0<b.length:=by
   rcases b with _ | _
   ·exact absurd rfl _h0
   ·simp
  simp only [List.length_drop];omega
theorem sread_nil (st:St):sread st []=(st,0):=by rw [sread]; simp
theorem sread_stop {st:St} {b:Bs} (h:¬ ((fopen b).2.2=0/\st.fits (fopen b).1=true)):sread st b=(st,0):=by
 by_cases h0:b=[]
 ·rw [h0,sread_nil]
 ·rw [sread,dif_neg h0,dif_neg h]
theorem sread_step {st:St} {b:Bs} (h0:0<b.length) (h:(fopen b).2.2=0/\st.fits (fopen b).1=true):sread st b=((sread (st.take (fopen b).1) (b.drop (fopen b).2.1)).1,(fopen b).2.1+(sread (st.take (fopen b).1) (b.drop (fopen b).2.1)).2):=by
 rw [sread,dif_neg (by intro e; rw [e] at h0; simp at h0),dif_pos h]
structure ReadAt (st0:St) (b:Bs) (st:St) (d:Nat):Prop where
 le:d<=b.length
 eq:sread st0 b=((sread st (b.drop d)).1,d+(sread st (b.drop d)).2)
 ok:st.ok
 size:st.size<=d
theorem ReadAt.start {st:St} (b:Bs) (h:st.ok) (hs:st.size=0):ReadAt st b st 0:=⟨Nat.zero_le _,by simp,h,by omega⟩
theorem ReadAt.step {s0 st:St} {b:Bs} {d:Nat} (h:ReadAt s0 b st d) (hd:d<b.length) (he:(fopen (b.drop d)).2.2=0) (hf:st.fits (fopen (b.drop d)).1=true) (hl:(fopen (b.drop d)).1.2.length<=8192):ReadAt s0 b (st.take (fopen (b.drop d)).1) (d+(fopen (b.drop d)).2.1):=by
 have hn:=fopen_n he;rw [List.length_drop] at hn;refine ⟨by omega,?_,ok_take h.ok hf hl,?_⟩
 ·rw [h.eq,sread_step (by rw [List.length_drop]; omega) ⟨he,hf⟩,List.drop_drop];simp [Nat.add_assoc]
 ·have:=size_take h.ok (f:=(fopen (b.drop d)).1);have:=h.size;omega
theorem ReadAt.stop {s0 st:St} {b:Bs} {d:Nat} (h:ReadAt s0 b st d) (hf:¬ ((fopen (b.drop d)).2.2=0/\st.fits (fopen (b.drop d)).1=true)):sread s0 b=(st,d):=by
 rw [h.eq,sread_stop hf];simp
theorem ReadAt.done {s0 st:St} {b:Bs} {d:Nat} (h:ReadAt s0 b st d) (hd:¬ d<b.length):sread s0 b=(st,d):=by
 have:b.drop d=[]:=List.drop_eq_nil_of_le (by omega);rw [h.eq,this,sread_nil];simp
theorem fopen_body {b:Bs} (h:(fopen b).2.2=0):(fopen b).1.2.length<=8192:=by
 obtain ⟨h1,h2,h3,h4,h5⟩:=fopen_ok h;rw [h5];show ((b.drop 5).take (val (b.take 4))).length<=_;rw [List.length_take];omega
theorem sread_all (s0:St) (b:Bs):∀ (n:Nat) (st:St) (d:Nat),b.length - d<=n->ReadAt s0 b st d->(sread s0 b).1.ok/\(sread s0 b).1.size<=(sread s0 b).2/\(sread s0 b).2<=b.length
 | n,st,d,hn,h=>by
  by_cases hd:d<b.length
  ·by_cases hf:(fopen (b.drop d)).2.2=0/\st.fits (fopen (b.drop d)).1=true
   ·have hs:=h.step hd hf.1 hf.2 (fopen_body hf.1);have h9:=fopen_n hf.1
    cases n with
    | zero=>omega
    | succ n=>exact sread_all s0 b n _ _ (by omega) hs
   ·rw [h.stop hf];exact ⟨h.ok,h.size,h.le⟩
  ·rw [h.done hd];exact ⟨h.ok,h.size,h.le⟩
theorem sread_ok {st:St} (b:Bs) (h:st.ok) (hs:st.size=0):(sread st b).1.ok/\(sread st b).1.size<=(sread st b).2/\(sread st b).2<=b.length:=sread_all st b _ st 0 (Nat.le_refl _) (ReadAt.start b h hs)
def ofile (d:Dk):Bs:=(fget d.files fileN).getD []
def sopen (d:Dk):St×Dk×Int :=
 if (sread st0 (ofile d)).2<(ofile d).length then
  (if (dtrim d fileN ((sread st0 (ofile d)).2:Int)).2=0 then (sread st0 (ofile d)).1 else st0,(dtrim d fileN ((sread st0 (ofile d)).2:Int)).1,(dtrim d fileN ((sread st0 (ofile d)).2:Int)).2)
 else ((sread st0 (ofile d)).1,d,0)
end Go.Proofs.YtjlokpjflgbgdaaGreat

namespace Go.Proofs.YtjlokpjflgbgdaaGreat
open Go.RowKit
def Box (w:World) (B:Nat) (t:TypeId) (x y:Value):Prop:=w.heap[B]? = some (.cells #[x,y] t (0,0))
section
variable {w w':World} {B:Nat} {t:TypeId} {x y:Value}
theorem Box.lt (h:Box w B t x y):B<w.heap.size:=(Array.getElem?_eq_some_iff.1 h).1
theorem Box.below (h:Box w B t x y) (hb:Below w.heap.size w w'):Box w' B t x y:=(hb.block B h.lt).trans h
theorem Box.turned {S:Nat->Prop} (h:Box w B t x y) (ht:Turned S w w') (hS:¬ S B):Box w' B t x y:=(ht.block B h.lt hS).trans h
theorem Box.cells (h:Box w B t x y):w.cell? ⟨B,0,none⟩=some x/\w.cell? ⟨B,1,none⟩=some y:=by
 unfold Box at h;simp [World.cell?,h]
theorem Box.thaw (h:Box w B t x y):w.frozen? ⟨B,0,none⟩=false/\w.frozen? ⟨B,1,none⟩=false:=by
 unfold Box at h;simp [World.frozen?,h]
theorem Box.new (w:World) (t:TypeId) (x y:Value):Box (w.alloc (.cells #[x,y] t)) w.heap.size t x y:=by
 unfold Box World.alloc;simp
theorem Box.put (h:Box w B t x y) (x' y':Value):Box ((w.setCell ⟨B,0,none⟩ x').setCell ⟨B,1,none⟩ y') B t x' y':=by
 unfold Box at h ⊢;simp [World.setCell,Array.getElem?_modify,h]
theorem Box.put0 (h:Box w B t x y) (x':Value):Box (w.setCell ⟨B,0,none⟩ x') B t x' y:=by
 unfold Box at h ⊢;simp [World.setCell,Array.getElem?_modify,h]
end
def Box4 (w:World) (B:Nat) (t:TypeId) (x y z v:Value):Prop:=w.heap[B]? = some (.cells #[x,y,z,v] t (0,0))
section
variable {w w':World} {B:Nat} {t:TypeId} {x y z v:Value}
theorem Box4.lt (h:Box4 w B t x y z v):B<w.heap.size:=(Array.getElem?_eq_some_iff.1 h).1
theorem Box4.below {K:Nat} (h:Box4 w B t x y z v) (hb:Below K w w') (hK:B<K):Box4 w' B t x y z v:=(hb.block B hK).trans h
theorem Box4.turned {S:Nat->Prop} (h:Box4 w B t x y z v) (ht:Turned S w w') (hS:¬ S B):Box4 w' B t x y z v:=(ht.block B h.lt hS).trans h
theorem Box4.cells (h:Box4 w B t x y z v):w.cell? ⟨B,0,none⟩=some x/\w.cell? ⟨B,1,none⟩=some y/\w.cell? ⟨B,2,none⟩=some z/\w.cell? ⟨B,3,none⟩=some v:=by
 unfold Box4 at h;simp [World.cell?,h]
theorem Box4.thaw (h:Box4 w B t x y z v):w.frozen? ⟨B,0,none⟩=false/\w.frozen? ⟨B,1,none⟩=false/\w.frozen? ⟨B,2,none⟩=false/\w.frozen? ⟨B,3,none⟩=false:=by
 unfold Box4 at h;simp [World.frozen?,h]
theorem Box4.new (w:World) (t:TypeId) (x y z v:Value):Box4 (w.alloc (.cells #[x,y,z,v] t)) w.heap.size t x y z v:=by
 unfold Box4 World.alloc;simp
theorem Box4.put1 (h:Box4 w B t x y z v) (y':Value):Box4 (w.setCell ⟨B,1,none⟩ y') B t x y' z v:=by
 unfold Box4 at h ⊢;simp [World.setCell,Array.getElem?_modify,h]
theorem Box4.put2 (h:Box4 w B t x y z v) (z':Value):Box4 (w.setCell ⟨B,2,none⟩ z') B t x y z' v:=by
 unfold Box4 at h ⊢;simp [World.setCell,Array.getElem?_modify,h]
theorem Box4.put3 (h:Box4 w B t x y z v) (v':Value):Box4 (w.setCell ⟨B,3,none⟩ v') B t x y z v':=by
 unfold Box4 at h ⊢;simp [World.setCell,Array.getElem?_modify,h]
end
theorem Turned.chain {w w1 w2:World} {v v1:Value} (h:Turned (λ k=>v.ownBlock=some k) w w1) (m:Moved w v v1) (k:Turned (λ k=>v1.ownBlock=some k) w1 w2):Turned (λ k=>v.ownBlock=some k) w w2 :=
 h.trans k (λ i hi q=>by
  rcases m with e | e
  ·rw [<- e]; exact q
  ·have:=e i q
   omega)
theorem Moved.refl (w:World) (v:Value):Moved w v v:=.inl rfl
theorem Moved.chain {w w1:World} {v v1 v2:Value} (h:Moved w v v1) (hs:w.heap.size<=w1.heap.size) (k:Moved w1 v1 v2):Moved w v v2:=by
 rcases k with e | e
 ·rcases h with f | f
  ·exact .inl (e.trans f)
  ·exact .inr (λ g hg=>f g (by rw [<- e]; exact hg))
 ·exact .inr (λ g hg=>Nat.le_trans hs (e g hg))
theorem BAt.turned {S:Nat->Prop} {w w':World} {a:Option Addr} {n c:Nat} {bs:Bs} (h:BAt w (.slice a n c) bs) (ht:Turned S w w') (hS:0<n->∀ p,a=some p->¬ S p.block):BAt w' (.slice a n c) bs:=by
 obtain ⟨ao,c',e,h1,h2,h3⟩:=h;cases e;exact ⟨a,c,rfl,h1,h2,h3.turned ht hS⟩
theorem turn_at {w:World} {R:Nat} (h:R<w.heap.size) {w':World} (ht:Turned (λ i=>i=R) w w'):Below R w w':=ht.below (Nat.le_of_lt h) (λ k hk q=>by have q':k=R:=q; omega)
theorem less_eq (x y:Bs):Op.bytesLess x y=decide (x<y):=by
 induction x generalizing y with
 | nil=>cases y <;> simp [Op.bytesLess]
 | cons a x ih =>
  cases y with
  | nil=>simp [Op.bytesLess]
  | cons b y =>
   rw [Op.bytesLess,ih y,Bool.eq_iff_iff]
   by_cases h1:a<b <;> by_cases h2:a=b <;> by_cases h3:x<y <;> simp [List.cons_lt_cons_iff,h1,h2,h3]
def encU:Enc UInt64:=⟨λ x=>[.int .u64 (x.toNat:Int)],1,λ _=>rfl,by decide,by intro x u h; simp at h; subst h; rfl⟩
theorem RdG.nums {w:World} {b off:Nat} {xs:List UInt64} (h:RdG encU w (some ⟨b,off,none⟩) xs) {i:Nat} {x:UInt64} (hx:xs[i]? = some x):b<w.heap.size/\w.cell? ⟨b,off+i,none⟩=some (.int .u64 (x.toNat:Int)):=by
 obtain ⟨b', off', e', hlt, hc⟩ := h (by rcases Nat.lt_or_ge i xs.length with q | q
                                         · omega
                                         · rw [List.getElem?_eq_none q] at hx; cases hx)
 obtain ⟨rfl,rfl⟩:b=b'/\off=off':=by simpa using e'
 have h0:=hc i x hx 0 _ rfl;exact ⟨hlt,by simpa [encU] using h0⟩
theorem anyE_step {α:Type} {es:List α} {p:α->Bool} {i:Nat} {e:α} (h:es[i]? = some e) (ht:(es.take i).any p=false) (hx:p e=false):(es.take (i+1)).any p=false:=by
 rw [List.take_add_one,h,List.any_append,ht];simp [hx]
theorem anyE_hit {α:Type} {es:List α} {p:α->Bool} {i:Nat} {e:α} (h:es[i]? = some e) (hx:p e=true):es.any p=true :=
 List.any_eq_true.2 ⟨e,List.mem_of_getElem? h,hx⟩
theorem bdrewN (w:World) (m:Nat):Below w.heap.size w (w.drewN m):=⟨rfl,rfl,rfl,Nat.le_refl _,λ _ _=>rfl⟩
theorem sliceG_h {α:Type} (E:Enc α) (e t bytes:Nat) (z:Value) (hinfo:(Tryz.prog.info? e).map (λ i=>(i.zero,i.size,i.bytes))=some (some z,E.size,bytes)) (hu:Tryz.prog.underlying t=some (.slice e)) (he:Tryz.prog.elem t=e)
  {ao:Option Addr} {n c k:Nat} (hc:n<=c) (hk:k<=n) :
  ∃ a' c',(∀ w,(Instr.slice t (.slice ao n c) none (some (.int .i64 (k:Int))) none).run Tryz.prog w=.ok (.slice a' k c') w)/\k<=c'/\c'<=c/\∀ w (xs:List α),RdG E w ao xs->RdG E w a' (xs.take k):=by
 obtain ⟨i0,hi0,hz0,hz1,hz2⟩:=info_parts hinfo;refine ⟨if c=0 then ao else ao.map (·.add 0),c,λ w=>?_,by omega,Nat.le_refl _,?_⟩
 ·rw [run_slice_h w t ao n c (by rw [he]; exact hu) .i64 (k:Int) (by omega) (by omega)]
  have:(sizeOf (Tryz.prog.elem t)).run Tryz.prog w=.ok E.size w:=by
   rw [he];simp [sizeOf,typeInfo,hi0,hz1]
  rw [this];simp only [Result.andThen,sliced,Int.toNat_natCast,Nat.zero_mul,Nat.sub_zero]
 ·intro w xs h
  split
  ·exact h.take k
  ·intro h0;obtain ⟨b,off,rfl,hlt,hcc⟩:=h (by simp at h0; omega);simp only [Option.map_some,addr_plus,Nat.add_zero];exact RdG.take (λ _=>⟨b,off,rfl,hlt,hcc⟩) k h0
theorem three_boxes (w:World) (x y z v x' y' z' v' x'' y'' z'' v'':Value) (t t' t'':TypeId) :
  Box4 (((w.alloc (.cells #[x,y,z,v] t)).alloc (.cells #[x',y',z',v'] t')).alloc (.cells #[x'',y'',z'',v''] t'')) w.heap.size t x y z v /\
  Box4 (((w.alloc (.cells #[x,y,z,v] t)).alloc (.cells #[x',y',z',v'] t')).alloc (.cells #[x'',y'',z'',v''] t'')) (w.heap.size+1) t' x' y' z' v' /\
  Box4 (((w.alloc (.cells #[x,y,z,v] t)).alloc (.cells #[x',y',z',v'] t')).alloc (.cells #[x'',y'',z'',v''] t'')) (w.heap.size+2) t'' x'' y'' z'' v'':=by
 have s1:(w.alloc (.cells #[x,y,z,v] t)).heap.size=w.heap.size+1:=by simp
 have s2:((w.alloc (.cells #[x,y,z,v] t)).alloc (.cells #[x',y',z',v'] t')).heap.size=w.heap.size+2:=by simp
 refine ⟨?_,?_,?_⟩
 ·have h:=Box4.new w t x y z v;exact (h.below (bz1 _ (.cells #[x',y',z',v'] t')) (by rw [s1]; omega)).below (bz1 _ (.cells #[x'',y'',z'',v''] t'')) (by rw [s2]; omega)
 ·have h:=Box4.new (w.alloc (.cells #[x,y,z,v] t)) t' x' y' z' v';rw [s1] at h;exact h.below (bz1 _ (.cells #[x'',y'',z'',v''] t'')) (by rw [s2]; omega)
 ·have h:=Box4.new ((w.alloc (.cells #[x,y,z,v] t)).alloc (.cells #[x',y',z',v'] t')) t'' x'' y'' z'' v'';rw [s2] at h;exact h
theorem OwnG.rdc {α:Type} {E:Enc α} {e:TypeId} {w:World} {base n cap:Nat} {ao:Option Addr} {xs:List α} (h:OwnG E e w base (.slice ao n cap) xs):RdG E w ao xs/\n<=cap:=by
 have hn:xs.length=n:=own_len h;obtain ⟨a,c,q,h1,_,r,_⟩:=OwnG.form h;rw [hn] at q h1;cases q;exact ⟨r,h1⟩
theorem lay_four (w:World) (Q:Nat) (a b c d:Value):Turned (λ i=>i=Q) w ((((w.setCell ⟨Q,0,none⟩ a).setCell ⟨Q,1,none⟩ b).setCell ⟨Q,2,none⟩ c).setCell ⟨Q,3,none⟩ d) :=
 ((((Turned.refl (λ i=>i=Q) w).setCell (p:=⟨Q,0,none⟩) (.inl (show Q=Q from rfl)) a).setCell (p:=⟨Q,1,none⟩) (.inl (show Q=Q from rfl)) b).setCell (p:=⟨Q,2,none⟩) (.inl (show Q=Q from rfl)) c).setCell (p:=⟨Q,3,none⟩) (.inl (show Q=Q from rfl)) d
theorem bz3 (u:World) (o1 o2 o3:Obj):Below u.heap.size u (((u.alloc o1).alloc o2).alloc o3):=(bz2 u o1 o2).trans ((bz1 _ o3).mono (bz2 u o1 o2).size)
theorem keepA {w1 u:World} {o:Obj} (h:Hid (Below w1.heap.size w1 u)):Hid (Below w1.heap.size w1 (u.alloc o)):=h.out.trans ((bz1 u o).mono h.out.size)
theorem keepD {w1 u:World} (h:Hid (Below w1.heap.size w1 u)):Hid (Below w1.heap.size w1 u.drew):=h.out.drew
theorem step_val {ops:Array Oper} {o:Oper} {a:Act} {w:World} {K:Act->World->Prop} {Q:Exit->Act->World->Prop} {X:Prop} (hg:o.guard=none) (x:Operand) (f:Nat) (ts:Array TypeId)
  (hop:o.op=.call { callee:=.value (.func f),args:=#[x],argTypes:=ts }) (en:∀ args w,(callFunc f args).run Tryz.prog w=.ok (.enter f args) w) (u v:Value) (hx:a.eval x=u)
  (hc:Calls Tryz.prog f #[u] w λ e w'=>e=.returned v/\w'=w) (h:K (a.put o.dst v) w) :
  if Region.wanted o (yielded ops a.tmps)=true then Oper.wp Tryz.prog o a w K Q else X:=by
 have hw:Region.wanted o (yielded ops a.tmps)=true:=by simp [Region.wanted,hg]
 rw [if_pos hw];unfold Oper.wp
 have e:(execOp a.eval o).run Tryz.prog w=.ok (.enter f #[u]) w:=by
  have hf:a.eval (.func f)=.func (.func f) #[] #[]:=rfl;simp [execOp,hop,resolve,invoke,hx,hf,Deferred.ofValue,en]
 rw [e,Oper.upon_enter];refine hc.mono ?_;rintro e w' ⟨rfl,rfl⟩;exact h
theorem two_boxes (w:World) (x y z v x' y' z' v':Value) (t t':TypeId) :
  Box4 ((w.alloc (.cells #[x,y,z,v] t)).alloc (.cells #[x',y',z',v'] t')).drew w.heap.size t x y z v /\
  Box4 ((w.alloc (.cells #[x,y,z,v] t)).alloc (.cells #[x',y',z',v'] t')).drew (w.heap.size+1) t' x' y' z' v' /\
  Below w.heap.size w ((w.alloc (.cells #[x,y,z,v] t)).alloc (.cells #[x',y',z',v'] t')).drew:=by
 have s1:(w.alloc (.cells #[x,y,z,v] t)).heap.size=w.heap.size+1:=by simp
 refine ⟨?_,?_,(bz2 _ _ _).drew⟩
 ·exact (Box4.new w t x y z v).below (bz1 _ (.cells #[x',y',z',v'] t')).drew (by rw [s1]; omega)
 ·have h:=Box4.new (w.alloc (.cells #[x,y,z,v] t)) t' x' y' z' v';rw [s1] at h;exact h
theorem rd_one {α:Type} (E:Enc α) (w:World) (y:α) (t:TypeId) (c:Array Value) (hc:c=(E.cells y).toArray):RdG E (w.alloc (.cells c t)) (some ⟨w.heap.size,0,none⟩) [y]:=by
 subst hc;intro _;refine ⟨w.heap.size,0,rfl,by simp,?_⟩;intro i x hx j u hu
 have hi:i=0:=by
  rcases Nat.eq_zero_or_pos i with q | q
  ·exact q
  ·rw [List.getElem?_eq_none (by simp; omega)] at hx; cases hx
 subst hi;cases hx;have:=cells_new E w y t j u hu;rw [addr_plus] at this;rw [Nat.zero_mul,Nat.zero_add];exact this
theorem OwnG.whole {α:Type} {E:Enc α} {e:TypeId} {w:World} {base:Nat} {v:Value} {xs:List α} {n:Nat} (h:OwnG E e w base v xs) (hn:xs.length=n):∃ a c,v=.slice a n c/\n<=c/\RdG E w a xs:=by
 obtain ⟨a,c,q,h1,_,r,_⟩:=OwnG.form h;rw [hn] at q h1;exact ⟨a,c,q,h1,r⟩
theorem ext_data (bs:Bs) (i j:Nat):((⟨bs.toArray⟩:ByteArray).extract i j).data.toList=(bs.drop i).take (j - i):=by
 simp [ByteArray.data_extract,List.extract_eq_take_drop]
theorem lay_box {w w3:World} {b2:Nat} (hb:Below w.heap.size w w3) (h2:w.heap.size<=b2) (v0 v1:Value) :
  Below w.heap.size w ((w3.setCell ⟨b2,0,none⟩ v0).setCell ⟨b2,1,none⟩ v1)/\Turned (λ i=>i=b2) w3 ((w3.setCell ⟨b2,0,none⟩ v0).setCell ⟨b2,1,none⟩ v1):=by
 have t:Turned (λ i=>i=b2) w3 ((w3.setCell ⟨b2,0,none⟩ v0).setCell ⟨b2,1,none⟩ v1) :=
  ((Turned.refl (λ i=>i=b2) w3).setCell (p:=⟨b2,0,none⟩) (.inl (show b2=b2 from rfl)) v0).setCell (p:=⟨b2,1,none⟩) (.inl (show b2=b2 from rfl)) v1
 exact ⟨hb.trans (t.below hb.size (λ i hi q=>by have q':i=b2:=q; omega)),t⟩
def NewRow (w:World) (pa:Option Addr) (n:Nat):Prop:=0<n->∀ p,pa=some p->w.heap.size<=p.block
theorem NewRow.none (w:World) (n:Nat):NewRow w none n:=λ _ _ h=>by cases h
theorem OwnG.newRow {α:Type} {E:Enc α} {e:TypeId} {w w':World} {B n c:Nat} {la:Option Addr} {xs:List α} (h:OwnG E e w' B (.slice la n c) xs) (hB:w.heap.size<=B):NewRow w la n:=by
 intro h0 p hp;obtain ⟨a1,c1,e1,_,_,_,h4⟩:=OwnG.form h;simp only [Value.slice.injEq] at e1;obtain ⟨g,eg⟩:=h4 (by omega);have e2:la=some ⟨g,0,Option.none⟩:=e1.1.trans eg;have hl:=(h.lt g (by rw [e2]; rfl)).1;rw [e2] at hp;cases hp;exact Nat.le_trans hB hl
end Go.Proofs.YtjlokpjflgbgdaaGreat

namespace Go.Proofs.YtjlokpjflgbgdaaGreat
open Go.RowKit
def heldR (v:Value):Option (DataW Value×List MemPlace):=some (.held v,[])
theorem keyedS:Maps.Keyed Tryz.prog 9:=Maps.string_keyed Tryz.underlying9
theorem key_of (s:ByteArray) (h:s.size<=maxLen):keyOf Tryz.prog 9 (.string s)=some (.string s.data.toList):=WideMaps.keyOf_string_mk Tryz.underlying9 h
end Go.Proofs.YtjlokpjflgbgdaaGreat

namespace Go.Proofs.YtjlokpjflgbgdaaGreat
open Go.RowKit
def MapIs (w:World) (m:Nat) (f:Bs->Option Value) (n:Nat):Prop :=
 ∃ D:DataW Value,w.ownsMap Tryz.prog 9 heldR m n D/\Maps.size D=n/\(∀ x,Maps.has D (.string x)=(f x).isSome)/\∀ x v,f x=some v->∀ zd,D.atKey (.string x) zd=.held v
theorem own_tight {w:World} {m n:Nat} {D:DataW Value} (h:w.ownsMap Tryz.prog 9 heldR m n D):w.ownsMap Tryz.prog 9 heldR m (Maps.size D) D:=by
 obtain ⟨es,clock,hb,F,_,rfl⟩:=h;refine ⟨es,clock,hb,F,?_,rfl⟩;simp [Maps.size,length_sorted]
theorem MapIs.block {w:World} {m n:Nat} {f:Bs->Option Value} (h:MapIs w m f n):∃ es clock,w.heap[m]? = some (.map es clock):=by
 obtain ⟨D,⟨es,clock,hb,_⟩,_⟩:=h;exact ⟨es,clock,hb⟩
theorem MapIs.turned {S:Nat->Prop} {w w':World} {m n:Nat} {f:Bs->Option Value} (h:MapIs w m f n) (ht:Turned S w w') (hS:¬ S m):MapIs w' m f n:=by
 obtain ⟨D,⟨es,clock,hb,r⟩,q⟩:=h;exact ⟨D,⟨es,clock,(ht.block m (Array.getElem?_eq_some_iff.1 hb).1 hS).trans hb,r⟩,q⟩
theorem Tryz.info39:(Tryz.prog.info? 39).map (λ i=>(i.zero,i.size,i.bytes))=some (some (.slice none 0 0),1,24):=by kernel_rfl
theorem zeroS (w:World):(zeroValue 39).run Tryz.prog w=.ok (.slice none 0 0) w:=by
 obtain ⟨i0,hi0,hz0,_,_⟩:=info_parts Tryz.info39;simp [zeroValue,typeInfo,hi0,hz0]
theorem MapIs.look {w:World} {m n:Nat} {f:Bs->Option Value} (h:MapIs w m f n) (s:ByteArray) (hs:s.size<=maxLen) :
  (Instr.lookup 151 (.map (some m)) (.string s) true).run Tryz.prog w=.ok (.tuple #[(f s.data.toList).getD (.slice none 0 0),.bool (f s.data.toList).isSome]) w:=by
 obtain ⟨D,ho,_,hh,ha⟩:=h;obtain ⟨v,ps,hrun,hv⟩:=ho.look_ok keyedS Tryz.underlying151 (zeroS w) (zd:=.held (.slice none 0 0)) (zp:=[]) rfl (key_of s hs);rw [hrun,hh]
 have e:DataW.held v=D.atKey (.string s.data.toList) (.held (.slice none 0 0)):=by
  have:=Option.some.inj hv;exact congrArg Prod.fst this
 cases hf:f s.data.toList with
 | none =>
  rw [Maps.atKey_of_not_has (by rw [hh,hf]; rfl)] at e;cases e
  rfl
 | some u =>
  rw [ha _ u hf] at e;cases e
  rfl
theorem MapIs.look1 {w:World} {m n:Nat} {f:Bs->Option Value} (h:MapIs w m f n) (s:ByteArray) (hs:s.size<=maxLen) :
  (Instr.lookup 151 (.map (some m)) (.string s) false).run Tryz.prog w=.ok ((f s.data.toList).getD (.slice none 0 0)) w:=by
 obtain ⟨D,ho,_,hh,ha⟩:=h;obtain ⟨v,ps,hrun,hv⟩:=ho.lookup keyedS Tryz.underlying151 (zeroS w) (zd:=.held (.slice none 0 0)) (zp:=[]) rfl (key_of s hs);rw [hrun]
 have e:DataW.held v=D.atKey (.string s.data.toList) (.held (.slice none 0 0)):=by
  have:=Option.some.inj hv;exact congrArg Prod.fst this
 cases hf:f s.data.toList with
 | none =>
  rw [Maps.atKey_of_not_has (by rw [hh,hf]; rfl)] at e;cases e
  rfl
 | some u =>
  rw [ha _ u hf] at e;cases e
  rfl
theorem MapIs.len {w:World} {m n:Nat} {f:Bs->Option Value} (h:MapIs w m f n) (ty:TypeId):(Builtin.len_ #[151] ty #[.map (some m)]).run Tryz.prog w=.ok (.int .i64 n) w:=by
 obtain ⟨D,ho,hn,_⟩:=h;rw [ho.len Tryz.underlying151 ty,hn]
def fput (f:Bs->Option Value) (x:Bs) (v:Value):Bs->Option Value:=λ y=>if y=x then some v else f y
theorem key_ne {x y:Bs} (h:y≠x):(Lit.string y)≠(Lit.string x):=λ e=>h (by cases e; rfl)
theorem MapIs.put {w:World} {m n:Nat} {f:Bs->Option Value} (h:MapIs w m f n) (s:ByteArray) (hs:s.size<=maxLen) (hn:n<maxLen) (v:Value) :
  ∃ w',(Instr.mapUpdate 151 (.map (some m)) (.string s) v).run Tryz.prog w=.ok () w'/\MapIs w' m (fput f s.data.toList v) (if (f s.data.toList).isSome then n else n+1)/\w.grownBy w' (some m):=by
 obtain ⟨D,ho,hsz,hh,ha⟩:=h;obtain ⟨w',hrun,h1,h2⟩:=ho.update keyedS Tryz.underlying151 hn (key_of s hs) (d:=.held v) (ps:=[]) (val:=v) rfl;have hkl:WideAt.IsKeyLit (.string s.data.toList):=keyedS.key (key_of s hs)
 have hsz':Maps.size (D.put (.string s.data.toList) (.held v))=if (f s.data.toList).isSome then n else n+1:=by
  rw [Maps.size_put (ho.tidy keyedS),hh,hsz]
 refine ⟨w',hrun,⟨_,?_,hsz',?_,?_⟩,h2⟩
 ·rw [<- hsz'];exact own_tight h1
 ·intro x;unfold fput;by_cases e:x=s.data.toList
  ·rw [if_pos e,e,Maps.has_put_same ho.isMap hkl]
   rfl
  ·rw [if_neg e,Maps.has_put_other (key_ne e),hh]
 ·intro x u hx zd;unfold fput at hx;by_cases e:x=s.data.toList
  ·rw [if_pos e] at hx;cases hx;rw [e,Maps.atKey_put_same ho.isMap hkl]
  ·rw [if_neg e] at hx;rw [Maps.atKey_put_other (key_ne e),ha x u hx]
end Go.Proofs.YtjlokpjflgbgdaaGreat

namespace Go.Proofs.YtjlokpjflgbgdaaGreat
open Go.RowKit
structure FilesX (w:World) (m:Nat) (S:Nat->Prop) (F:Fs) (f:Bs->Option Value) (X:Bs->Prop):Prop where
 map:MapIs w m f F.length
 no:∀ x,fget F x=none->f x=none
 yes:∀ x bs,fget F x=some bs->∃ v,f x=some v/\(X x∨OwnB w v bs)
 apart:∀ x y u v g,x≠y->f x=some u->f y=some v->u.ownBlock=some g->v.ownBlock≠some g
 own:∀ x v g,f x=some v->v.ownBlock=some g->S g
structure DiskX (w:World) (b m:Nat) (f:Bs->Option Value) (a k:Int) (d:Dk) (S:Nat->Prop) (X:Bs->Prop):Prop where
 cells:w.heap[b]? = some (.cells #[.map (some m),.int .i64 (d.writes:Int),.bool d.dead,.bool d.armed,.int .i64 a,.int .i64 k] 155 (0,0))
 cut:d.armed=true->a=(d.after:Int)/\k=(d.keep:Int)
 files:FilesX w m S d.files f X
 mine:S b/\S m
 lt:∀ i,S i->i<w.heap.size
abbrev DiskM (w:World) (b m:Nat) (f:Bs->Option Value) (a k:Int) (d:Dk) (S:Nat->Prop):Prop:=DiskX w b m f a k d S (λ _=>False)
def DiskAt (w:World) (b:Nat) (d:Dk) (S:Nat->Prop):Prop:=∃ m f a k,DiskM w b m f a k d S
theorem OwnB.block {w:World} {v:Value} {bs:Bs} (h:OwnB w v bs) {g:Nat} (hg:v.ownBlock=some g):∃ cur,w.heap[g]? = some (.cells cur 5 (0,0)):=by
 rcases h.2 with ⟨rfl,_⟩ | ⟨g',cap,cur,rfl,_,hb,_⟩
 ·simp [Value.ownBlock] at hg
 ·have:g'=g:=by simpa [Value.ownBlock] using hg
  subst this;exact ⟨cur,hb⟩
theorem OwnB.turned {S:Nat->Prop} {w w':World} {v:Value} {bs:Bs} (h:OwnB w v bs) (ht:Turned S w w') (hS:∀ g,v.ownBlock=some g->¬ S g):OwnB w' v bs:=ownsRow_turned h ht hS
theorem FilesX.turned {T S:Nat->Prop} {X:Bs->Prop} {w w':World} {m:Nat} {F:Fs} {f:Bs->Option Value} (h:FilesX w m S F f X) (ht:Turned T w w') (hm:¬ T m) (hf:∀ x v g,f x=some v->¬ X x->v.ownBlock=some g->¬ T g):FilesX w' m S F f X where
 map:=h.map.turned ht hm
 no:=h.no
 yes:=λ x bs hx=>by
  obtain ⟨v,hv,ho⟩:=h.yes x bs hx;refine ⟨v,hv,?_⟩
  rcases ho with q | q
  ·exact .inl q
  ·by_cases hX:X x
   ·exact .inl hX
   ·exact .inr (q.turned ht (λ g hg=>hf x v g hv hX hg))
 apart:=h.apart
 own:=h.own
theorem FilesX.mono {S S':Nat->Prop} {X X':Bs->Prop} {w:World} {m:Nat} {F:Fs} {f:Bs->Option Value} (h:FilesX w m S F f X) (hS:∀ i,S i->S' i) (hX:∀ x,X x->X' x):FilesX w m S' F f X' where
 map:=h.map
 no:=h.no
 yes:=λ x bs hx=>by
  obtain ⟨v,hv,ho⟩:=h.yes x bs hx;exact ⟨v,hv,ho.imp (hX x) id⟩
 apart:=h.apart
 own:=λ x v g h1 h2=>hS g (h.own x v g h1 h2)
theorem DiskX.mono {S S':Nat->Prop} {X X':Bs->Prop} {w:World} {b m:Nat} {f:Bs->Option Value} {a k:Int} {d:Dk} (h:DiskX w b m f a k d S X) (hS:∀ i,S i->S' i) (hX:∀ x,X x->X' x) (hl:∀ i,S' i->i<w.heap.size):DiskX w b m f a k d S' X' :=
 ⟨h.cells,h.cut,h.files.mono hS hX,⟨hS _ h.mine.1,hS _ h.mine.2⟩,hl⟩
section
variable {S:Nat->Prop} {X:Bs->Prop} {w w':World} {b m:Nat} {f:Bs->Option Value} {a k:Int} {d:Dk}
theorem DiskX.lt_b (h:DiskX w b m f a k d S X):b<w.heap.size:=(Array.getElem?_eq_some_iff.1 h.cells).1
theorem DiskX.m_ne (h:DiskX w b m f a k d S X):m≠b:=by
 obtain ⟨es,c,hm⟩:=h.files.map.block;intro e;rw [e,h.cells] at hm;cases hm
theorem DiskX.file (h:DiskX w b m f a k d S X) (x:Bs):(fget d.files x=none/\f x=none)∨∃ bs v,fget d.files x=some bs/\f x=some v/\(X x∨OwnB w v bs):=by
 cases e:fget d.files x with
 | none=>exact .inl ⟨rfl,h.files.no x e⟩
 | some bs =>
  obtain ⟨v,h1,h2⟩:=h.files.yes x bs e;exact .inr ⟨bs,v,rfl,h1,h2⟩
theorem DiskX.some_iff (h:DiskX w b m f a k d S X) (x:Bs):(f x).isSome=(fget d.files x).isSome:=by
 rcases h.file x with ⟨h1,h2⟩ | ⟨bs,v,h1,h2,_⟩ <;> rw [h1,h2] <;> rfl
theorem DiskM.row_ne (h:DiskM w b m f a k d S) {x:Bs} {v:Value} {g:Nat} (hx:f x=some v) (hg:v.ownBlock=some g):g≠b/\g≠m:=by
 rcases h.file x with ⟨_,h2⟩ | ⟨bs,u,_,h2,ho⟩
 ·rw [h2] at hx; cases hx
 ·rw [h2] at hx;cases hx;have ho:OwnB w v bs:=ho.elim False.elim id;obtain ⟨cur,hc⟩:=ho.block hg;refine ⟨λ e=>?_,λ e=>?_⟩
  ·rw [e,h.cells] at hc; cases hc
  ·obtain ⟨es,c,hm⟩:=h.files.map.block;rw [e,hm] at hc;cases hc
theorem DiskX.cell (h:DiskX w b m f a k d S X) :
  w.cell? ⟨b,0,none⟩=some (.map (some m))/\w.cell? ⟨b,1,none⟩=some (.int .i64 (d.writes:Int))/\w.cell? ⟨b,2,none⟩=some (.bool d.dead)/\w.cell? ⟨b,3,none⟩=some (.bool d.armed) /\
  w.cell? ⟨b,4,none⟩=some (.int .i64 a)/\w.cell? ⟨b,5,none⟩=some (.int .i64 k)/\∀ i,w.frozen? ⟨b,i,none⟩=false:=by
 simp [World.cell?,World.frozen?,h.cells]
theorem DiskM.wrote (h:DiskM w b m f a k d S) (ht:Turned (λ i=>i=b) w w') {d':Dk} {a' k':Int} (hf:d'.files=d.files)
  (hc:w'.heap[b]? = some (.cells #[.map (some m),.int .i64 (d'.writes:Int),.bool d'.dead,.bool d'.armed,.int .i64 a',.int .i64 k'] 155 (0,0))) (hcut:d'.armed=true->a'=(d'.after:Int)/\k'=(d'.keep:Int)):DiskM w' b m f a' k' d' S :=
 ⟨hc,hcut,by rw [hf]; exact h.files.turned ht h.m_ne (λ x v g h1 _ h2=>(h.row_ne h1 h2).1),h.mine,λ i hi=>Nat.lt_of_lt_of_le (h.lt i hi) ht.size⟩
theorem DiskX.stays (h:DiskX w b m f a k d S X) {T:Nat->Prop} (ht:Turned T w w') (hT:∀ i,S i->¬ T i):DiskX w' b m f a k d S X :=
 ⟨(ht.block b h.lt_b (hT b h.mine.1)).trans h.cells,h.cut,h.files.turned ht (hT m h.mine.2) (λ x v g h1 _ h2=>hT g (h.files.own x v g h1 h2)),h.mine,λ i hi=>Nat.lt_of_lt_of_le (h.lt i hi) ht.size⟩
theorem DiskX.below (h:DiskX w b m f a k d S X) (hb:Below w.heap.size w w'):DiskX w' b m f a k d S X:=h.stays (T:=λ _=>False) (Turned.ofBelow hb) (λ _ _ q=>q)
theorem DiskAt.stays (h:DiskAt w b d S) {T:Nat->Prop} (ht:Turned T w w') (hT:∀ i,S i->¬ T i):DiskAt w' b d S:=by
 obtain ⟨m,f,a,k,h⟩:=h;exact ⟨m,f,a,k,DiskX.stays h ht hT⟩
theorem DiskAt.below (h:DiskAt w b d S) (hb:Below w.heap.size w w'):DiskAt w' b d S:=h.stays (T:=λ _=>False) (Turned.ofBelow hb) (λ _ _ q=>q)
theorem DiskAt.lt (h:DiskAt w b d S):∀ i,S i->i<w.heap.size:=by
 obtain ⟨m,f,a,k,h⟩:=h;exact DiskX.lt h
end
def Since (S:Nat->Prop) (w w':World):Nat->Prop:=λ i=>S i∨(w.heap.size<=i/\i<w'.heap.size)
end Go.Proofs.YtjlokpjflgbgdaaGreat
