/-
  The reference's Fits, by a contract over the document's store. No condition but that lists are no longer than any memory holds.
-/
import Derived.Test.YtjlokpjflgbgdaaGreatMC17
import Derived.Test.YtjlokpjflgbgdaaGreatMC18
import Derived.Test.YtjlokpjflgbgdaaGreatMC19
set_option maxHeartbeats 6400000
set_option maxRecDepth 100000
namespace Go.Proofs.YtjlokpjflgbgdaaGreat
open Go.RowKit
def RMS (Z:Nat->Prop) (w:World) (m:Value) (st:St) (d:Dk):Prop :=
 ∃ fa fl fc oa on oc ra rn rc ta tn tc,m=rm d (.slice fa fl fc) (.slice oa on oc) (.slice ra rn rc) (.slice ta tn tc)/\LG encF Z w fa fl fc d.files/\LG encO Z w oa on oc st.objs/\LG encN Z w ra rn rc st.refs/\LG encN Z w ta tn tc st.tags
section
variable {Z Z' T:Nat->Prop} {w w':World} {m:Value} {st:St} {d:Dk}
theorem RMS.below (h:RMS Z w m st d) (hb:Below w.heap.size w w'):RMS Z w' m st d:=by
 obtain ⟨fa,fl,fc,oa,on,oc,ra,rn,rc,ta,tn,tc,e,h1,h2,h3,h4⟩:=h;exact ⟨fa,fl,fc,oa,on,oc,ra,rn,rc,ta,tn,tc,e,h1.below hb,h2.below hb,h3.below hb,h4.below hb⟩
theorem RMS.mono (h:RMS Z w m st d) (hz:∀ i,Z' i->Z i):RMS Z' w m st d:=by
 obtain ⟨fa,fl,fc,oa,on,oc,ra,rn,rc,ta,tn,tc,e,h1,h2,h3,h4⟩:=h;exact ⟨fa,fl,fc,oa,on,oc,ra,rn,rc,ta,tn,tc,e,h1.mono hz,h2.mono hz,h3.mono hz,h4.mono hz⟩
theorem RMS.turned (h:RMS Z w m st d) (ht:Turned T w w') (hT:∀ i,T i->Z i):RMS Z w' m st d:=by
 obtain ⟨fa,fl,fc,oa,on,oc,ra,rn,rc,ta,tn,tc,e,h1,h2,h3,h4⟩:=h;exact ⟨fa,fl,fc,oa,on,oc,ra,rn,rc,ta,tn,tc,e,h1.turned ht hT,h2.turned ht hT,h3.turned ht hT,h4.turned ht hT⟩
theorem RMS.into (h:RMS Z w m st d) (hz:∀ i,i<w.heap.size->Z' i->Z i):RMS Z' w m st d:=by
 obtain ⟨fa,fl,fc,oa,on,oc,ra,rn,rc,ta,tn,tc,e,h1,h2,h3,h4⟩:=h;exact ⟨fa,fl,fc,oa,on,oc,ra,rn,rc,ta,tn,tc,e,h1.into hz,h2.into hz,h3.into hz,h4.into hz⟩
end
theorem lay_nine (w:World) (Q:Nat) (v0 v1 v2 v3 v4 v5 v6 v7 v8:Value) :
  Turned (λ i=>i=Q) w (((((((((w.setCell ⟨Q,0,none⟩ v0).setCell ⟨Q,1,none⟩ v1).setCell ⟨Q,2,none⟩ v2).setCell ⟨Q,3,none⟩ v3).setCell ⟨Q,4,none⟩ v4).setCell ⟨Q,5,none⟩ v5).setCell ⟨Q,6,none⟩ v6).setCell ⟨Q,7,none⟩ v7).setCell ⟨Q,8,none⟩ v8) :=
 (((((((((Turned.refl (λ i=>i=Q) w).setCell (p:=⟨Q,0,none⟩) (.inl (show Q=Q from rfl)) v0).setCell (p:=⟨Q,1,none⟩) (.inl (show Q=Q from rfl)) v1).setCell (p:=⟨Q,2,none⟩) (.inl (show Q=Q from rfl)) v2).setCell (p:=⟨Q,3,none⟩) (.inl (show Q=Q from rfl)) v3).setCell (p:=⟨Q,4,none⟩) (.inl (show Q=Q from rfl)) v4).setCell (p:=⟨Q,5,none⟩) (.inl (show Q=Q from rfl)) v5).setCell (p:=⟨Q,6,none⟩) (.inl (show Q=Q from rfl)) v6).setCell (p:=⟨Q,7,none⟩) (.inl (show Q=Q from rfl)) v7).setCell (p:=⟨Q,8,none⟩) (.inl (show Q=Q from rfl)) v8
structure Tri (w W:World) (d:Dk) (vf vo vr vt:Value) (k:Int) (s:ByteArray):Prop where
 bel:Below w.heap.size w W
 box:NineM W w.heap.size d vf vo vr vt
 fr:Box W (w.heap.size+1) 223 (.int .i64 k) (.string s)
 res:Nine W (w.heap.size+2) (.slice none 0 0) (.int .i64 0) (.bool false) (.bool false) (.int .i64 0) (.int .i64 0) (.slice none 0 0) (.slice none 0 0) (.slice none 0 0)
section
variable {w W W':World} {d:Dk} {vf vo vr vt:Value} {k:Int} {s:ByteArray}
theorem Tri.below (h:Tri w W d vf vo vr vt k s) (hb:Below W.heap.size W W'):Tri w W' d vf vo vr vt k s :=
 ⟨h.bel.trans (hb.mono h.bel.size),h.box.below hb h.box.lt,h.fr.below hb,h.res.below hb h.res.lt⟩
theorem Tri.new (w:World) (d:Dk) (vf vo vr vt:Value) (k:Int) (s:ByteArray) :
  Tri w (((w.alloc (nineC d vf vo vr vt)).alloc (.cells #[.int .i64 k,.string s] 223)).alloc (.cells #[.slice none 0 0,.int .i64 0,.bool false,.bool false,.int .i64 0,.int .i64 0,.slice none 0 0,.slice none 0 0,.slice none 0 0] 32)) d vf vo vr vt k s:=by
 have e1:(w.alloc (nineC d vf vo vr vt)).heap.size=w.heap.size+1:=by simp
 have e2:((w.alloc (nineC d vf vo vr vt)).alloc (.cells #[.int .i64 k,.string s] 223)).heap.size=w.heap.size+2:=by simp
 have b2:=Box.new (w.alloc (nineC d vf vo vr vt)) 223 (.int .i64 k) (.string s);rw [e1] at b2;have b3:=Nine.new ((w.alloc (nineC d vf vo vr vt)).alloc (.cells #[.int .i64 k,.string s] 223)) (.slice none 0 0) (.int .i64 0) (.bool false) (.bool false) (.int .i64 0) (.int .i64 0) (.slice none 0 0) (.slice none 0 0) (.slice none 0 0);rw [e2] at b3;exact ⟨bz3 _ _ _ _,((Nine.new w _ _ _ _ _ _ _ _ _).below (bz1 _ _) (by rw [e1]; omega)).below (bz1 _ _) (by rw [e2]; omega),b2.below (bz1 _ _),b3⟩
theorem Tri.size (h:Tri w W d vf vo vr vt k s):w.heap.size+3<=W.heap.size:=by
 have:=h.res.lt;omega
end
theorem tri_named {w W:World} {d:Dk} {vf vo vr vt:Value} {k:Int} {s:ByteArray} (h:Tri w W d vf vo vr vt k s) (x y:Value) (t:TypeId):Hid (Tri w (W.alloc (.cells #[x,y] t)).drew d vf vo vr vt k s/\Box (W.alloc (.cells #[x,y] t)).drew W.heap.size t x y) :=
 ⟨h.below (bz1 W _).drew,Box.new W t x y⟩
theorem tri_on {w W W':World} {d:Dk} {vf vo vr vt:Value} {k:Int} {s:ByteArray} (h:Tri w W d vf vo vr vt k s) (hb:Below (w.heap.size+3) W W'):Tri w W' d vf vo vr vt k s :=
 ⟨h.bel.trans (hb.mono (by omega)),h.box.below hb (by omega),(hb.block _ (by omega)).trans h.fr,h.res.below hb (by omega)⟩
def Zx (Z:Nat->Prop) (w:World):Nat->Prop:=λ i=>Z i∨(w.heap.size<=i/\i<w.heap.size+3)
theorem fits_close {Z:Nat->Prop} {w W W':World} {m:Value} {st:St} {d:Dk} (hb:Below w.heap.size w W) (h:RMS (Zx Z w) W m st d) (ht:Turned (λ i=>i=w.heap.size+2) W W'):RMS Z W' m st d/\Below w.heap.size w W' :=
 ⟨(h.turned ht (λ i q=>.inr (by have q:i=w.heap.size+2:=q; omega))).mono (λ _ q=>.inl q),hb.trans (ht.below hb.size (λ i hi q=>by have q:i=w.heap.size+2:=q; omega))⟩
theorem fits_close2 {Z:Nat->Prop} {w W W1 W':World} {m:Value} {st:St} {d:Dk} {j:Nat} {u:Value} (hb:Below w.heap.size w W) (h:RMS (Zx Z w) W m st d) (h1:W1=W.setCell ⟨w.heap.size,j,none⟩ u) (ht:Turned (λ i=>i=w.heap.size+2) W1 W'):RMS Z W' m st d/\Below w.heap.size w W':=by
 have t1:Turned (λ i=>i=w.heap.size) W W1:=by rw [h1]; exact turned_set _ _
 exact fits_close (hb.trans (t1.below hb.size (λ i hi q=>by have q:i=w.heap.size:=q; omega))) (h.turned t1 (λ i q=>.inr (by have q:i=w.heap.size:=q; omega))) ht
theorem Tryz.info140:(Tryz.prog.info? 140).map (λ i=>(i.zero,i.size,i.bytes))=some (some (.agg #[.int .i64 0,.int .u64 0,.string ⟨#[]⟩]),3,32):=by kernel_rfl
end Go.Proofs.YtjlokpjflgbgdaaGreat
