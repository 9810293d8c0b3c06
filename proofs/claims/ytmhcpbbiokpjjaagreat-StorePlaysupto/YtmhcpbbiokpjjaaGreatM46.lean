/-
  Several texts, laid together.
-/
import Derived.Test.YtmhcpbbiokpjjaaGreatM45
import Derived.Deep.CutBlock
set_option maxHeartbeats 6400000
set_option maxRecDepth 100000
namespace Go.Proofs.YtmhcpbbiokpjjaaGreat
open Go.RowKit
theorem Zk9 {α:Type} {l:List (Nm α)} {n:Bs} {v:α} {e:Nm α} (h:e∈nins l n v):e∈l∨e=(n,v):=by
 induction l with
 | nil=>exact .inr (by simpa [nins] using h)
 | cons f t ih =>
  unfold nins at h
  split at h
  ·rcases List.mem_cons.1 h with q | q
   ·exact .inr q
   ·exact .inl q
  ·rcases List.mem_cons.1 h with q | q
   ·exact .inl (by rw [q]; exact List.mem_cons_self)
   ·rcases ih q with q | q
    ·exact .inl (List.mem_cons_of_mem _ q)
    ·exact .inr q
theorem ZfA {α:Type} {l:List (Nm α)} {n:Bs} {v:α} {e:Nm α} (h:e∈nwith l n v):e∈l∨e=(n,v):=by
 rcases Zk9 h with q | q
 ·exact .inl (List.mem_filter.1 q).1
 ·exact .inr q
theorem Nmd.zero:Nmd st0:=λ e he=>by cases he
theorem Nmd.take {st:St} {f:Fr} (h:Nmd st) (hf:st.fits f=true):Nmd (st.take f):=by
 intro e he;unfold St.take at he
 split at he
 ·rename_i h4
  have hn:=(Zb7 hf (.inl h4)).2.1
  rcases List.mem_append.1 he with q | q
  ·simp only at q
   split at q
   ·exact h e (List.mem_append_left _ (List.mem_filter.1 q).1)
   ·rcases ZfA q with q | q
    ·exact h e (List.mem_append_left _ q)
    ·rw [q]; exact hn
  ·exact h e (List.mem_append_right _ q)
 ·split at he
  ·rename_i h5
   have hn:=(Zb7 hf (.inr h5)).2.1
   rcases List.mem_append.1 he with q | q
   ·exact h e (List.mem_append_left _ q)
   ·rcases ZfA q with q | q
    ·exact h e (List.mem_append_right _ q)
    ·rw [q]; exact hn
  ·exact h e he
theorem Nmd.stp {st st':St} {d d':Dk} (h:Nmd st) (hs:Stp st d st' d'):Nmd st':=by
 rcases hs with ⟨rfl,_⟩ | ⟨f,hf,_,rfl,_⟩
 ·exact h
 ·unfold sapp;simp only
  split
  ·exact h.take hf
  ·exact h
theorem Nmd.read:∀ (n:Nat) (b:Bs) {st:St},b.length<=n->Nmd st->Nmd (sread st b).1
 | n,b,st,hn,h=>by
  by_cases h0:0<b.length
  ·by_cases hf:(fopen b).2.2=0/\st.fits (fopen b).1=true
   ·have h9:=Zbh hf.1;rw [Zez h0 hf]
    cases n with
    | zero=>omega
    | succ n=>exact Nmd.read n _ (by rw [List.length_drop]; omega) (h.take hf.2)
   ·rw [Zeb hf]; exact h
  ·have:b=[]:=List.length_eq_zero_iff.1 (by omega);rw [this,Zck];exact h
theorem Nmd.opened {d:Dk}:Nmd (sopen d).1:=by
 unfold sopen
 split
 ·simp only
  split
  ·exact Nmd.read _ _ (Nat.le_refl _) Nmd.zero
  ·exact Nmd.zero
 ·exact Nmd.read _ _ (Nat.le_refl _) Nmd.zero
structure ZcA (file:Bs) (i p:Nat) (st:St):Prop where
 rd:Za5 st0 file st p
 cut:(fcut (file.drop p)).1=(fcut file).1.drop i
theorem ZcA.start (file:Bs):ZcA file 0 0 st0:=⟨Za5.start file St.ok0 rfl,by simp⟩
theorem ZcA.here {file:Bs} {i p:Nat} {st:St} {f:Fr} (h:ZcA file i p st) (hf:(fcut file).1[i]? = some f):p<file.length/\(fopen (file.drop p)).2.2=0/\(fopen (file.drop p)).1=f/\(fopen (file.drop p)).2.1=f.2.length+9/\f.2.length<=8192:=by
 have h1:(fcut (file.drop p)).1[0]? = some f:=by rw [h.cut,List.getElem?_drop]; exact hf
 by_cases hp:p<file.length
 ·have h0:0<(file.drop p).length:=by rw [List.length_drop]; omega
  by_cases he:(fopen (file.drop p)).2.2=0
  ·rw [ZbK h0 he] at h1
   have e1:(fopen (file.drop p)).1=f:=by simpa using h1
   have h9:=Zbh he;have hb:=ZcH he;rw [e1] at h9 hb;exact ⟨hp,he,e1,by omega,hb⟩
  ·rw [ZdH h0 he] at h1;cases h1
 ·have:file.drop p=[]:=List.drop_eq_nil_of_le (by omega);rw [this,Ze6] at h1;cases h1
theorem ZcA.step {file:Bs} {i p:Nat} {st:St} {f:Fr} (h:ZcA file i p st) (hf:(fcut file).1[i]? = some f) (ht:st.fits f=true):ZcA file (i+1) (p+(f.2.length+9)) (st.take f):=by
 obtain ⟨h1,h2,h3,h4,h5⟩:=h.here hf;have hs:=h.rd.step h1 h2 (by rw [h3]; exact ht) (by rw [h3]; exact h5);rw [h3,h4] at hs;refine ⟨hs,?_⟩
 have h0:0<(file.drop p).length:=by rw [List.length_drop]; omega
 have hc:=h.cut;rw [ZbK h0 h2,h4,List.drop_drop] at hc
 have:(fcut file).1.drop (i+1)=((fcut file).1.drop i).drop 1:=by rw [List.drop_drop]
 rw [this,<- hc]
 rfl
theorem ZcA.stop {file:Bs} {i p:Nat} {st:St} {f:Fr} (h:ZcA file i p st) (hf:(fcut file).1[i]? = some f) (ht:st.fits f=false):sread st0 file=(st,p):=by
 obtain ⟨_,_,h3,_,_⟩:=h.here hf;refine h.rd.stop (λ q=>?_);rw [h3,ht] at q;cases q.2
theorem ZcA.done {file:Bs} {i p:Nat} {st:St} (h:ZcA file i p st) (hf:(fcut file).1.length<=i):sread st0 file=(st,p):=by
 have h1:(fcut (file.drop p)).1=[]:=by rw [h.cut]; exact List.drop_eq_nil_of_le hf
 by_cases hp:p<file.length
 ·have h0:0<(file.drop p).length:=by rw [List.length_drop]; omega
  refine h.rd.stop (λ q=>?_);rw [ZbK h0 q.1] at h1;cases h1
 ·exact h.rd.done hp
def Z3 (Z:Nat->Prop) (w:World):Nat->Prop:=λ i=>Z i∨(w.heap.size<=i/\i<w.heap.size+3)
theorem z3_in {Z:Nat->Prop} {w:World}:∀ i,i<w.heap.size->Z3 Z w i->Z i:=λ i hi q=>q.elim (λ q=>q) (λ q=>by omega)
theorem z3_lt {Z:Nat->Prop} {w:World} (hZ:∀ i,Z i->i<w.heap.size):∀ i,Z3 Z w i->i<w.heap.size+3:=λ i q=>q.elim (λ q=>by have:=hZ i q; omega) (λ q=>q.2)
theorem Zhy:∀ (n:Nat) (b:Bs),b.length<=n->9*(fcut b).1.length<=b.length
 | n,b,hn=>by
  by_cases h0:0<b.length
  ·by_cases he:(fopen b).2.2=0
   ·have h9:=Zbh he;rw [ZbK h0 he]
    cases n with
    | zero=>omega
    | succ n =>
     have:=Zhy n (b.drop (fopen b).2.1) (by rw [List.length_drop]; omega);rw [List.length_drop] at this;simp only [List.length_cons];omega
   ·rw [ZdH h0 he];exact Nat.zero_le _
  ·have:b=[]:=List.length_eq_zero_iff.1 (by omega);rw [this,Ze6];exact Nat.zero_le _
abbrev dkC (d:Dk) (v:Value):Array Value:=#[v,.int .i64 (d.writes:Int),.bool d.armed,.bool d.dead,.int .i64 (d.after:Int),.int .i64 (d.keep:Int)]
theorem Nine.put9 {w:World} {B:Nat} {a0 a1 a2 a3 a4 a5 a6 a7 a8:Value} (h:Nine w B a0 a1 a2 a3 a4 a5 a6 a7 a8) (b0 b1 b2 b3 b4 b5 b6 b7 b8:Value):Nine (((((((((w.setCell ⟨B,0,none⟩ b0).setCell ⟨B,1,none⟩ b1).setCell ⟨B,2,none⟩ b2).setCell ⟨B,3,none⟩ b3).setCell ⟨B,4,none⟩ b4).setCell ⟨B,5,none⟩ b5).setCell ⟨B,6,none⟩ b6).setCell ⟨B,7,none⟩ b7).setCell ⟨B,8,none⟩ b8) B b0 b1 b2 b3 b4 b5 b6 b7 b8:=by
 unfold Nine at h ⊢;simp [World.setCell,Array.getElem?_modify,h]
theorem Zfv (w:World):Nine (w.alloc zeroC).drew w.heap.size nilV (.int .i64 0) (.bool false) (.bool false) (.int .i64 0) (.int .i64 0) nilV nilV nilV:=by
 have n0:=Nine.new w nilV (.int .i64 0) (.bool false) (.bool false) (.int .i64 0) (.int .i64 0) nilV nilV nilV;exact n0.below (Below.refl _ _).drew n0.lt
theorem ZfC {w0 w:World} {Q:Nat} {a0 a1 a2 a3 a4 a5 a6 a7 a8:Value} (h:Nine w Q a0 a1 a2 a3 a4 a5 a6 a7 a8) (hb:Below w0.heap.size w0 w) (hq:w0.heap.size<=Q) (b0 b1 b2 b3 b4 b5 b6 b7 b8:Value) :
  Nine (((((((((w.setCell ⟨Q,0,none⟩ b0).setCell ⟨Q,1,none⟩ b1).setCell ⟨Q,2,none⟩ b2).setCell ⟨Q,3,none⟩ b3).setCell ⟨Q,4,none⟩ b4).setCell ⟨Q,5,none⟩ b5).setCell ⟨Q,6,none⟩ b6).setCell ⟨Q,7,none⟩ b7).setCell ⟨Q,8,none⟩ b8) Q b0 b1 b2 b3 b4 b5 b6 b7 b8 /\
  Below w0.heap.size w0 (((((((((w.setCell ⟨Q,0,none⟩ b0).setCell ⟨Q,1,none⟩ b1).setCell ⟨Q,2,none⟩ b2).setCell ⟨Q,3,none⟩ b3).setCell ⟨Q,4,none⟩ b4).setCell ⟨Q,5,none⟩ b5).setCell ⟨Q,6,none⟩ b6).setCell ⟨Q,7,none⟩ b7).setCell ⟨Q,8,none⟩ b8) /\
  Zaa (λ i=>i=Q) w (((((((((w.setCell ⟨Q,0,none⟩ b0).setCell ⟨Q,1,none⟩ b1).setCell ⟨Q,2,none⟩ b2).setCell ⟨Q,3,none⟩ b3).setCell ⟨Q,4,none⟩ b4).setCell ⟨Q,5,none⟩ b5).setCell ⟨Q,6,none⟩ b6).setCell ⟨Q,7,none⟩ b7).setCell ⟨Q,8,none⟩ b8):=by
 have ht:=Zad w Q b0 b1 b2 b3 b4 b5 b6 b7 b8;exact ⟨h.put9 _ _ _ _ _ _ _ _ _,hb.trans (ht.below hb.size (λ k hk q=>by have q':k=Q:=q; omega)),ht⟩
theorem ZhZ {S:Nat->Prop} {w w':World} {B:Nat} {a0 a1 a2 a3 a4 a5:Value} (h:Six w B a0 a1 a2 a3 a4 a5) (ht:Zaa S w w') (hS:¬ S B):Six w' B a0 a1 a2 a3 a4 a5:=(ht.block B h.lt hS).trans h
structure RO (Z:Nat->Prop) (w:World) (d:Dk) (ga:Option Addr) (gl gc:Nat) (la:Option Addr) (ln lc:Nat) (file:Bs) (fa:Option Addr) (fl fc:Nat) (oa:Option Addr) (on oc:Nat) (ra:Option Addr) (rn rc:Nat) (ta:Option Addr) (tn tc:Nat) (st:St) (u:World):Prop where
 bel:Below w.heap.size w u
 dbx:BoxA u w.heap.size 28 (dkC d (.slice ga gl gc))
 res:Nine u (w.heap.size+1) nilV (.int .i64 0) (.bool false) (.bool false) (.int .i64 0) (.int .i64 0) nilV nilV nilV
 box:Zbg u (w.heap.size+2) d (.slice fa fl fc) (.slice oa on oc) (.slice ra rn rc) (.slice ta tn tc)
 dk:LG encF (Z3 Z w) u ga gl gc d.files
 f:LG encF (Z3 Z w) u fa fl fc d.files
 o:LG encO (Z3 Z w) u oa on oc st.objs
 r:LG encN (Z3 Z w) u ra rn rc st.refs
 t:LG encN (Z3 Z w) u ta tn tc st.tags
 fr:LG encR (Z3 Z w) u la ln lc (fcut file).1
section
variable {Z:Nat->Prop} {w u u':World} {d:Dk} {ga:Option Addr} {gl gc:Nat} {la:Option Addr} {ln lc:Nat} {file:Bs} {fa:Option Addr} {fl fc:Nat} {oa:Option Addr} {on oc:Nat} {ra:Option Addr} {rn rc:Nat} {ta:Option Addr} {tn tc:Nat} {st:St}
theorem RO.next (h:RO Z w d ga gl gc la ln lc file fa fl fc oa on oc ra rn rc ta tn tc st u) (hb:Below u.heap.size u u'):RO Z w d ga gl gc la ln lc file fa fl fc oa on oc ra rn rc ta tn tc st u' :=
 ⟨h.bel.trans (hb.mono h.bel.size),h.dbx.below hb h.dbx.lt,h.res.below hb h.res.lt,h.box.below hb h.box.lt,h.dk.below hb,h.f.below hb,h.o.below hb,h.r.below hb,h.t.below hb,h.fr.below hb⟩
def Zw (Z:Nat->Prop) (w:World) (X:Nat):Nat->Prop:=λ i=>Z3 Z w i∨i=X
theorem RO.rmsx (h:RO Z w d ga gl gc la ln lc file fa fl fc oa on oc ra rn rc ta tn tc st u) (hb:Below u.heap.size u u'):RMS (Zw Z w u.heap.size) u' (rm d (.slice fa fl fc) (.slice oa on oc) (.slice ra rn rc) (.slice ta tn tc)) st d:=by
 have hz:∀ i,i<u.heap.size->Zw Z w u.heap.size i->Z3 Z w i:=λ i hi q=>q.elim (λ q=>q) (λ q=>by omega)
 exact ⟨fa,fl,fc,oa,on,oc,ra,rn,rc,ta,tn,tc,rfl,(h.f.into hz).below hb,(h.o.into hz).below hb,(h.r.into hz).below hb,(h.t.into hz).below hb⟩
theorem RO.lay {fa1:Option Addr} {fl1 fc1:Nat} {oa1:Option Addr} {on1 oc1:Nat} {ra1:Option Addr} {rn1 rc1:Nat} {ta1:Option Addr} {tn1 tc1:Nat} {st':St} (h:RO Z w d ga gl gc la ln lc file fa fl fc oa on oc ra rn rc ta tn tc st u) (ht:Zaa (λ i=>i=w.heap.size+2) u u') (hn:Zbg u' (w.heap.size+2) d (.slice fa1 fl1 fc1) (.slice oa1 on1 oc1) (.slice ra1 rn1 rc1) (.slice ta1 tn1 tc1)) (q1:LG encF (Z3 Z w) u fa1 fl1 fc1 d.files) (q2:LG encO (Z3 Z w) u oa1 on1 oc1 st'.objs) (q3:LG encN (Z3 Z w) u ra1 rn1 rc1 st'.refs) (q4:LG encN (Z3 Z w) u ta1 tn1 tc1 st'.tags):RO Z w d ga gl gc la ln lc file fa1 fl1 fc1 oa1 on1 oc1 ra1 rn1 rc1 ta1 tn1 tc1 st' u':=by
 have hz:∀ i,i=w.heap.size+2->Z3 Z w i:=λ i q=>.inr (by omega)
 exact ⟨h.bel.trans (ht.below h.bel.size (λ k hk q=>by have q':k=w.heap.size+2:=q; omega)),h.dbx.turned ht (by omega),h.res.turned ht (by omega),hn,h.dk.turned ht hz,q1.turned ht hz,q2.turned ht hz,q3.turned ht hz,q4.turned ht hz,h.fr.turned ht hz⟩
theorem RO.rms (h:RO Z w d ga gl gc la ln lc file fa fl fc oa on oc ra rn rc ta tn tc st u):RMS (Z3 Z w) u (rm d (.slice fa fl fc) (.slice oa on oc) (.slice ra rn rc) (.slice ta tn tc)) st d:=⟨fa,fl,fc,oa,on,oc,ra,rn,rc,ta,tn,tc,rfl,h.f,h.o,h.r,h.t⟩
end
theorem Zii {Z:Nat->Prop} {w:World} {v:Value} {d:Dk} (hZ:∀ i,Z i->i<w.heap.size) (h:RVS Z w v d) (hk:d.ok) (hw:d.writes<=1000000) :
  Calls Tryz.prog 36 #[v] w λ e w'=>∃ m' r,e=.returned (.tuple #[m',.int .i64 r])/\Hid (r=(sopen d).2.2/\RMS Z w' m' (sopen d).1 (sopen d).2.1/\Below w.heap.size w w'):=by
 obtain ⟨ga,gl,gc,rfl,hgl,hgc,hgr,hgf⟩:=h
 have hg:LG encF Z w ga gl gc d.files:=⟨hgl,hgc,hgr,hgf⟩
 obtain ⟨W,hW⟩:∃ W,((w.alloc (.cells (dkC d (.slice ga gl gc)) 28)).alloc zeroC).alloc (nineC d (.slice ga gl gc) nilV nilV nilV)=W:=⟨_,rfl⟩
 have NB:Hid (BoxA W w.heap.size 28 (dkC d (.slice ga gl gc))/\Nine W (w.heap.size+1) nilV (.int .i64 0) (.bool false) (.bool false) (.int .i64 0) (.int .i64 0) nilV nilV nilV/\Zbg W (w.heap.size+2) d (.slice ga gl gc) nilV nilV nilV/\Below w.heap.size w W):=by
  rw [<- hW];exact ZbE _ _ _ _ _ _ _
 have HW:Hid (((w.alloc (.cells (dkC d (.slice ga gl gc)) 28)).alloc zeroC).alloc (nineC d (.slice ga gl gc) nilV nilV nilV)=W):=hW;clear hW
 obtain ⟨file,hfile⟩:∃ file,ofile d=file:=⟨_,rfl⟩
 have HF:Hid (ofile d=file/\d.ok/\d.writes<=1000000/\(∀ i,Z3 Z w i->i<w.heap.size+3)):=⟨hfile,hk,hw,z3_lt hZ⟩
 have hfl:file.length<=262144:=by
  rw [<- hfile];unfold ofile
  cases e:fget d.files fileN with
  | none=>exact Nat.zero_le _
  | some b=>exact hk.get e
 have hda:Hid (Calls Tryz.prog 111 #[rv ga gl gc d,tx fileN] W λ e w'=>e=.returned (tx file)/\Below W.heap.size W w'):=by
  rw [<- hfile];unfold ofile
  cases e:fget d.files fileN with
  | none=>exact ZdB d fileN W (hgr.below NB.out.2.2.2) hgl (by have:=hk.few; omega) e
  | some b=>exact Zbn d fileN W (hgr.below NB.out.2.2.2) hgl (by have:=hk.few; omega) e
 obtain ⟨fb,hfb⟩:∃ fb:ByteArray,tx file=.string fb:=⟨_,rfl⟩
 rw [hfb] at hda
 have hsz:fb.size=file.length:=by
  cases hfb;show file.toArray.size=_;simp
 have hcu:Hid (∀ u,Calls Tryz.prog 112 #[.string fb] u λ e w'=>∃ (a:Option Addr) (c:Nat) (n r:Int),e=.returned (.tuple #[.slice a (fcut file).1.length c,.int .i64 n,.int .i64 r])/\Hid (OwnG encR 214 w' u.heap.size (.slice a (fcut file).1.length c) (fcut file).1/\Below u.heap.size u w')):=by
  intro u;rw [<- hfb];refine (Zho file u (by omega)).mono ?_;rintro e w' ⟨lv,rfl,X⟩;obtain ⟨a,c,rfl,_⟩:=OwnG.form X.out.1;exact ⟨a,c,_,_,rfl,X.out⟩
 obtain ⟨ln,hln⟩:∃ ln,(fcut file).1.length=ln:=⟨_,rfl⟩
 rw [hln] at hcu
 have hl9:ln<=1000000:=by
  have:=Zhy _ file (Nat.le_refl _);omega
 have hl0:Hid (LG encF (Z3 Z w) W ga gl gc d.files):=(hg.into z3_in).below NB.out.2.2.2;clear hgl hgc hgr hgf hg hk hw hZ hfile hfb;have x0:=NB.out.1.cell (j:=0) rfl;have x1:=NB.out.1.cell (j:=1) rfl;have x2:=NB.out.1.cell (j:=2) rfl;have x3:=NB.out.1.cell (j:=3) rfl;have x4:=NB.out.1.cell (j:=4) rfl;have x5:=NB.out.1.cell (j:=5) rfl;go_enter Tryz.func36,Tryz.ntmps36
 go_upto_region 2 with fail
 rw [HW.out];clear HW;go_wp2_with fail;refine hda.out.mono ?_;rintro e w1 ⟨rfl,b1⟩;go_wp2_with fail;refine (hcu.out w1).mono ?_;rintro e w2 ⟨la,lc,n2,r2,rfl,X2⟩
 have T2:Hid (RO Z w d ga gl gc la ln lc file ga gl gc none 0 0 none 0 0 none 0 0 st0 w2):=by
  have bb:Below W.heap.size W w2:=b1.trans (X2.out.2.mono b1.size);obtain ⟨a',c',e',lg⟩:=LG.ofOwn X2.out.1 (Z:=Z3 Z w) (λ i q=>by have:=HF.out.2.2.2 i q; have:=NB.out.2.2.1.lt; have:=b1.size; omega);rw [hln] at e' lg;cases e';exact ⟨NB.out.2.2.2.trans (bb.mono NB.out.2.2.2.size),NB.out.1.below bb NB.out.1.lt,NB.out.2.1.below bb NB.out.2.1.lt,NB.out.2.2.1.below bb NB.out.2.2.1.lt,hl0.out.below bb,hl0.out.below bb,Zca _ _ _,Zca _ _ _,Zca _ _ _,lg⟩
 have HL:Hid ((fcut file).1.length=ln):=hln;clear b1 X2 x0 x1 x2 x3 x4 x5 hda hcu hl0 NB hln
 obtain ⟨B2,hB2⟩:∃ B2,w.heap.size+2=B2:=⟨_,rfl⟩
 rw [hB2];have HB:Hid (w.heap.size+2=B2):=hB2;clear hB2
 go_upto_block 0 with fail
 go_cut [9] from 25 to 51 (λ pv u=>∃ p:Nat,pv=.int .i64 (p:Int)/\Hid (∃ fa fl fc oa on oc ra rn rc ta tn tc st,RO Z w d ga gl gc la ln lc file fa fl fc oa on oc ra rn rc ta tn tc st u/\sread st0 file=(st,p)))
 case first =>
  go_wp2_with fail;go_loopg [9,10] ln (λ m pv iv wr=>∃ p i:Nat,pv=.int .i64 (p:Int)/\iv=.int .i64 (i:Int)/\i+m=ln/\Hid (∃ fa fl fc oa on oc ra rn rc ta tn tc st,RO Z w d ga gl gc la ln lc file fa fl fc oa on oc ra rn rc ta tn tc st wr/\ZcA file i p st))
  case atStart=>exact ⟨0,0,rfl,rfl,by omega,_,_,_,_,_,_,_,_,_,_,_,_,_,T2.out,ZcA.start file⟩
  case round =>
   obtain ⟨p,i,rfl,rfl,hi,HR⟩:=hrel;clear T2;obtain ⟨fa,fl,fc,oa,on,oc,ra,rn,rc,ta,tn,tc,st,hro,hct⟩:=HR.out
   have I:Hid (RO Z w d ga gl gc la ln lc file fa fl fc oa on oc ra rn rc ta tn tc st wr/\ZcA file i p st):=⟨hro,hct⟩
   clear HR hro hct;by_cases hin:i<ln
   ·have id:(i:Int)<(ln:Int):=by omega
    have id0:(0:Int)<=(i:Int):=by omega
    obtain ⟨⟨fk,fbd⟩,hf⟩:=Zaf HL.out hin;obtain ⟨lb,lo,rfl,hlt⟩:=I.out.1.fr.rd.some_of hf;obtain ⟨hbw,c0,c1⟩:=I.out.1.fr.rd.rframes hf;simp only at c0 c1;obtain ⟨h1,h2,h3,h4,h5⟩:=I.out.2.here hf;simp only at h4 h5;have hps:=I.out.2.rd.size
    have hrf:=λ (Z':Nat->Prop) (u:World) (hz:∀ i,Z' i->i<u.heap.size) (hu:RMS Z' u (rm d (.slice fa fl fc) (.slice oa on oc) (.slice ra rn rc) (.slice ta tn tc)) st d)=>ZfM hz hu (by omega) fk fbd (by omega)
    obtain ⟨fbo,hfbo⟩:∃ fbo:ByteArray,tx fbd=.string fbo:=⟨_,rfl⟩
    obtain ⟨g,hg⟩:∃ g,st.fits (fk,fbd)=g:=⟨_,rfl⟩
    obtain ⟨st',hst'⟩:∃ st',(if st.fits (fk,fbd) then st.take (fk,fbd) else st)=st':=⟨_,rfl⟩
    rw [hst',hg,hfbo] at hrf;rw [hfbo] at c1
    have fsz:fbo.size=fbd.length:=by
     cases hfbo;show fbd.toArray.size=_;simp
    have HQ:Hid ((fcut file).1[i]? = some (fk,fbd)/\st.fits (fk,fbd)=g/\(if st.fits (fk,fbd) then st.take (fk,fbd) else st)=st'/\p+(fbd.length+9)<=300000/\fbo.size=fbd.length):=⟨hf,hg,hst',by have:=Zbh h2; rw [List.length_drop] at this; omega,fsz⟩
    have RF:Hid (∀ (Z':Nat->Prop) (u:World),(∀ i,Z' i->i<u.heap.size)->RMS Z' u (rm d (.slice fa fl fc) (.slice oa on oc) (.slice ra rn rc) (.slice ta tn tc)) st d->Calls Tryz.prog 113 #[rm d (.slice fa fl fc) (.slice oa on oc) (.slice ra rn rc) (.slice ta tn tc),.agg #[.int .i64 fk,.string fbo]] u λ e w'=>∃ m',e=.returned (.tuple #[m',.bool g])/\Hid (RMS Z' w' m' st' d/\Below u.heap.size u w')):=hrf;have FO:Hid (tx fbd=.string fbo):=hfbo;clear hf h1 h2 h3 h4 h5 hps hrf hfbo hg hst' fsz
    have hBl:B2<wr.heap.size:=by rw [<- HB.out]; exact I.out.1.box.lt
    have KS:Hid (∀ u,Below wr.heap.size wr u->u.cell? ⟨B2,0,none⟩=some (.slice fa fl fc)/\u.cell? ⟨B2,1,none⟩=some (.int .i64 (d.writes:Int))/\u.cell? ⟨B2,2,none⟩=some (.bool d.armed)/\u.cell? ⟨B2,3,none⟩=some (.bool d.dead)/\u.cell? ⟨B2,4,none⟩=some (.int .i64 (d.after:Int))/\u.cell? ⟨B2,5,none⟩=some (.int .i64 (d.keep:Int))/\u.cell? ⟨B2,6,none⟩=some (.slice oa on oc)/\u.cell? ⟨B2,7,none⟩=some (.slice ra rn rc)/\u.cell? ⟨B2,8,none⟩=some (.slice ta tn tc)/\u.cell? ⟨lb,lo+i*2,none⟩=some (.int .i64 fk)/\u.cell? ⟨lb,lo+i*2+1,none⟩=some (.string fbo)):=by
     intro u hu;obtain ⟨k0,k1,k2,k3,k4,k5,k6,k7,k8⟩:=(I.out.1.next hu).box.cells;rw [HB.out] at k0 k1 k2 k3 k4 k5 k6 k7 k8;exact ⟨k0,k1,k2,k3,k4,k5,k6,k7,k8,(hu.cell (p:=⟨lb,lo+i*2,none⟩) hbw).trans c0,(hu.cell (p:=⟨lb,lo+i*2+1,none⟩) hbw).trans c1⟩
    obtain ⟨k0,k1,k2,k3,k4,k5,k6,k7,k8,k9,k10⟩:=KS.out wr (Below.refl _ _)
    go_upto_region 8 with fail
    go_cut [11,12] from 25 to 51 (λ xv ov u=>ov=.bool g/\∃ X fa1 fl1 fc1 oa1 on1 oc1 ra1 rn1 rc1 ta1 tn1 tc1,xv=.pointer (some ⟨X,0,none⟩)/\Hid (Zbg u X d (.slice fa1 fl1 fc1) (.slice oa1 on1 oc1) (.slice ra1 rn1 rc1) (.slice ta1 tn1 tc1)/\wr.heap.size<=X/\RO Z w d ga gl gc (some ⟨lb,lo,none⟩) ln lc file fa fl fc oa on oc ra rn rc ta tn tc st u/\LG encF (Z3 Z w) u fa1 fl1 fc1 d.files/\LG encO (Z3 Z w) u oa1 on1 oc1 st'.objs/\LG encN (Z3 Z w) u ra1 rn1 rc1 st'.refs/\LG encN (Z3 Z w) u ta1 tn1 tc1 st'.tags))
    case first =>
     clear k0 k1 k2 k3 k4 k5 k6 k7 k8 k9 k10
     have WB:Hid (Below wr.heap.size wr wr.drew/\(∀ i,Z3 Z w i->i<wr.drew.heap.size)/\RMS (Z3 Z w) wr.drew (rm d (.slice fa fl fc) (.slice oa on oc) (.slice ra rn rc) (.slice ta tn tc)) st d):=⟨(Below.refl _ wr).drew,λ i q=>by have:=HF.out.2.2.2 i q; have:=(I.out.1.next (Below.refl _ wr).drew).box.lt; omega,(I.out.1.next (Below.refl _ wr).drew).rms⟩
     have WA:Hid (Below wr.heap.size wr (wr.alloc zeroC).drew/\Nine (wr.alloc zeroC).drew wr.heap.size nilV (.int .i64 0) (.bool false) (.bool false) (.int .i64 0) (.int .i64 0) nilV nilV nilV/\(∀ i,Zw Z w wr.heap.size i->i<(wr.alloc zeroC).drew.heap.size)/\RMS (Zw Z w wr.heap.size) (wr.alloc zeroC).drew (rm d (.slice fa fl fc) (.slice oa on oc) (.slice ra rn rc) (.slice ta tn tc)) st d):=⟨(bz1 wr _).drew,Zfv wr,λ i q=>by have:=(Zfv wr).lt; have:=I.out.1.box.lt; exact q.elim (λ q=>by have:=HF.out.2.2.2 i q; omega) (λ q=>by omega),I.out.1.rmsx (bz1 wr _).drew⟩
     have kS0:=KS.out _ WB.out.1;have kS1:=KS.out _ WA.out.1
     go_region_held3 (λ u=>u.cell? ⟨B2,0,none⟩=some (.slice fa fl fc)/\u.cell? ⟨B2,1,none⟩=some (.int .i64 (d.writes:Int))/\u.cell? ⟨B2,2,none⟩=some (.bool d.armed)/\u.cell? ⟨B2,3,none⟩=some (.bool d.dead)/\u.cell? ⟨B2,4,none⟩=some (.int .i64 (d.after:Int))/\u.cell? ⟨B2,5,none⟩=some (.int .i64 (d.keep:Int))/\u.cell? ⟨B2,6,none⟩=some (.slice oa on oc)/\u.cell? ⟨B2,7,none⟩=some (.slice ra rn rc)/\u.cell? ⟨B2,8,none⟩=some (.slice ta tn tc)/\u.cell? ⟨lb,lo+i*2,none⟩=some (.int .i64 fk)/\u.cell? ⟨lb,lo+i*2+1,none⟩=some (.string fbo))
      (first | with_reducible exact kS0 | with_reducible exact kS1 | with_reducible exact kS3 | with_reducible exact kS4 | with_reducible exact kS5)
      (first
       | (go_at_call 113; (with_reducible refine (RF.out _ _ WA.out.2.2.1 WA.out.2.2.2).mono ?_); rintro e w3 ⟨m3,rfl,X3⟩; obtain ⟨fa1,fl1,fc1,oa1,on1,oc1,ra1,rn1,rc1,ta1,tn1,tc1,em,q1,q2,q3,q4⟩:=X3.out.1; subst em; have W3:Hid (Below wr.heap.size wr w3/\Nine w3 wr.heap.size nilV (.int .i64 0) (.bool false) (.bool false) (.int .i64 0) (.int .i64 0) nilV nilV nilV/\LG encF (Zw Z w wr.heap.size) w3 fa1 fl1 fc1 d.files/\LG encO (Zw Z w wr.heap.size) w3 oa1 on1 oc1 st'.objs/\LG encN (Zw Z w wr.heap.size) w3 ra1 rn1 rc1 st'.refs/\LG encN (Zw Z w wr.heap.size) w3 ta1 tn1 tc1 st'.tags):=⟨WA.out.1.trans (X3.out.2.mono WA.out.1.size),WA.out.2.1.below X3.out.2 WA.out.2.1.lt,q1,q2,q3,q4⟩; have kS3:=KS.out _ W3.out.1; have LD:Hid _:=ZfC W3.out.2.1 W3.out.1 (Nat.le_refl _) (.slice fa1 fl1 fc1) (.int .i64 (d.writes:Int)) (.bool d.armed) (.bool d.dead) (.int .i64 (d.after:Int)) (.int .i64 (d.keep:Int)) (.slice oa1 on1 oc1) (.slice ra1 rn1 rc1) (.slice ta1 tn1 tc1); have kS4:=KS.out _ LD.out.2.1; obtain ⟨z0,z1,z2,z3,z4,z5,z6,z7,z8⟩:=W3.out.2.1.cells; have gz:=W3.out.2.1.thaw; have g0:=gz 0; have g1:=gz 1; have g2:=gz 2; have g3:=gz 3; have g4:=gz 4; have g5:=gz 5; have g6:=gz 6; have g7:=gz 7; have g8:=gz 8; clear gz q1 q2 q3 q4 X3)
       | (go_at_call 113; (with_reducible refine (RF.out _ _ WB.out.2.1 WB.out.2.2).mono ?_); rintro e w3 ⟨m3,rfl,X3⟩; obtain ⟨fa1,fl1,fc1,oa1,on1,oc1,ra1,rn1,rc1,ta1,tn1,tc1,em,q1,q2,q3,q4⟩:=X3.out.1; subst em; have W3:Hid (Below wr.heap.size wr w3/\LG encF (Z3 Z w) w3 fa1 fl1 fc1 d.files/\LG encO (Z3 Z w) w3 oa1 on1 oc1 st'.objs/\LG encN (Z3 Z w) w3 ra1 rn1 rc1 st'.refs/\LG encN (Z3 Z w) w3 ta1 tn1 tc1 st'.tags):=⟨WB.out.1.trans (X3.out.2.mono WB.out.1.size),q1,q2,q3,q4⟩; have kS3:=KS.out _ W3.out.1; have kS4:=KS.out (w3.alloc zeroC) (W3.out.1.trans ((bz1 w3 _).mono W3.out.1.size)); have kS5:=KS.out (w3.alloc (nineC d (.slice fa1 fl1 fc1) (.slice oa1 on1 oc1) (.slice ra1 rn1 rc1) (.slice ta1 tn1 tc1))) (W3.out.1.trans ((bz1 w3 _).mono W3.out.1.size)); clear q1 q2 q3 q4 X3))
     all_goals
      go_wp2_with fail;go_meet
      first
       | exact ⟨rfl,_,_,_,_,_,_,_,_,_,_,_,_,_,rfl,LD.out.1,Nat.le_refl _,I.out.1.next LD.out.2.1,(W3.out.2.2.1.turned LD.out.2.2 (λ i q=>.inr q)).mono (λ i q=>.inl q),(W3.out.2.2.2.1.turned LD.out.2.2 (λ i q=>.inr q)).mono (λ i q=>.inl q),(W3.out.2.2.2.2.1.turned LD.out.2.2 (λ i q=>.inr q)).mono (λ i q=>.inl q),(W3.out.2.2.2.2.2.turned LD.out.2.2 (λ i q=>.inr q)).mono (λ i q=>.inl q)⟩
       | exact ⟨rfl,_,_,_,_,_,_,_,_,_,_,_,_,_,rfl,Nine.new w3 _ _ _ _ _ _ _ _ _,W3.out.1.size,I.out.1.next (W3.out.1.trans ((bz1 w3 _).mono W3.out.1.size)),W3.out.2.1.below (bz1 _ _),W3.out.2.2.1.below (bz1 _ _),W3.out.2.2.2.1.below (bz1 _ _),W3.out.2.2.2.2.below (bz1 _ _)⟩
    case rest =>
     obtain ⟨rfl,X,fa1,fl1,fc1,oa1,on1,oc1,ra1,rn1,rc1,ta1,tn1,tc1,rfl,J⟩:=hcut;clear k0 k1 k2 k3 k4 k5 k6 k7 k8 k9 k10 KS RF
     cases g with
     | false =>
      go_wp2;go_meet;exact ⟨p,rfl,_,_,_,_,_,_,_,_,_,_,_,_,st,J.out.2.2.1,I.out.2.stop HQ.out.1 HQ.out.2.1⟩
     | true =>
      obtain ⟨bl,hbl⟩:∃ bl,fbo.size=bl:=⟨_,rfl⟩
      have hb9:p+(bl+9)<=300000:=by rw [<- hbl,HQ.out.2.2.2.2]; exact HQ.out.2.2.2.1
      obtain ⟨y0,y1,y2,y3,y4,y5,y6,y7,y8⟩:=J.out.1.cells;have jb:=J.out.2.2.1.box;rw [HB.out] at jb;obtain ⟨z0,z1,z2,z3,z4,z5,z6,z7,z8⟩:=jb.cells;have fz:=jb.thaw;have f0:=fz 0;have f1:=fz 1;have f2:=fz 2;have f3:=fz 3;have f4:=fz 4;have f5:=fz 5;have f6:=fz 6;have f7:=fz 7;have f8:=fz 8;clear fz
      have hXB:X≠B2:=by have:=J.out.2.1; omega
      have hXB':B2≠X:=λ q=>hXB q.symm
      have hBlt:B2<wc.heap.size:=jb.lt
      have hlB:lb≠B2:=λ q=>I.out.1.fr.far (by omega) _ rfl (.inr (by have:=HB.out; simp only; omega))
      clear jb;have LN:=ZfC (w0:=w) (J.out.2.2.1.box) J.out.2.2.1.bel (by omega) (.slice fa1 fl1 fc1) (.int .i64 (d.writes:Int)) (.bool d.armed) (.bool d.dead) (.int .i64 (d.after:Int)) (.int .i64 (d.keep:Int)) (.slice oa1 on1 oc1) (.slice ra1 rn1 rc1) (.slice ta1 tn1 tc1);rw [HB.out] at LN
      obtain ⟨w5,hw5⟩:∃ w5,(((((((((wc.setCell ⟨B2,0,none⟩ (.slice fa1 fl1 fc1)).setCell ⟨B2,1,none⟩ (.int .i64 (d.writes:Int))).setCell ⟨B2,2,none⟩ (.bool d.armed)).setCell ⟨B2,3,none⟩ (.bool d.dead)).setCell ⟨B2,4,none⟩ (.int .i64 (d.after:Int))).setCell ⟨B2,5,none⟩ (.int .i64 (d.keep:Int))).setCell ⟨B2,6,none⟩ (.slice oa1 on1 oc1)).setCell ⟨B2,7,none⟩ (.slice ra1 rn1 rc1)).setCell ⟨B2,8,none⟩ (.slice ta1 tn1 tc1))=w5:=⟨_,rfl⟩
      rw [hw5] at LN
      have T5:Hid (RO Z w d ga gl gc (some ⟨lb,lo,none⟩) ln lc file fa1 fl1 fc1 oa1 on1 oc1 ra1 rn1 rc1 ta1 tn1 tc1 st' w5):=by
       rw [<- HB.out] at LN;exact J.out.2.2.1.lay LN.2.2 LN.1 J.out.2.2.2.1 J.out.2.2.2.2.1 J.out.2.2.2.2.2.1 J.out.2.2.2.2.2.2
      have c5:w5.cell? ⟨lb,lo+i*2+1,none⟩=some (.string fbo):=by
       have:=(T5.out.fr.rd.rframes HQ.out.1).2.2;rw [FO.out] at this;exact this
      have HW5:Hid ((((((((((wc.setCell ⟨B2,0,none⟩ (.slice fa1 fl1 fc1)).setCell ⟨B2,1,none⟩ (.int .i64 (d.writes:Int))).setCell ⟨B2,2,none⟩ (.bool d.armed)).setCell ⟨B2,3,none⟩ (.bool d.dead)).setCell ⟨B2,4,none⟩ (.int .i64 (d.after:Int))).setCell ⟨B2,5,none⟩ (.int .i64 (d.keep:Int))).setCell ⟨B2,6,none⟩ (.slice oa1 on1 oc1)).setCell ⟨B2,7,none⟩ (.slice ra1 rn1 rc1)).setCell ⟨B2,8,none⟩ (.slice ta1 tn1 tc1))=w5):=hw5;clear LN hw5
      go_upto_region 11 with fail
      rw [HW5.out];clear HW5 y0 y1 y2 y3 y4 y5 y6 y7 y8 z0 z1 z2 z3 z4 z5 z6 z7 z8 f0 f1 f2 f3 f4 f5 f6 f7 f8 J;go_wp2;go_roundg (gk - 1)
      case measure=>omega
      case rel =>
       refine ⟨p+(bl+9),i+1,by go_num,by go_num,by omega,_,_,_,_,_,_,_,_,_,_,_,_,st',T5.out,?_⟩;have e1:=HQ.out.2.2.1;rw [HQ.out.2.1,if_pos rfl] at e1;have q:=I.out.2.step HQ.out.1 HQ.out.2.1;rw [e1] at q
       have e2:bl=fbd.length:=by rw [<- hbl]; exact HQ.out.2.2.2.2
       rw [e2];exact q
   ·obtain rfl:ln=i:=by omega
    go_wp2;go_meet;exact ⟨p,rfl,_,_,_,_,_,_,_,_,_,_,_,_,st,I.out.1,I.out.2.done (by rw [HL.out]; exact Nat.le_refl _)⟩
 case rest =>
  obtain ⟨p,rfl,HR⟩:=hcut;obtain ⟨fa,fl,fc,oa,on,oc,ra,rn,rc,ta,tn,tc,st,hro,hrd⟩:=HR.out
  have I:Hid (RO Z w d ga gl gc la ln lc file fa fl fc oa on oc ra rn rc ta tn tc st wc/\sread st0 file=(st,p)):=⟨hro,hrd⟩
  clear HR hro hrd T2
  obtain ⟨B1,hB1⟩:∃ B1,w.heap.size+1=B1:=⟨_,rfl⟩
  have HB1:Hid (w.heap.size+1=B1):=hB1;have jr:=I.out.1.res;rw [HB1.out] at jr;have jb:=I.out.1.box;rw [HB.out] at jb;rw [hB1];clear hB1;by_cases hp:p<file.length
  ·have id:(p:Int)<(fb.size:Int):=by rw [hsz]; omega
   obtain ⟨d',hd'⟩:∃ d',(dtrim d fileN (p:Int)).1=d':=⟨_,rfl⟩
   obtain ⟨cd,hcd⟩:∃ cd,(dtrim d fileN (p:Int)).2=cd:=⟨_,rfl⟩
   have HS:Hid (sopen d=(if cd=0 then st else st0,d',cd)):=by
    unfold sopen;rw [HF.out.1,I.out.2,hd',hcd,if_pos hp];exact rfl
   have htr:=ZjD (S:=Z3 Z w) (λ i q=>by have:=HF.out.2.2.2 i q; have:=I.out.1.box.lt; omega) (RMS.rvs I.out.1.dk) HF.out.2.1 (by have:=HF.out.2.2.1; omega) fileN (p:Int) (by decide);rw [hd',hcd] at htr;have x0:=I.out.1.dbx.cell (j:=0) rfl;have x1:=I.out.1.dbx.cell (j:=1) rfl;have x2:=I.out.1.dbx.cell (j:=2) rfl;have x3:=I.out.1.dbx.cell (j:=3) rfl;have x4:=I.out.1.dbx.cell (j:=4) rfl;have x5:=I.out.1.dbx.cell (j:=5) rfl;clear hd' hcd;go_wp2_with fail;refine htr.mono ?_;rintro e w4 ⟨v4,rfl,V4,B4⟩;obtain ⟨a2,n2,c2,rfl,q1,q2,q3,q4⟩:=V4
   have P2:Hid (RO Z w d ga gl gc la ln lc file fa fl fc oa on oc ra rn rc ta tn tc st w4/\LG encF (Z3 Z w) w4 a2 n2 c2 d'.files):=⟨I.out.1.next B4,⟨q1,q2,q3,q4⟩⟩
   clear htr B4 q1 q2 q3 q4 x0 x1 x2 x3 x4 x5 jr jb
   obtain ⟨wA,hwA⟩:∃ wA,w4.alloc (.cells #[.slice a2 n2 c2,.int .i64 (d'.writes:Int),.bool d'.armed,.bool d'.dead,.int .i64 (d'.after:Int),.int .i64 (d'.keep:Int)] 28)=wA:=⟨_,rfl⟩
   obtain ⟨BX,hBX⟩:∃ BX,w4.heap.size=BX:=⟨_,rfl⟩
   have bA:Below w4.heap.size w4 wA:=by rw [<- hwA]; exact bz1 _ _
   have sx:Six wA BX (.slice a2 n2 c2) (.int .i64 (d'.writes:Int)) (.bool d'.armed) (.bool d'.dead) (.int .i64 (d'.after:Int)) (.int .i64 (d'.keep:Int)):=by rw [<- hwA,<- hBX]; exact Six.new _ _ _ _ _ _ _
   have PA:Hid (RO Z w d ga gl gc la ln lc file fa fl fc oa on oc ra rn rc ta tn tc st wA/\LG encF (Z3 Z w) wA a2 n2 c2 d'.files/\Six wA BX (.slice a2 n2 c2) (.int .i64 (d'.writes:Int)) (.bool d'.armed) (.bool d'.dead) (.int .i64 (d'.after:Int)) (.int .i64 (d'.keep:Int))/\w.heap.size+2<BX):=⟨P2.out.1.next bA,P2.out.2.below bA,sx,by rw [<- hBX]; exact P2.out.1.box.lt⟩
   clear P2 bA sx;have jb:=PA.out.1.box;rw [HB.out] at jb;obtain ⟨z0,z1,z2,z3,z4,z5,z6,z7,z8⟩:=jb.cells;obtain ⟨y0,y1,y2,y3,y4,y5⟩:=PA.out.2.2.1.cells;have fz:=jb.thaw;have f0:=fz 0;have f1:=fz 1;have f2:=fz 2;have f3:=fz 3;have f4:=fz 4;have f5:=fz 5;clear fz;have l0:=jb.lt;have t5:=ZgR wA B2 (.slice a2 n2 c2) (.int .i64 (d'.writes:Int)) (.bool d'.armed) (.bool d'.dead) (.int .i64 (d'.after:Int)) (.int .i64 (d'.keep:Int));have p5:=jb.put (.slice a2 n2 c2) (.int .i64 (d'.writes:Int)) (.bool d'.armed) (.bool d'.dead) (.int .i64 (d'.after:Int)) (.int .i64 (d'.keep:Int))
   obtain ⟨w5,hw5⟩:∃ w5,((((((wA.setCell ⟨B2,0,none⟩ (.slice a2 n2 c2)).setCell ⟨B2,1,none⟩ (.int .i64 (d'.writes:Int))).setCell ⟨B2,2,none⟩ (.bool d'.armed)).setCell ⟨B2,3,none⟩ (.bool d'.dead)).setCell ⟨B2,4,none⟩ (.int .i64 (d'.after:Int))).setCell ⟨B2,5,none⟩ (.int .i64 (d'.keep:Int)))=w5:=⟨_,rfl⟩
   rw [hw5] at t5 p5
   have hz:∀ i,i=B2->Z3 Z w i:=λ i q=>.inr (by have:=HB.out; omega)
   have nX:¬ BX=B2:=by have:=HB.out; have:=PA.out.2.2.2; omega
   have P5:Hid (Below w.heap.size w w5/\Nine w5 B2 (.slice a2 n2 c2) (.int .i64 (d'.writes:Int)) (.bool d'.armed) (.bool d'.dead) (.int .i64 (d'.after:Int)) (.int .i64 (d'.keep:Int)) (.slice oa on oc) (.slice ra rn rc) (.slice ta tn tc)/\Nine w5 B1 nilV (.int .i64 0) (.bool false) (.bool false) (.int .i64 0) (.int .i64 0) nilV nilV nilV/\Six w5 BX (.slice a2 n2 c2) (.int .i64 (d'.writes:Int)) (.bool d'.armed) (.bool d'.dead) (.int .i64 (d'.after:Int)) (.int .i64 (d'.keep:Int))/\LG encF (Z3 Z w) w5 a2 n2 c2 d'.files/\LG encO (Z3 Z w) w5 oa on oc st.objs/\LG encN (Z3 Z w) w5 ra rn rc st.refs/\LG encN (Z3 Z w) w5 ta tn tc st.tags):=by
    refine ⟨PA.out.1.bel.trans (t5.below PA.out.1.bel.size (λ k hk q=>by have q':k=B2:=q; have:=HB.out; omega)),p5,?_,ZhZ PA.out.2.2.1 t5 nX,PA.out.2.1.turned t5 hz,PA.out.1.o.turned t5 hz,PA.out.1.r.turned t5 hz,PA.out.1.t.turned t5 hz⟩;have q:=PA.out.1.res;rw [HB1.out] at q;exact q.turned t5 (by have:=HB.out; have:=HB1.out; omega)
   have HW5:Hid (((((((wA.setCell ⟨B2,0,none⟩ (.slice a2 n2 c2)).setCell ⟨B2,1,none⟩ (.int .i64 (d'.writes:Int))).setCell ⟨B2,2,none⟩ (.bool d'.armed)).setCell ⟨B2,3,none⟩ (.bool d'.dead)).setCell ⟨B2,4,none⟩ (.int .i64 (d'.after:Int))).setCell ⟨B2,5,none⟩ (.int .i64 (d'.keep:Int)))=w5):=hw5;clear hw5 t5 p5 hz jb
   go_upto_region 15 with fail
   rw [HW5.out];clear HW5 hwA z0 z1 z2 z3 z4 z5 z6 z7 z8 y0 y1 y2 y3 y4 y5 f0 f1 f2 f3 f4 f5 l0;obtain ⟨z0,z1,z2,z3,z4,z5,z6,z7,z8⟩:=P5.out.2.2.1.cells;have gz:=P5.out.2.2.1.thaw;have g0:=gz 0;have g1:=gz 1;have g2:=gz 2;have g3:=gz 3;have g4:=gz 4;have g5:=gz 5;have g6:=gz 6;have g7:=gz 7;have g8:=gz 8;clear gz;have l2:=P5.out.2.2.1.lt
   have ne2:B2≠B1:=by have:=HB.out; have:=HB1.out; omega
   have ne3:B1≠B2:=λ q=>ne2 q.symm
   have ne4:BX≠B1:=by have:=HB1.out; have:=PA.out.2.2.2; omega
   have ne5:B1≠BX:=λ q=>ne4 q.symm
   by_cases hc:cd=0
   ·subst hc;obtain ⟨y0,y1,y2,y3,y4,y5,y6,y7,y8⟩:=P5.out.2.1.cells;go_wp2;refine bodyPost_ret (v:=.tuple #[rm d' (.slice a2 n2 c2) (.slice oa on oc) (.slice ra rn rc) (.slice ta tn tc),.int .i64 0]) ?_ rfl ⟨_,_,rfl,?_⟩
    ·simp [results,Tryz.f36];go_simp
    ·have t6:=Zad w5 B1 (.slice a2 n2 c2) (.int .i64 (d'.writes:Int)) (.bool d'.armed) (.bool d'.dead) (.int .i64 (d'.after:Int)) (.int .i64 (d'.keep:Int)) (.slice oa on oc) (.slice ra rn rc) (.slice ta tn tc);rw [HS.out,if_pos trivial]
     have R5:RMS (Z3 Z w) w5 (rm d' (.slice a2 n2 c2) (.slice oa on oc) (.slice ra rn rc) (.slice ta tn tc)) st d':=⟨_,_,_,_,_,_,_,_,_,_,_,_,rfl,P5.out.2.2.2.2.1,P5.out.2.2.2.2.2.1,P5.out.2.2.2.2.2.2.1,P5.out.2.2.2.2.2.2.2⟩
     exact ⟨rfl,(R5.turned t6 (λ i q=>.inr (by have:=HB1.out; have q':i=B1:=q; omega))).mono (λ i q=>.inl q),P5.out.1.trans (t6.below P5.out.1.size (λ k hk q=>by have:=HB1.out; have q':k=B1:=q; omega))⟩
   ·have hcb:(cd != 0)=true:=by simpa using hc
    obtain ⟨y0,y1,y2,y3,y4,y5⟩:=P5.out.2.2.2.1.cells;go_wp2;refine bodyPost_ret (v:=.tuple #[rm d' (.slice a2 n2 c2) nilV nilV nilV,.int .i64 cd]) ?_ rfl ⟨_,_,rfl,?_⟩
    ·simp [results,Tryz.f36];go_simp
    ·have t6:=Zad w5 B1 (.slice a2 n2 c2) (.int .i64 (d'.writes:Int)) (.bool d'.armed) (.bool d'.dead) (.int .i64 (d'.after:Int)) (.int .i64 (d'.keep:Int)) nilV nilV nilV;rw [HS.out,if_neg hc]
     have R5:RMS (Z3 Z w) w5 (rm d' (.slice a2 n2 c2) nilV nilV nilV) st0 d':=⟨_,_,_,_,_,_,_,_,_,_,_,_,rfl,P5.out.2.2.2.2.1,Zca _ _ _,Zca _ _ _,Zca _ _ _⟩
     exact ⟨rfl,(R5.turned t6 (λ i q=>.inr (by have:=HB1.out; have q':i=B1:=q; omega))).mono (λ i q=>.inl q),P5.out.1.trans (t6.below P5.out.1.size (λ k hk q=>by have:=HB1.out; have q':k=B1:=q; omega))⟩
  ·have id:¬ (p:Int)<(fb.size:Int):=by rw [hsz]; omega
   have HS:Hid (sopen d=(st,d,0)):=by
    unfold sopen;rw [HF.out.1,I.out.2,if_neg hp];exact rfl
   obtain ⟨y0,y1,y2,y3,y4,y5,y6,y7,y8⟩:=jb.cells;obtain ⟨z0,z1,z2,z3,z4,z5,z6,z7,z8⟩:=jr.cells;have gz:=jr.thaw;have g0:=gz 0;have g1:=gz 1;have g2:=gz 2;have g3:=gz 3;have g4:=gz 4;have g5:=gz 5;have g6:=gz 6;have g7:=gz 7;have g8:=gz 8;clear gz;have l2:=jr.lt
   have ne2:B2≠B1:=by have:=HB.out; have:=HB1.out; omega
   have ne3:B1≠B2:=λ q=>ne2 q.symm
   clear jb jr;go_wp2;refine bodyPost_ret (v:=.tuple #[rm d (.slice fa fl fc) (.slice oa on oc) (.slice ra rn rc) (.slice ta tn tc),.int .i64 0]) ?_ rfl ⟨_,_,rfl,?_⟩
   ·simp [results,Tryz.f36];go_simp
   ·have t5:=Zad wc B1 (.slice fa fl fc) (.int .i64 (d.writes:Int)) (.bool d.armed) (.bool d.dead) (.int .i64 (d.after:Int)) (.int .i64 (d.keep:Int)) (.slice oa on oc) (.slice ra rn rc) (.slice ta tn tc);rw [HS.out];exact ⟨rfl,(I.out.1.rms.turned t5 (λ i q=>.inr (by have:=HB1.out; have q':i=B1:=q; omega))).mono (λ i q=>.inl q),I.out.1.bel.trans (t5.below I.out.1.bel.size (λ k hk q=>by have:=HB1.out; have q':k=B1:=q; omega))⟩
section
variable {B:Nat} {E:Nat->Prop} {u u1:World} {s b:Nat} {fa:Option Addr} {fl fc:Nat} {vo vr vt xb xt xc:Value} {U:Nat->Prop} {st st':St} {d d':Dk} {bl tl cl:List UInt64} {T T' S':Nat->Prop} {s':Nat}
theorem WI.reopen (h:WI B E u s b (.slice fa fl fc) vo vr vt xb xt xc U st d bl tl cl) (hBu:B<=u.heap.size) (hTU:∀ i,T i->U i) (hL:Left u u1 b d' T T') (hS:Zac u1 s' b st' S') (hn:∀ i,S' i->u.heap.size<=i/\¬ T' i) :
  RVS (Zb E (Rows (λ i=>T' i∨S' i) xb xt xc)) u1 (rv fa fl fc d) d/\(∀ i,Zb E (Rows (λ i=>T' i∨S' i) xb xt xc) i->i<u1.heap.size) /\
  ∀ (u2:World) (vf' vo' vr' vt':Value),Below u1.heap.size u1 u2->RMS (Zb E (Rows (λ i=>T' i∨S' i) xb xt xc)) u2 (rm d' vf' vo' vr' vt') st' d'->WI B E u2 s' b vf' vo' vr' vt' xb xt xc (λ i=>T' i∨S' i) st' d' bl tl cl:=by
 obtain ⟨hD,hTT,hTu⟩:=hL;have hsz:=hTu.size;have hDl:∀ i,T' i->i<u1.heap.size:=hD.lt;have hSl:=hS.lt;have hlt:=h.lt
 have nT:∀ i,Rows (λ _=>False) xb xt xc i->¬ T i:=by
  intro i q r
  rcases q with q | q | q | q
  ·exact q
  ·exact h.fb i q (hTU i r)
  ·exact h.ft i q (hTU i r)
  ·exact h.fc i q (hTU i r)
 have old:∀ i,Rows (λ _=>False) xb xt xc i->B<=i/\i<u.heap.size:=by
  intro i q;exact hlt i (q.elim (λ q=>q.elim) .inr)
 have nU:∀ i,Rows (λ _=>False) xb xt xc i->¬ (T' i∨S' i):=by
  intro i q r;have o:=old i q
  rcases r with r | r
  ·rcases hTT i r with r | r
   ·exact nT i q r
   ·omega
  ·have:=(hn i r).1;omega
 have hZl:∀ i,Zb E (Rows (λ i=>T' i∨S' i) xb xt xc) i->i<u1.heap.size:=by
  intro i q
  rcases q with (q | q) | q
  ·exact q.elim (hDl i) (hSl i)
  ·have:=(old i (.inr q)).2;omega
  ·have:=h.elt i q;omega
 refine ⟨?_,hZl,?_⟩
 ·obtain ⟨fa',fl',fc',_,_,_,_,_,_,_,_,_,em,h1,_⟩:=h.ref;cases em
  have h2:LG encF (λ i=>Zb E (Rows U xb xt xc) i∨Zb E (Rows (λ i=>T' i∨S' i) xb xt xc) i) u fa fl fc d.files:=h1.into (λ i hi q=>by
   rcases q with q | ((q | q) | q)
   ·exact q
   ·rcases q with q | q
    ·rcases hTT i q with r | r
     ·exact .inl (.inl (hTU i r))
     ·omega
    ·have:=(hn i q).1;omega
   ·exact .inl (.inr q)
   ·exact .inr q)
  have h3:=(h2.turned hTu (λ i q=>.inl (.inl (.inl (hTU i q))))).mono (Z':=Zb E (Rows (λ i=>T' i∨S' i) xb xt xc)) (λ i q=>.inr q);exact RMS.rvs h3
 ·intro u2 vf' vo' vr' vt' hb hr
  have own:∀ {v:Value} {l:List UInt64},OwnG encU 53 u B v l->(∀ g,v.ownBlock=some g->¬ T g)->OwnG encU 53 u2 B v l:=λ ho hg=>(ho.stays hTu hg).below hb
  refine ⟨⟨S',T',hS.below hb,hD.below hb,λ i q=>(hn i q).2,λ i q=>q.symm,λ i q=>Nat.lt_of_lt_of_le (q.elim (hDl i) (hSl i)) hb.size⟩,λ i q=>?_,hr,λ i q r=>?_,λ i q=>?_,own h.ob (λ g q r=>h.fb g q (hTU g r)),own h.ot (λ g q r=>h.ft g q (hTU g r)),own h.oc (λ g q r=>h.fc g q (hTU g r)),λ g q=>nU g (.inr (.inl q)),λ g q=>nU g (.inr (.inr (.inl q))),λ g q=>nU g (.inr (.inr (.inr q))),h.bt,h.bc,h.tc⟩
  ·rcases q with q | q
   ·rcases hTT i q with r | r
    ·exact h.low i (hTU i r)
    ·omega
   ·have:=(hn i q).1;omega
  ·have el:=h.elt i r
   rcases q with q | q
   ·rcases q with q | q
    ·rcases hTT i q with t | t
     ·exact h.fe i (.inl (hTU i t)) r
     ·omega
    ·have:=(hn i q).1;omega
   ·exact h.fe i (.inr q) r
  ·have:=h.elt i q;have:=hb.size;omega
end
theorem ZmU (a0 a1 a2 a3 a4 a5 a6 a7 a8 a9 a10 a11 a12 a13 n0 n1 n2 n3 n4 n5 n6 n7 n8:Value):setL #[a0,a1,a2,a3,a4,a5,a6,a7,a8,a9,a10,a11,a12,a13] [n0,n1,n2,n3,n4,n5,n6,n7,n8] 2=#[a0,a1,n0,n1,n2,n3,n4,n5,n6,n7,n8,a11,a12,a13]:=by simp [setL]
theorem ZeA {B:Nat} {E:Nat->Prop} {w0 w:World} {s b:Nat} {fa oa ra ta xa ya za:Option Addr} {fl fc on oc rn rc tn tc xn xc yn yc zn zc:Nat} {U:Nat->Prop} {v:Wd}
  (hI:WI B E w s b (.slice fa fl fc) (.slice oa on oc) (.slice ra rn rc) (.slice ta tn tc) (.slice xa xn xc) (.slice ya yn yc) (.slice za zn zc) U v.st v.d v.bl v.tl v.cl) (h0:Below B w0 w) (hB:B<=w.heap.size) (hc:Calm v.d) (hok:v.d.ok) (hw:v.d.writes<=1000000) :
  Calls Tryz.prog 58 #[.agg (wdV s b v.d (.slice fa fl fc) (.slice oa on oc) (.slice ra rn rc) (.slice ta tn tc) (.slice xa xn xc) (.slice ya yn yc) (.slice za zn zc))] w λ e w'=>∃ x,e=.returned x/\Hid (∃ s',Zf0 B E w0 w s' b { v with st:=(sopen v.d).1,d:=(sopen v.d).2.1 } x w'):=by
 obtain ⟨H,hH⟩:∃ H,w.heap.size=H:=⟨_,rfl⟩
 obtain ⟨W,hW⟩:∃ W,(w.alloc (.cells (wdV s b v.d (.slice fa fl fc) (.slice oa on oc) (.slice ra rn rc) (.slice ta tn tc) (.slice xa xn xc) (.slice ya yn yc) (.slice za zn zc)) 35)).alloc (.cells zeroW 35)=W:=⟨_,rfl⟩
 have bW:Below w.heap.size w W:=by rw [<- hW]; exact bz2 _ _ _
 have e1:(w.alloc (.cells (wdV s b v.d (.slice fa fl fc) (.slice oa on oc) (.slice ra rn rc) (.slice ta tn tc) (.slice xa xn xc) (.slice ya yn yc) (.slice za zn zc)) 35)).heap.size=H+1:=by simp [hH]
 have NB:BoxA W H 35 (wdV s b v.d (.slice fa fl fc) (.slice oa on oc) (.slice ra rn rc) (.slice ta tn tc) (.slice xa xn xc) (.slice ya yn yc) (.slice za zn zc))/\BoxA W (H+1) 35 zeroW:=by
  rw [<- hW,<- hH];have q1:=BoxA.new w 35 (wdV s b v.d (.slice fa fl fc) (.slice oa on oc) (.slice ra rn rc) (.slice ta tn tc) (.slice xa xn xc) (.slice ya yn yc) (.slice za zn zc));have q2:=BoxA.new (w.alloc (.cells (wdV s b v.d (.slice fa fl fc) (.slice oa on oc) (.slice ra rn rc) (.slice ta tn tc) (.slice xa xn xc) (.slice ya yn yc) (.slice za zn zc)) 35)) 35 zeroW;rw [e1,<- hH] at q2;exact ⟨q1.below (bz1 _ _) q1.lt,q2⟩
 have I0:WI B (λ i=>E i∨(H<=i/\i<H+2)) W s b (.slice fa fl fc) (.slice oa on oc) (.slice ra rn rc) (.slice ta tn tc) (.slice xa xn xc) (.slice ya yn yc) (.slice za zn zc) U v.st v.d v.bl v.tl v.cl:=by
  have q:=hI.more (G:=λ i=>H<=i/\i<H+2) bW (λ i q=>by have:=NB.2.lt; omega);exact q
 obtain ⟨d',hd'⟩:∃ d',(sopen v.d).2.1=d':=⟨_,rfl⟩
 obtain ⟨st',hst'⟩:∃ st',(sopen v.d).1=st':=⟨_,rfl⟩
 obtain ⟨S,T,hS,hT,hap,hU,hUl⟩:=I0.duo;have hop:=Zd7 hT hok hw;have h00:=(Zd9 hc hok.rise).1
 have nH:∀ i,T i->i<H/\¬ E i:=λ i q=>⟨by have:=(hI.lt i (.inl (hU i (.inr q)))).2; omega,λ r=>hI.fe i (.inl (hU i (.inr q))) r⟩
 rw [hd',hst'] at hop
 have G:Hid ((sopen v.d).2.2=0/\(sopen v.d).2.1=d'/\(sopen v.d).1=st'/\(∀ i,T i->U i)/\(∀ i,T i->i<H/\¬ E i)/\w.heap.size=H/\Below w.heap.size w W/\Below B w0 w/\B<=w.heap.size/\v.d.ok/\v.d.writes<=1000000/\(∀ i,E i->i<H)):=⟨h00,hd',hst',λ i q=>hU i (.inr q),nH,hH,bW,h0,hB,hok,hw,λ i q=>by rw [<- hH]; exact hI.elt i q⟩
 have M0:Hid (BoxA W H 35 (wdV s b v.d (.slice fa fl fc) (.slice oa on oc) (.slice ra rn rc) (.slice ta tn tc) (.slice xa xn xc) (.slice ya yn yc) (.slice za zn zc))/\BoxA W (H+1) 35 zeroW/\WI B (λ i=>E i∨(H<=i/\i<H+2)) W s b (.slice fa fl fc) (.slice oa on oc) (.slice ra rn rc) (.slice ta tn tc) (.slice xa xn xc) (.slice ya yn yc) (.slice za zn zc) U v.st v.d v.bl v.tl v.cl):=⟨NB.1,NB.2,I0⟩
 have p0:=NB.1.cell (j:=0) rfl;clear NB I0 bW e1 hI hc hok hw hd' hst' hS hT hap hU hUl h00 nH h0 hB;rw [show (sopen v.d).1=st' from G.out.2.2.1,show (sopen v.d).2.1=d' from G.out.2.1];go_enter Tryz.func58,Tryz.ntmps58;go_wp2_with fail;clear hW;go_loopg [4] 1 (λ m iv wr=>iv=.int .i64 0/\wr=W)
 case atStart=>exact ⟨rfl,rfl⟩
 case round =>
  obtain ⟨rfl,rfl⟩:=hrel;go_wp2_with fail;refine hop.mono ?_;rintro e w1 ⟨T',HL,hh⟩
  rcases hh with ⟨_,s',rfl,HS⟩ | ⟨r,rfl,Hr⟩
  case inr=>exact absurd (Hr.out.1.symm.trans G.out.1) Hr.out.2
  obtain ⟨S',hS',hn'⟩:=HS.out;have RO:=M0.out.2.2.reopen (Nat.le_trans G.out.2.2.2.2.2.2.2.2.1 G.out.2.2.2.2.2.2.1.size) G.out.2.2.2.1 HL.out hS' hn'
  have M1:Hid (BoxA w1 H 35 (wdV s b v.d (.slice fa fl fc) (.slice oa on oc) (.slice ra rn rc) (.slice ta tn tc) (.slice xa xn xc) (.slice ya yn yc) (.slice za zn zc))/\BoxA w1 (H+1) 35 zeroW):=⟨M0.out.1.turned HL.out.2.2 (λ q=>by have:=(G.out.2.2.2.2.1 _ q).1; omega),M0.out.2.1.turned HL.out.2.2 (λ q=>by have:=(G.out.2.2.2.2.1 _ q).1; omega)⟩
  have K1:Hid (∀ (u2:World) (vf' vo' vr' vt':Value),Below w1.heap.size w1 u2->RMS (Zb (λ i=>E i∨(H<=i/\i<H+2)) (Rows (λ i=>T' i∨S' i) (.slice xa xn xc) (.slice ya yn yc) (.slice za zn zc))) u2 (rm d' vf' vo' vr' vt') st' d'->WI B (λ i=>E i∨(H<=i/\i<H+2)) u2 s' b vf' vo' vr' vt' (.slice xa xn xc) (.slice ya yn yc) (.slice za zn zc) (λ i=>T' i∨S' i) st' d' v.bl v.tl v.cl):=RO.2.2;have hro:=Zii RO.2.1 RO.1 G.out.2.2.2.2.2.2.2.2.2.1 G.out.2.2.2.2.2.2.2.2.2.2.1;rw [G.out.1,G.out.2.1,G.out.2.2.1] at hro;clear RO hS' hn' HS hop p0;have x2:=M1.out.1.cell (j:=2) rfl;have x3:=M1.out.1.cell (j:=3) rfl;have x4:=M1.out.1.cell (j:=4) rfl;have x5:=M1.out.1.cell (j:=5) rfl;have x6:=M1.out.1.cell (j:=6) rfl;have x7:=M1.out.1.cell (j:=7) rfl;go_wp2_with fail;refine hro.mono ?_;rintro e w2 ⟨m2,r2,rfl,X2⟩;obtain rfl:r2=0:=X2.out.1;obtain ⟨fa1,fl1,fc1,oa1,on1,oc1,ra1,rn1,rc1,ta1,tn1,tc1,em,_⟩:=X2.out.2.1;subst em;clear hro x2 x3 x4 x5 x6 x7
  obtain ⟨wA,hwA⟩:∃ wA,w2.alloc (nineC d' (.slice fa1 fl1 fc1) (.slice oa1 on1 oc1) (.slice ra1 rn1 rc1) (.slice ta1 tn1 tc1))=wA:=⟨_,rfl⟩
  obtain ⟨BX,hBX⟩:∃ BX,w2.heap.size=BX:=⟨_,rfl⟩
  have bA:Below w2.heap.size w2 wA:=by rw [<- hwA]; exact bz1 _ _
  have b1A:Below w1.heap.size w1 wA:=X2.out.2.2.trans (bA.mono X2.out.2.2.size)
  have nA:Zbg wA BX d' (.slice fa1 fl1 fc1) (.slice oa1 on1 oc1) (.slice ra1 rn1 rc1) (.slice ta1 tn1 tc1):=by rw [<- hwA,<- hBX]; exact Nine.new _ _ _ _ _ _ _ _ _ _
  have MA:Hid (BoxA wA H 35 (wdV s b v.d (.slice fa fl fc) (.slice oa on oc) (.slice ra rn rc) (.slice ta tn tc) (.slice xa xn xc) (.slice ya yn yc) (.slice za zn zc))/\BoxA wA (H+1) 35 zeroW/\WI B (λ i=>E i∨(H<=i/\i<H+2)) wA s' b (.slice fa1 fl1 fc1) (.slice oa1 on1 oc1) (.slice ra1 rn1 rc1) (.slice ta1 tn1 tc1) (.slice xa xn xc) (.slice ya yn yc) (.slice za zn zc) (λ i=>T' i∨S' i) st' d' v.bl v.tl v.cl/\Zbg wA BX d' (.slice fa1 fl1 fc1) (.slice oa1 on1 oc1) (.slice ra1 rn1 rc1) (.slice ta1 tn1 tc1)/\Below w1.heap.size w1 wA/\H+1<BX):=⟨M1.out.1.below b1A M1.out.1.lt,M1.out.2.below b1A M1.out.2.lt,K1.out wA _ _ _ _ b1A (X2.out.2.1.below bA),nA,b1A,by have:=M1.out.2.lt; have:=X2.out.2.2.size; omega⟩
  clear bA b1A nA K1 X2;have LM:=MA.out.1.lays [.slice fa1 fl1 fc1,.int .i64 (d'.writes:Int),.bool d'.armed,.bool d'.dead,.int .i64 (d'.after:Int),.int .i64 (d'.keep:Int),.slice oa1 on1 oc1,.slice ra1 rn1 rc1,.slice ta1 tn1 tc1] 2;have LT:=Zam (W:=wA) H [.slice fa1 fl1 fc1,.int .i64 (d'.writes:Int),.bool d'.armed,.bool d'.dead,.int .i64 (d'.after:Int),.int .i64 (d'.keep:Int),.slice oa1 on1 oc1,.slice ra1 rn1 rc1,.slice ta1 tn1 tc1] 2;rw [ZmU] at LM;simp only [layL,Nat.reduceAdd] at LM LT
  obtain ⟨w3,hw3⟩:∃ w3,(((((((((wA.setCell ⟨H,2,none⟩ (.slice fa1 fl1 fc1)).setCell ⟨H,3,none⟩ (.int .i64 (d'.writes:Int))).setCell ⟨H,4,none⟩ (.bool d'.armed)).setCell ⟨H,5,none⟩ (.bool d'.dead)).setCell ⟨H,6,none⟩ (.int .i64 (d'.after:Int))).setCell ⟨H,7,none⟩ (.int .i64 (d'.keep:Int))).setCell ⟨H,8,none⟩ (.slice oa1 on1 oc1)).setCell ⟨H,9,none⟩ (.slice ra1 rn1 rc1)).setCell ⟨H,10,none⟩ (.slice ta1 tn1 tc1))=w3:=⟨_,rfl⟩
  rw [hw3] at LM LT
  have M3:Hid (Zaa (λ i=>i=H) wA w3/\BoxA w3 H 35 #[.pointer (some ⟨b,0,none⟩),.pointer (some ⟨s,0,none⟩),.slice fa1 fl1 fc1,.int .i64 (d'.writes:Int),.bool d'.armed,.bool d'.dead,.int .i64 (d'.after:Int),.int .i64 (d'.keep:Int),.slice oa1 on1 oc1,.slice ra1 rn1 rc1,.slice ta1 tn1 tc1,.slice xa xn xc,.slice ya yn yc,.slice za zn zc]/\BoxA w3 (H+1) 35 zeroW):=⟨LT,LM,MA.out.2.1.turned LT (by omega)⟩
  have HW3:Hid ((((((((((wA.setCell ⟨H,2,none⟩ (.slice fa1 fl1 fc1)).setCell ⟨H,3,none⟩ (.int .i64 (d'.writes:Int))).setCell ⟨H,4,none⟩ (.bool d'.armed)).setCell ⟨H,5,none⟩ (.bool d'.dead)).setCell ⟨H,6,none⟩ (.int .i64 (d'.after:Int))).setCell ⟨H,7,none⟩ (.int .i64 (d'.keep:Int))).setCell ⟨H,8,none⟩ (.slice oa1 on1 oc1)).setCell ⟨H,9,none⟩ (.slice ra1 rn1 rc1)).setCell ⟨H,10,none⟩ (.slice ta1 tn1 tc1))=w3):=hw3;clear LM LT hw3;obtain ⟨y0,y1,y2,y3,y4,y5,y6,y7,y8⟩:=MA.out.2.2.2.1.cells;have p2:=MA.out.1.cell (j:=2) rfl;have p3:=MA.out.1.cell (j:=3) rfl;have p4:=MA.out.1.cell (j:=4) rfl;have p5:=MA.out.1.cell (j:=5) rfl;have p6:=MA.out.1.cell (j:=6) rfl;have p7:=MA.out.1.cell (j:=7) rfl;have p8:=MA.out.1.cell (j:=8) rfl;have p9:=MA.out.1.cell (j:=9) rfl;have p10:=MA.out.1.cell (j:=10) rfl;have f2:=MA.out.1.thaw 2;have f3:=MA.out.1.thaw 3;have f4:=MA.out.1.thaw 4;have f5:=MA.out.1.thaw 5;have f6:=MA.out.1.thaw 6;have f7:=MA.out.1.thaw 7;have f8:=MA.out.1.thaw 8;have f9:=MA.out.1.thaw 9;have f10:=MA.out.1.thaw 10
  have nX:BX≠H:=by have:=MA.out.2.2.2.2.2; omega
  have nX':H≠BX:=λ q=>nX q.symm
  go_upto_region 9 with fail
  rw [HW3.out];clear HW3 hwA y0 y1 y2 y3 y4 y5 y6 y7 y8 p2 p3 p4 p5 p6 p7 p8 p9 p10 f2 f3 f4 f5 f6 f7 f8 f9 f10;have L4:=M3.out.2.1.put 1 (.pointer (some ⟨s',0,none⟩));have T4:Zaa (λ i=>i=H) w3 (w3.setCell ⟨H,1,none⟩ (.pointer (some ⟨s',0,none⟩))):=(Zaa.refl (λ i=>i=H) w3).setCell (p:=⟨H,1,none⟩) (.inl (show H=H from rfl)) _
  obtain ⟨w4,hw4⟩:∃ w4,w3.setCell ⟨H,1,none⟩ (.pointer (some ⟨s',0,none⟩))=w4:=⟨_,rfl⟩
  rw [hw4] at L4 T4
  have M4:Hid (Zaa (λ i=>i=H) wA w4/\BoxA w4 H 35 #[.pointer (some ⟨b,0,none⟩),.pointer (some ⟨s',0,none⟩),.slice fa1 fl1 fc1,.int .i64 (d'.writes:Int),.bool d'.armed,.bool d'.dead,.int .i64 (d'.after:Int),.int .i64 (d'.keep:Int),.slice oa1 on1 oc1,.slice ra1 rn1 rc1,.slice ta1 tn1 tc1,.slice xa xn xc,.slice ya yn yc,.slice za zn zc]/\BoxA w4 (H+1) 35 zeroW):=⟨M3.out.1.trans T4 (λ i _ q=>q),by simpa using L4,M3.out.2.2.turned T4 (by omega)⟩
  have HW4:Hid (w3.setCell ⟨H,1,none⟩ (.pointer (some ⟨s',0,none⟩))=w4):=hw4;clear L4 T4 hw4;have p1:=M3.out.2.1.cell (j:=1) rfl;have f1:=M3.out.2.1.thaw 1
  go_upto_region 11 with fail
  rw [HW4.out];clear HW4 p1 f1 M3;obtain ⟨p0,p1,p2,p3,p4,p5,p6,p7,p8,p9,p10,p11,p12,p13⟩:=M4.out.2.1.c14;obtain ⟨z0,z1,z2,z3,z4,z5,z6,z7,z8,z9,z10,z11,z12,z13⟩:=M4.out.2.2.c14;obtain ⟨f0,f1,f2,f3,f4,f5,f6,f7,f8,f9,f10,f11,f12,f13⟩:=M4.out.2.2.t14
  have nH:H≠H+1:=by omega
  go_wp2;refine bodyPost_ret (v:=.tuple #[.agg #[.pointer (some ⟨b,0,none⟩),.pointer (some ⟨s',0,none⟩),.slice fa1 fl1 fc1,.int .i64 (d'.writes:Int),.bool d'.armed,.bool d'.dead,.int .i64 (d'.after:Int),.int .i64 (d'.keep:Int),.slice oa1 on1 oc1,.slice ra1 rn1 rc1,.slice ta1 tn1 tc1,.slice xa xn xc,.slice ya yn yc,.slice za zn zc],.bool true]) ?_ rfl ⟨_,rfl,?_⟩
  ·simp [results,Tryz.f58];go_simp
  ·have LT:=Zam (W:=w4) (H+1) [.pointer (some ⟨b,0,none⟩),.pointer (some ⟨s',0,none⟩),.slice fa1 fl1 fc1,.int .i64 (d'.writes:Int),.bool d'.armed,.bool d'.dead,.int .i64 (d'.after:Int),.int .i64 (d'.keep:Int),.slice oa1 on1 oc1,.slice ra1 rn1 rc1,.slice ta1 tn1 tc1,.slice xa xn xc,.slice ya yn yc,.slice za zn zc] 0;simp only [layL,Nat.reduceAdd] at LT;have TT:=(M4.out.1.mono (T:=λ i=>i=H∨i=H+1) (λ i _ q=>.inl q)).trans LT (λ i _ q=>.inr q);obtain ⟨g1,g2,g3,g4,g5,g6,g7,g8,g9,g10,g11,g12⟩:=G.out;have z1:=g7.size;have z2:=HL.out.2.2.size;have bb:=MA.out.2.2.2.2.1;have z3:=bb.size;have c1:=g8.trans (g7.mono g9);have c2:=c1.trans (HL.out.2.2.below (by omega) (λ k hk q=>by have:=M0.out.2.2.low k (g4 k q); omega));have c3:=c2.trans (bb.mono (by omega));have c4:=c3.trans (TT.below (by omega) (λ k hk q=>by omega));refine ⟨s',fa1,fl1,fc1,oa1,on1,oc1,ra1,rn1,rc1,ta1,tn1,tc1,xa,xn,xc,ya,yn,yc,za,zn,zc,_,rfl,(MA.out.2.2.1.turn TT (λ i q=>.inr (by omega))).less (λ i q=>.inl q),c4,λ i q=>?_⟩;have hi:=g12 i q;exact (TT.block i (by omega) (by omega)).trans ((bb.block i (by omega)).trans ((HL.out.2.2.block i (by omega) (λ r=>(g5 i r).2 q)).trans (g7.block i (by omega))))
theorem Md.wide {B H:Nat} {E F:Nat->Prop} {w0 wS u:World} {s b:Nat} {vf vo vr vt xb xt xc:Value} {U:Nat->Prop} {st:St} {d:Dk} {bl tl cl:List UInt64} {cs ac:Array Value} (h:Md B H E F w0 wS u s b vf vo vr vt xb xt xc U st d bl tl cl cs ac):WI B F u s b vf vo vr vt xb xt xc U st d bl tl cl :=
 ⟨h.inv.duo,h.inv.low,h.refz,h.far,h.flt,h.inv.ob,h.inv.ot,h.inv.oc,h.inv.fb,h.inv.ft,h.inv.fc,h.inv.bt,h.inv.bc,h.inv.tc⟩
theorem ZiK {B:Nat} {E:Nat->Prop} {w0 w:World} {s b:Nat} {fa oa ra ta xa ya za:Option Addr} {fl fc on oc rn rc tn tc xn xc yn yc zn zc:Nat} {U:Nat->Prop} {st:St} {d:Dk} {bl tl cl:List UInt64}
  (hI:WI B E w s b (.slice fa fl fc) (.slice oa on oc) (.slice ra rn rc) (.slice ta tn tc) (.slice xa xn xc) (.slice ya yn yc) (.slice za zn zc) U st d bl tl cl) (h0:Below B w0 w) (hB:B<=w.heap.size) (hok:d.ok) (hw:d.writes<=1000000) (dv pv:Value) (nm:ByteArray) (dt kp:Int) (qv:Value) :
  Calls Tryz.prog 11 #[.agg (wdV s b d (.slice fa fl fc) (.slice oa on oc) (.slice ra rn rc) (.slice ta tn tc) (.slice xa xn xc) (.slice ya yn yc) (.slice za zn zc)),actV 7 dv pv qv nm dt kp] w λ e w'=>∃ x,e=.returned x/\Hid (∃ s',Zf0 B E w0 w s' b ⟨(sopen (dres d)).1,(sopen (dres d)).2.1,bl,tl,cl⟩ x w'):=by
 obtain ⟨W,hW⟩:∃ W,((w.alloc (.cells (wdV s b d (.slice fa fl fc) (.slice oa on oc) (.slice ra rn rc) (.slice ta tn tc) (.slice xa xn xc) (.slice ya yn yc) (.slice za zn zc)) 35)).alloc (.cells (actC 7 dv pv qv nm dt kp) 43)).alloc (.cells zeroW 35)=W:=⟨_,rfl⟩
 have bW:Below w.heap.size w W:=by rw [<- hW]; exact bz3 _ _ _ _
 have hBX:Bx w.heap.size W (wdV s b d (.slice fa fl fc) (.slice oa on oc) (.slice ra rn rc) (.slice ta tn tc) (.slice xa xn xc) (.slice ya yn yc) (.slice za zn zc)) (actC 7 dv pv qv nm dt kp):=by rw [<- hW]; exact Bx.new _ _ _
 have MD:Hid (Md B w.heap.size E (λ i=>Fb w.heap.size i∨E i) w0 w W s b (.slice fa fl fc) (.slice oa on oc) (.slice ra rn rc) (.slice ta tn tc) (.slice xa xn xc) (.slice ya yn yc) (.slice za zn zc) U st d bl tl cl (wdV s b d (.slice fa fl fc) (.slice oa on oc) (.slice ra rn rc) (.slice ta tn tc) (.slice xa xn xc) (.slice ya yn yc) (.slice za zn zc)) (actC 7 dv pv qv nm dt kp)):=Md.start hI h0 hB hBX bW
 have HH:Hid (d.ok/\d.writes<=1000000):=⟨hok,hw⟩
 have y0:=hBX.act.cell (j:=0) rfl;have p0:=hBX.box.cell (j:=0) rfl;clear hI h0 hB hBX bW hok hw
 obtain ⟨d5,hd5⟩:∃ d5,(sopen (dres d)).2.1=d5:=⟨_,rfl⟩
 rw [hd5];have HD5:Hid ((sopen (dres d)).2.1=d5):=hd5;clear hd5;go_enter Tryz.func11,Tryz.ntmps11
 go_upto_region 48 with fail
 clear hW;go_wp2_with fail;refine (MD.out.inv.duo.restarts).mono ?_;rintro e u1 ⟨rfl,H8⟩
 have HE:Hid (Aft W u1 s b st (dres d) U (Zaj U W u1)):=by
  obtain ⟨q2,q3,q4⟩:=H8.out;exact Aft.of (Below.refl _ _) (q2.mono (λ _ q=>.inl q) (λ i q=>q.elim (λ q=>q2.lt i q) (λ q=>q.2))) (q3.mono (λ i _ q=>by have q':i=b:=q; rw [q']; exact q4))
 clear H8 y0 p0;obtain ⟨c1,c2,c3,c4,_⟩:=MD.out.call (u2:=u1) HE.out;have hr:=Zc1 (ao:=fa) (L:=fl) (c:=fc) (d:=d) (w:=u1);have g2:=c3.box.cell (j:=2) rfl;have g3:=c3.box.cell (j:=3) rfl;have g4:=c3.box.cell (j:=4) rfl;have g5:=c3.box.cell (j:=5) rfl;have g6:=c3.box.cell (j:=6) rfl;have g7:=c3.box.cell (j:=7) rfl;have C1:=hid c1;clear c1 c2 c3 c4;go_wp2_with fail;refine hr.mono ?_;rintro e u2 ⟨rfl,q4⟩
 have M2:Hid (Md B w.heap.size E (λ i=>Fb w.heap.size i∨E i) w0 w u2 s b (.slice fa fl fc) (.slice oa on oc) (.slice ra rn rc) (.slice ta tn tc) (.slice xa xn xc) (.slice ya yn yc) (.slice za zn zc) (Zaj U W u1) st (dres d) bl tl cl (wdV s b d (.slice fa fl fc) (.slice oa on oc) (.slice ra rn rc) (.slice ta tn tc) (.slice xa xn xc) (.slice ya yn yc) (.slice za zn zc)) (actC 7 dv pv qv nm dt kp)):=by
  refine (MD.out.call HE.out).2.2.2.2 _ _ _ _ q4 ?_;obtain ⟨_,_,_,_,_,_,_,_,_,_,_,_,em,l1,l2,l3,l4⟩:=C1.out.below q4;cases em;exact ⟨_,_,_,_,_,_,_,_,_,_,_,_,rfl,l1,l2,l3,l4⟩
 clear q4 hr g2 g3 g4 g5 g6 g7 C1
 obtain ⟨X,hX⟩:∃ X,layL u2 w.heap.size [.slice fa fl fc,.int .i64 ((dres d).writes:Int),.bool (dres d).armed,.bool (dres d).dead,.int .i64 ((dres d).after:Int),.int .i64 ((dres d).keep:Int)] 2=X:=⟨_,rfl⟩
 have M3:Hid (Md B w.heap.size E (λ i=>Fb w.heap.size i∨E i) w0 w X s b (.slice fa fl fc) (.slice oa on oc) (.slice ra rn rc) (.slice ta tn tc) (.slice xa xn xc) (.slice ya yn yc) (.slice za zn zc) (Zaj U W u1) st (dres d) bl tl cl (wdV s b (dres d) (.slice fa fl fc) (.slice oa on oc) (.slice ra rn rc) (.slice ta tn tc) (.slice xa xn xc) (.slice ya yn yc) (.slice za zn zc)) (actC 7 dv pv qv nm dt kp)):=by
  have h1:=M2.out.bx.box.lays [.slice fa fl fc,.int .i64 ((dres d).writes:Int),.bool (dres d).armed,.bool (dres d).dead,.int .i64 ((dres d).after:Int),.int .i64 ((dres d).keep:Int)] 2;rw [hX,set6] at h1;exact M2.out.lay (by rw [<- hX]; exact Zam _ _ _) h1
 have TH:=hid (M2.out.bx.box.there (o:=2) (n:=6) (by simp [wdV]));have HXX:=hid hX;clear hX M2
 go_upto_region 50 with (refine Zah rfl 28 (.tmp 239) (.tmp 237) rfl w.heap.size 2 #[.slice fa fl fc,.int .i64 ((dres d).writes:Int),.bool (dres d).armed,.bool (dres d).dead,.int .i64 ((dres d).after:Int),.int .i64 ((dres d).keep:Int)] rfl rfl TH.out (by kernel_rfl) (by simp [Value.oneCell']) ?_; intro w9 hw9; obtain rfl:X=w9:=(hw9.trans HXX.out).symm; clear hw9)
 have yk:=M3.out.bx.act.cell (j:=0) rfl;obtain ⟨p0,p1,p2,p3,p4,p5,p6,p7,p8,p9,p10,p11,p12,p13⟩:=M3.out.bx.box.c14;have hag:=ZeA (v:=⟨st,dres d,bl,tl,cl⟩) M3.out.wide M3.out.bel (by have:=M3.out.hH; have:=M3.out.flt _ (M3.out.box w.heap.size ⟨Nat.le_refl _,by omega⟩); omega) ⟨rfl,rfl⟩ (Zed HH.out.1) HH.out.2;rw [HD5.out] at hag;go_wp2_with fail;refine hag.mono ?_;rintro e u5 ⟨x,rfl,H5⟩;obtain ⟨s',fa',fl',fc',oa',on',oc',ra',rn',rc',ta',tn',tc',xa',xn',xc',ya',yn',yc',za',zn',zc',U',rfl,hwi,hbe,hke⟩:=H5.out
 have M5:Hid (WI B (λ i=>Fb w.heap.size i∨E i) u5 s' b (.slice fa' fl' fc') (.slice oa' on' oc') (.slice ra' rn' rc') (.slice ta' tn' tc') (.slice xa' xn' xc') (.slice ya' yn' yc') (.slice za' zn' zc') U' (sopen (dres d)).1 d5 bl tl cl/\Below B w0 u5/\(∀ i,E i->u5.heap[i]? = w.heap[i]?)/\BoxA u5 (w.heap.size+2) 35 zeroW):=⟨hwi,hbe,λ i q=>(hke i (.inr q)).trans (M3.out.keep i q),(hke _ (.inl ⟨by omega,by omega⟩)).trans M3.out.bx.res⟩
 clear H5 hwi hbe hke hag yk p0 p1 p2 p3 p4 p5 p6 p7 p8 p9 p10 p11 p12 p13;obtain ⟨z0,z1,z2,z3,z4,z5,z6,z7,z8,z9,z10,z11,z12,z13⟩:=M5.out.2.2.2.c14;obtain ⟨f0,f1,f2,f3,f4,f5,f6,f7,f8,f9,f10,f11,f12,f13⟩:=M5.out.2.2.2.t14;go_wp2;refine bodyPost_ret (v:=.tuple #[.agg (wdV s' b d5 (.slice fa' fl' fc') (.slice oa' on' oc') (.slice ra' rn' rc') (.slice ta' tn' tc') (.slice xa' xn' xc') (.slice ya' yn' yc') (.slice za' zn' zc')),.bool true]) ?_ rfl ⟨_,rfl,?_⟩
 ·simp [results,Tryz.f11];go_simp
 ·have ht:=Zam (W:=u5) (w.heap.size+2) [.pointer (some ⟨b,0,none⟩),.pointer (some ⟨s',0,none⟩),.slice fa' fl' fc',.int .i64 (d5.writes:Int),.bool d5.armed,.bool d5.dead,.int .i64 (d5.after:Int),.int .i64 (d5.keep:Int),.slice oa' on' oc',.slice ra' rn' rc',.slice ta' tn' tc',.slice xa' xn' xc',.slice ya' yn' yc',.slice za' zn' zc'] 0;simp only [layL,Nat.reduceAdd] at ht;have hH:=M3.out.hH;have hl:=M5.out.2.2.2.lt;refine ⟨s',fa',fl',fc',oa',on',oc',ra',rn',rc',ta',tn',tc',xa',xn',xc',ya',yn',yc',za',zn',zc',U',rfl,(M5.out.1.turn ht (λ i q=>.inl ⟨by have q':i=w.heap.size+2:=q; omega,by have q':i=w.heap.size+2:=q; omega⟩)).less (λ i q=>.inr q),M5.out.2.1.trans (ht.below (by omega) (λ k hk q=>by have q':k=w.heap.size+2:=q; omega)),λ i q=>?_⟩;have hi:=(M3.out.esub i q).2;exact (ht.block i (by omega) (λ r=>by have r':i=w.heap.size+2:=r; omega)).trans (M5.out.2.2.1 i q)
end Go.Proofs.YtmhcpbbiokpjjaaGreat
