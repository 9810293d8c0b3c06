/-
  Several texts, laid together.
-/
import Derived.Test.YtmhcpbbiokpjjaaGreatM24
set_option maxHeartbeats 6400000
set_option maxRecDepth 100000
namespace Go.Proofs.YtmhcpbbiokpjjaaGreat
open Go.RowKit Go.Maps
section
variable {S:Nat->Prop} {w:World} {b m:Nat} {f:Bs->Option Value} {a k:Int} {d:Dk}
section
variable {wr:World} {c m2 r:Nat} {D:DataW Value} {left:Lit->Bool} {cnt:Nat} {f2:Bs->Option Value} {n2:Nat}
end
end
end Go.Proofs.YtmhcpbbiokpjjaaGreat
namespace Go.Proofs.YtmhcpbbiokpjjaaGreat
open Go.RowKit
theorem Dk.ok0:dk0.ok:=⟨List.Pairwise.nil,(by decide),(by intro f h; cases h),(by decide)⟩
theorem ZjO:sopen dk0=(st0,dk0,0):=by
 have e:ofile dk0=[]:=rfl;unfold sopen;rw [e,Zck]
 rfl
abbrev wdV (s b:Nat) (d:Dk) (vf vo vr vt bv tv cv:Value):Array Value:=wdC (.pointer (some ⟨b,0,none⟩)) (.pointer (some ⟨s,0,none⟩)) vf (d.writes:Int) d.armed d.dead (d.after:Int) (d.keep:Int) vo vr vt bv tv cv
def layL (w:World) (Q:Nat):List Value->Nat->World
 | [],_=>w
 | v::t,j=>layL (w.setCell ⟨Q,j,none⟩ v) Q t (j+1)
theorem Zam {W:World} (Q:Nat) (vs:List Value) (j:Nat):Zaa (λ i=>i=Q) W (layL W Q vs j):=by
 induction vs generalizing W j with
 | nil=>exact Zaa.refl _ _
 | cons v t ih=>exact (Zae (b:=Q) j v).trans (ih (j+1)) (λ i _ q=>q)
theorem ZiZ {w w3 w4 w5:World} {s b:Nat} (h:Duo w3 s b st0 dk0 (λ i=>w.heap.size<i/\i<w3.heap.size)) (hb:Below w.heap.size w w3) (ht:Zaa (λ i=>i=w.heap.size) w3 w4) (b4:Below w4.heap.size w4 w5):Duo w5 s b st0 dk0 (λ i=>w.heap.size<=i/\i<w5.heap.size)/\Below w.heap.size w w5:=by
 have bt:=hb.trans (ht.below hb.size (λ i hi q=>by have q':i=w.heap.size:=q; omega));have s3:=b4.size;have s4:=ht.size;refine ⟨((h.stays ht (λ i hi q=>?_)).below b4).mono (λ i hi=>?_) (λ i hi=>hi.2),bt.trans (b4.mono bt.size)⟩
 ·have q':i=w.heap.size:=q;omega
 ·omega
theorem Zf4 (w:World) :
  Calls Tryz.prog 10 #[] w λ e w'=>∃ s b,e=.returned (.tuple #[.agg (wdV s b dk0 nilV nilV nilV nilV nilV nilV nilV),.bool true])/\Hid (Duo w' s b st0 dk0 (λ i=>w.heap.size<=i/\i<w'.heap.size)/\Below w.heap.size w w'):=by
 obtain ⟨W,hW⟩:∃ W,w.alloc (.cells #[.pointer none,.pointer none,nilV,.int .i64 0,.bool false,.bool false,.int .i64 0,.int .i64 0,nilV,nilV,nilV,nilV,nilV,nilV] 35)=W:=⟨_,rfl⟩
 have NB:Hid (BoxA W w.heap.size 35 #[.pointer none,.pointer none,nilV,.int .i64 0,.bool false,.bool false,.int .i64 0,.int .i64 0,nilV,nilV,nilV,nilV,nilV,nilV]/\Below w.heap.size w W):=by
  rw [<- hW];exact ⟨BoxA.new _ _ _,bz1 _ _⟩
 have hro:=λ w1=>Zil w1
 have HRO:Hid (∀ w1,Calls Tryz.prog 36 #[.agg #[nilV,.int .i64 0,.bool false,.bool false,.int .i64 0,.int .i64 0]] w1 λ e w'=>e=.returned (.tuple #[.agg #[nilV,.int .i64 0,.bool false,.bool false,.int .i64 0,.int .i64 0,nilV,nilV,nilV],.int .i64 0])/\Below w1.heap.size w1 w'):=hro;clear hro;go_enter Tryz.func10,Tryz.ntmps10;go_wp2_with fail;refine (ZmN W).mono ?_;rintro e w1 ⟨b,rfl,hd1,b1⟩
 have HD1:Hid (Zao w1 b dk0 (λ i=>W.heap.size<=i/\i<w1.heap.size)/\Below W.heap.size W w1):=⟨hd1,b1⟩
 clear hd1 b1;go_wp2_with fail;have hos:=Zd7 HD1.out.1 Dk.ok0 (by decide);rw [ZjO] at hos;refine hos.mono ?_;rintro e w2 ⟨T',HL,(⟨_,s,rfl,HS⟩ | ⟨r,rfl,hr⟩)⟩
 ·have HT:Hid (Zaa (λ i=>W.heap.size<=i/\i<w1.heap.size) w1 w2/\Below W.heap.size W w2):=by
   have t:=HL.out.2.2;exact ⟨t,HD1.out.2.trans (t.below HD1.out.2.size (λ i hi q=>by have:=q.1; omega))⟩
  clear hos;go_wp2_with fail;refine (HRO.out w2).mono ?_;rintro e w3 ⟨rfl,b3⟩;have B3:Hid (Below w2.heap.size w2 w3):=b3
  have HX:Hid (Duo w3 s b st0 dk0 (λ i=>w.heap.size<i/\i<w3.heap.size)/\Below W.heap.size W w3):=by
   have bW3:=HT.out.2.trans (b3.mono HT.out.2.size);obtain ⟨S,h1,h2⟩:=HS.out;obtain ⟨l1,l2,l3⟩:=HL.out;have eW:w.heap.size<W.heap.size:=NB.out.1.lt;have s1:=HD1.out.2.size;have s2:=HT.out.1.size;have s3:=b3.size;refine ⟨⟨S,T',h1.below b3,l1.below b3,λ i hi=>(h2 i hi).2,λ i hi=>?_,λ i hi=>hi.2⟩,bW3⟩
   rcases hi with q | q
   ·have:=(h2 i q).1;have:=h1.lt i q;omega
   ·have:=l1.lt i q
    rcases l2 i q with r | r <;> omega
  clear b3;have x:=NB.out.1.below HX.out.2 NB.out.1.lt;obtain ⟨x0,x1,x2,x3,x4,x5,x6,x7,x8,x9,x10,x11,x12,x13⟩:=x.c14;obtain ⟨f0,f1,f2,f3,f4,f5,f6,f7,f8,f9,f10,f11,f12,f13⟩:=x.t14;clear x
  have l0:w.heap.size<w3.heap.size:=by have:=NB.out.1.lt; have:=HX.out.2.size; omega
  go_wp2;refine bodyPost_ret (v:=.tuple #[.agg #[.pointer (some ⟨b,0,none⟩),.pointer (some ⟨s,0,none⟩),nilV,.int .i64 0,.bool false,.bool false,.int .i64 0,.int .i64 0,nilV,nilV,nilV,nilV,nilV,nilV],.bool true]) ?_ rfl ⟨s,b,rfl,?_⟩
  ·simp [results,Tryz.f10];go_simp
  ·have ht:=Zam (W:=w3) w.heap.size [.pointer (some ⟨b,0,none⟩),.pointer (some ⟨s,0,none⟩),nilV,.int .i64 0,.bool false,.bool false,.int .i64 0,.int .i64 0,nilV,nilV,nilV,nilV,nilV,nilV] 0;simp only [layL,Nat.reduceAdd] at ht;exact ZiZ HX.out.1 (NB.out.2.trans (HX.out.2.mono NB.out.2.size)) ht (bz1 _ _)
 ·exact absurd hr.out.1.symm hr.out.2
def ks:St:=(sblob st0 dk0 [120]).1.1
def kd:Dk:=(sblob st0 dk0 [120]).1.2
theorem k_one:sblob st0 dk0 [120]=((ks,kd),589771473169207484,0):=by
 have e:(sblob st0 dk0 [120]).2=(589771473169207484,0):=by kernel_rfl
 exact Prod.ext (Prod.ext rfl rfl) e
theorem k_two:sblob ks kd [120]=((ks,kd),589771473169207484,0):=by
 have e1:oid 1 [120]=589771473169207484:=by kernel_rfl
 have e:oget ks.objs 1 589771473169207484=some [120]:=by kernel_rfl
 unfold sblob;rw [if_neg (by decide)];unfold sput;rw [e1,e]
 rfl
theorem Znl:stree ks kd [([97],589771473169207485)]=((ks,kd),0,5):=by
 have e1:(ftree [([97],589771473169207485)]).2=0:=by kernel_rfl
 have e2:ks.blobs [([97],589771473169207485)]=false:=by kernel_rfl
 unfold stree;rw [if_neg (by rw [e1]; decide),if_pos e2]
theorem k_ok:kd.ok:=by
 have e:kd=(dapp dk0 fileN (fseal (1,[120])).1).1:=by kernel_rfl
 rw [e];exact Zeq Dk.ok0 _ _
theorem Zkq:kd.writes=1/\ks.objs.length=1:=⟨by kernel_rfl,by kernel_rfl⟩
theorem Zme {w:World} {s b:Nat} {U:Nat->Prop} {v:Value} {xss:List Bs} {st st':St} {d d':Dk} (i:Int) (hD:Duo w s b st d U) (hp:Zau w v xss) (hf:xss.flatten=[120]) (hl:xss.length<=2) (hx:∀ x∈xss,x.length<=1) (hok:d.ok) (hw:d.writes<=1) (ho:st.objs.length<=1) {I:UInt64} (hQ:sblob st d [120]=((st',d'),I,0)) (hi:(I.toNat:Int)=i) :
  Calls Tryz.prog 31 #[.pointer (some ⟨s,0,none⟩),v] w λ e w'=>e=.returned (.tuple #[.int .u64 i,.int .i64 0])/\Hid (Duo w' s b st' d' (Zaj U w w')/\Zaa U w w'):=by
 refine (Zhb hD hp (by omega) (λ x q=>Nat.le_trans (hx x q) (by omega)) hok (by omega) (by omega)).mono ?_;rintro e w' ⟨i',r,rfl,h⟩;have h':=h.out;rw [hf,hQ] at h';obtain ⟨rfl,rfl,h3,h4⟩:=h';exact ⟨by rw [hi],h3,h4⟩
theorem hid {p:Prop} (h:p):Hid p:=h
theorem Zjs (w:World) (fr:Nat×Nat) (c:Array Value) (hc:c=#[.int .u8 120]):Zau ((w.alloc (.cells c 5 fr)).alloc (.cells #[.slice none 0 0,.slice (some ⟨w.heap.size,0,none⟩) 1 1] 39)) (.slice (some ⟨w.heap.size+1,0,none⟩) 2 2) [[],[120]]:=by
 have:=Zdt (w:=w.alloc (.cells c 5 fr)) (u:=.slice none 0 0) (x:=[]) ⟨none,0,rfl,Nat.le_refl _,by omega,RdG.nil _ _ _⟩ (ZeP w [120] 5 fr c hc 1 rfl (by simp)) 39;rw [show (w.alloc (.cells c 5 fr)).heap.size=w.heap.size+1 by simp] at this;exact this
theorem Znq {w:World} {s b:Nat} {U:Nat->Prop} {a:Option Addr} {c:Nat} (hD:Duo w s b ks kd U) (hr:RdG encE w a [([97],589771473169207485)]) (hc:1<=c) :
  Calls Tryz.prog 32 #[.pointer (some ⟨s,0,none⟩),.slice a 1 c] w λ e w'=>e=.returned (.tuple #[.int .u64 0,.int .i64 5])/\Hid (Duo w' s b ks kd (Zaj U w w')/\Zaa U w w'):=by
 have n1:=Zkq.1;have n2:=Zkq.2;refine (ZhH hD hr rfl (by simp) (by intro e he; simp at he; subst he; decide) hc k_ok (by omega) (by omega)).mono ?_;rintro e w' ⟨i',r,rfl,h⟩;have h':=h.out;rw [Znl] at h';obtain ⟨rfl,rfl,h3,h4⟩:=h';exact ⟨rfl,h3,h4⟩
structure Kp (w w1 W:World) (s b:Nat) (st:St) (d:Dk) (cs:Array Value) (U:Nat->Prop):Prop where
 box:BoxA W w1.heap.size 35 cs
 duo:Duo W s b st d U
 bel:Below w.heap.size w W
 far:∀ i,U i->w.heap.size<=i/\i≠w1.heap.size
theorem Kp.on {w w1 W:World} {s b:Nat} {st:St} {d:Dk} {cs:Array Value} {U:Nat->Prop} (h:Kp w w1 W s b st d cs U) {X W':World} {st':St} {d':Dk} (hb:Below W.heap.size W X) (hd:Duo W' s b st' d' (Zaj U X W')) (ht:Zaa U X W'):Kp w w1 W' s b st' d' cs (Zaj U X W'):=by
 have s1:=hb.size;have l0:=h.box.lt;have s0:=h.bel.size;have bX:=h.bel.trans (hb.mono h.bel.size);refine ⟨(h.box.below hb h.box.lt).turned ht (λ q=>(h.far _ q).2 rfl),hd,bX.trans (ht.below bX.size (λ i hi q=>by have:=(h.far i q).1; omega)),λ i q=>?_⟩
 rcases q with q | q
 ·exact h.far i q
 ·have:=q.1;omega
theorem ZkA (w:World) :
  Calls Tryz.prog 9 #[] w λ e w'=>e=.returned (.bool true)/\Below w.heap.size w w':=by
 go_enter Tryz.func9,Tryz.ntmps9;go_wp2_with fail;refine (Zf4 w).mono ?_;rintro e w1 ⟨s,b,rfl,H1⟩
 go_upto_region 4 with fail
 obtain ⟨W,hW⟩:∃ W,w1.alloc (.cells (wdV s b dk0 nilV nilV nilV nilV nilV nilV nilV) 35)=W:=⟨_,rfl⟩
 have K1:Hid (Kp w w1 W s b st0 dk0 (wdV s b dk0 nilV nilV nilV nilV nilV nilV nilV) (λ i=>w.heap.size<=i/\i<w1.heap.size)):=by
  rw [<- hW];exact ⟨BoxA.new _ _ _,H1.out.1.below (bz1 _ _),H1.out.2.trans ((bz1 _ _).mono H1.out.2.size),λ i q=>⟨q.1,by omega⟩⟩
 rw [hW];clear hW H1
 have kc:=λ (w:World) (C:Array Value) (n c:Nat)=>Lib.run_convert_bytes_const (P:=Tryz.prog) w 39 5 C n c Tryz.underlying39 Tryz.underlying5
 have x1:=K1.out.box.cell (j:=1) rfl;go_wp2_with fail;refine (Zme 589771473169207484 (K1.out.duo.below (bz2 W _ _)) (ZkU W [120] 5 39 _ _ rfl 1 rfl (by simp)) rfl (by simp) (by simp) Dk.ok0 (by decide) (by decide) k_one (by decide)).mono ?_;rintro e w2 ⟨rfl,H2⟩;have K2:=hid (K1.out.on (bz2 W _ _) H2.out.1 H2.out.2);clear x1;have x1:=K2.out.box.cell (j:=1) rfl;clear H2;go_wp2_with fail;refine (Zme 589771473169207484 (K2.out.duo.below (bz2 w2 _ _)) (Zjs w2 _ _ rfl) rfl (by simp) (by simp) k_ok (by rw [Zkq.1]; decide) (by rw [Zkq.2]; decide) k_two (by decide)).mono ?_;rintro e w3 ⟨rfl,H3⟩;have K3:=hid (K2.out.on (bz2 w2 _ _) H3.out.1 H3.out.2);clear x1 H3;have x1:=K3.out.box.cell (j:=1) rfl;go_wp2_with fail;refine (Znq (K3.out.duo.below (bz1 w3 _)) (Zny encE w3 ([97],589771473169207485) 91 _ rfl) (by omega)).mono ?_;rintro e w4 ⟨rfl,H4⟩;have K4:=hid (K3.out.on (bz1 w3 _) H4.out.1 H4.out.2);clear x1 H4;have x0:=K4.out.box.cell (j:=0) rfl;obtain ⟨S,T,q1,q2,_⟩:=K4.out.duo;have hwr:=Zf1 q2;rw [Zkq.1] at hwr;go_wp2_with fail;refine hwr.mono ?_;rintro e w5 ⟨rfl,hw5⟩;rw [hw5];go_wp2;go_ret;exact ⟨rfl,K4.out.bel⟩
end Go.Proofs.YtmhcpbbiokpjjaaGreat
