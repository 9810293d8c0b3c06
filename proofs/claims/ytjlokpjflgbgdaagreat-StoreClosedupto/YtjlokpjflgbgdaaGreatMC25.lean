/-
  Several texts, laid together.
-/
import Derived.Test.YtjlokpjflgbgdaaGreatMC24
import Derived.Test.YtjlokpjflgbgdaaGreatMC23
set_option maxHeartbeats 6400000
set_option maxRecDepth 100000
namespace Go.Proofs.YtjlokpjflgbgdaaGreat
open Go.RowKit
theorem Dk.ok0:dk0.ok:=⟨List.Pairwise.nil,(by decide),(by intro f h; cases h),(by decide)⟩
end Go.Proofs.YtjlokpjflgbgdaaGreat

namespace Go.Proofs.YtjlokpjflgbgdaaGreat
open Go.RowKit
theorem open_none:sopen dk0=(st0,dk0,0):=by
 have e:ofile dk0=[]:=rfl;unfold sopen;rw [e,sread_nil]
 rfl
abbrev wdV (s b:Nat) (d:Dk) (vf vo vr vt bv tv cv:Value):Array Value:=wdC (.pointer (some ⟨b,0,none⟩)) (.pointer (some ⟨s,0,none⟩)) vf (d.writes:Int) d.armed d.dead (d.after:Int) (d.keep:Int) vo vr vt bv tv cv
def layL (w:World) (Q:Nat):List Value->Nat->World
 | [],_=>w
 | v::t,j=>layL (w.setCell ⟨Q,j,none⟩ v) Q t (j+1)
theorem lay_all {W:World} (Q:Nat) (vs:List Value) (j:Nat):Turned (λ i=>i=Q) W (layL W Q vs j):=by
 induction vs generalizing W j with
 | nil=>exact Turned.refl _ _
 | cons v t ih=>exact (turned_set (b:=Q) j v).trans (ih (j+1)) (λ i _ q=>q)
theorem fresh_end {w w3 w4 w5:World} {s b:Nat} (h:Duo w3 s b st0 dk0 (λ i=>w.heap.size<i/\i<w3.heap.size)) (hb:Below w.heap.size w w3) (ht:Turned (λ i=>i=w.heap.size) w3 w4) (b4:Below w4.heap.size w4 w5):Duo w5 s b st0 dk0 (λ i=>w.heap.size<=i/\i<w5.heap.size)/\Below w.heap.size w w5:=by
 have bt:=hb.trans (ht.below hb.size (λ i hi q=>by have q':i=w.heap.size:=q; omega));have s3:=b4.size;have s4:=ht.size;refine ⟨((h.stays ht (λ i hi q=>?_)).below b4).mono (λ i hi=>?_) (λ i hi=>hi.2),bt.trans (b4.mono bt.size)⟩
 ·have q':i=w.heap.size:=q;omega
 ·omega
theorem fresh_any (w:World) :
  Calls Tryz.prog 12 #[] w λ e w'=>∃ s b,e=.returned (.tuple #[.agg (wdV s b dk0 nilV nilV nilV nilV nilV nilV nilV),.bool true])/\Hid (Duo w' s b st0 dk0 (λ i=>w.heap.size<=i/\i<w'.heap.size)/\Below w.heap.size w w'):=by
 obtain ⟨W,hW⟩:∃ W,w.alloc (.cells #[.pointer none,.pointer none,nilV,.int .i64 0,.bool false,.bool false,.int .i64 0,.int .i64 0,nilV,nilV,nilV,nilV,nilV,nilV] 35)=W:=⟨_,rfl⟩
 have NB:Hid (BoxA W w.heap.size 35 #[.pointer none,.pointer none,nilV,.int .i64 0,.bool false,.bool false,.int .i64 0,.int .i64 0,nilV,nilV,nilV,nilV,nilV,nilV]/\Below w.heap.size w W):=by
  rw [<- hW];exact ⟨BoxA.new _ _ _,bz1 _ _⟩
 have hro:=λ w1=>ropen_none w1
 have HRO:Hid (∀ w1,Calls Tryz.prog 47 #[.agg #[nilV,.int .i64 0,.bool false,.bool false,.int .i64 0,.int .i64 0]] w1 λ e w'=>e=.returned (.tuple #[.agg #[nilV,.int .i64 0,.bool false,.bool false,.int .i64 0,.int .i64 0,nilV,nilV,nilV],.int .i64 0])/\Below w1.heap.size w1 w'):=hro;clear hro;go_enter Tryz.func12,Tryz.ntmps12;go_wp2_with fail;refine (new_any W).mono ?_;rintro e w1 ⟨b,rfl,hd1,b1⟩
 have HD1:Hid (DiskAt w1 b dk0 (λ i=>W.heap.size<=i/\i<w1.heap.size)/\Below W.heap.size W w1):=⟨hd1,b1⟩
 clear hd1 b1;go_wp2_with fail;have hos:=open_store HD1.out.1 Dk.ok0 (by decide);rw [open_none] at hos;refine hos.mono ?_;rintro e w2 ⟨T',HL,(⟨_,s,rfl,HS⟩ | ⟨r,rfl,hr⟩)⟩
 ·have HT:Hid (Turned (λ i=>W.heap.size<=i/\i<w1.heap.size) w1 w2/\Below W.heap.size W w2):=by
   have t:=HL.out.2.2;exact ⟨t,HD1.out.2.trans (t.below HD1.out.2.size (λ i hi q=>by have:=q.1; omega))⟩
  clear hos;go_wp2_with fail;refine (HRO.out w2).mono ?_;rintro e w3 ⟨rfl,b3⟩;have B3:Hid (Below w2.heap.size w2 w3):=b3
  have HX:Hid (Duo w3 s b st0 dk0 (λ i=>w.heap.size<i/\i<w3.heap.size)/\Below W.heap.size W w3):=by
   have bW3:=HT.out.2.trans (b3.mono HT.out.2.size);obtain ⟨S,h1,h2⟩:=HS.out;obtain ⟨l1,l2,l3⟩:=HL.out;have eW:w.heap.size<W.heap.size:=NB.out.1.lt;have s1:=HD1.out.2.size;have s2:=HT.out.1.size;have s3:=b3.size;refine ⟨⟨S,T',h1.below b3,l1.below b3,λ i hi=>(h2 i hi).2,λ i hi=>?_,λ i hi=>hi.2⟩,bW3⟩
   rcases hi with q | q
   ·have:=(h2 i q).1;have:=h1.lt i q;omega
   ·have:=l1.lt i q
    rcases l2 i q with r | r <;> omega
  clear b3;have x:=NB.out.1.below HX.out.2 NB.out.1.lt;have x0:=x.cell (j:=0) rfl;have f0:=x.thaw 0;have x1:=x.cell (j:=1) rfl;have f1:=x.thaw 1;have x2:=x.cell (j:=2) rfl;have f2:=x.thaw 2;have x3:=x.cell (j:=3) rfl;have f3:=x.thaw 3;have x4:=x.cell (j:=4) rfl;have f4:=x.thaw 4;have x5:=x.cell (j:=5) rfl;have f5:=x.thaw 5;have x6:=x.cell (j:=6) rfl;have f6:=x.thaw 6;have x7:=x.cell (j:=7) rfl;have f7:=x.thaw 7;have x8:=x.cell (j:=8) rfl;have f8:=x.thaw 8;have x9:=x.cell (j:=9) rfl;have f9:=x.thaw 9;have x10:=x.cell (j:=10) rfl;have f10:=x.thaw 10;have x11:=x.cell (j:=11) rfl;have f11:=x.thaw 11;have x12:=x.cell (j:=12) rfl;have f12:=x.thaw 12;have x13:=x.cell (j:=13) rfl;have f13:=x.thaw 13;clear x
  have l0:w.heap.size<w3.heap.size:=by have:=NB.out.1.lt; have:=HX.out.2.size; omega
  go_wp2;refine bodyPost_ret (v:=.tuple #[.agg #[.pointer (some ⟨b,0,none⟩),.pointer (some ⟨s,0,none⟩),nilV,.int .i64 0,.bool false,.bool false,.int .i64 0,.int .i64 0,nilV,nilV,nilV,nilV,nilV,nilV],.bool true]) ?_ rfl ⟨s,b,rfl,?_⟩
  ·simp [results,Tryz.f12];go_simp
  ·have ht:=lay_all (W:=w3) w.heap.size [.pointer (some ⟨b,0,none⟩),.pointer (some ⟨s,0,none⟩),nilV,.int .i64 0,.bool false,.bool false,.int .i64 0,.int .i64 0,nilV,nilV,nilV,nilV,nilV,nilV] 0;simp only [layL,Nat.reduceAdd] at ht;exact fresh_end HX.out.1 (NB.out.2.trans (HX.out.2.mono NB.out.2.size)) ht (bz1 _ _)
 ·exact absurd hr.out.1.symm hr.out.2
end Go.Proofs.YtjlokpjflgbgdaaGreat

namespace Go.Proofs.YtjlokpjflgbgdaaGreat
open Go.RowKit
def ks:St:=(sblob st0 dk0 [120]).1.1
def kd:Dk:=(sblob st0 dk0 [120]).1.2
theorem k_one:sblob st0 dk0 [120]=((ks,kd),589771473169207484,0):=by
 have e:(sblob st0 dk0 [120]).2=(589771473169207484,0):=by kernel_rfl
 exact Prod.ext (Prod.ext rfl rfl) e
theorem k_two:sblob ks kd [120]=((ks,kd),589771473169207484,0):=by
 have e1:oid 1 [120]=589771473169207484:=by kernel_rfl
 have e:oget ks.objs 1 589771473169207484=some [120]:=by kernel_rfl
 unfold sblob;rw [if_neg (by decide)];unfold sput;rw [e1,e]
 rfl
theorem k_three:stree ks kd [([97],589771473169207485)]=((ks,kd),0,5):=by
 have e1:(ftree [([97],589771473169207485)]).2=0:=by kernel_rfl
 have e2:ks.blobs [([97],589771473169207485)]=false:=by kernel_rfl
 unfold stree;rw [if_neg (by rw [e1]; decide),if_pos e2]
theorem k_ok:kd.ok:=by
 have e:kd=(dapp dk0 fileN (fseal (1,[120])).1).1:=by kernel_rfl
 rw [e];exact ok_app Dk.ok0 _ _
theorem k_num:kd.writes=1/\ks.objs.length=1:=⟨by kernel_rfl,by kernel_rfl⟩
theorem blob_k {w:World} {s b:Nat} {U:Nat->Prop} {v:Value} {xss:List Bs} {st st':St} {d d':Dk} (i:Int) (hD:Duo w s b st d U) (hp:PartsB w v xss) (hf:xss.flatten=[120]) (hl:xss.length<=2) (hx:∀ x∈xss,x.length<=1) (hok:d.ok) (hw:d.writes<=1) (ho:st.objs.length<=1) {I:UInt64} (hQ:sblob st d [120]=((st',d'),I,0)) (hi:(I.toNat:Int)=i) :
  Calls Tryz.prog 44 #[.pointer (some ⟨s,0,none⟩),v] w λ e w'=>e=.returned (.tuple #[.int .u64 i,.int .i64 0])/\Hid (Duo w' s b st' d' (Since U w w')/\Turned U w w'):=by
 refine (blob_any hD hp (by omega) (λ x q=>Nat.le_trans (hx x q) (by omega)) hok (by omega) (by omega)).mono ?_;rintro e w' ⟨i',r,rfl,h⟩;have h':=h.out;rw [hf,hQ] at h';obtain ⟨rfl,rfl,h3,h4⟩:=h';exact ⟨by rw [hi],h3,h4⟩
theorem hid {p:Prop} (h:p):Hid p:=h
theorem part_lit2 (w:World) (fr:Nat×Nat) (c:Array Value) (hc:c=#[.int .u8 120]):PartsB ((w.alloc (.cells c 5 fr)).alloc (.cells #[.slice none 0 0,.slice (some ⟨w.heap.size,0,none⟩) 1 1] 39)) (.slice (some ⟨w.heap.size+1,0,none⟩) 2 2) [[],[120]]:=by
 have:=parts_two (w:=w.alloc (.cells c 5 fr)) (u:=.slice none 0 0) (x:=[]) ⟨none,0,rfl,Nat.le_refl _,by omega,RdG.nil _ _ _⟩ (bat_lit w [120] 5 fr c hc 1 rfl (by simp)) 39;rw [show (w.alloc (.cells c 5 fr)).heap.size=w.heap.size+1 by simp] at this;exact this
theorem tree_k {w:World} {s b:Nat} {U:Nat->Prop} {a:Option Addr} {c:Nat} (hD:Duo w s b ks kd U) (hr:RdG encE w a [([97],589771473169207485)]) (hc:1<=c) :
  Calls Tryz.prog 45 #[.pointer (some ⟨s,0,none⟩),.slice a 1 c] w λ e w'=>e=.returned (.tuple #[.int .u64 0,.int .i64 5])/\Hid (Duo w' s b ks kd (Since U w w')/\Turned U w w'):=by
 have n1:=k_num.1;have n2:=k_num.2;refine (tree_put hD hr rfl (by simp) (by intro e he; simp at he; subst he; decide) hc k_ok (by omega) (by omega)).mono ?_;rintro e w' ⟨i',r,rfl,h⟩;have h':=h.out;rw [k_three] at h';obtain ⟨rfl,rfl,h3,h4⟩:=h';exact ⟨rfl,h3,h4⟩
structure Kp (w w1 W:World) (s b:Nat) (st:St) (d:Dk) (cs:Array Value) (U:Nat->Prop):Prop where
 box:BoxA W w1.heap.size 35 cs
 duo:Duo W s b st d U
 bel:Below w.heap.size w W
 far:∀ i,U i->w.heap.size<=i/\i≠w1.heap.size
theorem Kp.on {w w1 W:World} {s b:Nat} {st:St} {d:Dk} {cs:Array Value} {U:Nat->Prop} (h:Kp w w1 W s b st d cs U) {X W':World} {st':St} {d':Dk} (hb:Below W.heap.size W X) (hd:Duo W' s b st' d' (Since U X W')) (ht:Turned U X W'):Kp w w1 W' s b st' d' cs (Since U X W'):=by
 have s1:=hb.size;have l0:=h.box.lt;have s0:=h.bel.size;have bX:=h.bel.trans (hb.mono h.bel.size);refine ⟨(h.box.below hb h.box.lt).turned ht (λ q=>(h.far _ q).2 rfl),hd,bX.trans (ht.below bX.size (λ i hi q=>by have:=(h.far i q).1; omega)),λ i q=>?_⟩
 rcases q with q | q
 ·exact h.far i q
 ·have:=q.1;omega
theorem awake_any (w:World) :
  Calls Tryz.prog 11 #[] w λ e w'=>e=.returned (.bool true)/\Below w.heap.size w w':=by
 go_enter Tryz.func11,Tryz.ntmps11;go_wp2_with fail;refine (fresh_any w).mono ?_;rintro e w1 ⟨s,b,rfl,H1⟩
 go_upto_region 4 with fail
 obtain ⟨W,hW⟩:∃ W,w1.alloc (.cells (wdV s b dk0 nilV nilV nilV nilV nilV nilV nilV) 35)=W:=⟨_,rfl⟩
 have K1:Hid (Kp w w1 W s b st0 dk0 (wdV s b dk0 nilV nilV nilV nilV nilV nilV nilV) (λ i=>w.heap.size<=i/\i<w1.heap.size)):=by
  rw [<- hW];exact ⟨BoxA.new _ _ _,H1.out.1.below (bz1 _ _),H1.out.2.trans ((bz1 _ _).mono H1.out.2.size),λ i q=>⟨q.1,by omega⟩⟩
 rw [hW];clear hW H1
 have kc:=λ (w:World) (C:Array Value) (n c:Nat)=>Lib.run_convert_bytes_const (P:=Tryz.prog) w 39 5 C n c Tryz.underlying39 Tryz.underlying5
 have x1:=K1.out.box.cell (j:=1) rfl;go_wp2_with fail;refine (blob_k 589771473169207484 (K1.out.duo.below (bz2 W _ _)) (part_lit W [120] 5 39 _ _ rfl 1 rfl (by simp)) rfl (by simp) (by simp) Dk.ok0 (by decide) (by decide) k_one (by decide)).mono ?_;rintro e w2 ⟨rfl,H2⟩;have K2:=hid (K1.out.on (bz2 W _ _) H2.out.1 H2.out.2);clear x1;have x1:=K2.out.box.cell (j:=1) rfl;clear H2;go_wp2_with fail;refine (blob_k 589771473169207484 (K2.out.duo.below (bz2 w2 _ _)) (part_lit2 w2 _ _ rfl) rfl (by simp) (by simp) k_ok (by rw [k_num.1]; decide) (by rw [k_num.2]; decide) k_two (by decide)).mono ?_;rintro e w3 ⟨rfl,H3⟩;have K3:=hid (K2.out.on (bz2 w2 _ _) H3.out.1 H3.out.2);clear x1 H3;have x1:=K3.out.box.cell (j:=1) rfl;go_wp2_with fail;refine (tree_k (K3.out.duo.below (bz1 w3 _)) (rd_one encE w3 ([97],589771473169207485) 69 _ rfl) (by omega)).mono ?_;rintro e w4 ⟨rfl,H4⟩;have K4:=hid (K3.out.on (bz1 w3 _) H4.out.1 H4.out.2);clear x1 H4;have x0:=K4.out.box.cell (j:=0) rfl;obtain ⟨S,T,q1,q2,_⟩:=K4.out.duo;have hwr:=writes_at q2;rw [k_num.1] at hwr;go_wp2_with fail;refine hwr.mono ?_;rintro e w5 ⟨rfl,hw5⟩;rw [hw5];go_wp2;go_ret;exact ⟨rfl,K4.out.bel⟩
end Go.Proofs.YtjlokpjflgbgdaaGreat

namespace Go.Proofs.YtjlokpjflgbgdaaGreat
open Go.RowKit
theorem row_short {w:World} {base:Nat} {e:TypeId} {size g n m cap:Nat} {xs news:List Value} (hx:xs.length=n*size) (h:w.ownsRow base e size (.slice (some ⟨g,0,none⟩) (n+m) cap) (n+m) (xs++news)):w.ownsRow base e size (.slice (some ⟨g,0,none⟩) n cap) n xs:=by
 refine ⟨hx,?_⟩
 rcases h.2 with ⟨e,_⟩ | ⟨g',cap',cur,e,hb,hg,hnc,hcm,hcs,htake⟩
 ·cases e
 ·cases e;refine .inr ⟨g,cap,cur,rfl,hb,hg,by omega,hcm,hcs,?_⟩
  have:(cur.toList.take ((n+m)*size)).take (n*size)=(xs++news).take (n*size):=by rw [htake]
  rw [List.take_take,Nat.min_eq_left (Nat.mul_le_mul_right _ (by omega)),List.take_left' hx] at this;exact this
section
variable {P:Program} (w:World)
theorem run_append_kept (base:Nat) (t ty e:TypeId) (i:TypeInfo) (z:Value) (size bytes:Nat) (ht:P.underlying t=some (.slice e)) (hi:P.info? e=some i) (hz:i.zero=some z)
  (hsize:i.size=size) (hby:i.bytes=bytes) (hzs:z.cells.size=size) (hsz:0<size)
  (v:Value) (n:Nat) (xs:List Value) (hown:w.ownsRow base e size v n xs)
  (a:Addr) (m c:Nat) (news:List Value) (hl:news.length=m*size) (hnews:∀ j u,news[j]? = some u->w.cell? (a.add j)=some u) (h1:∀ u∈news,u.oneCell'=true)
  (h63:n+m<=maxLen) (hbytes:(n+m)*bytes<=140737488355328) (hbase:base<=w.heap.size) :
  ∃ v' w',(Builtin.append_ #[t,t] ty #[v,.slice (some a) m c]).run P w=.ok v' w'/\w'.ownsRow base e size v' (n+m) (xs++news)/\w.grownBy w' v.ownBlock/\Moved w v v'/\w'.ownsRow base e size v n xs:=by
 have fresh:∀ {v':Value} {w':World},w'.ownsRow w.heap.size e size v' (n+m) (xs++news)->Moved w v v':=λ h=>.inr (λ g hg=>(h.lt g hg).1)
 rcases hown.2 with ⟨rfl,rfl⟩ | ⟨g,cap,cur,rfl,hb,hg,hnc,hcm,hcs,htake⟩
 ·have hx:xs=[]:=List.eq_nil_of_length_eq_zero (by simpa using hown.1);subst hx;obtain ⟨v',w',r1,r2,r3,_⟩:=run_append_own (P:=P) w w.heap.size t ty e i z size bytes ht hi hz hsize hby hzs hsz (.slice none 0 0) 0 [] (World.ownsRow_nil w _ e size) a m c news hl hnews h1 h63 hbytes (Nat.le_refl _);exact ⟨v',w',r1,own_base r2 hbase,r3,fresh r2,World.ownsRow_nil w' _ e size⟩
 ·by_cases hroom:n+m<=cap
  ·obtain ⟨w',r1,r2,r3⟩:=run_append_fits (P:=P) w base t ty e i size ht hi hsize g n cap xs hown a m c news hl hnews h1 hroom;exact ⟨_,w',r1,r2,r3,.inl rfl,row_short hown.1 r2⟩
  ·obtain ⟨v',w',r1,r2,r3⟩:=run_append_arg_grows (P:=P) w t ty e i z size bytes ht hi hz hsize hby hzs hsz ⟨g,0,none⟩ n cap xs hown.1 (hown.cells rfl) a m c news hl hnews (by omega) h63 hbytes;refine ⟨v',w',r1,own_base r2 hbase,⟨r3.os,r3.tape,r3.output,r3.size,λ k hk _=>r3.block k hk (by simp)⟩,fresh r2,hown.1,.inr ⟨g,cap,cur,rfl,hb,?_,hnc,hcm,hcs,htake⟩⟩;rw [r3.block g (Array.getElem?_eq_some_iff.1 hg).1 (by simp)];exact hg
end
theorem wpList_append_kept {P:Program} {w:World} {ops:Array Oper} {rest:List Oper} {o:Oper} {a:Act} {Q:Exit->Act->World->Prop} (hgd:o.guard=none) (s x:Operand) (t:TypeId)
  (hop:o.op=.call { callee:=.builtin .append,args:=#[s,x],argTypes:=#[t,t] })
  (base:Nat) (e:TypeId) (i:TypeInfo) (z:Value) (size bytes:Nat) (h1:P.underlying t=some (.slice e)) (h2:P.info? e=some i) (h3:i.zero=some z) (h4:i.size=size) (h5:i.bytes=bytes) (h6:z.cells.size=size) (h7:0<size)
  (v:Value) (n:Nat) (xs:List Value) (hs:a.eval s=v) (hown:w.ownsRow base e size v n xs)
  (ad:Addr) (m c:Nat) (news:List Value) (hx:a.eval x=.slice (some ad) m c) (hn:news.length=m*size) (hc:∀ j u,news[j]? = some u->w.cell? (ad.add j)=some u) (h1c:∀ u∈news,u.oneCell'=true)
  (b1:n+m<=maxLen) (b2:(n+m)*bytes<=140737488355328) (b3:base<=w.heap.size)
  (h:∀ v' w',w'.ownsRow base e size v' (n+m) (xs++news)->w.grownBy w' v.ownBlock->Moved w v v'->w'.ownsRow base e size v n xs->wpList P ops Q rest (a.put o.dst v') w'):wpList P ops Q (o::rest) a w:=by
 refine wpList_plain hgd λ K hK=>?_
 obtain ⟨v',w',hrun,r1,r2,r3,r4⟩:=run_append_kept (P:=P) w base t o.type e i z size bytes h1 h2 h3 h4 h5 h6 h7 v n xs hown ad m c news hn hc h1c b1 b2 b3;unfold Oper.wp;simp [execOp,hop,resolve,invoke,builtin,hs,hx,hrun,Result.andThen];exact hK _ _ (h v' w' r1 r2 r3 r4)
theorem appK_one {α:Type} {ops:Array Oper} {rest:List Oper} {o:Oper} {a:Act} {w:World} {Q:Exit->Act->World->Prop} (E:Enc α) (e t:TypeId) (bytes:Nat) (z:Value) (hz:z.cells.size=E.size)
  (hinfo:(Tryz.prog.info? e).map (λ i=>(i.zero,i.size,i.bytes))=some (some z,E.size,bytes)) (hu:Tryz.prog.underlying t=some (.slice e)) (hgd:o.guard=none) (s x:Operand)
  (hop:o.op=.call { callee:=.builtin .append,args:=#[s,x],argTypes:=#[t,t] }) (base:Nat) (v:Value) (ss:List α) (y:α) (ty:TypeId) (hs:a.eval s=v) (hown:OwnG E e w base v ss)
  (hx:a.eval x=.slice (some ⟨w.heap.size,0,none⟩) 1 1) (hlen:(ss.length+1)*bytes<=140737488355328) (hmax:ss.length+1<=maxLen) (hb:base<=w.heap.size) (c:Array Value) (hc:c=(E.cells y).toArray)
  (h:∀ v' w',OwnG E e w' base v' (ss++[y])->OwnG E e w' base v ss->Moved w v v'->Turned (λ k=>v.ownBlock=some k) w w'->wpList Tryz.prog ops Q rest (a.put o.dst v') w') :
  wpList Tryz.prog ops Q (o::rest) a (w.alloc (.cells c ty)):=by
 subst hc;obtain ⟨i0,hi0,hz0,hz1,hz2⟩:=info_parts hinfo
 refine wpList_append_kept hgd s x t hop base e i0 _ E.size bytes hu hi0 hz0 hz1 hz2 hz E.pos v ss.length (E.all ss) hs (hown.below ((Below.refl _ w).alloc (Nat.le_refl _) _)) ⟨w.heap.size,0,none⟩ 1 1 (E.cells y) hx (by rw [E.len,Nat.one_mul]) (cells_new E w y ty)
  (E.one y) hmax hlen (by simp; omega) ?_
 intro v' w' h1 h2 h3 h4;have ha:Turned (λ k=>v.ownBlock=some k) w (w.alloc (.cells (E.cells y).toArray ty)):=(Turned.refl _ _).alloc _;have ht:Turned (λ k=>v.ownBlock=some k) (w.alloc (.cells (E.cells y).toArray ty)) w':=(Turned.refl _ _).grown h2 (λ k _ e=>e);refine h v' w' ?_ h4 ?_ (ha.trans ht (λ _ _ q=>q))
 ·unfold OwnG;rw [List.length_append,E.all_append];simpa [Enc.all] using h1
 ·refine h3.imp id (λ q g hg=>?_);have:=q g hg;simp at this;omega
end Go.Proofs.YtjlokpjflgbgdaaGreat

namespace Go.Proofs.YtjlokpjflgbgdaaGreat
open Go.RowKit
def Rows (U:Nat->Prop) (xb xt xc:Value):Nat->Prop:=λ i=>U i∨xb.ownBlock=some i∨xt.ownBlock=some i∨xc.ownBlock=some i
def Zb (F:Nat->Prop) (Z:Nat->Prop):Nat->Prop:=λ i=>Z i∨F i
def Fb (H:Nat):Nat->Prop:=λ i=>H<=i/\i<H+3
structure WI (B:Nat) (E:Nat->Prop) (w:World) (s b:Nat) (vf vo vr vt xb xt xc:Value) (U:Nat->Prop) (st:St) (d:Dk) (bl tl cl:List UInt64):Prop where
 duo:Duo w s b st d U
 low:∀ i,U i->B<=i
 ref:RMS (Zb E (Rows U xb xt xc)) w (rm d vf vo vr vt) st d
 fe:∀ i,Rows U xb xt xc i->¬ E i
 elt:∀ i,E i->i<w.heap.size
 ob:OwnG encU 56 w B xb bl
 ot:OwnG encU 56 w B xt tl
 oc:OwnG encU 56 w B xc cl
 fb:∀ g,xb.ownBlock=some g->¬ U g
 ft:∀ g,xt.ownBlock=some g->¬ U g
 fc:∀ g,xc.ownBlock=some g->¬ U g
 bt:∀ g,xb.ownBlock=some g->xt.ownBlock≠some g
 bc:∀ g,xb.ownBlock=some g->xc.ownBlock≠some g
 tc:∀ g,xt.ownBlock=some g->xc.ownBlock≠some g
section
variable {B:Nat} {E:Nat->Prop} {w w':World} {s b:Nat} {vf vo vr vt xb xt xc:Value} {U:Nat->Prop} {st:St} {d:Dk} {bl tl cl:List UInt64}
theorem WI.lt (h:WI B E w s b vf vo vr vt xb xt xc U st d bl tl cl):∀ i,Rows U xb xt xc i->B<=i/\i<w.heap.size:=by
 rintro i (q | q | q | q)
 ·exact ⟨h.low i q,h.duo.lt i q⟩
 ·exact h.ob.lt i q
 ·exact h.ot.lt i q
 ·exact h.oc.lt i q
theorem WI.below (h:WI B E w s b vf vo vr vt xb xt xc U st d bl tl cl) (hb:Below w.heap.size w w'):WI B E w' s b vf vo vr vt xb xt xc U st d bl tl cl :=
 ⟨h.duo.below hb,h.low,h.ref.below hb,h.fe,λ i q=>Nat.lt_of_lt_of_le (h.elt i q) hb.size,h.ob.below hb,h.ot.below hb,h.oc.below hb,h.fb,h.ft,h.fc,h.bt,h.bc,h.tc⟩
def Aft (W u:World) (s b:Nat) (st:St) (d:Dk) (U U':Nat->Prop):Prop:=Duo u s b st d U'/\(∀ i,U' i->U i∨W.heap.size<=i)/\(∀ i,U i->U' i)/\Turned U W u
theorem Aft.of {W X u:World} {st':St} {d':Dk} (hb:Below W.heap.size W X) (hd:Duo u s b st' d' (Since U X u)) (ht:Turned U X u):Aft W u s b st' d' U (Since U X u) :=
 ⟨hd,λ i q=>q.imp id (λ q=>by have:=hb.size; have:=q.1; omega),λ i q=>.inl q,(Turned.ofBelow hb).trans ht (λ _ _ q=>q)⟩
abbrev zeroW:Array Value:=#[.pointer none,.pointer none,nilV,.int .i64 0,.bool false,.bool false,.int .i64 0,.int .i64 0,nilV,nilV,nilV,nilV,nilV,nilV]
structure Bx (H:Nat) (u:World) (cs ac:Array Value):Prop where
 box:BoxA u H 35 cs
 act:BoxA u (H+1) 43 ac
 res:BoxA u (H+2) 35 zeroW
theorem Bx.lt {H:Nat} {u:World} {cs ac:Array Value} (h:Bx H u cs ac):H+3<=u.heap.size:=by have:=h.res.lt; omega
theorem Bx.turned {H:Nat} {u u':World} {cs ac:Array Value} {S:Nat->Prop} (h:Bx H u cs ac) (ht:Turned S u u') (hS:∀ i,S i->¬ (H<=i/\i<H+3)):Bx H u' cs ac :=
 ⟨h.box.turned ht (λ q=>hS _ q (by omega)),h.act.turned ht (λ q=>hS _ q (by omega)),h.res.turned ht (λ q=>hS _ q (by omega))⟩
theorem Bx.below {H:Nat} {u u':World} {cs ac:Array Value} (h:Bx H u cs ac) (hb:Below u.heap.size u u'):Bx H u' cs ac :=
 ⟨h.box.below hb h.box.lt,h.act.below hb h.act.lt,h.res.below hb h.res.lt⟩
theorem Bx.new (w:World) (cs ac:Array Value):Bx w.heap.size (((w.alloc (.cells cs 35)).alloc (.cells ac 43)).alloc (.cells zeroW 35)) cs ac:=by
 have h:=node_boxes3 w cs ac zeroW 35 43 35;exact ⟨h.1,h.2.1,h.2.2.1⟩
structure Md (B H:Nat) (E F:Nat->Prop) (w0 wS u:World) (s b:Nat) (vf vo vr vt xb xt xc:Value) (U:Nat->Prop) (st:St) (d:Dk) (bl tl cl:List UInt64) (cs ac:Array Value):Prop where
 inv:WI B E u s b vf vo vr vt xb xt xc U st d bl tl cl
 refz:RMS (Zb F (Rows U xb xt xc)) u (rm d vf vo vr vt) st d
 bx:Bx H u cs ac
 far:∀ i,Rows U xb xt xc i->¬ F i
 box:∀ i,Fb H i->F i
 flt:∀ i,F i->i<u.heap.size
 bel:Below B w0 u
 hH:B<=H
 esub:∀ i,E i->F i/\i<H
 keep:∀ i,E i->u.heap[i]? = wS.heap[i]?
theorem Md.start {w0:World} (h:WI B E w s b vf vo vr vt xb xt xc U st d bl tl cl) (h0:Below B w0 w) (hB:B<=w.heap.size) {W:World} {cs ac:Array Value} (hx:Bx w.heap.size W cs ac) (hb:Below w.heap.size w W):Md B w.heap.size E (λ i=>Fb w.heap.size i∨E i) w0 w W s b vf vo vr vt xb xt xc U st d bl tl cl cs ac :=
 ⟨h.below hb,(h.ref.into (λ i hi q=>by
  rcases q with q | q | q
  ·exact .inl q
  ·have:=q.1; omega
  ·exact .inr q)).below hb,hx,λ i q r=>r.elim (λ r=>by have:=(h.lt i q).2; have:=r.1; omega) (h.fe i q),λ i q=>.inl q,λ i q=>q.elim (λ q=>by have:=hx.lt; have:=q.2; omega) (λ q=>Nat.lt_of_lt_of_le (h.elt i q) hb.size),h0.trans (hb.mono hB),hB,λ i q=>⟨.inr q,h.elt i q⟩,λ i q=>hb.block i (h.elt i q)⟩
theorem Md.below {w0 wS u u':World} {H:Nat} {F:Nat->Prop} {cs ac:Array Value} (h:Md B H E F w0 wS u s b vf vo vr vt xb xt xc U st d bl tl cl cs ac) (hb:Below u.heap.size u u'):Md B H E F w0 wS u' s b vf vo vr vt xb xt xc U st d bl tl cl cs ac :=
 ⟨h.inv.below hb,h.refz.below hb,h.bx.below hb,h.far,h.box,λ i q=>Nat.lt_of_lt_of_le (h.flt i q) hb.size,h.bel.trans (hb.mono (Nat.le_trans h.hH (by have:=h.bx.lt; omega))),h.hH,h.esub,λ i q=>(hb.block i (h.flt i (h.esub i q).1)).trans (h.keep i q)⟩
theorem Md.more {w0 wS u u':World} {H:Nat} {F G:Nat->Prop} {cs ac:Array Value} (h:Md B H E F w0 wS u s b vf vo vr vt xb xt xc U st d bl tl cl cs ac) (hb:Below u.heap.size u u') (hG:∀ i,G i->u.heap.size<=i/\i<u'.heap.size):Md B H E (λ i=>F i∨G i) w0 wS u' s b vf vo vr vt xb xt xc U st d bl tl cl cs ac:=by
 have h':=h.below hb;refine ⟨h'.inv,(h.refz.into (λ i hi q=>?_)).below hb,h'.bx,λ i q r=>?_,λ i q=>.inl (h.box i q),λ i q=>q.elim (h'.flt i) (λ q=>(hG i q).2),h'.bel,h.hH,λ i q=>⟨.inl (h.esub i q).1,(h.esub i q).2⟩,h'.keep⟩
 ·rcases q with q | q | q
  ·exact .inl q
  ·exact .inr q
  ·have:=(hG i q).1;omega
 ·rcases r with r | r
  ·exact h.far i q r
  ·have:=(hG i r).1;have:=(h.inv.lt i q).2;omega
theorem Md.move {w0 wS W u1:World} {H:Nat} {F:Nat->Prop} {cs ac:Array Value} {U':Nat->Prop} {st':St} {d':Dk} {m:Value} {st2:St} {d2:Dk} (_h:Md B H E F w0 wS W s b vf vo vr vt xb xt xc U st d bl tl cl cs ac) (ha:Aft W u1 s b st' d' U U') (hr:RMS (Zb F (Rows U xb xt xc)) W m st2 d2):RMS (Zb F (Rows U' xb xt xc)) u1 m st2 d2:=by
 obtain ⟨a1,a2,a3,a4⟩:=ha;refine (hr.into (λ i hi q=>?_)).turned a4 (λ i q=>.inl (.inl (a3 i q)))
 rcases q with (q | q) | q
 ·rcases a2 i q with r | r
  ·exact .inl (.inl r)
  ·omega
 ·exact .inl (.inr q)
 ·exact .inr q
theorem Md.call {w0 wS W u1 u2:World} {H:Nat} {F:Nat->Prop} {cs ac:Array Value} {U':Nat->Prop} {st':St} {d':Dk} (h:Md B H E F w0 wS W s b vf vo vr vt xb xt xc U st d bl tl cl cs ac) (ha:Aft W u1 s b st' d' U U') :
  RMS (Zb F (Rows U' xb xt xc)) u1 (rm d vf vo vr vt) st d/\(∀ i,Zb F (Rows U' xb xt xc) i->i<u1.heap.size)/\Bx H u1 cs ac/\Below B w0 u1 /\
  ∀ vf' vo' vr' vt',Below u1.heap.size u1 u2->RMS (Zb F (Rows U' xb xt xc)) u2 (rm d' vf' vo' vr' vt') st' d'->Md B H E F w0 wS u2 s b vf' vo' vr' vt' xb xt xc U' st' d' bl tl cl cs ac:=by
 have mv:=h.move ha h.refz;obtain ⟨a1,a2,a3,a4⟩:=ha;have sW:=a4.size;have l3:=h.bx.lt;have bx1:=h.bx.turned a4 (λ i q r=>h.far i (.inl q) (h.box i r));have b1:Below B w0 u1:=h.bel.trans (a4.below (Nat.le_trans h.hH (by omega)) (λ i hi q=>by have:=h.inv.low i q; omega));refine ⟨mv,λ i q=>?_,bx1,b1,λ vf' vo' vr' vt' hb hr=>?_⟩
 ·rcases q with (q | q) | q
  ·exact a1.lt i q
  ·exact Nat.lt_of_lt_of_le (h.inv.lt i (.inr q)).2 sW
  ·exact Nat.lt_of_lt_of_le (h.flt i q) sW
 ·have nb:∀ {x:Value},(∀ g,x.ownBlock=some g->¬ U g)->(∀ g,x.ownBlock=some g->g<W.heap.size)->∀ g,x.ownBlock=some g->¬ U' g:=by
   intro x q1 q2 g hg r
   rcases a2 g r with r | r
   ·exact q1 g hg r
   ·have:=q2 g hg;omega
  have tB:=λ g hg=>(h.inv.ob.lt g hg).2
  have tT:=λ g hg=>(h.inv.ot.lt g hg).2
  have tC:=λ g hg=>(h.inv.oc.lt g hg).2
  have far':∀ i,Rows U' xb xt xc i->¬ F i:=by
   rintro i (q | q) r
   ·rcases a2 i q with q | q
    ·exact h.far i (.inl q) r
    ·have:=h.flt i r;omega
   ·exact h.far i (.inr q) r
  refine ⟨⟨a1.below hb,λ i q=>?_,hr.mono (λ i q=>q.imp id (λ q=>(h.esub i q).1)),λ i q r=>far' i q (h.esub i r).1,λ i q=>Nat.lt_of_lt_of_le (h.inv.elt i q) (Nat.le_trans sW hb.size),(h.inv.ob.stays a4 h.inv.fb).below hb,(h.inv.ot.stays a4 h.inv.ft).below hb,(h.inv.oc.stays a4 h.inv.fc).below hb,nb h.inv.fb tB,nb h.inv.ft tT,nb h.inv.fc tC,h.inv.bt,h.inv.bc,h.inv.tc⟩,hr,bx1.below hb,far',h.box,λ i q=>Nat.lt_of_lt_of_le (h.flt i q) (Nat.le_trans sW hb.size),b1.trans (hb.mono (Nat.le_trans h.hH (by omega))),h.hH,h.esub,λ i q=>((hb.block i (Nat.lt_of_lt_of_le (h.flt i (h.esub i q).1) sW)).trans (a4.block i (h.flt i (h.esub i q).1) (λ r=>h.far i (.inl r) (h.esub i q).1))).trans (h.keep i q)⟩
  rcases a2 i q with r | r
  ·exact h.inv.low i r
  ·have:=h.hH;omega
theorem Md.turn {w0 wS u u':World} {H:Nat} {F G:Nat->Prop} {cs cs' ac:Array Value} (h:Md B H E F w0 wS u s b vf vo vr vt xb xt xc U st d bl tl cl cs ac) (ht:Turned G u u') (hG:∀ i,G i->F i/\H<=i) (hx:Bx H u' cs' ac):Md B H E F w0 wS u' s b vf vo vr vt xb xt xc U st d bl tl cl cs' ac:=by
 have l3:=h.bx.lt;have hh:=h.hH
 have ne:∀ i,Rows U xb xt xc i->¬ G i:=λ i q e=>h.far i q (hG i e).1
 have rz:=h.refz.turned ht (λ i q=>.inr (hG i q).1);exact ⟨⟨h.inv.duo.stays ht (λ i q=>ne i (.inl q)),h.inv.low,rz.mono (λ i q=>q.imp id (λ q=>(h.esub i q).1)),h.inv.fe,λ i q=>Nat.lt_of_lt_of_le (h.inv.elt i q) ht.size,h.inv.ob.stays ht (λ g q=>ne g (.inr (.inl q))),h.inv.ot.stays ht (λ g q=>ne g (.inr (.inr (.inl q)))),h.inv.oc.stays ht (λ g q=>ne g (.inr (.inr (.inr q)))),h.inv.fb,h.inv.ft,h.inv.fc,h.inv.bt,h.inv.bc,h.inv.tc⟩,rz,hx,h.far,h.box,λ i q=>Nat.lt_of_lt_of_le (h.flt i q) ht.size,h.bel.trans (ht.below (Nat.le_trans hh (by omega)) (λ i hi q=>by have:=(hG i q).2; omega)),hh,h.esub,λ i q=>(ht.block i (h.flt i (h.esub i q).1) (λ r=>by have:=(hG i r).2; have:=(h.esub i q).2; omega)).trans (h.keep i q)⟩
theorem Md.lay {w0 wS u u':World} {H:Nat} {F:Nat->Prop} {cs cs' ac:Array Value} (h:Md B H E F w0 wS u s b vf vo vr vt xb xt xc U st d bl tl cl cs ac) (ht:Turned (λ i=>i=H) u u') (hc:BoxA u' H 35 cs'):Md B H E F w0 wS u' s b vf vo vr vt xb xt xc U st d bl tl cl cs' ac :=
 h.turn ht (λ i q=>by have q':i=H:=q; exact ⟨h.box i ⟨by omega,by omega⟩,by omega⟩) ⟨hc,h.bx.act.turned ht (by show ¬ H+1=H; omega),h.bx.res.turned ht (by show ¬ H+2=H; omega)⟩
theorem Md.other {w0 wS u u':World} {H:Nat} {F G:Nat->Prop} {cs ac:Array Value} (h:Md B H E F w0 wS u s b vf vo vr vt xb xt xc U st d bl tl cl cs ac) (ht:Turned G u u') (hG:∀ i,G i->F i/\H+3<=i):Md B H E F w0 wS u' s b vf vo vr vt xb xt xc U st d bl tl cl cs ac :=
 h.turn ht (λ i q=>⟨(hG i q).1,by have:=(hG i q).2; omega⟩) (h.bx.turned ht (λ i q r=>by have:=(hG i q).2; omega))
end
end Go.Proofs.YtjlokpjflgbgdaaGreat
