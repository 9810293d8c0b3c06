/-
  Several texts, laid together.
-/
import Derived.Test.YtjlokpjflgbgdaaGreatMC08
set_option maxHeartbeats 6400000
set_option maxRecDepth 100000
namespace Go.Proofs.YtjlokpjflgbgdaaGreat
open Go.RowKit
theorem sid_at (k:Int) {v:Value} {xss:List Bs} (w:World) (h:PartsB w v xss) (hl:xss.length<=1000000) (x:UInt64) (hx:oid k xss.flatten=x) :
  Calls Tryz.prog 171 #[.int .i64 k,v] w λ e w'=>e=.returned (.int .u64 (x.toNat:Int))/\w'=w:=by
 refine (id_any k v _ w (h.parts hl)).mono ?_;rintro e w' ⟨rfl,hw⟩;exact ⟨by rw [idFolds_flat,oid_eq,hx],hw⟩
theorem rsid_at (k:Int) {v:Value} {bs:Bs} (w:World) (h:BAt w v bs) (x:UInt64) (hx:oid k bs=x) :
  Calls Tryz.prog 180 #[.int .i64 k,v] w λ e w'=>e=.returned (.int .u64 (x.toNat:Int))/\w'=w:=by
 refine (rid_any k v _ w h.bytes).mono ?_;rintro e w' ⟨rfl,hw⟩;exact ⟨by rw [oid_eq,hx],hw⟩
section
variable {w:World} {s b:Nat} {M:Nat->Nat} {r t:Nat} {F:Nat->UInt64->Option Value} {st:St} {S:Nat->Prop}
theorem StoreX.look (h:StoreX w s b M r t F st S) {k:Nat} (hk:k<4) (i:UInt64) :
  ∃ v,(Instr.lookup 157 (.map (some (M k))) (.int .u64 (i.toNat:Int)) true).run Tryz.prog w=.ok (.tuple #[v,.bool (st.has (k:Int) i)]) w/\(∀ bs,oget st.objs (k:Int) i=some bs->BAt w v bs/\Within S v)/\(oget st.objs (k:Int) i=none->v=.slice none 0 0):=by
 obtain ⟨n,_,hm⟩:=h.objs k hk;have hl:=hm.look Tryz.underlying157 (zeroS w) i trivial;have hl:(Instr.lookup 157 (.map (some (M k))) (.int .u64 (i.toNat:Int)) true).run Tryz.prog w=.ok (.tuple #[(F k i).getD (.slice none 0 0),.bool (F k i).isSome]) w:=hl;unfold St.has
 cases e:oget st.objs (k:Int) i with
 | none =>
  have e2:=h.gone k hk i e;rw [e2] at hl;exact ⟨_,hl,λ bs q=>(by cases q),λ _=>rfl⟩
 | some bs =>
  obtain ⟨v,h1,h2,h3⟩:=h.there k hk i bs e;rw [h1] at hl;exact ⟨v,hl,λ bs' q=>(by cases q; exact ⟨h2,h3⟩),λ q=>(by cases q)⟩
theorem has_x (h:StoreX w s b M r t F st S) {k:Nat} (hk:k<4) (i:UInt64) (g:Bool) (hg:st.has (k:Int) i=g) :
  Calls Tryz.prog 175 #[.pointer (some ⟨s,0,none⟩),.int .i64 (k:Int),.int .u64 (i.toNat:Int)] w λ e w'=>e=.returned (.bool g)/\w'=w:=by
 obtain ⟨v,hl,_⟩:=h.look hk i;rw [hg] at hl;obtain ⟨c0,c1,c2,c3,c4,c5,c6⟩:=h.cell;clear h hg
 obtain ⟨x,hx⟩:∃ x:Int,(i.toNat:Int)=x:=⟨_,rfl⟩
 rw [hx] at hl ⊢;clear hx
 have hk4:k=0∨k=1∨k=2∨k=3:=by omega
 rcases hk4 with rfl | rfl | rfl | rfl
 all_goals
  go_enter Tryz.func175,Tryz.ntmps175;go_wp2;go_ret;exact ⟨rfl,rfl⟩
theorem vhas_any (h:StoreAt w s b st S) {k:Nat} (hk:k<4) (i:UInt64) (g:Bool) (hg:st.has (k:Int) i=g) :
  Calls Tryz.prog 175 #[.pointer (some ⟨s,0,none⟩),.int .i64 (k:Int),.int .u64 (i.toNat:Int)] w λ e w'=>e=.returned (.bool g)/\w'=w:=by
 obtain ⟨M,r,t,F,h⟩:=h;exact has_x h hk i g hg
end
theorem allT_step {α:Type} {es:List α} {p:α->Bool} {i:Nat} {e:α} (h:es[i]? = some e) (ht:(es.take i).all p=true) (hx:p e=true):(es.take (i+1)).all p=true:=by
 rw [List.take_add_one,h,List.all_append,ht];simp [hx]
theorem allT_miss {α:Type} {es:List α} {p:α->Bool} {i:Nat} {e:α} (h:es[i]? = some e) (hx:p e=false):es.all p=false:=by
 rw [List.all_eq_false];exact ⟨e,List.mem_of_getElem? h,by simp [hx]⟩
section
variable {w:World} {s b:Nat} {st:St} {S:Nat->Prop}
theorem hasBlobs_any {ao:Option Addr} {c n:Nat} {es:List En} (h:StoreAt w s b st S) (hr:RdG encE w ao es) (hl:es.length=n) (hn:n<=4000000000000000000) (g:Bool) (hg:st.blobs es=g) :
  Calls Tryz.prog 116 #[.pointer (some ⟨s,0,none⟩),.slice ao n c] w λ e w'=>e=.returned (.bool g)/\Below w.heap.size w w':=by
 have H:Hid (StoreAt w s b st S/\RdG encE w ao es/\es.length=n/\st.blobs es=g):=⟨h,hr,hl,hg⟩
 clear h hr hl hg;go_enter Tryz.func116,Tryz.ntmps116;go_wp2_with fail;go_loopg [9] n (λ m iv wr=>∃ i:Nat,iv=.int .i64 i/\i+m=n/\Hid ((es.take i).all (λ e=>st.has 1 e.2)=true/\Below w.heap.size w wr))
 case atStart=>exact ⟨0,rfl,by omega,rfl,Below.refl _ _⟩
 case round =>
  obtain ⟨i,rfl,hi,HR⟩:=hrel;by_cases hin:i<n
  ·have id:(i:Int)<(n:Int):=by omega
   obtain ⟨e,he⟩:=get_some H.out.2.2.1 hin;obtain ⟨b1,off,rfl,hlt⟩:=H.out.2.1.some_of he;obtain ⟨_,c0,c1⟩:=(H.out.2.1.below HR.out.2).ents he;obtain ⟨d,z⟩:=e;simp only at c0 c1;have HE:Hid (es[i]? = some (d,z)):=he;clear he
   have hc:=λ (q:Bool) (hq:st.has 1 z=q)=>vhas_any ((H.out.1.below HR.out.2).below (bz1 wr (.cells #[tx d,.int .u64 (z.toNat:Int)] 69))) (k:=1) (by omega) z q hq
   obtain ⟨zi,hz⟩:∃ zi,(z.toNat:Int)=zi:=⟨_,rfl⟩
   rw [hz] at c1 hc;clear hz
   cases hp:st.has 1 z with
   | true =>
    have hc:=hc true hp;go_wp2_with fail;refine hc.mono ?_;rintro e w2 ⟨rfl,hw2⟩;rw [hw2];clear hw2 w2;go_wp2;go_roundg (gk - 1)
    case measure=>omega
    case rel=>exact ⟨i+1,by go_num,by omega,allT_step HE.out HR.out.1 hp,HR.out.2.trans ((bz1 wr _).mono HR.out.2.size)⟩
   | false =>
    have hc:=hc false hp
    have hg:g=false:=by rw [<- H.out.2.2.2]; exact allT_miss HE.out hp
    subst hg;go_wp2_with fail;refine hc.mono ?_;rintro e w2 ⟨rfl,hw2⟩;rw [hw2];clear hw2 w2;go_wp2;go_ret;exact ⟨rfl,HR.out.2.trans ((bz1 wr _).mono HR.out.2.size)⟩
  ·obtain rfl:i=n:=by omega
   have hall:=HR.out.1;rw [List.take_of_length_le (by rw [H.out.2.2.1]; omega)] at hall
   have hg:g=true:=by rw [<- H.out.2.2.2]; exact hall
   subst hg;clear hall;go_wp2;go_ret;exact ⟨rfl,HR.out.2⟩
theorem hasBase_any {pa:Option Addr} {pn pc:Nat} {cm:Cm} (h:StoreAt w s b st S) (hr:RdG encU w pa cm.ps) (hl:cm.ps.length=pn) (hn:pn<=4000000000000000000) (dt:Int) (nt:ByteArray) (g:Bool) (hg:st.above cm=g) :
  Calls Tryz.prog 127 #[.pointer (some ⟨s,0,none⟩),.agg #[.int .u64 (cm.tree.toNat:Int),.slice pa pn pc,.int .i64 dt,.string nt]] w λ e w'=>e=.returned (.bool g)/\Below w.heap.size w w':=by
 have ht:=λ (W:World) (hW:Below w.heap.size w W) (q:Bool) (hq:st.has 2 cm.tree=q)=>vhas_any (h.below hW) (k:=2) (by omega) cm.tree q hq
 obtain ⟨tr,htr⟩:∃ tr,(cm.tree.toNat:Int)=tr:=⟨_,rfl⟩
 rw [htr] at ht ⊢;clear htr
 obtain ⟨W,hW⟩:∃ W,w.alloc (.cells #[.int .u64 tr,.slice pa pn pc,.int .i64 dt,.string nt] 61)=W:=⟨_,rfl⟩
 have bW:Below w.heap.size w W:=by rw [<- hW]; exact bz1 _ _
 have bx:Box4 W w.heap.size 61 (.int .u64 tr) (.slice pa pn pc) (.int .i64 dt) (.string nt):=by rw [<- hW]; exact Box4.new _ _ _ _ _ _
 obtain ⟨x0,x1,x2,x3⟩:=bx.cells;have ht:=ht W bW
 have H:Hid (StoreAt W s b st S/\RdG encU W pa cm.ps/\cm.ps.length=pn/\st.above cm=g/\Below w.heap.size w W):=⟨h.below bW,hr.below bW,hl,hg,bW⟩
 clear h hr hl hg bW bx;go_enter Tryz.func127,Tryz.ntmps127;go_wp2_with fail;go_loopg [10] pn (λ m iv wr=>∃ i:Nat,iv=.int .i64 i/\i+m=pn/\wr=W/\Hid ((cm.ps.take i).all (λ p=>st.has 3 p)=true))
 case atStart=>exact ⟨0,rfl,by omega,rfl,rfl⟩
 case round =>
  obtain ⟨i,rfl,hi,rfl,HR⟩:=hrel;by_cases hin:i<pn
  ·have id:(i:Int)<(pn:Int):=by omega
   obtain ⟨x,hx⟩:=get_some H.out.2.2.1 hin;obtain ⟨b1,off,rfl,hlt⟩:=H.out.2.1.some_of hx;obtain ⟨_,c0⟩:=H.out.2.1.nums hx;have HE:Hid (cm.ps[i]? = some x):=hx;clear hx
   have hc:=λ (q:Bool) (hq:st.has 3 x=q)=>vhas_any H.out.1 (k:=3) (by omega) x q hq
   obtain ⟨zi,hz⟩:∃ zi,(x.toNat:Int)=zi:=⟨_,rfl⟩
   rw [hz] at c0 hc;clear hz
   cases hp:st.has 3 x with
   | true =>
    have hc:=hc true hp;go_wp2_with fail;refine hc.mono ?_;rintro e w2 ⟨rfl,hw2⟩;rw [hw2];clear hw2 w2;go_wp2;go_roundg (gk - 1)
    case measure=>omega
    case rel=>exact ⟨i+1,by go_num,by omega,rfl,allT_step HE.out HR.out hp⟩
   | false =>
    have hc:=hc false hp
    have hg:g=false:=by rw [<- H.out.2.2.2.1]; unfold St.above; rw [allT_miss HE.out hp]; rfl
    subst hg;go_wp2_with fail;refine hc.mono ?_;rintro e w2 ⟨rfl,hw2⟩;rw [hw2];clear hw2 w2;go_wp2;go_ret;exact ⟨rfl,H.out.2.2.2.2⟩
  ·obtain rfl:i=pn:=by omega
   have hall:=HR.out;rw [List.take_of_length_le (by rw [H.out.2.2.1]; omega)] at hall
   have hg:st.has 2 cm.tree=g:=by
    rw [<- H.out.2.2.2.1];unfold St.above;rw [hall]
    rfl
   have ht:=ht g hg;clear hall hg;go_wp2_with fail;refine ht.mono ?_;rintro e w2 ⟨rfl,hw2⟩;rw [hw2];clear hw2 w2;go_wp2;go_ret;exact ⟨rfl,H.out.2.2.2.2⟩
end
end Go.Proofs.YtjlokpjflgbgdaaGreat

namespace Go.Proofs.YtjlokpjflgbgdaaGreat
open Go.RowKit
theorem bel_da {W w1:World} {o:Obj} (h:Below (W.drew.alloc o).heap.size (W.drew.alloc o) w1):Below W.heap.size W w1:=below_drew ((bz1 W.drew o).trans (h.mono (bz1 W.drew o).size))
theorem sid_bel (k:Int) {v:Value} {xss:List Bs} (w:World) (h:PartsB w v xss) (hl:xss.length<=1000000) (x:UInt64) (hx:oid k xss.flatten=x) :
  Calls Tryz.prog 171 #[.int .i64 k,v] w λ e w'=>e=.returned (.int .u64 (x.toNat:Int))/\Below w.heap.size w w':=by
 refine (sid_at k w h hl x hx).mono ?_;rintro e w' ⟨rfl,rfl⟩;exact ⟨rfl,Below.refl _ _⟩
theorem grown_turned1 {w w':World} {m:Nat} (h:w.grownBy w' (some m)):Turned (λ i=>i=m) w w':=(Turned.refl _ _).grown h (λ k _ e=>by cases e; rfl)
theorem keep_c {W w1 w2:World} {m:Nat} (B1:Below W.heap.size W w1) (ht:Turned (λ x=>x=m) w1 w2) {p:Addr} {v:Value} (hp:p.block<W.heap.size) (hne:p.block≠m) (hc:W.cell? p=some v):w1.cell? p=some v/\w2.cell? p=some v:=by
 have h1:w1.cell? p=some v:=(B1.cell hp).trans hc;exact ⟨h1,(ht.cell (Nat.lt_of_lt_of_le hp B1.size) hne).trans h1⟩
section
variable {w:World} {s b:Nat} {M:Nat->Nat} {r t:Nat} {F:Nat->UInt64->Option Value} {st:St} {S:Nat->Prop}
theorem StoreX.update {w1:World} (h:StoreX w s b M r t F st S) (hb:Below w.heap.size w w1) {k:Nat} (hk:k<4) (i:UInt64) (hn:st.objs.length<=1000000) (v:Value) :
  ∃ w2 n,(Instr.mapUpdate 157 (.map (some (M k))) (.int .u64 (i.toNat:Int)) v).run Tryz.prog w1=.ok () w2/\MapG kU w2 (M k) (gput (F k) i v) n/\n<=st.objs.length+1/\Turned (λ x=>x=M k) w1 w2:=by
 obtain ⟨n,h1,h2⟩:=(h.below hb).objs k hk;obtain ⟨w2,h3,h4,h5⟩:=h2.put Tryz.underlying157 i trivial (by simp only [maxLen]; omega) v;refine ⟨w2,_,h3,h4,?_,grown_turned1 h5⟩
 split <;> omega
theorem keep_k {S':Nat->Prop} (h:StoreX w s b M r t F st S) (hSS:∀ i,S i->S' i) (hSl:∀ i,S' i->i<w.heap.size) {k:Nat} (hk1:1<=k) (hk:k<4) (kI:Int) (hkI:(k:Int)=kI) {a:Option Addr} {n c:Nat} {body:Bs} (hv:BAt w (.slice a n c) body) (hin:Within S' (.slice a n c)) (i:UInt64) (hi:oid kI body=i) (hno:oget st.objs kI i=none) (hn:st.objs.length<=1000000) :
  Calls Tryz.prog 143 #[.pointer (some ⟨s,0,none⟩),.agg #[.int .i64 kI,.slice a n c]] w λ e w'=>e=.returned (.tuple #[])/\StoreAt w' s b { st with objs:=st.objs++[⟨kI,i,body⟩] } S'/\Turned S w w':=by
 obtain ⟨W,hW⟩:∃ W,w.alloc (.cells #[.int .i64 kI,.slice a n c] 237)=W:=⟨_,rfl⟩
 have bW:Below w.heap.size w W:=by rw [<- hW]; exact bz1 _ _
 have bx:Box W w.heap.size 237 (.int .i64 kI) (.slice a n c):=by rw [<- hW]; exact Box.new _ _ _ _
 have hX:=(h.mono hSS hSl).below bW;have hown:=h.own.2.2.2 k hk;obtain ⟨x0,x1⟩:=bx.cells;obtain ⟨c0,c1,c2,c3,c4,c5,c6⟩:=hX.cell
 have H:Hid (StoreX W s b M r t F st S'/\BAt W (.slice a n c) body/\Within S' (.slice a n c)/\oid kI body=i/\oget st.objs kI i=none/\st.objs.length<=1000000/\Below w.heap.size w W/\Box W w.heap.size 237 (.int .i64 kI) (.slice a n c)):=⟨hX,hv.below bW,hin,hi,hno,hn,bW,bx⟩
 have fin:∀ w1 w2 m,Below W.heap.size W w1->MapG kU w2 (M k) (gput (F k) i (.slice a n c)) m->m<=st.objs.length+1->Turned (λ x=>x=M k) w1 w2->StoreAt w2 s b { st with objs:=st.objs++[⟨kI,i,body⟩] } S'/\Turned S w w2:=by
  intro w1 w2 m q1 q2 q3 q4;have:=(H.out.1.below q1).add hk (by rw [hkI]; exact H.out.2.2.2.2.1) (H.out.2.1.below q1) H.out.2.2.1 q2 q3 q4;rw [hkI] at this;refine ⟨⟨M,r,t,_,this⟩,?_⟩;refine (Turned.ofBelow (S:=S) (H.out.2.2.2.2.2.2.1.trans (q1.mono H.out.2.2.2.2.2.2.1.size))).trans q4 (λ j _ e=>?_);have e:j=M k:=e;rw [e];exact hown
 have up:=λ w1 hb=>StoreX.update (w1:=w1) H.out.1 hb hk i H.out.2.2.2.2.2.1 (.slice a n c)
 have ne:M k≠s:=H.out.1.map_ne.2.2 k hk
 obtain ⟨x,hx⟩:∃ x:Int,(i.toNat:Int)=x:=⟨_,rfl⟩
 have sid:=λ u (v:Value) (hu:PartsB u v [body])=>sid_bel kI u hu (by simp) i (by simpa using hi)
 rw [hx] at sid up;have hlt:s<W.heap.size:=hX.lt_s;have hlw:w.heap.size<W.heap.size:=bx.lt
 have hmw:w.heap.size≠M k:=λ e=>by
  have:=h.lt _ (h.own.2.2.2 k hk);omega
 have HH:Hid ((∀ w1 w2 m,Below W.heap.size W w1->MapG kU w2 (M k) (gput (F k) i (.slice a n c)) m->m<=st.objs.length+1->Turned (λ x=>x=M k) w1 w2->StoreAt w2 s b { st with objs:=st.objs++[⟨kI,i,body⟩] } S'/\Turned S w w2)
  /\ (∀ w1,Below W.heap.size W w1->∃ w2 n_1,(Instr.mapUpdate 157 (.map (some (M k))) (.int .u64 x) (.slice a n c)).run Tryz.prog w1=.ok () w2/\MapG kU w2 (M k) (gput (F k) i (.slice a n c)) n_1/\n_1<=st.objs.length+1/\Turned (λ x=>x=M k) w1 w2)
  /\ (∀ u v,PartsB u v [body]->Calls Tryz.prog 171 #[.int .i64 kI,v] u λ e w'=>e=.returned (.int .u64 x)/\Below u.heap.size u w')/\BAt W (.slice a n c) body/\s<W.heap.size/\w.heap.size<W.heap.size/\s≠M k/\w.heap.size≠M k):=⟨fin,up,sid,H.out.2.1,hlt,hlw,ne.symm,hmw⟩
 clear h hv hin hi hno hn bW bx hX fin up sid hx H hlt hlw hmw ne hown hSS hSl
 have hk4:k=1∨k=2∨k=3:=by omega
 rcases hk4 with rfl | rfl | rfl
 ·obtain rfl:kI=1:=by rw [<- hkI]; rfl
  go_enter Tryz.func143,Tryz.ntmps143;go_wp2_with fail
  go_region_held3 (λ u=>u.cell? ⟨w.heap.size,0,none⟩=some (.int .i64 1)/\u.cell? ⟨w.heap.size,1,none⟩=some (.slice a n c)/\u.cell? ⟨s,2,none⟩=some (.map (some (M 1))))
   (go_keep)
   (first | (go_at_call 171; refine (HH.out.2.2.1 _ _ (parts_one (HH.out.2.2.2.1.below (bdrewN W 1)) 39)).mono ?_; rintro e w1 ⟨rfl,B0⟩; have B1:Below W.heap.size W w1:=bel_da B0; obtain ⟨w2,m2,hrun,hm2,hn2,ht2⟩:=HH.out.2.1 w1 B1; obtain ⟨k0,l0⟩:=keep_c B1 ht2 (p:=⟨w.heap.size,0,none⟩) HH.out.2.2.2.2.2.1 HH.out.2.2.2.2.2.2.2 x0; obtain ⟨k1,l1⟩:=keep_c B1 ht2 (p:=⟨w.heap.size,1,none⟩) HH.out.2.2.2.2.2.1 HH.out.2.2.2.2.2.2.2 x1; obtain ⟨k2,l2⟩:=keep_c B1 ht2 (p:=⟨s,2,none⟩) HH.out.2.2.2.2.1 HH.out.2.2.2.2.2.2.1 c2; have FF:Hid (StoreAt w2 s b { st with objs:=st.objs++[⟨1,i,body⟩] } S'/\Turned S w w2):=HH.out.1 w1 w2 m2 B1 hm2 hn2 ht2; clear B0 B1 hm2 hn2 ht2))
  go_end0;exact ⟨rfl,FF.out⟩
 ·obtain rfl:kI=2:=by rw [<- hkI]; rfl
  go_enter Tryz.func143,Tryz.ntmps143;go_wp2_with fail
  go_region_held3 (λ u=>u.cell? ⟨w.heap.size,0,none⟩=some (.int .i64 2)/\u.cell? ⟨w.heap.size,1,none⟩=some (.slice a n c)/\u.cell? ⟨s,3,none⟩=some (.map (some (M 2))))
   (go_keep)
   (first | (go_at_call 171; refine (HH.out.2.2.1 _ _ (parts_one (HH.out.2.2.2.1.below (bdrewN W 1)) 39)).mono ?_; rintro e w1 ⟨rfl,B0⟩; have B1:Below W.heap.size W w1:=bel_da B0; obtain ⟨w2,m2,hrun,hm2,hn2,ht2⟩:=HH.out.2.1 w1 B1; obtain ⟨k0,l0⟩:=keep_c B1 ht2 (p:=⟨w.heap.size,0,none⟩) HH.out.2.2.2.2.2.1 HH.out.2.2.2.2.2.2.2 x0; obtain ⟨k1,l1⟩:=keep_c B1 ht2 (p:=⟨w.heap.size,1,none⟩) HH.out.2.2.2.2.2.1 HH.out.2.2.2.2.2.2.2 x1; obtain ⟨k2,l2⟩:=keep_c B1 ht2 (p:=⟨s,3,none⟩) HH.out.2.2.2.2.1 HH.out.2.2.2.2.2.2.1 c3; have FF:Hid (StoreAt w2 s b { st with objs:=st.objs++[⟨2,i,body⟩] } S'/\Turned S w w2):=HH.out.1 w1 w2 m2 B1 hm2 hn2 ht2; clear B0 B1 hm2 hn2 ht2))
  go_end0;exact ⟨rfl,FF.out⟩
 ·obtain rfl:kI=3:=by rw [<- hkI]; rfl
  go_enter Tryz.func143,Tryz.ntmps143;go_wp2_with fail
  go_region_held3 (λ u=>u.cell? ⟨w.heap.size,0,none⟩=some (.int .i64 3)/\u.cell? ⟨w.heap.size,1,none⟩=some (.slice a n c)/\u.cell? ⟨s,4,none⟩=some (.map (some (M 3))))
   (go_keep)
   (first | (go_at_call 171; refine (HH.out.2.2.1 _ _ (parts_one (HH.out.2.2.2.1.below (bdrewN W 1)) 39)).mono ?_; rintro e w1 ⟨rfl,B0⟩; have B1:Below W.heap.size W w1:=bel_da B0; obtain ⟨w2,m2,hrun,hm2,hn2,ht2⟩:=HH.out.2.1 w1 B1; obtain ⟨k0,l0⟩:=keep_c B1 ht2 (p:=⟨w.heap.size,0,none⟩) HH.out.2.2.2.2.2.1 HH.out.2.2.2.2.2.2.2 x0; obtain ⟨k1,l1⟩:=keep_c B1 ht2 (p:=⟨w.heap.size,1,none⟩) HH.out.2.2.2.2.2.1 HH.out.2.2.2.2.2.2.2 x1; obtain ⟨k2,l2⟩:=keep_c B1 ht2 (p:=⟨s,4,none⟩) HH.out.2.2.2.2.1 HH.out.2.2.2.2.2.2.1 c4; have FF:Hid (StoreAt w2 s b { st with objs:=st.objs++[⟨3,i,body⟩] } S'/\Turned S w w2):=HH.out.1 w1 w2 m2 B1 hm2 hn2 ht2; clear B0 B1 hm2 hn2 ht2))
  go_end0;exact ⟨rfl,FF.out⟩
theorem keep_any {S':Nat->Prop} (h:StoreAt w s b st S) (hSS:∀ i,S i->S' i) (hSl:∀ i,S' i->i<w.heap.size) (k:Int) (hk:k=1∨k=2∨k=3) {a:Option Addr} {n c:Nat} {body:Bs} (hv:BAt w (.slice a n c) body) (hin:Within S' (.slice a n c)) (hno:oget st.objs k (oid k body)=none) (hn:st.objs.length<=1000000) :
  Calls Tryz.prog 143 #[.pointer (some ⟨s,0,none⟩),.agg #[.int .i64 k,.slice a n c]] w λ e w'=>e=.returned (.tuple #[])/\StoreAt w' s b (st.take (k,body)) S'/\Turned S w w':=by
 obtain ⟨M,r,t,F,h⟩:=h
 have e:st.take (k,body)={ st with objs:=st.objs++[⟨k,oid k body,body⟩] }:=by
  unfold St.take;rw [if_neg (by show ¬ k=4; omega),if_neg (by show ¬ k=5; omega)]
 rw [e];exact keep_k h hSS hSl (k:=k.toNat) (by omega) (by omega) k (by omega) hv hin _ rfl hno hn
end
end Go.Proofs.YtjlokpjflgbgdaaGreat

namespace Go.Proofs.YtjlokpjflgbgdaaGreat
open Go.RowKit
def Blk (a:Option Addr) (n:Nat):Nat->Prop:=λ i=>0<n/\∃ p,a=some p/\p.block=i
theorem BAt.blk {w:World} {a:Option Addr} {n c:Nat} {bs:Bs} (h:BAt w (.slice a n c) bs):∀ i,Blk a n i->i<w.heap.size:=by
 rintro i ⟨h0,p,hp,rfl⟩;obtain ⟨ao,c',e,h1,h2,h3⟩:=h;cases e;obtain ⟨g,off,e2,hlt,_⟩:=h3 h0;rw [hp] at e2;cases e2;exact hlt
def Grown (U:Nat->Prop) (w w':World) (a:Option Addr) (n:Nat):Nat->Prop:=λ i=>Since U w w' i∨Blk a n i
section
variable {w:World} {s b:Nat} {st:St} {d:Dk} {U:Nat->Prop} {a:Option Addr} {n c:Nat} {body:Bs}
theorem add_join {w1 w2 w3:World} {S T:Nat->Prop} {st':St} {d':Dk} (hS:∀ i,S i->i<w.heap.size) (hap:∀ i,S i->¬ T i) (hU:∀ i,S i∨T i->U i) (hUl:∀ i,U i->i<w.heap.size) (hfar:∀ i,Blk a n i->¬ U i) (hbl:∀ i,Blk a n i->i<w.heap.size)
  (h1:Below w.heap.size w w1) (hd:DiskAt w2 b d' (Since T w1 w2)) (ht2:Turned T w1 w2) (hs:StoreAt w3 s b st' (λ i=>S i∨Blk a n i)) (ht3:Turned S w2 w3):Duo w3 s b st' d' (Grown U w w3 a n)/\Turned U w w3:=by
 have t2:Turned U w w2:=(Turned.ofBelow h1).trans ht2 (λ i _ q=>hU i (.inr q));refine ⟨⟨_,_,hs,hd.stays ht3 ?_,?_,?_,?_⟩,t2.trans ht3 (λ i _ q=>hU i (.inl q))⟩
 ·intro i hi q
  rcases hi with r | r
  ·exact hap i q r
  ·have:=hS i q;have:=h1.size;omega
 ·intro i hi q
  rcases hi with r | r
  ·rcases q with q | q
   ·exact hap i r q
   ·have:=hS i r;have:=h1.size;omega
  ·rcases q with q | q
   ·exact hfar i r (hU i (.inr q))
   ·have:=hbl i r;have:=h1.size;omega
 ·intro i hi
  rcases hi with (r | r) | (r | r)
  ·exact .inl (.inl (hU i (.inl r)))
  ·exact .inr r
  ·exact .inl (.inl (hU i (.inr r)))
  ·exact .inl (.inr ⟨by have:=h1.size; omega,Nat.lt_of_lt_of_le r.2 ht3.size⟩)
 ·intro i hi;have sz:=Nat.le_trans t2.size ht3.size
  rcases hi with (r | r) | r
  ·exact Nat.lt_of_lt_of_le (hUl i r) sz
  ·exact r.2
  ·exact Nat.lt_of_lt_of_le (hbl i r) sz
theorem add_at (hD:Duo w s b st d U) (hv:BAt w (.slice a n c) body) (hfar:∀ i,Blk a n i->¬ U i) (hl:body.length=n) (hn:n<=8192) (k:Int) (hk0:0<=k) (hk:k<=255) (hok:d.ok) (hw:d.writes<=1000000)
  (keepc:∀ w2 S,(∀ i,S i->U i)->StoreAt w2 s b st S->BAt w2 (.slice a n c) body->(∀ i,S i∨Blk a n i->i<w2.heap.size) ->
   Calls Tryz.prog 143 #[.pointer (some ⟨s,0,none⟩),.agg #[.int .i64 k,.slice a n c]] w2 λ e w'=>e=.returned (.tuple #[])/\StoreAt w' s b (st.take (k,body)) (λ i=>S i∨Blk a n i)/\Turned S w2 w') :
  Calls Tryz.prog 129 #[.pointer (some ⟨s,0,none⟩),.agg #[.int .i64 k,.slice a n c]] w λ e w'=>∃ r,e=.returned (.int .i64 r)/\Hid (r=(sapp st d (k,body)).2.2/\Duo w' s b (sapp st d (k,body)).1 (sapp st d (k,body)).2.1 (Grown U w w' a n)/\Turned U w w'):=by
 obtain ⟨S,T,hS,hT,hap,hU,hUl⟩:=hD
 obtain ⟨W,hW⟩:∃ W,w.alloc (.cells #[.int .i64 k,.slice a n c] 237)=W:=⟨_,rfl⟩
 have bW:Below w.heap.size w W:=by rw [<- hW]; exact bz1 _ _
 have bx:Box W w.heap.size 237 (.int .i64 k) (.slice a n c):=by rw [<- hW]; exact Box.new _ _ _ _
 obtain ⟨x0,x1⟩:=bx.cells;have hse:=seal_any (k:=k) (hv.below bW) hl
 have efs:(fseal (k,body)).2=0:=by
  unfold fseal;rw [if_neg (by show ¬ (k<0∨255<k); omega),if_neg (by show ¬ 8192<body.length; omega)]
 have elen:(fseal (k,body)).1.length<=100000:=by
  unfold fseal;rw [if_neg (by show ¬ (k<0∨255<k); omega),if_neg (by show ¬ 8192<body.length; omega)];show (sealB k body).length<=_;rw [sealB_len];omega
 obtain ⟨sb,hsb⟩:∃ sb,(fseal (k,body)).1=sb:=⟨_,rfl⟩
 obtain ⟨d',hd'⟩:∃ d',(dapp d fileN sb).1=d':=⟨_,rfl⟩
 obtain ⟨cd,hcd⟩:∃ cd,(dapp d fileN sb).2=cd:=⟨_,rfl⟩
 have esa:sapp st d (k,body)=(if cd=0 then st.take (k,body) else st,d',cd):=by
  unfold sapp;rw [hsb,hd',hcd]
 rw [efs,hsb] at hse;rw [hsb] at elen;rw [esa];obtain ⟨M,r,t,F,hX⟩:=hS;have hSl:∀ i,S i->i<w.heap.size:=hX.lt;have hbl:=hv.blk
 have H:Hid (StoreAt W s b st S/\DiskAt W b d T/\BAt W (.slice a n c) body/\Below w.heap.size w W/\Box W w.heap.size 237 (.int .i64 k) (.slice a n c)):=⟨⟨M,r,t,F,hX.below bW⟩,hT.below bW,hv.below bW,bW,bx⟩
 have G:Hid ((∀ i,S i->i<w.heap.size)/\(∀ i,S i->¬ T i)/\(∀ i,S i∨T i->U i)/\(∀ i,U i->i<w.heap.size)/\(∀ i,Blk a n i->¬ U i)/\(∀ i,Blk a n i->i<w.heap.size)):=⟨hSl,hap,hU,hUl,hfar,hbl⟩
 have K:Hid (∀ w2 S,(∀ i,S i->U i)->StoreAt w2 s b st S->BAt w2 (.slice a n c) body->(∀ i,S i∨Blk a n i->i<w2.heap.size)->Calls Tryz.prog 143 #[.pointer (some ⟨s,0,none⟩),.agg #[.int .i64 k,.slice a n c]] w2 λ e w'=>e=.returned (.tuple #[])/\StoreAt w' s b (st.take (k,body)) (λ i=>S i∨Blk a n i)/\Turned S w2 w'):=keepc
 have C0:Hid (W.cell? ⟨s,0,none⟩=some (.pointer (some ⟨b,0,none⟩))/\s<W.heap.size):=⟨(hX.below bW).cell.1,(hX.below bW).lt_s⟩
 have Q:Hid (d.ok/\d.writes<=1000000/\sb.length<=100000/\(dapp d fileN sb).1=d'/\(dapp d fileN sb).2=cd):=⟨hok,hw,elen,hd',hcd⟩
 clear hv hfar hl hn hk0 hk hok hw keepc hT hap hU hUl bW bx efs elen hsb hd' hcd esa hX hSl hbl;go_enter Tryz.func129,Tryz.ntmps129;go_wp2_with fail;refine hse.mono ?_;rintro e w1 ⟨v1,rfl,O1⟩
 obtain ⟨a1,c1,n1,hv1⟩:∃ a1 c1 n1,v1=.slice a1 n1 c1:=by
  obtain ⟨a1,c1,e,_⟩:=OwnG.form O1.out.1;exact ⟨a1,c1,_,e⟩
 subst hv1;have p0:w1.cell? ⟨s,0,none⟩=some (.pointer (some ⟨b,0,none⟩)):=(O1.out.2.cell C0.out.2).trans C0.out.1;have B1:Hid (Below w.heap.size w w1):=H.out.2.2.2.1.trans (O1.out.2.mono H.out.2.2.2.1.size);have hap1:=append_at ((H.out.2.1.below O1.out.2).below (bz1 w1 (.cells #[.slice a1 n1 c1] 39))) Q.out.1 (by have:=Q.out.2.1; omega) fileN (by decide) (parts_one (OwnB.at (OwnG.low O1.out.1 (Nat.zero_le _))) 39) (by simp) (by have:=Q.out.2.2.1; simp; omega)
 have efl:[sb].flatten=sb:=by simp
 rw [efl,Q.out.2.2.2.1,Q.out.2.2.2.2] at hap1;clear hse;go_wp2_with fail;refine hap1.mono ?_;rintro e w2 ⟨r2,rfl,hr2,D2,T2⟩;have er:r2=cd:=hr2.out;subst er;clear hr2 hap1 efl p0;have bz:=bz1 w1 (.cells #[.slice a1 n1 c1] 39);have B1':Hid (Below w.heap.size w (w1.alloc (.cells #[.slice a1 n1 c1] 39))):=B1.out.trans (bz.mono B1.out.size);have S2:Hid (StoreAt w2 s b st S):=((H.out.1.below O1.out.2).below bz).stays T2 G.out.2.1;have V2:Hid (BAt w2 (.slice a n c) body):=((H.out.2.2.1.below O1.out.2).below bz).turned T2 (λ h0 p hp q=>G.out.2.2.2.2.1 _ ⟨h0,p,hp,rfl⟩ (G.out.2.2.1 _ (.inr q)))
 have DT:Hid (DiskAt w2 b d' (Since T (w1.alloc (.cells #[.slice a1 n1 c1] 39)) w2)/\Turned T (w1.alloc (.cells #[.slice a1 n1 c1] 39)) w2):=⟨D2,T2⟩
 have y0:w2.cell? ⟨w.heap.size,0,none⟩=some (.int .i64 k)/\w2.cell? ⟨w.heap.size,1,none⟩=some (.slice a n c):=((((H.out.2.2.2.2.below O1.out.2).below bz).turned T2 (λ q=>by have:=G.out.2.2.2.1 _ (G.out.2.2.1 _ (.inr q)); omega))).cells;obtain ⟨y0,y1⟩:=y0;clear D2 T2 bz;by_cases hz:r2=0
 ·subst hz;have kc:=K.out w2 S (λ i hi=>G.out.2.2.1 i (.inl hi)) S2.out V2.out (λ i hi=>hi.elim (S2.out.lt i) (V2.out.blk i));go_wp2_with fail;refine kc.mono ?_;rintro e w3 ⟨rfl,S3,T3⟩;have FF:Hid _:=add_join G.out.1 G.out.2.1 G.out.2.2.1 G.out.2.2.2.1 G.out.2.2.2.2.1 G.out.2.2.2.2.2 B1'.out DT.out.1 DT.out.2 S3 T3;clear S3 T3 kc;go_wp2;go_ret;exact ⟨0,rfl,rfl,FF.out.1,FF.out.2⟩
 ·have m0:(r2 != 0)=true:=by simpa using hz
  go_wp2;go_ret;have S3:StoreAt w2 s b st (λ i=>S i∨Blk a n i):=S2.out.mono (λ i q=>.inl q) (λ i hi=>hi.elim (S2.out.lt i) (V2.out.blk i));have FF:=add_join G.out.1 G.out.2.1 G.out.2.2.1 G.out.2.2.2.1 G.out.2.2.2.2.1 G.out.2.2.2.2.2 B1'.out DT.out.1 DT.out.2 S3 (Turned.refl _ _);exact ⟨_,rfl,rfl,FF.1,FF.2⟩
theorem beq_at {u v:Value} {xs ys:Bs} (hx:BAt w u xs) (hy:BAt w v ys) (g:Bool) (hg:(xs==ys)=g) :
  Calls Tryz.prog 170 #[u,v] w λ e w'=>e=.returned (.bool g)/\w'=w:=by
 have h1:=conv_str hx;have h2:=conv_str hy;clear hx hy;subst hg;go_enter Tryz.func170,Tryz.ntmps170;go_wp2;go_ret;exact ⟨by simp,rfl⟩
theorem Duo.grown {w w':World} (hD:Duo w s b st d U) (hv:∀ i,Blk a n i->i<w.heap.size) (hb:Below w.heap.size w w'):Duo w' s b st d (Grown U w w' a n) :=
 (hD.below hb).mono (λ i hi=>.inl (.inl hi)) (λ i hi=>by
  rcases hi with (r | r) | r
  ·exact Nat.lt_of_lt_of_le (hD.lt i r) hb.size
  ·exact r.2
  ·exact Nat.lt_of_lt_of_le (hv i r) hb.size)
theorem Duo.regrown {w w1 w':World} {st':St} {d':Dk} (hb:Below w.heap.size w w1) (h:Duo w' s b st' d' (Grown U w1 w' a n)) (hs:w1.heap.size<=w'.heap.size) (hl:∀ i,U i∨Blk a n i->i<w.heap.size):Duo w' s b st' d' (Grown U w w' a n) :=
 h.mono (λ i hi=>by
  rcases hi with (r | r) | r
  ·exact .inl (.inl r)
  ·exact .inl (.inr ⟨by have:=hb.size; omega,r.2⟩)
  ·exact .inr r) (λ i hi=>by
  have:=hb.size
  rcases hi with (r | r) | r
  ·have:=hl i (.inl r); omega
  ·exact r.2
  ·have:=hl i (.inr r); omega)
theorem put_k (hD:Duo w s b st d U) (hv:BAt w (.slice a n c) body) (hfar:∀ i,Blk a n i->¬ U i) (hl:body.length=n) (hn:n<=8192) (k:Nat) (hk1:1<=k) (hk:k<4) (kI:Int) (hkI:(k:Int)=kI) (hok:d.ok) (hw:d.writes<=1000000) (hob:st.objs.length<=1000000) :
  Calls Tryz.prog 113 #[.pointer (some ⟨s,0,none⟩),.int .i64 kI,.slice a n c] w λ e w'=>∃ i r,e=.returned (.tuple #[.int .u64 i,.int .i64 r])/\Hid (i=((sput st d kI body).2.1.toNat:Int)/\r=(sput st d kI body).2.2/\Duo w' s b (sput st d kI body).1.1 (sput st d kI body).1.2 (Grown U w w' a n)/\Turned U w w'):=by
 have hk3:kI=1∨kI=2∨kI=3:=by omega
 obtain ⟨W,hW⟩:∃ W,w.alloc (.cells #[.slice a n c] 39)=W:=⟨_,rfl⟩
 have bW:Below w.heap.size w W:=by rw [<- hW]; exact bz1 _ _
 have hUl:=hD.lt;have hbl:=hv.blk;obtain ⟨S,T,hS,hT,hap,hU,_⟩:=hD;obtain ⟨M,r,t,F,hX⟩:=hS
 have hD:Duo w s b st d U:=⟨S,T,⟨M,r,t,F,hX⟩,hT,hap,hU,hUl⟩
 obtain ⟨x,hx⟩:∃ x,oid kI body=x:=⟨_,rfl⟩
 have sid:=sid_at kI W (by rw [<- hW]; exact parts_one hv 39) (by simp) x (by simpa using hx);obtain ⟨v,hlk,hthere,hgone⟩:=(hX.below bW).look hk x;rw [hkI] at hlk hthere hgone;obtain ⟨c0,c1,c2,c3,c4,c5,c6⟩:=(hX.below bW).cell
 have same:∀ (z:UInt64) (e:Int),sput st d kI body=((st,d),z,e)->Duo W s b (sput st d kI body).1.1 (sput st d kI body).1.2 (Grown U w W a n)/\Turned U w W:=by
  intro z e q;rw [q];exact ⟨hD.grown hbl bW,Turned.ofBelow bW⟩
 have hV:BAt W (.slice a n c) body:=hv.below bW
 have hx0:(x.toNat:Int)=0↔x=0:=by
  constructor
  ·intro q;exact UInt64.toNat_inj.1 (by simpa using q)
  ·rintro rfl; rfl
 cases hg:oget st.objs kI x with
 | some old =>
  have eh:st.has kI x=true:=by unfold St.has; rw [hg]; rfl
  rw [eh] at hlk;have hO:=(hthere old hg).1;clear hthere hgone
  cases hq:(old==body) with
  | true =>
   have eq:old=body:=by simpa using hq
   have e:sput st d kI body=((st,d),x,0):=by unfold sput; rw [hx,hg]; simp [eq]
   have bq:=beq_at hO hV true hq;have FF:Hid _:=same x 0 e;rw [e] at FF ⊢
   obtain ⟨xi,hxi⟩:∃ xi,(x.toNat:Int)=xi:=⟨_,rfl⟩
   rw [hxi] at sid hlk;have HX:Hid ((x.toNat:Int)=xi):=hxi;clear hv hfar hl hok hw hob hT hap hU hX hD hx hO hV same hg eh hUl hbl bW hq eq e hx0 hxi
   have hk4:k=1∨k=2∨k=3:=by omega
   rcases hk4 with rfl | rfl | rfl
   all_goals
    subst hkI;go_enter Tryz.func113,Tryz.ntmps113;go_wp2_with fail;refine sid.mono ?_;rintro e w1 ⟨rfl,hw1⟩;rw [hw1];clear hw1 w1;go_wp2_with fail;refine bq.mono ?_;rintro e w1 ⟨rfl,hw1⟩;rw [hw1];clear hw1 w1;go_wp2;refine bodyPost_ret (results_tmp2 rfl _ _ _) rfl ?_;exact ⟨_,_,rfl,HX.out.symm,rfl,FF.out⟩
  | false =>
   have eq:¬ old=body:=by simpa using hq
   have e:sput st d kI body=((st,d),0,13):=by unfold sput; rw [hx,hg]; simp [eq]
   have bq:=beq_at hO hV false hq;have FF:Hid _:=same 0 13 e;rw [e] at FF ⊢
   obtain ⟨xi,hxi⟩:∃ xi,(x.toNat:Int)=xi:=⟨_,rfl⟩
   rw [hxi] at sid hlk;clear hv hfar hl hok hw hob hT hap hU hX hD hx hO hV same hg eh hUl hbl bW hq eq e hx0 hxi
   have hk4:k=1∨k=2∨k=3:=by omega
   rcases hk4 with rfl | rfl | rfl
   all_goals
    subst hkI;go_enter Tryz.func113,Tryz.ntmps113;go_wp2_with fail;refine sid.mono ?_;rintro e w1 ⟨rfl,hw1⟩;rw [hw1];clear hw1 w1;go_wp2_with fail;refine bq.mono ?_;rintro e w1 ⟨rfl,hw1⟩;rw [hw1];clear hw1 w1;go_wp2;refine bodyPost_ret (results_tmp2 rfl _ _ _) rfl ?_;exact ⟨_,_,rfl,rfl,rfl,FF.out⟩
 | none =>
  have eh:st.has kI x=false:=by unfold St.has; rw [hg]; rfl
  rw [eh] at hlk;have hv0:=hgone hg;subst hv0;clear hthere hgone;by_cases h0:x=0
  ·have e:sput st d kI body=((st,d),0,13):=by unfold sput; rw [hx,hg]; simp [h0]
   have FF:Hid _:=same 0 13 e;rw [e] at FF ⊢;rw [hx0.2 h0] at sid hlk;clear hv hfar hl hok hw hob hT hap hU hX hD hx hV same hg eh hUl hbl bW e hx0 h0
   have hk4:k=1∨k=2∨k=3:=by omega
   rcases hk4 with rfl | rfl | rfl
   all_goals
    subst hkI;go_enter Tryz.func113,Tryz.ntmps113;go_wp2_with fail;refine sid.mono ?_;rintro e w1 ⟨rfl,hw1⟩;rw [hw1];clear hw1 w1;go_wp2;refine bodyPost_ret (results_tmp2 rfl _ _ _) rfl ?_;exact ⟨_,_,rfl,rfl,rfl,FF.out⟩
  ·have e:sput st d kI body=(((sapp st d (kI,body)).1,(sapp st d (kI,body)).2.1),if (sapp st d (kI,body)).2.2=0 then x else 0,(sapp st d (kI,body)).2.2):=by unfold sput; rw [hx,hg]; simp [h0]
   have had:=add_at (hD.below bW) hV hfar hl hn kI (by omega) (by omega) hok hw (λ w2 S hSU hS2 hV2 hl2 =>
    keep_any hS2 (λ i q=>.inl q) hl2 kI hk3 hV2 (λ p m c2 e h0=>by cases e; exact .inr ⟨h0,p,rfl,rfl⟩) (by rw [hx]; exact hg) hob)
   obtain ⟨Z,hZ⟩:∃ Z,sput st d kI body=Z:=⟨_,rfl⟩
   have EZ:Hid (Z=(((sapp st d (kI,body)).1,(sapp st d (kI,body)).2.1),if (sapp st d (kI,body)).2.2=0 then x else 0,(sapp st d (kI,body)).2.2)):=hZ.symm.trans e;rw [hZ]
   have n0:¬ (x.toNat:Int)=0:=λ q=>h0 (hx0.1 q)
   have REG:Hid (Below w.heap.size w W/\∀ i,U i∨Blk a n i->i<w.heap.size):=⟨bW,λ i q=>q.elim (hUl i) (hbl i)⟩
   obtain ⟨xi,hxi⟩:∃ xi,(x.toNat:Int)=xi:=⟨_,rfl⟩
   rw [hxi] at sid hlk n0
   have m1:(xi==0)=false:=by simpa using n0
   have HX:Hid ((x.toNat:Int)=xi):=hxi;clear hv hfar hl hn hok hw hob hT hap hU hX hD hx hV same hg eh hUl hbl bW e hx0 h0 hxi n0 hZ
   have hk4:k=1∨k=2∨k=3:=by omega
   rcases hk4 with rfl | rfl | rfl
   all_goals
    subst hkI;go_enter Tryz.func113,Tryz.ntmps113;go_wp2_with fail;refine sid.mono ?_;rintro e w1 ⟨rfl,hw1⟩;rw [hw1];clear hw1 w1;go_wp2_with fail;refine had.mono ?_;rintro e w2 ⟨r2,rfl,R2⟩;have FF:Hid _:=And.intro R2.out.1 (And.intro (Duo.regrown REG.out.1 R2.out.2.1 R2.out.2.2.size REG.out.2) ((Turned.ofBelow (S:=U) REG.out.1).trans R2.out.2.2 (λ _ _ q=>q)));clear R2;by_cases hz:r2=0
    ·subst hz;go_wp2;refine bodyPost_ret (results_tmp2 rfl _ _ _) rfl ?_;exact ⟨_,_,rfl,by rw [EZ.out]; exact ⟨by rw [if_pos FF.out.1.symm]; exact HX.out.symm,FF.out.1,FF.out.2⟩⟩
    ·have m0:(r2 != 0)=true:=by simpa using hz
     go_wp2;refine bodyPost_ret (results_tmp2 rfl _ _ _) rfl ?_;exact ⟨_,_,rfl,by rw [EZ.out]; exact ⟨by rw [if_neg (λ q=>hz (FF.out.1.trans q))]; rfl,FF.out.1,FF.out.2⟩⟩
end
end Go.Proofs.YtjlokpjflgbgdaaGreat

namespace Go.Proofs.YtjlokpjflgbgdaaGreat
open Go.RowKit
section
variable {w:World} {s b:Nat} {st:St} {d:Dk} {U:Nat->Prop}
theorem put_new {W0 W:World} {k:Nat} {v:Value} {body:Bs} (hD:Duo W0 s b st d U) (hb:Below W0.heap.size W0 W) (ho:OwnG encB 5 W W0.heap.size v body) (hn:body.length<=8192) (hk1:1<=k) (hk:k<4) (kI:Int) (hkI:(k:Int)=kI) (hok:d.ok) (hw:d.writes<=1000000) (hob:st.objs.length<=1000000) :
  Calls Tryz.prog 113 #[.pointer (some ⟨s,0,none⟩),.int .i64 kI,v] W λ e w'=>∃ i r,e=.returned (.tuple #[.int .u64 i,.int .i64 r])/\Hid (i=((sput st d kI body).2.1.toNat:Int)/\r=(sput st d kI body).2.2/\Duo w' s b (sput st d kI body).1.1 (sput st d kI body).1.2 (Since U W0 w')/\Turned U W0 w'):=by
 have hlow:=hD.lt
 have hnew:∀ p n c,v=.slice (some p) n c->0<n->W0.heap.size<=p.block:=by
  intro p n c e h0
  exact (ho.lt p.block (by
   obtain ⟨ao,c',e',h1,h2,h3,h4⟩:=OwnG.form ho;rw [e'] at e;cases e;obtain ⟨g,eg⟩:=h4 h0;cases eg;rw [e']
   rfl)).1
 obtain ⟨ao,c,rfl,h1,h2,h3,h4⟩:=OwnG.form ho
 have hv:BAt W (.slice ao body.length c) body:=⟨ao,c,rfl,h1,h2,h3⟩
 have hfar:∀ i,Blk ao body.length i->¬ U i:=by
  rintro i ⟨h0,p,rfl,rfl⟩ q;have:=hnew p _ c rfl h0;have:=hlow _ q;omega
 refine (put_k (hD.below hb) hv hfar rfl hn k hk1 hk kI hkI hok hw hob).mono ?_;rintro e w' ⟨i,r,rfl,R⟩;refine ⟨i,r,rfl,R.out.1,R.out.2.1,R.out.2.2.1.mono ?_ ?_,(Turned.ofBelow (S:=U) hb).trans R.out.2.2.2 (λ _ _ q=>q)⟩
 ·intro i hi;have sz:=R.out.2.2.2.size
  rcases hi with (q | q) | q
  ·exact .inl q
  ·exact .inr ⟨by have:=hb.size; omega,q.2⟩
  ·obtain ⟨h0,p,rfl,rfl⟩:=q;exact .inr ⟨hnew p _ c rfl h0,Nat.lt_of_lt_of_le (hv.blk _ ⟨h0,p,rfl,rfl⟩) sz⟩
 ·intro i hi
  rcases hi with q | q
  ·exact Nat.lt_of_lt_of_le (hlow i q) (Nat.le_trans hb.size R.out.2.2.2.size)
  ·exact q.2
theorem Duo.since {W0 W:World} (hD:Duo W0 s b st d U) (hb:Below W0.heap.size W0 W):Duo W s b st d (Since U W0 W) :=
 (hD.below hb).mono (λ _ q=>.inl q) (λ i q=>q.elim (λ q=>Nat.lt_of_lt_of_le (hD.lt i q) hb.size) (λ q=>q.2))
theorem blob_any (hD:Duo w s b st d U) {v:Value} {xss:List Bs} (hp:PartsB w v xss) (hl:xss.length<=1000000) (hx:∀ x∈xss,x.length<=140737488355328) (hok:d.ok) (hw:d.writes<=1000000) (hob:st.objs.length<=1000000) :
  Calls Tryz.prog 44 #[.pointer (some ⟨s,0,none⟩),v] w λ e w'=>∃ i r,e=.returned (.tuple #[.int .u64 i,.int .i64 r])/\Hid (i=((sblob st d xss.flatten).2.1.toNat:Int)/\r=(sblob st d xss.flatten).2.2/\Duo w' s b (sblob st d xss.flatten).1.1 (sblob st d xss.flatten).1.2 (Since U w w')/\Turned U w w'):=by
 have P:Hid (PartsB w v xss):=hp;obtain ⟨ao,c,rfl,h1,h2⟩:=hp
 obtain ⟨N,eN⟩:∃ N,xss.length=N:=⟨_,rfl⟩
 rw [eN] at hl h1 P ⊢
 obtain ⟨Z,hZ⟩:∃ Z,sblob st d xss.flatten=Z:=⟨_,rfl⟩
 rw [hZ];have A:Hid (0<N->∃ b off,ao=some ⟨b,off,none⟩/\b<w.heap.size):=h1;have B:Hid (∀ j x b off,xss[j]? = some x->ao=some ⟨b,off,none⟩->∃ u,w.cell? ⟨b,off+j,none⟩=some u/\BAt w u x):=h2
 have H:Hid (sblob st d xss.flatten=Z/\xss.length=N/\(∀ x∈xss,x.length<=140737488355328)/\Duo w s b st d U/\d.ok/\d.writes<=1000000/\st.objs.length<=1000000):=⟨hZ,eN,hx,hD,hok,hw,hob⟩
 clear h1 h2 eN hx hD hok hw hob hZ;go_enter Tryz.func44,Tryz.ntmps44;go_wp2_with fail;go_loopg [6,11] N (λ k sv iv wr=>wr=w/\∃ i s:Nat,iv=.int .i64 i/\i+k=N/\sv=.int .i64 (s:Int)/\s<=4096/\Hid (s+(xss.take i).flatten.length=4096))
 case atStart=>exact ⟨rfl,0,4096,rfl,by omega,rfl,by omega,rfl⟩
 case round =>
  obtain ⟨hw,i,s1,rfl,hi,rfl,hs,HS⟩:=hrel;have hw':=hw.symm;subst hw';clear hw;by_cases hin:i<N
  ·have id:(i:Int)<(N:Int):=by omega
   obtain ⟨x,hx⟩:=get_some H.out.2.1 hin;obtain ⟨b1,o1,rfl,hlt⟩:=A.out (by omega);obtain ⟨u,hu,a2,c2,rfl,_,_,_⟩:=B.out i x b1 o1 hx rfl;have e2:=parts_le xss (i+1);rw [flat_take hx,List.length_append] at e2;have hxl:=H.out.2.2.1 x (List.mem_of_getElem? hx)
   obtain ⟨xl,exl⟩:∃ xl,x.length=xl:=⟨_,rfl⟩
   rw [exl] at hxl hu e2
   have E:Hid ((xss.take i).flatten.length+xl<=xss.flatten.length/\(xss.take (i+1)).flatten.length=(xss.take i).flatten.length+xl):=⟨e2,by rw [flat_take hx,List.length_append,exl]⟩
   clear e2 hx exl;by_cases hbig:s1<xl
   ·have t:(s1:Int)<(xl:Int):=by omega
    have ez:Z=((st,d),0,4):=by
     rw [<- H.out.1];unfold sblob;rw [if_pos (by have:=E.out.1; have:=HS.out; omega)]
    subst ez;go_wp2;refine bodyPost_ret (results_tmp2 rfl _ _ _) rfl ?_;exact ⟨_,_,rfl,rfl,rfl,H.out.2.2.2.1.since (Below.refl _ _),Turned.refl _ _⟩
   ·have t:decide ((s1:Int)<(xl:Int))=false:=by rw [decide_eq_false_iff_not]; omega
    go_wp2;go_roundg (gk - 1)
    case measure=>omega
    case rel=>exact ⟨rfl,i+1,s1 - xl,by go_num,by omega,by go_num,by omega,by have:=E.out.2; have:=HS.out; show s1 - xl+_=_; omega⟩
  ·obtain rfl:i=N:=by omega
   have hfl:s1+xss.flatten.length=4096:=by
    have:=HS.out;rw [List.take_of_length_le (by rw [H.out.2.1]; omega)] at this;exact this
   have ez:Z=sput st d 1 xss.flatten:=by
    rw [<- H.out.1];unfold sblob;rw [if_neg (by omega)]
   have hco:=concat_any w P.out (by rw [H.out.2.1]; exact hl) (by omega)
   have HF:Hid (xss.flatten.length<=8192):=by show _<=_; omega
   have EZ:Hid (Z=sput st d 1 xss.flatten):=ez;clear hfl ez;go_wp2_with fail;refine hco.mono ?_;rintro e w1 ⟨v1,rfl,O1,B1⟩;have hpu:=put_new H.out.2.2.2.1 B1 O1 HF.out (k:=1) (by omega) (by omega) 1 rfl H.out.2.2.2.2.1 H.out.2.2.2.2.2.1 H.out.2.2.2.2.2.2;rw [<- EZ.out] at hpu;clear hco O1 B1;go_wp2_with fail;refine hpu.mono ?_;rintro e w2 ⟨i2,r2,rfl,R2⟩;go_wp2;refine bodyPost_ret (results_tmp2 rfl _ _ _) rfl ?_;exact ⟨_,_,rfl,R2.out⟩
theorem tree_put {ao:Option Addr} {n c:Nat} {es:List En} (hD:Duo w s b st d U) (hr:RdG encE w ao es) (hl:es.length=n) (hn:n<=4000000000000000000) (hf:Fine es) (hc:n<=c) (hok:d.ok) (hw:d.writes<=1000000) (hob:st.objs.length<=1000000) :
  Calls Tryz.prog 45 #[.pointer (some ⟨s,0,none⟩),.slice ao n c] w λ e w'=>∃ i r,e=.returned (.tuple #[.int .u64 i,.int .i64 r])/\Hid (i=((stree st d es).2.1.toNat:Int)/\r=(stree st d es).2.2/\Duo w' s b (stree st d es).1.1 (stree st d es).1.2 (Since U w w')/\Turned U w w'):=by
 obtain ⟨Z,hZ⟩:∃ Z,stree st d es=Z:=⟨_,rfl⟩
 rw [hZ]
 obtain ⟨fe,hfe⟩:∃ fe,(ftree es).2=fe:=⟨_,rfl⟩
 obtain ⟨fb,hfb⟩:∃ fb,(ftree es).1=fb:=⟨_,rfl⟩
 have htr:=tree_any w hr hl hf hc;rw [hfe,hfb] at htr;by_cases h0:fe=0
 ·subst h0
  have hct:ctree es=0:=by
   unfold ftree at hfe
   split at hfe
   ·assumption
   ·exact hfe
  have hlen:fb.length<=8192:=by
   rw [<- hfb];unfold ftree;rw [if_pos hct];show (treeB es).length<=_;have h64:=(ctree_ok hct).1
   have:∀ l:List En,(∀ e∈l,e.1.length<=102)->(treeB l).length<=111*l.length:=by
    intro l
    induction l with
    | nil=>intro _; simp [treeB]
    | cons x t ih =>
     intro hx;have:=ih (λ e he=>hx e (List.mem_cons_of_mem _ he));have e1:=hx x List.mem_cons_self
     have e2:(treeB (x::t)).length=(entB x).length+(treeB t).length:=by simp [treeB]
     rw [e2,entB_len,List.length_cons];omega
   have h2:=this es (λ e he=>path_short (List.all_eq_true.1 (ctree_ok hct).2.1 e he));omega
  obtain ⟨g,hg⟩:∃ g,st.blobs es=g:=⟨_,rfl⟩
  obtain ⟨S,T,hS,hT,hap,hU,hUl⟩:=hD
  have hD:Duo w s b st d U:=⟨S,T,hS,hT,hap,hU,hUl⟩
  have H:Hid (StoreAt w s b st S/\RdG encE w ao es/\es.length=n/\Duo w s b st d U/\d.ok/\d.writes<=1000000/\st.objs.length<=1000000/\fb.length<=8192/\st.blobs es=g/\stree st d es=Z/\(ftree es).2=0/\(ftree es).1=fb):=⟨hS,hr,hl,hD,hok,hw,hob,hlen,hg,hZ,hfe,hfb⟩
  clear hr hl hf hc hok hw hob hlen hg hZ hfe hfb hS hT hap hU hUl hD hct;go_enter Tryz.func45,Tryz.ntmps45;go_wp2_with fail;refine htr.mono ?_;rintro e w1 ⟨v1,rfl,O1⟩;have hb:=hasBlobs_any (c:=c) (H.out.1.below O1.out.2) (H.out.2.1.below O1.out.2) H.out.2.2.1 hn g H.out.2.2.2.2.2.2.2.2.1;clear htr;go_wp2_with fail;refine hb.mono ?_;rintro e w2 ⟨rfl,B2⟩;have B12:Hid (Below w.heap.size w w2):=O1.out.2.trans (B2.mono O1.out.2.size);have O2:Hid (OwnG encB 5 w2 w.heap.size v1 fb):=O1.out.1.below B2;clear hb B2 O1
  cases g with
  | false =>
   have ez:Z=((st,d),0,5):=by
    rw [<- H.out.2.2.2.2.2.2.2.2.2.1];unfold stree;rw [if_neg (by rw [H.out.2.2.2.2.2.2.2.2.2.2.1]; simp),if_pos H.out.2.2.2.2.2.2.2.2.1]
   subst ez;go_wp2;refine bodyPost_ret (results_tmp2 rfl _ _ _) rfl ?_;exact ⟨_,_,rfl,rfl,rfl,H.out.2.2.2.1.since B12.out,Turned.ofBelow B12.out⟩
  | true =>
   have ez:Z=sput st d 2 fb:=by
    rw [<- H.out.2.2.2.2.2.2.2.2.2.1];unfold stree;rw [if_neg (by rw [H.out.2.2.2.2.2.2.2.2.2.2.1]; simp),if_neg (by rw [H.out.2.2.2.2.2.2.2.2.1]; simp),H.out.2.2.2.2.2.2.2.2.2.2.2]
   have hpu:=put_new H.out.2.2.2.1 B12.out O2.out H.out.2.2.2.2.2.2.2.1 (k:=2) (by omega) (by omega) 2 rfl H.out.2.2.2.2.1 H.out.2.2.2.2.2.1 H.out.2.2.2.2.2.2.1;rw [<- ez] at hpu;clear ez;go_wp2_with fail;refine hpu.mono ?_;rintro e w3 ⟨i2,r2,rfl,R2⟩;go_wp2;refine bodyPost_ret (results_tmp2 rfl _ _ _) rfl ?_;exact ⟨_,_,rfl,R2.out⟩
 ·have ez:Z=((st,d),0,fe):=by
   rw [<- hZ];unfold stree;rw [if_pos (by rw [hfe]; exact h0),hfe]
  have m0:(fe != 0)=true:=by simpa using h0
  have H:Hid (Duo w s b st d U):=hD;subst ez;clear hr hl hf hc hok hw hob hZ hfe hfb hD;go_enter Tryz.func45,Tryz.ntmps45;go_wp2_with fail;refine htr.mono ?_;rintro e w1 ⟨v1,rfl,O1⟩;clear htr;go_wp2;refine bodyPost_ret (results_tmp2 rfl _ _ _) rfl ?_;exact ⟨_,_,rfl,rfl,rfl,H.out.since O1.out.2,Turned.ofBelow O1.out.2⟩
theorem com_put {pa:Option Addr} {pn pc:Nat} {cm:Cm} (hD:Duo w s b st d U) (hr:RdG encU w pa cm.ps) (hl:cm.ps.length=pn) (hn:pn<=4000000000000000000) (hpc:pn<=pc) (nt:ByteArray) (hnt:nt=⟨cm.note.toArray⟩) (dt:Int) (hdt:cm.date=dt) (hok:d.ok) (hw:d.writes<=1000000) (hob:st.objs.length<=1000000) :
  Calls Tryz.prog 55 #[.pointer (some ⟨s,0,none⟩),.agg #[.int .u64 (cm.tree.toNat:Int),.slice pa pn pc,.int .i64 dt,.string nt]] w λ e w'=>∃ i r,e=.returned (.tuple #[.int .u64 i,.int .i64 r])/\Hid (i=((scom st d cm).2.1.toNat:Int)/\r=(scom st d cm).2.2/\Duo w' s b (scom st d cm).1.1 (scom st d cm).1.2 (Since U w w')/\Turned U w w'):=by
 obtain ⟨Z,hZ⟩:∃ Z,scom st d cm=Z:=⟨_,rfl⟩
 rw [hZ]
 obtain ⟨fe,hfe⟩:∃ fe,(fcom cm).2=fe:=⟨_,rfl⟩
 obtain ⟨fb,hfb⟩:∃ fb,(fcom cm).1=fb:=⟨_,rfl⟩
 have hct0:=λ (W:World) (bW:Below w.heap.size w W)=>com_any (c:=cm) (hr.below bW) hl hpc nt hnt dt hdt
 have hba0:=λ (W:World) (S:Nat->Prop) (hS:StoreAt W s b st S) (bW:Below w.heap.size w W) (g:Bool) (hg:st.above cm=g)=>hasBase_any (pc:=pc) (cm:=cm) hS (hr.below bW) hl hn dt nt g hg
 obtain ⟨tr,htr⟩:∃ tr,(cm.tree.toNat:Int)=tr:=⟨_,rfl⟩
 rw [htr] at hct0 hba0 ⊢
 obtain ⟨W,hW⟩:∃ W,w.alloc (.cells #[.int .u64 tr,.slice pa pn pc,.int .i64 dt,.string nt] 61)=W:=⟨_,rfl⟩
 have bW:Below w.heap.size w W:=by rw [<- hW]; exact bz1 _ _
 have bx:Box4 W w.heap.size 61 (.int .u64 tr) (.slice pa pn pc) (.int .i64 dt) (.string nt):=by rw [<- hW]; exact Box4.new _ _ _ _ _ _
 obtain ⟨x0,x1,x2,x3⟩:=bx.cells;have hco:=hct0 W bW;rw [hfe,hfb] at hco;by_cases h0:fe=0
 ·subst h0
  have hct:ccom cm=0:=by
   unfold fcom at hfe
   split at hfe
   ·assumption
   ·exact hfe
  have hlen:fb.length<=8192:=by
   rw [<- hfb];unfold fcom;rw [if_pos hct];show (comB cm).length<=_;have h1:=(com_read hct).2.1;have h2:=ccom_ok hct;omega
  obtain ⟨g,hg⟩:∃ g,st.above cm=g:=⟨_,rfl⟩
  obtain ⟨S,T,hS,hT,hap,hU,hUl⟩:=hD
  have hD:Duo w s b st d U:=⟨S,T,hS,hT,hap,hU,hUl⟩
  have hba:=λ W2 (b2:Below W.heap.size W W2)=>hba0 W2 S (hS.below (bW.trans (b2.mono bW.size))) (bW.trans (b2.mono bW.size)) g hg
  have HB:Hid (∀ W2,Below W.heap.size W W2->Calls Tryz.prog 127 #[.pointer (some ⟨s,0,none⟩),.agg #[.int .u64 tr,.slice pa pn pc,.int .i64 dt,.string nt]] W2 λ e w'=>e=.returned (.bool g)/\Below W2.heap.size W2 w'):=hba
  have H:Hid (Below w.heap.size w W/\Box4 W w.heap.size 61 (.int .u64 tr) (.slice pa pn pc) (.int .i64 dt) (.string nt)/\Duo w s b st d U/\d.ok/\d.writes<=1000000/\st.objs.length<=1000000/\fb.length<=8192/\st.above cm=g/\scom st d cm=Z/\(fcom cm).2=0/\(fcom cm).1=fb):=⟨bW,bx,hD,hok,hw,hob,hlen,hg,hZ,hfe,hfb⟩
  clear hr hl hpc hnt hdt hok hw hob hlen hg hZ hfe hfb hS hT hap hU hUl hD hct hba hba0 hct0 htr bW bx;go_enter Tryz.func55,Tryz.ntmps55;go_wp2_with fail;refine hco.mono ?_;rintro e w1 ⟨v1,rfl,O1⟩;have hb:=HB.out w1 O1.out.2;obtain ⟨y0,y1,y2,y3⟩:=(H.out.2.1.below O1.out.2 H.out.2.1.lt).cells;clear hco;go_wp2_with fail;refine hb.mono ?_;rintro e w2 ⟨rfl,B2⟩;have B12:Hid (Below w.heap.size w w2):=H.out.1.trans ((O1.out.2.trans (B2.mono O1.out.2.size)).mono H.out.1.size);have O2:Hid (OwnG encB 5 w2 w.heap.size v1 fb):=(O1.out.1.low H.out.1.size).below B2;clear hb B2 O1 y0 y1 y2 y3
  cases g with
  | false =>
   have ez:Z=((st,d),0,5):=by
    rw [<- H.out.2.2.2.2.2.2.2.2.1];unfold scom;rw [if_neg (by rw [H.out.2.2.2.2.2.2.2.2.2.1]; simp),if_pos H.out.2.2.2.2.2.2.2.1]
   subst ez;go_wp2;refine bodyPost_ret (results_tmp2 rfl _ _ _) rfl ?_;exact ⟨_,_,rfl,rfl,rfl,H.out.2.2.1.since B12.out,Turned.ofBelow B12.out⟩
  | true =>
   have ez:Z=sput st d 3 fb:=by
    rw [<- H.out.2.2.2.2.2.2.2.2.1];unfold scom;rw [if_neg (by rw [H.out.2.2.2.2.2.2.2.2.2.1]; simp),if_neg (by rw [H.out.2.2.2.2.2.2.2.1]; simp),H.out.2.2.2.2.2.2.2.2.2.2]
   have hpu:=put_new H.out.2.2.1 B12.out O2.out H.out.2.2.2.2.2.2.1 (k:=3) (by omega) (by omega) 3 rfl H.out.2.2.2.1 H.out.2.2.2.2.1 H.out.2.2.2.2.2.1;rw [<- ez] at hpu;clear ez;go_wp2_with fail;refine hpu.mono ?_;rintro e w3 ⟨i2,r2,rfl,R2⟩;go_wp2;refine bodyPost_ret (results_tmp2 rfl _ _ _) rfl ?_;exact ⟨_,_,rfl,R2.out⟩
 ·have ez:Z=((st,d),0,fe):=by
   rw [<- hZ];unfold scom;rw [if_pos (by rw [hfe]; exact h0),hfe]
  have m0:(fe != 0)=true:=by simpa using h0
  have H:Hid (Duo w s b st d U/\Below w.heap.size w W):=⟨hD,bW⟩
  subst ez;clear hr hl hpc hok hw hob hZ hfe hfb hD hba0 hct0 htr bW bx hnt hdt;go_enter Tryz.func55,Tryz.ntmps55;go_wp2_with fail;refine hco.mono ?_;rintro e w1 ⟨v1,rfl,O1⟩;clear hco;go_wp2;refine bodyPost_ret (results_tmp2 rfl _ _ _) rfl ?_;have B1:=H.out.2.trans (O1.out.2.mono H.out.2.size);exact ⟨_,_,rfl,rfl,rfl,H.out.1.since B1,Turned.ofBelow B1⟩
end
end Go.Proofs.YtjlokpjflgbgdaaGreat

namespace Go.Proofs.YtjlokpjflgbgdaaGreat
open Go.RowKit
theorem rname_any (s:ByteArray) (hm:s.size<=9223372036854775807) (w:World) :
  Calls Tryz.prog 131 #[.string s] w λ e w'=>e=.returned (.bool (isName s.data.toList))/\w'=w:=by
 have E:Hid (s.size=s.data.toList.length):=bsize s;go_enter Tryz.func131,Tryz.ntmps131;go_wp2_with fail;go_loopg [3] s.size (λ k v wr=>∃ i:Nat,v=.int .i64 i/\i+k=s.size/\wr=w/\Hid ((s.data.toList.take i).all okB=true))
 case atStart=>exact ⟨0,rfl,by omega,rfl,by simp [Hid]⟩
 case round =>
  obtain ⟨i,rfl,hi,rfl,HA⟩:=hrel;by_cases hin:i<s.size
  ·obtain ⟨c,hc⟩:∃ c:Int,(s[i].toNat:Int)=c:=⟨_,rfl⟩
   have HC:Hid ((s[i].toNat:Int)=c):=hc;go_wp2_with fail
   all_goals first
    | (have ok:okI c=true:=by (clear HA HC hc E; simp_all [okI]; try omega)
       go_roundg (gk - 1)
       case measure=>omega
       case rel=>exact ⟨i+1,by go_num,by omega,rfl,name_step (E.out ▸ hin) HA.out (HC.out ▸ ok)⟩)
    | (have ok:okI c=false:=by (clear HA HC hc E; simp_all [okI]; try omega)
       go_ret
       exact ⟨by rw [name_bad (E.out ▸ hin) (HC.out ▸ ok)]; rfl,rfl⟩)
  ·obtain rfl:i=s.size:=by omega
   have HB:=HA.out;rw [E.out,List.take_length] at HB
   have e:isName s.data.toList=(decide (1<=s.size)&&decide (s.size<=16)):=by rw [isName,HB,<- E.out,Bool.and_true]
   have EE:Hid (isName s.data.toList=(decide (1<=s.size)&&decide (s.size<=16))):=e;clear HB e HA;go_wp2
   all_goals go_ret
   all_goals refine ⟨congrArg (λ b=>Ending.returned (Value.bool b)) ?_,rfl⟩
   all_goals (rw [EE.out,Bool.eq_iff_iff]; simp; try omega)
theorem under_short {p d:Bs} (h:p.length<d.length):under p d=false:=by
 rw [Bool.eq_false_iff];intro q;simp only [under,Bool.or_eq_true,List.isPrefixOf_iff_prefix,beq_iff_eq] at q
 rcases q with rfl | q
 ·omega
 ·have:=q.length_le;simp at this;omega
theorem under_take {p d:Bs} (q:under p d=true):p.take d.length=d:=by
 simp only [under,Bool.or_eq_true,List.isPrefixOf_iff_prefix,beq_iff_eq] at q
 rcases q with rfl | ⟨u,rfl⟩
 ·simp
 ·simp
theorem under_ne {p d:Bs} (h:p.take d.length≠d):under p d=false:=by
 rw [Bool.eq_false_iff]
 exact λ q=>h (under_take q)
theorem under_eq {p d:Bs} (h:p.take d.length=d) (hl:p.length=d.length):under p d=true:=by
 rw [<- hl,List.take_length] at h;simp [under,h]
theorem under_at {p d:Bs} (h:p.take d.length=d) (hl:d.length<p.length):under p d=decide (((p[d.length]).toNat:Int)=47):=by
 obtain ⟨u,rfl⟩:∃ u,p=d++u:=⟨p.drop d.length,by
  have:=List.take_append_drop d.length p;rw [h] at this
  exact this.symm⟩
 cases u with
 | nil=>simp at hl
 | cons c t =>
  have e1:(d++c::t)[d.length]=c:=by simp
  rw [e1,Bool.eq_iff_iff];simp only [under,Bool.or_eq_true,List.isPrefixOf_iff_prefix,beq_iff_eq,decide_eq_true_eq]
  constructor
  ·rintro (q | ⟨u,q⟩)
   ·simp at q
   ·rw [List.append_assoc,List.append_cancel_left_eq] at q;simp at q;rw [<- q.1]; rfl
  ·intro q
   right
   have c47:c.toNat=(47:UInt8).toNat:=by show c.toNat=47; omega
   have:c=47:=UInt8.toNat_inj.1 c47;subst this;exact ⟨t,by simp⟩
theorem ext_eq {p d:ByteArray}:((p.extract 0 d.size).toList==d.toList)=(p.data.toList.take d.data.toList.length==d.data.toList):=by
 rw [ext_take,ByteArray.toList_mk,ByteArray.toList_eq,bsize]
theorem runder_any (p d:ByteArray) (w:World) :
  Calls Tryz.prog 184 #[.string p,.string d] w λ e w'=>e=.returned (.bool (under p.data.toList d.data.toList))/\w'=w:=by
 have hp:Hid _:=bsize p;have hd:Hid _:=bsize d;by_cases h1:p.size<d.size
 ·rw [under_short (by rw [<- hp.out,<- hd.out]; exact h1)];go_enter Tryz.func184,Tryz.ntmps184;go_wp2;go_ret;exact ⟨rfl,rfl⟩
 ·have X:=@ext_eq p d
  obtain ⟨f,hf⟩:∃ f,((p.extract 0 d.size).toList==d.toList)=f:=⟨_,rfl⟩
  cases f with
  | false =>
   rw [under_ne (by rw [hf] at X; simpa using X.symm)]
   have hf2:(!(p.extract 0 d.size).toList==d.toList)=true:=by rw [hf]; rfl
   have hf3:¬ List.take d.size p.data.toList=d.data.toList:=by rw [hf] at X; rw [hd.out]; simpa using X.symm
   go_enter Tryz.func184,Tryz.ntmps184;go_wp2
   all_goals go_ret
   all_goals first
    | exact ⟨rfl,rfl⟩
    | (exfalso; clear X hp hd; simp_all; done)
  | true =>
   have T:p.data.toList.take d.data.toList.length=d.data.toList:=by rw [hf] at X; simpa using X.symm
   have hf2:(!(p.extract 0 d.size).toList==d.toList)=false:=by rw [hf]; rfl
   by_cases h2:p.size=d.size
   ·rw [under_eq T (by rw [<- hp.out,<- hd.out]; exact h2)];clear X T;go_enter Tryz.func184,Tryz.ntmps184;go_wp2
    all_goals go_ret
    all_goals exact ⟨rfl,rfl⟩
   ·have h3:d.size<p.size:=by omega
    have U:=under_at T (by rw [<- hp.out,<- hd.out]; exact h3);rw [U]
    have e:(p.data.toList[d.data.toList.length]'(by rw [<- hp.out,<- hd.out]; exact h3))=p[d.size]:=by
     show p.data.toList[d.data.toList.length]'_=p.data.toList[d.size]'_
     congr 1
    rw [e];clear X T U;go_enter Tryz.func184,Tryz.ntmps184;go_wp2
    all_goals go_ret
    all_goals refine ⟨congrArg (λ b=>Ending.returned (Value.bool b)) ?_,rfl⟩
    all_goals (rw [Bool.eq_iff_iff]; simp; try omega)
end Go.Proofs.YtjlokpjflgbgdaaGreat
