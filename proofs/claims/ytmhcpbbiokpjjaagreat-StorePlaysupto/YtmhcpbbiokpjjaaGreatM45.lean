/-
  The statement's Tells: a store and the document's that are alike.
-/
import Derived.Test.YtmhcpbbiokpjjaaGreatM39
import Derived.Test.YtmhcpbbiokpjjaaGreatM44
set_option maxHeartbeats 6400000
set_option maxRecDepth 100000
namespace Go.Proofs.YtmhcpbbiokpjjaaGreat
open Go.RowKit
theorem OwnG.reads {α:Type} {E:Enc α} {e:TypeId} {w:World} {base:Nat} {a:Option Addr} {n c:Nat} {xs:List α} (h:OwnG E e w base (.slice a n c) xs):RdG E w a xs:=by
 obtain ⟨a',c',e',_,_,h3,_⟩:=OwnG.form h;cases e';exact h3
theorem ZmW {st:St} (h:st.ok) (x:UInt64):(st.com x).ps.length<=1000000/\(st.files x).length<=1000000:=by
 constructor
 ·cases e:st.has 3 x with
  | true=>exact ZmV h e
  | false =>
   unfold St.has at e;rw [Option.isSome_eq_false_iff,Option.isNone_iff_eq_none] at e;unfold St.com;rw [e];exact Nat.zero_le _
 ·cases e:st.has 2 x with
  | true=>exact ZlK h e
  | false =>
   unfold St.has at e;rw [Option.isSome_eq_false_iff,Option.isNone_iff_eq_none] at e;unfold St.files;rw [e];exact Nat.zero_le _
def Nmd (st:St):Prop:=∀ e∈st.refs++st.tags,isName e.1=true
theorem Zns {l:List (Nm UInt64)} {n:Bs} (h:∀ e∈l,isName e.1=true) (hn:isName n=false):nget l n=none:=by
 cases e:nget l n with
 | none=>rfl
 | some i =>
  have:=h _ (ZeK e);simp only at this;rw [hn] at this;cases this
structure TE (w:World) (s b:Nat) (st:St) (S:Nat->Prop) (d:Dk) (vf:Value) (oa:Option Addr) (on oc:Nat) (ra:Option Addr) (rn rc:Nat) (ta:Option Addr) (tn tc:Nat) (u:World):Prop where
 sto:Zac u s b st S
 ob:RdG encO u oa st.objs
 rf:RdG encN u ra st.refs
 tg:RdG encN u ta st.tags
 box:Zbg u w.heap.size d vf (.slice oa on oc) (.slice ra rn rc) (.slice ta tn tc)
 bel:Below w.heap.size w u
theorem TE.next {w u u':World} {s b:Nat} {st:St} {S:Nat->Prop} {d:Dk} {vf:Value} {oa ra ta:Option Addr} {on oc rn rc tn tc:Nat} (h:TE w s b st S d vf oa on oc ra rn rc ta tn tc u) (hb:Below u.heap.size u u'):TE w s b st S d vf oa on oc ra rn rc ta tn tc u' :=
 ⟨h.sto.below hb,h.ob.below hb,h.rf.below hb,h.tg.below hb,h.box.below hb h.box.lt,h.bel.trans (hb.mono h.bel.size)⟩
theorem ZgQ {w:World} {s b:Nat} {st:St} {S:Nat->Prop} {d:Dk} {vf:Value} {oa ra ta:Option Addr} {on oc rn rc tn tc:Nat} (h:Zac w s b st S) (hok:st.ok) (hnm:Nmd st) (hsz:st.size<=1000000) (hO:RdG encO w oa st.objs) (hR:RdG encN w ra st.refs) (hT:RdG encN w ta st.tags) (ho:st.objs.length=on) (hr:st.refs.length=rn) (ht:st.tags.length=tn) :
  Calls Tryz.prog 13 #[.pointer (some ⟨s,0,none⟩),rm d vf (.slice oa on oc) (.slice ra rn rc) (.slice ta tn tc)] w λ e w'=>e=.returned (.bool true)/\Hid (Below w.heap.size w w'):=by
 have HM:Hid (Nmd st):=hnm;clear hnm
 have HN:Hid (st.ok/\st.size<=1000000/\st.objs.length=on/\st.refs.length=rn/\st.tags.length=tn):=⟨hok,hsz,ho,hr,ht⟩
 have bn:on+rn+tn<=1000000:=by rw [<- ho,<- hr,<- ht]; exact hsz
 obtain ⟨W,hW⟩:∃ W,w.alloc (nineC d vf (.slice oa on oc) (.slice ra rn rc) (.slice ta tn tc))=W:=⟨_,rfl⟩
 have T0:Hid (TE w s b st S d vf oa on oc ra rn rc ta tn tc W):=by
  have bW:Below w.heap.size w W:=by rw [<- hW]; exact bz1 _ _
  exact ⟨h.below bW,hO.below bW,hR.below bW,hT.below bW,by rw [<- hW]; exact Nine.new w _ _ _ _ _ _ _ _ _,bW⟩
 clear h hok hsz hO hR hT ho hr ht;have hcm:=ZgL T0.out.sto HN.out.1.one (by have:=HN.out.2.2.1; omega);go_enter Tryz.func13,Tryz.ntmps13
 go_upto_region 1 with fail
 clear hW;go_wp2_with fail;refine hcm.mono ?_;rintro e w1 ⟨la,ln,lc,rfl,X1⟩;clear hcm;have T1:Hid (TE w s b st S d vf oa on oc ra rn rc ta tn tc w1):=T0.out.next X1.out.2.2.2;have hrc:=ZfU (oc:=oc) (d:=d) (vf:=vf) (vr:=.slice ra rn rc) (vt:=.slice ta tn tc) T1.out.ob HN.out.2.2.1 (by omega) HN.out.1.one;obtain ⟨k0,k1,k2,k3,k4,k5,k6,k7,k8⟩:=T1.out.box.cells;go_wp2_with fail;refine hrc.mono ?_;rintro e w2 ⟨qa,qn,qc,rfl,X2⟩
 obtain rfl:qn=ln:=by have:=X2.out.1; have:=X1.out.2.1; omega
 clear hrc k0 k1 k2 k3 k4 k5 k6 k7 k8
 have T2:Hid (TE w s b st S d vf oa on oc ra rn rc ta tn tc w2/\st.coms.length=qn/\RdG encU w2 la st.coms/\RdG encU w2 qa st.coms):=⟨T1.out.next X2.out.2.2,X2.out.1,X1.out.2.2.1.below X2.out.2.2,X2.out.2.1⟩
 clear T0 T1 X1 X2
 go_upto_region 3 with fail
 have T2d:Hid (TE w s b st S d vf oa on oc ra rn rc ta tn tc w2.drew/\Below w2.heap.size w2 w2.drew):=⟨T2.out.1.next (Below.refl _ w2).drew,(Below.refl _ w2).drew⟩
 have kS0:w2.drew.cell? ⟨w.heap.size,7,none⟩=some (.slice ra rn rc)/\w2.drew.cell? ⟨w.heap.size,8,none⟩=some (.slice ta tn tc):=⟨T2d.out.1.box.cells.2.2.2.2.2.2.2.1,T2d.out.1.box.cells.2.2.2.2.2.2.2.2⟩
 go_region_held3 (λ u=>u.cell? ⟨w.heap.size,7,none⟩=some (.slice ra rn rc)/\u.cell? ⟨w.heap.size,8,none⟩=some (.slice ta tn tc))
  (first | with_reducible exact kS0 | with_reducible exact kS3 | with_reducible exact kS4 | with_reducible exact kS5 | with_reducible exact kS6)
  (first
   | (go_at_call 63; (with_reducible refine (ZeB w5 T5.out.2.2 T5.out.1.tg HN.out.2.2.2.2 (by omega)).mono ?_); rintro e w6 ⟨rfl,X6⟩; have T6:Hid (TE w s b st S d vf oa on oc ra rn rc ta tn tc w6/\Below w2.heap.size w2 w6):=⟨T5.out.1.next X6.out,T5.out.2.1.trans (X6.out.mono T5.out.2.1.size)⟩; have kS6:=And.intro T6.out.1.box.cells.2.2.2.2.2.2.2.1 T6.out.1.box.cells.2.2.2.2.2.2.2.2)
   | (go_at_call 65; (with_reducible refine (ZlY T4.out.1.sto HN.out.1 HN.out.2.1).mono ?_); rintro e w5 ⟨a5,n5,c5,rfl,X5⟩; obtain rfl:tn=n5:=HN.out.2.2.2.2.symm.trans X5.out.2.1; have T5:Hid (TE w s b st S d vf oa on oc ra rn rc ta tn tc w5/\Below w2.heap.size w2 w5/\RdG encE w5 a5 st.tags):=⟨T4.out.1.next X5.out.2.2.2,T4.out.2.trans (X5.out.2.2.2.mono T4.out.2.size),X5.out.2.2.1.reads⟩; have kS5:=And.intro T5.out.1.box.cells.2.2.2.2.2.2.2.1 T5.out.1.box.cells.2.2.2.2.2.2.2.2)
   | (go_at_call 63; (with_reducible refine (ZeB w3 T3.out.2.2 T3.out.1.rf HN.out.2.2.2.1 (by omega)).mono ?_); rintro e w4 ⟨rfl,X4⟩; have T4:Hid (TE w s b st S d vf oa on oc ra rn rc ta tn tc w4/\Below w2.heap.size w2 w4):=⟨T3.out.1.next X4.out,T3.out.2.1.trans (X4.out.mono T3.out.2.1.size)⟩; have kS4:=And.intro T4.out.1.box.cells.2.2.2.2.2.2.2.1 T4.out.1.box.cells.2.2.2.2.2.2.2.2)
   | (go_at_call 64; (with_reducible refine (ZlX T2d.out.1.sto HN.out.1 HN.out.2.1).mono ?_); rintro e w3 ⟨a3,n3,c3,rfl,X3⟩; obtain rfl:rn=n3:=HN.out.2.2.2.1.symm.trans X3.out.2.1; have T3:Hid (TE w s b st S d vf oa on oc ra rn rc ta tn tc w3/\Below w2.heap.size w2 w3/\RdG encE w3 a3 st.refs):=⟨T2d.out.1.next X3.out.2.2.2,T2d.out.2.trans (X3.out.2.2.2.mono T2d.out.2.size),X3.out.2.2.1.reads⟩; have kS3:=And.intro T3.out.1.box.cells.2.2.2.2.2.2.2.1 T3.out.1.box.cells.2.2.2.2.2.2.2.2))
 have T7:Hid (TE w s b st S d vf oa on oc ra rn rc ta tn tc w6/\st.coms.length=qn/\RdG encU w6 la st.coms/\RdG encU w6 qa st.coms):=⟨T6.out.1,T2.out.2.1,T2.out.2.2.1.below T6.out.2,T2.out.2.2.2.below T6.out.2⟩
 have bq:qn<=1000000:=by
  rw [<- T2.out.2.1,Zk5];exact Nat.le_trans (List.length_filter_le _ _) (by rw [HN.out.2.2.1]; omega)
 clear T2 T2d T3 T4 T5 T6 X3 X4 X5 X6 kS0 kS3 kS4 kS5 kS6
 go_upto_region 5 with fail
 go_wp2_with fail;go_loopg [7] qn (λ m iv wr=>∃ i:Nat,iv=.int .i64 i/\i+m=qn/\Hid (Below w6.heap.size w6 wr))
 case atStart=>exact ⟨0,rfl,by omega,Below.refl _ _⟩
 case round =>
  obtain ⟨i,rfl,hi,HR⟩:=hrel;by_cases hin:i<qn
  ·have id:(i:Int)<(qn:Int):=by omega
   have id0:(0:Int)<=(i:Int):=by omega
   obtain ⟨e,he⟩:=Zaf T7.out.2.1 hin;obtain ⟨b1,off1,rfl,hlt⟩:=T7.out.2.2.1.some_of he;obtain ⟨b2,off2,rfl,hlt2⟩:=T7.out.2.2.2.some_of he
   obtain ⟨ei,hei⟩:∃ ei:Int,(e.toNat:Int)=ei:=⟨_,rfl⟩
   have c1:=ZhI (T7.out.2.2.1.below HR.out) (hid ⟨he,hei⟩);have c2:=ZhI (T7.out.2.2.2.below HR.out) (hid ⟨he,hei⟩);clear he hei;go_wp2_with fail;go_quiet (fail);go_wp2;go_roundg (gk - 1)
   case measure=>omega
   case rel=>exact ⟨i+1,by go_num,by omega,HR.out.trans ((bdrewN _ _).mono HR.out.size)⟩
  ·obtain rfl:i=qn:=by omega
   have T8:Hid (TE w s b st S d vf oa on oc ra rn rc ta tn tc wr):=T7.out.1.next HR.out;clear T7 HR
   go_upto_region 10 with fail
   go_wp2_with fail
   obtain ⟨w8,hw8⟩:∃ w8,w8=wr:=⟨_,rfl⟩
   rw [<- hw8] at T8 ⊢;clear hw8;go_loopg [8] on (λ m iv wr=>∃ i:Nat,iv=.int .i64 i/\i+m=on/\Hid (TE w s b st S d vf oa on oc ra rn rc ta tn tc wr))
   case atStart=>exact ⟨0,rfl,by omega,T8.out⟩
   case round =>
    obtain ⟨i,rfl,hi,HR⟩:=hrel;clear T8;obtain ⟨k0,k1,k2,k3,k4,k5,k6,k7,k8⟩:=HR.out.box.cells;by_cases hin:i<on
    ·have id:(i:Int)<(on:Int):=by omega
     have id0:(0:Int)<=(i:Int):=by omega
     obtain ⟨o,ho⟩:=Zaf HN.out.2.2.1 hin;obtain ⟨b1,off1,rfl,hlt⟩:=HR.out.ob.some_of ho;obtain ⟨hbw,c0,c1,c2⟩:=HR.out.ob.obs ho
     obtain ⟨x,hx⟩:∃ x,o.id=x:=⟨_,rfl⟩
     obtain ⟨xi,hxi⟩:∃ xi:Int,(x.toNat:Int)=xi:=⟨_,rfl⟩
     obtain ⟨ki,hki⟩:∃ ki:Int,o.kind=ki:=⟨_,rfl⟩
     obtain ⟨bo,hbo⟩:∃ bo:ByteArray,tx o.body=.string bo:=⟨_,rfl⟩
     rw [hx,hxi] at c1;rw [hki] at c0;rw [hbo] at c2;clear ho hx hki hbo
     obtain ⟨W2,hW2⟩:∃ W2,wr.alloc (.cells #[.int .i64 ki,.int .u64 xi,.string bo] 133)=W2:=⟨_,rfl⟩
     have U0:Hid (TE w s b st S d vf (some ⟨b1,off1,none⟩) on oc ra rn rc ta tn tc W2/\BoxA W2 wr.heap.size 133 #[.int .i64 ki,.int .u64 xi,.string bo]):=by
      rw [<- hW2];exact ⟨HR.out.next (bz1 _ _),BoxA.new _ _ _⟩
     obtain ⟨Bx,hBx⟩:∃ Bx,wr.heap.size=Bx:=⟨_,rfl⟩
     rw [hBx] at U0
     obtain ⟨cm,hcm⟩:∃ cm,st.com x=cm:=⟨_,rfl⟩
     obtain ⟨tr,htr⟩:∃ tr:Int,(cm.tree.toNat:Int)=tr:=⟨_,rfl⟩
     obtain ⟨pn,hpn⟩:∃ pn:Nat,cm.ps.length=pn:=⟨_,rfl⟩
     obtain ⟨dt,hdt⟩:∃ dt:Int,cm.date=dt:=⟨_,rfl⟩
     obtain ⟨nt,hnt⟩:∃ nt:ByteArray,tx cm.note=.string nt:=⟨_,rfl⟩
     obtain ⟨bd,hbd⟩:∃ bd:ByteArray,(⟨(st.data x).toArray⟩:ByteArray)=bd:=⟨_,rfl⟩
     obtain ⟨g1,hg1⟩:∃ g,st.has 1 x=g:=⟨_,rfl⟩
     obtain ⟨g2,hg2⟩:∃ g,st.has 2 x=g:=⟨_,rfl⟩
     obtain ⟨g3,hg3⟩:∃ g,st.has 3 x=g:=⟨_,rfl⟩
     have hbl:∀ o∈st.objs,o.body.length<=8192:=λ o ho=>(HN.out.1.ids o ho).2.2.2.2
     have few:=ZmW HN.out.1 x
     have HX:Hid (cm.ps.length=pn/\pn<=1000000/\(st.files x).length<=1000000):=⟨hpn,by rw [<- hpn,<- hcm]; exact few.1,few.2⟩
     have PD:Hid (∀ u,TE w s b st S d vf (some ⟨b1,off1,none⟩) on oc ra rn rc ta tn tc u->Calls Tryz.prog 66 #[.pointer (some ⟨s,0,none⟩),.int .u64 xi] u λ e w'=>∃ (a:Option Addr) (n c:Nat),e=.returned (.tuple #[.slice a n c,.bool g1])/\Hid (OwnG encB 5 w' u.heap.size (.slice a n c) (st.data x)/\Below u.heap.size u w')):=λ u hu=>by
      have:=ZlA hu.sto hbl x g1 hg1;rw [hxi] at this;refine this.mono ?_;rintro e w' ⟨v,rfl,X⟩;obtain ⟨a',c',rfl,_⟩:=OwnG.form X.out.1;exact ⟨a',_,c',rfl,X.out⟩
     have PF:Hid (∀ u,TE w s b st S d vf (some ⟨b1,off1,none⟩) on oc ra rn rc ta tn tc u->Calls Tryz.prog 67 #[.pointer (some ⟨s,0,none⟩),.int .u64 xi] u λ e w'=>∃ (a:Option Addr) (c:Nat),e=.returned (.tuple #[.slice a (st.files x).length c,.bool g2])/\Hid (RdG encE w' a (st.files x)/\Below u.heap.size u w')):=λ u hu=>by
      have:=Zjo hu.sto x g2 hg2;rw [hxi] at this;refine this.mono ?_;rintro e w' ⟨v,rfl,X⟩;obtain ⟨a',c',rfl,_,_,h3,_⟩:=OwnG.form X.out.1;exact ⟨a',c',rfl,h3,X.out.2⟩
     have PC:Hid (∀ u,TE w s b st S d vf (some ⟨b1,off1,none⟩) on oc ra rn rc ta tn tc u->Calls Tryz.prog 24 #[.pointer (some ⟨s,0,none⟩),.int .u64 xi] u λ e w'=>∃ (pa:Option Addr) (pc:Nat),e=.returned (.tuple #[.agg #[.int .u64 tr,.slice pa pn pc,.int .i64 dt,.string nt],.bool g3])/\Hid (RdG encU w' pa cm.ps/\pn<=pc/\Below u.heap.size u w')):=λ u hu=>by
      have:=Zkk hu.sto x g3 hg3;rw [hxi,hcm,htr,hpn,hdt,hnt] at this;exact this
     have P1:Hid (∀ u,TE w s b st S d vf (some ⟨b1,off1,none⟩) on oc ra rn rc ta tn tc u->Calls Tryz.prog 68 #[(rm d vf (.slice (some ⟨b1,off1,none⟩) on oc) (.slice ra rn rc) (.slice ta tn tc)),.int .i64 1,.int .u64 xi] u λ e w'=>e=.returned (.bool g1)/\Below u.heap.size u w'):=λ u hu=>by
      rw [<- hxi];exact ZaA hu.ob HN.out.2.2.1 (by omega) 1 x g1 hg1
     have P2:Hid (∀ u,TE w s b st S d vf (some ⟨b1,off1,none⟩) on oc ra rn rc ta tn tc u->Calls Tryz.prog 68 #[(rm d vf (.slice (some ⟨b1,off1,none⟩) on oc) (.slice ra rn rc) (.slice ta tn tc)),.int .i64 2,.int .u64 xi] u λ e w'=>e=.returned (.bool g2)/\Below u.heap.size u w'):=λ u hu=>by
      rw [<- hxi];exact ZaA hu.ob HN.out.2.2.1 (by omega) 2 x g2 hg2
     have P3:Hid (∀ u,TE w s b st S d vf (some ⟨b1,off1,none⟩) on oc ra rn rc ta tn tc u->Calls Tryz.prog 68 #[(rm d vf (.slice (some ⟨b1,off1,none⟩) on oc) (.slice ra rn rc) (.slice ta tn tc)),.int .i64 3,.int .u64 xi] u λ e w'=>e=.returned (.bool g3)/\Below u.heap.size u w'):=λ u hu=>by
      rw [<- hxi];exact ZaA hu.ob HN.out.2.2.1 (by omega) 3 x g3 hg3
     have QB:Hid (∀ u,TE w s b st S d vf (some ⟨b1,off1,none⟩) on oc ra rn rc ta tn tc u->Calls Tryz.prog 69 #[(rm d vf (.slice (some ⟨b1,off1,none⟩) on oc) (.slice ra rn rc) (.slice ta tn tc)),.int .u64 xi] u λ e w'=>e=.returned (.string bd)/\Below u.heap.size u w'):=λ u hu=>by
      rw [<- hxi];exact ZkI hu.ob HN.out.2.2.1 (by omega) x bd hbd
     have QF:Hid (∀ u,TE w s b st S d vf (some ⟨b1,off1,none⟩) on oc ra rn rc ta tn tc u->Calls Tryz.prog 71 #[(rm d vf (.slice (some ⟨b1,off1,none⟩) on oc) (.slice ra rn rc) (.slice ta tn tc)),.int .u64 xi] u λ e w'=>∃ (a:Option Addr) (c:Nat),e=.returned (.slice a (st.files x).length c)/\Hid (RdG encE w' a (st.files x)/\Below u.heap.size u w')):=λ u hu=>by
      rw [<- hxi];refine (Zig hu.ob HN.out.2.2.1 (by omega) hbl x).mono ?_;rintro e w' ⟨v,rfl,X⟩;obtain ⟨a',c',rfl,_,_,h3,_⟩:=OwnG.form X.out.1;exact ⟨a',c',rfl,h3,X.out.2⟩
     have QC:Hid (∀ u,TE w s b st S d vf (some ⟨b1,off1,none⟩) on oc ra rn rc ta tn tc u->Calls Tryz.prog 73 #[(rm d vf (.slice (some ⟨b1,off1,none⟩) on oc) (.slice ra rn rc) (.slice ta tn tc)),.int .u64 xi] u λ e w'=>∃ (pa:Option Addr) (pc:Nat),e=.returned (.agg #[.int .u64 tr,.slice pa pn pc,.int .i64 dt,.string nt])/\Hid (RdG encU w' pa cm.ps/\pn<=pc/\Below u.heap.size u w')):=λ u hu=>by
      have:=Zk0 (d:=d) (vf:=vf) (oc:=oc) (vr:=.slice ra rn rc) (vt:=.slice ta tn tc) hu.ob HN.out.2.2.1 (by omega) hbl x cm hcm;rw [hxi,htr,hpn,hdt,hnt] at this;exact this
     have QE:Hid (∀ (u:World) (a:Option Addr) (c:Nat),RdG encE u a (st.files x)->Calls Tryz.prog 40 #[.slice a (st.files x).length c] u λ e w'=>∃ (a:Option Addr) (c:Nat),e=.returned (.slice a (st.files x).length c)/\Hid (RdG encE w' a (st.files x)/\Below u.heap.size u w')):=λ u a c hr=>by
      refine (Zdu u hr rfl (by have:=HX.out.2.2; omega)).mono ?_;rintro e w' ⟨v,rfl,X⟩;obtain ⟨a',c',rfl,_,_,h3,_⟩:=OwnG.form X.out.1;exact ⟨a',c',rfl,h3,X.out.2⟩
     have QT:Hid (∀ (u:World) (a:Option Addr) (c:Nat),RdG encU u a cm.ps->Calls Tryz.prog 43 #[.agg #[.int .u64 tr,.slice a pn c,.int .i64 dt,.string nt]] u λ e w'=>∃ (qa:Option Addr) (qc:Nat),e=.returned (.agg #[.int .u64 tr,.slice qa pn qc,.int .i64 dt,.string nt])/\Hid (RdG encU w' qa cm.ps/\pn<=qc/\Below u.heap.size u w')):=λ u a c hr=>ZfF hr HX.out.1 (by have:=HX.out.2.1; omega) nt dt tr
     have QS:Hid (∀ (u:World) (a:Option Addr) (c:Nat) (a':Option Addr) (c':Nat),RdG encU u a cm.ps->RdG encU u a' cm.ps->Calls Tryz.prog 72 #[.agg #[.int .u64 tr,.slice a pn c,.int .i64 dt,.string nt],.agg #[.int .u64 tr,.slice a' pn c',.int .i64 dt,.string nt]] u λ e w'=>e=.returned (.bool true)/\Below u.heap.size u w'):=λ u a c a' c' hr hr2=>ZgZ hr hr2 HX.out.1 (by have:=HX.out.2.1; omega) nt dt tr
     have QQ:Hid (∀ (u:World) (a:Option Addr) (c:Nat) (a':Option Addr) (c':Nat),RdG encE u a (st.files x)->RdG encE u a' (st.files x)->Calls Tryz.prog 70 #[.slice a (st.files x).length c,.slice a' (st.files x).length c'] u λ e w'=>e=.returned (.bool true)/\Below u.heap.size u w'):=λ u a c a' c' hr hr2=>Zfr u hr hr2 rfl (by have:=HX.out.2.2; omega)
     have HBD:Hid ((⟨(st.data x).toArray⟩:ByteArray)=bd):=hbd;clear hbl few hg1 hg2 hg3 htr hpn hdt hnt hcm hbd hxi;have x1:=U0.out.2.cell (j:=1) rfl
     go_upto_region 14 with fail
     clear hW2 c0 c1 c2 k0 k1 k2 k3 k4 k5 k6 k7 k8;go_wp2_with fail;refine (PD.out _ U0.out.1).mono ?_;rintro e w9 ⟨a9,n9,c9,rfl,X9⟩
     have U9:Hid (TE w s b st S d vf (some ⟨b1,off1,none⟩) on oc ra rn rc ta tn tc w9/\BoxA w9 Bx 133 #[.int .i64 ki,.int .u64 xi,.string bo]/\OwnG encB 5 w9 0 (.slice a9 n9 c9) (st.data x)):=⟨U0.out.1.next X9.out.2,U0.out.2.below X9.out.2 U0.out.2.lt,X9.out.1.low (Nat.zero_le _)⟩
     clear U0 X9 x1 PD;have x1:=U9.out.2.1.cell (j:=1) rfl;go_wp2_with fail;refine (PF.out _ U9.out.1).mono ?_;rintro e w10 ⟨a10,c10,rfl,X10⟩
     have U10:Hid (TE w s b st S d vf (some ⟨b1,off1,none⟩) on oc ra rn rc ta tn tc w10/\BoxA w10 Bx 133 #[.int .i64 ki,.int .u64 xi,.string bo]/\OwnG encB 5 w10 0 (.slice a9 n9 c9) (st.data x)/\RdG encE w10 a10 (st.files x)):=⟨U9.out.1.next X10.out.2,U9.out.2.1.below X10.out.2 U9.out.2.1.lt,U9.out.2.2.below X10.out.2,X10.out.1⟩
     clear U9 X10 x1 PF;have x1:=U10.out.2.1.cell (j:=1) rfl;go_wp2_with fail;refine (PC.out _ U10.out.1).mono ?_;rintro e w11 ⟨pa,pc,rfl,X11⟩
     obtain ⟨W3,hW3⟩:∃ W3,w11.alloc (.cells #[.int .u64 tr,.slice pa pn pc,.int .i64 dt,.string nt] 67)=W3:=⟨_,rfl⟩
     obtain ⟨Bc,hBc⟩:∃ Bc,w11.heap.size=Bc:=⟨_,rfl⟩
     have U11:Hid (TE w s b st S d vf (some ⟨b1,off1,none⟩) on oc ra rn rc ta tn tc W3/\BoxA W3 Bx 133 #[.int .i64 ki,.int .u64 xi,.string bo]/\OwnG encB 5 W3 0 (.slice a9 n9 c9) (st.data x)/\RdG encE W3 a10 (st.files x)/\BoxA W3 Bc 67 #[.int .u64 tr,.slice pa pn pc,.int .i64 dt,.string nt]/\RdG encU W3 pa cm.ps):=by
      have bb:Below w10.heap.size w10 W3:=by rw [<- hW3]; exact X11.out.2.2.trans ((bz1 _ _).mono X11.out.2.2.size)
      have b1:Below w11.heap.size w11 W3:=by rw [<- hW3]; exact bz1 _ _
      exact ⟨U10.out.1.next bb,U10.out.2.1.below bb U10.out.2.1.lt,U10.out.2.2.1.below bb,U10.out.2.2.2.below bb,by rw [<- hW3,<- hBc]; exact BoxA.new _ _ _,X11.out.1.below b1⟩
     clear U10 X11 x1 PC;have x1:=U11.out.2.1.cell (j:=1) rfl;obtain ⟨k0,k1,k2,k3,k4,k5,k6,k7,k8⟩:=U11.out.1.box.cells
     go_upto_region 17 with fail
     clear hW3 hBc hBx;go_wp2_with fail;refine (P1.out _ U11.out.1).mono ?_;rintro e w12 ⟨rfl,X12⟩
     have T12:Hid (TE w s b st S d vf (some ⟨b1,off1,none⟩) on oc ra rn rc ta tn tc w12/\BoxA w12 Bx 133 #[.int .i64 ki,.int .u64 xi,.string bo]/\Below W3.heap.size W3 w12):=⟨U11.out.1.next X12,U11.out.2.1.below X12 U11.out.2.1.lt,X12⟩
     clear x1 k0 k1 k2 k3 k4 k5 k6 k7 k8 X12 P1;have x1:=T12.out.2.1.cell (j:=1) rfl;obtain ⟨k0,k1,k2,k3,k4,k5,k6,k7,k8⟩:=T12.out.1.box.cells;go_wp2_with fail;refine (P2.out _ T12.out.1).mono ?_;rintro e w13 ⟨rfl,X13⟩
     have T13:Hid (TE w s b st S d vf (some ⟨b1,off1,none⟩) on oc ra rn rc ta tn tc w13/\BoxA w13 Bx 133 #[.int .i64 ki,.int .u64 xi,.string bo]/\Below W3.heap.size W3 w13):=⟨T12.out.1.next X13,T12.out.2.1.below X13 T12.out.2.1.lt,T12.out.2.2.trans (X13.mono T12.out.2.2.size)⟩
     clear x1 k0 k1 k2 k3 k4 k5 k6 k7 k8 X13 P2 T12;have x1:=T13.out.2.1.cell (j:=1) rfl;obtain ⟨k0,k1,k2,k3,k4,k5,k6,k7,k8⟩:=T13.out.1.box.cells;go_wp2_with fail;refine (P3.out _ T13.out.1).mono ?_;rintro e w14 ⟨rfl,X14⟩;have B14:Below W3.heap.size W3 w14:=T13.out.2.2.trans (X14.mono T13.out.2.2.size)
     have U14:Hid (TE w s b st S d vf (some ⟨b1,off1,none⟩) on oc ra rn rc ta tn tc w14/\BoxA w14 Bx 133 #[.int .i64 ki,.int .u64 xi,.string bo]/\OwnG encB 5 w14 0 (.slice a9 n9 c9) (st.data x)/\RdG encE w14 a10 (st.files x)/\BoxA w14 Bc 67 #[.int .u64 tr,.slice pa pn pc,.int .i64 dt,.string nt]/\RdG encU w14 pa cm.ps):=⟨U11.out.1.next B14,U11.out.2.1.below B14 U11.out.2.1.lt,U11.out.2.2.1.below B14,U11.out.2.2.2.1.below B14,U11.out.2.2.2.2.1.below B14 U11.out.2.2.2.2.1.lt,U11.out.2.2.2.2.2.below B14⟩
     clear x1 k0 k1 k2 k3 k4 k5 k6 k7 k8 X14 B14 P3 T13 U11
     have KS:Hid (∀ u,Below w14.heap.size w14 u->u.cell? ⟨w.heap.size,0,none⟩=some vf/\u.cell? ⟨w.heap.size,1,none⟩=some (.int .i64 (d.writes:Int))/\u.cell? ⟨w.heap.size,2,none⟩=some (.bool d.armed)/\u.cell? ⟨w.heap.size,3,none⟩=some (.bool d.dead)/\u.cell? ⟨w.heap.size,4,none⟩=some (.int .i64 (d.after:Int))/\u.cell? ⟨w.heap.size,5,none⟩=some (.int .i64 (d.keep:Int))/\u.cell? ⟨w.heap.size,6,none⟩=some (.slice (some ⟨b1,off1,none⟩) on oc)/\u.cell? ⟨w.heap.size,7,none⟩=some (.slice ra rn rc)/\u.cell? ⟨w.heap.size,8,none⟩=some (.slice ta tn tc)/\u.cell? ⟨Bx,1,none⟩=some (.int .u64 xi)/\u.cell? ⟨Bc,0,none⟩=some (.int .u64 tr)/\u.cell? ⟨Bc,1,none⟩=some (.slice pa pn pc)/\u.cell? ⟨Bc,2,none⟩=some (.int .i64 dt)/\u.cell? ⟨Bc,3,none⟩=some (.string nt)/\(convert 39 9 (.slice a9 n9 c9)).run Tryz.prog u=.ok (.string bd) u):=by
      intro u hu;obtain ⟨k0,k1,k2,k3,k4,k5,k6,k7,k8⟩:=(U14.out.1.next hu).box.cells;have hb:=U14.out.2.2.2.2.1.below hu U14.out.2.2.2.2.1.lt;exact ⟨k0,k1,k2,k3,k4,k5,k6,k7,k8,(U14.out.2.1.below hu U14.out.2.1.lt).cell (j:=1) rfl,hb.cell (j:=0) rfl,hb.cell (j:=1) rfl,hb.cell (j:=2) rfl,hb.cell (j:=3) rfl,by rw [<- HBD.out]; exact ZaY (OwnB.at (U14.out.2.2.1.below hu))⟩
     go_upto_region 19 with fail
     have V14:Hid (TE w s b st S d vf (some ⟨b1,off1,none⟩) on oc ra rn rc ta tn tc w14.drew/\Below w14.heap.size w14 w14.drew/\RdG encE w14.drew a10 (st.files x)/\RdG encU w14.drew pa cm.ps):=⟨U14.out.1.next (Below.refl _ w14).drew,(Below.refl _ w14).drew,U14.out.2.2.2.1.below (Below.refl _ w14).drew,U14.out.2.2.2.2.2.below (Below.refl _ w14).drew⟩
     have kS14:=KS.out _ V14.out.2.1
     go_region_held3 (λ u=>u.cell? ⟨w.heap.size,0,none⟩=some vf/\u.cell? ⟨w.heap.size,1,none⟩=some (.int .i64 (d.writes:Int))/\u.cell? ⟨w.heap.size,2,none⟩=some (.bool d.armed)/\u.cell? ⟨w.heap.size,3,none⟩=some (.bool d.dead)/\u.cell? ⟨w.heap.size,4,none⟩=some (.int .i64 (d.after:Int))/\u.cell? ⟨w.heap.size,5,none⟩=some (.int .i64 (d.keep:Int))/\u.cell? ⟨w.heap.size,6,none⟩=some (.slice (some ⟨b1,off1,none⟩) on oc)/\u.cell? ⟨w.heap.size,7,none⟩=some (.slice ra rn rc)/\u.cell? ⟨w.heap.size,8,none⟩=some (.slice ta tn tc)/\u.cell? ⟨Bx,1,none⟩=some (.int .u64 xi)/\u.cell? ⟨Bc,0,none⟩=some (.int .u64 tr)/\u.cell? ⟨Bc,1,none⟩=some (.slice pa pn pc)/\u.cell? ⟨Bc,2,none⟩=some (.int .i64 dt)/\u.cell? ⟨Bc,3,none⟩=some (.string nt)/\(convert 39 9 (.slice a9 n9 c9)).run Tryz.prog u=.ok (.string bd) u)
      (first | with_reducible exact kS14 | with_reducible exact kS15 | with_reducible exact kS16 | with_reducible exact kS17 | with_reducible exact kS18 | with_reducible exact kS19 | with_reducible exact kS20 | with_reducible exact kS21)
      (first
        | (go_at_call 72; (with_reducible refine (QS.out _ q19 c19 q20 c20 V20.out.2.2.1 V20.out.2.2.2).mono ?_); rintro e w21 ⟨rfl,X21⟩; have V21:Hid (TE w s b st S d vf (some ⟨b1,off1,none⟩) on oc ra rn rc ta tn tc w21/\Below w14.heap.size w14 w21):=⟨V20.out.1.next X21,V20.out.2.1.trans ((X21).mono V20.out.2.1.size)⟩; have kS21:=KS.out _ V21.out.2)
        | (go_at_call 73; (with_reducible refine (QC.out _ V19.out.1).mono ?_); rintro e w20 ⟨q20,c20,rfl,X20⟩; have V20:Hid (TE w s b st S d vf (some ⟨b1,off1,none⟩) on oc ra rn rc ta tn tc w20/\Below w14.heap.size w14 w20/\RdG encU w20 q19 cm.ps/\RdG encU w20 q20 cm.ps):=⟨V19.out.1.next X20.out.2.2,V19.out.2.1.trans ((X20.out.2.2).mono V19.out.2.1.size),V19.out.2.2.below X20.out.2.2,X20.out.1⟩; have kS20:=KS.out _ V20.out.2.1)
        | (go_at_call 43; (with_reducible refine (QT.out _ pa pc V18.out.2.2.2).mono ?_); rintro e w19 ⟨q19,c19,rfl,X19⟩; have V19:Hid (TE w s b st S d vf (some ⟨b1,off1,none⟩) on oc ra rn rc ta tn tc w19/\Below w14.heap.size w14 w19/\RdG encU w19 q19 cm.ps):=⟨V18.out.1.next X19.out.2.2,V18.out.2.1.trans ((X19.out.2.2).mono V18.out.2.1.size),X19.out.1⟩; have kS19:=KS.out _ V19.out.2.1)
        | (go_at_call 70; (with_reducible refine (QQ.out _ a16 c16 a17 c17 V17.out.2.2.2.2.1 V17.out.2.2.2.2.2).mono ?_); rintro e w18 ⟨rfl,X18⟩; have V18:Hid (TE w s b st S d vf (some ⟨b1,off1,none⟩) on oc ra rn rc ta tn tc w18/\Below w14.heap.size w14 w18/\RdG encE w18 a10 (st.files x)/\RdG encU w18 pa cm.ps):=⟨V17.out.1.next X18,V17.out.2.1.trans ((X18).mono V17.out.2.1.size),V17.out.2.2.1.below X18,V17.out.2.2.2.1.below X18⟩; have kS18:=KS.out _ V18.out.2.1)
        | (go_at_call 71; (with_reducible refine (QF.out _ V16.out.1).mono ?_); rintro e w17 ⟨a17,c17,rfl,X17⟩; have V17:Hid (TE w s b st S d vf (some ⟨b1,off1,none⟩) on oc ra rn rc ta tn tc w17/\Below w14.heap.size w14 w17/\RdG encE w17 a10 (st.files x)/\RdG encU w17 pa cm.ps/\RdG encE w17 a16 (st.files x)/\RdG encE w17 a17 (st.files x)):=⟨V16.out.1.next X17.out.2,V16.out.2.1.trans ((X17.out.2).mono V16.out.2.1.size),V16.out.2.2.1.below X17.out.2,V16.out.2.2.2.1.below X17.out.2,V16.out.2.2.2.2.below X17.out.2,X17.out.1⟩; have kS17:=KS.out _ V17.out.2.1)
        | (go_at_call 40; (with_reducible refine (QE.out _ a10 c10 V15.out.2.2.1).mono ?_); rintro e w16 ⟨a16,c16,rfl,X16⟩; have V16:Hid (TE w s b st S d vf (some ⟨b1,off1,none⟩) on oc ra rn rc ta tn tc w16/\Below w14.heap.size w14 w16/\RdG encE w16 a10 (st.files x)/\RdG encU w16 pa cm.ps/\RdG encE w16 a16 (st.files x)):=⟨V15.out.1.next X16.out.2,V15.out.2.1.trans ((X16.out.2).mono V15.out.2.1.size),V15.out.2.2.1.below X16.out.2,V15.out.2.2.2.below X16.out.2,X16.out.1⟩; have kS16:=KS.out _ V16.out.2.1)
        | (go_at_call 69; (with_reducible refine (QB.out _ V14.out.1).mono ?_); rintro e w15 ⟨rfl,X15⟩; have V15:Hid (TE w s b st S d vf (some ⟨b1,off1,none⟩) on oc ra rn rc ta tn tc w15/\Below w14.heap.size w14 w15/\RdG encE w15 a10 (st.files x)/\RdG encU w15 pa cm.ps):=⟨V14.out.1.next X15,V14.out.2.1.trans ((X15).mono V14.out.2.1.size),V14.out.2.2.1.below X15,V14.out.2.2.2.below X15⟩; have kS15:=KS.out _ V15.out.2.1))
     clear V14 V15 V16 V17 V18 V19 V20 kS14 kS15 kS16 kS17 kS18 kS19 kS20 kS21 X15 X16 X17 X18 X19 X20 X21 KS QB QF QC QE QT QS QQ U14;go_wp2;go_roundg (gk - 1)
     case measure=>omega
     case rel=>exact ⟨i+1,by go_num,by omega,V21.out.1⟩
    ·obtain rfl:on=i:=by omega
     go_upto_region 21 with fail
     clear k0 k1 k2 k3 k4 k5 k6 k7 k8;go_wp2_with fail
     obtain ⟨v21,hv21⟩:∃ v,v=wr:=⟨_,rfl⟩
     have R21:Hid (TE w s b st S d vf oa on oc ra rn rc ta tn tc v21):=by rw [hv21]; exact HR.out
     rw [<- hv21];clear hv21 HR;go_loopg [16] rn (λ m iv wr=>∃ i:Nat,iv=.int .i64 i/\i+m=rn/\Hid (TE w s b st S d vf oa on oc ra rn rc ta tn tc wr))
     case atStart=>exact ⟨0,rfl,by omega,R21.out⟩
     case round =>
      obtain ⟨i,rfl,hi,HR⟩:=hrel;clear R21;obtain ⟨k0,k1,k2,k3,k4,k5,k6,k7,k8⟩:=HR.out.box.cells;by_cases hin:i<rn
      ·have id:(i:Int)<(rn:Int):=by omega
       have id0:(0:Int)<=(i:Int):=by omega
       obtain ⟨⟨n,x⟩,hnx⟩:=Zaf HN.out.2.2.2.1 hin;obtain ⟨b1,off1,rfl,hlt⟩:=HR.out.rf.some_of hnx;obtain ⟨hbw,c0,c1⟩:=HR.out.rf.named hnx;have hgt:=Zgn (ZdM HN.out.1.refs) (List.mem_of_getElem? hnx);have hs:n.length<=16:=Za7 (HM.out (n,x) (List.mem_append_left _ (List.mem_of_getElem? hnx)))
       obtain ⟨xi,hxi⟩:∃ xi:Int,(x.toNat:Int)=xi:=⟨_,rfl⟩
       rw [hxi] at c1;have hc:=Zhd HR.out.sto n (by omega) true (by rw [hgt]; rfl) xi (by rw [hgt]; exact hxi);clear hnx hgt hs hxi;go_wp2_with fail;refine hc.mono ?_;rintro e w22 ⟨rfl,X22⟩;have T22:Hid (TE w s b st S d vf oa on oc (some ⟨b1,off1,none⟩) rn rc ta tn tc w22):=HR.out.next X22.out;have d1:w22.cell? ⟨b1,off1+i*2+1,none⟩=some (.int .u64 xi):=(X22.out.cell (p:=⟨b1,off1+i*2+1,none⟩) hbw).trans c1;clear hc c0 c1 k0 k1 k2 k3 k4 k5 k6 k7 k8 X22;obtain ⟨k0,k1,k2,k3,k4,k5,k6,k7,k8⟩:=T22.out.box.cells;go_wp2;go_roundg (gk - 1)
       case measure=>omega
       case rel=>exact ⟨i+1,by go_num,by omega,T22.out⟩
      ·obtain rfl:rn=i:=by omega
       go_upto_region 27 with fail
       clear k0 k1 k2 k3 k4 k5 k6 k7 k8;go_wp2_with fail
       obtain ⟨v27,hv27⟩:∃ v,v=wr:=⟨_,rfl⟩
       have R27:Hid (TE w s b st S d vf oa on oc ra rn rc ta tn tc v27):=by rw [hv27]; exact HR.out
       rw [<- hv27];clear hv27 HR;go_loopg [19] tn (λ m iv wr=>∃ i:Nat,iv=.int .i64 i/\i+m=tn/\Hid (TE w s b st S d vf oa on oc ra rn rc ta tn tc wr))
       case atStart=>exact ⟨0,rfl,by omega,R27.out⟩
       case round =>
        obtain ⟨i,rfl,hi,HR⟩:=hrel;clear R27;obtain ⟨k0,k1,k2,k3,k4,k5,k6,k7,k8⟩:=HR.out.box.cells;by_cases hin:i<tn
        ·have id:(i:Int)<(tn:Int):=by omega
         have id0:(0:Int)<=(i:Int):=by omega
         obtain ⟨⟨n,x⟩,hnx⟩:=Zaf HN.out.2.2.2.2 hin;obtain ⟨b1,off1,rfl,hlt⟩:=HR.out.tg.some_of hnx;obtain ⟨hbw,c0,c1⟩:=HR.out.tg.named hnx;have hgt:=Zgn (ZdM HN.out.1.tags) (List.mem_of_getElem? hnx);have hs:n.length<=16:=Za7 (HM.out (n,x) (List.mem_append_right _ (List.mem_of_getElem? hnx)))
         obtain ⟨xi,hxi⟩:∃ xi:Int,(x.toNat:Int)=xi:=⟨_,rfl⟩
         rw [hxi] at c1;have hc:=ZhK HR.out.sto n (by omega) true (by rw [hgt]; rfl) xi (by rw [hgt]; exact hxi);clear hnx hgt hs hxi;go_wp2_with fail;refine hc.mono ?_;rintro e w22 ⟨rfl,X22⟩;have T22:Hid (TE w s b st S d vf oa on oc ra rn rc (some ⟨b1,off1,none⟩) tn tc w22):=HR.out.next X22.out;have d1:w22.cell? ⟨b1,off1+i*2+1,none⟩=some (.int .u64 xi):=(X22.out.cell (p:=⟨b1,off1+i*2+1,none⟩) hbw).trans c1;clear hc c0 c1 k0 k1 k2 k3 k4 k5 k6 k7 k8 X22;obtain ⟨k0,k1,k2,k3,k4,k5,k6,k7,k8⟩:=T22.out.box.cells;go_wp2;go_roundg (gk - 1)
         case measure=>omega
         case rel=>exact ⟨i+1,by go_num,by omega,T22.out⟩
        ·obtain rfl:tn=i:=by omega
         go_upto_region 33 with fail
         clear k0 k1 k2 k3 k4 k5 k6 k7 k8;have hr0:nget st.refs [110,111,32,115,117,99,104,32,114,101,102]=none:=Zns (λ e he=>HM.out e (List.mem_append_left _ he)) (by decide);have ht0:nget st.tags [110,111,32,115,117,99,104,32,116,97,103]=none:=Zns (λ e he=>HM.out e (List.mem_append_right _ he)) (by decide);have hc1:=Zhd HR.out.sto [110,111,32,115,117,99,104,32,114,101,102] (by decide) false (by rw [hr0]; rfl) 0 (by rw [hr0]; rfl);go_wp2_with fail;refine hc1.mono ?_;rintro e w30 ⟨rfl,X30⟩;clear hc1;have T30:Hid (TE w s b st S d vf oa on oc ra rn rc ta tn tc w30):=HR.out.next X30.out;have hc2:=ZhK T30.out.sto [110,111,32,115,117,99,104,32,116,97,103] (by decide) false (by rw [ht0]; rfl) 0 (by rw [ht0]; rfl);clear X30 HR;go_wp2_with fail;refine hc2.mono ?_;rintro e w31 ⟨rfl,X31⟩;clear hc2;have T31:Hid (TE w s b st S d vf oa on oc ra rn rc ta tn tc w31):=T30.out.next X31.out
         have h00:st.has 3 0=false:=by
          cases q:st.has 3 0 with
          | false=>rfl
          | true =>
           obtain ⟨bb,hbb⟩:=ZgU.1 q;exact absurd rfl (HN.out.1.ids _ (Za6 hbb)).2.1
         have hc3:=Zkk T31.out.sto 0 false h00;rw [show (((0:UInt64).toNat:Nat):Int)=0 from rfl] at hc3;clear X31 T30 hr0 ht0 h00;go_wp2_with fail;refine hc3.mono ?_;rintro e w32 ⟨pa,pc,rfl,X32⟩;have B32:Hid (Below w.heap.size w w32):=(T31.out.next X32.out.2.2).bel;clear hc3 X32 T31;go_wp2;go_ret;exact ⟨rfl,B32.out.trans ((bz1 _ _).mono B32.out.size)⟩
end Go.Proofs.YtmhcpbbiokpjjaaGreat
