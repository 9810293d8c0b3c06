/-
  The reference's Blob, Files and Get, each by a contract. No condition but the lengths that any memory holds.
-/
import Derived.Test.YtmhcpbbiokpjjaaGreatM20
import Derived.Shelf.SlIter.Collect
set_option maxHeartbeats 6400000
set_option maxRecDepth 100000
namespace Go.Proofs.YtmhcpbbiokpjjaaGreat
open Go.RowKit
theorem shidR {p:Prop} (h:p):Hid p:=h
section
variable {w:World} {d:Dk} {st:St} {oa:Option Addr} {on oc:Nat} {vf vr vt:Value}
theorem ZkI (h:RdG encO w oa st.objs) (hl:st.objs.length=on) (hn:on<=1000000) (x:UInt64) (b:ByteArray) (hb:(⟨(st.data x).toArray⟩:ByteArray)=b) :
  Calls Tryz.prog 69 #[rm d vf (.slice oa on oc) vr vt,.int .u64 (x.toNat:Int)] w λ e w'=>e=.returned (.string b)/\Below w.heap.size w w':=by
 obtain ⟨W,hW⟩:∃ W,w.alloc (nineC d vf (.slice oa on oc) vr vt)=W:=⟨_,rfl⟩
 have bW:Below w.heap.size w W:=by rw [<- hW]; exact bz1 _ _
 have n9:Zbg W w.heap.size d vf (.slice oa on oc) vr vt:=by rw [<- hW]; exact Nine.new w _ _ _ _ _ _ _ _ _
 obtain ⟨k0,k1,k2,k3,k4,k5,k6,k7,k8⟩:=n9.cells
 have hat:=ZfK (d:=d) (oc:=oc) (vf:=vf) (vr:=vr) (vt:=vt) (h.below bW) hl hn 1 x
 have HW:Hid (Below w.heap.size w W/\(⟨(st.data x).toArray⟩:ByteArray)=b/\RdG encO W oa st.objs/\Zbg W w.heap.size d vf (.slice oa on oc) vr vt/\st.objs.length=on):=⟨bW,hb,h.below bW,n9,hl⟩
 obtain ⟨xi,hxi⟩:∃ xi:Int,(x.toNat:Int)=xi:=⟨_,rfl⟩
 rw [hxi] at hat ⊢;clear h hl hb hxi bW n9;go_enter Tryz.func69,Tryz.ntmps69;go_wp2_with fail;refine hat.mono ?_;rintro e w1 ⟨r,rfl,R1,B1⟩
 have HB:Hid (Below w.heap.size w w1/\Below W.heap.size W w1):=⟨HW.out.1.trans (B1.mono HW.out.1.size),B1⟩
 clear B1 hat
 rcases R1.out with ⟨q1,q2⟩ | ⟨i,q2,bs,q3,q1⟩
 ·have eb:b=⟨#[]⟩:=by
   rw [<- HW.out.2.1];unfold St.data;rw [q1]
   rfl
  subst q2 eb;clear q1 k0 k1 k2 k3 k4 k5 k6 k7 k8;go_wp2;go_ret;exact ⟨rfl,HB.out.1⟩
 ·have eb:b=⟨bs.toArray⟩:=by
   rw [<- HW.out.2.1];unfold St.data;rw [q1]
   rfl
  have i0:(0:Int)<=(i:Int):=by omega
  have il:i<on:=by
   rw [<- HW.out.2.2.2.2]
   rcases Nat.lt_or_ge i st.objs.length with q | q
   ·exact q
   ·rw [List.getElem?_eq_none q] at q3; cases q3
  have il2:(i:Int)<(on:Int):=by omega
  have r9:=HW.out.2.2.2.1.below HB.out.2 HW.out.2.2.2.1.lt;clear k0 k1 k2 k3 k4 k5 k6 k7 k8;obtain ⟨k0,k1,k2,k3,k4,k5,k6,k7,k8⟩:=r9.cells;obtain ⟨b1,off,rfl,_⟩:=(HW.out.2.2.1.below HB.out.2).some_of q3;obtain ⟨_,o0,o1,o9⟩:=(HW.out.2.2.1.below HB.out.2).obs q3
  have o2:w1.cell? ⟨b1,off+i*3+2,none⟩=some (.string b):=by rw [eb]; exact o9
  subst q2;clear q1 q3 eb o0 o1 o9 r9;go_wp2;go_ret;exact ⟨rfl,HB.out.1⟩
theorem Zig (h:RdG encO w oa st.objs) (hl:st.objs.length=on) (hn:on<=1000000) (hb:∀ o∈st.objs,o.body.length<=8192) (x:UInt64) :
  Calls Tryz.prog 71 #[rm d vf (.slice oa on oc) vr vt,.int .u64 (x.toNat:Int)] w λ e w'=>∃ v,e=.returned v/\Hid (OwnG encE 221 w' w.heap.size v (st.files x)/\Below w.heap.size w w'):=by
 obtain ⟨W,hW⟩:∃ W,w.alloc (nineC d vf (.slice oa on oc) vr vt)=W:=⟨_,rfl⟩
 have bW:Below w.heap.size w W:=by rw [<- hW]; exact bz1 _ _
 have n9:Zbg W w.heap.size d vf (.slice oa on oc) vr vt:=by rw [<- hW]; exact Nine.new w _ _ _ _ _ _ _ _ _
 obtain ⟨k0,k1,k2,k3,k4,k5,k6,k7,k8⟩:=n9.cells
 have hat:=ZfK (d:=d) (oc:=oc) (vf:=vf) (vr:=vr) (vt:=vt) (h.below bW) hl hn 2 x
 have HW:Hid (Below w.heap.size w W/\RdG encO W oa st.objs/\Zbg W w.heap.size d vf (.slice oa on oc) vr vt/\st.objs.length=on/\∀ o∈st.objs,o.body.length<=8192):=⟨bW,h.below bW,n9,hl,hb⟩
 obtain ⟨xi,hxi⟩:∃ xi:Int,(x.toNat:Int)=xi:=⟨_,rfl⟩
 rw [hxi] at hat ⊢;clear h hl hb hxi bW n9;go_enter Tryz.func71,Tryz.ntmps71;go_wp2_with fail;refine hat.mono ?_;rintro e w1 ⟨r,rfl,R1,B1⟩
 have HB:Hid (Below w.heap.size w w1/\Below W.heap.size W w1):=⟨HW.out.1.trans (B1.mono HW.out.1.size),B1⟩
 clear B1 hat
 rcases R1.out with ⟨q1,q2⟩ | ⟨i,q2,bs,q3,q1⟩
 ·have eb:st.files x=[]:=by
   unfold St.files;rw [q1]
   rfl
  have EB:=shidR eb;subst q2;clear q1 eb k0 k1 k2 k3 k4 k5 k6 k7 k8;go_wp2;go_ret;exact ⟨_,rfl,by rw [EB.out]; exact OwnG.nil _ _ _ _,HB.out.1⟩
 ·have eb:st.files x=(rdtree bs).getD []:=by
   unfold St.files;rw [q1]
   rfl
  have hbl:=HW.out.2.2.2.2 _ (Za6 q1);simp only at hbl
  have i0:(0:Int)<=(i:Int):=by omega
  have il:i<on:=by
   rw [<- HW.out.2.2.2.1]
   rcases Nat.lt_or_ge i st.objs.length with q | q
   ·exact q
   ·rw [List.getElem?_eq_none q] at q3; cases q3
  have il2:(i:Int)<(on:Int):=by omega
  have r9:=HW.out.2.2.1.below HB.out.2 HW.out.2.2.1.lt;clear k0 k1 k2 k3 k4 k5 k6 k7 k8;obtain ⟨k0,k1,k2,k3,k4,k5,k6,k7,k8⟩:=r9.cells;obtain ⟨b1,off,rfl,_⟩:=(HW.out.2.1.below HB.out.2).some_of q3;obtain ⟨_,o0,o1,o9⟩:=(HW.out.2.1.below HB.out.2).obs q3
  obtain ⟨b,eb2⟩:∃ b:ByteArray,(⟨bs.toArray⟩:ByteArray)=b:=⟨_,rfl⟩
  have o2:w1.cell? ⟨b1,off+i*3+2,none⟩=some (.string b):=by rw [<- eb2]; exact o9
  have hrd:=Zcf bs (by omega) w1;rw [show tx bs=.string b by rw [<- eb2]] at hrd;have EB:Hid (st.files x=(rdtree bs).getD []):=eb;subst q2;clear q1 q3 eb o0 o1 o9 r9 hbl eb2;go_wp2_with fail;refine hrd.mono ?_;rintro e w2 ⟨es,er,v,rfl,J⟩
  have FIN:Hid (OwnG encE 221 w2 w.heap.size v (st.files x)/\Below w.heap.size w w2):=by
   rw [EB.out,J.out.1.files];exact ⟨ownsRow_base_a J.out.2.1 HB.out.1.size,HB.out.1.trans (J.out.2.2.mono HB.out.1.size)⟩
  clear J hrd EB k0 k1 k2 k3 k4 k5 k6 k7 k8 o2;go_wp2;go_ret;exact ⟨_,rfl,FIN⟩
theorem Zk0 (h:RdG encO w oa st.objs) (hl:st.objs.length=on) (hn:on<=1000000) (hb:∀ o∈st.objs,o.body.length<=8192) (x:UInt64) (cm:Cm) (hcm:st.com x=cm) :
  Calls Tryz.prog 73 #[rm d vf (.slice oa on oc) vr vt,.int .u64 (x.toNat:Int)] w λ e w'=>∃ (pa:Option Addr) (pc:Nat),e=.returned (.agg #[.int .u64 (cm.tree.toNat:Int),.slice pa cm.ps.length pc,.int .i64 cm.date,tx cm.note])/\Hid (RdG encU w' pa cm.ps/\cm.ps.length<=pc/\Below w.heap.size w w'):=by
 obtain ⟨W,hW⟩:∃ W,(w.alloc (nineC d vf (.slice oa on oc) vr vt)).alloc (.cells #[.int .u64 0,.slice none 0 0,.int .i64 0,.string ⟨#[]⟩] 108)=W:=⟨_,rfl⟩
 have bW:Below w.heap.size w W:=by rw [<- hW]; exact bz2 _ _ _
 have n9:Zbg W w.heap.size d vf (.slice oa on oc) vr vt:=by rw [<- hW]; exact (Nine.new w _ _ _ _ _ _ _ _ _).below (bz1 _ _) (by simp)
 have bx:Box4 W (w.heap.size+1) 108 (.int .u64 0) (.slice none 0 0) (.int .i64 0) (.string ⟨#[]⟩):=by
  rw [<- hW];have:=Box4.new (w.alloc (nineC d vf (.slice oa on oc) vr vt)) 108 (.int .u64 0) (.slice none 0 0) (.int .i64 0) (.string ⟨#[]⟩)
  rwa [World.size_alloc] at this
 obtain ⟨k0,k1,k2,k3,k4,k5,k6,k7,k8⟩:=n9.cells
 have hat:=ZfK (d:=d) (oc:=oc) (vf:=vf) (vr:=vr) (vt:=vt) (h.below bW) hl hn 3 x
 have HW:Hid (Below w.heap.size w W/\RdG encO W oa st.objs/\Zbg W w.heap.size d vf (.slice oa on oc) vr vt/\st.objs.length=on/\(∀ o∈st.objs,o.body.length<=8192)/\Box4 W (w.heap.size+1) 108 (.int .u64 0) (.slice none 0 0) (.int .i64 0) (.string ⟨#[]⟩)/\st.com x=cm):=⟨bW,h.below bW,n9,hl,hb,bx,hcm⟩
 obtain ⟨xi,hxi⟩:∃ xi:Int,(x.toNat:Int)=xi:=⟨_,rfl⟩
 rw [hxi] at hat ⊢;clear h hl hb hxi bW n9 bx hcm;go_enter Tryz.func73,Tryz.ntmps73;go_wp2_with fail;refine hat.mono ?_;rintro e w1 ⟨r,rfl,R1,B1⟩
 have HB:Hid (Below w.heap.size w w1/\Below W.heap.size W w1):=⟨HW.out.1.trans (B1.mono HW.out.1.size),B1⟩
 have bx1:=HW.out.2.2.2.2.2.1.below HB.out.2 HW.out.2.2.2.2.2.1.lt;clear B1 hat
 rcases R1.out with ⟨q1,q2⟩ | ⟨i,q2,bs,q3,q1⟩
 ·have ec:cm=zcm:=by
   rw [<- HW.out.2.2.2.2.2.2];unfold St.com;rw [q1]
   rfl
  subst q2 ec;obtain ⟨x0,x1,x2,x3⟩:=bx1.cells;obtain ⟨f0,f1,f2,f3⟩:=bx1.thaw;have lt:=bx1.lt;have FIN:=shidR (HB.out.1.trans ((ZaI w1 (w.heap.size+1) (.int .u64 0) (.slice none 0 0) (.int .i64 0) (.string ⟨#[]⟩)).below HB.out.1.size (λ k hk q=>by have q':k=w.heap.size+1:=q; omega)));clear q1 k0 k1 k2 k3 k4 k5 k6 k7 k8 bx1 R1;go_wp2;refine bodyPost_ret (v:=.agg #[.int .u64 0,.slice none 0 0,.int .i64 0,.string ⟨#[]⟩]) ?_ rfl ⟨none,0,rfl,RdG.nil _ _ _,Nat.le_refl _,FIN.out⟩;simp [results,Tryz.f73];go_simp
 ·have ec:st.com x=(rdcom bs).getD zcm:=by
   unfold St.com;rw [q1]
   rfl
  have hbl:=HW.out.2.2.2.2.1 _ (Za6 q1);simp only at hbl
  have i0:(0:Int)<=(i:Int):=by omega
  have il:i<on:=by
   rw [<- HW.out.2.2.2.1]
   rcases Nat.lt_or_ge i st.objs.length with q | q
   ·exact q
   ·rw [List.getElem?_eq_none q] at q3; cases q3
  have il2:(i:Int)<(on:Int):=by omega
  have r9:=HW.out.2.2.1.below HB.out.2 HW.out.2.2.1.lt;clear k0 k1 k2 k3 k4 k5 k6 k7 k8;obtain ⟨k0,k1,k2,k3,k4,k5,k6,k7,k8⟩:=r9.cells;obtain ⟨b1,off,rfl,_⟩:=(HW.out.2.1.below HB.out.2).some_of q3;obtain ⟨_,o0,o1,o9⟩:=(HW.out.2.1.below HB.out.2).obs q3
  obtain ⟨b,eb2⟩:∃ b:ByteArray,(⟨bs.toArray⟩:ByteArray)=b:=⟨_,rfl⟩
  have o2:w1.cell? ⟨b1,off+i*3+2,none⟩=some (.string b):=by rw [<- eb2]; exact o9
  have hrd:=Zc3 bs (by omega) w1;rw [show tx bs=.string b by rw [<- eb2]] at hrd
  have EB:Hid (cm=(rdcom bs).getD zcm):=by rw [<- HW.out.2.2.2.2.2.2]; exact ec
  have X1:=shidR bx1;subst q2;clear q1 q3 ec o0 o1 o9 r9 hbl eb2 bx1 R1;go_wp2_with fail;refine hrd.mono ?_;rintro e w2 ⟨c2,er,pa,pc,rfl,J⟩
  have ec:cm=c2:=by rw [EB.out]; exact J.out.1.com
  subst ec
  obtain ⟨tr,htr⟩:∃ tr:Int,(cm.tree.toNat:Int)=tr:=⟨_,rfl⟩
  obtain ⟨pn,hpn⟩:∃ pn,cm.ps.length=pn:=⟨_,rfl⟩
  obtain ⟨dt,hdt⟩:∃ dt,cm.date=dt:=⟨_,rfl⟩
  obtain ⟨nt,hnt⟩:∃ nt:ByteArray,(⟨cm.note.toArray⟩:ByteArray)=nt:=⟨_,rfl⟩
  rw [htr,hpn,hdt,show tx cm.note=.string nt by rw [<- hnt]]
  obtain ⟨wA,hwA⟩:∃ wA,w2.alloc (.cells #[.int .u64 tr,.slice pa pn pc,.int .i64 dt,.string nt] 108)=wA:=⟨_,rfl⟩
  have bA:Below w2.heap.size w2 wA:=by rw [<- hwA]; exact bz1 _ _
  have bxA:Box4 wA w2.heap.size 108 (.int .u64 tr) (.slice pa pn pc) (.int .i64 dt) (.string nt):=by rw [<- hwA]; exact Box4.new _ _ _ _ _ _
  have bx0:=(X1.out.below J.out.2.2.2.1 X1.out.lt).below bA (X1.out.below J.out.2.2.2.1 X1.out.lt).lt;obtain ⟨y0,y1,y2,y3⟩:=bxA.cells;obtain ⟨x0,x1,x2,x3⟩:=bx0.cells;obtain ⟨f0,f1,f2,f3⟩:=bx0.thaw;have lt:=bx0.lt;have ht:=ZaI wA (w.heap.size+1) (.int .u64 tr) (.slice pa pn pc) (.int .i64 dt) (.string nt);have bel:Below w.heap.size w wA:=(HB.out.1.trans (J.out.2.2.2.1.mono HB.out.1.size)).trans (bA.mono (Nat.le_trans HB.out.1.size J.out.2.2.2.1.size))
  have FIN:Hid (RdG encU ((((wA.setCell ⟨w.heap.size+1,0,none⟩ (.int .u64 tr)).setCell ⟨w.heap.size+1,1,none⟩ (.slice pa pn pc)).setCell ⟨w.heap.size+1,2,none⟩ (.int .i64 dt)).setCell ⟨w.heap.size+1,3,none⟩ (.string nt)) pa cm.ps/\pn<=pc/\Below w.heap.size w ((((wA.setCell ⟨w.heap.size+1,0,none⟩ (.int .u64 tr)).setCell ⟨w.heap.size+1,1,none⟩ (.slice pa pn pc)).setCell ⟨w.heap.size+1,2,none⟩ (.int .i64 dt)).setCell ⟨w.heap.size+1,3,none⟩ (.string nt))):=by
   refine ⟨(J.out.2.1.below bA).turned ht (λ h0 p hp q=>?_),by rw [<- hpn]; exact J.out.2.2.1,bel.trans (ht.below bel.size (λ k hk q=>by have q':k=w.heap.size+1:=q; omega))⟩;have h1:=J.out.2.2.2.2 h0 p hp;have h2:=X1.out.lt;have q':p.block=w.heap.size+1:=q;omega
  have HE:Hid ((cm.tree.toNat:Int)=tr/\cm.ps.length=pn/\cm.date=dt/\(⟨cm.note.toArray⟩:ByteArray)=nt):=⟨htr,hpn,hdt,hnt⟩
  clear htr hpn hdt hnt bA bxA bx0 J hrd EB k0 k1 k2 k3 k4 k5 k6 k7 k8 o2 ht bel X1;go_wp2;refine bodyPost_ret (v:=.agg #[.int .u64 tr,.slice pa pn pc,.int .i64 dt,.string nt]) ?_ rfl ?_
  ·simp [results,Tryz.f73];go_simp
  ·refine ⟨pa,pc,?_,FIN.out.1,by rw [HE.out.2.1]; exact FIN.out.2.1,FIN.out.2.2⟩;rw [HE.out.1,HE.out.2.1,HE.out.2.2.1,<- HE.out.2.2.2]
end
end Go.Proofs.YtmhcpbbiokpjjaaGreat
