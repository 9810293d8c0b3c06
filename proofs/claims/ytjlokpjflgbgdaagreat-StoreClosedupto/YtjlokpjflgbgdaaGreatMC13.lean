/-
  The reference's lay, Put and Append, each by a contract over the document's disk. No condition but that what is handed in is no longer than any memory holds.
-/
import Derived.Test.YtjlokpjflgbgdaaGreatMC12
set_option maxHeartbeats 6400000
set_option maxRecDepth 100000
namespace Go.Proofs.YtjlokpjflgbgdaaGreat
open Go.RowKit
def Six (w:World) (B:Nat) (a0 a1 a2 a3 a4 a5:Value):Prop:=w.heap[B]? = some (.cells #[a0,a1,a2,a3,a4,a5] 28 (0,0))
section
variable {w w':World} {B:Nat} {a0 a1 a2 a3 a4 a5:Value}
theorem Six.lt (h:Six w B a0 a1 a2 a3 a4 a5):B<w.heap.size:=(Array.getElem?_eq_some_iff.1 h).1
theorem Six.below (h:Six w B a0 a1 a2 a3 a4 a5) (hb:Below w.heap.size w w'):Six w' B a0 a1 a2 a3 a4 a5:=(hb.block B h.lt).trans h
theorem Six.cells (h:Six w B a0 a1 a2 a3 a4 a5):w.cell? ⟨B,0,none⟩=some a0/\w.cell? ⟨B,1,none⟩=some a1/\w.cell? ⟨B,2,none⟩=some a2/\w.cell? ⟨B,3,none⟩=some a3/\w.cell? ⟨B,4,none⟩=some a4/\w.cell? ⟨B,5,none⟩=some a5:=by
 unfold Six at h;simp [World.cell?,h]
theorem Six.thaw (h:Six w B a0 a1 a2 a3 a4 a5):w.frozen? ⟨B,0,none⟩=false/\w.frozen? ⟨B,1,none⟩=false/\w.frozen? ⟨B,2,none⟩=false/\w.frozen? ⟨B,3,none⟩=false/\w.frozen? ⟨B,4,none⟩=false/\w.frozen? ⟨B,5,none⟩=false:=by
 unfold Six at h;simp [World.frozen?,h]
theorem Six.new (w:World) (a0 a1 a2 a3 a4 a5:Value):Six (w.alloc (.cells #[a0,a1,a2,a3,a4,a5] 28)) w.heap.size a0 a1 a2 a3 a4 a5:=heap_alloc_new w _
end
def RVS (S:Nat->Prop) (w:World) (v:Value) (d:Dk):Prop:=∃ ao L c,v=rv ao L c d/\d.files.length=L/\L<=c/\RdG encF w ao d.files/\(0<L->∀ p,ao=some p->¬ S p.block)
theorem own_files {w w':World} {v:Value} {fs:Fs} (h:OwnG encF 136 w' w.heap.size v fs):∃ ao c,v=.slice ao fs.length c/\fs.length<=c/\RdG encF w' ao fs/\(0<fs.length->∀ p,ao=some p->w.heap.size<=p.block):=by
 obtain ⟨ao,c,e,h1,h2,h3,h4⟩:=OwnG.form h;refine ⟨ao,c,e,h1,h3,λ h0 p hp=>?_⟩;obtain ⟨g,eg⟩:=h4 h0;rw [hp] at eg;cases eg;exact (h.lt g (by rw [e,hp]; rfl)).1
theorem close_at {w w3:World} {b1 b2:Nat} (hb:Below w.heap.size w w3) (h1:w.heap.size<=b1) (h2:w.heap.size<=b2) (u v0 v1 v2 v3 v4 v5:Value) :
  Below w.heap.size w (((((((w3.setCell ⟨b1,0,none⟩ u).setCell ⟨b2,0,none⟩ v0).setCell ⟨b2,1,none⟩ v1).setCell ⟨b2,2,none⟩ v2).setCell ⟨b2,3,none⟩ v3).setCell ⟨b2,4,none⟩ v4).setCell ⟨b2,5,none⟩ v5) /\
  Turned (λ i=>i=b1∨i=b2) w3 (((((((w3.setCell ⟨b1,0,none⟩ u).setCell ⟨b2,0,none⟩ v0).setCell ⟨b2,1,none⟩ v1).setCell ⟨b2,2,none⟩ v2).setCell ⟨b2,3,none⟩ v3).setCell ⟨b2,4,none⟩ v4).setCell ⟨b2,5,none⟩ v5):=by
 have t:Turned (λ i=>i=b1∨i=b2) w3 (((((((w3.setCell ⟨b1,0,none⟩ u).setCell ⟨b2,0,none⟩ v0).setCell ⟨b2,1,none⟩ v1).setCell ⟨b2,2,none⟩ v2).setCell ⟨b2,3,none⟩ v3).setCell ⟨b2,4,none⟩ v4).setCell ⟨b2,5,none⟩ v5) :=
  ((((((((Turned.refl (λ i=>i=b1∨i=b2) w3).setCell (p:=⟨b1,0,none⟩) (.inl (.inl rfl)) u).setCell (p:=⟨b2,0,none⟩) (.inl (.inr rfl)) v0).setCell (p:=⟨b2,1,none⟩) (.inl (.inr rfl)) v1).setCell (p:=⟨b2,2,none⟩) (.inl (.inr rfl)) v2).setCell (p:=⟨b2,3,none⟩) (.inl (.inr rfl)) v3).setCell (p:=⟨b2,4,none⟩) (.inl (.inr rfl)) v4).setCell (p:=⟨b2,5,none⟩) (.inl (.inr rfl)) v5)
 exact ⟨hb.trans (t.below hb.size (λ i hi q=>by rcases q with q | q <;> omega)),t⟩
theorem RVS.close {S:Nat->Prop} {w w3 w4:World} {a3:Option Addr} {M c3 b1 b2:Nat} {d:Dk} (hS:∀ i,S i->i<w.heap.size) (h1:w.heap.size<=b1) (hM:d.files.length=M) (hc:M<=c3) (hR:RdG encF w3 a3 d.files) (hF:0<M->∀ p,a3=some p->b1<p.block) (h2:b2<=b1) (ht:Turned (λ i=>i=b1∨i=b2) w3 w4):RVS S w4 (rv a3 M c3 d) d :=
 ⟨a3,M,c3,rfl,hM,hc,hR.turned ht (λ h0 p hp q=>by have:=hF (by omega) p hp; rcases q with q | q <;> omega),λ h0 p hp q=>by have:=hF h0 p hp; have:=hS _ q; omega⟩
section
variable {S:Nat->Prop} {ao:Option Addr} {L c:Nat} {d:Dk} {w:World}
theorem rlay_done (hS:∀ i,S i->i<w.heap.size) (hR:RdG encF w ao d.files) (hL:d.files.length=L) (hk:d.ok) (hw:d.writes<4611686018427387904) (n own more:Bs) (hn:isName n=true) (hnl:n.length<=140737488355328)
  (hsum:own.length+more.length<=262144) (hroom:fget d.files n≠none∨L<32) (hdo:(dnext d).2.1=true) (hto:(dnext d).2.2=false) :
  Calls Tryz.prog 135 #[rv ao L c d,tx n,tx own,tx more] w λ e w'=>∃ v',e=.returned (.tuple #[v',.int .i64 0])/\RVS S w' v' { (dnext d).1 with files:=fwith d.files n (own++more) }/\Below w.heap.size w w':=by
 obtain ⟨W,hW⟩:∃ W,(w.alloc (.cells #[.slice ao L c,.int .i64 (d.writes:Int),.bool d.armed,.bool d.dead,.int .i64 (d.after:Int),.int .i64 (d.keep:Int)] 28)).alloc (.cells #[.slice none 0 0,.int .i64 0,.bool false,.bool false,.int .i64 0,.int .i64 0] 28)=W:=⟨_,rfl⟩
 have B0:Below w.heap.size w W:=by rw [<- hW]; exact bz2 _ _ _
 have X0:Six W w.heap.size (.slice ao L c) (.int .i64 (d.writes:Int)) (.bool d.armed) (.bool d.dead) (.int .i64 (d.after:Int)) (.int .i64 (d.keep:Int)):=by rw [<- hW]; exact (Six.new w _ _ _ _ _ _).below (bz1 _ _)
 have Y0:Six W (w.heap.size+1) (.slice none 0 0) (.int .i64 0) (.bool false) (.bool false) (.int .i64 0) (.int .i64 0):=by
  rw [<- hW];have:=Six.new (w.alloc (.cells #[.slice ao L c,.int .i64 (d.writes:Int),.bool d.armed,.bool d.dead,.int .i64 (d.after:Int),.int .i64 (d.keep:Int)] 28)) (.slice none 0 0) (.int .i64 0) (.bool false) (.bool false) (.int .i64 0) (.int .i64 0);rw [show (w.alloc (.cells #[.slice ao L c,.int .i64 (d.writes:Int),.bool d.armed,.bool d.dead,.int .i64 (d.after:Int),.int .i64 (d.keep:Int)] 28)).heap.size=w.heap.size+1 by simp] at this;exact this
 have hnm:=rname_any ⟨n.toArray⟩ (by rw [str_size]; omega) W;rw [show (⟨n.toArray⟩:ByteArray).data.toList=n from rfl,hn] at hnm;obtain ⟨x0,x1,x2,x3,x4,x5⟩:=X0.cells
 have p1:decide ((262144:Int)<((own.length:Nat):Int)+((more.length:Nat):Int))=false:=by rw [decide_eq_false_iff_not]; omega
 have ol:own.length<=262144:=by omega
 have ml:more.length<=262144:=by omega
 have hat:Calls Tryz.prog 176 #[rv ao L c d,tx n] W λ e w'=>∃ r,e=.returned (.int .i64 r)/\((0<=r/\r<1000)∨(r = -1/\L<32))/\Below W.heap.size W w':=by
  cases e:fget d.files n with
  | none =>
   refine (at_none (c:=c) d n W (hR.below B0) hL (by have:=hk.few; omega) e).mono ?_;rintro _ w' ⟨rfl,hb⟩;exact ⟨-1,rfl,.inr ⟨rfl,hroom.elim (λ q=>absurd e q) id⟩,hb⟩
  | some v =>
   refine (at_some (c:=c) d n W (hR.below B0) hL (by have:=hk.few; omega) e).mono ?_;rintro _ w' ⟨i,rfl,hi,_,hb⟩;exact ⟨i,rfl,.inl ⟨by omega,by have:=hk.few; omega⟩,hb⟩
 have H:Hid ((∀ i,S i->i<w.heap.size)/\RdG encF w ao d.files/\d.files.length=L/\d.ok/\Below w.heap.size w W/\Six W w.heap.size (.slice ao L c) (.int .i64 (d.writes:Int)) (.bool d.armed) (.bool d.dead) (.int .i64 (d.after:Int)) (.int .i64 (d.keep:Int))/\Six W (w.heap.size+1) (.slice none 0 0) (.int .i64 0) (.bool false) (.bool false) (.int .i64 0) (.int .i64 0)):=⟨hS,hR,hL,hk,B0,X0,Y0⟩
 have hl32:L<=32:=by have:=hk.few; omega
 clear hS hR hL B0 X0 Y0 hroom;have Z:Hid _:=And.intro hdo hto;clear hdo hto;go_enter Tryz.func135,Tryz.ntmps135;go_wp2_with fail;refine hnm.mono ?_;rintro e w1 ⟨rfl,hw1⟩;rw [hw1];clear hw1 w1 hnm;go_wp2_with fail;refine hat.mono ?_;rintro e w1 ⟨r,rfl,hr,B1⟩;have HB1:Hid (Below W.heap.size W w1):=B1;clear B1 hat x0 x1 x2 x3 x4 x5;obtain ⟨x0,x1,x2,x3,x4,x5⟩:=(H.out.2.2.2.2.2.1.below HB1.out).cells;have hnx:=rnext_any (ao:=ao) (L:=L) (c:=c) (w:=w1) H.out.2.2.2.1.after hw;rw [Z.out.1,Z.out.2] at hnx
 obtain ⟨D,hD⟩:∃ D,(dnext d).1=D:=⟨_,rfl⟩
 rw [hD] at hnx
 have pp:(decide (r<0)&&decide ((32:Int)<=(L:Int)))=false:=by
  rcases hr with ⟨r0,r1⟩ | ⟨rfl,rL⟩
  ·rw [decide_eq_false (p:=r<0) (by omega)]; rfl
  ·rw [decide_eq_false (p:=(32:Int)<=(L:Int)) (by omega)]; simp
 rcases hr with ⟨r0,r1⟩ | ⟨rfl,rL⟩
 all_goals
  first
   | have p2:decide (r<0)=false:=by rw [decide_eq_false_iff_not]; omega
   | have p2:decide ((32:Int)<=(L:Int))=false:=by rw [decide_eq_false_iff_not]; omega
  go_wp2_with fail;refine hnx.mono ?_;rintro e w2 ⟨rfl,B2⟩;have HB2:Hid (Below w1.heap.size w1 w2):=B2;clear B2;go_wp2_with fail
 all_goals
  have hwi:=kwith_any (ao:=ao) (L:=L) (c:=c) d.files n (own++more) (w2.alloc (.cells #[.slice ao L c,.int .i64 (D.writes:Int),.bool D.armed,.bool D.dead,.int .i64 (D.after:Int),.int .i64 (D.keep:Int)] 28)) ((((H.out.2.1.below H.out.2.2.2.2.1).below HB1.out).below HB2.out).below (bz1 _ _)) H.out.2.2.1 (by omega) H.out.2.2.2.1.rise;rw [<- tx_cat] at hwi;refine hwi.mono ?_;rintro e w3 ⟨v3,rfl,O3,B3⟩;obtain ⟨y0,y1,y2,y3,y4,y5⟩:=((((H.out.2.2.2.2.2.2.below HB1.out).below HB2.out).below (bz1 _ _)).below B3).cells;obtain ⟨f0,f1,f2,f3,f4,f5⟩:=((((H.out.2.2.2.2.2.2.below HB1.out).below HB2.out).below (bz1 _ _)).below B3).thaw;obtain ⟨z0,z1,z2,z3,z4,z5⟩:=((Six.new w2 (.slice ao L c) (.int .i64 (D.writes:Int)) (.bool D.armed) (.bool D.dead) (.int .i64 (D.after:Int)) (.int .i64 (D.keep:Int))).below B3).cells;have g0:=((Six.new w2 (.slice ao L c) (.int .i64 (D.writes:Int)) (.bool D.armed) (.bool D.dead) (.int .i64 (D.after:Int)) (.int .i64 (D.keep:Int))).below B3).thaw.1;have s2:w.heap.size+1<w2.heap.size:=((H.out.2.2.2.2.2.2.below HB1.out).below HB2.out).lt
  have ne:w2.heap.size≠w.heap.size+1:=by omega
  have ne':w.heap.size+1≠w2.heap.size:=by omega
  obtain ⟨a3,c3,rfl,hc3,R3,F3⟩:=own_files O3
  have HB3:Hid ((fwith d.files n (own++more)).length<=c3/\RdG encF w3 a3 (fwith d.files n (own++more))/\(0<(fwith d.files n (own++more)).length->∀ p,a3=some p->w2.heap.size<p.block)/\Below w.heap.size w w3):=⟨hc3,R3,λ h0 p hp=>by have:=F3 h0 p hp; simp at this; omega,by
   have b1:=H.out.2.2.2.2.1.trans (HB1.out.mono H.out.2.2.2.2.1.size);have b2:=b1.trans (HB2.out.mono b1.size);have b3:=b2.trans ((bz1 w2 (.cells #[.slice ao L c,.int .i64 (D.writes:Int),.bool D.armed,.bool D.dead,.int .i64 (D.after:Int),.int .i64 (D.keep:Int)] 28)).mono b2.size)
   exact b3.trans (B3.mono b3.size)⟩
  obtain ⟨M,hM⟩:∃ M,(fwith d.files n (own++more)).length=M:=⟨_,rfl⟩
  rw [hM];clear hc3 R3 F3;clear O3 B3 hwi;go_wp2
 all_goals
  have CL:=close_at HB3.out.2.2.2 (b1:=w2.heap.size) (b2:=w.heap.size+1) (by omega) (by omega) (.slice a3 M c3) (.slice a3 M c3) (.int .i64 (D.writes:Int)) (.bool D.armed) (.bool D.dead) (.int .i64 (D.after:Int)) (.int .i64 (D.keep:Int));have RR:RVS S _ (rv a3 M c3 { D with files:=fwith d.files n (own++more) }) { D with files:=fwith d.files n (own++more) }:=RVS.close H.out.1 (by omega) hM (by have:=HB3.out.1; rw [hM] at this; exact this) HB3.out.2.1 (by rw [<- hM]; exact HB3.out.2.2.1) (by omega) CL.2;rw [hD];refine bodyPost_ret (v:=.tuple #[rv a3 M c3 { D with files:=fwith d.files n (own++more) },.int .i64 0]) ?_ rfl ⟨_,rfl,RR,CL.1⟩;simp [results,Tryz.f135];go_simp
theorem rlay_torn1 (hS:∀ i,S i->i<w.heap.size) (hR:RdG encF w ao d.files) (hL:d.files.length=L) (hk:d.ok) (hw:d.writes<4611686018427387904) (n own more:Bs) (hn:isName n=true) (hnl:n.length<=140737488355328)
  (hsum:own.length+more.length<=262144) (hroom:fget d.files n≠none∨L<32) (hdo:(dnext d).2.1=false) (hto:(dnext d).2.2=true) (hkm:d.keep<more.length) :
  Calls Tryz.prog 135 #[rv ao L c d,tx n,tx own,tx more] w λ e w'=>∃ v',e=.returned (.tuple #[v',.int .i64 8])/\RVS S w' v' { (dnext d).1 with files:=fwith d.files n (own++more.take d.keep) }/\Below w.heap.size w w':=by
 obtain ⟨W,hW⟩:∃ W,(w.alloc (.cells #[.slice ao L c,.int .i64 (d.writes:Int),.bool d.armed,.bool d.dead,.int .i64 (d.after:Int),.int .i64 (d.keep:Int)] 28)).alloc (.cells #[.slice none 0 0,.int .i64 0,.bool false,.bool false,.int .i64 0,.int .i64 0] 28)=W:=⟨_,rfl⟩
 have B0:Below w.heap.size w W:=by rw [<- hW]; exact bz2 _ _ _
 have X0:Six W w.heap.size (.slice ao L c) (.int .i64 (d.writes:Int)) (.bool d.armed) (.bool d.dead) (.int .i64 (d.after:Int)) (.int .i64 (d.keep:Int)):=by rw [<- hW]; exact (Six.new w _ _ _ _ _ _).below (bz1 _ _)
 have Y0:Six W (w.heap.size+1) (.slice none 0 0) (.int .i64 0) (.bool false) (.bool false) (.int .i64 0) (.int .i64 0):=by
  rw [<- hW];have:=Six.new (w.alloc (.cells #[.slice ao L c,.int .i64 (d.writes:Int),.bool d.armed,.bool d.dead,.int .i64 (d.after:Int),.int .i64 (d.keep:Int)] 28)) (.slice none 0 0) (.int .i64 0) (.bool false) (.bool false) (.int .i64 0) (.int .i64 0);rw [show (w.alloc (.cells #[.slice ao L c,.int .i64 (d.writes:Int),.bool d.armed,.bool d.dead,.int .i64 (d.after:Int),.int .i64 (d.keep:Int)] 28)).heap.size=w.heap.size+1 by simp] at this;exact this
 have hnm:=rname_any ⟨n.toArray⟩ (by rw [str_size]; omega) W;rw [show (⟨n.toArray⟩:ByteArray).data.toList=n from rfl,hn] at hnm;obtain ⟨x0,x1,x2,x3,x4,x5⟩:=X0.cells
 have p1:decide ((262144:Int)<((own.length:Nat):Int)+((more.length:Nat):Int))=false:=by rw [decide_eq_false_iff_not]; omega
 have ol:own.length<=262144:=by omega
 have ml:more.length<=262144:=by omega
 have hat:Calls Tryz.prog 176 #[rv ao L c d,tx n] W λ e w'=>∃ r,e=.returned (.int .i64 r)/\((0<=r/\r<1000)∨(r = -1/\L<32))/\Below W.heap.size W w':=by
  cases e:fget d.files n with
  | none =>
   refine (at_none (c:=c) d n W (hR.below B0) hL (by have:=hk.few; omega) e).mono ?_;rintro _ w' ⟨rfl,hb⟩;exact ⟨-1,rfl,.inr ⟨rfl,hroom.elim (λ q=>absurd e q) id⟩,hb⟩
  | some v =>
   refine (at_some (c:=c) d n W (hR.below B0) hL (by have:=hk.few; omega) e).mono ?_;rintro _ w' ⟨i,rfl,hi,_,hb⟩;exact ⟨i,rfl,.inl ⟨by omega,by have:=hk.few; omega⟩,hb⟩
 have H:Hid ((∀ i,S i->i<w.heap.size)/\RdG encF w ao d.files/\d.files.length=L/\d.ok/\Below w.heap.size w W/\Six W w.heap.size (.slice ao L c) (.int .i64 (d.writes:Int)) (.bool d.armed) (.bool d.dead) (.int .i64 (d.after:Int)) (.int .i64 (d.keep:Int))/\Six W (w.heap.size+1) (.slice none 0 0) (.int .i64 0) (.bool false) (.bool false) (.int .i64 0) (.int .i64 0)):=⟨hS,hR,hL,hk,B0,X0,Y0⟩
 have hl32:L<=32:=by have:=hk.few; omega
 clear hS hR hL B0 X0 Y0 hroom;have Z:Hid _:=And.intro hdo hto;clear hdo hto
 obtain ⟨K,hK⟩:∃ K,d.keep=K:=⟨_,rfl⟩
 obtain ⟨mr,hmr⟩:∃ mr,more.take d.keep=mr:=⟨_,rfl⟩
 rw [hK] at hkm
 have MR:Hid (more.take K=mr):=by rw [<- hK]; exact hmr
 have HK:Hid (d.keep=K):=hK;clear hK hmr;go_enter Tryz.func135,Tryz.ntmps135;go_wp2_with fail;refine hnm.mono ?_;rintro e w1 ⟨rfl,hw1⟩;rw [hw1];clear hw1 w1 hnm;go_wp2_with fail;refine hat.mono ?_;rintro e w1 ⟨r,rfl,hr,B1⟩;have HB1:Hid (Below W.heap.size W w1):=B1;clear B1 hat x0 x1 x2 x3 x4 x5;obtain ⟨x0,x1,x2,x3,x4,x5⟩:=(H.out.2.2.2.2.2.1.below HB1.out).cells;have hnx:=rnext_any (ao:=ao) (L:=L) (c:=c) (w:=w1) H.out.2.2.2.1.after hw;rw [Z.out.1,Z.out.2] at hnx
 obtain ⟨D,hD⟩:∃ D,(dnext d).1=D:=⟨_,rfl⟩
 rw [hD] at hnx
 have pp:(decide (r<0)&&decide ((32:Int)<=(L:Int)))=false:=by
  rcases hr with ⟨r0,r1⟩ | ⟨rfl,rL⟩
  ·rw [decide_eq_false (p:=r<0) (by omega)]; rfl
  ·rw [decide_eq_false (p:=(32:Int)<=(L:Int)) (by omega)]; simp
 rcases hr with ⟨r0,r1⟩ | ⟨rfl,rL⟩
 all_goals
  first
   | have p2:decide (r<0)=false:=by rw [decide_eq_false_iff_not]; omega
   | have p2:decide ((32:Int)<=(L:Int))=false:=by rw [decide_eq_false_iff_not]; omega
  go_wp2_with fail;refine hnx.mono ?_;rintro e w2 ⟨rfl,B2⟩;have HB2:Hid (Below w1.heap.size w1 w2):=B2;clear B2;have x5':=(H.out.2.2.2.2.2.1.below HB1.out |>.below HB2.out).cells.2.2.2.2.2;rw [HK.out] at x5';have x5a:=(((H.out.2.2.2.2.2.1.below HB1.out).below HB2.out).below (bz1 w2 (.cells #[.slice ao L c,.int .i64 (D.writes:Int),.bool D.armed,.bool D.dead,.int .i64 (D.after:Int),.int .i64 (D.keep:Int)] 28))).cells.2.2.2.2.2;rw [HK.out] at x5a
  have p3:decide ((K:Int)<((more.length:Nat):Int))=true:=by rw [decide_eq_true_eq]; omega
  go_wp2_with fail;have hwi:=kwith_any (ao:=ao) (L:=L) (c:=c) d.files n (own++mr) (w2.alloc (.cells #[.slice ao L c,.int .i64 (D.writes:Int),.bool D.armed,.bool D.dead,.int .i64 (D.after:Int),.int .i64 (D.keep:Int)] 28)) ((((H.out.2.1.below H.out.2.2.2.2.1).below HB1.out).below HB2.out).below (bz1 _ _)) H.out.2.2.1 (by omega) H.out.2.2.2.1.rise;rw [<- tx_cat] at hwi
  have hex:(⟨mr.toArray⟩:ByteArray)=(⟨more.toArray⟩:ByteArray).extract 0 K:=by rw [ext_take,<- MR.out]
  rw [hex] at hwi;refine hwi.mono ?_;rintro e w3 ⟨v3,rfl,O3,B3⟩;obtain ⟨y0,y1,y2,y3,y4,y5⟩:=((((H.out.2.2.2.2.2.2.below HB1.out).below HB2.out).below (bz1 _ _)).below B3).cells;obtain ⟨f0,f1,f2,f3,f4,f5⟩:=((((H.out.2.2.2.2.2.2.below HB1.out).below HB2.out).below (bz1 _ _)).below B3).thaw;obtain ⟨z0,z1,z2,z3,z4,z5⟩:=((Six.new w2 (.slice ao L c) (.int .i64 (D.writes:Int)) (.bool D.armed) (.bool D.dead) (.int .i64 (D.after:Int)) (.int .i64 (D.keep:Int))).below B3).cells;have g0:=((Six.new w2 (.slice ao L c) (.int .i64 (D.writes:Int)) (.bool D.armed) (.bool D.dead) (.int .i64 (D.after:Int)) (.int .i64 (D.keep:Int))).below B3).thaw.1;have s2:w.heap.size+1<w2.heap.size:=((H.out.2.2.2.2.2.2.below HB1.out).below HB2.out).lt
  have ne:w2.heap.size≠w.heap.size+1:=by omega
  have ne':w.heap.size+1≠w2.heap.size:=by omega
  obtain ⟨a3,c3,rfl,hc3,R3,F3⟩:=own_files O3
  have HB3:Hid ((fwith d.files n (own++mr)).length<=c3/\RdG encF w3 a3 (fwith d.files n (own++mr))/\(0<(fwith d.files n (own++mr)).length->∀ p,a3=some p->w2.heap.size<p.block)/\Below w.heap.size w w3):=⟨hc3,R3,λ h0 p hp=>by have:=F3 h0 p hp; simp at this; omega,by
   have b1:=H.out.2.2.2.2.1.trans (HB1.out.mono H.out.2.2.2.2.1.size);have b2:=b1.trans (HB2.out.mono b1.size);have b3:=b2.trans ((bz1 w2 (.cells #[.slice ao L c,.int .i64 (D.writes:Int),.bool D.armed,.bool D.dead,.int .i64 (D.after:Int),.int .i64 (D.keep:Int)] 28)).mono b2.size)
   exact b3.trans (B3.mono b3.size)⟩
  obtain ⟨M,hM⟩:∃ M,(fwith d.files n (own++mr)).length=M:=⟨_,rfl⟩
  rw [hM];clear hc3 R3 F3;clear O3 B3 hwi;go_wp2;have CL:=close_at HB3.out.2.2.2 (b1:=w2.heap.size) (b2:=w.heap.size+1) (by omega) (by omega) (.slice a3 M c3) (.slice a3 M c3) (.int .i64 (D.writes:Int)) (.bool D.armed) (.bool D.dead) (.int .i64 (D.after:Int)) (.int .i64 (D.keep:Int));have RR:RVS S _ (rv a3 M c3 { D with files:=fwith d.files n (own++mr) }) { D with files:=fwith d.files n (own++mr) }:=RVS.close H.out.1 (by omega) hM (by have:=HB3.out.1; rw [hM] at this; exact this) HB3.out.2.1 (by rw [<- hM]; exact HB3.out.2.2.1) (by omega) CL.2;rw [hD,HK.out,MR.out];refine bodyPost_ret (v:=.tuple #[rv a3 M c3 { D with files:=fwith d.files n (own++mr) },.int .i64 8]) ?_ rfl ⟨_,rfl,RR,CL.1⟩;simp [results,Tryz.f135];go_simp
theorem rlay_torn2 (hS:∀ i,S i->i<w.heap.size) (hR:RdG encF w ao d.files) (hL:d.files.length=L) (hk:d.ok) (hw:d.writes<4611686018427387904) (n own more:Bs) (hn:isName n=true) (hnl:n.length<=140737488355328)
  (hsum:own.length+more.length<=262144) (hroom:fget d.files n≠none∨L<32) (hdo:(dnext d).2.1=false) (hto:(dnext d).2.2=true) (hkm:more.length<=d.keep) :
  Calls Tryz.prog 135 #[rv ao L c d,tx n,tx own,tx more] w λ e w'=>∃ v',e=.returned (.tuple #[v',.int .i64 8])/\RVS S w' v' { (dnext d).1 with files:=fwith d.files n (own++more.take d.keep) }/\Below w.heap.size w w':=by
 obtain ⟨W,hW⟩:∃ W,(w.alloc (.cells #[.slice ao L c,.int .i64 (d.writes:Int),.bool d.armed,.bool d.dead,.int .i64 (d.after:Int),.int .i64 (d.keep:Int)] 28)).alloc (.cells #[.slice none 0 0,.int .i64 0,.bool false,.bool false,.int .i64 0,.int .i64 0] 28)=W:=⟨_,rfl⟩
 have B0:Below w.heap.size w W:=by rw [<- hW]; exact bz2 _ _ _
 have X0:Six W w.heap.size (.slice ao L c) (.int .i64 (d.writes:Int)) (.bool d.armed) (.bool d.dead) (.int .i64 (d.after:Int)) (.int .i64 (d.keep:Int)):=by rw [<- hW]; exact (Six.new w _ _ _ _ _ _).below (bz1 _ _)
 have Y0:Six W (w.heap.size+1) (.slice none 0 0) (.int .i64 0) (.bool false) (.bool false) (.int .i64 0) (.int .i64 0):=by
  rw [<- hW];have:=Six.new (w.alloc (.cells #[.slice ao L c,.int .i64 (d.writes:Int),.bool d.armed,.bool d.dead,.int .i64 (d.after:Int),.int .i64 (d.keep:Int)] 28)) (.slice none 0 0) (.int .i64 0) (.bool false) (.bool false) (.int .i64 0) (.int .i64 0);rw [show (w.alloc (.cells #[.slice ao L c,.int .i64 (d.writes:Int),.bool d.armed,.bool d.dead,.int .i64 (d.after:Int),.int .i64 (d.keep:Int)] 28)).heap.size=w.heap.size+1 by simp] at this;exact this
 have hnm:=rname_any ⟨n.toArray⟩ (by rw [str_size]; omega) W;rw [show (⟨n.toArray⟩:ByteArray).data.toList=n from rfl,hn] at hnm;obtain ⟨x0,x1,x2,x3,x4,x5⟩:=X0.cells
 have p1:decide ((262144:Int)<((own.length:Nat):Int)+((more.length:Nat):Int))=false:=by rw [decide_eq_false_iff_not]; omega
 have ol:own.length<=262144:=by omega
 have ml:more.length<=262144:=by omega
 have hat:Calls Tryz.prog 176 #[rv ao L c d,tx n] W λ e w'=>∃ r,e=.returned (.int .i64 r)/\((0<=r/\r<1000)∨(r = -1/\L<32))/\Below W.heap.size W w':=by
  cases e:fget d.files n with
  | none =>
   refine (at_none (c:=c) d n W (hR.below B0) hL (by have:=hk.few; omega) e).mono ?_;rintro _ w' ⟨rfl,hb⟩;exact ⟨-1,rfl,.inr ⟨rfl,hroom.elim (λ q=>absurd e q) id⟩,hb⟩
  | some v =>
   refine (at_some (c:=c) d n W (hR.below B0) hL (by have:=hk.few; omega) e).mono ?_;rintro _ w' ⟨i,rfl,hi,_,hb⟩;exact ⟨i,rfl,.inl ⟨by omega,by have:=hk.few; omega⟩,hb⟩
 have H:Hid ((∀ i,S i->i<w.heap.size)/\RdG encF w ao d.files/\d.files.length=L/\d.ok/\Below w.heap.size w W/\Six W w.heap.size (.slice ao L c) (.int .i64 (d.writes:Int)) (.bool d.armed) (.bool d.dead) (.int .i64 (d.after:Int)) (.int .i64 (d.keep:Int))/\Six W (w.heap.size+1) (.slice none 0 0) (.int .i64 0) (.bool false) (.bool false) (.int .i64 0) (.int .i64 0)):=⟨hS,hR,hL,hk,B0,X0,Y0⟩
 have hl32:L<=32:=by have:=hk.few; omega
 clear hS hR hL B0 X0 Y0 hroom;have Z:Hid _:=And.intro hdo hto;clear hdo hto
 obtain ⟨K,hK⟩:∃ K,d.keep=K:=⟨_,rfl⟩
 obtain ⟨mr,hmr⟩:∃ mr,more.take d.keep=mr:=⟨_,rfl⟩
 rw [hK] at hkm
 have MR:Hid (more.take K=mr):=by rw [<- hK]; exact hmr
 have HK:Hid (d.keep=K):=hK;clear hK hmr;go_enter Tryz.func135,Tryz.ntmps135;go_wp2_with fail;refine hnm.mono ?_;rintro e w1 ⟨rfl,hw1⟩;rw [hw1];clear hw1 w1 hnm;go_wp2_with fail;refine hat.mono ?_;rintro e w1 ⟨r,rfl,hr,B1⟩;have HB1:Hid (Below W.heap.size W w1):=B1;clear B1 hat x0 x1 x2 x3 x4 x5;obtain ⟨x0,x1,x2,x3,x4,x5⟩:=(H.out.2.2.2.2.2.1.below HB1.out).cells;have hnx:=rnext_any (ao:=ao) (L:=L) (c:=c) (w:=w1) H.out.2.2.2.1.after hw;rw [Z.out.1,Z.out.2] at hnx
 obtain ⟨D,hD⟩:∃ D,(dnext d).1=D:=⟨_,rfl⟩
 rw [hD] at hnx
 have pp:(decide (r<0)&&decide ((32:Int)<=(L:Int)))=false:=by
  rcases hr with ⟨r0,r1⟩ | ⟨rfl,rL⟩
  ·rw [decide_eq_false (p:=r<0) (by omega)]; rfl
  ·rw [decide_eq_false (p:=(32:Int)<=(L:Int)) (by omega)]; simp
 rcases hr with ⟨r0,r1⟩ | ⟨rfl,rL⟩
 all_goals
  first
   | have p2:decide (r<0)=false:=by rw [decide_eq_false_iff_not]; omega
   | have p2:decide ((32:Int)<=(L:Int))=false:=by rw [decide_eq_false_iff_not]; omega
  go_wp2_with fail;refine hnx.mono ?_;rintro e w2 ⟨rfl,B2⟩;have HB2:Hid (Below w1.heap.size w1 w2):=B2;clear B2;have x5':=(H.out.2.2.2.2.2.1.below HB1.out |>.below HB2.out).cells.2.2.2.2.2;rw [HK.out] at x5';have x5a:=(((H.out.2.2.2.2.2.1.below HB1.out).below HB2.out).below (bz1 w2 (.cells #[.slice ao L c,.int .i64 (D.writes:Int),.bool D.armed,.bool D.dead,.int .i64 (D.after:Int),.int .i64 (D.keep:Int)] 28))).cells.2.2.2.2.2;rw [HK.out] at x5a
  have p3:decide ((K:Int)<((more.length:Nat):Int))=false:=by rw [decide_eq_false_iff_not]; omega
  go_wp2_with fail;have hwi:=kwith_any (ao:=ao) (L:=L) (c:=c) d.files n (own++mr) (w2.alloc (.cells #[.slice ao L c,.int .i64 (D.writes:Int),.bool D.armed,.bool D.dead,.int .i64 (D.after:Int),.int .i64 (D.keep:Int)] 28)) ((((H.out.2.1.below H.out.2.2.2.2.1).below HB1.out).below HB2.out).below (bz1 _ _)) H.out.2.2.1 (by omega) H.out.2.2.2.1.rise;rw [<- tx_cat] at hwi
  have hex:(⟨mr.toArray⟩:ByteArray)=(⟨more.toArray⟩:ByteArray):=by rw [<- MR.out,List.take_of_length_le (by omega)]
  rw [hex] at hwi;refine hwi.mono ?_;rintro e w3 ⟨v3,rfl,O3,B3⟩;obtain ⟨y0,y1,y2,y3,y4,y5⟩:=((((H.out.2.2.2.2.2.2.below HB1.out).below HB2.out).below (bz1 _ _)).below B3).cells;obtain ⟨f0,f1,f2,f3,f4,f5⟩:=((((H.out.2.2.2.2.2.2.below HB1.out).below HB2.out).below (bz1 _ _)).below B3).thaw;obtain ⟨z0,z1,z2,z3,z4,z5⟩:=((Six.new w2 (.slice ao L c) (.int .i64 (D.writes:Int)) (.bool D.armed) (.bool D.dead) (.int .i64 (D.after:Int)) (.int .i64 (D.keep:Int))).below B3).cells;have g0:=((Six.new w2 (.slice ao L c) (.int .i64 (D.writes:Int)) (.bool D.armed) (.bool D.dead) (.int .i64 (D.after:Int)) (.int .i64 (D.keep:Int))).below B3).thaw.1;have s2:w.heap.size+1<w2.heap.size:=((H.out.2.2.2.2.2.2.below HB1.out).below HB2.out).lt
  have ne:w2.heap.size≠w.heap.size+1:=by omega
  have ne':w.heap.size+1≠w2.heap.size:=by omega
  obtain ⟨a3,c3,rfl,hc3,R3,F3⟩:=own_files O3
  have HB3:Hid ((fwith d.files n (own++mr)).length<=c3/\RdG encF w3 a3 (fwith d.files n (own++mr))/\(0<(fwith d.files n (own++mr)).length->∀ p,a3=some p->w2.heap.size<p.block)/\Below w.heap.size w w3):=⟨hc3,R3,λ h0 p hp=>by have:=F3 h0 p hp; simp at this; omega,by
   have b1:=H.out.2.2.2.2.1.trans (HB1.out.mono H.out.2.2.2.2.1.size);have b2:=b1.trans (HB2.out.mono b1.size);have b3:=b2.trans ((bz1 w2 (.cells #[.slice ao L c,.int .i64 (D.writes:Int),.bool D.armed,.bool D.dead,.int .i64 (D.after:Int),.int .i64 (D.keep:Int)] 28)).mono b2.size)
   exact b3.trans (B3.mono b3.size)⟩
  obtain ⟨M,hM⟩:∃ M,(fwith d.files n (own++mr)).length=M:=⟨_,rfl⟩
  rw [hM];clear hc3 R3 F3;clear O3 B3 hwi;go_wp2;have CL:=close_at HB3.out.2.2.2 (b1:=w2.heap.size) (b2:=w.heap.size+1) (by omega) (by omega) (.slice a3 M c3) (.slice a3 M c3) (.int .i64 (D.writes:Int)) (.bool D.armed) (.bool D.dead) (.int .i64 (D.after:Int)) (.int .i64 (D.keep:Int));have RR:RVS S _ (rv a3 M c3 { D with files:=fwith d.files n (own++mr) }) { D with files:=fwith d.files n (own++mr) }:=RVS.close H.out.1 (by omega) hM (by have:=HB3.out.1; rw [hM] at this; exact this) HB3.out.2.1 (by rw [<- hM]; exact HB3.out.2.2.1) (by omega) CL.2;rw [hD,HK.out,MR.out];refine bodyPost_ret (v:=.tuple #[rv a3 M c3 { D with files:=fwith d.files n (own++mr) },.int .i64 8]) ?_ rfl ⟨_,rfl,RR,CL.1⟩;simp [results,Tryz.f135];go_simp
end
end Go.Proofs.YtjlokpjflgbgdaaGreat
