/-
  Several texts, laid together.
-/
import Derived.Test.YtmhcpbbiokpjjaaGreatM13
set_option maxHeartbeats 6400000
set_option maxRecDepth 100000
namespace Go.Proofs.YtmhcpbbiokpjjaaGreat
open Go.RowKit
section
variable {ao:Option Addr} {L c:Nat} {d:Dk} {w:World}
theorem Zet (hd:d.dead=true):Calls Tryz.prog 175 #[rv ao L c d] w λ e w'=>e=.returned (.tuple #[rv ao L c d,.bool false,.bool false])/\Below w.heap.size w w':=by
 unfold rv;rw [hd];go_enter Tryz.func175,Tryz.ntmps175;go_wp2;refine bodyPost_ret (v:=.tuple #[.agg #[.slice ao L c,.int .i64 (d.writes:Int),.bool d.armed,.bool true,.int .i64 (d.after:Int),.int .i64 (d.keep:Int)],.bool false,.bool false]) ?_ rfl ⟨rfl,bz2 _ _ _⟩;simp [results,Tryz.f175];go_simp
theorem Ziy (hd:d.dead=false) (ha:d.armed=true) (h0:d.after=0):Calls Tryz.prog 175 #[rv ao L c d] w λ e w'=>e=.returned (.tuple #[rv ao L c { d with dead:=true,armed:=false },.bool false,.bool true])/\Below w.heap.size w w':=by
 unfold rv;rw [hd,ha,h0];go_enter Tryz.func175,Tryz.ntmps175;go_wp2;refine bodyPost_ret (v:=.tuple #[.agg #[.slice ao L c,.int .i64 (d.writes:Int),.bool false,.bool true,.int .i64 0,.int .i64 (d.keep:Int)],.bool false,.bool true]) ?_ rfl ⟨rfl,bz2 _ _ _⟩;simp [results,Tryz.f175];go_simp
theorem ZgO (hd:d.dead=false) (ha:d.armed=true) (h0:d.after≠0) (hb:d.after<9223372036854775808) (hw:d.writes<4611686018427387904):Calls Tryz.prog 175 #[rv ao L c d] w λ e w'=>e=.returned (.tuple #[rv ao L c { d with after:=d.after - 1,writes:=d.writes+1 },.bool true,.bool false])/\Below w.heap.size w w':=by
 unfold rv
 obtain ⟨n,hn⟩:∃ n,d.after=n+1:=⟨d.after - 1,by omega⟩
 obtain ⟨q,hq⟩:∃ q,d.writes=q:=⟨_,rfl⟩
 have e1:((d.after - 1:Nat):Int)=(n:Int):=by omega
 show Calls Tryz.prog 175 _ w λ e w'=>e=.returned (.tuple #[.agg #[.slice ao L c,.int .i64 ((d.writes+1:Nat):Int),.bool d.armed,.bool d.dead,.int .i64 ((d.after - 1:Nat):Int),.int .i64 (d.keep:Int)],.bool true,.bool false])/\Below w.heap.size w w'
 rw [hd,ha,e1,hn,hq];rw [hq] at hw
 have hn1:n<9223372036854775807:=by omega
 clear e1 h0 hb hn
 have z:(((n+1:Nat):Int)==0)=false:=by simp; omega
 go_enter Tryz.func175,Tryz.ntmps175;go_wp2;refine bodyPost_ret (v:=.tuple #[.agg #[.slice ao L c,.int .i64 ((q:Int)+1),.bool true,.bool false,.int .i64 (n:Int),.int .i64 (d.keep:Int)],.bool true,.bool false]) ?_ rfl ⟨rfl,bz2 _ _ _⟩;simp [results,Tryz.f175];go_simp
theorem Zgs (hd:d.dead=false) (ha:d.armed=false) (hw:d.writes<4611686018427387904):Calls Tryz.prog 175 #[rv ao L c d] w λ e w'=>e=.returned (.tuple #[rv ao L c { d with writes:=d.writes+1 },.bool true,.bool false])/\Below w.heap.size w w':=by
 unfold rv
 obtain ⟨q,hq⟩:∃ q,d.writes=q:=⟨_,rfl⟩
 show Calls Tryz.prog 175 _ w λ e w'=>e=.returned (.tuple #[.agg #[.slice ao L c,.int .i64 ((d.writes+1:Nat):Int),.bool d.armed,.bool d.dead,.int .i64 (d.after:Int),.int .i64 (d.keep:Int)],.bool true,.bool false])/\Below w.heap.size w w'
 rw [hd,ha,hq];rw [hq] at hw;go_enter Tryz.func175,Tryz.ntmps175;go_wp2;refine bodyPost_ret (v:=.tuple #[.agg #[.slice ao L c,.int .i64 ((q:Int)+1),.bool false,.bool false,.int .i64 (d.after:Int),.int .i64 (d.keep:Int)],.bool true,.bool false]) ?_ rfl ⟨rfl,bz2 _ _ _⟩;simp [results,Tryz.f175];go_simp
theorem ZbP (hb:d.after<9223372036854775808) (hw:d.writes<4611686018427387904) :
  Calls Tryz.prog 175 #[rv ao L c d] w λ e w'=>e=.returned (.tuple #[rv ao L c (dnext d).1,.bool (dnext d).2.1,.bool (dnext d).2.2])/\Below w.heap.size w w':=by
 by_cases hd:d.dead=true
 ·rw [Zb6 hd]; exact Zet hd
 ·have hd:d.dead=false:=by simpa using hd
  by_cases ha:d.armed=true
  ·by_cases h0:d.after=0
   ·rw [Zbu hd ha h0]; exact Ziy hd ha h0
   ·rw [Zby hd ha h0]; exact ZgO hd ha h0 hb hw
  ·have ha:d.armed=false:=by simpa using ha
   rw [ZbB hd ha]; exact Zgs hd ha hw
theorem Zc1:Calls Tryz.prog 55 #[rv ao L c d] w λ e w'=>e=.returned (rv ao L c (dres d))/\Below w.heap.size w w':=by
 unfold rv;go_enter Tryz.func55,Tryz.ntmps55;go_wp2;refine bodyPost_ret (v:=.agg #[.slice ao L c,.int .i64 (d.writes:Int),.bool false,.bool false,.int .i64 (d.after:Int),.int .i64 (d.keep:Int)]) ?_ rfl ⟨rfl,bz2 _ _ _⟩;simp [results,Tryz.f55];go_simp
theorem Zlx {x y:Int} (hn:x<0∨y<0):Calls Tryz.prog 53 #[rv ao L c d,.int .i64 x,.int .i64 y] w λ e w'=>e=.returned (.tuple #[rv ao L c d,.int .i64 3])/\Below w.heap.size w w':=by
 unfold rv;by_cases h1:x<0
 ·have p:decide (x<0)=true:=by simpa using h1
  go_enter Tryz.func53,Tryz.ntmps53;go_wp2;refine bodyPost_ret (v:=.tuple #[.agg #[.slice ao L c,.int .i64 (d.writes:Int),.bool d.armed,.bool d.dead,.int .i64 (d.after:Int),.int .i64 (d.keep:Int)],.int .i64 3]) ?_ rfl ⟨rfl,bz2 _ _ _⟩;simp [results,Tryz.f53];go_simp
 ·have p:decide (x<0)=false:=by simpa using h1
  have p2:decide (y<0)=true:=by rw [decide_eq_true_eq]; omega
  go_enter Tryz.func53,Tryz.ntmps53;go_wp2;refine bodyPost_ret (v:=.tuple #[.agg #[.slice ao L c,.int .i64 (d.writes:Int),.bool d.armed,.bool d.dead,.int .i64 (d.after:Int),.int .i64 (d.keep:Int)],.int .i64 3]) ?_ rfl ⟨rfl,bz2 _ _ _⟩;simp [results,Tryz.f53];go_simp
theorem ZiW {x y:Int} (h1:0<=x) (h2:0<=y) (hd:d.dead=true):Calls Tryz.prog 53 #[rv ao L c d,.int .i64 x,.int .i64 y] w λ e w'=>e=.returned (.tuple #[rv ao L c d,.int .i64 8])/\Below w.heap.size w w':=by
 unfold rv;rw [hd]
 have p:decide (x<0)=false:=by simpa using h1
 have p2:decide (y<0)=false:=by simpa using h2
 go_enter Tryz.func53,Tryz.ntmps53;go_wp2;refine bodyPost_ret (v:=.tuple #[.agg #[.slice ao L c,.int .i64 (d.writes:Int),.bool d.armed,.bool true,.int .i64 (d.after:Int),.int .i64 (d.keep:Int)],.int .i64 8]) ?_ rfl ⟨rfl,bz2 _ _ _⟩;simp [results,Tryz.f53];go_simp
theorem Znk {x y:Nat} (hd:d.dead=false):Calls Tryz.prog 53 #[rv ao L c d,.int .i64 (x:Int),.int .i64 (y:Int)] w λ e w'=>e=.returned (.tuple #[rv ao L c { d with armed:=true,after:=x,keep:=y },.int .i64 0])/\Below w.heap.size w w':=by
 unfold rv
 show Calls Tryz.prog 53 _ w λ e w'=>e=.returned (.tuple #[.agg #[.slice ao L c,.int .i64 (d.writes:Int),.bool true,.bool d.dead,.int .i64 (x:Int),.int .i64 (y:Int)],.int .i64 0])/\Below w.heap.size w w'
 rw [hd]
 have p:decide ((x:Int)<0)=false:=by rw [decide_eq_false_iff_not]; omega
 have p2:decide ((y:Int)<0)=false:=by rw [decide_eq_false_iff_not]; omega
 go_enter Tryz.func53,Tryz.ntmps53;go_wp2;refine bodyPost_ret (v:=.tuple #[.agg #[.slice ao L c,.int .i64 (d.writes:Int),.bool true,.bool false,.int .i64 (x:Int),.int .i64 (y:Int)],.int .i64 0]) ?_ rfl ⟨rfl,bz2 _ _ _⟩;simp [results,Tryz.f53];go_simp
theorem Zjj (x y:Int):Calls Tryz.prog 53 #[rv ao L c d,.int .i64 x,.int .i64 y] w λ e w'=>e=.returned (.tuple #[rv ao L c (dcut d x y).1,.int .i64 (dcut d x y).2])/\Below w.heap.size w w':=by
 unfold dcut;by_cases hn:x<0∨y<0
 ·rw [if_pos hn]; exact Zlx hn
 ·rw [if_neg hn]
  obtain ⟨p,rfl⟩:∃ p:Nat,x=(p:Int):=⟨x.toNat,by omega⟩
  obtain ⟨q,rfl⟩:∃ q:Nat,y=(q:Int):=⟨y.toNat,by omega⟩
  by_cases hd:d.dead=true
  ·rw [if_pos hd]; exact ZiW (by omega) (by omega) hd
  ·rw [if_neg hd];simp only [Int.toNat_natCast];exact Znk (by simpa using hd)
end
def Six (w:World) (B:Nat) (a0 a1 a2 a3 a4 a5:Value):Prop:=w.heap[B]? = some (.cells #[a0,a1,a2,a3,a4,a5] 28 (0,0))
section
variable {w w':World} {B:Nat} {a0 a1 a2 a3 a4 a5:Value}
theorem Six.lt (h:Six w B a0 a1 a2 a3 a4 a5):B<w.heap.size:=(Array.getElem?_eq_some_iff.1 h).1
theorem Six.below (h:Six w B a0 a1 a2 a3 a4 a5) (hb:Below w.heap.size w w'):Six w' B a0 a1 a2 a3 a4 a5:=(hb.block B h.lt).trans h
theorem Six.cells (h:Six w B a0 a1 a2 a3 a4 a5):w.cell? ⟨B,0,none⟩=some a0/\w.cell? ⟨B,1,none⟩=some a1/\w.cell? ⟨B,2,none⟩=some a2/\w.cell? ⟨B,3,none⟩=some a3/\w.cell? ⟨B,4,none⟩=some a4/\w.cell? ⟨B,5,none⟩=some a5:=by
 unfold Six at h;simp [World.cell?,h]
theorem Six.thaw (h:Six w B a0 a1 a2 a3 a4 a5):w.frozen? ⟨B,0,none⟩=false/\w.frozen? ⟨B,1,none⟩=false/\w.frozen? ⟨B,2,none⟩=false/\w.frozen? ⟨B,3,none⟩=false/\w.frozen? ⟨B,4,none⟩=false/\w.frozen? ⟨B,5,none⟩=false:=by
 unfold Six at h;simp [World.frozen?,h]
theorem Six.new (w:World) (a0 a1 a2 a3 a4 a5:Value):Six (w.alloc (.cells #[a0,a1,a2,a3,a4,a5] 28)) w.heap.size a0 a1 a2 a3 a4 a5:=heap_alloc_new w _
end
def RVS (S:Nat->Prop) (w:World) (v:Value) (d:Dk):Prop:=∃ ao L c,v=rv ao L c d/\d.files.length=L/\L<=c/\RdG encF w ao d.files/\(0<L->∀ p,ao=some p->¬ S p.block)
theorem Zcv {w w':World} {v:Value} {fs:Fs} (h:OwnG encF 127 w' w.heap.size v fs):∃ ao c,v=.slice ao fs.length c/\fs.length<=c/\RdG encF w' ao fs/\(0<fs.length->∀ p,ao=some p->w.heap.size<=p.block):=by
 obtain ⟨ao,c,e,h1,h2,h3,h4⟩:=OwnG.form h;refine ⟨ao,c,e,h1,h3,λ h0 p hp=>?_⟩;obtain ⟨g,eg⟩:=h4 h0;rw [hp] at eg;cases eg;exact (h.lt g (by rw [e,hp]; rfl)).1
theorem Zdk {w w3:World} {b1 b2:Nat} (hb:Below w.heap.size w w3) (h1:w.heap.size<=b1) (h2:w.heap.size<=b2) (u v0 v1 v2 v3 v4 v5:Value) :
  Below w.heap.size w (((((((w3.setCell ⟨b1,0,none⟩ u).setCell ⟨b2,0,none⟩ v0).setCell ⟨b2,1,none⟩ v1).setCell ⟨b2,2,none⟩ v2).setCell ⟨b2,3,none⟩ v3).setCell ⟨b2,4,none⟩ v4).setCell ⟨b2,5,none⟩ v5) /\
  Zaa (λ i=>i=b1∨i=b2) w3 (((((((w3.setCell ⟨b1,0,none⟩ u).setCell ⟨b2,0,none⟩ v0).setCell ⟨b2,1,none⟩ v1).setCell ⟨b2,2,none⟩ v2).setCell ⟨b2,3,none⟩ v3).setCell ⟨b2,4,none⟩ v4).setCell ⟨b2,5,none⟩ v5):=by
 have t:Zaa (λ i=>i=b1∨i=b2) w3 (((((((w3.setCell ⟨b1,0,none⟩ u).setCell ⟨b2,0,none⟩ v0).setCell ⟨b2,1,none⟩ v1).setCell ⟨b2,2,none⟩ v2).setCell ⟨b2,3,none⟩ v3).setCell ⟨b2,4,none⟩ v4).setCell ⟨b2,5,none⟩ v5) :=
  ((((((((Zaa.refl (λ i=>i=b1∨i=b2) w3).setCell (p:=⟨b1,0,none⟩) (.inl (.inl rfl)) u).setCell (p:=⟨b2,0,none⟩) (.inl (.inr rfl)) v0).setCell (p:=⟨b2,1,none⟩) (.inl (.inr rfl)) v1).setCell (p:=⟨b2,2,none⟩) (.inl (.inr rfl)) v2).setCell (p:=⟨b2,3,none⟩) (.inl (.inr rfl)) v3).setCell (p:=⟨b2,4,none⟩) (.inl (.inr rfl)) v4).setCell (p:=⟨b2,5,none⟩) (.inl (.inr rfl)) v5)
 exact ⟨hb.trans (t.below hb.size (λ i hi q=>by rcases q with q | q <;> omega)),t⟩
theorem RVS.close {S:Nat->Prop} {w w3 w4:World} {a3:Option Addr} {M c3 b1 b2:Nat} {d:Dk} (hS:∀ i,S i->i<w.heap.size) (h1:w.heap.size<=b1) (hM:d.files.length=M) (hc:M<=c3) (hR:RdG encF w3 a3 d.files) (hF:0<M->∀ p,a3=some p->b1<p.block) (h2:b2<=b1) (ht:Zaa (λ i=>i=b1∨i=b2) w3 w4):RVS S w4 (rv a3 M c3 d) d :=
 ⟨a3,M,c3,rfl,hM,hc,hR.turned ht (λ h0 p hp q=>by have:=hF (by omega) p hp; rcases q with q | q <;> omega),λ h0 p hp q=>by have:=hF h0 p hp; have:=hS _ q; omega⟩
section
variable {S:Nat->Prop} {ao:Option Addr} {L c:Nat} {d:Dk} {w:World}
theorem ZjT (hS:∀ i,S i->i<w.heap.size) (hR:RdG encF w ao d.files) (hL:d.files.length=L) (hk:d.ok) (hw:d.writes<4611686018427387904) (n own more:Bs) (hn:isName n=true) (hnl:n.length<=140737488355328)
  (hsum:own.length+more.length<=262144) (hroom:fget d.files n≠none∨L<32) (hdo:(dnext d).2.1=true) (hto:(dnext d).2.2=false) :
  Calls Tryz.prog 130 #[rv ao L c d,tx n,tx own,tx more] w λ e w'=>∃ v',e=.returned (.tuple #[v',.int .i64 0])/\RVS S w' v' { (dnext d).1 with files:=fwith d.files n (own++more) }/\Below w.heap.size w w':=by
 obtain ⟨W,hW⟩:∃ W,(w.alloc (.cells #[.slice ao L c,.int .i64 (d.writes:Int),.bool d.armed,.bool d.dead,.int .i64 (d.after:Int),.int .i64 (d.keep:Int)] 28)).alloc (.cells #[.slice none 0 0,.int .i64 0,.bool false,.bool false,.int .i64 0,.int .i64 0] 28)=W:=⟨_,rfl⟩
 have B0:Below w.heap.size w W:=by rw [<- hW]; exact bz2 _ _ _
 have X0:Six W w.heap.size (.slice ao L c) (.int .i64 (d.writes:Int)) (.bool d.armed) (.bool d.dead) (.int .i64 (d.after:Int)) (.int .i64 (d.keep:Int)):=by rw [<- hW]; exact (Six.new w _ _ _ _ _ _).below (bz1 _ _)
 have Y0:Six W (w.heap.size+1) (.slice none 0 0) (.int .i64 0) (.bool false) (.bool false) (.int .i64 0) (.int .i64 0):=by
  rw [<- hW];have:=Six.new (w.alloc (.cells #[.slice ao L c,.int .i64 (d.writes:Int),.bool d.armed,.bool d.dead,.int .i64 (d.after:Int),.int .i64 (d.keep:Int)] 28)) (.slice none 0 0) (.int .i64 0) (.bool false) (.bool false) (.int .i64 0) (.int .i64 0);rw [show (w.alloc (.cells #[.slice ao L c,.int .i64 (d.writes:Int),.bool d.armed,.bool d.dead,.int .i64 (d.after:Int),.int .i64 (d.keep:Int)] 28)).heap.size=w.heap.size+1 by simp] at this;exact this
 have hnm:=Zap ⟨n.toArray⟩ (by rw [Zaw]; omega) W;rw [show (⟨n.toArray⟩:ByteArray).data.toList=n from rfl,hn] at hnm;obtain ⟨x0,x1,x2,x3,x4,x5⟩:=X0.cells
 have p1:decide ((262144:Int)<((own.length:Nat):Int)+((more.length:Nat):Int))=false:=by rw [decide_eq_false_iff_not]; omega
 have ol:own.length<=262144:=by omega
 have ml:more.length<=262144:=by omega
 have hat:Calls Tryz.prog 170 #[rv ao L c d,tx n] W λ e w'=>∃ r,e=.returned (.int .i64 r)/\((0<=r/\r<1000)∨(r = -1/\L<32))/\Below W.heap.size W w':=by
  cases e:fget d.files n with
  | none =>
   refine (Zce (c:=c) d n W (hR.below B0) hL (by have:=hk.few; omega) e).mono ?_;rintro _ w' ⟨rfl,hb⟩;exact ⟨-1,rfl,.inr ⟨rfl,hroom.elim (λ q=>absurd e q) id⟩,hb⟩
  | some v =>
   refine (ZbD (c:=c) d n W (hR.below B0) hL (by have:=hk.few; omega) e).mono ?_;rintro _ w' ⟨i,rfl,hi,_,hb⟩;exact ⟨i,rfl,.inl ⟨by omega,by have:=hk.few; omega⟩,hb⟩
 have H:Hid ((∀ i,S i->i<w.heap.size)/\RdG encF w ao d.files/\d.files.length=L/\d.ok/\Below w.heap.size w W/\Six W w.heap.size (.slice ao L c) (.int .i64 (d.writes:Int)) (.bool d.armed) (.bool d.dead) (.int .i64 (d.after:Int)) (.int .i64 (d.keep:Int))/\Six W (w.heap.size+1) (.slice none 0 0) (.int .i64 0) (.bool false) (.bool false) (.int .i64 0) (.int .i64 0)):=⟨hS,hR,hL,hk,B0,X0,Y0⟩
 have hl32:L<=32:=by have:=hk.few; omega
 clear hS hR hL B0 X0 Y0 hroom;have Z:Hid _:=And.intro hdo hto;clear hdo hto;go_enter Tryz.func130,Tryz.ntmps130;go_wp2_with fail;refine hnm.mono ?_;rintro e w1 ⟨rfl,hw1⟩;rw [hw1];clear hw1 w1 hnm;go_wp2_with fail;refine hat.mono ?_;rintro e w1 ⟨r,rfl,hr,B1⟩;have HB1:Hid (Below W.heap.size W w1):=B1;clear B1 hat x0 x1 x2 x3 x4 x5;obtain ⟨x0,x1,x2,x3,x4,x5⟩:=(H.out.2.2.2.2.2.1.below HB1.out).cells;have hnx:=ZbP (ao:=ao) (L:=L) (c:=c) (w:=w1) H.out.2.2.2.1.after hw;rw [Z.out.1,Z.out.2] at hnx
 obtain ⟨D,hD⟩:∃ D,(dnext d).1=D:=⟨_,rfl⟩
 rw [hD] at hnx
 have pp:(decide (r<0)&&decide ((32:Int)<=(L:Int)))=false:=by
  rcases hr with ⟨r0,r1⟩ | ⟨rfl,rL⟩
  ·rw [decide_eq_false (p:=r<0) (by omega)]; rfl
  ·rw [decide_eq_false (p:=(32:Int)<=(L:Int)) (by omega)]; simp
 rcases hr with ⟨r0,r1⟩ | ⟨rfl,rL⟩
 all_goals
  first
   | have p2:decide (r<0)=false:=by rw [decide_eq_false_iff_not]; omega
   | have p2:decide ((32:Int)<=(L:Int))=false:=by rw [decide_eq_false_iff_not]; omega
  go_wp2_with fail;refine hnx.mono ?_;rintro e w2 ⟨rfl,B2⟩;have HB2:Hid (Below w1.heap.size w1 w2):=B2;clear B2;go_wp2_with fail
 all_goals
  have hwi:=Zcn (ao:=ao) (L:=L) (c:=c) d.files n (own++more) (w2.alloc (.cells #[.slice ao L c,.int .i64 (D.writes:Int),.bool D.armed,.bool D.dead,.int .i64 (D.after:Int),.int .i64 (D.keep:Int)] 28)) ((((H.out.2.1.below H.out.2.2.2.2.1).below HB1.out).below HB2.out).below (bz1 _ _)) H.out.2.2.1 (by omega) H.out.2.2.2.1.rise;rw [<- ZjP] at hwi;refine hwi.mono ?_;rintro e w3 ⟨v3,rfl,O3,B3⟩;obtain ⟨y0,y1,y2,y3,y4,y5⟩:=((((H.out.2.2.2.2.2.2.below HB1.out).below HB2.out).below (bz1 _ _)).below B3).cells;obtain ⟨f0,f1,f2,f3,f4,f5⟩:=((((H.out.2.2.2.2.2.2.below HB1.out).below HB2.out).below (bz1 _ _)).below B3).thaw;obtain ⟨z0,z1,z2,z3,z4,z5⟩:=((Six.new w2 (.slice ao L c) (.int .i64 (D.writes:Int)) (.bool D.armed) (.bool D.dead) (.int .i64 (D.after:Int)) (.int .i64 (D.keep:Int))).below B3).cells;have g0:=((Six.new w2 (.slice ao L c) (.int .i64 (D.writes:Int)) (.bool D.armed) (.bool D.dead) (.int .i64 (D.after:Int)) (.int .i64 (D.keep:Int))).below B3).thaw.1;have s2:w.heap.size+1<w2.heap.size:=((H.out.2.2.2.2.2.2.below HB1.out).below HB2.out).lt
  have ne:w2.heap.size≠w.heap.size+1:=by omega
  have ne':w.heap.size+1≠w2.heap.size:=by omega
  obtain ⟨a3,c3,rfl,hc3,R3,F3⟩:=Zcv O3
  have HB3:Hid ((fwith d.files n (own++more)).length<=c3/\RdG encF w3 a3 (fwith d.files n (own++more))/\(0<(fwith d.files n (own++more)).length->∀ p,a3=some p->w2.heap.size<p.block)/\Below w.heap.size w w3):=⟨hc3,R3,λ h0 p hp=>by have:=F3 h0 p hp; simp at this; omega,by
   have b1:=H.out.2.2.2.2.1.trans (HB1.out.mono H.out.2.2.2.2.1.size);have b2:=b1.trans (HB2.out.mono b1.size);have b3:=b2.trans ((bz1 w2 (.cells #[.slice ao L c,.int .i64 (D.writes:Int),.bool D.armed,.bool D.dead,.int .i64 (D.after:Int),.int .i64 (D.keep:Int)] 28)).mono b2.size)
   exact b3.trans (B3.mono b3.size)⟩
  obtain ⟨M,hM⟩:∃ M,(fwith d.files n (own++more)).length=M:=⟨_,rfl⟩
  rw [hM];clear hc3 R3 F3;clear O3 B3 hwi;go_wp2
 all_goals
  have CL:=Zdk HB3.out.2.2.2 (b1:=w2.heap.size) (b2:=w.heap.size+1) (by omega) (by omega) (.slice a3 M c3) (.slice a3 M c3) (.int .i64 (D.writes:Int)) (.bool D.armed) (.bool D.dead) (.int .i64 (D.after:Int)) (.int .i64 (D.keep:Int));have RR:RVS S _ (rv a3 M c3 { D with files:=fwith d.files n (own++more) }) { D with files:=fwith d.files n (own++more) }:=RVS.close H.out.1 (by omega) hM (by have:=HB3.out.1; rw [hM] at this; exact this) HB3.out.2.1 (by rw [<- hM]; exact HB3.out.2.2.1) (by omega) CL.2;rw [hD];refine bodyPost_ret (v:=.tuple #[rv a3 M c3 { D with files:=fwith d.files n (own++more) },.int .i64 0]) ?_ rfl ⟨_,rfl,RR,CL.1⟩;simp [results,Tryz.f130];go_simp
theorem ZiI (hS:∀ i,S i->i<w.heap.size) (hR:RdG encF w ao d.files) (hL:d.files.length=L) (hk:d.ok) (hw:d.writes<4611686018427387904) (n own more:Bs) (hn:isName n=true) (hnl:n.length<=140737488355328)
  (hsum:own.length+more.length<=262144) (hroom:fget d.files n≠none∨L<32) (hdo:(dnext d).2.1=false) (hto:(dnext d).2.2=true) (hkm:d.keep<more.length) :
  Calls Tryz.prog 130 #[rv ao L c d,tx n,tx own,tx more] w λ e w'=>∃ v',e=.returned (.tuple #[v',.int .i64 8])/\RVS S w' v' { (dnext d).1 with files:=fwith d.files n (own++more.take d.keep) }/\Below w.heap.size w w':=by
 obtain ⟨W,hW⟩:∃ W,(w.alloc (.cells #[.slice ao L c,.int .i64 (d.writes:Int),.bool d.armed,.bool d.dead,.int .i64 (d.after:Int),.int .i64 (d.keep:Int)] 28)).alloc (.cells #[.slice none 0 0,.int .i64 0,.bool false,.bool false,.int .i64 0,.int .i64 0] 28)=W:=⟨_,rfl⟩
 have B0:Below w.heap.size w W:=by rw [<- hW]; exact bz2 _ _ _
 have X0:Six W w.heap.size (.slice ao L c) (.int .i64 (d.writes:Int)) (.bool d.armed) (.bool d.dead) (.int .i64 (d.after:Int)) (.int .i64 (d.keep:Int)):=by rw [<- hW]; exact (Six.new w _ _ _ _ _ _).below (bz1 _ _)
 have Y0:Six W (w.heap.size+1) (.slice none 0 0) (.int .i64 0) (.bool false) (.bool false) (.int .i64 0) (.int .i64 0):=by
  rw [<- hW];have:=Six.new (w.alloc (.cells #[.slice ao L c,.int .i64 (d.writes:Int),.bool d.armed,.bool d.dead,.int .i64 (d.after:Int),.int .i64 (d.keep:Int)] 28)) (.slice none 0 0) (.int .i64 0) (.bool false) (.bool false) (.int .i64 0) (.int .i64 0);rw [show (w.alloc (.cells #[.slice ao L c,.int .i64 (d.writes:Int),.bool d.armed,.bool d.dead,.int .i64 (d.after:Int),.int .i64 (d.keep:Int)] 28)).heap.size=w.heap.size+1 by simp] at this;exact this
 have hnm:=Zap ⟨n.toArray⟩ (by rw [Zaw]; omega) W;rw [show (⟨n.toArray⟩:ByteArray).data.toList=n from rfl,hn] at hnm;obtain ⟨x0,x1,x2,x3,x4,x5⟩:=X0.cells
 have p1:decide ((262144:Int)<((own.length:Nat):Int)+((more.length:Nat):Int))=false:=by rw [decide_eq_false_iff_not]; omega
 have ol:own.length<=262144:=by omega
 have ml:more.length<=262144:=by omega
 have hat:Calls Tryz.prog 170 #[rv ao L c d,tx n] W λ e w'=>∃ r,e=.returned (.int .i64 r)/\((0<=r/\r<1000)∨(r = -1/\L<32))/\Below W.heap.size W w':=by
  cases e:fget d.files n with
  | none =>
   refine (Zce (c:=c) d n W (hR.below B0) hL (by have:=hk.few; omega) e).mono ?_;rintro _ w' ⟨rfl,hb⟩;exact ⟨-1,rfl,.inr ⟨rfl,hroom.elim (λ q=>absurd e q) id⟩,hb⟩
  | some v =>
   refine (ZbD (c:=c) d n W (hR.below B0) hL (by have:=hk.few; omega) e).mono ?_;rintro _ w' ⟨i,rfl,hi,_,hb⟩;exact ⟨i,rfl,.inl ⟨by omega,by have:=hk.few; omega⟩,hb⟩
 have H:Hid ((∀ i,S i->i<w.heap.size)/\RdG encF w ao d.files/\d.files.length=L/\d.ok/\Below w.heap.size w W/\Six W w.heap.size (.slice ao L c) (.int .i64 (d.writes:Int)) (.bool d.armed) (.bool d.dead) (.int .i64 (d.after:Int)) (.int .i64 (d.keep:Int))/\Six W (w.heap.size+1) (.slice none 0 0) (.int .i64 0) (.bool false) (.bool false) (.int .i64 0) (.int .i64 0)):=⟨hS,hR,hL,hk,B0,X0,Y0⟩
 have hl32:L<=32:=by have:=hk.few; omega
 clear hS hR hL B0 X0 Y0 hroom;have Z:Hid _:=And.intro hdo hto;clear hdo hto
 obtain ⟨K,hK⟩:∃ K,d.keep=K:=⟨_,rfl⟩
 obtain ⟨mr,hmr⟩:∃ mr,more.take d.keep=mr:=⟨_,rfl⟩
 rw [hK] at hkm
 have MR:Hid (more.take K=mr):=by rw [<- hK]; exact hmr
 have HK:Hid (d.keep=K):=hK;clear hK hmr;go_enter Tryz.func130,Tryz.ntmps130;go_wp2_with fail;refine hnm.mono ?_;rintro e w1 ⟨rfl,hw1⟩;rw [hw1];clear hw1 w1 hnm;go_wp2_with fail;refine hat.mono ?_;rintro e w1 ⟨r,rfl,hr,B1⟩;have HB1:Hid (Below W.heap.size W w1):=B1;clear B1 hat x0 x1 x2 x3 x4 x5;obtain ⟨x0,x1,x2,x3,x4,x5⟩:=(H.out.2.2.2.2.2.1.below HB1.out).cells;have hnx:=ZbP (ao:=ao) (L:=L) (c:=c) (w:=w1) H.out.2.2.2.1.after hw;rw [Z.out.1,Z.out.2] at hnx
 obtain ⟨D,hD⟩:∃ D,(dnext d).1=D:=⟨_,rfl⟩
 rw [hD] at hnx
 have pp:(decide (r<0)&&decide ((32:Int)<=(L:Int)))=false:=by
  rcases hr with ⟨r0,r1⟩ | ⟨rfl,rL⟩
  ·rw [decide_eq_false (p:=r<0) (by omega)]; rfl
  ·rw [decide_eq_false (p:=(32:Int)<=(L:Int)) (by omega)]; simp
 rcases hr with ⟨r0,r1⟩ | ⟨rfl,rL⟩
 all_goals
  first
   | have p2:decide (r<0)=false:=by rw [decide_eq_false_iff_not]; omega
   | have p2:decide ((32:Int)<=(L:Int))=false:=by rw [decide_eq_false_iff_not]; omega
  go_wp2_with fail;refine hnx.mono ?_;rintro e w2 ⟨rfl,B2⟩;have HB2:Hid (Below w1.heap.size w1 w2):=B2;clear B2;have x5':=(H.out.2.2.2.2.2.1.below HB1.out |>.below HB2.out).cells.2.2.2.2.2;rw [HK.out] at x5';have x5a:=(((H.out.2.2.2.2.2.1.below HB1.out).below HB2.out).below (bz1 w2 (.cells #[.slice ao L c,.int .i64 (D.writes:Int),.bool D.armed,.bool D.dead,.int .i64 (D.after:Int),.int .i64 (D.keep:Int)] 28))).cells.2.2.2.2.2;rw [HK.out] at x5a
  have p3:decide ((K:Int)<((more.length:Nat):Int))=true:=by rw [decide_eq_true_eq]; omega
  go_wp2_with fail;have hwi:=Zcn (ao:=ao) (L:=L) (c:=c) d.files n (own++mr) (w2.alloc (.cells #[.slice ao L c,.int .i64 (D.writes:Int),.bool D.armed,.bool D.dead,.int .i64 (D.after:Int),.int .i64 (D.keep:Int)] 28)) ((((H.out.2.1.below H.out.2.2.2.2.1).below HB1.out).below HB2.out).below (bz1 _ _)) H.out.2.2.1 (by omega) H.out.2.2.2.1.rise;rw [<- ZjP] at hwi
  have hex:(⟨mr.toArray⟩:ByteArray)=(⟨more.toArray⟩:ByteArray).extract 0 K:=by rw [ZbV,<- MR.out]
  rw [hex] at hwi;refine hwi.mono ?_;rintro e w3 ⟨v3,rfl,O3,B3⟩;obtain ⟨y0,y1,y2,y3,y4,y5⟩:=((((H.out.2.2.2.2.2.2.below HB1.out).below HB2.out).below (bz1 _ _)).below B3).cells;obtain ⟨f0,f1,f2,f3,f4,f5⟩:=((((H.out.2.2.2.2.2.2.below HB1.out).below HB2.out).below (bz1 _ _)).below B3).thaw;obtain ⟨z0,z1,z2,z3,z4,z5⟩:=((Six.new w2 (.slice ao L c) (.int .i64 (D.writes:Int)) (.bool D.armed) (.bool D.dead) (.int .i64 (D.after:Int)) (.int .i64 (D.keep:Int))).below B3).cells;have g0:=((Six.new w2 (.slice ao L c) (.int .i64 (D.writes:Int)) (.bool D.armed) (.bool D.dead) (.int .i64 (D.after:Int)) (.int .i64 (D.keep:Int))).below B3).thaw.1;have s2:w.heap.size+1<w2.heap.size:=((H.out.2.2.2.2.2.2.below HB1.out).below HB2.out).lt
  have ne:w2.heap.size≠w.heap.size+1:=by omega
  have ne':w.heap.size+1≠w2.heap.size:=by omega
  obtain ⟨a3,c3,rfl,hc3,R3,F3⟩:=Zcv O3
  have HB3:Hid ((fwith d.files n (own++mr)).length<=c3/\RdG encF w3 a3 (fwith d.files n (own++mr))/\(0<(fwith d.files n (own++mr)).length->∀ p,a3=some p->w2.heap.size<p.block)/\Below w.heap.size w w3):=⟨hc3,R3,λ h0 p hp=>by have:=F3 h0 p hp; simp at this; omega,by
   have b1:=H.out.2.2.2.2.1.trans (HB1.out.mono H.out.2.2.2.2.1.size);have b2:=b1.trans (HB2.out.mono b1.size);have b3:=b2.trans ((bz1 w2 (.cells #[.slice ao L c,.int .i64 (D.writes:Int),.bool D.armed,.bool D.dead,.int .i64 (D.after:Int),.int .i64 (D.keep:Int)] 28)).mono b2.size)
   exact b3.trans (B3.mono b3.size)⟩
  obtain ⟨M,hM⟩:∃ M,(fwith d.files n (own++mr)).length=M:=⟨_,rfl⟩
  rw [hM];clear hc3 R3 F3;clear O3 B3 hwi;go_wp2;have CL:=Zdk HB3.out.2.2.2 (b1:=w2.heap.size) (b2:=w.heap.size+1) (by omega) (by omega) (.slice a3 M c3) (.slice a3 M c3) (.int .i64 (D.writes:Int)) (.bool D.armed) (.bool D.dead) (.int .i64 (D.after:Int)) (.int .i64 (D.keep:Int));have RR:RVS S _ (rv a3 M c3 { D with files:=fwith d.files n (own++mr) }) { D with files:=fwith d.files n (own++mr) }:=RVS.close H.out.1 (by omega) hM (by have:=HB3.out.1; rw [hM] at this; exact this) HB3.out.2.1 (by rw [<- hM]; exact HB3.out.2.2.1) (by omega) CL.2;rw [hD,HK.out,MR.out];refine bodyPost_ret (v:=.tuple #[rv a3 M c3 { D with files:=fwith d.files n (own++mr) },.int .i64 8]) ?_ rfl ⟨_,rfl,RR,CL.1⟩;simp [results,Tryz.f130];go_simp
theorem ZhW (hS:∀ i,S i->i<w.heap.size) (hR:RdG encF w ao d.files) (hL:d.files.length=L) (hk:d.ok) (hw:d.writes<4611686018427387904) (n own more:Bs) (hn:isName n=true) (hnl:n.length<=140737488355328)
  (hsum:own.length+more.length<=262144) (hroom:fget d.files n≠none∨L<32) (hdo:(dnext d).2.1=false) (hto:(dnext d).2.2=true) (hkm:more.length<=d.keep) :
  Calls Tryz.prog 130 #[rv ao L c d,tx n,tx own,tx more] w λ e w'=>∃ v',e=.returned (.tuple #[v',.int .i64 8])/\RVS S w' v' { (dnext d).1 with files:=fwith d.files n (own++more.take d.keep) }/\Below w.heap.size w w':=by
 obtain ⟨W,hW⟩:∃ W,(w.alloc (.cells #[.slice ao L c,.int .i64 (d.writes:Int),.bool d.armed,.bool d.dead,.int .i64 (d.after:Int),.int .i64 (d.keep:Int)] 28)).alloc (.cells #[.slice none 0 0,.int .i64 0,.bool false,.bool false,.int .i64 0,.int .i64 0] 28)=W:=⟨_,rfl⟩
 have B0:Below w.heap.size w W:=by rw [<- hW]; exact bz2 _ _ _
 have X0:Six W w.heap.size (.slice ao L c) (.int .i64 (d.writes:Int)) (.bool d.armed) (.bool d.dead) (.int .i64 (d.after:Int)) (.int .i64 (d.keep:Int)):=by rw [<- hW]; exact (Six.new w _ _ _ _ _ _).below (bz1 _ _)
 have Y0:Six W (w.heap.size+1) (.slice none 0 0) (.int .i64 0) (.bool false) (.bool false) (.int .i64 0) (.int .i64 0):=by
  rw [<- hW];have:=Six.new (w.alloc (.cells #[.slice ao L c,.int .i64 (d.writes:Int),.bool d.armed,.bool d.dead,.int .i64 (d.after:Int),.int .i64 (d.keep:Int)] 28)) (.slice none 0 0) (.int .i64 0) (.bool false) (.bool false) (.int .i64 0) (.int .i64 0);rw [show (w.alloc (.cells #[.slice ao L c,.int .i64 (d.writes:Int),.bool d.armed,.bool d.dead,.int .i64 (d.after:Int),.int .i64 (d.keep:Int)] 28)).heap.size=w.heap.size+1 by simp] at this;exact this
 have hnm:=Zap ⟨n.toArray⟩ (by rw [Zaw]; omega) W;rw [show (⟨n.toArray⟩:ByteArray).data.toList=n from rfl,hn] at hnm;obtain ⟨x0,x1,x2,x3,x4,x5⟩:=X0.cells
 have p1:decide ((262144:Int)<((own.length:Nat):Int)+((more.length:Nat):Int))=false:=by rw [decide_eq_false_iff_not]; omega
 have ol:own.length<=262144:=by omega
 have ml:more.length<=262144:=by omega
 have hat:Calls Tryz.prog 170 #[rv ao L c d,tx n] W λ e w'=>∃ r,e=.returned (.int .i64 r)/\((0<=r/\r<1000)∨(r = -1/\L<32))/\Below W.heap.size W w':=by
  cases e:fget d.files n with
  | none =>
   refine (Zce (c:=c) d n W (hR.below B0) hL (by have:=hk.few; omega) e).mono ?_;rintro _ w' ⟨rfl,hb⟩;exact ⟨-1,rfl,.inr ⟨rfl,hroom.elim (λ q=>absurd e q) id⟩,hb⟩
  | some v =>
   refine (ZbD (c:=c) d n W (hR.below B0) hL (by have:=hk.few; omega) e).mono ?_;rintro _ w' ⟨i,rfl,hi,_,hb⟩;exact ⟨i,rfl,.inl ⟨by omega,by have:=hk.few; omega⟩,hb⟩
 have H:Hid ((∀ i,S i->i<w.heap.size)/\RdG encF w ao d.files/\d.files.length=L/\d.ok/\Below w.heap.size w W/\Six W w.heap.size (.slice ao L c) (.int .i64 (d.writes:Int)) (.bool d.armed) (.bool d.dead) (.int .i64 (d.after:Int)) (.int .i64 (d.keep:Int))/\Six W (w.heap.size+1) (.slice none 0 0) (.int .i64 0) (.bool false) (.bool false) (.int .i64 0) (.int .i64 0)):=⟨hS,hR,hL,hk,B0,X0,Y0⟩
 have hl32:L<=32:=by have:=hk.few; omega
 clear hS hR hL B0 X0 Y0 hroom;have Z:Hid _:=And.intro hdo hto;clear hdo hto
 obtain ⟨K,hK⟩:∃ K,d.keep=K:=⟨_,rfl⟩
 obtain ⟨mr,hmr⟩:∃ mr,more.take d.keep=mr:=⟨_,rfl⟩
 rw [hK] at hkm
 have MR:Hid (more.take K=mr):=by rw [<- hK]; exact hmr
 have HK:Hid (d.keep=K):=hK;clear hK hmr;go_enter Tryz.func130,Tryz.ntmps130;go_wp2_with fail;refine hnm.mono ?_;rintro e w1 ⟨rfl,hw1⟩;rw [hw1];clear hw1 w1 hnm;go_wp2_with fail;refine hat.mono ?_;rintro e w1 ⟨r,rfl,hr,B1⟩;have HB1:Hid (Below W.heap.size W w1):=B1;clear B1 hat x0 x1 x2 x3 x4 x5;obtain ⟨x0,x1,x2,x3,x4,x5⟩:=(H.out.2.2.2.2.2.1.below HB1.out).cells;have hnx:=ZbP (ao:=ao) (L:=L) (c:=c) (w:=w1) H.out.2.2.2.1.after hw;rw [Z.out.1,Z.out.2] at hnx
 obtain ⟨D,hD⟩:∃ D,(dnext d).1=D:=⟨_,rfl⟩
 rw [hD] at hnx
 have pp:(decide (r<0)&&decide ((32:Int)<=(L:Int)))=false:=by
  rcases hr with ⟨r0,r1⟩ | ⟨rfl,rL⟩
  ·rw [decide_eq_false (p:=r<0) (by omega)]; rfl
  ·rw [decide_eq_false (p:=(32:Int)<=(L:Int)) (by omega)]; simp
 rcases hr with ⟨r0,r1⟩ | ⟨rfl,rL⟩
 all_goals
  first
   | have p2:decide (r<0)=false:=by rw [decide_eq_false_iff_not]; omega
   | have p2:decide ((32:Int)<=(L:Int))=false:=by rw [decide_eq_false_iff_not]; omega
  go_wp2_with fail;refine hnx.mono ?_;rintro e w2 ⟨rfl,B2⟩;have HB2:Hid (Below w1.heap.size w1 w2):=B2;clear B2;have x5':=(H.out.2.2.2.2.2.1.below HB1.out |>.below HB2.out).cells.2.2.2.2.2;rw [HK.out] at x5';have x5a:=(((H.out.2.2.2.2.2.1.below HB1.out).below HB2.out).below (bz1 w2 (.cells #[.slice ao L c,.int .i64 (D.writes:Int),.bool D.armed,.bool D.dead,.int .i64 (D.after:Int),.int .i64 (D.keep:Int)] 28))).cells.2.2.2.2.2;rw [HK.out] at x5a
  have p3:decide ((K:Int)<((more.length:Nat):Int))=false:=by rw [decide_eq_false_iff_not]; omega
  go_wp2_with fail;have hwi:=Zcn (ao:=ao) (L:=L) (c:=c) d.files n (own++mr) (w2.alloc (.cells #[.slice ao L c,.int .i64 (D.writes:Int),.bool D.armed,.bool D.dead,.int .i64 (D.after:Int),.int .i64 (D.keep:Int)] 28)) ((((H.out.2.1.below H.out.2.2.2.2.1).below HB1.out).below HB2.out).below (bz1 _ _)) H.out.2.2.1 (by omega) H.out.2.2.2.1.rise;rw [<- ZjP] at hwi
  have hex:(⟨mr.toArray⟩:ByteArray)=(⟨more.toArray⟩:ByteArray):=by rw [<- MR.out,List.take_of_length_le (by omega)]
  rw [hex] at hwi;refine hwi.mono ?_;rintro e w3 ⟨v3,rfl,O3,B3⟩;obtain ⟨y0,y1,y2,y3,y4,y5⟩:=((((H.out.2.2.2.2.2.2.below HB1.out).below HB2.out).below (bz1 _ _)).below B3).cells;obtain ⟨f0,f1,f2,f3,f4,f5⟩:=((((H.out.2.2.2.2.2.2.below HB1.out).below HB2.out).below (bz1 _ _)).below B3).thaw;obtain ⟨z0,z1,z2,z3,z4,z5⟩:=((Six.new w2 (.slice ao L c) (.int .i64 (D.writes:Int)) (.bool D.armed) (.bool D.dead) (.int .i64 (D.after:Int)) (.int .i64 (D.keep:Int))).below B3).cells;have g0:=((Six.new w2 (.slice ao L c) (.int .i64 (D.writes:Int)) (.bool D.armed) (.bool D.dead) (.int .i64 (D.after:Int)) (.int .i64 (D.keep:Int))).below B3).thaw.1;have s2:w.heap.size+1<w2.heap.size:=((H.out.2.2.2.2.2.2.below HB1.out).below HB2.out).lt
  have ne:w2.heap.size≠w.heap.size+1:=by omega
  have ne':w.heap.size+1≠w2.heap.size:=by omega
  obtain ⟨a3,c3,rfl,hc3,R3,F3⟩:=Zcv O3
  have HB3:Hid ((fwith d.files n (own++mr)).length<=c3/\RdG encF w3 a3 (fwith d.files n (own++mr))/\(0<(fwith d.files n (own++mr)).length->∀ p,a3=some p->w2.heap.size<p.block)/\Below w.heap.size w w3):=⟨hc3,R3,λ h0 p hp=>by have:=F3 h0 p hp; simp at this; omega,by
   have b1:=H.out.2.2.2.2.1.trans (HB1.out.mono H.out.2.2.2.2.1.size);have b2:=b1.trans (HB2.out.mono b1.size);have b3:=b2.trans ((bz1 w2 (.cells #[.slice ao L c,.int .i64 (D.writes:Int),.bool D.armed,.bool D.dead,.int .i64 (D.after:Int),.int .i64 (D.keep:Int)] 28)).mono b2.size)
   exact b3.trans (B3.mono b3.size)⟩
  obtain ⟨M,hM⟩:∃ M,(fwith d.files n (own++mr)).length=M:=⟨_,rfl⟩
  rw [hM];clear hc3 R3 F3;clear O3 B3 hwi;go_wp2;have CL:=Zdk HB3.out.2.2.2 (b1:=w2.heap.size) (b2:=w.heap.size+1) (by omega) (by omega) (.slice a3 M c3) (.slice a3 M c3) (.int .i64 (D.writes:Int)) (.bool D.armed) (.bool D.dead) (.int .i64 (D.after:Int)) (.int .i64 (D.keep:Int));have RR:RVS S _ (rv a3 M c3 { D with files:=fwith d.files n (own++mr) }) { D with files:=fwith d.files n (own++mr) }:=RVS.close H.out.1 (by omega) hM (by have:=HB3.out.1; rw [hM] at this; exact this) HB3.out.2.1 (by rw [<- hM]; exact HB3.out.2.2.1) (by omega) CL.2;rw [hD,HK.out,MR.out];refine bodyPost_ret (v:=.tuple #[rv a3 M c3 { D with files:=fwith d.files n (own++mr) },.int .i64 8]) ?_ rfl ⟨_,rfl,RR,CL.1⟩;simp [results,Tryz.f130];go_simp
end
theorem Zbd {w w3:World} {b2:Nat} (hb:Below w.heap.size w w3) (h2:w.heap.size<=b2) (v0 v1 v2 v3 v4 v5:Value) :
  Below w.heap.size w ((((((w3.setCell ⟨b2,0,none⟩ v0).setCell ⟨b2,1,none⟩ v1).setCell ⟨b2,2,none⟩ v2).setCell ⟨b2,3,none⟩ v3).setCell ⟨b2,4,none⟩ v4).setCell ⟨b2,5,none⟩ v5):=by
 have t:Zaa (λ i=>i=b2) w3 ((((((w3.setCell ⟨b2,0,none⟩ v0).setCell ⟨b2,1,none⟩ v1).setCell ⟨b2,2,none⟩ v2).setCell ⟨b2,3,none⟩ v3).setCell ⟨b2,4,none⟩ v4).setCell ⟨b2,5,none⟩ v5) :=
  (((((((Zaa.refl (λ i=>i=b2) w3).setCell (p:=⟨b2,0,none⟩) (.inl rfl) v0).setCell (p:=⟨b2,1,none⟩) (.inl rfl) v1).setCell (p:=⟨b2,2,none⟩) (.inl rfl) v2).setCell (p:=⟨b2,3,none⟩) (.inl rfl) v3).setCell (p:=⟨b2,4,none⟩) (.inl rfl) v4).setCell (p:=⟨b2,5,none⟩) (.inl rfl) v5)
 exact hb.trans (t.below hb.size (λ i hi q=>by omega))
theorem RVS.below {S:Nat->Prop} {w w':World} {v:Value} {d:Dk} (h:RVS S w v d) (hb:Below w.heap.size w w'):RVS S w' v d:=by
 obtain ⟨ao,L,c,e,h1,h2,h3,h4⟩:=h;exact ⟨ao,L,c,e,h1,h2,h3.below hb,h4⟩
section
variable {S:Nat->Prop} {ao:Option Addr} {L c:Nat} {d:Dk} {w:World}
theorem Zlh (n own more:Bs) (hn:isName n=false) (hnl:n.length<=140737488355328) :
  Calls Tryz.prog 130 #[rv ao L c d,tx n,tx own,tx more] w λ e w'=>e=.returned (.tuple #[rv ao L c d,.int .i64 2])/\Below w.heap.size w w':=by
 have hnm:=λ W=>Zap ⟨n.toArray⟩ (by rw [Zaw]; omega) W
 rw [show (⟨n.toArray⟩:ByteArray).data.toList=n from rfl,hn] at hnm;unfold rv;go_enter Tryz.func130,Tryz.ntmps130;go_wp2_with fail;refine (hnm _).mono ?_;rintro e w1 ⟨rfl,hw1⟩;rw [hw1];clear hw1 w1 hnm;go_wp2;refine bodyPost_ret (v:=.tuple #[.agg #[.slice ao L c,.int .i64 (d.writes:Int),.bool d.armed,.bool d.dead,.int .i64 (d.after:Int),.int .i64 (d.keep:Int)],.int .i64 2]) ?_ rfl ⟨rfl,bz2 _ _ _⟩;simp [results,Tryz.f130];go_simp
theorem Zjq (n own more:Bs) (hn:isName n=true) (hnl:n.length<=140737488355328) (ho:own.length<=262144) (hm:more.length<=140737488355328) (hsum:262144<own.length+more.length) :
  Calls Tryz.prog 130 #[rv ao L c d,tx n,tx own,tx more] w λ e w'=>e=.returned (.tuple #[rv ao L c d,.int .i64 7])/\Below w.heap.size w w':=by
 have hnm:=λ W=>Zap ⟨n.toArray⟩ (by rw [Zaw]; omega) W
 rw [show (⟨n.toArray⟩:ByteArray).data.toList=n from rfl,hn] at hnm
 have p1:decide ((262144:Int)<((own.length:Nat):Int)+((more.length:Nat):Int))=true:=by rw [decide_eq_true_eq]; omega
 unfold rv;go_enter Tryz.func130,Tryz.ntmps130;go_wp2_with fail;refine (hnm _).mono ?_;rintro e w1 ⟨rfl,hw1⟩;rw [hw1];clear hw1 w1 hnm;go_wp2;refine bodyPost_ret (v:=.tuple #[.agg #[.slice ao L c,.int .i64 (d.writes:Int),.bool d.armed,.bool d.dead,.int .i64 (d.after:Int),.int .i64 (d.keep:Int)],.int .i64 7]) ?_ rfl ⟨rfl,bz2 _ _ _⟩;simp [results,Tryz.f130];go_simp
theorem ZaL (w:World) (a0 a1 a2 a3 a4 a5 b0 b1 b2 b3 b4 b5:Value):Six ((w.alloc (.cells #[a0,a1,a2,a3,a4,a5] 28)).alloc (.cells #[b0,b1,b2,b3,b4,b5] 28)) w.heap.size a0 a1 a2 a3 a4 a5/\Six ((w.alloc (.cells #[a0,a1,a2,a3,a4,a5] 28)).alloc (.cells #[b0,b1,b2,b3,b4,b5] 28)) (w.heap.size+1) b0 b1 b2 b3 b4 b5:=by
 refine ⟨(Six.new w _ _ _ _ _ _).below (bz1 _ _),?_⟩;have:=Six.new (w.alloc (.cells #[a0,a1,a2,a3,a4,a5] 28)) b0 b1 b2 b3 b4 b5;rw [show (w.alloc (.cells #[a0,a1,a2,a3,a4,a5] 28)).heap.size=w.heap.size+1 by simp] at this;exact this
theorem Zkm (hR:RdG encF w ao d.files) (hL:d.files.length=L) (hl:L<=1000) (n own more:Bs) (hn:isName n=true) (hnl:n.length<=140737488355328) (hsum:own.length+more.length<=262144) (hf:fget d.files n=none) (h32:32<=L) :
  Calls Tryz.prog 130 #[rv ao L c d,tx n,tx own,tx more] w λ e w'=>e=.returned (.tuple #[rv ao L c d,.int .i64 7])/\Below w.heap.size w w':=by
 have hnm:=λ W=>Zap ⟨n.toArray⟩ (by rw [Zaw]; omega) W
 rw [show (⟨n.toArray⟩:ByteArray).data.toList=n from rfl,hn] at hnm
 have p1:decide ((262144:Int)<((own.length:Nat):Int)+((more.length:Nat):Int))=false:=by rw [decide_eq_false_iff_not]; omega
 have p2:decide ((32:Int)<=(L:Int))=true:=by rw [decide_eq_true_eq]; omega
 have ol:own.length<=262144:=by omega
 have ml:more.length<=262144:=by omega
 obtain ⟨W,hW⟩:∃ W,(w.alloc (.cells #[.slice ao L c,.int .i64 (d.writes:Int),.bool d.armed,.bool d.dead,.int .i64 (d.after:Int),.int .i64 (d.keep:Int)] 28)).alloc (.cells #[.slice none 0 0,.int .i64 0,.bool false,.bool false,.int .i64 0,.int .i64 0] 28)=W:=⟨_,rfl⟩
 have T:=ZaL w (.slice ao L c) (.int .i64 (d.writes:Int)) (.bool d.armed) (.bool d.dead) (.int .i64 (d.after:Int)) (.int .i64 (d.keep:Int)) (.slice none 0 0) (.int .i64 0) (.bool false) (.bool false) (.int .i64 0) (.int .i64 0);rw [hW] at T
 have B0:Below w.heap.size w W:=by rw [<- hW]; exact bz2 _ _ _
 have hat:=Zce (c:=c) d n W (hR.below B0) hL hl hf
 obtain ⟨x0,x1,x2,x3,x4,x5⟩:=T.1.cells
 have H:Hid (Below w.heap.size w W/\Six W w.heap.size (.slice ao L c) (.int .i64 (d.writes:Int)) (.bool d.armed) (.bool d.dead) (.int .i64 (d.after:Int)) (.int .i64 (d.keep:Int))/\Six W (w.heap.size+1) (.slice none 0 0) (.int .i64 0) (.bool false) (.bool false) (.int .i64 0) (.int .i64 0)):=⟨B0,T.1,T.2⟩
 clear hR hL hf T B0;go_enter Tryz.func130,Tryz.ntmps130;go_wp2_with fail;refine (hnm _).mono ?_;rintro e w1 ⟨rfl,hw1⟩;rw [hw1];clear hw1 w1 hnm;go_wp2_with fail;refine hat.mono ?_;rintro e w1 ⟨rfl,B1⟩;clear x0 x1 x2 x3 x4 x5;obtain ⟨x0,x1,x2,x3,x4,x5⟩:=(H.out.2.1.below B1).cells;obtain ⟨y0,y1,y2,y3,y4,y5⟩:=(H.out.2.2.below B1).cells;obtain ⟨f0,f1,f2,f3,f4,f5⟩:=(H.out.2.2.below B1).thaw;have BB:Hid (Below w.heap.size w w1):=H.out.1.trans (B1.mono H.out.1.size);clear B1 hat;go_wp2;refine bodyPost_ret (v:=.tuple #[rv ao L c d,.int .i64 7]) ?_ rfl ⟨rfl,Zbd BB.out (by omega) _ _ _ _ _ _⟩;simp [results,Tryz.f130];go_simp
theorem Zjb (hR:RdG encF w ao d.files) (hL:d.files.length=L) (hl:L<=1000) (n own more:Bs) (hn:isName n=true) (hnl:n.length<=140737488355328) (hsum:own.length+more.length<=262144) (hroom:fget d.files n≠none∨L<32) (hd:d.dead=true) :
  Calls Tryz.prog 130 #[rv ao L c d,tx n,tx own,tx more] w λ e w'=>e=.returned (.tuple #[rv ao L c d,.int .i64 8])/\Below w.heap.size w w':=by
 have hnm:=λ W=>Zap ⟨n.toArray⟩ (by rw [Zaw]; omega) W
 rw [show (⟨n.toArray⟩:ByteArray).data.toList=n from rfl,hn] at hnm
 have p1:decide ((262144:Int)<((own.length:Nat):Int)+((more.length:Nat):Int))=false:=by rw [decide_eq_false_iff_not]; omega
 have ol:own.length<=262144:=by omega
 have ml:more.length<=262144:=by omega
 obtain ⟨W,hW⟩:∃ W,(w.alloc (.cells #[.slice ao L c,.int .i64 (d.writes:Int),.bool d.armed,.bool d.dead,.int .i64 (d.after:Int),.int .i64 (d.keep:Int)] 28)).alloc (.cells #[.slice none 0 0,.int .i64 0,.bool false,.bool false,.int .i64 0,.int .i64 0] 28)=W:=⟨_,rfl⟩
 have T:=ZaL w (.slice ao L c) (.int .i64 (d.writes:Int)) (.bool d.armed) (.bool d.dead) (.int .i64 (d.after:Int)) (.int .i64 (d.keep:Int)) (.slice none 0 0) (.int .i64 0) (.bool false) (.bool false) (.int .i64 0) (.int .i64 0);rw [hW] at T
 have B0:Below w.heap.size w W:=by rw [<- hW]; exact bz2 _ _ _
 have hat:Calls Tryz.prog 170 #[rv ao L c d,tx n] W λ e w'=>∃ r,e=.returned (.int .i64 r)/\((0<=r/\r<1000)∨(r = -1/\L<32))/\Below W.heap.size W w':=by
  cases e:fget d.files n with
  | none =>
   refine (Zce (c:=c) d n W (hR.below B0) hL hl e).mono ?_;rintro _ w' ⟨rfl,hb⟩;exact ⟨-1,rfl,.inr ⟨rfl,hroom.elim (λ q=>absurd e q) id⟩,hb⟩
  | some v =>
   refine (ZbD (c:=c) d n W (hR.below B0) hL hl e).mono ?_;rintro _ w' ⟨i,rfl,hi,_,hb⟩;exact ⟨i,rfl,.inl ⟨by omega,by omega⟩,hb⟩
 obtain ⟨x0,x1,x2,x3,x4,x5⟩:=T.1.cells
 have H:Hid (Below w.heap.size w W/\Six W w.heap.size (.slice ao L c) (.int .i64 (d.writes:Int)) (.bool d.armed) (.bool d.dead) (.int .i64 (d.after:Int)) (.int .i64 (d.keep:Int))/\Six W (w.heap.size+1) (.slice none 0 0) (.int .i64 0) (.bool false) (.bool false) (.int .i64 0) (.int .i64 0)):=⟨B0,T.1,T.2⟩
 have hnx:=λ w1=>Zet (ao:=ao) (L:=L) (c:=c) (w:=w1) hd
 have HD:Hid (d.dead=true):=hd;clear hR hL hroom T B0 hd;go_enter Tryz.func130,Tryz.ntmps130;go_wp2_with fail;refine (hnm _).mono ?_;rintro e w1 ⟨rfl,hw1⟩;rw [hw1];clear hw1 w1 hnm;go_wp2_with fail;refine hat.mono ?_;rintro e w1 ⟨r,rfl,hr,B1⟩;clear x0 x1 x2 x3 x4 x5;obtain ⟨x0,x1,x2,x3,x4,x5⟩:=(H.out.2.1.below B1).cells;have HB1:Hid (Below W.heap.size W w1):=B1;clear B1 hat
 rcases hr with ⟨r0,r1⟩ | ⟨rfl,rL⟩
 all_goals
  first
   | have p2:decide (r<0)=false:=by rw [decide_eq_false_iff_not]; omega
   | have p2:decide ((32:Int)<=(L:Int))=false:=by rw [decide_eq_false_iff_not]; omega
  go_wp2_with fail;refine (hnx w1).mono ?_;rintro e w2 ⟨rfl,B2⟩;have Y:=(H.out.2.2.below HB1.out).below B2;obtain ⟨y0,y1,y2,y3,y4,y5⟩:=Y.cells;obtain ⟨f0,f1,f2,f3,f4,f5⟩:=Y.thaw;have s2:w.heap.size+1<w2.heap.size:=((H.out.2.2.below HB1.out).below B2).lt
  have ne:w2.heap.size≠w.heap.size+1:=by omega
  have ne':w.heap.size+1≠w2.heap.size:=by omega
  have BB:Hid (Below w.heap.size w w2):=by
   have b1:=H.out.1.trans (HB1.out.mono H.out.1.size);exact b1.trans (B2.mono b1.size)
  clear B2 Y;go_wp2;have CL:=Zbd BB.out (b2:=w.heap.size+1) (by omega) (.slice ao L c) (.int .i64 (d.writes:Int)) (.bool d.armed) (.bool d.dead) (.int .i64 (d.after:Int)) (.int .i64 (d.keep:Int));refine bodyPost_ret (v:=.tuple #[rv ao L c d,.int .i64 8]) ?_ rfl ⟨rfl,CL.trans ((bz1 _ _).mono CL.size)⟩;simp [results,Tryz.f130];go_simp
theorem Zla (hS:∀ i,S i->i<w.heap.size) {v:Value} (h:RVS S w v d) (hk:d.ok) (hw:d.writes<4611686018427387904) (n own more:Bs) (hnl:n.length<=140737488355328) (ho:own.length<=262144) (hm:more.length<=140737488355328) :
  Calls Tryz.prog 130 #[v,tx n,tx own,tx more] w λ e w'=>∃ v',e=.returned (.tuple #[v',.int .i64 (dlay d n own more).2])/\RVS S w' v' (dlay d n own more).1/\Below w.heap.size w w':=by
 obtain ⟨ao,L,c,rfl,hL,hc,hR,hF⟩:=h
 have same:∀ {w':World},Below w.heap.size w w'->RVS S w' (rv ao L c d) d:=λ hb=>⟨ao,L,c,rfl,hL,hc,hR.below hb,hF⟩
 have hl:L<=1000:=by have:=hk.few; omega
 unfold dlay;by_cases hn:isName n=false
 ·rw [if_pos hn];refine (Zlh n own more hn hnl).mono ?_;rintro e w' ⟨rfl,hb⟩;exact ⟨_,rfl,same hb,hb⟩
 ·rw [if_neg hn]
  have hn:isName n=true:=by simpa using hn
  by_cases hfull:262144<own.length+more.length∨(fget d.files n=none/\32<=d.files.length)
  ·rw [if_pos hfull];by_cases h1:262144<own.length+more.length
   ·refine (Zjq n own more hn hnl ho hm h1).mono ?_;rintro e w' ⟨rfl,hb⟩;exact ⟨_,rfl,same hb,hb⟩
   ·obtain ⟨q1,q2⟩:=hfull.elim (λ q=>absurd q h1) id;refine (Zkm hR hL hl n own more hn hnl (by omega) q1 (by omega)).mono ?_;rintro e w' ⟨rfl,hb⟩;exact ⟨_,rfl,same hb,hb⟩
  ·rw [if_neg hfull]
   have hsum:own.length+more.length<=262144:=by omega
   have hroom:fget d.files n≠none∨L<32:=by
    by_cases q:fget d.files n=none
    ·exact .inr (by have:¬ 32<=d.files.length:=λ r=>hfull (.inr ⟨q,r⟩); omega)
    ·exact .inl q
   by_cases hd:d.dead=true
   ·rw [Zb6 hd];refine (Zjb hR hL hl n own more hn hnl hsum hroom hd).mono ?_;rintro e w' ⟨rfl,hb⟩;exact ⟨_,rfl,same hb,hb⟩
   ·have hd:d.dead=false:=by simpa using hd
    by_cases hto:d.armed=true/\d.after=0
    ·have e:=Zbu hd hto.1 hto.2
     have e1:(dnext d).2.1=false:=by rw [e]
     have e2:(dnext d).2.2=true:=by rw [e]
     rw [if_neg (by rw [e1]; simp),if_pos e2];by_cases hkm:d.keep<more.length
     ·exact ZiI hS hR hL hk hw n own more hn hnl hsum hroom e1 e2 hkm
     ·exact ZhW hS hR hL hk hw n own more hn hnl hsum hroom e1 e2 (by omega)
    ·have hdo:(dnext d).2.1=true/\(dnext d).2.2=false:=by
      by_cases ha:d.armed=true
      ·rw [Zby hd ha (λ q=>hto ⟨ha,q⟩)]; exact ⟨rfl,rfl⟩
      ·rw [ZbB hd (by simpa using ha)]; exact ⟨rfl,rfl⟩
     rw [if_pos hdo.1];exact ZjT hS hR hL hk hw n own more hn hnl hsum hroom hdo.1 hdo.2
end
theorem RVS.laid {S:Nat->Prop} {w1:World} {ao:Option Addr} {L c:Nat} {d:Dk} (h:RVS S w1 (rv ao L c d) d) (b:Nat) (hF:RdG encF w1 ao d.files->0<L->∀ p,ao=some p->p.block≠b) (v0 v1 v2 v3 v4 v5:Value) :
  RVS S ((((((w1.setCell ⟨b,0,none⟩ v0).setCell ⟨b,1,none⟩ v1).setCell ⟨b,2,none⟩ v2).setCell ⟨b,3,none⟩ v3).setCell ⟨b,4,none⟩ v4).setCell ⟨b,5,none⟩ v5) (rv ao L c d) d:=by
 have t:Zaa (λ i=>i=b) w1 ((((((w1.setCell ⟨b,0,none⟩ v0).setCell ⟨b,1,none⟩ v1).setCell ⟨b,2,none⟩ v2).setCell ⟨b,3,none⟩ v3).setCell ⟨b,4,none⟩ v4).setCell ⟨b,5,none⟩ v5) :=
  (((((((Zaa.refl (λ i=>i=b) w1).setCell (p:=⟨b,0,none⟩) (.inl rfl) v0).setCell (p:=⟨b,1,none⟩) (.inl rfl) v1).setCell (p:=⟨b,2,none⟩) (.inl rfl) v2).setCell (p:=⟨b,3,none⟩) (.inl rfl) v3).setCell (p:=⟨b,4,none⟩) (.inl rfl) v4).setCell (p:=⟨b,5,none⟩) (.inl rfl) v5)
 obtain ⟨a',L',c',e,h1,h2,h3,h4⟩:=h
 obtain ⟨rfl,rfl,rfl⟩:ao=a'/\L=L'/\c=c':=by simpa [rv] using e
 exact ⟨ao,L,c,rfl,h1,h2,h3.turned t (λ h0 p hp q=>hF h3 (by omega) p hp q),h4⟩
theorem Six.not_files {w:World} {B:Nat} {a0 a1 a2 a3 a4 a5:Value} (h:Six w B a0 a1 a2 a3 a4 a5) (h1:∀ n,a1≠tx n) (h0:∀ n,a0≠tx n) (h2:∀ n,a2≠tx n) (h3:∀ n,a3≠tx n) (h4:∀ n,a4≠tx n) (h5:∀ n,a5≠tx n) {ao:Option Addr} {fs:Fs} (hR:RdG encF w ao fs) (hl:0<fs.length):∀ p,ao=some p->p.block≠B:=by
 intro p hp e;obtain ⟨b,off,rfl,hlt,hc⟩:=hR hl;cases hp;have c0:=hc 0 fs[0] (List.getElem?_eq_getElem hl) 0 (tx fs[0].1) rfl;have e':b=B:=e;subst e';unfold Six at h;simp [World.cell?,h] at c0
 have:off+(0*encF.size+0)=off:=by omega
 rcases off with _ | _ | _ | _ | _ | _ | off
 ·exact h0 _ (by simpa using c0)
 ·exact h1 _ (by simpa using c0)
 ·exact h2 _ (by simpa using c0)
 ·exact h3 _ (by simpa using c0)
 ·exact h4 _ (by simpa using c0)
 ·exact h5 _ (by simpa using c0)
 ·simp at c0
section
variable {S:Nat->Prop} {d:Dk} {w:World}
theorem Zg3 (hS:∀ i,S i->i<w.heap.size) {v:Value} (h:RVS S w v d) (hk:d.ok) (hw:d.writes<4611686018427387904) (n more:Bs) (hnl:n.length<=140737488355328) (hm:more.length<=140737488355328) :
  Calls Tryz.prog 57 #[v,tx n,tx more] w λ e w'=>∃ v',e=.returned (.tuple #[v',.int .i64 (dapp d n more).2])/\RVS S w' v' (dapp d n more).1/\Below w.heap.size w w':=by
 have h':=h;obtain ⟨ao,L,c,rfl,hL,hc,hR,hF⟩:=h
 obtain ⟨W,hW⟩:∃ W,(w.alloc (.cells #[.slice ao L c,.int .i64 (d.writes:Int),.bool d.armed,.bool d.dead,.int .i64 (d.after:Int),.int .i64 (d.keep:Int)] 28)).alloc (.cells #[.slice none 0 0,.int .i64 0,.bool false,.bool false,.int .i64 0,.int .i64 0] 28)=W:=⟨_,rfl⟩
 have T:=ZaL w (.slice ao L c) (.int .i64 (d.writes:Int)) (.bool d.armed) (.bool d.dead) (.int .i64 (d.after:Int)) (.int .i64 (d.keep:Int)) (.slice none 0 0) (.int .i64 0) (.bool false) (.bool false) (.int .i64 0) (.int .i64 0);rw [hW] at T
 have B0:Below w.heap.size w W:=by rw [<- hW]; exact bz2 _ _ _
 obtain ⟨own,hown⟩:∃ own,(fget d.files n).getD []=own:=⟨_,rfl⟩
 have hol:own.length<=262144:=by
  rw [<- hown]
  cases e:fget d.files n with
  | none=>simp
  | some b=>exact hk.get e
 have hl:L<=1000:=by have:=hk.few; omega
 have hdata:∀ W',Below W.heap.size W W'->Calls Tryz.prog 111 #[rv ao L c d,tx n] W' λ e w'=>e=.returned (tx own)/\Below W'.heap.size W' w':=by
  intro W' hB
  cases e:fget d.files n with
  | none=>rw [e] at hown; cases hown; exact ZdB d n W' ((hR.below B0).below hB) hL hl e
  | some b=>rw [e] at hown; cases hown; exact Zbn d n W' ((hR.below B0).below hB) hL hl e
 have hlay:∀ W',Below W.heap.size W W'->Calls Tryz.prog 130 #[rv ao L c d,tx n,tx own,tx more] W' λ e w'=>∃ v',e=.returned (.tuple #[v',.int .i64 (dapp d n more).2])/\RVS S w' v' (dapp d n more).1/\Below W'.heap.size W' w':=by
  intro W' hB;have:=Zla (w:=W') (λ i hi=>Nat.lt_of_lt_of_le (hS i hi) (Nat.le_trans B0.size hB.size)) (RVS.below (RVS.below h' B0) hB) hk hw n own more hnl hol hm;rw [<- hown] at this ⊢;exact this
 have HC:Hid (_/\_):=And.intro hdata hlay
 obtain ⟨P,hP⟩:∃ P,dapp d n more=P:=⟨_,rfl⟩
 have H:Hid (Below w.heap.size w W/\Six W w.heap.size (.slice ao L c) (.int .i64 (d.writes:Int)) (.bool d.armed) (.bool d.dead) (.int .i64 (d.after:Int)) (.int .i64 (d.keep:Int))/\Six W (w.heap.size+1) (.slice none 0 0) (.int .i64 0) (.bool false) (.bool false) (.int .i64 0) (.int .i64 0)):=⟨B0,T.1,T.2⟩
 rw [hP] at HC ⊢;obtain ⟨x0,x1,x2,x3,x4,x5⟩:=T.1.cells;clear hR hL hF T B0 h' hS hP hdata hlay hown;go_enter Tryz.func57,Tryz.ntmps57;go_wp2_with fail
 go_region_held3 (λ u=>u.cell? ⟨w.heap.size,0,none⟩=some (.slice ao L c)/\u.cell? ⟨w.heap.size,1,none⟩=some (.int .i64 (d.writes:Int))/\u.cell? ⟨w.heap.size,2,none⟩=some (.bool d.armed)/\u.cell? ⟨w.heap.size,3,none⟩=some (.bool d.dead)/\u.cell? ⟨w.heap.size,4,none⟩=some (.int .i64 (d.after:Int))/\u.cell? ⟨w.heap.size,5,none⟩=some (.int .i64 (d.keep:Int))) (go_keep)
  (first
   | (go_at_call 130; refine (HC.out.2 _ K1.out).mono ?_; rintro e w2 ⟨v',rfl,R2,B2⟩; have R2':Hid (RVS S w2 v' P.1):=R2; obtain ⟨a1,L1,c1,rfl,e1,e2,e3,e4⟩:=R2; have Y:=(H.out.2.2.below K1.out).below B2; obtain ⟨y0,y1,y2,y3,y4,y5⟩:=Y.cells; obtain ⟨f0,f1,f2,f3,f4,f5⟩:=Y.thaw; have xx2:=((H.out.2.1.below K1.out).below B2).cells; have K2:Hid (Below w1.heap.size w1 w2):=B2; clear B2 Y e3 e4)
   | (go_at_call 111; refine (HC.out.1 W.drew ⟨rfl,rfl,rfl,Nat.le_refl _,λ _ _=>rfl⟩).mono ?_; rintro e w1 ⟨rfl,B1⟩; have K1:Hid (Below W.heap.size W w1):=⟨B1.os,B1.tape,B1.output,B1.size,B1.block⟩; have xx1:=(H.out.2.1.below K1.out).cells; clear B1))
 have BB:Below w.heap.size w w2:=by
  have b1:=H.out.1.trans (K1.out.mono H.out.1.size);exact b1.trans (K2.out.mono b1.size)
 have CL:=Zbd BB (b2:=w.heap.size+1) (by omega) (.slice a1 L1 c1) (.int .i64 (P.1.writes:Int)) (.bool P.1.armed) (.bool P.1.dead) (.int .i64 (P.1.after:Int)) (.int .i64 (P.1.keep:Int));have RR:=RVS.laid R2'.out (w.heap.size+1) (λ q h0=>((H.out.2.2.below K1.out).below K2.out).not_files (λ _ q=>by cases q) (λ _ q=>by cases q) (λ _ q=>by cases q) (λ _ q=>by cases q) (λ _ q=>by cases q) (λ _ q=>by cases q) q (by omega)) (.slice a1 L1 c1) (.int .i64 (P.1.writes:Int)) (.bool P.1.armed) (.bool P.1.dead) (.int .i64 (P.1.after:Int)) (.int .i64 (P.1.keep:Int));have C:Hid _:=And.intro RR CL;clear BB CL RR;go_wp2;refine bodyPost_ret (v:=.tuple #[rv a1 L1 c1 P.1,.int .i64 P.2]) ?_ rfl ⟨_,rfl,C.out.1,C.out.2⟩;simp [results,Tryz.f57];go_simp
end
end Go.Proofs.YtmhcpbbiokpjjaaGreat
