/-
  Several texts, laid together.
-/
import Derived.Test.YtmhcpbbiokpjjaaGreatM14
set_option maxHeartbeats 6400000
set_option maxRecDepth 100000
namespace Go.Proofs.YtmhcpbbiokpjjaaGreat
open Go.RowKit
section
variable {S:Nat->Prop} {ao:Option Addr} {L c:Nat} {d:Dk} {w:World}
end
section
variable {S:Nat->Prop} {ao:Option Addr} {L c:Nat} {d:Dk} {w:World}
end
section
variable {S:Nat->Prop} {ao:Option Addr} {L c:Nat} {d:Dk} {w:World}
theorem Zji (n:Bs) (z:Int) (hn:isName n=false) (hnl:n.length<=140737488355328) :
  Calls Tryz.prog 114 #[rv ao L c d,tx n,.int .i64 z] w λ e w'=>e=.returned (.tuple #[rv ao L c d,.int .i64 2])/\Below w.heap.size w w':=by
 have hnmn:=λ W=>Zap ⟨n.toArray⟩ (by rw [Zaw]; omega) W
 rw [show (⟨n.toArray⟩:ByteArray).data.toList=n from rfl,hn] at hnmn;unfold rv;go_enter Tryz.func114,Tryz.ntmps114;go_wp2_with fail;refine (hnmn _).mono ?_;rintro e w1 ⟨rfl,hw1⟩;rw [hw1];clear hw1 w1 hnmn;go_wp2;refine bodyPost_ret (v:=.tuple #[.agg #[.slice ao L c,.int .i64 (d.writes:Int),.bool d.armed,.bool d.dead,.int .i64 (d.after:Int),.int .i64 (d.keep:Int)],.int .i64 2]) ?_ rfl ⟨rfl,bz2 _ _ _⟩;simp [results,Tryz.f114];go_simp
theorem Zij (hR:RdG encF w ao d.files) (hL:d.files.length=L) (hl:L<=1000) (n:Bs) (z:Int) (hn:isName n=true) (hnl:n.length<=140737488355328) (hf:fget d.files n=none) :
  Calls Tryz.prog 114 #[rv ao L c d,tx n,.int .i64 z] w λ e w'=>e=.returned (.tuple #[rv ao L c d,.int .i64 5])/\Below w.heap.size w w':=by
 have hnmn:=λ W=>Zap ⟨n.toArray⟩ (by rw [Zaw]; omega) W
 rw [show (⟨n.toArray⟩:ByteArray).data.toList=n from rfl,hn] at hnmn
 obtain ⟨W,hW⟩:∃ W,(w.alloc (.cells #[.slice ao L c,.int .i64 (d.writes:Int),.bool d.armed,.bool d.dead,.int .i64 (d.after:Int),.int .i64 (d.keep:Int)] 28)).alloc (.cells #[.slice none 0 0,.int .i64 0,.bool false,.bool false,.int .i64 0,.int .i64 0] 28)=W:=⟨_,rfl⟩
 have T:=ZaL w (.slice ao L c) (.int .i64 (d.writes:Int)) (.bool d.armed) (.bool d.dead) (.int .i64 (d.after:Int)) (.int .i64 (d.keep:Int)) (.slice none 0 0) (.int .i64 0) (.bool false) (.bool false) (.int .i64 0) (.int .i64 0);rw [hW] at T
 have B0:Below w.heap.size w W:=by rw [<- hW]; exact bz2 _ _ _
 obtain ⟨x0,x1,x2,x3,x4,x5⟩:=T.1.cells
 have H:Hid (Below w.heap.size w W/\Six W w.heap.size (.slice ao L c) (.int .i64 (d.writes:Int)) (.bool d.armed) (.bool d.dead) (.int .i64 (d.after:Int)) (.int .i64 (d.keep:Int))/\Six W (w.heap.size+1) (.slice none 0 0) (.int .i64 0) (.bool false) (.bool false) (.int .i64 0) (.int .i64 0)/\RdG encF w ao d.files/\d.files.length=L):=⟨B0,T.1,T.2,hR,hL⟩
 have hat:=Zce (c:=c) d n W (hR.below B0) hL hl hf
 clear hR hL hf T B0;go_enter Tryz.func114,Tryz.ntmps114;go_wp2_with fail;refine (hnmn _).mono ?_;rintro e w1 ⟨rfl,hw1⟩;rw [hw1];clear hw1 w1 hnmn;go_wp2_with fail;refine hat.mono ?_;rintro e w1 ⟨rfl,B1⟩;clear x0 x1 x2 x3 x4 x5;obtain ⟨x0,x1,x2,x3,x4,x5⟩:=(H.out.2.1.below B1).cells;obtain ⟨y0,y1,y2,y3,y4,y5⟩:=(H.out.2.2.1.below B1).cells;obtain ⟨f0,f1,f2,f3,f4,f5⟩:=(H.out.2.2.1.below B1).thaw;have BB:Hid (Below w.heap.size w w1):=H.out.1.trans (B1.mono H.out.1.size);clear B1 hat;go_wp2;refine bodyPost_ret (v:=.tuple #[rv ao L c d,.int .i64 5]) ?_ rfl ⟨rfl,Zbd BB.out (by omega) _ _ _ _ _ _⟩;simp [results,Tryz.f114];go_simp
theorem Zj3 (hR:RdG encF w ao d.files) (hL:d.files.length=L) (hl:L<=1000) (n:Bs) (z:Int) (hn:isName n=true) (hnl:n.length<=140737488355328) {v:Bs} (hf:fget d.files n=some v) (hz:z<0) :
  Calls Tryz.prog 114 #[rv ao L c d,tx n,.int .i64 z] w λ e w'=>e=.returned (.tuple #[rv ao L c d,.int .i64 3])/\Below w.heap.size w w':=by
 have hnmn:=λ W=>Zap ⟨n.toArray⟩ (by rw [Zaw]; omega) W
 rw [show (⟨n.toArray⟩:ByteArray).data.toList=n from rfl,hn] at hnmn
 have q1:decide (z<0)=true:=by simpa using hz
 obtain ⟨W,hW⟩:∃ W,(w.alloc (.cells #[.slice ao L c,.int .i64 (d.writes:Int),.bool d.armed,.bool d.dead,.int .i64 (d.after:Int),.int .i64 (d.keep:Int)] 28)).alloc (.cells #[.slice none 0 0,.int .i64 0,.bool false,.bool false,.int .i64 0,.int .i64 0] 28)=W:=⟨_,rfl⟩
 have T:=ZaL w (.slice ao L c) (.int .i64 (d.writes:Int)) (.bool d.armed) (.bool d.dead) (.int .i64 (d.after:Int)) (.int .i64 (d.keep:Int)) (.slice none 0 0) (.int .i64 0) (.bool false) (.bool false) (.int .i64 0) (.int .i64 0);rw [hW] at T
 have B0:Below w.heap.size w W:=by rw [<- hW]; exact bz2 _ _ _
 obtain ⟨x0,x1,x2,x3,x4,x5⟩:=T.1.cells
 have H:Hid (Below w.heap.size w W/\Six W w.heap.size (.slice ao L c) (.int .i64 (d.writes:Int)) (.bool d.armed) (.bool d.dead) (.int .i64 (d.after:Int)) (.int .i64 (d.keep:Int))/\Six W (w.heap.size+1) (.slice none 0 0) (.int .i64 0) (.bool false) (.bool false) (.int .i64 0) (.int .i64 0)/\RdG encF w ao d.files/\d.files.length=L):=⟨B0,T.1,T.2,hR,hL⟩
 have hat:=ZbD (c:=c) d n W (hR.below B0) hL hl hf
 have hdata:=λ (W':World) (hB:Below W.heap.size W W')=>Zbn (c:=c) d n W' ((hR.below B0).below hB) hL hl hf
 clear hR hL hf T B0;go_enter Tryz.func114,Tryz.ntmps114;go_wp2_with fail;refine (hnmn _).mono ?_;rintro e w1 ⟨rfl,hw1⟩;rw [hw1];clear hw1 w1 hnmn;go_wp2_with fail;refine hat.mono ?_;rintro e w1 ⟨i,rfl,hi,hx,B1⟩
 have i0:decide ((i:Int)<0)=false:=by rw [decide_eq_false_iff_not]; omega
 clear x0 x1 x2 x3 x4 x5;obtain ⟨x0,x1,x2,x3,x4,x5⟩:=(H.out.2.1.below B1).cells;have HB1:Hid (Below W.heap.size W w1):=B1;clear B1 hat;go_wp2_with fail;refine (hdata w1 HB1.out).mono ?_;rintro e w1' ⟨rfl,B1'⟩;have HB1':Hid (Below W.heap.size W w1'):=HB1.out.trans (B1'.mono HB1.out.size);clear x0 x1 x2 x3 x4 x5;obtain ⟨x0,x1,x2,x3,x4,x5⟩:=(H.out.2.1.below HB1'.out).cells;clear B1' HB1 hdata;obtain ⟨y0,y1,y2,y3,y4,y5⟩:=(H.out.2.2.1.below HB1'.out).cells;obtain ⟨f0,f1,f2,f3,f4,f5⟩:=(H.out.2.2.1.below HB1'.out).thaw;have BB:Hid (Below w.heap.size w w1'):=H.out.1.trans (HB1'.out.mono H.out.1.size);go_wp2;refine bodyPost_ret (v:=.tuple #[rv ao L c d,.int .i64 3]) ?_ rfl ⟨rfl,Zbd BB.out (by omega) _ _ _ _ _ _⟩;simp [results,Tryz.f114];go_simp
theorem ZhT (hR:RdG encF w ao d.files) (hL:d.files.length=L) (hl:L<=1000) (n:Bs) (z:Int) (hn:isName n=true) (hnl:n.length<=140737488355328) {v:Bs} (hf:fget d.files n=some v) (h0:0<=z) (hz:(v.length:Int)<z) :
  Calls Tryz.prog 114 #[rv ao L c d,tx n,.int .i64 z] w λ e w'=>e=.returned (.tuple #[rv ao L c d,.int .i64 3])/\Below w.heap.size w w':=by
 have hnmn:=λ W=>Zap ⟨n.toArray⟩ (by rw [Zaw]; omega) W
 rw [show (⟨n.toArray⟩:ByteArray).data.toList=n from rfl,hn] at hnmn
 have q1:decide (z<0)=false:=by simpa using h0
 have q2:decide (((v.length:Nat):Int)<z)=true:=by simpa using hz
 obtain ⟨W,hW⟩:∃ W,(w.alloc (.cells #[.slice ao L c,.int .i64 (d.writes:Int),.bool d.armed,.bool d.dead,.int .i64 (d.after:Int),.int .i64 (d.keep:Int)] 28)).alloc (.cells #[.slice none 0 0,.int .i64 0,.bool false,.bool false,.int .i64 0,.int .i64 0] 28)=W:=⟨_,rfl⟩
 have T:=ZaL w (.slice ao L c) (.int .i64 (d.writes:Int)) (.bool d.armed) (.bool d.dead) (.int .i64 (d.after:Int)) (.int .i64 (d.keep:Int)) (.slice none 0 0) (.int .i64 0) (.bool false) (.bool false) (.int .i64 0) (.int .i64 0);rw [hW] at T
 have B0:Below w.heap.size w W:=by rw [<- hW]; exact bz2 _ _ _
 obtain ⟨x0,x1,x2,x3,x4,x5⟩:=T.1.cells
 have H:Hid (Below w.heap.size w W/\Six W w.heap.size (.slice ao L c) (.int .i64 (d.writes:Int)) (.bool d.armed) (.bool d.dead) (.int .i64 (d.after:Int)) (.int .i64 (d.keep:Int))/\Six W (w.heap.size+1) (.slice none 0 0) (.int .i64 0) (.bool false) (.bool false) (.int .i64 0) (.int .i64 0)/\RdG encF w ao d.files/\d.files.length=L):=⟨B0,T.1,T.2,hR,hL⟩
 have hat:=ZbD (c:=c) d n W (hR.below B0) hL hl hf
 have hdata:=λ (W':World) (hB:Below W.heap.size W W')=>Zbn (c:=c) d n W' ((hR.below B0).below hB) hL hl hf
 clear hR hL hf T B0;go_enter Tryz.func114,Tryz.ntmps114;go_wp2_with fail;refine (hnmn _).mono ?_;rintro e w1 ⟨rfl,hw1⟩;rw [hw1];clear hw1 w1 hnmn;go_wp2_with fail;refine hat.mono ?_;rintro e w1 ⟨i,rfl,hi,hx,B1⟩
 have i0:decide ((i:Int)<0)=false:=by rw [decide_eq_false_iff_not]; omega
 clear x0 x1 x2 x3 x4 x5;obtain ⟨x0,x1,x2,x3,x4,x5⟩:=(H.out.2.1.below B1).cells;have HB1:Hid (Below W.heap.size W w1):=B1;clear B1 hat;go_wp2_with fail;refine (hdata w1 HB1.out).mono ?_;rintro e w1' ⟨rfl,B1'⟩;have HB1':Hid (Below W.heap.size W w1'):=HB1.out.trans (B1'.mono HB1.out.size);clear x0 x1 x2 x3 x4 x5;obtain ⟨x0,x1,x2,x3,x4,x5⟩:=(H.out.2.1.below HB1'.out).cells;clear B1' HB1 hdata;obtain ⟨y0,y1,y2,y3,y4,y5⟩:=(H.out.2.2.1.below HB1'.out).cells;obtain ⟨f0,f1,f2,f3,f4,f5⟩:=(H.out.2.2.1.below HB1'.out).thaw;have BB:Hid (Below w.heap.size w w1'):=H.out.1.trans (HB1'.out.mono H.out.1.size);go_wp2;refine bodyPost_ret (v:=.tuple #[rv ao L c d,.int .i64 3]) ?_ rfl ⟨rfl,Zbd BB.out (by omega) _ _ _ _ _ _⟩;simp [results,Tryz.f114];go_simp
theorem Zj5 (hR:RdG encF w ao d.files) (hL:d.files.length=L) (hl:L<=1000) (n:Bs) (z:Int) (hn:isName n=true) (hnl:n.length<=140737488355328) {v:Bs} (hf:fget d.files n=some v) (h0:0<=z) (hz:z<=(v.length:Int)) (hb:d.after<9223372036854775808) (hw:d.writes<4611686018427387904) (hdo:(dnext d).2.1=false) :
  Calls Tryz.prog 114 #[rv ao L c d,tx n,.int .i64 z] w λ e w'=>e=.returned (.tuple #[rv ao L c (dnext d).1,.int .i64 8])/\Below w.heap.size w w':=by
 have hnmn:=λ W=>Zap ⟨n.toArray⟩ (by rw [Zaw]; omega) W
 rw [show (⟨n.toArray⟩:ByteArray).data.toList=n from rfl,hn] at hnmn
 obtain ⟨W,hW⟩:∃ W,(w.alloc (.cells #[.slice ao L c,.int .i64 (d.writes:Int),.bool d.armed,.bool d.dead,.int .i64 (d.after:Int),.int .i64 (d.keep:Int)] 28)).alloc (.cells #[.slice none 0 0,.int .i64 0,.bool false,.bool false,.int .i64 0,.int .i64 0] 28)=W:=⟨_,rfl⟩
 have T:=ZaL w (.slice ao L c) (.int .i64 (d.writes:Int)) (.bool d.armed) (.bool d.dead) (.int .i64 (d.after:Int)) (.int .i64 (d.keep:Int)) (.slice none 0 0) (.int .i64 0) (.bool false) (.bool false) (.int .i64 0) (.int .i64 0);rw [hW] at T
 have B0:Below w.heap.size w W:=by rw [<- hW]; exact bz2 _ _ _
 obtain ⟨x0,x1,x2,x3,x4,x5⟩:=T.1.cells
 have H:Hid (Below w.heap.size w W/\Six W w.heap.size (.slice ao L c) (.int .i64 (d.writes:Int)) (.bool d.armed) (.bool d.dead) (.int .i64 (d.after:Int)) (.int .i64 (d.keep:Int))/\Six W (w.heap.size+1) (.slice none 0 0) (.int .i64 0) (.bool false) (.bool false) (.int .i64 0) (.int .i64 0)/\RdG encF w ao d.files/\d.files.length=L):=⟨B0,T.1,T.2,hR,hL⟩
 have q1:decide (z<0)=false:=by simpa using h0
 have q2:decide (((v.length:Nat):Int)<z)=false:=by rw [decide_eq_false_iff_not]; omega
 have hat:=ZbD (c:=c) d n W (hR.below B0) hL hl hf
 have hdata:=λ (W':World) (hB:Below W.heap.size W W')=>Zbn (c:=c) d n W' ((hR.below B0).below hB) hL hl hf
 have hnx:=λ w1=>ZbP (ao:=ao) (L:=L) (c:=c) (d:=d) (w:=w1) hb hw
 obtain ⟨D,hD⟩:∃ D,(dnext d).1=D:=⟨_,rfl⟩
 obtain ⟨tt,htt⟩:∃ tt,(dnext d).2.2=tt:=⟨_,rfl⟩
 rw [hdo,hD,htt] at hnx;rw [hD];clear hR hL hf T B0 hdo hD htt;go_enter Tryz.func114,Tryz.ntmps114;go_wp2_with fail;refine (hnmn _).mono ?_;rintro e w1 ⟨rfl,hw1⟩;rw [hw1];clear hw1 w1 hnmn;go_wp2_with fail;refine hat.mono ?_;rintro e w1 ⟨i,rfl,hi,hx,B1⟩
 have i0:decide ((i:Int)<0)=false:=by rw [decide_eq_false_iff_not]; omega
 clear x0 x1 x2 x3 x4 x5;obtain ⟨x0,x1,x2,x3,x4,x5⟩:=(H.out.2.1.below B1).cells;have HB1:Hid (Below W.heap.size W w1):=B1;clear B1 hat;go_wp2_with fail;refine (hdata w1 HB1.out).mono ?_;rintro e w1' ⟨rfl,B1'⟩;have HB1':Hid (Below W.heap.size W w1'):=HB1.out.trans (B1'.mono HB1.out.size);clear x0 x1 x2 x3 x4 x5;obtain ⟨x0,x1,x2,x3,x4,x5⟩:=(H.out.2.1.below HB1'.out).cells;clear B1' HB1 hdata;go_wp2_with fail;refine (hnx w1').mono ?_;rintro e w2 ⟨rfl,B2⟩;have Y:=(H.out.2.2.1.below HB1'.out).below B2;obtain ⟨y0,y1,y2,y3,y4,y5⟩:=Y.cells;obtain ⟨f0,f1,f2,f3,f4,f5⟩:=Y.thaw;have s2:w.heap.size+1<w2.heap.size:=Y.lt
 have ne:w2.heap.size≠w.heap.size+1:=by omega
 have ne':w.heap.size+1≠w2.heap.size:=by omega
 have BB:Hid (Below w.heap.size w w2):=by
  have b1:=H.out.1.trans (HB1'.out.mono H.out.1.size);exact b1.trans (B2.mono b1.size)
 clear B2 Y;go_wp2;have CL:=Zbd BB.out (b2:=w.heap.size+1) (by omega) (.slice ao L c) (.int .i64 (D.writes:Int)) (.bool D.armed) (.bool D.dead) (.int .i64 (D.after:Int)) (.int .i64 (D.keep:Int));refine bodyPost_ret (v:=.tuple #[rv ao L c D,.int .i64 8]) ?_ rfl ⟨rfl,CL.trans ((bz1 _ _).mono CL.size)⟩;simp [results,Tryz.f114];go_simp
theorem ZhY (hS:∀ i,S i->i<w.heap.size) (hR:RdG encF w ao d.files) (hL:d.files.length=L) (hl:L<=1000) (hr:Za4 d.files) (n:Bs) (z:Nat) (hn:isName n=true) (hnl:n.length<=140737488355328) {v:Bs} (hf:fget d.files n=some v) (hz:z<=v.length) (hb:d.after<9223372036854775808) (hw:d.writes<4611686018427387904) (hdo:(dnext d).2.1=true) :
  Calls Tryz.prog 114 #[rv ao L c d,tx n,.int .i64 (z:Int)] w λ e w'=>∃ v',e=.returned (.tuple #[v',.int .i64 0])/\RVS S w' v' { (dnext d).1 with files:=fwith d.files n (v.take z) }/\Below w.heap.size w w':=by
 have hnmn:=λ W=>Zap ⟨n.toArray⟩ (by rw [Zaw]; omega) W
 rw [show (⟨n.toArray⟩:ByteArray).data.toList=n from rfl,hn] at hnmn
 obtain ⟨W,hW⟩:∃ W,(w.alloc (.cells #[.slice ao L c,.int .i64 (d.writes:Int),.bool d.armed,.bool d.dead,.int .i64 (d.after:Int),.int .i64 (d.keep:Int)] 28)).alloc (.cells #[.slice none 0 0,.int .i64 0,.bool false,.bool false,.int .i64 0,.int .i64 0] 28)=W:=⟨_,rfl⟩
 have T:=ZaL w (.slice ao L c) (.int .i64 (d.writes:Int)) (.bool d.armed) (.bool d.dead) (.int .i64 (d.after:Int)) (.int .i64 (d.keep:Int)) (.slice none 0 0) (.int .i64 0) (.bool false) (.bool false) (.int .i64 0) (.int .i64 0);rw [hW] at T
 have B0:Below w.heap.size w W:=by rw [<- hW]; exact bz2 _ _ _
 obtain ⟨x0,x1,x2,x3,x4,x5⟩:=T.1.cells
 have H:Hid (Below w.heap.size w W/\Six W w.heap.size (.slice ao L c) (.int .i64 (d.writes:Int)) (.bool d.armed) (.bool d.dead) (.int .i64 (d.after:Int)) (.int .i64 (d.keep:Int))/\Six W (w.heap.size+1) (.slice none 0 0) (.int .i64 0) (.bool false) (.bool false) (.int .i64 0) (.int .i64 0)/\RdG encF w ao d.files/\d.files.length=L):=⟨B0,T.1,T.2,hR,hL⟩
 have hat:=ZbD (c:=c) d n W (hR.below B0) hL hl hf
 have hdata:=λ (W':World) (hB:Below W.heap.size W W')=>Zbn (c:=c) d n W' ((hR.below B0).below hB) hL hl hf
 have q1:decide ((z:Int)<0)=false:=by rw [decide_eq_false_iff_not]; omega
 have q2:decide (((v.length:Nat):Int)<(z:Int))=false:=by rw [decide_eq_false_iff_not]; omega
 have hwi:∀ W',RdG encF W' ao d.files->Calls Tryz.prog 176 #[.slice ao L c,.agg #[tx n,.string ((⟨v.toArray⟩:ByteArray).extract 0 z)]] W' λ e w'=>∃ u,e=.returned u/\OwnG encF 127 w' W'.heap.size u (fwith d.files n (v.take z))/\Below W'.heap.size W' w':=by
  intro W' hR';have:=Zcn (c:=c) d.files n (v.take z) W' hR' hL hl hr;rw [show tx (v.take z)=Value.string ((⟨v.toArray⟩:ByteArray).extract 0 z) by rw [ZbV]] at this;exact this
 have HWI:Hid _:=hwi;clear hwi
 have hnx:=λ w1=>ZbP (ao:=ao) (L:=L) (c:=c) (d:=d) (w:=w1) hb hw
 obtain ⟨D,hD⟩:∃ D,(dnext d).1=D:=⟨_,rfl⟩
 obtain ⟨tt,htt⟩:∃ tt,(dnext d).2.2=tt:=⟨_,rfl⟩
 rw [hdo,hD,htt] at hnx;rw [hD]
 have HS:Hid ((∀ i,S i->i<w.heap.size)/\Za4 d.files):=⟨hS,hr⟩
 clear hR hL hf T B0 hdo hD htt hS hr;go_enter Tryz.func114,Tryz.ntmps114;go_wp2_with fail;refine (hnmn _).mono ?_;rintro e w1 ⟨rfl,hw1⟩;rw [hw1];clear hw1 w1 hnmn;go_wp2_with fail;refine hat.mono ?_;rintro e w1 ⟨i,rfl,hi,hx,B1⟩
 have i0:decide ((i:Int)<0)=false:=by rw [decide_eq_false_iff_not]; omega
 clear x0 x1 x2 x3 x4 x5;obtain ⟨x0,x1,x2,x3,x4,x5⟩:=(H.out.2.1.below B1).cells;have HB1:Hid (Below W.heap.size W w1):=B1;clear B1 hat;go_wp2_with fail;refine (hdata w1 HB1.out).mono ?_;rintro e w1' ⟨rfl,B1'⟩;have HB1':Hid (Below W.heap.size W w1'):=HB1.out.trans (B1'.mono HB1.out.size);clear x0 x1 x2 x3 x4 x5;obtain ⟨x0,x1,x2,x3,x4,x5⟩:=(H.out.2.1.below HB1'.out).cells;clear B1' HB1 hdata;go_wp2_with fail;refine (hnx w1').mono ?_;rintro e w2 ⟨rfl,B2⟩;have HB2:Hid (Below w1'.heap.size w1' w2):=B2;clear B2
 obtain ⟨W2,hW2⟩:∃ W2,w2.alloc (.cells #[.slice ao L c,.int .i64 (D.writes:Int),.bool D.armed,.bool D.dead,.int .i64 (D.after:Int),.int .i64 (D.keep:Int)] 28)=W2:=⟨_,rfl⟩
 have b2:Below w2.heap.size w2 W2:=by rw [<- hW2]; exact bz1 _ _
 have X2:Six W2 w2.heap.size (.slice ao L c) (.int .i64 (D.writes:Int)) (.bool D.armed) (.bool D.dead) (.int .i64 (D.after:Int)) (.int .i64 (D.keep:Int)):=by rw [<- hW2]; exact Six.new w2 _ _ _ _ _ _
 have RW:Hid (RdG encF W2 ao d.files/\Below w2.heap.size w2 W2/\Six W2 w2.heap.size (.slice ao L c) (.int .i64 (D.writes:Int)) (.bool D.armed) (.bool D.dead) (.int .i64 (D.after:Int)) (.int .i64 (D.keep:Int))/\W2.heap.size=w2.heap.size+1):=⟨(((H.out.2.2.2.1.below H.out.1).below HB1'.out).below HB2.out).below b2,b2,X2,by rw [<- hW2]; simp⟩
 obtain ⟨u0,u1,u2,u3,u4,u5⟩:=X2.cells;clear b2 X2
 have iz:(0:Int)<=(z:Int):=by omega
 have iz2:(z:Int)<=((v.length:Nat):Int):=by omega
 have s2:w.heap.size+1<w2.heap.size:=((H.out.2.2.1.below HB1'.out).below HB2.out).lt
 have ne:w2.heap.size≠w.heap.size+1:=by omega
 have ne':w.heap.size+1≠w2.heap.size:=by omega
 go_wp2_with fail
 go_region_with
  (first | (go_at_call 176; refine (HWI.out W2.drew RW.out.1).mono ?_; rintro e w3 ⟨v3,rfl,O3,B3d⟩; obtain ⟨a3,c3,rfl,hc3,R3,F3⟩:=Zcv O3; have B3:=Zag B3d; have Y:=(((H.out.2.2.1.below HB1'.out).below HB2.out).below RW.out.2.1).below B3; obtain ⟨y0,y1,y2,y3,y4,y5⟩:=Y.cells; obtain ⟨f0,f1,f2,f3,f4,f5⟩:=Y.thaw; have Z3:=RW.out.2.2.1.below B3; obtain ⟨z0,z1,z2,z3,z4,z5⟩:=Z3.cells; have g0:=Z3.thaw.1; clear Y Z3))
 obtain ⟨M,hM⟩:∃ M,(fwith d.files n (v.take z)).length=M:=⟨_,rfl⟩
 have HB3:Hid (M<=c3/\RdG encF w3 a3 (fwith d.files n (v.take z))/\(0<M->∀ p,a3=some p->w2.heap.size<p.block)/\Below w.heap.size w w3):=⟨by rw [<- hM]; exact hc3,R3,λ h0 p hp=>by have:W2.heap.size<=p.block:=F3 (by rw [hM]; exact h0) p hp; have:=RW.out.2.2.2; omega,by
  have b1:=H.out.1.trans (HB1'.out.mono H.out.1.size);have b2:=b1.trans (HB2.out.mono b1.size);have b3:=b2.trans (RW.out.2.1.mono b2.size)
  exact b3.trans (B3.mono b3.size)⟩
 rw [hM];clear B3 B3d O3 hc3 R3 F3;go_wp2;have CL:=Zdk HB3.out.2.2.2 (b1:=w2.heap.size) (b2:=w.heap.size+1) (by omega) (by omega) (.slice a3 M c3) (.slice a3 M c3) (.int .i64 (D.writes:Int)) (.bool D.armed) (.bool D.dead) (.int .i64 (D.after:Int)) (.int .i64 (D.keep:Int));have RR:RVS S _ (rv a3 M c3 { D with files:=fwith d.files n (v.take z) }) { D with files:=fwith d.files n (v.take z) }:=RVS.close HS.out.1 (by omega) hM HB3.out.1 HB3.out.2.1 HB3.out.2.2.1 (by omega) CL.2;refine bodyPost_ret (v:=.tuple #[rv a3 M c3 { D with files:=fwith d.files n (v.take z) },.int .i64 0]) ?_ rfl ⟨_,rfl,RR,CL.1⟩;simp [results,Tryz.f114];go_simp
end
section
variable {S:Nat->Prop} {d:Dk} {w:World}
theorem RVS.next {w':World} {ao:Option Addr} {L c:Nat} (hL:d.files.length=L) (hc:L<=c) (hR:RdG encF w ao d.files) (hF:0<L->∀ p,ao=some p->¬ S p.block) (hb:Below w.heap.size w w'):RVS S w' (rv ao L c (dnext d).1) (dnext d).1 :=
 ⟨ao,L,c,rfl,by rw [ZaU]; exact hL,hc,by rw [ZaU]; exact hR.below hb,hF⟩
theorem ZjD (hS:∀ i,S i->i<w.heap.size) {v:Value} (h:RVS S w v d) (hk:d.ok) (hw:d.writes<4611686018427387904) (n:Bs) (z:Int) (hnl:n.length<=140737488355328) :
  Calls Tryz.prog 114 #[v,tx n,.int .i64 z] w λ e w'=>∃ v',e=.returned (.tuple #[v',.int .i64 (dtrim d n z).2])/\RVS S w' v' (dtrim d n z).1/\Below w.heap.size w w':=by
 obtain ⟨ao,L,c,rfl,hL,hc,hR,hF⟩:=h
 have same:∀ {w':World},Below w.heap.size w w'->RVS S w' (rv ao L c d) d:=λ hb=>⟨ao,L,c,rfl,hL,hc,hR.below hb,hF⟩
 have hl:L<=1000:=by have:=hk.few; omega
 unfold dtrim;by_cases hn:isName n=false
 ·rw [if_pos hn];refine (Zji n z hn hnl).mono ?_;rintro e w' ⟨rfl,hb⟩;exact ⟨_,rfl,same hb,hb⟩
 ·rw [if_neg hn]
  have hn:isName n=true:=by simpa using hn
  cases e:fget d.files n with
  | none =>
   refine (Zij hR hL hl n z hn hnl e).mono ?_;rintro e w' ⟨rfl,hb⟩;exact ⟨_,rfl,same hb,hb⟩
  | some s =>
   by_cases hz:z<0∨(s.length:Int)<z
   ·simp only [hz,if_true];by_cases h0:z<0
    ·refine (Zj3 hR hL hl n z hn hnl e h0).mono ?_;rintro e w' ⟨rfl,hb⟩;exact ⟨_,rfl,same hb,hb⟩
    ·refine (ZhT hR hL hl n z hn hnl e (by omega) (hz.elim (λ q=>absurd q h0) id)).mono ?_;rintro e w' ⟨rfl,hb⟩;exact ⟨_,rfl,same hb,hb⟩
   ·obtain ⟨q,rfl⟩:∃ q:Nat,z=(q:Int):=⟨z.toNat,by omega⟩
    by_cases hdo:(dnext d).2.1=true
    ·simp only [hz,hdo,if_true,if_false,Int.toNat_natCast];exact ZhY hS hR hL hl hk.rise n q hn hnl e (by omega) hk.after hw hdo
    ·have hdo':(dnext d).2.1=false:=by simpa using hdo
     simp only [hz,hdo',Bool.false_eq_true,if_false];refine (Zj5 hR hL hl n q hn hnl e (by omega) (by omega) hk.after hw hdo').mono ?_;rintro e w' ⟨rfl,hb⟩;exact ⟨_,rfl,RVS.next hL hc hR hF hb,hb⟩
end
end Go.Proofs.YtmhcpbbiokpjjaaGreat
