/-
  Several texts, laid together.
-/
import Derived.Test.YtmhcpbbiokpjjaaGreatM27
import Derived.Test.YtmhcpbbiokpjjaaGreatM31
import Derived.Shelf.SlSortCmp.NoneTotal
import Derived.Lib.SlicesCompact
import Derived.Sort.Walk0
set_option maxHeartbeats 6400000
set_option maxRecDepth 100000
namespace Go.Proofs.YtmhcpbbiokpjjaaGreat
open Go.RowKit
theorem set6 (a0 a1 a2 a3 a4 a5 a6 a7 a8 a9 a10 a11 a12 a13 n2 n3 n4 n5 n6 n7:Value):setL #[a0,a1,a2,a3,a4,a5,a6,a7,a8,a9,a10,a11,a12,a13] [n2,n3,n4,n5,n6,n7] 2=#[a0,a1,n2,n3,n4,n5,n6,n7,a8,a9,a10,a11,a12,a13]:=by simp [setL]
theorem ZkW {B:Nat} {E:Nat->Prop} {w0 w:World} {s b:Nat} {fa oa ra ta xa ya za:Option Addr} {fl fc on oc rn rc tn tc xn xc yn yc zn zc:Nat} {U:Nat->Prop} {st:St} {d:Dk} {bl tl cl:List UInt64}
  (hI:WI B E w s b (.slice fa fl fc) (.slice oa on oc) (.slice ra rn rc) (.slice ta tn tc) (.slice xa xn xc) (.slice ya yn yc) (.slice za zn zc) U st d bl tl cl) (h0:Below B w0 w) (hB:B<=w.heap.size) (dv pv:Value) (nm:ByteArray) (dt kp:Int) (hkp : -9223372036854775808<=kp/\kp<=9223372036854775807) (qv:Value) (Q) (hQ:dcut d (dt.tmod 64) kp=Q) :
  Calls Tryz.prog 11 #[.agg (wdV s b d (.slice fa fl fc) (.slice oa on oc) (.slice ra rn rc) (.slice ta tn tc) (.slice xa xn xc) (.slice ya yn yc) (.slice za zn zc)),actV 6 dv pv qv nm dt kp] w λ e w'=>∃ vf vo vr vt,e=.returned (.tuple #[.agg (wdV s b Q.1 vf vo vr vt (.slice xa xn xc) (.slice ya yn yc) (.slice za zn zc)),.bool true])/\Hid (∃ U',WI B E w' s b vf vo vr vt (.slice xa xn xc) (.slice ya yn yc) (.slice za zn zc) U' st Q.1 bl tl cl/\Below B w0 w'/\∀ i,E i->w'.heap[i]? = w.heap[i]?):=by
 obtain ⟨W,hW⟩:∃ W,((w.alloc (.cells (wdV s b d (.slice fa fl fc) (.slice oa on oc) (.slice ra rn rc) (.slice ta tn tc) (.slice xa xn xc) (.slice ya yn yc) (.slice za zn zc)) 35)).alloc (.cells (actC 6 dv pv qv nm dt kp) 43)).alloc (.cells zeroW 35)=W:=⟨_,rfl⟩
 have bW:Below w.heap.size w W:=by rw [<- hW]; exact bz3 _ _ _ _
 have hBX:Bx w.heap.size W (wdV s b d (.slice fa fl fc) (.slice oa on oc) (.slice ra rn rc) (.slice ta tn tc) (.slice xa xn xc) (.slice ya yn yc) (.slice za zn zc)) (actC 6 dv pv qv nm dt kp):=by rw [<- hW]; exact Bx.new _ _ _
 have MD:Hid (Md B w.heap.size E (λ i=>Fb w.heap.size i∨E i) w0 w W s b (.slice fa fl fc) (.slice oa on oc) (.slice ra rn rc) (.slice ta tn tc) (.slice xa xn xc) (.slice ya yn yc) (.slice za zn zc) U st d bl tl cl (wdV s b d (.slice fa fl fc) (.slice oa on oc) (.slice ra rn rc) (.slice ta tn tc) (.slice xa xn xc) (.slice ya yn yc) (.slice za zn zc)) (actC 6 dv pv qv nm dt kp)):=Md.start hI h0 hB hBX bW
 have HH:Hid ((-9223372036854775808<=kp/\kp<=9223372036854775807)/\dcut d (dt.tmod 64) kp=Q):=⟨hkp,hQ⟩
 have y0:=hBX.act.cell (j:=0) rfl;have y5:=hBX.act.cell (j:=5) rfl;have y6:=hBX.act.cell (j:=6) rfl;have p0:=hBX.box.cell (j:=0) rfl;clear hI h0 hB hBX bW hQ hkp;go_enter Tryz.func11,Tryz.ntmps11
 go_upto_region 44 with fail
 clear hW;go_wp2_with fail;refine (MD.out.inv.duo.cuts (x:=dt.tmod 64) (y:=kp) (by have:=Int.tmod_lt_of_pos dt (b:=64) (by omega); have:=Int.lt_tmod_of_pos dt (b:=64) (by omega); omega) HH.out.1).mono ?_;rintro e u1 ⟨r8,rfl,H8⟩
 have HE:Hid (r8=Q.2/\Aft W u1 s b st Q.1 U (Zaj U W u1)):=by
  obtain ⟨q1,q2,q3,q4⟩:=H8.out;rw [HH.out.2] at q1 q2;exact ⟨q1,Aft.of (Below.refl _ _) (q2.mono (λ _ q=>.inl q) (λ i q=>q.elim (λ q=>q2.lt i q) (λ q=>q.2))) (q3.mono (λ i _ q=>by have q':i=b:=q; rw [q']; exact q4))⟩
 clear H8 y0 y5 y6 p0;obtain ⟨c1,c2,c3,c4,_⟩:=MD.out.call (u2:=u1) HE.out.2;have hr:=Zjj (ao:=fa) (L:=fl) (c:=fc) (d:=d) (w:=u1) (dt.tmod 64) kp;rw [HH.out.2] at hr;have g2:=c3.box.cell (j:=2) rfl;have g3:=c3.box.cell (j:=3) rfl;have g4:=c3.box.cell (j:=4) rfl;have g5:=c3.box.cell (j:=5) rfl;have g6:=c3.box.cell (j:=6) rfl;have g7:=c3.box.cell (j:=7) rfl;have ga:=c3.act.cell (j:=5) rfl;have gb:=c3.act.cell (j:=6) rfl;have C1:=hid c1;clear c1 c2 c3 c4;go_wp2_with fail;refine hr.mono ?_;rintro e u2 ⟨rfl,q4⟩
 have M2:Hid (Md B w.heap.size E (λ i=>Fb w.heap.size i∨E i) w0 w u2 s b (.slice fa fl fc) (.slice oa on oc) (.slice ra rn rc) (.slice ta tn tc) (.slice xa xn xc) (.slice ya yn yc) (.slice za zn zc) (Zaj U W u1) st Q.1 bl tl cl (wdV s b d (.slice fa fl fc) (.slice oa on oc) (.slice ra rn rc) (.slice ta tn tc) (.slice xa xn xc) (.slice ya yn yc) (.slice za zn zc)) (actC 6 dv pv qv nm dt kp)):=by
  refine (MD.out.call HE.out.2).2.2.2.2 _ _ _ _ q4 ?_;obtain ⟨_,_,_,_,_,_,_,_,_,_,_,_,em,l1,l2,l3,l4⟩:=C1.out.below q4;cases em
  have ef:Q.1.files=d.files:=by rw [<- HH.out.2]; exact ZiM _ _ _
  exact ⟨_,_,_,_,_,_,_,_,_,_,_,_,rfl,by rw [ef]; exact l1,l2,l3,l4⟩
 have eR:r8=Q.2:=HE.out.1;subst eR;clear q4 hr g2 g3 g4 g5 g6 g7 ga gb C1
 obtain ⟨X,hX⟩:∃ X,layL u2 w.heap.size [.slice fa fl fc,.int .i64 (Q.1.writes:Int),.bool Q.1.armed,.bool Q.1.dead,.int .i64 (Q.1.after:Int),.int .i64 (Q.1.keep:Int)] 2=X:=⟨_,rfl⟩
 have M3:Hid (Md B w.heap.size E (λ i=>Fb w.heap.size i∨E i) w0 w X s b (.slice fa fl fc) (.slice oa on oc) (.slice ra rn rc) (.slice ta tn tc) (.slice xa xn xc) (.slice ya yn yc) (.slice za zn zc) (Zaj U W u1) st Q.1 bl tl cl (wdV s b Q.1 (.slice fa fl fc) (.slice oa on oc) (.slice ra rn rc) (.slice ta tn tc) (.slice xa xn xc) (.slice ya yn yc) (.slice za zn zc)) (actC 6 dv pv qv nm dt kp)):=by
  have h1:=M2.out.bx.box.lays [.slice fa fl fc,.int .i64 (Q.1.writes:Int),.bool Q.1.armed,.bool Q.1.dead,.int .i64 (Q.1.after:Int),.int .i64 (Q.1.keep:Int)] 2;rw [hX,set6] at h1;exact M2.out.lay (by rw [<- hX]; exact Zam _ _ _) h1
 have TH:=hid (M2.out.bx.box.there (o:=2) (n:=6) (by simp [wdV]));have HXX:=hid hX;clear hX M2
 go_upto_region 54 with (refine Zah rfl 28 (.tmp 227) (.tmp 224) rfl w.heap.size 2 #[.slice fa fl fc,.int .i64 (Q.1.writes:Int),.bool Q.1.armed,.bool Q.1.dead,.int .i64 (Q.1.after:Int),.int .i64 (Q.1.keep:Int)] rfl rfl TH.out (by kernel_rfl) (by simp [Value.oneCell']) ?_; intro w9 hw9; obtain rfl:X=w9:=(hw9.trans HXX.out).symm; clear hw9; have yk:=M3.out.bx.act.cell (j:=0) rfl)
 obtain ⟨p0,p1,p2,p3,p4,p5,p6,p7,p8,p9,p10,p11,p12,p13⟩:=M3.out.bx.box.c14;obtain ⟨s0,s1,s2,s3,s4,s5,s6,s7,s8,s9,s10,s11,s12,s13⟩:=M3.out.bx.res.c14;obtain ⟨f0,f1,f2,f3,f4,f5,f6,f7,f8,f9,f10,f11,f12,f13⟩:=M3.out.bx.res.t14;go_wp2;refine bodyPost_ret (v:=.tuple #[.agg (wdV s b Q.1 (.slice fa fl fc) (.slice oa on oc) (.slice ra rn rc) (.slice ta tn tc) (.slice xa xn xc) (.slice ya yn yc) (.slice za zn zc)),.bool true]) ?_ rfl ⟨_,_,_,_,rfl,?_⟩
 ·simp [results,Tryz.f11];go_simp
 ·have ht:=Zam (W:=X) (w.heap.size+2) [.pointer (some ⟨b,0,none⟩),.pointer (some ⟨s,0,none⟩),.slice fa fl fc,.int .i64 (Q.1.writes:Int),.bool Q.1.armed,.bool Q.1.dead,.int .i64 (Q.1.after:Int),.int .i64 (Q.1.keep:Int),.slice oa on oc,.slice ra rn rc,.slice ta tn tc,.slice xa xn xc,.slice ya yn yc,.slice za zn zc] 0;simp only [layL,Nat.reduceAdd] at ht;exact ⟨_,M3.out.done ht⟩
end Go.Proofs.YtmhcpbbiokpjjaaGreat
namespace Go.Proofs.YtmhcpbbiokpjjaaGreat
open Go.RowKit Go.Shelf
def ZfJ:Go.Shelf.Ren:=⟨λ | 6=>186 | 15=>140 | 14=>231 | 28=>198 | 29=>199 | 20=>261 | 21=>262 | 22=>263 | 23=>264 | 24=>265 | 25=>266 | 26=>267 | 27=>268 | 46=>281 | 47=>234 | 48=>235 | 49=>282 | 50=>283 | 57=>289 | n=>n,λ | 22=>130 | 24=>241 | 25=>310 | 3=>3 | 39=>80 | 0=>0 | 53=>181 | 55=>52 | 4=>4 | 46=>313 | 45=>312 | 50=>252 | 5=>5 | 9=>9 | 66=>346 | 70=>349 | 76=>372 | 77=>373 | n=>n,λ | n=>n⟩
theorem laySortN:Go.Proofs.SlLaysF0.n6 Tryz.prog ZfJ:={
 mixed:=by kernel_rfl
 f6:=⟨Tryz.f186.name,by decide,Tryz.func186.trans (congrArg some (by kernel_rfl))⟩
 f14:=⟨Tryz.f231.name,by decide,Tryz.func231.trans (congrArg some (by kernel_rfl))⟩
 f15:=Tryz.func140.trans (congrArg some (by kernel_rfl))
 f20:=⟨Tryz.f261.name,by decide,Tryz.func261.trans (congrArg some (by kernel_rfl))⟩
 f21:=⟨Tryz.f262.name,by decide,Tryz.func262.trans (congrArg some (by kernel_rfl))⟩
 f22:=⟨Tryz.f263.name,by decide,Tryz.func263.trans (congrArg some (by kernel_rfl))⟩
 f23:=⟨Tryz.f264.name,by decide,Tryz.func264.trans (congrArg some (by kernel_rfl))⟩
 f24:=⟨Tryz.f265.name,by decide,Tryz.func265.trans (congrArg some (by kernel_rfl))⟩
 f25:=⟨Tryz.f266.name,by decide,Tryz.func266.trans (congrArg some (by kernel_rfl))⟩
 f26:=⟨Tryz.f267.name,by decide,Tryz.func267.trans (congrArg some (by kernel_rfl))⟩
 f27:=⟨Tryz.f268.name,by decide,Tryz.func268.trans (congrArg some (by kernel_rfl))⟩
 f28:=Tryz.func198.trans (congrArg some (by kernel_rfl))
 f29:=Tryz.func199.trans (congrArg some (by kernel_rfl))
 f46:=⟨Tryz.f281.name,by decide,Tryz.func281.trans (congrArg some (by kernel_rfl))⟩
 f47:=Tryz.func234.trans (congrArg some (by kernel_rfl))
 f48:=Tryz.func235.trans (congrArg some (by kernel_rfl))
 f49:=⟨Tryz.f282.name,by decide,Tryz.func282.trans (congrArg some (by kernel_rfl))⟩
 f50:=⟨Tryz.f283.name,by decide,Tryz.func283.trans (congrArg some (by kernel_rfl))⟩
 f57:=⟨Tryz.f289.name,by decide,Tryz.func289.trans (congrArg some (by kernel_rfl))⟩
 t0:=Tryz.underlying0
 a0:=Tryz.isAgg0
 z0:=Tryz.sizeOf0
 v0:=Tryz.zeroValue0
 t3:=Tryz.underlying3
 a3:=Tryz.isAgg3
 z3:=Tryz.sizeOf3
 v3:=Tryz.zeroValue3
 t4:=Tryz.underlying4
 a4:=Tryz.isAgg4
 z4:=Tryz.sizeOf4
 v4:=Tryz.zeroValue4
 t5:=Tryz.underlying5
 a5:=Tryz.isAgg5
 z5:=Tryz.sizeOf5
 v5:=Tryz.zeroValue5
 t9:=Tryz.underlying9
 a9:=Tryz.isAgg9
 z9:=Tryz.sizeOf9
 v9:=Tryz.zeroValue9
 t22:=Tryz.underlying130
 a22:=Tryz.isAgg130
 z22:=Tryz.sizeOf130
 v22:=Tryz.zeroValue130
 t25:=Tryz.underlying310
 a25:=Tryz.isAgg310
 z25:=Tryz.sizeOf310
 v25:=Tryz.zeroValue310
 t39:=Tryz.underlying80
 a39:=Tryz.isAgg80
 z39:=Tryz.sizeOf80
 v39:=Tryz.zeroValue80
 t45:=Tryz.underlying312
 a45:=Tryz.isAgg312
 z45:=Tryz.sizeOf312
 v45:=Tryz.zeroValue312
 t46:=Tryz.underlying313
 a46:=Tryz.isAgg313
 z46:=Tryz.sizeOf313
 v46:=Tryz.zeroValue313
 t50:=Tryz.underlying252
 a50:=Tryz.isAgg252
 z50:=Tryz.sizeOf252
 v50:=Tryz.zeroValue252
 t53:=Tryz.underlying181
 a53:=Tryz.isAgg181
 z53:=Tryz.sizeOf181
 v53:=Tryz.zeroValue181
 t55:=Tryz.underlying52
 a55:=Tryz.isAgg52
 z55:=Tryz.sizeOf52
 v55:=Tryz.zeroValue52
 t66:=Tryz.underlying346
 a66:=Tryz.isAgg346
 z66:=Tryz.sizeOf346
 v66:=Tryz.zeroValue346
 t70:=Tryz.underlying349
 a70:=Tryz.isAgg349
 z70:=Tryz.sizeOf349
 v70:=Tryz.zeroValue349
 t76:=Tryz.underlying372
 a76:=Tryz.isAgg372
 z76:=Tryz.sizeOf372
 v76:=Tryz.zeroValue372
 t77:=Tryz.underlying373
 a77:=Tryz.isAgg373
 z77:=Tryz.sizeOf373
 v77:=Tryz.zeroValue373 }
end Go.Proofs.YtmhcpbbiokpjjaaGreat
namespace Go.Proofs.YtmhcpbbiokpjjaaGreat
open Go.RowKit
theorem Zga (a:Bs):¬ a<a:=List.lt_irrefl a
theorem Zhn {a b c:Bs} (h:a<b) (k:b<c):a<c:=List.lt_trans h k
theorem Zmk (a b:Bs):a<b∨a=b∨b<a:=by
 by_cases h:a<b
 ·exact .inl h
 ·by_cases k:b<a
  ·exact .inr (.inr k)
  ·exact .inr (.inl (List.le_antisymm k h))
end Go.Proofs.YtmhcpbbiokpjjaaGreat
