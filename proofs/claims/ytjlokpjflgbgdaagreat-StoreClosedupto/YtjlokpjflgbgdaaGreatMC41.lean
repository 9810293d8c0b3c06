/-
  Several texts, laid together.
-/
import Derived.Test.YtjlokpjflgbgdaaGreatMC37
import Derived.Test.YtjlokpjflgbgdaaGreatMC38
import Derived.Test.YtjlokpjflgbgdaaGreatMC40
import Derived.Shelf.SlSortCmp.NoneTotal
import Derived.Lib.SlicesCompact
import Derived.Sort.Walk0
import Derived.Sort.OwnSorted
import Derived.Lib.OwnBridge
set_option maxHeartbeats 6400000
set_option maxRecDepth 100000
namespace Go.Proofs.YtjlokpjflgbgdaaGreat
open Go.RowKit
def WB (B R:Nat) (w0 u:World) (v:Wd):Prop:=∃ s b fa fl fc oa on oc ra rn rc ta tn tc xa xn xc ya yn yc za zn zc U,
 WI B (λ j=>j=R) u s b (.slice fa fl fc) (.slice oa on oc) (.slice ra rn rc) (.slice ta tn tc) (.slice xa xn xc) (.slice ya yn yc) (.slice za zn zc) U v.st v.d v.bl v.tl v.cl/\BoxA u R 35 (wdV s b v.d (.slice fa fl fc) (.slice oa on oc) (.slice ra rn rc) (.slice ta tn tc) (.slice xa xn xc) (.slice ya yn yc) (.slice za zn zc))/\Below B w0 u/\B<=R
theorem WB.start {w w1 w2:World} {s b:Nat} (h1:Below w.heap.size w w1) (hd:Duo w2 s b st0 dk0 (λ i=>w1.heap.size<=i/\i<w2.heap.size)) (h2:Below w1.heap.size w1 w2) :
  WI w.heap.size (λ j=>j=w2.heap.size) (w2.alloc (.cells (wdV s b dk0 nilV nilV nilV nilV nilV nilV nilV) 35)) s b nilV nilV nilV nilV nilV nilV nilV (λ i=>w1.heap.size<=i/\i<w2.heap.size) st0 dk0 [] [] []/\BoxA (w2.alloc (.cells (wdV s b dk0 nilV nilV nilV nilV nilV nilV nilV) 35)) w2.heap.size 35 (wdV s b dk0 nilV nilV nilV nilV nilV nilV nilV)/\Below w.heap.size w (w2.alloc (.cells (wdV s b dk0 nilV nilV nilV nilV nilV nilV nilV) 35))/\w.heap.size<=w2.heap.size:=by
 have b2:Below w.heap.size w w2:=h1.trans (h2.mono h1.size);have b3:=bz1 w2 (.cells (wdV s b dk0 nilV nilV nilV nilV nilV nilV nilV) 35);refine ⟨⟨hd.below b3,λ i q=>?_,rms0 _ _,λ i q r=>?_,λ i q=>?_,OwnG.nil _ _ _ _,OwnG.nil _ _ _ _,OwnG.nil _ _ _ _,λ g q=>(by cases q),λ g q=>(by cases q),λ g q=>(by cases q),λ g q=>(by cases q),λ g q=>(by cases q),λ g q=>(by cases q)⟩,BoxA.new _ _ _,b2.trans (b3.mono b2.size),b2.size⟩
 ·have:=q.1;have:=h1.size;omega
 ·have r':i=w2.heap.size:=r
  rcases q with q | q | q | q
  ·have:=q.2;omega
  ·cases q
  ·cases q
  ·cases q
 ·have q':i=w2.heap.size:=q;rw [q'];simp
theorem WB.stored {B R:Nat} {w0 w3:World} {s b:Nat} {v:Wd} {fa oa ra ta xa ya za:Option Addr} {fl fc on oc rn rc tn tc xn xc yn yc zn zc:Nat} {U:Nat->Prop} {cs:Array Value} (h1:WI B (λ j=>j=R) w3 s b (.slice fa fl fc) (.slice oa on oc) (.slice ra rn rc) (.slice ta tn tc) (.slice xa xn xc) (.slice ya yn yc) (.slice za zn zc) U v.st v.d v.bl v.tl v.cl) (h2:Below B w0 w3) (hb:BoxA w3 R 35 cs) (hs:∃ a0 a1 a2 a3 a4 a5 a6 a7 a8 a9 a10 a11 a12 a13,cs=#[a0,a1,a2,a3,a4,a5,a6,a7,a8,a9,a10,a11,a12,a13]) (hR:B<=R) :
  WB B R w0 (layL w3 R [.pointer (some ⟨b,0,none⟩),.pointer (some ⟨s,0,none⟩),.slice fa fl fc,.int .i64 (v.d.writes:Int),.bool v.d.armed,.bool v.d.dead,.int .i64 (v.d.after:Int),.int .i64 (v.d.keep:Int),.slice oa on oc,.slice ra rn rc,.slice ta tn tc,.slice xa xn xc,.slice ya yn yc,.slice za zn zc] 0) v:=by
 obtain ⟨a0,a1,a2,a3,a4,a5,a6,a7,a8,a9,a10,a11,a12,a13,rfl⟩:=hs;have hT:=lay_all (W:=w3) R [.pointer (some ⟨b,0,none⟩),.pointer (some ⟨s,0,none⟩),.slice fa fl fc,.int .i64 (v.d.writes:Int),.bool v.d.armed,.bool v.d.dead,.int .i64 (v.d.after:Int),.int .i64 (v.d.keep:Int),.slice oa on oc,.slice ra rn rc,.slice ta tn tc,.slice xa xn xc,.slice ya yn yc,.slice za zn zc] 0;have hM:=hb.lays [.pointer (some ⟨b,0,none⟩),.pointer (some ⟨s,0,none⟩),.slice fa fl fc,.int .i64 (v.d.writes:Int),.bool v.d.armed,.bool v.d.dead,.int .i64 (v.d.after:Int),.int .i64 (v.d.keep:Int),.slice oa on oc,.slice ra rn rc,.slice ta tn tc,.slice xa xn xc,.slice ya yn yc,.slice za zn zc] 0;rw [set14] at hM;exact ⟨s,b,fa,fl,fc,oa,on,oc,ra,rn,rc,ta,tn,tc,xa,xn,xc,ya,yn,yc,za,zn,zc,U,h1.turn hT (λ i q=>q),hM,h2.trans (hT.below (Nat.le_trans hR (Nat.le_of_lt hb.lt)) (λ i hi q=>by have q':i=R:=q; omega)),hR⟩
end Go.Proofs.YtjlokpjflgbgdaaGreat

namespace Go.Proofs.YtjlokpjflgbgdaaGreat
open Go.RowKit Go.Shelf
def laySortN_ren:Go.Shelf.Ren:=⟨λ | 6=>155 | 15=>159 | 14=>202 | 28=>213 | 29=>214 | 20=>241 | 21=>242 | 22=>243 | 23=>244 | 24=>245 | 25=>246 | 26=>247 | 27=>248 | 46=>275 | 47=>250 | 48=>251 | 49=>276 | 50=>277 | 57=>289 | n=>n,λ | 22=>70 | 24=>73 | 25=>269 | 3=>3 | 39=>100 | 0=>0 | 53=>198 | 55=>55 | 4=>4 | 46=>323 | 45=>322 | 50=>272 | 5=>5 | 9=>9 | 66=>358 | 70=>361 | 76=>380 | 77=>381 | n=>n,λ | n=>n⟩
theorem laySortN:Go.Proofs.SlLaysF0.n6 Tryz.prog laySortN_ren:={
 mixed:=by kernel_rfl
 f6:=⟨Tryz.f155.name,by decide,Tryz.func155.trans (congrArg some (by kernel_rfl))⟩
 f14:=⟨Tryz.f202.name,by decide,Tryz.func202.trans (congrArg some (by kernel_rfl))⟩
 f15:=Tryz.func159.trans (congrArg some (by kernel_rfl))
 f20:=⟨Tryz.f241.name,by decide,Tryz.func241.trans (congrArg some (by kernel_rfl))⟩
 f21:=⟨Tryz.f242.name,by decide,Tryz.func242.trans (congrArg some (by kernel_rfl))⟩
 f22:=⟨Tryz.f243.name,by decide,Tryz.func243.trans (congrArg some (by kernel_rfl))⟩
 f23:=⟨Tryz.f244.name,by decide,Tryz.func244.trans (congrArg some (by kernel_rfl))⟩
 f24:=⟨Tryz.f245.name,by decide,Tryz.func245.trans (congrArg some (by kernel_rfl))⟩
 f25:=⟨Tryz.f246.name,by decide,Tryz.func246.trans (congrArg some (by kernel_rfl))⟩
 f26:=⟨Tryz.f247.name,by decide,Tryz.func247.trans (congrArg some (by kernel_rfl))⟩
 f27:=⟨Tryz.f248.name,by decide,Tryz.func248.trans (congrArg some (by kernel_rfl))⟩
 f28:=Tryz.func213.trans (congrArg some (by kernel_rfl))
 f29:=Tryz.func214.trans (congrArg some (by kernel_rfl))
 f46:=⟨Tryz.f275.name,by decide,Tryz.func275.trans (congrArg some (by kernel_rfl))⟩
 f47:=Tryz.func250.trans (congrArg some (by kernel_rfl))
 f48:=Tryz.func251.trans (congrArg some (by kernel_rfl))
 f49:=⟨Tryz.f276.name,by decide,Tryz.func276.trans (congrArg some (by kernel_rfl))⟩
 f50:=⟨Tryz.f277.name,by decide,Tryz.func277.trans (congrArg some (by kernel_rfl))⟩
 f57:=⟨Tryz.f289.name,by decide,Tryz.func289.trans (congrArg some (by kernel_rfl))⟩
 t0:=Tryz.underlying0
 a0:=Tryz.isAgg0
 z0:=Tryz.sizeOf0
 v0:=Tryz.zeroValue0
 t3:=Tryz.underlying3
 a3:=Tryz.isAgg3
 z3:=Tryz.sizeOf3
 v3:=Tryz.zeroValue3
 t4:=Tryz.underlying4
 a4:=Tryz.isAgg4
 z4:=Tryz.sizeOf4
 v4:=Tryz.zeroValue4
 t5:=Tryz.underlying5
 a5:=Tryz.isAgg5
 z5:=Tryz.sizeOf5
 v5:=Tryz.zeroValue5
 t9:=Tryz.underlying9
 a9:=Tryz.isAgg9
 z9:=Tryz.sizeOf9
 v9:=Tryz.zeroValue9
 t22:=Tryz.underlying70
 a22:=Tryz.isAgg70
 z22:=Tryz.sizeOf70
 v22:=Tryz.zeroValue70
 t25:=Tryz.underlying269
 a25:=Tryz.isAgg269
 z25:=Tryz.sizeOf269
 v25:=Tryz.zeroValue269
 t39:=Tryz.underlying100
 a39:=Tryz.isAgg100
 z39:=Tryz.sizeOf100
 v39:=Tryz.zeroValue100
 t45:=Tryz.underlying322
 a45:=Tryz.isAgg322
 z45:=Tryz.sizeOf322
 v45:=Tryz.zeroValue322
 t46:=Tryz.underlying323
 a46:=Tryz.isAgg323
 z46:=Tryz.sizeOf323
 v46:=Tryz.zeroValue323
 t50:=Tryz.underlying272
 a50:=Tryz.isAgg272
 z50:=Tryz.sizeOf272
 v50:=Tryz.zeroValue272
 t53:=Tryz.underlying198
 a53:=Tryz.isAgg198
 z53:=Tryz.sizeOf198
 v53:=Tryz.zeroValue198
 t55:=Tryz.underlying55
 a55:=Tryz.isAgg55
 z55:=Tryz.sizeOf55
 v55:=Tryz.zeroValue55
 t66:=Tryz.underlying358
 a66:=Tryz.isAgg358
 z66:=Tryz.sizeOf358
 v66:=Tryz.zeroValue358
 t70:=Tryz.underlying361
 a70:=Tryz.isAgg361
 z70:=Tryz.sizeOf361
 v70:=Tryz.zeroValue361
 t76:=Tryz.underlying380
 a76:=Tryz.isAgg380
 z76:=Tryz.sizeOf380
 v76:=Tryz.zeroValue380
 t77:=Tryz.underlying381
 a77:=Tryz.isAgg381
 z77:=Tryz.sizeOf381
 v77:=Tryz.zeroValue381 }
end Go.Proofs.YtjlokpjflgbgdaaGreat

namespace Go.Proofs.YtjlokpjflgbgdaaGreat
open Go.RowKit
theorem bl_irrefl (a:Bs):¬ a<a:=List.lt_irrefl a
theorem bl_trans {a b c:Bs} (h:a<b) (k:b<c):a<c:=List.lt_trans h k
theorem bl_tri (a b:Bs):a<b∨a=b∨b<a:=by
 by_cases h:a<b
 ·exact .inl h
 ·by_cases k:b<a
  ·exact .inr (.inr k)
  ·exact .inr (.inl (List.le_antisymm k h))
end Go.Proofs.YtjlokpjflgbgdaaGreat

namespace Go.Proofs.YtjlokpjflgbgdaaGreat
open Go.RowKit
end Go.Proofs.YtjlokpjflgbgdaaGreat

namespace Go.Proofs.YtjlokpjflgbgdaaGreat
open Go.RowKit Go.Sort
end Go.Proofs.YtjlokpjflgbgdaaGreat
