/-
  The store's Ref and Tag, and the statement's names: by contracts.
-/
import Derived.Test.YtmhcpbbiokpjjaaGreatM38
set_option maxHeartbeats 6400000
set_option maxRecDepth 100000
namespace Go.Proofs.YtmhcpbbiokpjjaaGreat
open Go.RowKit
section
variable {w:World} {s b:Nat} {st:St} {S:Nat->Prop}
theorem Zhd (h:Zac w s b st S) (n:Bs) (hn:n.length<=140737488355328) (g:Bool) (hg:(nget st.refs n).isSome=g) (y:Int) (hy:(((nget st.refs n).getD 0).toNat:Int)=y) :
  Calls Tryz.prog 74 #[.pointer (some ⟨s,0,none⟩),tx n] w λ e w'=>e=.returned (.tuple #[.int .u64 y,.bool g])/\Hid (Below w.heap.size w w'):=by
 obtain ⟨M,r,t,F,hX⟩:=h;have hlk:=Zbb hX.refs n hn;obtain ⟨c0,c1,c2,c3,c4,c5,c6⟩:=hX.cell;rw [hy,hg] at hlk;clear hX hy hg;go_enter Tryz.func74,Tryz.ntmps74;go_wp2;refine bodyPost_ret (results_tmp2 rfl _ _ _) rfl ?_;exact ⟨rfl,Below.refl _ _⟩
theorem ZhK (h:Zac w s b st S) (n:Bs) (hn:n.length<=140737488355328) (g:Bool) (hg:(nget st.tags n).isSome=g) (y:Int) (hy:(((nget st.tags n).getD 0).toNat:Int)=y) :
  Calls Tryz.prog 75 #[.pointer (some ⟨s,0,none⟩),tx n] w λ e w'=>e=.returned (.tuple #[.int .u64 y,.bool g])/\Hid (Below w.heap.size w w'):=by
 obtain ⟨M,r,t,F,hX⟩:=h;have hlk:=Zbb hX.tags n hn;obtain ⟨c0,c1,c2,c3,c4,c5,c6⟩:=hX.cell;rw [hy,hg] at hlk;clear hX hy hg;go_enter Tryz.func75,Tryz.ntmps75;go_wp2;refine bodyPost_ret (results_tmp2 rfl _ _ _) rfl ?_;exact ⟨rfl,Below.refl _ _⟩
end
theorem ZeB {ao ao2:Option Addr} {c c2 n:Nat} {es:List (Nm UInt64)} (w:World) (hr:RdG encE w ao es) (hr2:RdG encN w ao2 es) (hl:es.length=n) (hn:n<=1000000) :
  Calls Tryz.prog 63 #[.slice ao n c,.slice ao2 n c2] w λ e w'=>e=.returned (.bool true)/\Hid (Below w.heap.size w w'):=by
 have H:Hid (RdG encE w ao es/\RdG encN w ao2 es/\es.length=n):=⟨hr,hr2,hl⟩
 clear hr hr2 hl;go_enter Tryz.func63,Tryz.ntmps63;go_wp2_with fail;go_loopg [5] n (λ m iv wr=>∃ i:Nat,iv=.int .i64 i/\i+m=n/\Hid (Below w.heap.size w wr))
 case atStart=>exact ⟨0,rfl,by omega,Below.refl _ _⟩
 case round =>
  obtain ⟨i,rfl,hi,HR⟩:=hrel;by_cases hin:i<n
  ·have id:(i:Int)<(n:Int):=by omega
   have id0:(0:Int)<=(i:Int):=by omega
   obtain ⟨e,he⟩:=Zaf H.out.2.2 hin;obtain ⟨b,off,rfl,hlt⟩:=H.out.1.some_of he;obtain ⟨b2,off2,rfl,hlt2⟩:=H.out.2.1.some_of he;obtain ⟨hbw,c0,c1⟩:=(H.out.1.below HR.out).ents he;obtain ⟨d,z⟩:=e;obtain ⟨hbw2,c02,c12⟩:=(H.out.2.1.below HR.out).named he;simp only at c0 c1 c02 c12
   obtain ⟨zi,hz⟩:∃ zi:Int,(z.toNat:Int)=zi:=⟨_,rfl⟩
   rw [hz] at c1 c12;clear he hz;go_wp2_with fail;go_quiet (fail);go_wp2;go_roundg (gk - 1)
   case measure=>omega
   case rel=>exact ⟨i+1,by go_num,by omega,HR.out.trans ((bdrewN _ _).mono HR.out.size)⟩
  ·obtain rfl:i=n:=by omega
   go_wp2;go_ret;exact ⟨rfl,HR.out⟩
end Go.Proofs.YtmhcpbbiokpjjaaGreat
