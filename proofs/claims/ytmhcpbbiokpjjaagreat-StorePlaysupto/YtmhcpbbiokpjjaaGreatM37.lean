/-
  Several texts, laid together.
-/
import Derived.Sort.Walk7
import Derived.Test.YtmhcpbbiokpjjaaGreatM36
import Derived.Sort.Walk13a
import Derived.Sort.AssemblyPlain
set_option maxHeartbeats 6400000
set_option maxRecDepth 100000
namespace Go.Proofs.YtmhcpbbiokpjjaaGreat
open Go.RowKit Go.Sort Go.Shelf
def BoxU (w:World) (b:Nat) (r:UInt64):Prop:=w.heap[b]? = some (.cells #[.int .u64 (r.toNat:Int)] 346 (0,0))
section
variable {w w':World} {b:Nat} {r:UInt64}
theorem BoxU.lt (h:BoxU w b r):b<w.heap.size:=(Array.getElem?_eq_some_iff.1 h).1
theorem BoxU.cell (h:BoxU w b r):w.cell? ⟨b,0,none⟩=some (.int .u64 (r.toNat:Int)):=by
 unfold BoxU at h;simp [World.cell?,h]
theorem BoxU.thaw (h:BoxU w b r):w.frozen? ⟨b,0,none⟩=false:=by
 unfold BoxU at h;simp [World.frozen?,h]
theorem BoxU.below (h:BoxU w b r) (hb:Below w.heap.size w w'):BoxU w' b r:=(hb.block b h.lt).trans h
theorem BoxU.set (h:BoxU w b r) (s:UInt64):BoxU (w.setCell ⟨b,0,none⟩ (.int .u64 (s.toNat:Int))) b s:=by
 unfold BoxU at h ⊢;simp [World.setCell,Array.getElem?_modify,h]
theorem BoxU.turned {S:Nat->Prop} (h:BoxU w b r) (ht:Zaa S w w') (hS:¬ S b):BoxU w' b r:=(ht.block b h.lt hS).trans h
theorem BoxU.new (w:World) (r:UInt64):BoxU (w.alloc (.cells #[.int .u64 (r.toNat:Int)] 346)) w.heap.size r:=by
 show (w.heap.push _)[w.heap.size]? = _;simp
end
theorem ZkX {w:World} {xb:Nat} {r:UInt64} (h:BoxU w xb r):Calls Tryz.prog 235 #[.pointer (some ⟨xb,0,none⟩)] w λ e w'=>e=.returned (.int .u64 ((xorNext r).toNat:Int))/\Hid (BoxU w' xb (xorNext r)/\Zaa (λ k=>k=xb) w w'):=by
 have hc:=calls_of_every_depth λ D=>AnyS.xorshift_NextInS { klaySort with } D xb 0 r.toNat r.toNat_lt w h.cell h.thaw
 refine Calls.mono hc ?_;rintro e w' ⟨rfl,rfl⟩;rw [<- xorNext_toNat];have hb:=bdrewN (w.setCell ⟨xb,0,none⟩ (.int .u64 ((xorNext r).toNat:Int))) 3;exact ⟨rfl,(h.set (xorNext r)).below hb,((Zaa.refl (λ k=>k=xb) w).setCell (p:=⟨xb,0,none⟩) (.inl rfl) _).trans (Zaa.ofBelow (S:=λ _=>False) hb) (λ _ _ q=>q.elim)⟩
theorem Zm4 (n:Nat) (hn:n<4611686018427387904) (w:World):Calls Tryz.prog 234 #[.int .i64 (n:Int)] w λ e w'=>e=.returned (.int .u64 ((1 <<< bitsLen n:Nat):Int))/\w'=w :=
 calls_of_every_depth λ D=>AnyS.nextPowerOfTwoInS { klaySort with } D n hn w
theorem ZjV (n:Nat) (hn:n<4611686018427387904) (w:World):Calls Tryz.prog 140 #[.int .u64 (n:Int)] w λ e w'=>e=.returned (.int .i64 ((bitsLen n:Nat):Int))/\w'=w :=
 calls_of_every_depth λ D=>by
  have h:=AnyS.bits_LenInS { klaySort with } D (n:Int) w (by omega) (by omega)
  rwa [Int.toNat_natCast,bitLen_eq _ (by omega)] at h
theorem Zmz {w:World} {g n c a b:Nat} {d:Array UInt64} (h:SR w g d) (hd:d.size=n) (hab:a+8<=b) (hb:b<=n) (hn:n<=1000000000000) :
  Calls Tryz.prog 191 #[.slice (some ⟨g,0,none⟩) n c,.int .i64 (a:Int),.int .i64 (b:Int)] w λ e w'=>e=.returned (.tuple #[])/\Hid (SR w' g (breakPatterns d a b)/\Zaa (λ k=>k=g) w w'):=by
 obtain ⟨L,hL⟩:∃ L,a+L=b:=⟨b - a,by omega⟩
 obtain ⟨D,hD⟩:∃ D,breakPatterns d a b=D:=⟨_,rfl⟩
 rw [hD];rw [<- hL,breakPatterns_eq d a L (by omega)] at hD
 obtain ⟨M,hM⟩:∃ M:Nat,1 <<< bitsLen L=M:=⟨_,rfl⟩
 have hM1:1<=M:=by rw [<- hM,Nat.one_shiftLeft]; exact Nat.two_pow_pos _
 have hM2:M<=2*L:=by rw [<- hM,Nat.one_shiftLeft]; exact two_pow_bitsLen_le (by omega)
 have hP:=λ w=>Zm4 L (by omega) w
 rw [hM] at hD hP
 obtain ⟨q,hq⟩:∃ q,L / 4=q:=⟨_,rfl⟩
 obtain ⟨q2,hq2⟩:∃ q2,q*2=q2:=⟨_,rfl⟩
 obtain ⟨jm,hjm⟩:∃ jm,a+q2=jm:=⟨_,rfl⟩
 obtain ⟨base,hbase⟩:∃ base,jm - 1=base:=⟨_,rfl⟩
 obtain ⟨top,htop⟩:∃ top,jm+1=top:=⟨_,rfl⟩
 have hbb:a+L / 4*2 - 1=base:=by omega
 rw [hbb] at hD
 have m0:(b:Int) - (a:Int)=(L:Int):=by omega
 have m1:(L:Int).tdiv 4=(q:Int):=by rw [<- hq]; rfl
 have m2:(q:Int)*2=(q2:Int):=by omega
 have m3:(a:Int)+(q2:Int)=(jm:Int):=by omega
 have m4:(jm:Int) - 1=(base:Int):=by omega
 have m5:(jm:Int)+1=(top:Int):=by omega
 have w0:IntKind.i64.wrap (L:Int)=(L:Int):=by rw [IntKind.wrap_i64]; omega
 have wu:IntKind.u64.wrap (L:Int)=(L:Int):=by rw [IntKind.wrap_u64]; omega
 have w1:IntKind.i64.wrap (q:Int)=(q:Int):=by rw [IntKind.wrap_i64]; omega
 have w2:IntKind.i64.wrap (q2:Int)=(q2:Int):=by rw [IntKind.wrap_i64]; omega
 have w3:IntKind.i64.wrap (jm:Int)=(jm:Int):=by rw [IntKind.wrap_i64]; omega
 have w4:IntKind.i64.wrap (base:Int)=(base:Int):=by rw [IntKind.wrap_i64]; omega
 have w5:IntKind.i64.wrap (top:Int)=(top:Int):=by rw [IntKind.wrap_i64]; omega
 have g8:(8:Int)<=(L:Int):=by omega
 obtain ⟨xb,hxb⟩:∃ xb,w.heap.size=xb:=⟨_,rfl⟩
 obtain ⟨W,hW⟩:∃ W,W=w.alloc (.cells #[.int .u64 (L:Int)] 346):=⟨_,rfl⟩
 have hUL:(UInt64.ofNat L).toNat=L:=by simp; omega
 have NW:SR W g d/\BoxU W xb (UInt64.ofNat L)/\Below w.heap.size w W:=by
  have hB:Below w.heap.size w W:=by rw [hW]; exact (Below.refl _ w).alloc (Nat.le_refl _) _
  refine ⟨h.below hB,?_,hB⟩;have:=BoxU.new w (UInt64.ofNat L);rw [hUL] at this;rw [hW,<- hxb];exact this
 have NG:Hid (¬ xb=g):=by have:=h.lt; show ¬ _; omega
 have N0:Hid (bpRest a L M base 3 0 (UInt64.ofNat L,d)=D/\SR W g d/\BoxU W xb (UInt64.ofNat L)/\Zaa (λ k=>k=g∨k=xb) W W/\d.size=n):=⟨hD,NW.1,NW.2.1,Zaa.refl _ _,hd⟩
 have LAST:Hid (∀ w9:World,Zaa (λ k=>k=g∨k=xb) W w9->Zaa (λ k=>k=g) w w9):=λ w9 t=>(Zaa.ofBelow NW.2.2).trans t (λ k hk q=>q.elim id (λ e=>by omega))
 have SH:base+3=top+1/\a<=base/\top<b/\base+2=top:=by omega
 clear h hd hD NW hUL hbb hq hq2 hjm hbase htop hM;go_enter Tryz.func191,Tryz.ntmps191
 go_upto_region 3 with fail
 rw [<- hW];clear hW;go_wp2_with fail;refine (hP _).mono ?_;rintro e w3 ⟨rfl,hw3⟩;rw [hw3];clear hP hw3;go_wp2_with fail;go_loopg [9] 3 (λ k v9 wr=>∃ (idx t:Nat) (r:UInt64) (G:Array UInt64),v9=.int .i64 (idx:Int)/\t+k=3/\base+t=idx/\Hid (bpRest a L M base (3 - t) t (r,G)=D/\SR wr g G/\BoxU wr xb r/\Zaa (λ k=>k=g∨k=xb) W wr/\G.size=n))
 case atStart=>exact ⟨base,0,UInt64.ofNat L,d,rfl,rfl,rfl,N0.out⟩
 case round =>
  obtain ⟨idx,t,r,G,rfl,htk,hidx,HR⟩:=hrel;clear N0;have IX:Hid (base+t=idx):=hidx;by_cases ht3:t<3
  ·have z1:(idx:Int)<=(top:Int):=by omega
   obtain ⟨O,hO⟩:∃ O:Nat,O=(xorNext r).toNat &&& (M - 1):=⟨_,rfl⟩
   have lO:O<=M - 1:=by rw [hO]; exact Nat.and_le_right
   obtain ⟨M1,hM3⟩:∃ M1,M - 1=M1:=⟨_,rfl⟩
   have y1:(M:Int) - 1=(M1:Int):=by omega
   have y2:IntKind.u64.wrap (M1:Int)=(M1:Int):=by rw [IntKind.wrap_u64]; omega
   have y3:bits .and .u64 ((xorNext r).toNat:Int) (M1:Int)=(O:Int):=by
    rw [bits_and_u64_nat _ _ (xorNext r).toNat_lt (by omega),hO,hM3]
   have y4:IntKind.i64.wrap (O:Int)=(O:Int):=by rw [IntKind.wrap_i64]; omega
   have hN:=ZkX HR.out.2.2.1
   have z2:(idx:Int)<(n:Int):=by omega
   have z3:(0:Int)<=(idx:Int):=by omega
   by_cases hge:L<=O
   ·have ho3:L<=O:=hge
    obtain ⟨oo,hoo⟩:∃ oo,O - L=oo:=⟨_,rfl⟩
    have hol:oo<L:=by omega
    obtain ⟨ao,hao⟩:∃ ao,a+oo=ao:=⟨_,rfl⟩
    have ST0:bpRest a L M base (3 - (t+1)) (t+1) (xorNext r,swp G idx ao)=D:=by
     rw [<- HR.out.1,bp_step a L M base t r G oo (by omega) (by rw [<- hO,if_pos hge,hoo]),hidx,hao]
    have g1:(a:Int)+(oo:Int)=(ao:Int):=by omega
    have g2:IntKind.i64.wrap (ao:Int)=(ao:Int):=by rw [IntKind.wrap_i64]; omega
    have g3:(ao:Int)<(n:Int):=by omega
    have g4:(0:Int)<=(ao:Int):=by omega
    have g5:(L:Int)<=(O:Int):=by omega
    have g6:(O:Int) - (L:Int)=(oo:Int):=by omega
    have g7:IntKind.i64.wrap (oo:Int)=(oo:Int):=by rw [IntKind.wrap_i64]; omega
    have ST1:Hid (bpRest a L M base (3 - (t+1)) (t+1) (xorNext r,swp G idx ao)=D):=ST0;clear ST0;by_cases hEq:idx=ao
    ·subst hEq;have ST:Hid (bpRest a L M base (3 - (t+1)) (t+1) (xorNext r,swp G idx idx)=D):=ST1.out;clear ST1 hao hoo hO hidx;go_wp2_with fail;refine hN.mono ?_;rintro e w5 ⟨rfl,H5⟩
     have N5:Hid (SR w5 g G/\BoxU w5 xb (xorNext r)/\Zaa (λ k=>k=g∨k=xb) W w5/\G.size=n):=⟨HR.out.2.1.turned H5.out.2 (λ e=>NG.out e.symm),H5.out.1,HR.out.2.2.2.1.trans H5.out.2 (λ _ _ q=>.inr q),HR.out.2.2.2.2⟩
     clear HR H5 hN
     obtain ⟨x,hx⟩:∃ x,G[idx]! = x:=⟨_,rfl⟩
     have c0:w5.cell? ⟨g,idx,none⟩=some (uv x):=by rw [<- hx]; exact N5.out.1.cell (by have:=N5.out.2.2.2; omega)
     have f0:=N5.out.1.thaw idx
     have HXY:Hid (G[idx]! = x/\G[idx]! = x):=⟨hx,hx⟩
     clear hx;go_wp2_with fail;go_region;go_wp2;go_roundg (gk - 1)
     case measure=>omega
     case rel=>exact ⟨idx+1,t+1,xorNext r,swp G idx idx,by go_num,by omega,by have:=IX.out; omega,ST.out,N5.out.1.drewSwap HXY.out.1 HXY.out.2,N5.out.2.1.turned (turnSwap (Zaa.refl (λ k=>k=g) w5) _ _ _ _) (λ e=>NG.out e),N5.out.2.2.1.trans (turnSwap (Zaa.refl (λ k=>k=g) w5) _ _ _ _) (λ _ _ q=>.inl q),by rw [Zar]; exact N5.out.2.2.2⟩
    ·have ST:Hid (bpRest a L M base (3 - (t+1)) (t+1) (xorNext r,swp G idx ao)=D):=ST1.out;clear ST1 hao hoo hO hidx;go_wp2_with fail;refine hN.mono ?_;rintro e w5 ⟨rfl,H5⟩
     have N5:Hid (SR w5 g G/\BoxU w5 xb (xorNext r)/\Zaa (λ k=>k=g∨k=xb) W w5/\G.size=n):=⟨HR.out.2.1.turned H5.out.2 (λ e=>NG.out e.symm),H5.out.1,HR.out.2.2.2.1.trans H5.out.2 (λ _ _ q=>.inr q),HR.out.2.2.2.2⟩
     clear HR H5 hN
     obtain ⟨x,hx⟩:∃ x,G[idx]! = x:=⟨_,rfl⟩
     obtain ⟨y,hy⟩:∃ y,G[ao]! = y:=⟨_,rfl⟩
     have c0:w5.cell? ⟨g,idx,none⟩=some (uv x):=by rw [<- hx]; exact N5.out.1.cell (by have:=N5.out.2.2.2; omega)
     have c1:w5.cell? ⟨g,ao,none⟩=some (uv y):=by rw [<- hy]; exact N5.out.1.cell (by have:=N5.out.2.2.2; omega)
     have f0:=N5.out.1.thaw idx;have f1:=N5.out.1.thaw ao
     have HXY:Hid (G[idx]! = x/\G[ao]! = y):=⟨hx,hy⟩
     have nt:¬ idx=ao:=hEq
     have nt2:¬ ao=idx:=λ e=>nt e.symm
     clear hx hy;go_wp2_with fail;go_region;go_wp2;go_roundg (gk - 1)
     case measure=>omega
     case rel=>exact ⟨idx+1,t+1,xorNext r,swp G idx ao,by go_num,by omega,by have:=IX.out; omega,ST.out,N5.out.1.drewSwap HXY.out.1 HXY.out.2,N5.out.2.1.turned (turnSwap (Zaa.refl (λ k=>k=g) w5) _ _ _ _) (λ e=>NG.out e),N5.out.2.2.1.trans (turnSwap (Zaa.refl (λ k=>k=g) w5) _ _ _ _) (λ _ _ q=>.inl q),by rw [Zar]; exact N5.out.2.2.2⟩
   ·have ho3:¬ L<=O:=hge
    obtain ⟨oo,hoo⟩:∃ oo,O=oo:=⟨_,rfl⟩
    have hol:oo<L:=by omega
    obtain ⟨ao,hao⟩:∃ ao,a+oo=ao:=⟨_,rfl⟩
    have ST0:bpRest a L M base (3 - (t+1)) (t+1) (xorNext r,swp G idx ao)=D:=by
     rw [<- HR.out.1,bp_step a L M base t r G oo (by omega) (by rw [<- hO,if_neg hge,hoo]),hidx,hao]
    have g1:(a:Int)+(oo:Int)=(ao:Int):=by omega
    have g2:IntKind.i64.wrap (ao:Int)=(ao:Int):=by rw [IntKind.wrap_i64]; omega
    have g3:(ao:Int)<(n:Int):=by omega
    have g4:(0:Int)<=(ao:Int):=by omega
    have g5:¬ (L:Int)<=(O:Int):=by omega
    have g6:O=oo:=hoo;have ST1:Hid (bpRest a L M base (3 - (t+1)) (t+1) (xorNext r,swp G idx ao)=D):=ST0;clear ST0;subst g6;by_cases hEq:idx=ao
    ·subst hEq;have ST:Hid (bpRest a L M base (3 - (t+1)) (t+1) (xorNext r,swp G idx idx)=D):=ST1.out;clear ST1 hao hO hidx;go_wp2_with fail;refine hN.mono ?_;rintro e w5 ⟨rfl,H5⟩
     have N5:Hid (SR w5 g G/\BoxU w5 xb (xorNext r)/\Zaa (λ k=>k=g∨k=xb) W w5/\G.size=n):=⟨HR.out.2.1.turned H5.out.2 (λ e=>NG.out e.symm),H5.out.1,HR.out.2.2.2.1.trans H5.out.2 (λ _ _ q=>.inr q),HR.out.2.2.2.2⟩
     clear HR H5 hN
     obtain ⟨x,hx⟩:∃ x,G[idx]! = x:=⟨_,rfl⟩
     have c0:w5.cell? ⟨g,idx,none⟩=some (uv x):=by rw [<- hx]; exact N5.out.1.cell (by have:=N5.out.2.2.2; omega)
     have f0:=N5.out.1.thaw idx
     have HXY:Hid (G[idx]! = x/\G[idx]! = x):=⟨hx,hx⟩
     clear hx;go_wp2_with fail;go_region;go_wp2;go_roundg (gk - 1)
     case measure=>omega
     case rel=>exact ⟨idx+1,t+1,xorNext r,swp G idx idx,by go_num,by omega,by have:=IX.out; omega,ST.out,N5.out.1.drewSwap HXY.out.1 HXY.out.2,N5.out.2.1.turned (turnSwap (Zaa.refl (λ k=>k=g) w5) _ _ _ _) (λ e=>NG.out e),N5.out.2.2.1.trans (turnSwap (Zaa.refl (λ k=>k=g) w5) _ _ _ _) (λ _ _ q=>.inl q),by rw [Zar]; exact N5.out.2.2.2⟩
    ·have ST:Hid (bpRest a L M base (3 - (t+1)) (t+1) (xorNext r,swp G idx ao)=D):=ST1.out;clear ST1 hao hO hidx;go_wp2_with fail;refine hN.mono ?_;rintro e w5 ⟨rfl,H5⟩
     have N5:Hid (SR w5 g G/\BoxU w5 xb (xorNext r)/\Zaa (λ k=>k=g∨k=xb) W w5/\G.size=n):=⟨HR.out.2.1.turned H5.out.2 (λ e=>NG.out e.symm),H5.out.1,HR.out.2.2.2.1.trans H5.out.2 (λ _ _ q=>.inr q),HR.out.2.2.2.2⟩
     clear HR H5 hN
     obtain ⟨x,hx⟩:∃ x,G[idx]! = x:=⟨_,rfl⟩
     obtain ⟨y,hy⟩:∃ y,G[ao]! = y:=⟨_,rfl⟩
     have c0:w5.cell? ⟨g,idx,none⟩=some (uv x):=by rw [<- hx]; exact N5.out.1.cell (by have:=N5.out.2.2.2; omega)
     have c1:w5.cell? ⟨g,ao,none⟩=some (uv y):=by rw [<- hy]; exact N5.out.1.cell (by have:=N5.out.2.2.2; omega)
     have f0:=N5.out.1.thaw idx;have f1:=N5.out.1.thaw ao
     have HXY:Hid (G[idx]! = x/\G[ao]! = y):=⟨hx,hy⟩
     have nt:¬ idx=ao:=hEq
     have nt2:¬ ao=idx:=λ e=>nt e.symm
     clear hx hy;go_wp2_with fail;go_region;go_wp2;go_roundg (gk - 1)
     case measure=>omega
     case rel=>exact ⟨idx+1,t+1,xorNext r,swp G idx ao,by go_num,by omega,by have:=IX.out; omega,ST.out,N5.out.1.drewSwap HXY.out.1 HXY.out.2,N5.out.2.1.turned (turnSwap (Zaa.refl (λ k=>k=g) w5) _ _ _ _) (λ e=>NG.out e),N5.out.2.2.1.trans (turnSwap (Zaa.refl (λ k=>k=g) w5) _ _ _ _) (λ _ _ q=>.inl q),by rw [Zar]; exact N5.out.2.2.2⟩
  ·have z1:¬ (idx:Int)<=(top:Int):=by omega
   have FIN:Hid (SR wr g D/\Zaa (λ k=>k=g) w wr):=by
    have e3:t=3:=by omega
    have hq:=HR.out.1;rw [e3] at hq;have hq':G=D:=hq;rw [<- hq'];exact ⟨HR.out.2.1,LAST.out _ HR.out.2.2.2.1⟩
   clear HR;go_wp2;refine bodyPost_end (v:=.tuple #[]) (results_none rfl _ _ _) rfl ?_;exact ⟨rfl,FIN⟩
end Go.Proofs.YtmhcpbbiokpjjaaGreat
namespace Go.Proofs.YtmhcpbbiokpjjaaGreat
open Go.Sort hiding Below
theorem swoU:SWO ltU where
 irrefl x:=by simp [ltU]
 trans x y z h1 h2:=by simp only [ltU,decide_eq_true_eq,UInt64.lt_iff_toNat_lt] at *; omega
 ntrans x y z h1 h2:=by simp only [ltU,decide_eq_false_iff_not,UInt64.lt_iff_toNat_lt] at *; omega
theorem ZdF {d:Array UInt64} {a b s n:Nat} (ha:n<=a) (hb:n<=b):n<=(order2 ltU d a b s).1/\n<=(order2 ltU d a b s).2.1:=by
 unfold order2
 split
 ·exact ⟨hb,ha⟩
 ·exact ⟨ha,hb⟩
theorem ZbS {d:Array UInt64} {a b e0 s n:Nat} (ha:n<=a) (hb:n<=b) (he:n<=e0):n<=(median ltU d a b e0 s).1:=by
 have l1:=ZdF (d:=d) (s:=s) ha hb;have l2:=ZdF (d:=d) (s:=(order2 ltU d a b s).2.2) l1.2 he;exact (ZdF (d:=d) (s:=(order2 ltU d (order2 ltU d a b s).2.1 e0 (order2 ltU d a b s).2.2).2.2) l1.1 l2.1).2
theorem Zm9 {d:Array UInt64} {a b:Nat} (h:12<b - a):a<(choosePivot ltU d a b).1/\(choosePivot ltU d a b).1+1<b:=by
 obtain ⟨l,hl⟩:∃ l,b - a=l:=⟨_,rfl⟩
 obtain ⟨q,hq⟩:∃ q,l / 4=q:=⟨_,rfl⟩
 unfold choosePivot;simp only [hl,hq]
 have h8:l≥8:=by omega
 simp only [h8,if_true]
 have hb:b - 1<=b:=by omega
 split
 ·have x1:∀ s,a+1<=(medianAdjacent ltU d (a+q*1) s).1/\(medianAdjacent ltU d (a+q*1) s).1<b - 1:=λ s=>⟨ZbS (by omega) (by omega) (by omega),(Za0 (by omega) (by omega) (by omega)).1⟩
  have x2:∀ s,a+1<=(medianAdjacent ltU d (a+q*2) s).1/\(medianAdjacent ltU d (a+q*2) s).1<b - 1:=λ s=>⟨ZbS (by omega) (by omega) (by omega),(Za0 (by omega) (by omega) (by omega)).1⟩
  have x3:∀ s,a+1<=(medianAdjacent ltU d (a+q*3) s).1/\(medianAdjacent ltU d (a+q*3) s).1<b - 1:=λ s=>⟨ZbS (by omega) (by omega) (by omega),(Za0 (by omega) (by omega) (by omega)).1⟩
  have y1:=ZbS (d:=d) (s:=(medianAdjacent ltU d (a+q*3) (medianAdjacent ltU d (a+q*2) (medianAdjacent ltU d (a+q*1) 0).2).2).2) (x1 0).1 (x2 (medianAdjacent ltU d (a+q*1) 0).2).1 (x3 (medianAdjacent ltU d (a+q*2) (medianAdjacent ltU d (a+q*1) 0).2).2).1;have y2:=(Za0 (d:=d) (s:=(medianAdjacent ltU d (a+q*3) (medianAdjacent ltU d (a+q*2) (medianAdjacent ltU d (a+q*1) 0).2).2).2) (x1 0).2 (x2 (medianAdjacent ltU d (a+q*1) 0).2).2 (x3 (medianAdjacent ltU d (a+q*2) (medianAdjacent ltU d (a+q*1) 0).2).2).2).1;exact ⟨by omega,by omega⟩
 ·have y1:=ZbS (d:=d) (a:=a+q*1) (b:=a+q*2) (e0:=a+q*3) (s:=0) (n:=a+1) (by omega) (by omega) (by omega);have y2:=(Za0 (d:=d) (a:=a+q*1) (b:=a+q*2) (e0:=a+q*3) (s:=0) (n:=b - 1) (by omega) (by omega) (by omega)).1;exact ⟨by omega,by omega⟩
structure Rnd (E:Array UInt64) (a b lim:Nat) (wb wp:Bool) (d1:Array UInt64) (l1 cp:Nat) (ch:Hint) (d2:Array UInt64) (pv:Nat) (ht:Hint) (p1:Array UInt64) (p2:Bool):Prop where
 wbt:wb=true->E=d1/\lim=l1
 wbf:wb=false->breakPatterns E a b=d1/\lim - 1=l1
 piv:choosePivot ltU d1 a b=(cp,ch)
 dec:ch=.decreasing->reverseRange d1 a b=d2/\(b - 1) - (cp - a)=pv/\ht=.increasing
 inc:ch≠.decreasing->d1=d2/\cp=pv/\ht=ch
 yes:(wb&&wp&&decide (ht=.increasing))=true->partialInsertionSort ltU d2 a b=(p1,p2)
 no:(wb&&wp&&decide (ht=.increasing))=false->d2=p1/\p2=false
 s1:d1.size=E.size
 s2:d2.size=E.size
 s3:p1.size=E.size
 cpr:a<cp/\cp+1<b
 pvr:a<pv/\pv<b
 llim:l1<=lim
 done:p2=true->pdq ltU E a b lim wb wp=p1
 eql:p2=false->(decide (a>0)&&!ltU p1[a - 1]! p1[pv]!)=true->∀ mid d4,partitionEqual ltU p1 a b pv=(mid,d4)->a<mid/\mid<=b/\d4.size=E.size/\Go.Sort.Below ltU mid b d4/\pdq ltU E a b lim wb wp=pdq ltU d4 mid b l1 wb wp
 prt:p2=false->(decide (a>0)&&!ltU p1[a - 1]! p1[pv]!)=false->∀ mid ap d4,partition ltU p1 a b pv=(mid,ap,d4)->a<=mid/\mid<b/\d4.size=E.size/\Go.Sort.Below ltU a mid d4/\Go.Sort.Below ltU (mid+1) b d4 /\
  (mid - a<b - mid->(pdq ltU d4 a mid l1 true true).size=E.size/\Go.Sort.Below ltU (mid+1) b (pdq ltU d4 a mid l1 true true)/\pdq ltU E a b lim wb wp=pdq ltU (pdq ltU d4 a mid l1 true true) (mid+1) b l1 (decide (mid - a≥(b - a) / 8)) ap) /\
  (¬ mid - a<b - mid->(pdq ltU d4 (mid+1) b l1 true true).size=E.size/\Go.Sort.Below ltU a mid (pdq ltU d4 (mid+1) b l1 true true)/\pdq ltU E a b lim wb wp=pdq ltU (pdq ltU d4 (mid+1) b l1 true true) a mid l1 (decide (b - mid≥(b - a) / 8)) ap)
theorem rnd (E:Array UInt64) (a b lim:Nat) (wb wp:Bool) (h12:¬ b - a<=12) (hl:¬ lim=0) (hb:b<=E.size) (hB:Go.Sort.Below ltU a b E):∃ d1 l1 cp ch d2 pv ht p1 p2,Rnd E a b lim wb wp d1 l1 cp ch d2 pv ht p1 p2:=by
 obtain ⟨s1,B1,hc1,s2,B2,hpv,s3,B3⟩:=rd_facts (limit:=lim) (wb:=wb) (wp:=wp) swoU partialInsertionSort_holds reverseRange_holds (show a<b by omega) hb hB
 have hpk:a<(rd ltU E a b lim wb wp).c.1/\(rd ltU E a b lim wb wp).c.1+1<b:=by
  rw [rd_c];exact Zm9 (by omega)
 refine ⟨(rd ltU E a b lim wb wp).d1,(rd ltU E a b lim wb wp).lim,(rd ltU E a b lim wb wp).c.1,(rd ltU E a b lim wb wp).c.2,(rd ltU E a b lim wb wp).d2,(rd ltU E a b lim wb wp).pivot,(rd ltU E a b lim wb wp).hint,(rd ltU E a b lim wb wp).pi.1,(rd ltU E a b lim wb wp).pi.2,?_⟩
 have hpv2:a<(rd ltU E a b lim wb wp).pivot/\(rd ltU E a b lim wb wp).pivot<b:=by
  refine ⟨?_,hpv.2⟩;by_cases hh:(rd ltU E a b lim wb wp).c.2=.decreasing
  ·rw [(rd_dec hh).2.1]; omega
  ·rw [(rd_not hh).2.1]; exact hpk.1
 exact {
  wbt:=λ e=>by subst e; exact ⟨rfl,rfl⟩
  wbf:=λ e=>by subst e; exact ⟨rfl,rfl⟩
  piv:=rfl
  dec:=λ e=>⟨(rd_dec e).1.symm,(rd_dec e).2.1.symm,(rd_dec e).2.2⟩
  inc:=λ e=>⟨(rd_not e).1.symm,(rd_not e).2.1.symm,(rd_not e).2.2⟩
  yes:=λ e=>(rd_pi_yes e).symm
  no:=λ e=>by rw [rd_pi_no e]; exact ⟨rfl,rfl⟩
  s1:=s1,s2:=s2,s3:=s3,cpr:=hpk,pvr:=hpv2,llim:=rd_lim_le
  done:=λ e=>pdq_done h12 hl e
  eql:=λ e g mid d4 hx=>by
   have g':=g;simp only [Bool.and_eq_true,decide_eq_true_eq,Bool.not_eq_true'] at g';obtain ⟨r1,r2,r3,r4,_⟩:=round_eq swoU (partitionEqual_holds ltU) g'.1 hpv.1 hpv.2 (by rw [s3]; exact hb) B3 g'.2 hx;exact ⟨r1,r2,r3.trans s3,r4,by rw [pdq_eq h12 hl e g (by rw [hx]; exact ⟨r1,r2⟩),hx]⟩
  prt:=λ e g mid ap d4 hx=>by
   obtain ⟨r1,r2,r3,r4,r5,r6,r7⟩:=round_part swoU (partition_holds ltU) hpv.1 hpv.2 (by rw [s3]; exact hb) B3 hx;refine ⟨r1,r2,r3.trans s3,r4,r5,λ q=>?_,λ q=>?_⟩
   ·obtain ⟨pL,sL⟩:=pdq_sorts ltU swoU d4 a mid (rd ltU E a b lim wb wp).lim true true (by omega) (by rw [r3,s3]; omega) r4;exact ⟨by rw [pL.1,r3,s3],(r6 _ pL sL).1,by rw [pdq_left h12 hl e g (by rw [hx]; exact ⟨r1,r2⟩) (by rw [hx]; exact q),hx]⟩
   ·obtain ⟨pL,sL⟩:=pdq_sorts ltU swoU d4 (mid+1) b (rd ltU E a b lim wb wp).lim true true (by omega) (by rw [r3,s3]; omega) r5
    exact ⟨by rw [pL.1,r3,s3],(r7 _ pL sL).1,by rw [pdq_right h12 hl e g (by rw [hx]; exact ⟨r1,r2⟩) (by rw [hx]; exact q),hx]⟩ }
end Go.Proofs.YtmhcpbbiokpjjaaGreat
namespace Go.Proofs.YtmhcpbbiokpjjaaGreat
open Go.RowKit
open Go.Sort hiding Below
theorem ZmP:∀ (N:Nat) (w:World) (g n c a b lim:Nat) (d:Array UInt64),b - a<N->SR w g d->d.size=n->a<=b->b<=n->n<=1000000000000->lim<=1000->Go.Sort.Below ltU a b d->∀ D,pdq ltU d a b lim true true=D ->
  Calls Tryz.prog 139 #[.slice (some ⟨g,0,none⟩) n c,.int .i64 (a:Int),.int .i64 (b:Int),.int .i64 (lim:Int)] w λ e w'=>e=.returned (.tuple #[])/\Hid (SR w' g D/\Zaa (λ k=>k=g) w w'):=by
 intro N
 induction N with
 | zero=>intro _ _ _ _ _ _ _ _ h; exact absurd h (Nat.not_lt_zero _)
 | succ N ih =>
  intro w g n c a b lim d hN hSR hsz hab hb hn hlim hBel D hD
  have H0:Hid (d.size=n/\Go.Sort.Below ltU a b d/\SR w g d/\Zaa (λ k=>k=g) w w/\pdq ltU d a b lim true true=D):=⟨hsz,hBel,hSR,Zaa.refl _ _,hD⟩
  clear hSR hsz hBel hD;go_enter Tryz.func139,Tryz.ntmps139;go_wp2_with fail;go_loopg [1,2,3,8,9] (b - a) (λ k s1 s2 s3 s8 s9 wr=>∃ (a' b' l':Nat) (wb wp:Bool),s1=.int .i64 (a':Int)/\s2=.int .i64 (b':Int)/\s3=.int .i64 (l':Int)/\s8=.bool wb/\s9=.bool wp/\a'<=b'/\b'<=n/\b' - a'<=k/\k<=b - a/\l'<=1000/\Hid (∃ E:Array UInt64,E.size=n/\Go.Sort.Below ltU a' b' E/\SR wr g E/\Zaa (λ k=>k=g) w wr/\pdq ltU E a' b' l' wb wp=D))
  case atStart=>exact ⟨a,b,lim,true,true,rfl,rfl,rfl,rfl,rfl,hab,hb,Nat.le_refl _,Nat.le_refl _,hlim,d,H0.out⟩
  case round =>
   obtain ⟨a',b',l',wb,wp,rfl,rfl,rfl,rfl,rfl,hab',hb',hk,hkN,hl',HX⟩:=hrel;obtain ⟨E,e1,e2,e3,e4,e5⟩:=HX.out;clear H0
   obtain ⟨ll,hll⟩:∃ ll,b' - a'=ll:=⟨_,rfl⟩
   have n1:(b':Int) - (a':Int)=(ll:Int):=by omega
   have n1w:IntKind.i64.wrap (ll:Int)=(ll:Int):=by rw [IntKind.wrap_i64]; omega
   by_cases h12:ll<=12
   ·have z12:(ll:Int)<=12:=by omega
    have hc:=ZmZ (c:=c) (a:=a') (b:=b') e3 e1 hab' hb' (by omega);rw [<- pdq_small (limit:=l') (wb:=wb) (wp:=wp) (show b' - a'<=12 by omega),e5] at hc;have H1:Hid (Zaa (λ k=>k=g) w wr):=e4;clear e1 e2 e3 e4 e5 HX;go_wp2_with fail;refine hc.mono ?_;rintro e w1 ⟨rfl,H11⟩;clear hc;go_wp2
    (try simp only [Exit.inBlock,Exit.then])
    refine bodyPost_ret (v:=.tuple #[]) (results_none rfl _ _ _) rfl ?_;exact ⟨rfl,H11.out.1,H1.out.trans H11.out.2 (λ _ _ q=>q)⟩
   ·have z12:¬ (ll:Int)<=12:=by omega
    by_cases hl0:l'=0
    ·have hc:=ZlT (c:=c) (a:=a') (b:=b') e3 e1 (by omega) hb' hn;rw [<- pdq_heap (limit:=l') (wb:=wb) (wp:=wp) (show ¬ b' - a'<=12 by omega) hl0,e5] at hc;have H1:Hid (Zaa (λ k=>k=g) w wr):=e4;clear e1 e2 e3 e4 e5 HX;subst hl0;go_wp2_with fail;refine hc.mono ?_;rintro e w1 ⟨rfl,H11⟩;clear hc;go_wp2
     (try simp only [Exit.inBlock,Exit.then])
     refine bodyPost_ret (v:=.tuple #[]) (results_none rfl _ _ _) rfl ?_;exact ⟨rfl,H11.out.1,H1.out.trans H11.out.2 (λ _ _ q=>q)⟩
    ·have zl0:¬ (l':Int)=0:=by omega
     obtain ⟨d1,l1,cp,ch,d2,pv,ht,p1,p2,hRN⟩:=rnd E a' b' l' wb wp (by omega) hl0 (by omega) e2;have RN:=shid hRN
     have hsz1:d1.size=n:=by rw [hRN.s1]; exact e1
     have hsz2:d2.size=n:=by rw [hRN.s2]; exact e1
     have hsz3:p1.size=n:=by rw [hRN.s3]; exact e1
     have hcp:=hRN.cpr;have hpv:=hRN.pvr;have hll1:=hRN.llim;have HE:Hid (pdq ltU E a' b' l' wb wp=D):=e5;have HS:Hid (E.size=n):=e1
     have H1:Hid (SR wr g E/\Zaa (λ k=>k=g) w wr):=⟨e3,e4⟩
     clear hRN e1 e2 e3 e4 e5 HX
     go_upto_if 35 with fail
     go_cut [3] from 19 to 133 (λ s3 u=>∃ v,v=u/\s3=.int .i64 (l1:Int)/\Hid (SR v g d1/\Zaa (λ k=>k=g) w v))
     case first =>
      cases wb with
      | false =>
       have hwb:=RN.out.wbf rfl;have hc:=Zmz (c:=c) (a:=a') (b:=b') H1.out.1 HS.out (by omega) (by omega) hn;rw [hwb.1] at hc;have hl1:=hwb.2
       have r1:(l':Int) - 1=(l1:Int):=by omega
       have r1w:IntKind.i64.wrap (l1:Int)=(l1:Int):=by rw [IntKind.wrap_i64]; omega
       clear hwb RN hl1;go_wp2_with fail;refine hc.mono ?_;rintro e w1 ⟨rfl,H11⟩;clear hc;go_wp2_with fail;go_meet;exact ⟨_,rfl,rfl,H11.out.1,H1.out.2.trans H11.out.2 (λ _ _ q=>q)⟩
      | true =>
       have hwb:=shid (RN.out.wbt rfl);clear RN;go_wp2_with fail;go_meet;exact ⟨_,rfl,by rw [hwb.out.2],by rw [<- hwb.out.1]; exact H1.out.1,H1.out.2⟩
     case rest =>
      obtain ⟨v,rfl,rfl,H2⟩:=hcut;have hc:=Zl7 (c:=c) H2.out.1 hsz1 (by omega) (by omega) hn (cp,ch) RN.out.piv;simp only at hc
      obtain ⟨hv,hhv⟩:∃ hv,hintV ch=hv:=⟨_,rfl⟩
      obtain ⟨hz,hhz⟩:∃ hz,hintV ht=hz:=⟨_,rfl⟩
      rw [hhv] at hc;have HV:Hid (hintV ch=hv):=hhv;have HZ:Hid (hintV ht=hz):=hhz;clear hhv hhz;go_wp2_with fail;refine hc.mono ?_;rintro e w2 ⟨rfl,HB2⟩
      have H3:Hid (SR w2 g d1/\Zaa (λ k=>k=g) w w2):=⟨H2.out.1.below HB2.out,H2.out.2.trans (Zaa.ofBelow (S:=λ _=>False) HB2.out) (λ _ _ q=>q.elim)⟩
      clear hc HB2
      go_upto_if 50 with fail
      go_cut [11,12] from 19 to 133 (λ s11 s12 u=>∃ v,v=u/\s11=.int .i64 (pv:Int)/\s12=.int .i64 hz/\Hid (SR v g d2/\Zaa (λ k=>k=g) w v))
      case first =>
       by_cases hh:ch=.decreasing
       ·have hdc:=RN.out.dec hh
        have e1:hv=2:=by rw [<- HV.out,hh]; rfl
        have e2:Hid (hz=1):=by show _=_; rw [<- HZ.out,hdc.2.2]; rfl
        have hcr:=Zm7 (c:=c) (a:=a') (b:=b') H3.out.1 hsz1 (by omega) (by omega) (by omega);rw [hdc.1] at hcr
        obtain ⟨bb,hbb⟩:∃ bb,b' - 1=bb:=⟨_,rfl⟩
        obtain ⟨mm,hmm⟩:∃ mm,cp - a'=mm:=⟨_,rfl⟩
        have hpq:=hdc.2.1
        have r1:(b':Int) - 1=(bb:Int):=by omega
        have r1w:IntKind.i64.wrap (bb:Int)=(bb:Int):=by rw [IntKind.wrap_i64]; omega
        have r2:(cp:Int) - (a':Int)=(mm:Int):=by omega
        have r2w:IntKind.i64.wrap (mm:Int)=(mm:Int):=by rw [IntKind.wrap_i64]; omega
        have r3:(bb:Int) - (mm:Int)=(pv:Int):=by omega
        have r3w:IntKind.i64.wrap (pv:Int)=(pv:Int):=by rw [IntKind.wrap_i64]; omega
        clear hdc HV hh RN hbb hmm hpq;subst e1;go_wp2_with fail;refine hcr.mono ?_;rintro e w3 ⟨rfl,H31⟩;clear hcr;go_wp2_with fail;go_meet;exact ⟨_,rfl,rfl,by rw [e2.out],H31.out.1,H3.out.2.trans H31.out.2 (λ _ _ q=>q)⟩
       ·have hdc:=RN.out.inc hh
        have e1:¬ hv=2:=λ e=>hh (by have:=HV.out; rw [e] at this; cases ch <;> simp [hintV] at this ⊢)
        have e2:Hid (hv=hz/\d1=d2/\cp=pv):=⟨by rw [<- HV.out,<- HZ.out,hdc.2.2],hdc.1,hdc.2.1⟩
        clear hdc HV hh RN;go_wp2_with fail;go_meet;exact ⟨_,rfl,by rw [e2.out.2.2],by rw [e2.out.1],by rw [<- e2.out.2.1]; exact H3.out.1,H3.out.2⟩
      case rest =>
       obtain ⟨v,rfl,rfl,rfl,H4⟩:=hcut;clear H3 H2
       go_upto_region 15 with fail
       go_cut [68] from 19 to 133 (λ s68 u=>∃ v f,v=u/\s68=.bool f/\Hid ((wb&&wp&&decide (ht=.increasing))=f/\SR v g d2/\Zaa (λ k=>k=g) w v))
       case first =>
        by_cases h1:ht=.increasing
        ·have e1:hz=1:=by rw [<- HZ.out,h1]; rfl
         have e2:decide (ht=.increasing)=true:=by simpa using h1
         have KE:Hid ((wb&&wp&&decide (ht=.increasing))=(wb&&wp)):=by show _=_; rw [e2,Bool.and_true]
         clear h1 e2 RN HZ;subst e1
         cases wb <;> cases wp <;>
          (go_wp2_with fail
           go_meet
           exact ⟨_,_,rfl,rfl,KE.out,H4.out⟩)
        ·have e1:¬ hz=1:=λ e=>h1 (by have:=HZ.out; rw [e] at this; cases ht <;> simp [hintV] at this ⊢)
         have e2:decide (ht=.increasing)=false:=by simpa using h1
         have KE:Hid ((wb&&wp&&decide (ht=.increasing))=false):=by show _=_; rw [e2,Bool.and_false]
         clear h1 e2 RN HZ
         cases wb <;> cases wp <;>
          (go_wp2_with fail
           go_meet
           exact ⟨_,_,rfl,rfl,(by first | exact KE.out | (rw [KE.out]; exact (beq_eq_false_iff_ne.2 e1).symm)),H4.out⟩)
       case rest =>
        obtain ⟨v,f,rfl,rfl,H5⟩:=hcut;clear H4
        go_upto_if 68 with fail
        go_cut [] from 19 to 133 (λ u=>∃ v,v=u/\Hid (p2=false/\SR v g p1/\Zaa (λ k=>k=g) w v))
        case first =>
         cases f with
         | false =>
          have hno:=RN.out.no H5.out.1
          have FIN:Hid (p2=false/\d2=p1):=⟨hno.2,hno.1⟩
          clear hno;go_wp2_with fail;go_meet;exact ⟨_,rfl,FIN.out.1,by rw [<- FIN.out.2]; exact H5.out.2.1,H5.out.2.2⟩
         | true =>
          have hc:=ZkR (c:=c) H5.out.2.1 hsz2 (by omega) (by omega) hn (p1,p2) (RN.out.yes H5.out.1);simp only at hc
          have DN:Hid (p2=true->D=p1):=λ e=>by rw [<- HE.out]; exact RN.out.done e
          clear RN
          cases p2 with
          | true =>
           go_wp2_with fail;refine hc.mono ?_;rintro e w6 ⟨rfl,H6⟩;clear hc;go_wp2
           (try simp only [Exit.inBlock,Exit.then])
           refine bodyPost_ret (v:=.tuple #[]) (results_none rfl _ _ _) rfl ?_;rw [DN.out (by first | rfl | trivial)];exact ⟨rfl,H6.out.1,H5.out.2.2.trans H6.out.2 (λ _ _ q=>q)⟩
          | false =>
           go_wp2_with fail;refine hc.mono ?_;rintro e w6 ⟨rfl,H6⟩;clear hc;go_wp2_with fail;go_meet;exact ⟨_,rfl,(by first | rfl | trivial),H6.out.1,H5.out.2.2.trans H6.out.2 (λ _ _ q=>q)⟩
        case rest =>
         obtain ⟨v,rfl,H7⟩:=hcut;clear H5;have P2:Hid (p2=false):=H7.out.1
         obtain ⟨wx,hwx⟩:∃ wx,wx=v:=⟨_,rfl⟩
         subst hwx
         go_upto_region 17 with fail
         go_cut [87] from 19 to 133 (λ tv u=>∃ v f,v=u/\tv=.bool f/\Hid ((decide (a'>0)&&!ltU p1[a' - 1]! p1[pv]!)=f/\SR v g p1/\Zaa (λ k=>k=g) w v))
         case first =>
          by_cases ha0:0<a'
          ·obtain ⟨aa,haa⟩:∃ aa,a' - 1=aa:=⟨_,rfl⟩
           obtain ⟨x,hx⟩:∃ x,p1[aa]! = x:=⟨_,rfl⟩
           obtain ⟨y,hy⟩:∃ y,p1[pv]! = y:=⟨_,rfl⟩
           obtain ⟨f0,hf⟩:∃ f0,ltU x y=f0:=⟨_,rfl⟩
           have q0:∀ u:SW (Grew wx),u.w.cell? ⟨g,aa,none⟩=some (uv x):=λ u=>by rw [<- hx]; exact (H7.out.2.1.below u.ok).cell (by omega)
           have q1:∀ u:SW (Grew wx),u.w.cell? ⟨g,pv,none⟩=some (uv y):=λ u=>by rw [<- hy]; exact (H7.out.2.1.below u.ok).cell (by omega)
           have hL:=λ u=>Zax (wr:=wx) x y f0 hf u
           have NE:Nonempty (SW (Grew wx)):=⟨⟨wx,Go.RowKit.Below.refl _ wx⟩⟩
           have j1:(0:Int)<(a':Int):=by omega
           have j2:decide ((0:Int)<(a':Int))=true:=by simpa using j1
           have j3:decide (0<a')=true:=by simpa using ha0
           have j4:(aa:Int)<(n:Int):=by omega
           have j5:(pv:Int)<(n:Int):=by omega
           have j6:(0:Int)<=(aa:Int):=by omega
           have j7:(0:Int)<=(pv:Int):=by omega
           have j8:(a':Int) - 1=(aa:Int):=by omega
           have j9:IntKind.i64.wrap (aa:Int)=(aa:Int):=by rw [IntKind.wrap_i64]; omega
           have KE:Hid ((decide (a'>0)&&!ltU p1[a' - 1]! p1[pv]!)=(!f0)):=by
            show _=_;have j3':decide (a'>0)=true:=j3;rw [haa,hx,hy,hf,j3',Bool.true_and]
           clear hx hy hf haa
           cases f0 with
           | true =>
            refine Zab (S:=Grew wx) (by kernel_rfl) (by kernel_rfl) (Go.RowKit.Below.refl _ wx).drew ?_
            repeat (go_big_quiet_step (with_reducible exact hL _))
            refine wpQuiet_nil ?_;intro _ hw';obtain ⟨u,hw''⟩:=hw';subst hw'';go_wp2_with fail;go_meet;exact ⟨_,_,rfl,rfl,KE.out,H7.out.2.1.below u.ok,H7.out.2.2.trans (Zaa.ofBelow u.ok) (λ _ _ q=>q)⟩
           | false =>
            refine Zab (S:=Grew wx) (by kernel_rfl) (by kernel_rfl) (Go.RowKit.Below.refl _ wx).drew ?_
            repeat (go_big_quiet_step (with_reducible exact hL _))
            refine wpQuiet_nil ?_;intro _ hw';obtain ⟨u,hw''⟩:=hw';subst hw'';go_wp2_with fail;go_meet;exact ⟨_,_,rfl,rfl,KE.out,H7.out.2.1.below u.ok,H7.out.2.2.trans (Zaa.ofBelow u.ok) (λ _ _ q=>q)⟩
          ·have j1:¬ (0:Int)<(a':Int):=by omega
           have j2:decide ((0:Int)<(a':Int))=false:=by simpa using j1
           have j3:decide (0<a')=false:=by simpa using ha0
           have KE:Hid ((decide (a'>0)&&!ltU p1[a' - 1]! p1[pv]!)=false):=by
            show _=_;have j3':decide (a'>0)=false:=j3;rw [j3',Bool.false_and]
           go_quiet (fail);go_wp2_with fail;go_meet;have hq:=bdrewN wx nq;exact ⟨_,false,rfl,rfl,KE.out,H7.out.2.1.below hq,H7.out.2.2.trans (Zaa.ofBelow (S:=λ _=>False) hq) (λ _ _ q=>q.elim)⟩
         case rest =>
          obtain ⟨v,f,rfl,rfl,H9⟩:=hcut;clear H7
          cases f with
          | true =>
           obtain ⟨mid,d4,hx⟩:∃ mid d4,partitionEqual ltU p1 a' b' pv=(mid,d4):=⟨_,_,rfl⟩
           have hq4:=RN.out.eql P2.out H9.out.1 mid d4 hx;have hc:=Ziw (c:=c) H9.out.2.1 hsz3 hpv.1 hpv.2 (by omega) hn (mid,d4) hx;simp only at hc
           have FIN:Hid (d4.size=n/\Go.Sort.Below ltU mid b' d4/\pdq ltU d4 mid b' l1 wb wp=D):=⟨by rw [hq4.2.2.1]; exact HS.out,hq4.2.2.2.1,by rw [<- HE.out]; exact hq4.2.2.2.2.symm⟩
           have hml:a'<mid/\mid<=b':=⟨hq4.1,hq4.2.1⟩
           clear hq4 hx;go_wp2_with fail;refine hc.mono ?_;rintro e w7 ⟨rfl,H10⟩;clear hc;go_wp2;go_roundg (b' - mid)
           case measure=>omega
           case rel=>exact ⟨mid,b',l1,wb,wp,rfl,rfl,rfl,rfl,rfl,by omega,by omega,by omega,by omega,by omega,d4,FIN.out.1,FIN.out.2.1,H10.out.1,H9.out.2.2.trans H10.out.2 (λ _ _ q=>q),FIN.out.2.2⟩
          | false =>
           obtain ⟨mid,ap,d4,hx⟩:∃ mid ap d4,partition ltU p1 a' b' pv=(mid,ap,d4):=⟨_,_,_,rfl⟩
           have hq4:=RN.out.prt P2.out H9.out.1 mid ap d4 hx;have hc:=Zk8 (c:=c) H9.out.2.1 hsz3 hpv.1 hpv.2 (by omega) hn (mid,ap,d4) hx;simp only at hc;clear hx
           have hml:a'<=mid/\mid<b':=⟨hq4.1,hq4.2.1⟩
           have hd4:d4.size=n:=by rw [hq4.2.2.1]; exact HS.out
           obtain ⟨lm,hlm⟩:∃ lm,mid - a'=lm:=⟨_,rfl⟩
           obtain ⟨rm,hrm⟩:∃ rm,b' - mid=rm:=⟨_,rfl⟩
           obtain ⟨e8,he8⟩:∃ e8,ll / 8=e8:=⟨_,rfl⟩
           obtain ⟨m1,hm1⟩:∃ m1,mid+1=m1:=⟨_,rfl⟩
           have k1:(mid:Int) - (a':Int)=(lm:Int):=by omega
           have k1w:IntKind.i64.wrap (lm:Int)=(lm:Int):=by rw [IntKind.wrap_i64]; omega
           have k2:(b':Int) - (mid:Int)=(rm:Int):=by omega
           have k2w:IntKind.i64.wrap (rm:Int)=(rm:Int):=by rw [IntKind.wrap_i64]; omega
           have k4:(mid:Int)+1=(m1:Int):=by omega
           have k4w:IntKind.i64.wrap (m1:Int)=(m1:Int):=by rw [IntKind.wrap_i64]; omega
           have k3:(ll:Int).tdiv 8=(e8:Int):=by rw [<- he8]; rfl
           have k3w:IntKind.i64.wrap (e8:Int)=(e8:Int):=by rw [IntKind.wrap_i64]; omega
           by_cases hlt:mid - a'<b' - mid
           ·have hq5:=hq4.2.2.2.2.2.1 hlt
            obtain ⟨D4,hD4⟩:∃ D4,pdq ltU d4 a' mid l1 true true=D4:=⟨_,rfl⟩
            rw [hD4] at hq5
            have hc2:=λ (u:World) (hu:SR u g d4)=>ih u g n c a' mid l1 d4 (by omega) hu (by omega) hq4.1 (by omega) hn (by omega) hq4.2.2.2.1 D4 hD4
            have FIN:Hid (D4.size=n/\Go.Sort.Below ltU m1 b' D4/\pdq ltU D4 m1 b' l1 (decide (mid - a'≥(b' - a') / 8)) ap=D):=⟨by rw [hq5.1]; exact HS.out,by rw [<- hm1]; exact hq5.2.1,by rw [<- HE.out,<- hm1]; exact hq5.2.2.symm⟩
            have c5:(lm:Int)<(rm:Int):=by omega
            obtain ⟨bal,hbal⟩:∃ bal,decide ((e8:Int)<=(lm:Int))=bal:=⟨_,rfl⟩
            have BE:Hid (decide (e8<=lm)=bal):=by
             show _=bal;rw [<- hbal];exact decide_eq_decide.2 ⟨λ h=>by omega,λ h=>by omega⟩
            have BAL:Hid (decide (mid - a'≥(b' - a') / 8)=bal):=by
             show _=bal;rw [<- hbal];exact decide_eq_decide.2 ⟨λ h=>by omega,λ h=>by omega⟩
            clear hq4 hq5 hD4 hbal;go_wp2_with fail;refine hc.mono ?_;rintro e w7 ⟨rfl,H10⟩;have hc2':=hc2 w7 H10.out.1;clear hc hc2;go_wp2_with fail;refine hc2'.mono ?_;rintro e w8 ⟨rfl,H11⟩;clear hc2';go_wp2;go_roundg (b' - m1)
            case measure=>omega
            case rel=>exact ⟨m1,b',l1,bal,ap,by go_num,rfl,rfl,(by first | rfl | exact congrArg Value.bool BE.out),rfl,by omega,by omega,by omega,by omega,by omega,D4,FIN.out.1,FIN.out.2.1,H11.out.1,(H9.out.2.2.trans H10.out.2 (λ _ _ q=>q)).trans H11.out.2 (λ _ _ q=>q),by rw [<- BAL.out]; exact FIN.out.2.2⟩
           ·have hq5:=hq4.2.2.2.2.2.2 hlt
            obtain ⟨D4,hD4⟩:∃ D4,pdq ltU d4 m1 b' l1 true true=D4:=⟨_,rfl⟩
            rw [hm1,hD4] at hq5
            have hc2:=λ (u:World) (hu:SR u g d4)=>ih u g n c m1 b' l1 d4 (by omega) hu (by omega) (by omega) (by omega) hn (by omega) (by rw [<- hm1]; exact hq4.2.2.2.2.1) D4 hD4
            have FIN:Hid (D4.size=n/\Go.Sort.Below ltU a' mid D4/\pdq ltU D4 a' mid l1 (decide (b' - mid≥(b' - a') / 8)) ap=D):=⟨by rw [hq5.1]; exact HS.out,hq5.2.1,by rw [<- HE.out]; exact hq5.2.2.symm⟩
            have c5:¬ (lm:Int)<(rm:Int):=by omega
            obtain ⟨bal,hbal⟩:∃ bal,decide ((e8:Int)<=(rm:Int))=bal:=⟨_,rfl⟩
            have BE:Hid (decide (e8<=rm)=bal):=by
             show _=bal;rw [<- hbal];exact decide_eq_decide.2 ⟨λ h=>by omega,λ h=>by omega⟩
            have BAL:Hid (decide (b' - mid≥(b' - a') / 8)=bal):=by
             show _=bal;rw [<- hbal];exact decide_eq_decide.2 ⟨λ h=>by omega,λ h=>by omega⟩
            clear hq4 hq5 hD4 hbal;go_wp2_with fail;refine hc.mono ?_;rintro e w7 ⟨rfl,H10⟩;have hc2':=hc2 w7 H10.out.1;clear hc hc2;go_wp2_with fail;refine hc2'.mono ?_;rintro e w8 ⟨rfl,H11⟩;clear hc2';go_wp2;go_roundg (mid - a')
            case measure=>omega
            case rel=>exact ⟨a',mid,l1,bal,ap,rfl,rfl,rfl,(by first | rfl | exact congrArg Value.bool BE.out),rfl,by omega,by omega,by omega,by omega,by omega,D4,FIN.out.1,FIN.out.2.1,H11.out.1,(H9.out.2.2.trans H10.out.2 (λ _ _ q=>q)).trans H11.out.2 (λ _ _ q=>q),by rw [<- BAL.out]; exact FIN.out.2.2⟩
def risU (xs:List UInt64):List UInt64:=xs.mergeSort λ x y=>decide (x<=y)
theorem sortU (d:Array UInt64):(sort ltU d).toList=risU d.toList:=by
 obtain ⟨hP,hSo⟩:=sort_sorts ltU swoU d
 have h:=sorted_unique_holds swoU (λ x y h1 h2=>by
  simp only [ltU,decide_eq_false_iff_not,UInt64.lt_iff_toNat_lt] at h1 h2
  exact UInt64.toNat_inj.1 (by omega)) d _ hP hSo
 rw [h];unfold risU
 congr 1
 funext x y
 show (!decide (y<x))=decide (x<=y);by_cases h:x<=y
 ·have h':¬ y<x:=by rw [UInt64.le_iff_toNat_le] at h; rw [UInt64.lt_iff_toNat_lt]; omega
  simp [h,h']
 ·have h':y<x:=by rw [UInt64.le_iff_toNat_le] at h; rw [UInt64.lt_iff_toNat_lt]; omega
  simp [h,h']
theorem Zh1 (d:Array UInt64):(sort ltU d).size=d.size:=(sort_sorts ltU swoU d).1.1
theorem Zkh {w:World} {g n c:Nat} {d:Array UInt64} (h:SR w g d) (hd:d.size=n) (hn:n<=1000000000000) :
  Calls Tryz.prog 78 #[.slice (some ⟨g,0,none⟩) n c] w λ e w'=>e=.returned (.tuple #[])/\Hid (SR w' g (sort ltU d)/\Zaa (λ k=>k=g) w w'):=by
 obtain ⟨L,hL⟩:∃ L,bitsLen n=L:=⟨_,rfl⟩
 have hLl:L<=62:=by rw [<- hL]; exact (bitsLen_le_iff n 62).2 (by omega)
 have c1:=λ w=>ZjV n (by omega) w
 rw [hL] at c1
 have hs:pdq ltU d 0 n L true true=sort ltU d:=by rw [<- hL,<- hd]; rfl
 have c2:=ZmP (n+1) w g n c 0 n L d (by omega) h hd (by omega) (Nat.le_refl _) hn (by omega) (Or.inl rfl) _ hs
 have w1:IntKind.u64.wrap (n:Int)=(n:Int):=by rw [IntKind.wrap_u64]; omega
 rw [show ((0:Nat):Int)=0 from rfl] at c2;clear h hd hL hs;go_enter Tryz.func78,Tryz.ntmps78;go_wp2_with fail;refine (c1 _).mono ?_;rintro e w3 ⟨rfl,hw3⟩;rw [hw3];clear c1 hw3;go_wp2_with fail;refine c2.mono ?_;rintro e w4 ⟨rfl,H4⟩;clear c2;go_wp2;refine bodyPost_end (v:=.tuple #[]) (results_none rfl _ _ _) rfl ?_;exact ⟨rfl,H4⟩
end Go.Proofs.YtmhcpbbiokpjjaaGreat
