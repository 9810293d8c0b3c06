/-
  Several texts, laid together.
-/
import Derived.Test.YtlojblelpaegpaaGreatM28
import Derived.Sort.Walk7
import Derived.Sort.Walk13a
import Derived.Sort.AssemblyPlain
set_option maxHeartbeats 6400000
set_option maxRecDepth 100000
open Go renaming World->Ap,Calls->At,calls_of_every_depth->E7,bodyPost_end->CE,results_none->BJ,bodyPost_ret->As,wpQuiet_nil->AN
open Nat renaming one_shiftLeft->GU,le_refl->Az
open Go.IntKind renaming i64->Ak,wrap_i64->Au,u64->Al,wrap_u64->Bh
open UInt64 renaming ofNat->AU,lt_iff_toNat_lt->BK,le_iff_toNat_le->BM
open Go.RowKit.Below renaming refl->Ao
open Go.Proofs renaming bpRest->CZ
open Go.Sort renaming Below->C6
open Go.Exit renaming inBlock->FH
open Go.Value renaming bool->Ad,slice->Aa,int->Ab,tuple->Af
open Go.Ending renaming returned->Aj
open Go.Proofs.Tryz renaming prog->Am
open Go.Proofs.Tryz
namespace Go.Proofs.YtlojblelpaegpaaGreat
open Go.RowKit Go.Sort Go.Shelf
def BoxU(w:Ap)(b:Nat)(r:UInt64):Prop:=w.heap[b]? = some (.cells #[Ab Al (r.toNat:Int)] 313 (0,0))
section
variable{w w':World}{b:Nat}{r:UInt64}
theorem BoxU.lt(h:BoxU w b r):b<w.heap.size:=(Array.getElem?_eq_some_iff.1 h).1
theorem BoxU.cell(h:BoxU w b r):w.cell? ⟨b,0,none⟩=some (Ab Al (r.toNat:Int)):=by
 unfold BoxU at h;simp[World.cell?,h]
theorem BoxU.thaw(h:BoxU w b r):w.frozen? ⟨b,0,none⟩=false:=by
 unfold BoxU at h;simp[World.frozen?,h]
theorem BoxU.below(h:BoxU w b r)(a:Below w.heap.size w w'):BoxU w' b r:=(a.block b h.lt).trans h
theorem BoxU.set(h:BoxU w b r)(s:UInt64):BoxU (w.setCell ⟨b,0,none⟩ (Ab Al (s.toNat:Int))) b s:=by
 unfold BoxU at h ⊢;simp[World.setCell,Array.getElem?_modify,h]
theorem BoxU.turned{S:Nat->Prop}(h:BoxU w b r)(c:Zaa S w w')(a:¬S b):BoxU w' b r:=(c.block b h.lt a).trans h
theorem BoxU.new(w:Ap)(r:UInt64):BoxU (w.alloc (.cells #[Ab Al (r.toNat:Int)] 313)) w.heap.size r:=by
 show(w.heap.push _)[w.heap.size]? = _;simp
end
theorem Znz{w:Ap}{xb:Nat}{r:UInt64}(h:BoxU w xb r):At Am 195 #[.pointer (some ⟨xb,0,none⟩)] w λ e w'=>e=Aj (Ab Al ((xorNext r).toNat:Int))/\Hid (BoxU w' xb (xorNext r)/\Zaa (λ k=>k=xb) w w'):=by
 have b:=E7 λ D=>AnyS.xorshift_NextInS { klaySort with } D xb 0 r.toNat r.toNat_lt w h.cell h.thaw
 refine Calls.mono b ?_;rintro e w' ⟨rfl,rfl⟩;rw[<- xorNext_toNat];have a:=bdrewN (w.setCell ⟨xb,0,none⟩ (Ab Al ((xorNext r).toNat:Int))) 3;exact⟨rfl,(h.set (xorNext r)).below a,((Zaa.refl (λ k=>k=xb) w).setCell (p:=⟨xb,0,none⟩) (.inl rfl) _).trans (Zaa.ofBelow (S:=λ _=>False) a) (λ _ _ q=>q.elim)⟩
theorem Zpu(n:Nat)(a:n<4611686018427387904)(w:Ap):At Am 194 #[Ab Ak (n:Int)] w λ e w'=>e=Aj (Ab Al ((1 <<< bitsLen n:Nat):Int))/\w'=w :=
 E7 λ D=>AnyS.nextPowerOfTwoInS { klaySort with } D n a w
theorem ZlT(n:Nat)(hn:n<4611686018427387904)(w:Ap):At Am 86 #[Ab Al (n:Int)] w λ e w'=>e=Aj (Ab Ak ((bitsLen n:Nat):Int))/\w'=w :=
 E7 λ D=>by
  have h:=AnyS.bits_LenInS { klaySort with } D (n:Int) w (by omega) (by omega)
  rwa [Int.toNat_natCast,bitLen_eq _ (by omega)]at h
theorem Zpo{w:Ap}{g n c a b:Nat}{d:Array UInt64}(h:SR w g d)(hd:d.size=n)(al:a+8<=b)(hb:b<=n)(hn:n<=1000000000000):
  At Am 137 #[Aa (some ⟨g,0,none⟩) n c,Ab Ak (a:Int),Ab Ak (b:Int)] w λ e w'=>e=Aj (Af #[])/\Hid (SR w' g (breakPatterns d a b)/\Zaa (λ k=>k=g) w w'):=by
 obtain⟨L,hL⟩:∃L,a+L=b:=⟨b - a,by omega⟩
 obtain⟨D,T⟩:=Xa (breakPatterns d a b)
 rw[T];rw[<- hL,breakPatterns_eq d a L (by omega)]at T
 obtain⟨M,hM⟩:∃M:Nat,1 <<< bitsLen L=M:=⟨_,rfl⟩
 have aj:1<=M:=by rw[<- hM,GU];exact Nat.two_pow_pos _
 have ak:M<=2*L:=by rw[<- hM,GU];exact two_pow_bitsLen_le (by omega)
 have hP:=λ w=>Zpu L (by omega) w
 rw[hM]at T hP
 obtain⟨q,hq⟩:=Xa (L / 4)
 obtain⟨q2,ag⟩:=Xa (q*2)
 obtain⟨S,ac⟩:=Xa (a+q2)
 obtain⟨base,Q⟩:=Xa (S - 1)
 obtain⟨A,Y⟩:=Xa (S+1)
 have X:a+L / 4*2 - 1=base:=by omega
 rw[X]at T
 have m0:(b:Int) - (a:Int)=(L:Int):=by omega
 have m1:(L:Int).tdiv 4=(q:Int):=by rw[<- hq];rfl
 have m2:(q:Int)*2=(q2:Int):=by omega
 have m3:(a:Int)+(q2:Int)=(S:Int):=by omega
 have m4:(S:Int) - 1=(base:Int):=by omega
 have m5:(S:Int)+1=(A:Int):=by omega
 have w0:Ak.wrap (L:Int)=(L:Int):=by rw[Au];omega
 have wu:Al.wrap (L:Int)=(L:Int):=by rw[Bh];omega
 have w1:Ak.wrap (q:Int)=(q:Int):=by rw[Au];omega
 have w2:Ak.wrap (q2:Int)=(q2:Int):=by rw[Au];omega
 have w3:Ak.wrap (S:Int)=(S:Int):=by rw[Au];omega
 have w4:Ak.wrap (base:Int)=(base:Int):=by rw[Au];omega
 have j:Ak.wrap (A:Int)=(A:Int):=by rw[Au];omega
 have g8:(8:Int)<=(L:Int):=by omega
 obtain⟨xb,ah⟩:=Xa w.heap.size
 obtain⟨W,hW⟩:=Xb (w.alloc (.cells #[Ab Al (L:Int)] 313))
 have V:(AU L).toNat=L:=by simp;omega
 have NW:SR W g d/\BoxU W xb (AU L)/\Below w.heap.size w W:=by
  have hB:Below w.heap.size w W:=by rw[hW];exact(Ao _ w).alloc (Az _) _
  refine⟨h.below hB,?_,hB⟩;have:=BoxU.new w (AU L);rw[V]at this;rw[hW,<- ah];exact this
 have J:Hid (¬xb=g):=by have:=h.lt;show ¬_;omega
 have N0:Hid (CZ a L M base 3 0 (AU L,d)=D/\SR W g d/\BoxU W xb (AU L)/\Zaa (λ k=>k=g∨k=xb) W W/\d.size=n):=⟨T,NW.1,NW.2.1,Zaa.refl _ _,hd⟩
 have U:Hid (∀w9:Ap,Zaa (λ k=>k=g∨k=xb) W w9->Zaa (λ k=>k=g) w w9):=λ w9 t=>(Zaa.ofBelow NW.2.2).trans t (λ k hk q=>q.elim id (λ e=>by omega))
 have SH:base+3=A+1/\a<=base/\A<b/\base+2=A:=by omega
 clear h hd T NW V X hq ag ac Q Y hM;go_enter func137,ntmps137
 go_upto_region 3 with fail
 rw[<- hW];clear hW;go_wp2_with fail;refine(hP _).mono ?_;rintro e w3 ⟨rfl,Z⟩;rw[Z];clear hP Z;go_wp2_with fail;go_loopg[9] 3 (λ k v9 wr=>∃(f t:Nat) (r:UInt64) (G:Array UInt64),v9=Ab Ak (f:Int)/\t+k=3/\base+t=f/\Hid (CZ a L M base (3 - t) t (r,G)=D/\SR wr g G/\BoxU wr xb r/\Zaa (λ k=>k=g∨k=xb) W wr/\G.size=n))
 case atStart=>exact⟨base,0,AU L,d,rfl,rfl,rfl,N0.o⟩
 case round =>
  obtain⟨f,t,r,G,rfl,an,p,l⟩:=hrel;clear N0;have IX:Hid (base+t=f):=p;by_cases am:t<3
  ·have z1:(f:Int)<=(A:Int):=by omega
   obtain⟨O,N⟩:∃O:Nat,O=(xorNext r).toNat &&& (M - 1):=⟨_,rfl⟩
   have lO:O<=M - 1:=by rw[N];exact Nat.and_le_right
   obtain⟨M1,ab⟩:=Xa (M - 1)
   have y1:(M:Int) - 1=(M1:Int):=by omega
   have y2:Al.wrap (M1:Int)=(M1:Int):=by rw[Bh];omega
   have y3:bits .and Al ((xorNext r).toNat:Int) (M1:Int)=(O:Int):=by
    rw[bits_and_u64_nat _ _ (xorNext r).toNat_lt (by omega),N,ab]
   have y4:Ak.wrap (O:Int)=(O:Int):=by rw[Au];omega
   have K:=Znz l.o.2.2.1
   have z2:(f:Int)<(n:Int):=by omega
   have z3:(0:Int)<=(f:Int):=by omega
   by_cases I:L<=O
   ·have ad:L<=O:=I
    obtain⟨E,C⟩:=Xa (O - L)
    have ae:E<L:=by omega
    obtain⟨ao,B⟩:=Xa (a+E)
    have F:CZ a L M base (3 - (t+1)) (t+1) (xorNext r,swp G f ao)=D:=by
     rw[<- l.o.1,bp_step a L M base t r G E (by omega) (by rw[<- N,AE I,C]),p,B]
    have g1:(a:Int)+(E:Int)=(ao:Int):=by omega
    have g2:Ak.wrap (ao:Int)=(ao:Int):=by rw[Au];omega
    have g3:(ao:Int)<(n:Int):=by omega
    have g4:(0:Int)<=(ao:Int):=by omega
    have g5:(L:Int)<=(O:Int):=by omega
    have g6:(O:Int) - (L:Int)=(E:Int):=by omega
    have g7:Ak.wrap (E:Int)=(E:Int):=by rw[Au];omega
    have u:Hid (CZ a L M base (3 - (t+1)) (t+1) (xorNext r,swp G f ao)=D):=F;clear F;by_cases H:f=ao
    ·subst H;have P:Hid (CZ a L M base (3 - (t+1)) (t+1) (xorNext r,swp G f f)=D):=u.o;clear u B C N p;go_wp2_with fail;refine K.mono ?_;rintro e j ⟨rfl,s⟩
     have i:Hid (SR j g G/\BoxU j xb (xorNext r)/\Zaa (λ k=>k=g∨k=xb) W j/\G.size=n):=⟨l.o.2.1.turned s.o.2 (λ e=>J.o e.symm),s.o.1,l.o.2.2.2.1.trans s.o.2 (λ _ _ q=>.inr q),l.o.2.2.2.2⟩
     clear l s K
     obtain⟨x,z⟩:∃x,G[f]! = x:=⟨_,rfl⟩
     have c0:j.cell? ⟨g,f,none⟩=some (uv x):=by rw[<- z];exact i.o.1.cell (by have:=i.o.2.2.2;omega)
     have f0:=i.o.1.thaw f
     have m:Hid (G[f]! = x/\G[f]! = x):=⟨z,z⟩
     clear z;go_wp2_with fail;go_region;go_wp2;go_roundg (gk - 1)
     case measure=>omega
     case rel=>exact⟨f+1,t+1,xorNext r,swp G f f,by go_num,by omega,by have:=IX.o;omega,P.o,i.o.1.drewSwap m.o.1 m.o.2,i.o.2.1.turned (turnSwap (Zaa.refl (λ k=>k=g) j) _ _ _ _) (λ e=>J.o e),i.o.2.2.1.trans (turnSwap (Zaa.refl (λ k=>k=g) j) _ _ _ _) (λ _ _ q=>.inl q),by rw[Zao];exact i.o.2.2.2⟩
    ·have P:Hid (CZ a L M base (3 - (t+1)) (t+1) (xorNext r,swp G f ao)=D):=u.o;clear u B C N p;go_wp2_with fail;refine K.mono ?_;rintro e j ⟨rfl,s⟩
     have i:Hid (SR j g G/\BoxU j xb (xorNext r)/\Zaa (λ k=>k=g∨k=xb) W j/\G.size=n):=⟨l.o.2.1.turned s.o.2 (λ e=>J.o e.symm),s.o.1,l.o.2.2.2.1.trans s.o.2 (λ _ _ q=>.inr q),l.o.2.2.2.2⟩
     clear l s K
     obtain⟨x,z⟩:∃x,G[f]! = x:=⟨_,rfl⟩
     obtain⟨y,R⟩:∃y,G[ao]! = y:=⟨_,rfl⟩
     have c0:j.cell? ⟨g,f,none⟩=some (uv x):=by rw[<- z];exact i.o.1.cell (by have:=i.o.2.2.2;omega)
     have c1:j.cell? ⟨g,ao,none⟩=some (uv y):=by rw[<- R];exact i.o.1.cell (by have:=i.o.2.2.2;omega)
     have f0:=i.o.1.thaw f;have f1:=i.o.1.thaw ao
     have m:Hid (G[f]! = x/\G[ao]! = y):=⟨z,R⟩
     have nt:¬f=ao:=H
     have ai:¬ao=f:=λ e=>nt e.symm
     clear z R;go_wp2_with fail;go_region;go_wp2;go_roundg (gk - 1)
     case measure=>omega
     case rel=>exact⟨f+1,t+1,xorNext r,swp G f ao,by go_num,by omega,by have:=IX.o;omega,P.o,i.o.1.drewSwap m.o.1 m.o.2,i.o.2.1.turned (turnSwap (Zaa.refl (λ k=>k=g) j) _ _ _ _) (λ e=>J.o e),i.o.2.2.1.trans (turnSwap (Zaa.refl (λ k=>k=g) j) _ _ _ _) (λ _ _ q=>.inl q),by rw[Zao];exact i.o.2.2.2⟩
   ·have ad:¬L<=O:=I
    obtain⟨E,C⟩:=Xa O
    have ae:E<L:=by omega
    obtain⟨ao,B⟩:=Xa (a+E)
    have F:CZ a L M base (3 - (t+1)) (t+1) (xorNext r,swp G f ao)=D:=by
     rw[<- l.o.1,bp_step a L M base t r G E (by omega) (by rw[<- N,Aw I,C]),p,B]
    have g1:(a:Int)+(E:Int)=(ao:Int):=by omega
    have g2:Ak.wrap (ao:Int)=(ao:Int):=by rw[Au];omega
    have g3:(ao:Int)<(n:Int):=by omega
    have g4:(0:Int)<=(ao:Int):=by omega
    have g5:¬(L:Int)<=(O:Int):=by omega
    have g6:O=E:=C;have u:Hid (CZ a L M base (3 - (t+1)) (t+1) (xorNext r,swp G f ao)=D):=F;clear F;subst g6;by_cases H:f=ao
    ·subst H;have P:Hid (CZ a L M base (3 - (t+1)) (t+1) (xorNext r,swp G f f)=D):=u.o;clear u B N p;go_wp2_with fail;refine K.mono ?_;rintro e j ⟨rfl,s⟩
     have i:Hid (SR j g G/\BoxU j xb (xorNext r)/\Zaa (λ k=>k=g∨k=xb) W j/\G.size=n):=⟨l.o.2.1.turned s.o.2 (λ e=>J.o e.symm),s.o.1,l.o.2.2.2.1.trans s.o.2 (λ _ _ q=>.inr q),l.o.2.2.2.2⟩
     clear l s K
     obtain⟨x,z⟩:∃x,G[f]! = x:=⟨_,rfl⟩
     have c0:j.cell? ⟨g,f,none⟩=some (uv x):=by rw[<- z];exact i.o.1.cell (by have:=i.o.2.2.2;omega)
     have f0:=i.o.1.thaw f
     have m:Hid (G[f]! = x/\G[f]! = x):=⟨z,z⟩
     clear z;go_wp2_with fail;go_region;go_wp2;go_roundg (gk - 1)
     case measure=>omega
     case rel=>exact⟨f+1,t+1,xorNext r,swp G f f,by go_num,by omega,by have:=IX.o;omega,P.o,i.o.1.drewSwap m.o.1 m.o.2,i.o.2.1.turned (turnSwap (Zaa.refl (λ k=>k=g) j) _ _ _ _) (λ e=>J.o e),i.o.2.2.1.trans (turnSwap (Zaa.refl (λ k=>k=g) j) _ _ _ _) (λ _ _ q=>.inl q),by rw[Zao];exact i.o.2.2.2⟩
    ·have P:Hid (CZ a L M base (3 - (t+1)) (t+1) (xorNext r,swp G f ao)=D):=u.o;clear u B N p;go_wp2_with fail;refine K.mono ?_;rintro e j ⟨rfl,s⟩
     have i:Hid (SR j g G/\BoxU j xb (xorNext r)/\Zaa (λ k=>k=g∨k=xb) W j/\G.size=n):=⟨l.o.2.1.turned s.o.2 (λ e=>J.o e.symm),s.o.1,l.o.2.2.2.1.trans s.o.2 (λ _ _ q=>.inr q),l.o.2.2.2.2⟩
     clear l s K
     obtain⟨x,z⟩:∃x,G[f]! = x:=⟨_,rfl⟩
     obtain⟨y,R⟩:∃y,G[ao]! = y:=⟨_,rfl⟩
     have c0:j.cell? ⟨g,f,none⟩=some (uv x):=by rw[<- z];exact i.o.1.cell (by have:=i.o.2.2.2;omega)
     have c1:j.cell? ⟨g,ao,none⟩=some (uv y):=by rw[<- R];exact i.o.1.cell (by have:=i.o.2.2.2;omega)
     have f0:=i.o.1.thaw f;have f1:=i.o.1.thaw ao
     have m:Hid (G[f]! = x/\G[ao]! = y):=⟨z,R⟩
     have nt:¬f=ao:=H
     have ai:¬ao=f:=λ e=>nt e.symm
     clear z R;go_wp2_with fail;go_region;go_wp2;go_roundg (gk - 1)
     case measure=>omega
     case rel=>exact⟨f+1,t+1,xorNext r,swp G f ao,by go_num,by omega,by have:=IX.o;omega,P.o,i.o.1.drewSwap m.o.1 m.o.2,i.o.2.1.turned (turnSwap (Zaa.refl (λ k=>k=g) j) _ _ _ _) (λ e=>J.o e),i.o.2.2.1.trans (turnSwap (Zaa.refl (λ k=>k=g) j) _ _ _ _) (λ _ _ q=>.inl q),by rw[Zao];exact i.o.2.2.2⟩
  ·have z1:¬(f:Int)<=(A:Int):=by omega
   have aa:Hid (SR wr g D/\Zaa (λ k=>k=g) w wr):=by
    have e3:t=3:=by omega
    have hq:=l.o.1;rw[e3]at hq;have af:G=D:=hq;rw[<- af];exact⟨l.o.2.1,U.o _ l.o.2.2.2.1⟩
   clear l;go_wp2;refine CE (v:=Af #[]) (BJ rfl _ _ _) rfl ?_;exact⟨rfl,aa⟩
end Go.Proofs.YtlojblelpaegpaaGreat
namespace Go.Proofs.YtlojblelpaegpaaGreat
open Go.Sort hiding Below
theorem swoU:SWO ltU where
 irrefl x:=by simp[ltU]
 trans x y z h1 h2:=by simp only[ltU,A5,BK]at *;omega
 ntrans x y z h1 h2:=by simp only[ltU,Ax,BK]at *;omega
theorem ZdY{d:Array UInt64}{a b s n:Nat}(c:n<=a)(e:n<=b):n<=(order2 ltU d a b s).1/\n<=(order2 ltU d a b s).2.1:=by
 unfold order2
 split
 ·exact⟨e,c⟩
 ·exact⟨c,e⟩
theorem ZbW{d:Array UInt64}{a b e0 s n:Nat}(e:n<=a)(f:n<=b)(g:n<=e0):n<=(median ltU d a b e0 s).1:=by
 have c:=ZdY (d:=d) (s:=s) e f;have h:=ZdY (d:=d) (s:=(order2 ltU d a b s).2.2) c.2 g;exact(ZdY (d:=d) (s:=(order2 ltU d (order2 ltU d a b s).2.1 e0 (order2 ltU d a b s).2.2).2.2) c.1 h.1).2
theorem ZpU{d:Array UInt64}{a b:Nat}(h:12<b - a):a<(choosePivot ltU d a b).1/\(choosePivot ltU d a b).1+1<b:=by
 obtain⟨l,i⟩:=Xa (b - a)
 obtain⟨q,hq⟩:=Xa (l / 4)
 unfold choosePivot;simp only[i,hq]
 have g:l≥8:=by omega
 simp only[g,Fa]
 have m:b - 1<=b:=by omega
 split
 ·have c:∀s,a+1<=(medianAdjacent ltU d (a+q*1) s).1/\(medianAdjacent ltU d (a+q*1) s).1<b - 1:=λ s=>⟨ZbW (by omega) (by omega) (by omega),(Za6 (by omega) (by omega) (by omega)).1⟩
  have e:∀s,a+1<=(medianAdjacent ltU d (a+q*2) s).1/\(medianAdjacent ltU d (a+q*2) s).1<b - 1:=λ s=>⟨ZbW (by omega) (by omega) (by omega),(Za6 (by omega) (by omega) (by omega)).1⟩
  have f:∀s,a+1<=(medianAdjacent ltU d (a+q*3) s).1/\(medianAdjacent ltU d (a+q*3) s).1<b - 1:=λ s=>⟨ZbW (by omega) (by omega) (by omega),(Za6 (by omega) (by omega) (by omega)).1⟩
  have j:=ZbW (d:=d) (s:=(medianAdjacent ltU d (a+q*3) (medianAdjacent ltU d (a+q*2) (medianAdjacent ltU d (a+q*1) 0).2).2).2) (c 0).1 (e (medianAdjacent ltU d (a+q*1) 0).2).1 (f (medianAdjacent ltU d (a+q*2) (medianAdjacent ltU d (a+q*1) 0).2).2).1;have k:=(Za6 (d:=d) (s:=(medianAdjacent ltU d (a+q*3) (medianAdjacent ltU d (a+q*2) (medianAdjacent ltU d (a+q*1) 0).2).2).2) (c 0).2 (e (medianAdjacent ltU d (a+q*1) 0).2).2 (f (medianAdjacent ltU d (a+q*2) (medianAdjacent ltU d (a+q*1) 0).2).2).2).1;exact⟨by omega,by omega⟩
 ·have j:=ZbW (d:=d) (a:=a+q*1) (b:=a+q*2) (e0:=a+q*3) (s:=0) (n:=a+1) (by omega) (by omega) (by omega);have k:=(Za6 (d:=d) (a:=a+q*1) (b:=a+q*2) (e0:=a+q*3) (s:=0) (n:=b - 1) (by omega) (by omega) (by omega)).1;exact⟨by omega,by omega⟩
structure Rnd(E:Array UInt64)(a b lim:Nat)(wb wp:Bool)(d1:Array UInt64)(l1 cp:Nat)(ch:Hint)(d2:Array UInt64)(pv:Nat)(ht:Hint)(p1:Array UInt64)(p2:Bool):Prop where
 wbt:wb=true->E=d1/\lim=l1
 wbf:wb=false->breakPatterns E a b=d1/\lim - 1=l1
 piv:choosePivot ltU d1 a b=(cp,ch)
 dec:ch=.decreasing->reverseRange d1 a b=d2/\(b - 1) - (cp - a)=pv/\ht=.increasing
 inc:ch≠.decreasing->d1=d2/\cp=pv/\ht=ch
 yes:(wb&&wp&&decide (ht=.increasing))=true->partialInsertionSort ltU d2 a b=(p1,p2)
 no:(wb&&wp&&decide (ht=.increasing))=false->d2=p1/\p2=false
 s1:d1.size=E.size
 s2:d2.size=E.size
 s3:p1.size=E.size
 cpr:a<cp/\cp+1<b
 pvr:a<pv/\pv<b
 llim:l1<=lim
 done:p2=true->pdq ltU E a b lim wb wp=p1
 eql:p2=false->(decide (a>0)&&!ltU p1[a - 1]! p1[pv]!)=true->∀mid d4,partitionEqual ltU p1 a b pv=(mid,d4)->a<mid/\mid<=b/\d4.size=E.size/\C6 ltU mid b d4/\pdq ltU E a b lim wb wp=pdq ltU d4 mid b l1 wb wp
 prt:p2=false->(decide (a>0)&&!ltU p1[a - 1]! p1[pv]!)=false->∀mid ap d4,partition ltU p1 a b pv=(mid,ap,d4)->a<=mid/\mid<b/\d4.size=E.size/\C6 ltU a mid d4/\C6 ltU (mid+1) b d4 /\
  (mid - a<b - mid->(pdq ltU d4 a mid l1 true true).size=E.size/\C6 ltU (mid+1) b (pdq ltU d4 a mid l1 true true)/\pdq ltU E a b lim wb wp=pdq ltU (pdq ltU d4 a mid l1 true true) (mid+1) b l1 (decide (mid - a≥(b - a) / 8)) ap) /\
  (¬mid - a<b - mid->(pdq ltU d4 (mid+1) b l1 true true).size=E.size/\C6 ltU a mid (pdq ltU d4 (mid+1) b l1 true true)/\pdq ltU E a b lim wb wp=pdq ltU (pdq ltU d4 (mid+1) b l1 true true) a mid l1 (decide (b - mid≥(b - a) / 8)) ap)
theorem rnd(E:Array UInt64)(a b d:Nat)(wb wp:Bool)(i:¬b - a<=12)(r:¬d=0)(v:b<=E.size)(F:C6 ltU a b E):∃C I B A D L H J K,Rnd E a b d wb wp C I B A D L H J K:=by
 obtain⟨s1,O,G,s2,P,f,s3,x⟩:=rd_facts (limit:=d) (wb:=wb) (wp:=wp) swoU partialInsertionSort_holds reverseRange_holds (show a<b by omega) v F
 have n:a<(rd ltU E a b d wb wp).c.1/\(rd ltU E a b d wb wp).c.1+1<b:=by
  rw[rd_c];exact ZpU (by omega)
 refine⟨(rd ltU E a b d wb wp).d1,(rd ltU E a b d wb wp).lim,(rd ltU E a b d wb wp).c.1,(rd ltU E a b d wb wp).c.2,(rd ltU E a b d wb wp).d2,(rd ltU E a b d wb wp).pivot,(rd ltU E a b d wb wp).hint,(rd ltU E a b d wb wp).pi.1,(rd ltU E a b d wb wp).pi.2,?_⟩
 have o:a<(rd ltU E a b d wb wp).pivot/\(rd ltU E a b d wb wp).pivot<b:=by
  refine⟨?_,f.2⟩;by_cases y:(rd ltU E a b d wb wp).c.2=.decreasing
  ·rw[(rd_dec y).2.1];omega
  ·rw[(rd_not y).2.1];exact n.1
 exact {
  wbt:=λ e=>by subst e;exact⟨rfl,rfl⟩
  wbf:=λ e=>by subst e;exact⟨rfl,rfl⟩
  piv:=rfl
  dec:=λ e=>⟨(rd_dec e).1.symm,(rd_dec e).2.1.symm,(rd_dec e).2.2⟩
  inc:=λ e=>⟨(rd_not e).1.symm,(rd_not e).2.1.symm,(rd_not e).2.2⟩
  yes:=λ e=>(rd_pi_yes e).symm
  no:=λ e=>by rw[rd_pi_no e];exact⟨rfl,rfl⟩
  s1:=s1,s2:=s2,s3:=s3,cpr:=n,pvr:=o,llim:=rd_lim_le
  done:=λ e=>pdq_done i r e
  eql:=λ e g j t h=>by
   have u:=g;simp only[Bool.and_eq_true,A5,Bool.not_eq_true']at u;obtain⟨l,m,k,s,_⟩:=round_eq swoU (partitionEqual_holds ltU) u.1 f.1 f.2 (by rw[s3];exact v) x u.2 h;exact⟨l,m,k.trans s3,s,by rw[pdq_eq i r e g (by rw[h];exact⟨l,m⟩),h]⟩
  prt:=λ e g j Q t h=>by
   obtain⟨l,m,k,s,z,M,N⟩:=round_part swoU (partition_holds ltU) f.1 f.2 (by rw[s3];exact v) x h;refine⟨l,m,k.trans s3,s,z,λ q=>?_,λ q=>?_⟩
   ·obtain⟨p,w⟩:=pdq_sorts ltU swoU t a j (rd ltU E a b d wb wp).lim true true (by omega) (by rw[k,s3];omega) s;exact⟨by rw[p.1,k,s3],(M _ p w).1,by rw[pdq_left i r e g (by rw[h];exact⟨l,m⟩) (by rw[h];exact q),h]⟩
   ·obtain⟨p,w⟩:=pdq_sorts ltU swoU t (j+1) b (rd ltU E a b d wb wp).lim true true (by omega) (by rw[k,s3];omega) z
    exact⟨by rw[p.1,k,s3],(N _ p w).1,by rw[pdq_right i r e g (by rw[h];exact⟨l,m⟩) (by rw[h];exact q),h]⟩ }
end Go.Proofs.YtlojblelpaegpaaGreat
namespace Go.Proofs.YtlojblelpaegpaaGreat
open Go.RowKit
open Go.Sort hiding Below
theorem ZpS:∀(N:Nat) (w:Ap) (g n c a b R:Nat) (d:Array UInt64),b - a<N->SR w g d->d.size=n->a<=b->b<=n->n<=1000000000000->R<=1000->C6 ltU a b d->∀D,pdq ltU d a b R true true=D ->
  At Am 85 #[Aa (some ⟨g,0,none⟩) n c,Ab Ak (a:Int),Ab Ak (b:Int),Ab Ak (R:Int)] w λ e w'=>e=Aj (Af #[])/\Hid (SR w' g D/\Zaa (λ k=>k=g) w w'):=by
 intro N
 induction N with
 | zero=>intro _ _ _ _ _ _ _ _ h;exact absurd h (Nat.not_lt_zero _)
 | succ N ih =>
  intro w g n c a b R d hN aq aA aC hb hn ay ad D hD
  have H0:Hid (d.size=n/\C6 ltU a b d/\SR w g d/\Zaa (λ k=>k=g) w w/\pdq ltU d a b R true true=D):=⟨aA,ad,aq,Zaa.refl _ _,hD⟩
  clear aq aA ad hD;go_enter func85,ntmps85;go_wp2_with fail;go_loopg[1,2,3,8,9] (b - a) (λ k s1 s2 s3 s8 s9 wr=>∃(j l X:Nat) (wb wp:Bool),s1=Ab Ak (j:Int)/\s2=Ab Ak (l:Int)/\s3=Ab Ak (X:Int)/\s8=Ad wb/\s9=Ad wp/\j<=l/\l<=n/\l - j<=k/\k<=b - a/\X<=1000/\Hid (∃E:Array UInt64,E.size=n/\C6 ltU j l E/\SR wr g E/\Zaa (λ k=>k=g) w wr/\pdq ltU E j l X wb wp=D))
  case atStart=>exact⟨a,b,R,true,true,rfl,rfl,rfl,rfl,rfl,aC,hb,Az _,Az _,ay,d,H0.o⟩
  case round =>
   obtain⟨j,l,X,wb,wp,rfl,rfl,rfl,rfl,rfl,av,aw,hk,aT,aU,HX⟩:=hrel;obtain⟨E,J,K,e3,e4,e5⟩:=HX.o;clear H0
   obtain⟨ll,aV⟩:=Xa (l - j)
   have n1:(l:Int) - (j:Int)=(ll:Int):=by omega
   have a2:Ak.wrap (ll:Int)=(ll:Int):=by rw[Au];omega
   by_cases aQ:ll<=12
   ·have aO:(ll:Int)<=12:=by omega
    have p:=ZpD (c:=c) (a:=j) (b:=l) e3 J av aw (by omega);rw[<- pdq_small (limit:=X) (wb:=wb) (wp:=wp) (show l - j<=12 by omega),e5]at p;have H1:Hid (Zaa (λ k=>k=g) w wr):=e4;clear J K e3 e4 e5 HX;go_wp2_with fail;refine p.mono ?_;rintro e w1 ⟨rfl,s⟩;clear p;go_wp2
    (try simp only[FH,Exit.then])
    refine As (v:=Af #[]) (BJ rfl _ _ _) rfl ?_;exact⟨rfl,s.o.1,H1.o.trans s.o.2 (λ _ _ q=>q)⟩
   ·have aO:¬(ll:Int)<=12:=by omega
    by_cases ak:X=0
    ·have p:=Znh (c:=c) (a:=j) (b:=l) e3 J (by omega) aw hn;rw[<- pdq_heap (limit:=X) (wb:=wb) (wp:=wp) (show ¬l - j<=12 by omega) ak,e5]at p;have H1:Hid (Zaa (λ k=>k=g) w wr):=e4;clear J K e3 e4 e5 HX;subst ak;go_wp2_with fail;refine p.mono ?_;rintro e w1 ⟨rfl,s⟩;clear p;go_wp2
     (try simp only[FH,Exit.then])
     refine As (v:=Af #[]) (BJ rfl _ _ _) rfl ?_;exact⟨rfl,s.o.1,H1.o.trans s.o.2 (λ _ _ q=>q)⟩
    ·have a5:¬(X:Int)=0:=by omega
     obtain⟨d1,O,cp,ch,d2,P,ht,L,p2,H⟩:=rnd E j l X wb wp (by omega) ak (by omega) K;have G:=shid H
     have ae:d1.size=n:=by rw[H.s1];exact J
     have aB:d2.size=n:=by rw[H.s2];exact J
     have af:L.size=n:=by rw[H.s3];exact J
     have aR:=H.cpr;have ac:=H.pvr;have aP:=H.llim;have HE:Hid (pdq ltU E j l X wb wp=D):=e5;have HS:Hid (E.size=n):=J
     have H1:Hid (SR wr g E/\Zaa (λ k=>k=g) w wr):=⟨e3,e4⟩
     clear H J K e3 e4 e5 HX
     go_upto_if 35 with fail
     go_cut[3]from 19 to 133 (λ s3 u=>∃v,v=u/\s3=Ab Ak (O:Int)/\Hid (SR v g d1/\Zaa (λ k=>k=g) w v))
     case first =>
      cases wb with
      | false =>
       have Q:=G.o.wbf rfl;have p:=Zpo (c:=c) (a:=j) (b:=l) H1.o.1 HS.o (by omega) (by omega) hn;rw[Q.1]at p;have aF:=Q.2
       have r1:(X:Int) - 1=(O:Int):=by omega
       have aK:Ak.wrap (O:Int)=(O:Int):=by rw[Au];omega
       clear Q G aF;go_wp2_with fail;refine p.mono ?_;rintro e w1 ⟨rfl,s⟩;clear p;go_wp2_with fail;go_meet;exact⟨_,rfl,rfl,s.o.1,H1.o.2.trans s.o.2 (λ _ _ q=>q)⟩
      | true =>
       have Q:=shid (G.o.wbt rfl);clear G;go_wp2_with fail;go_meet;exact⟨_,rfl,by rw[Q.o.2],by rw[<- Q.o.1];exact H1.o.1,H1.o.2⟩
     case rest =>
      obtain⟨v,rfl,rfl,H2⟩:=hcut;have p:=Zoi (c:=c) H2.o.1 ae (by omega) (by omega) hn (cp,ch) G.o.piv;simp only at p
      obtain⟨hv,aj⟩:=Xa (hintV ch)
      obtain⟨hz,ax⟩:=Xa (hintV ht)
      rw[aj]at p;have HV:Hid (hintV ch=hv):=aj;have HZ:Hid (hintV ht=hz):=ax;clear aj ax;go_wp2_with fail;refine p.mono ?_;rintro e w2 ⟨rfl,ah⟩
      have H3:Hid (SR w2 g d1/\Zaa (λ k=>k=g) w w2):=⟨H2.o.1.below ah.o,H2.o.2.trans (Zaa.ofBelow (S:=λ _=>False) ah.o) (λ _ _ q=>q.elim)⟩
      clear p ah
      go_upto_if 50 with fail
      go_cut[11,12]from 19 to 133 (λ aL aM u=>∃v,v=u/\aL=Ab Ak (P:Int)/\aM=Ab Ak hz/\Hid (SR v g d2/\Zaa (λ k=>k=g) w v))
      case first =>
       by_cases hh:ch=.decreasing
       ·have C:=G.o.dec hh
        have J:hv=2:=by rw[<- HV.o,hh];rfl
        have K:Hid (hz=1):=by show _=_;rw[<- HZ.o,C.2.2];rfl
        have ai:=Zpk (c:=c) (a:=j) (b:=l) H3.o.1 ae (by omega) (by omega) (by omega);rw[C.1]at ai
        obtain⟨bb,aD⟩:=Xa (l - 1)
        obtain⟨mm,aH⟩:=Xa (cp - j)
        have aI:=C.2.1
        have r1:(l:Int) - 1=(bb:Int):=by omega
        have aK:Ak.wrap (bb:Int)=(bb:Int):=by rw[Au];omega
        have r2:(cp:Int) - (j:Int)=(mm:Int):=by omega
        have a3:Ak.wrap (mm:Int)=(mm:Int):=by rw[Au];omega
        have r3:(bb:Int) - (mm:Int)=(P:Int):=by omega
        have a4:Ak.wrap (P:Int)=(P:Int):=by rw[Au];omega
        clear C HV hh G aD aH aI;subst J;go_wp2_with fail;refine ai.mono ?_;rintro e w3 ⟨rfl,ao⟩;clear ai;go_wp2_with fail;go_meet;exact⟨_,rfl,rfl,by rw[K.o],ao.o.1,H3.o.2.trans ao.o.2 (λ _ _ q=>q)⟩
       ·have C:=G.o.inc hh
        have J:¬hv=2:=λ e=>hh (by have:=HV.o;rw[e]at this;cases ch <;> simp[hintV]at this ⊢)
        have K:Hid (hv=hz/\d1=d2/\cp=P):=⟨by rw[<- HV.o,<- HZ.o,C.2.2],C.1,C.2.1⟩
        clear C HV hh G;go_wp2_with fail;go_meet;exact⟨_,rfl,by rw[K.o.2.2],by rw[K.o.1],by rw[<- K.o.2.1];exact H3.o.1,H3.o.2⟩
      case rest =>
       obtain⟨v,rfl,rfl,rfl,H4⟩:=hcut;clear H3 H2
       go_upto_region 15 with fail
       go_cut[68]from 19 to 133 (λ aN u=>∃v f,v=u/\aN=Ad f/\Hid ((wb&&wp&&decide (ht=.increasing))=f/\SR v g d2/\Zaa (λ k=>k=g) w v))
       case first =>
        by_cases h1:ht=.increasing
        ·have J:hz=1:=by rw[<- HZ.o,h1];rfl
         have K:decide (ht=.increasing)=true:=by simpa using h1
         have KE:Hid ((wb&&wp&&decide (ht=.increasing))=(wb&&wp)):=by show _=_;rw[K,Bool.and_true]
         clear h1 K G HZ;subst J
         cases wb <;> cases wp <;>
          (go_wp2_with fail
           go_meet
           exact⟨_,_,rfl,rfl,KE.o,H4.o⟩)
        ·have J:¬hz=1:=λ e=>h1 (by have:=HZ.o;rw[e]at this;cases ht <;> simp[hintV]at this ⊢)
         have K:decide (ht=.increasing)=false:=by simpa using h1
         have KE:Hid ((wb&&wp&&decide (ht=.increasing))=false):=by show _=_;rw[K,Bool.and_false]
         clear h1 K G HZ
         cases wb <;> cases wp <;>
          (go_wp2_with fail
           go_meet
           exact⟨_,_,rfl,rfl,(by first | exact KE.o | (rw[KE.o];exact(A7.2 J).symm)),H4.o⟩)
       case rest =>
        obtain⟨v,f,rfl,rfl,H5⟩:=hcut;clear H4
        go_upto_if 68 with fail
        go_cut[]from 19 to 133 (λ u=>∃v,v=u/\Hid (p2=false/\SR v g L/\Zaa (λ k=>k=g) w v))
        case first =>
         cases f with
         | false =>
          have al:=G.o.no H5.o.1
          have r:Hid (p2=false/\d2=L):=⟨al.2,al.1⟩
          clear al;go_wp2_with fail;go_meet;exact⟨_,rfl,r.o.1,by rw[<- r.o.2];exact H5.o.2.1,H5.o.2.2⟩
         | true =>
          have p:=ZnN (c:=c) H5.o.2.1 aB (by omega) (by omega) hn (L,p2) (G.o.yes H5.o.1);simp only at p
          have DN:Hid (p2=true->D=L):=λ e=>by rw[<- HE.o];exact G.o.done e
          clear G
          cases p2 with
          | true =>
           go_wp2_with fail;refine p.mono ?_;rintro e w6 ⟨rfl,H6⟩;clear p;go_wp2
           (try simp only[FH,Exit.then])
           refine As (v:=Af #[]) (BJ rfl _ _ _) rfl ?_;rw[DN.o (by first | rfl | trivial)];exact⟨rfl,H6.o.1,H5.o.2.2.trans H6.o.2 (λ _ _ q=>q)⟩
          | false =>
           go_wp2_with fail;refine p.mono ?_;rintro e w6 ⟨rfl,H6⟩;clear p;go_wp2_with fail;go_meet;exact⟨_,rfl,(by first|rfl|trivial),H6.o.1,H5.o.2.2.trans H6.o.2 (λ _ _ q=>q)⟩
        case rest =>
         obtain⟨v,rfl,Z⟩:=hcut;clear H5;have P2:Hid (p2=false):=Z.o.1
         obtain⟨Y,aJ⟩:=Xb v
         subst aJ
         go_upto_region 17 with fail
         go_cut[87]from 19 to 133 (λ tv u=>∃v f,v=u/\tv=Ad f/\Hid ((decide (j>0)&&!ltU L[j - 1]! L[P]!)=f/\SR v g L/\Zaa (λ k=>k=g) w v))
         case first =>
          by_cases ar:0<j
          ·obtain⟨aa,au⟩:=Xa (j - 1)
           obtain⟨x,W⟩:∃x,L[aa]! = x:=⟨_,rfl⟩
           obtain⟨y,hy⟩:∃y,L[P]! = y:=⟨_,rfl⟩
           obtain⟨f0,hf⟩:=Xa (ltU x y)
           have q0:∀u:SW (Grew Y),u.w.cell? ⟨g,aa,none⟩=some (uv x):=λ u=>by rw[<- W];exact(Z.o.2.1.below u.ok).cell (by omega)
           have q1:∀u:SW (Grew Y),u.w.cell? ⟨g,P,none⟩=some (uv y):=λ u=>by rw[<- hy];exact(Z.o.2.1.below u.ok).cell (by omega)
           have hL:=λ u=>Zas (wr:=Y) x y f0 hf u
           have NE:Nonempty (SW (Grew Y)):=⟨⟨Y,Ao _ Y⟩⟩
           have j1:(0:Int)<(j:Int):=by omega
           have j2:decide ((0:Int)<(j:Int))=true:=by simpa using j1
           have j3:decide (0<j)=true:=by simpa using ar
           have j4:(aa:Int)<(n:Int):=by omega
           have j5:(P:Int)<(n:Int):=by omega
           have j6:(0:Int)<=(aa:Int):=by omega
           have j7:(0:Int)<=(P:Int):=by omega
           have j8:(j:Int) - 1=(aa:Int):=by omega
           have j9:Ak.wrap (aa:Int)=(aa:Int):=by rw[Au];omega
           have KE:Hid ((decide (j>0)&&!ltU L[j - 1]! L[P]!)=(!f0)):=by
            show _=_;have an:decide (j>0)=true:=j3;rw[au,W,hy,hf,an,Bool.true_and]
           clear W hy hf au
           cases f0 with
           | true =>
            refine Zab (S:=Grew Y) (by kernel_rfl) (by kernel_rfl) (Ao _ Y).drew ?_
            repeat(go_big_quiet_step (with_reducible exact hL _))
            refine AN ?_;intro _ am;obtain⟨u,V⟩:=am;subst V;go_wp2_with fail;go_meet;exact⟨_,_,rfl,rfl,KE.o,Z.o.2.1.below u.ok,Z.o.2.2.trans (Zaa.ofBelow u.ok) (λ _ _ q=>q)⟩
           | false =>
            refine Zab (S:=Grew Y) (by kernel_rfl) (by kernel_rfl) (Ao _ Y).drew ?_
            repeat(go_big_quiet_step (with_reducible exact hL _))
            refine AN ?_;intro _ am;obtain⟨u,V⟩:=am;subst V;go_wp2_with fail;go_meet;exact⟨_,_,rfl,rfl,KE.o,Z.o.2.1.below u.ok,Z.o.2.2.trans (Zaa.ofBelow u.ok) (λ _ _ q=>q)⟩
          ·have j1:¬(0:Int)<(j:Int):=by omega
           have j2:decide ((0:Int)<(j:Int))=false:=by simpa using j1
           have j3:decide (0<j)=false:=by simpa using ar
           have KE:Hid ((decide (j>0)&&!ltU L[j - 1]! L[P]!)=false):=by
            show _=_;have an:decide (j>0)=false:=j3;rw[an,Bool.false_and]
           go_quiet (fail);go_wp2_with fail;go_meet;have hq:=bdrewN Y nq;exact⟨_,false,rfl,rfl,KE.o,Z.o.2.1.below hq,Z.o.2.2.trans (Zaa.ofBelow (S:=λ _=>False) hq) (λ _ _ q=>q.elim)⟩
         case rest =>
          obtain⟨v,f,rfl,rfl,H9⟩:=hcut;clear Z
          cases f with
          | true =>
           obtain⟨i,B,W⟩:∃i B,partitionEqual ltU L j l P=(i,B):=⟨_,_,rfl⟩
           have m:=G.o.eql P2.o H9.o.1 i B W;have p:=ZjG (c:=c) H9.o.2.1 af ac.1 ac.2 (by omega) hn (i,B) W;simp only at p
           have r:Hid (B.size=n/\C6 ltU i l B/\pdq ltU B i l O wb wp=D):=⟨by rw[m.2.2.1];exact HS.o,m.2.2.2.1,by rw[<- HE.o];exact m.2.2.2.2.symm⟩
           have aG:j<i/\i<=l:=⟨m.1,m.2.1⟩
           clear m W;go_wp2_with fail;refine p.mono ?_;rintro e w7 ⟨rfl,F⟩;clear p;go_wp2;go_roundg (l - i)
           case measure=>omega
           case rel=>exact⟨i,l,O,wb,wp,rfl,rfl,rfl,rfl,rfl,by omega,by omega,by omega,by omega,by omega,B,r.o.1,r.o.2.1,F.o.1,H9.o.2.2.trans F.o.2 (λ _ _ q=>q),r.o.2.2⟩
          | false =>
           obtain⟨i,ap,B,W⟩:∃i ap B,partition ltU L j l P=(i,ap,B):=⟨_,_,_,rfl⟩
           have m:=G.o.prt P2.o H9.o.1 i ap B W;have p:=ZoM (c:=c) H9.o.2.1 af ac.1 ac.2 (by omega) hn (i,ap,B) W;simp only at p;clear W
           have aG:j<=i/\i<l:=⟨m.1,m.2.1⟩
           have aS:B.size=n:=by rw[m.2.2.1];exact HS.o
           obtain⟨lm,aW⟩:=Xa (i - j)
           obtain⟨rm,aX⟩:=Xa (l - i)
           obtain⟨e8,aE⟩:=Xa (ll / 8)
           obtain⟨m1,ab⟩:=Xa (i+1)
           have k1:(i:Int) - (j:Int)=(lm:Int):=by omega
           have aY:Ak.wrap (lm:Int)=(lm:Int):=by rw[Au];omega
           have k2:(l:Int) - (i:Int)=(rm:Int):=by omega
           have aZ:Ak.wrap (rm:Int)=(rm:Int):=by rw[Au];omega
           have k4:(i:Int)+1=(m1:Int):=by omega
           have a1:Ak.wrap (m1:Int)=(m1:Int):=by rw[Au];omega
           have k3:(ll:Int).tdiv 8=(e8:Int):=by rw[<- aE];rfl
           have a0:Ak.wrap (e8:Int)=(e8:Int):=by rw[Au];omega
           by_cases az:i - j<l - i
           ·have A:=m.2.2.2.2.2.1 az
            obtain⟨T,M⟩:=Xa (pdq ltU B j i O true true)
            rw[M]at A
            have U:=λ(u:Ap) (hu:SR u g B)=>ih u g n c j i O B (by omega) hu (by omega) m.1 (by omega) hn (by omega) m.2.2.2.1 T M
            have r:Hid (T.size=n/\C6 ltU m1 l T/\pdq ltU T m1 l O (decide (i - j≥(l - j) / 8)) ap=D):=⟨by rw[A.1];exact HS.o,by rw[<- ab];exact A.2.1,by rw[<- HE.o,<- ab];exact A.2.2.symm⟩
            have c5:(lm:Int)<(rm:Int):=by omega
            obtain⟨t,z⟩:=Xa (decide ((e8:Int)<=(lm:Int)))
            have BE:Hid (decide (e8<=lm)=t):=by
             show _=t;rw[<- z];exact D8.2 ⟨λ h=>by omega,λ h=>by omega⟩
            have ag:Hid (decide (i - j≥(l - j) / 8)=t):=by
             show _=t;rw[<- z];exact D8.2 ⟨λ h=>by omega,λ h=>by omega⟩
            clear m A M z;go_wp2_with fail;refine p.mono ?_;rintro e w7 ⟨rfl,F⟩;have I:=U w7 F.o.1;clear p U;go_wp2_with fail;refine I.mono ?_;rintro e w8 ⟨rfl,s⟩;clear I;go_wp2;go_roundg (l - m1)
            case measure=>omega
            case rel=>exact⟨m1,l,O,t,ap,by go_num,rfl,rfl,(by first | rfl | exact A4 Ad BE.o),rfl,by omega,by omega,by omega,by omega,by omega,T,r.o.1,r.o.2.1,s.o.1,(H9.o.2.2.trans F.o.2 (λ _ _ q=>q)).trans s.o.2 (λ _ _ q=>q),by rw[<- ag.o];exact r.o.2.2⟩
           ·have A:=m.2.2.2.2.2.2 az
            obtain⟨T,M⟩:=Xa (pdq ltU B m1 l O true true)
            rw[ab,M]at A
            have U:=λ(u:Ap) (hu:SR u g B)=>ih u g n c m1 l O B (by omega) hu (by omega) (by omega) (by omega) hn (by omega) (by rw[<- ab];exact m.2.2.2.2.1) T M
            have r:Hid (T.size=n/\C6 ltU j i T/\pdq ltU T j i O (decide (l - i≥(l - j) / 8)) ap=D):=⟨by rw[A.1];exact HS.o,A.2.1,by rw[<- HE.o];exact A.2.2.symm⟩
            have c5:¬(lm:Int)<(rm:Int):=by omega
            obtain⟨t,z⟩:=Xa (decide ((e8:Int)<=(rm:Int)))
            have BE:Hid (decide (e8<=rm)=t):=by
             show _=t;rw[<- z];exact D8.2 ⟨λ h=>by omega,λ h=>by omega⟩
            have ag:Hid (decide (l - i≥(l - j) / 8)=t):=by
             show _=t;rw[<- z];exact D8.2 ⟨λ h=>by omega,λ h=>by omega⟩
            clear m A M z;go_wp2_with fail;refine p.mono ?_;rintro e w7 ⟨rfl,F⟩;have I:=U w7 F.o.1;clear p U;go_wp2_with fail;refine I.mono ?_;rintro e w8 ⟨rfl,s⟩;clear I;go_wp2;go_roundg (i - j)
            case measure=>omega
            case rel=>exact⟨j,i,O,t,ap,rfl,rfl,rfl,(by first | rfl | exact A4 Ad BE.o),rfl,by omega,by omega,by omega,by omega,by omega,T,r.o.1,r.o.2.1,s.o.1,(H9.o.2.2.trans F.o.2 (λ _ _ q=>q)).trans s.o.2 (λ _ _ q=>q),by rw[<- ag.o];exact r.o.2.2⟩
def risU(xs:List UInt64):List UInt64:=xs.mergeSort λ x y=>decide (x<=y)
theorem sortU(d:Array UInt64):(sort ltU d).toList=risU d.toList:=by
 obtain⟨f,b⟩:=sort_sorts ltU swoU d
 have h:=sorted_unique_holds swoU (λ x y c e=>by
  simp only[ltU,Ax,BK]at c e
  exact UInt64.toNat_inj.1 (by omega)) d _ f b
 rw[h];unfold risU
 congr 1
 funext x y
 show(!decide (y<x))=decide (x<=y);by_cases h:x<=y
 ·have a:¬y<x:=by rw[BM]at h;rw[BK];omega
  simp[h,a]
 ·have a:y<x:=by rw[BM]at h;rw[BK];omega
  simp[h,a]
theorem Zkz(d:Array UInt64):(sort ltU d).size=d.size:=(sort_sorts ltU swoU d).1.1
theorem ZlL{w:Ap}{g n c:Nat}{d:Array UInt64}(h:SR w g d)(hd:d.size=n)(hn:n<=1000000000000):
  At Am 29 #[Aa (some ⟨g,0,none⟩) n c] w λ e w'=>e=Aj (Af #[])/\Hid (SR w' g (sort ltU d)/\Zaa (λ k=>k=g) w w'):=by
 obtain⟨L,hL⟩:=Xa (bitsLen n)
 have hLl:L<=62:=by rw[<- hL];exact(bitsLen_le_iff n 62).2 (by omega)
 have c1:=λ w=>ZlT n (by omega) w
 rw[hL]at c1
 have hs:pdq ltU d 0 n L true true=sort ltU d:=by rw[<- hL,<- hd];rfl
 have c2:=ZpS (n+1) w g n c 0 n L d (by omega) h hd (by omega) (Az _) hn (by omega) (Or.inl rfl) _ hs
 have w1:Al.wrap (n:Int)=(n:Int):=by rw[Bh];omega
 rw[show((0:Nat):Int)=0 from rfl]at c2;clear h hd hL hs;go_enter func29,ntmps29;go_wp2_with fail;refine(c1 _).mono ?_;rintro e w3 ⟨rfl,hw3⟩;rw[hw3];clear c1 hw3;go_wp2_with fail;refine c2.mono ?_;rintro e w4 ⟨rfl,H4⟩;clear c2;go_wp2;refine CE (v:=Af #[]) (BJ rfl _ _ _) rfl ?_;exact⟨rfl,H4⟩
theorem Zpe(w:Ap):At Am 135 #[Aa none 0 0,Ab Ak 0,Ab Ak 0] w λ e w'=>e=Aj (Af #[])/\w'=w:=by
 go_enter func135,ntmps135;go_wp2_with fail;go_loopg[6] 0 (λ _ v wr=>v=Ab Ak 1/\wr=w)
 case atStart=>exact⟨rfl,rfl⟩
 case round =>
  obtain⟨rfl,rfl⟩:=hrel;go_wp2;refine CE (v:=Af #[]) (BJ rfl _ _ _) rfl ?_;exact⟨rfl,rfl⟩
theorem Zpp(w:Ap):At Am 85 #[Aa none 0 0,Ab Ak 0,Ab Ak 0,Ab Ak 0] w λ e w'=>e=Aj (Af #[])/\w'=w:=by
 have b:=Zpe w;go_enter func85,ntmps85;go_wp2_with fail;go_loopg[1,2,3,8,9] 0 (λ _ s1 s2 s3 c d wr=>s1=Ab Ak 0/\s2=Ab Ak 0/\s3=Ab Ak 0/\c=Ad true/\d=Ad true/\wr=w)
 case atStart=>exact⟨rfl,rfl,rfl,rfl,rfl,rfl⟩
 case round =>
  obtain⟨rfl,rfl,rfl,rfl,rfl,a⟩:=hrel;subst a;go_wp2_with fail;refine b.mono ?_;rintro e w1 ⟨rfl,rfl⟩;go_wp2
  (try simp only[FH,Exit.then])
  refine As (v:=Af #[]) (BJ rfl _ _ _) rfl ?_;exact⟨rfl,rfl⟩
theorem Zl7(w:Ap):At Am 29 #[Aa none 0 0] w λ e w'=>e=Aj (Af #[])/\w'=w:=by
 have c1:=ZlT 0 (by omega) w;have c2:=Zpp w;rw[show bitsLen 0=0 from rfl]at c1;rw[show((0:Nat):Int)=0 from rfl]at c1;go_enter func29,ntmps29;go_wp2_with fail;refine c1.mono ?_;rintro e w3 ⟨rfl,hw3⟩;rw[hw3];clear c1 hw3;go_wp2_with fail;refine c2.mono ?_;rintro e w4 ⟨rfl,hw4⟩;rw[hw4];clear c2 hw4;go_wp2;refine CE (v:=Af #[]) (BJ rfl _ _ _) rfl ?_;exact⟨rfl,rfl⟩
end Go.Proofs.YtlojblelpaegpaaGreat
