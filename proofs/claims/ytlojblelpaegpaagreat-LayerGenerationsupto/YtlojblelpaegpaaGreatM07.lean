/-
  Several texts, laid together.
-/
import Derived.Shelf.LaysM
import Derived.Shelf.Strconv.Clone
import Derived.Shelf.SlIter.Sorted
import Derived.Test.YtlojblelpaegpaaGreatM05
set_option maxHeartbeats 6400000
set_option maxRecDepth 100000
open Go.Value renaming int->Ab,slice->Aa,bool->Ad,string->Ae,tuple->Af,pointer->Ah
open Go renaming World->Ap,Value->Ar,heap_alloc_new->Ce,Calls->At,bodyPost_ret->As,results_tmp2->AA
open Nat renaming le_refl->Az
open Go.RowKit renaming Below->An
open Go.IntKind renaming u8->Ek,i64->Ak
open Go.RowKit.Below renaming refl->Ao
open Go.Obj renaming cells->Ai
open Go.Ending renaming returned->Aj
open Go.Proofs.Tryz renaming prog->Am
open Go.Proofs.Tryz
namespace Go.Proofs.YtlojblelpaegpaaGreat
open Go.RowKit
theorem ZmY(bs:Bs):encB.all bs=bs.map (λ x=>Ab .u8 (x.toNat:Int)):=by
 induction bs with
 | nil=>rfl
 | cons x t a =>
  show encB.cells x++encB.all t=_;rw[a]
  rfl
theorem Zmh(w:Ap)(bs:Bs)(base:Nat)(a:base<=w.heap.size)(e:bs.length<=1000000)(c:Array Ar)(b:c=(bs.map (λ x=>Ab .u8 (x.toNat:Int))).toArray)(n:Nat)(d:n=bs.length):OwnG encB 5 (w.alloc (Ai c 5)) base (Aa (some ⟨w.heap.size,0,none⟩) n n) bs:=by
 subst b d;refine⟨encB.all_length bs,.inr ⟨w.heap.size,bs.length,_,rfl,a,Ce w _,Az _,by simp only[maxLen];omega,?_,?_⟩⟩
 ·show(List.map _ bs).toArray.size=bs.length*1;simp
 ·rw[ZmY];show List.take (bs.length*1) (List.map _ bs)=_;rw[List.take_of_length_le (by simp)]
theorem bz3d(u:Ap)(a b c:Obj):An u.heap.size u (((u.alloc a).alloc b).alloc c).drew:=((bz2 u a b).trans ((bz1 _ c).mono (bz2 u a b).size)).drew
theorem Zig{w:Ap}{u v z:Ar}{x y t:Bs}(h:BAt w u x)(k:BAt w v y)(m:BAt w z t)(ty:TypeId):ZaF (w.alloc (Ai #[u,v,z] ty)) (Aa (some ⟨w.heap.size,0,none⟩) 3 3) [x,y,t]:=by
 refine⟨_,3,rfl,λ _=>⟨w.heap.size,0,rfl,by simp⟩,λ j q b off a c=>?_⟩;cases c
 match j,a with
 | 0,a =>
  cases a;exact⟨u,by simp,h.below (bz1 w _)⟩
 | 1,a =>
  cases a;exact⟨v,by simp,k.below (bz1 w _)⟩
 | 2,a =>
  cases a;exact⟨z,by simp,m.below (bz1 w _)⟩
 | j+3,a=>simp at a
theorem Zmk(n:Nat)(a:n<4294967296)(w:Ap):
  At Am 216 #[Ab .u32 (n:Int)] w λ e w'=>∃cs,e=Aj (Aa (some ⟨w.heap.size,0,none⟩) 4 4)/\w'=w.alloc (Ai cs 5)/\Hid (cs=((b4 n).map (λ x=>Ab .u8 (x.toNat:Int))).toArray):=by
 refine(Znx n a w).mono ?_;rintro e w' ⟨rfl,rfl⟩;exact⟨_,rfl,rfl,rfl⟩
theorem Zqr(u:Ap)(n:Nat)(y:UInt8)(cs:Array Ar)(a:cs=((b4 n).map (λ x=>Ab .u8 (x.toNat:Int))).toArray):OwnG encB 5 ((u.alloc (Ai cs 5)).alloc (Ai #[Ab .u8 (y.toNat:Int)] 5)) u.heap.size (Aa (some ⟨u.heap.size,0,none⟩) 4 4) (b4 n) /\
  ∀j v,(encB.cells y)[j]? = some v->((u.alloc (Ai cs 5)).alloc (Ai #[Ab .u8 (y.toNat:Int)] 5)).cell? ((⟨u.heap.size+1,0,none⟩:Addr).add j)=some v:=by
 refine⟨(Zmh u (b4 n) u.heap.size (Az _) (by rw[Zbi];decide) cs a 4 (Zbi n).symm).below (bz1 _ _),?_⟩;have:=Zau encB (u.alloc (Ai cs 5)) y 5;rw[show(u.alloc (Ai cs 5)).heap.size=u.heap.size+1 by simp]at this;exact this
theorem ZoY(u:Ap)(n:Nat)(y:UInt8)(cs:Array Ar)(a:cs=((b4 n).map (λ x=>Ab .u8 (x.toNat:Int))).toArray):OwnG encB 5 ((u.alloc (Ai #[Ab .u8 (y.toNat:Int)] 5)).alloc (Ai cs 5)) u.heap.size (Aa (some ⟨u.heap.size+1,0,none⟩) 4 4) (b4 n) /\
  ∀j v,(encB.cells y)[j]? = some v->((u.alloc (Ai #[Ab .u8 (y.toNat:Int)] 5)).alloc (Ai cs 5)).cell? ((⟨u.heap.size,0,none⟩:Addr).add j)=some v:=by
 constructor
 ·have:=Zmh (u.alloc (Ai #[Ab .u8 (y.toNat:Int)] 5)) (b4 n) u.heap.size (by simp) (by rw[Zbi];decide) cs a 4 (Zbi n).symm;rw[show(u.alloc (Ai #[Ab .u8 (y.toNat:Int)] 5)).heap.size=u.heap.size+1 by simp]at this;exact this
 ·intro j v h;have b:=Zau encB u y 5 j v h;rw[<- b];exact(bz1 (u.alloc (Ai #[Ab .u8 (y.toNat:Int)] 5)) _).cell (by rw[ZcU];simp)
theorem Zod{v:Ar}{a:List Bs}(w:Ap)(h:ZaF w v a)(d:a.length<=1000000)(b:Nat)(c:crc a.flatten=b):
  At Am 48 #[v] w λ e w'=>e=Aj (Ab .u32 (b:Int))/\w'=w:=by
 rw[<- c];exact Zlm w h d
theorem ZnY(u:Ap)(c d:Ar)(xs ys:Bs)(g:BAt u c xs)(h:BAt u d ys)(l:xs.length+ys.length<=10000)(a:Nat)(cs:Array Ar)(b:cs=((b4 a).map (λ x=>Ab .u8 (x.toNat:Int))).toArray)(A:Array Ar)(t:TypeId):
  At Am 116 #[Aa (some ⟨u.heap.size+1+1,0,none⟩) 3 3] (((u.alloc (Ai A t)).alloc (Ai cs 5)).alloc (Ai #[c,d,Aa (some ⟨u.heap.size+1,0,none⟩) 4 4] 61)) λ e w'=>∃v,e=Aj v/\Hid (OwnG encB 5 w' u.heap.size v (xs++ys++b4 a)/\An u.heap.size u w'):=by
 have s1:(u.alloc (Ai A t)).heap.size=u.heap.size+1:=by simp
 have s2:((u.alloc (Ai A t)).alloc (Ai cs 5)).heap.size=u.heap.size+1+1:=by simp
 have b1:An u.heap.size u ((u.alloc (Ai A t)).alloc (Ai cs 5)):=bz2 _ _ _
 have i:BAt ((u.alloc (Ai A t)).alloc (Ai cs 5)) (Aa (some ⟨u.heap.size+1,0,none⟩) 4 4) (b4 a):=by
  have:=ZfY (u.alloc (Ai A t)) (b4 a) 5 (0,0) cs b 4 (Zbi a).symm (by rw[Zbi];decide);rw[s1]at this;exact this
 have hp:=Zig (g.below b1) (h.below b1) i 61;rw[s2]at hp
 have e:([xs,ys,b4 a]:List Bs).flatten=xs++ys++b4 a:=by simp
 refine(Zce _ hp (by simp) (by rw[e];simp[Zbi];omega)).mono ?_;rintro k w' ⟨v,rfl,f,j⟩;rw[e]at f;have b2:=b1.trans ((bz1 ((u.alloc (Ai A t)).alloc (Ai cs 5)) (Ai #[c,d,Aa (some ⟨u.heap.size+1,0,none⟩) 4 4] 61)).mono b1.size);exact⟨v,rfl,f.low b2.size,b2.trans (j.mono b2.size)⟩
section
variable{w:World}{k:Int}{a:Option Addr}{n c:Nat}{body:Bs}
theorem Zlx(h:k<0∨255<k):At Am 189 #[.agg #[Ab Ak k,Aa a n c]] w λ e w'=>e=Aj (Af #[Aa none 0 0,Ab Ak 3])/\An w.heap.size w w':=by
 by_cases b:k<0
 ·have q:decide (k<0)=true:=by simpa using b
  go_enter func189,ntmps189;go_wp2;refine As (AA rfl _ _ _) rfl ?_;exact⟨rfl,bz1 _ _⟩
 ·have q:decide (k<0)=false:=by simpa using b
  have d:decide (255<k)=true:=by simp;omega
  go_enter func189,ntmps189;go_wp2;refine As (AA rfl _ _ _) rfl ?_;exact⟨rfl,bz1 _ _⟩
theorem Zm2(b:¬k<0)(d:¬255<k)(h:8192<n):At Am 189 #[.agg #[Ab Ak k,Aa a n c]] w λ e w'=>e=Aj (Af #[Aa none 0 0,Ab Ak 4])/\An w.heap.size w w':=by
 have q:decide (k<0)=false:=by simpa using b
 have f:decide (255<k)=false:=by simpa using d
 have g:(8192:Int)<(n:Int):=by omega
 go_enter func189,ntmps189;go_wp2;refine As (AA rfl _ _ _) rfl ?_;exact⟨rfl,bz1 _ _⟩
theorem Zml(E:¬k<0)(F:¬255<k)(I:body.length=n)(R:¬8192<n)(G:BAt w (Aa a n c) body):At Am 189 #[.agg #[Ab Ak k,Aa a n c]] w λ e w'=>∃v,e=Aj (Af #[v,Ab Ak 0])/\Hid (OwnG encB 5 w' w.heap.size v (sealB k body)/\An w.heap.size w w'):=by
 have q:decide (k<0)=false:=by simpa using E
 have q2:decide (255<k)=false:=by simpa using F
 have q3:decide ((8192:Int)<(n:Int))=false:=by rw[Ax];omega
 obtain⟨W,s⟩:=Xa (w.alloc (Ai #[Ab Ak k,Aa a n c] 243))
 have t:An w.heap.size w W:=by rw[<- s];exact bz1 _ _
 have T:Box W w.heap.size 243 (Ab Ak k) (Aa a n c):=by rw[<- s];exact Box.new w _ _ _
 have M:W.heap.size=w.heap.size+1:=by rw[<- s];simp
 have H:Hid (An w.heap.size w W/\Box W w.heap.size 243 (Ab Ak k) (Aa a n c)/\BAt W (Aa a n c) body/\body.length=n/\n<=8192/\W.heap.size=w.heap.size+1/\0<=k/\k<=255):=⟨t,T,G.below t,I,by omega,M,by omega,by omega⟩
 obtain⟨x0,x1⟩:=T.cells
 obtain⟨y,B⟩:∃y:UInt8,UInt8.ofNat k.toNat=y:=⟨_,rfl⟩
 have A:k % 256=(y.toNat:Int):=by rw[<- B,UInt8.toNat_ofNat'];omega
 have N:Hid (UInt8.ofNat k.toNat=y):=B
 have J:IntKind.u32.wrap (n:Int)=(n:Int):=by rw[IntKind.wrap_u32];omega
 have Q:Ek.wrap k=(y.toNat:Int):=by
  rw[show Ek.wrap k=k % 256 by simp[IntKind.wrap,IntKind.bits,IntKind.signed]];exact A
 clear t T M I G B;go_enter func189,ntmps189
 go_upto_region 5 with fail
 clear E F q q2 q3 R s
 go_region_held3 (λ u=>u.cell? ⟨w.heap.size,0,none⟩=some (Ab Ak k)/\u.cell? ⟨w.heap.size,1,none⟩=some (Aa a n c)) (go_keep)
  (first
   | (refine Za2 encB 5 61 1 _ rfl Tryz.info5 underlying61 rfl (.tmp 21) (.tmp 25) rfl W.heap.size _ (b4 n) y rfl (Zqr W.drew n y cs g.o).1 (W.heap.size+1) rfl (Zqr W.drew n y cs g.o).2 (by rw[Zbi];decide) (by rw[Zbi];decide) (by simp;omega) ?_;intro v5 b h f j l;have i:Hid (OwnG encB 5 b W.heap.size v5 (b4 n++[y])/\An W.heap.size W.drew b):=⟨h,(bz2 W.drew _ _).trans f⟩;clear h f j l;have K:=(H.o.2.1.below ((Ao _ W).drew.trans i.o.2)).cells)
   | (refine Za2 encB 5 61 1 _ rfl Tryz.info5 underlying61 rfl (.tmp 21) (.tmp 25) rfl W.heap.size _ (b4 n) y rfl (ZoY W.drew n y cs g.o).1 W.heap.size rfl (ZoY W.drew n y cs g.o).2 (by rw[Zbi];decide) (by rw[Zbi];decide) (by simp;omega) ?_;intro v5 b h f j l;have i:Hid (OwnG encB 5 b W.heap.size v5 (b4 n++[y])/\An W.heap.size W.drew b):=⟨h,(bz2 W.drew _ _).trans f⟩;clear h f j l;have K:=(H.o.2.1.below ((Ao _ W).drew.trans i.o.2)).cells)
   | (go_at_call 216;refine(Zmk n (by have:=H.o.2.2.2.2.1;omega) _).mono ?_;rintro e w2 ⟨cs,rfl,rfl,g⟩))
 all_goals
  obtain⟨a5,O,rfl,_,_,_,L⟩:=OwnG.form i.o.1
  have C:(b4 n++[y]).length=5:=by rw[List.length_append,Zbi];rfl
  rw[C]at i ⊢;obtain⟨P,rfl⟩:=L (by rw[C];decide);have D:An w.heap.size w b.drew:=(H.o.1.trans (((Ao _ W).drew.trans i.o.2).mono H.o.1.size)).drew
  have hd:([b4 n++[y],body]:List Bs).flatten=headB k body:=by
   rw[headB,H.o.2.2.2.1,N.o];simp
  obtain⟨m,p⟩:=Xa (crc (headB k body))
  have d:Hid (BAt b.drew (Aa (some ⟨P,0,none⟩) 5 O) (b4 n++[y])/\BAt b.drew (Aa a n c) body/\An w.heap.size w b.drew/\Box b w.heap.size 243 (Ab Ak k) (Aa a n c)/\([b4 n++[y],body]:List Bs).flatten=headB k body/\crc (headB k body)=m) :=
   ⟨OwnB.at (OwnG.low (i.o.1.below (Ao _ b).drew) (Nat.zero_le _)),(H.o.2.2.1.below ((Ao _ W).drew.trans i.o.2)).below (Ao _ b).drew,D,H.o.2.1.below ((Ao _ W).drew.trans i.o.2),hd,p⟩
  have S:=d.o.2.2.2.1.cells;obtain⟨U,V⟩:=S;have l6:w.heap.size<b.heap.size:=d.o.2.2.2.1.lt
  have X:w.heap.size≠b.heap.size:=by omega
  have Y:w.heap.size≠b.heap.size+1:=by omega
  have Z:w.heap.size≠b.heap.size+1+1:=by omega
  clear K x0 x1 L D hd p g C i;go_wp2_with fail
  go_region_held3 (λ u=>u.cell? ⟨w.heap.size,0,none⟩=some (Ab Ak k)/\u.cell? ⟨w.heap.size,1,none⟩=some (Aa a n c)) (first | with_reducible exact(d.o.2.2.2.1.below (bz3d _ _ _ _)).cells | go_keep)
   (first
    | (go_at_call 116;refine(ZnY b.drew _ _ _ _ d.o.1 d.o.2.1 (by rw[List.length_append,Zbi];have:=H.o.2.2.2.1;have:=H.o.2.2.2.2.1;simp;omega) m z r.o _ 61).mono ?_;rintro e w8 ⟨v8,rfl,x⟩;have k8:=(d.o.2.2.2.1.below ((Ao _ b).drew.trans x.o.2)).cells)
    | (go_at_call 216;refine(Zmk m (by rw[<- d.o.2.2.2.2.2];exact Zjq _) _).mono ?_;rintro e w7 ⟨z,rfl,rfl,r⟩)
    | (go_at_call 48;refine(Zod _ (ZgB d.o.1 d.o.2.1 61) (by simp) m (by rw[d.o.2.2.2.2.1];exact d.o.2.2.2.2.2)).mono ?_;rintro e w6 ⟨rfl,rfl⟩))
  go_wp2;refine As (AA rfl _ _ _) rfl ?_;refine⟨_,rfl,?_,d.o.2.2.1.trans (x.o.2.mono d.o.2.2.1.size)⟩
  have e:b4 n++[y]++body++b4 m=sealB k body:=by
   rw[sealB,d.o.2.2.2.2.2,<- d.o.2.2.2.2.1];simp
  rw[<- e];exact x.o.1.low d.o.2.2.1.size
theorem ZoL(b:BAt w (Aa a n c) body)(g:body.length=n):At Am 189 #[.agg #[Ab Ak k,Aa a n c]] w λ e w'=>∃v,e=Aj (Af #[v,Ab Ak (fseal (k,body)).2])/\Hid (OwnG encB 5 w' w.heap.size v (fseal (k,body)).1/\An w.heap.size w w'):=by
 unfold fseal;by_cases d:k<0∨255<k
 ·rw[AE d];refine(Zlx d).mono ?_;rintro e w' ⟨rfl,b⟩;exact⟨_,rfl,OwnG.nil _ _ _ _,b⟩
 ·rw[Aw d];by_cases f:8192<body.length
  ·rw[AE f];refine(Zm2 (by omega) (by omega) (by omega)).mono ?_;rintro e w' ⟨rfl,b⟩;exact⟨_,rfl,OwnG.nil _ _ _ _,b⟩
  ·rw[Aw f];exact Zml (by omega) (by omega) g (by omega) b
end
end Go.Proofs.YtlojblelpaegpaaGreat
namespace Go.Proofs.YtlojblelpaegpaaGreat
open Go.Shelf
def ZfD:Go.Shelf.Ren:=⟨λ | 316=>225 | n=>n,λ | 9=>9 | 3=>3 | 4=>4 | 37=>61 | 0=>0 | 127=>344 | 5=>5 | n=>n,λ | n=>n⟩
theorem laySClone:Go.Proofs.LaysM.n316 Am ZfD:={
 mixed:=by kernel_rfl
 f316:=Tryz.func225.trans (A4 some (by kernel_rfl))
 t0:=underlying0
 a0:=Tryz.isAgg0
 z0:=Tryz.sizeOf0
 v0:=Tryz.zeroValue0
 t3:=underlying3
 a3:=Tryz.isAgg3
 z3:=Tryz.sizeOf3
 v3:=Tryz.zeroValue3
 t4:=underlying4
 a4:=Tryz.isAgg4
 z4:=Tryz.sizeOf4
 v4:=Tryz.zeroValue4
 t9:=underlying9
 a9:=Tryz.isAgg9
 z9:=Tryz.sizeOf9
 v9:=Tryz.zeroValue9
 t37:=underlying61
 a37:=Tryz.isAgg61
 z37:=Tryz.sizeOf61
 v37:=Tryz.zeroValue61
 t127:=underlying344
 a127:=Tryz.isAgg344
 z127:=Tryz.sizeOf344
 v127:=Tryz.zeroValue344
 t5:=underlying5
 a5:=Tryz.isAgg5
 z5:=Tryz.sizeOf5
 v5:=Tryz.zeroValue5
 i0:=by kernel_rfl
 i3:=by kernel_rfl
 i4:=by kernel_rfl
 i5:=by kernel_rfl
 i9:=by kernel_rfl
 i37:=by kernel_rfl
 i127:=by kernel_rfl }
def ZgR:Go.Shelf.Ren:=⟨λ | 190=>223 | 125=>86 | 258=>232 | 128=>144 | 129=>145 | 302=>237 | 303=>238 | 304=>239 | 305=>240 | 306=>241 | 307=>242 | 308=>243 | 309=>244 | 310=>245 | 333=>250 | 329=>194 | 330=>195 | 334=>251 | 335=>252 | 336=>253 | 344=>256 | n=>n,λ | 31=>79 | 9=>9 | 3=>3 | 46=>72 | 0=>0 | 51=>123 | 53=>43 | 4=>4 | 183=>253 | 182=>252 | 131=>171 | 5=>5 | 218=>313 | 222=>316 | 228=>331 | 229=>332 | n=>n,λ | n=>n⟩
theorem klaySort:Go.Proofs.Lays.n190 Am ZgR:={
 mixed:=by kernel_rfl
 f125:=Tryz.func86.trans (A4 some (by kernel_rfl))
 f128:=Tryz.func144.trans (A4 some (by kernel_rfl))
 f129:=Tryz.func145.trans (A4 some (by kernel_rfl))
 f190:=Tryz.func223.trans (A4 some (by kernel_rfl))
 f258:=Tryz.func232.trans (A4 some (by kernel_rfl))
 f302:=Tryz.func237.trans (A4 some (by kernel_rfl))
 f303:=Tryz.func238.trans (A4 some (by kernel_rfl))
 f304:=Tryz.func239.trans (A4 some (by kernel_rfl))
 f305:=Tryz.func240.trans (A4 some (by kernel_rfl))
 f306:=Tryz.func241.trans (A4 some (by kernel_rfl))
 f307:=Tryz.func242.trans (A4 some (by kernel_rfl))
 f308:=Tryz.func243.trans (A4 some (by kernel_rfl))
 f309:=Tryz.func244.trans (A4 some (by kernel_rfl))
 f310:=Tryz.func245.trans (A4 some (by kernel_rfl))
 f329:=Tryz.func194.trans (A4 some (by kernel_rfl))
 f330:=Tryz.func195.trans (A4 some (by kernel_rfl))
 f333:=Tryz.func250.trans (A4 some (by kernel_rfl))
 f334:=Tryz.func251.trans (A4 some (by kernel_rfl))
 f335:=Tryz.func252.trans (A4 some (by kernel_rfl))
 f336:=Tryz.func253.trans (A4 some (by kernel_rfl))
 f344:=Tryz.func256.trans (A4 some (by kernel_rfl))
 t0:=underlying0
 a0:=Tryz.isAgg0
 z0:=Tryz.sizeOf0
 v0:=Tryz.zeroValue0
 t3:=underlying3
 a3:=Tryz.isAgg3
 z3:=Tryz.sizeOf3
 v3:=Tryz.zeroValue3
 t4:=underlying4
 a4:=Tryz.isAgg4
 z4:=Tryz.sizeOf4
 v4:=Tryz.zeroValue4
 t5:=underlying5
 a5:=Tryz.isAgg5
 z5:=Tryz.sizeOf5
 v5:=Tryz.zeroValue5
 t9:=underlying9
 a9:=Tryz.isAgg9
 z9:=Tryz.sizeOf9
 v9:=Tryz.zeroValue9
 t31:=underlying79
 a31:=Tryz.isAgg79
 z31:=Tryz.sizeOf79
 v31:=Tryz.zeroValue79
 t46:=underlying72
 a46:=Tryz.isAgg72
 z46:=Tryz.sizeOf72
 v46:=Tryz.zeroValue72
 t51:=underlying123
 a51:=Tryz.isAgg123
 z51:=Tryz.sizeOf123
 v51:=Tryz.zeroValue123
 t53:=underlying43
 a53:=Tryz.isAgg43
 z53:=Tryz.sizeOf43
 v53:=Tryz.zeroValue43
 t131:=underlying171
 a131:=Tryz.isAgg171
 z131:=Tryz.sizeOf171
 v131:=Tryz.zeroValue171
 t182:=underlying252
 a182:=Tryz.isAgg252
 z182:=Tryz.sizeOf252
 v182:=Tryz.zeroValue252
 t183:=underlying253
 a183:=Tryz.isAgg253
 z183:=Tryz.sizeOf253
 v183:=Tryz.zeroValue253
 t218:=underlying313
 a218:=Tryz.isAgg313
 z218:=Tryz.sizeOf313
 v218:=Tryz.zeroValue313
 t222:=underlying316
 a222:=Tryz.isAgg316
 z222:=Tryz.sizeOf316
 v222:=Tryz.zeroValue316
 t228:=underlying331
 a228:=Tryz.isAgg331
 z228:=Tryz.sizeOf331
 v228:=Tryz.zeroValue331
 t229:=underlying332
 a229:=Tryz.isAgg332
 z229:=Tryz.sizeOf332
 v229:=Tryz.zeroValue332 }
end Go.Proofs.YtlojblelpaegpaaGreat
namespace Go.Proofs.YtlojblelpaegpaaGreat
open Go.RowKit
end Go.Proofs.YtlojblelpaegpaaGreat
namespace Go.Proofs.YtlojblelpaegpaaGreat
open Go.RowKit Go.Maps Go.Sort Go.Shelf
theorem ZjJ(s:ByteArray)(w:Ap)(a:s.size<=281474976710656):
  At Am 213 #[Ae s] w λ e w'=>e=Aj (Ae s)/\An w.heap.size w w':=by
 have c:At Am 225 #[Ae s] w λ e w'=>e=Aj (Ae s)/\An w.heap.size w w':=Any.stringslite_Clone laySClone s w a
 go_enter func213,ntmps213;go_wp2_with fail;refine c.mono ?_;rintro e w1 ⟨rfl,b⟩;go_wp2;go_ret;exact⟨rfl,b⟩
end Go.Proofs.YtlojblelpaegpaaGreat
namespace Go.Proofs.YtlojblelpaegpaaGreat
open Go.RowKit
theorem Zb8{d:Dk}(h:d.dead=true):dnext d=(d,false,false):=by simp[dnext,h]
theorem Zbz{d:Dk}(h:d.dead=false)(b:d.armed=true)(a:d.after=0):dnext d=({ d with dead:=true,armed:=false },false,true):=by simp[dnext,h,b,a]
theorem ZbH{d:Dk}(h:d.dead=false)(b:d.armed=true)(a:d.after≠0):dnext d=({ d with after:=d.after - 1,writes:=d.writes+1 },true,false):=by simp[dnext,h,b,a]
theorem ZbM{d:Dk}(h:d.dead=false)(a:d.armed=false):dnext d=({ d with writes:=d.writes+1 },true,false):=by simp[dnext,h,a]
section
variable{S:Nat->Prop}{w:World}{b m:Nat}{f:Bs->Option Value}{a k:Int}{d:Dk}
theorem Zki(h:Zaq w b m f a k d S)(hd:d.dead=true):
  At Am 172 #[Ah (some ⟨b,0,none⟩)] w λ e w'=>e=Aj (Ab Ak 8)/\w'=w:=by
 obtain⟨g,i,c,j,l,n,o⟩:=h.cell;rw[hd]at c;have H:Hid _:=h;clear h hd;go_enter func172,ntmps172;go_wp2;go_ret;exact⟨rfl,rfl⟩
theorem Zky(h:Zaq w b m f a k d S)(hd:d.dead=false)(c:d.armed=true)(r:d.after=0):
  At Am 172 #[Ah (some ⟨b,0,none⟩)] w λ e w'=>e=Aj (Ab Ak 8)/\Zaq w' b m f a k { d with dead:=true,armed:=false } S/\Zaa (λ i=>i=b) w w':=by
 obtain⟨t,u,n,p,v,x,g⟩:=h.cell;have f2:=g 2;have y:=g 3;have j:=(h.cut c).1;rw[r]at j;subst j;rw[hd]at n;rw[c]at p;have H:Hid _:=h;clear h g;have l:Hid _:=And.intro hd c;clear hd c;go_enter func172,ntmps172;go_wp2;go_ret;have s:=ZbC (ZbC H.o.cells 3 (Ad false)) 2 (Ad true);have t1:Zaa (λ i=>i=b) w ((w.setCell ⟨b,3,none⟩ (Ad false)).setCell ⟨b,2,none⟩ (Ad true)):=(Zad 3 _).trans (Zad 2 _) (λ _ _ q=>q);refine⟨rfl,Zaq.wrote H.o t1 (d':={ d with dead:=true,armed:=false }) rfl (by rw[s];simp[l.o]) (by simp),t1⟩
theorem ZiF(h:Zaq w b m f a k d S)(hd:d.dead=false)(c:d.armed=true)(y:d.after≠0)(B:d.after<9223372036854775808)(D:d.writes<4611686018427387904):
  At Am 172 #[Ah (some ⟨b,0,none⟩)] w λ e w'=>∃t,e=Aj (Ab Ak 0)/\Zaq w' b m f t k { d with after:=d.after - 1,writes:=d.writes+1 } S/\Zaa (λ i=>i=b) w w':=by
 obtain⟨E,u,v,x,F,G,g⟩:=h.cell;have I:=g 1;have J:=g 4;obtain⟨r,s⟩:=h.cut c;rw[hd]at v;rw[c]at x;have H:Hid _:=h;clear h g;have p:Hid _:=And.intro hd (And.intro c s);clear hd c s
 obtain⟨n,l⟩:∃n,d.after=n+1:=⟨d.after - 1,by omega⟩
 have N:Hid (d.after=n+1):=l
 have C:n<9223372036854775807:=by omega
 have j:a=((n+1:Nat):Int):=by rw[r,l]
 clear l r y B;subst j
 have z:(((n+1:Nat):Int)==0)=false:=by simp;omega
 obtain⟨q,hq⟩:=Xa d.writes
 rw[hq]at u D;go_enter func172,ntmps172;go_wp2;go_ret;have A:=ZbC (ZbC H.o.cells 4 (Ab Ak (n:Int))) 1 (Ab Ak ((q:Int)+1));have t1:Zaa (λ i=>i=b) w ((w.setCell ⟨b,4,none⟩ (Ab Ak (n:Int))).setCell ⟨b,1,none⟩ (Ab Ak ((q:Int)+1))):=(Zad 4 _).trans (Zad 1 _) (λ _ _ q=>q);refine⟨n,rfl,Zaq.wrote H.o t1 (d':={ d with after:=d.after - 1,writes:=d.writes+1 }) rfl (by rw[A];simp[p.o,hq]) (λ _=>⟨by rw[N.o];rfl,p.o.2.2⟩),t1⟩
theorem ZhL(h:Zaq w b m f a k d S)(hd:d.dead=false)(c:d.armed=false)(s:d.writes<4611686018427387904):
  At Am 172 #[Ah (some ⟨b,0,none⟩)] w λ e w'=>e=Aj (Ab Ak 0)/\Zaq w' b m f a k { d with writes:=d.writes+1 } S/\Zaa (λ i=>i=b) w w':=by
 obtain⟨t,l,n,p,u,v,j⟩:=h.cell;have x:=j 1;rw[hd]at n;rw[c]at p;have H:Hid _:=h;clear h j;have g:Hid _:=And.intro hd c;clear hd c
 obtain⟨q,hq⟩:=Xa d.writes
 rw[hq]at l s;go_enter func172,ntmps172;go_wp2;go_ret;have r:=ZbC H.o.cells 1 (Ab Ak ((q:Int)+1));have t1:Zaa (λ i=>i=b) w (w.setCell ⟨b,1,none⟩ (Ab Ak ((q:Int)+1))):=Zad 1 _;refine⟨rfl,Zaq.wrote H.o t1 (d':={ d with writes:=d.writes+1 }) rfl (by rw[r];simp[g.o,hq]) (λ e=>by rw[show({ d with writes:=d.writes+1 }:Dk).armed=d.armed from rfl,g.o.2]at e;cases e),t1⟩
theorem Zhv(h:Zaq w b m f a k d S)(p:d.after<9223372036854775808)(o:d.writes<4611686018427387904):
  At Am 172 #[Ah (some ⟨b,0,none⟩)] w λ e w'=>∃r n,e=Aj (Ab Ak r)/\Hid (r=if(dnext d).2.1 then 0 else 8)/\Zaq w' b m f n k (dnext d).1 S/\Zaa (λ i=>i=b) w w':=by
 by_cases hd:d.dead=true
 ·refine(Zki h hd).mono ?_;rintro e w' ⟨rfl,rfl⟩;rw[Zb8 hd];exact⟨8,a,rfl,rfl,h,Zaa.refl _ _⟩
 ·have hd:d.dead=false:=by simpa using hd
  by_cases c:d.armed=true
  ·by_cases l:d.after=0
   ·refine(Zky h hd c l).mono ?_;rintro e w' ⟨rfl,g,j⟩;rw[Zbz hd c l];exact⟨8,a,rfl,rfl,g,j⟩
   ·refine(ZiF h hd c l p o).mono ?_;rintro e w' ⟨n,rfl,g,j⟩;rw[ZbH hd c l];exact⟨0,n,rfl,rfl,g,j⟩
  ·have c:d.armed=false:=by simpa using c
   refine(ZhL h hd c o).mono ?_;rintro e w' ⟨rfl,g,j⟩;rw[ZbM hd c];exact⟨0,a,rfl,rfl,g,j⟩
end
theorem Zj7(w:Ap)(m:Nat)(S:Nat->Prop)(a:w.heap[m]? = some (.map #[] 0)):Zcz w m S [] (λ _=>none) (λ _=>False) where
 map:=⟨.map [],⟨#[],0,a,⟨by simp,MapKept.stamped_empty 0,by simp⟩,Az _,rfl⟩,rfl,λ _=>rfl,λ _ _ h=>by cases h⟩
 no:=λ _ _=>rfl
 yes:=λ x bs h=>by simp[fget]at h
 apart:=λ x y u v g _ h=>by cases h
 own:=λ x v g h=>by cases h
theorem ZpP(w:Ap):At Am 58 #[] w λ e w'=>∃b,e=Aj (Ah (some ⟨b,0,none⟩))/\Zav w' b dk0 (λ i=>w.heap.size<=i/\i<w'.heap.size)/\An w.heap.size w w':=by
 have c:=run_makeMap (P:=Am) 209 w;go_enter func58,ntmps58;go_wp2;go_ret
 have e:(w.alloc (.map #[] 0)).heap.size=w.heap.size+1:=by simp
 have a:∀o,((w.alloc (.map #[] 0)).alloc o).heap.size=w.heap.size+2:=by intro o;simp
 refine⟨w.heap.size+1,rfl,⟨w.heap.size,λ _=>none,0,0,⟨?_,by simp[dk0],Zj7 _ _ _ ?_,⟨⟨by omega,by rw[a];omega⟩,⟨Az _,by rw[a];omega⟩⟩,λ i hi=>hi.2⟩⟩,bz2 _ _ _⟩
 ·have:=Ce (w.alloc (.map #[] 0)) (Ai #[.map (some w.heap.size),Ab Ak 0,Ad false,Ad false,Ab Ak 0,Ab Ak 0] 213);rw[e]at this;exact this
 ·exact(Below.heap_alloc _ _ w.heap.size (by simp)).trans (Ce w _)
end Go.Proofs.YtlojblelpaegpaaGreat
