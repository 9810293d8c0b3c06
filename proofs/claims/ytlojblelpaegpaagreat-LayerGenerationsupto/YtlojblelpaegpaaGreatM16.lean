/-
  Several texts, laid together.
-/
import Derived.Test.YtlojblelpaegpaaGreatM15
set_option maxHeartbeats 6400000
set_option maxRecDepth 100000
open Go renaming Calls->At,bodyPost_ret->As,results->AH
open Go.RowKit renaming Below->An
open ByteArray renaming size_extract->BR,getElem_eq_getElem_data->CF
open Nat renaming le_refl->Az,le_trans->AZ,add_sub_cancel_left->D9
open Go.IntKind renaming i64->Ak,wrap_i64->Au,u64->Bl,wrap_u64->Bh
open Go.Value renaming string->Ae,slice->Aa,int->Ab,tuple->Af,agg->Ag
open Go.Ending renaming returned->Aj
open Go.Proofs.Tryz renaming prog->Am
open Go.Proofs.Tryz
namespace Go.Proofs.YtlojblelpaegpaaGreat
open Go.RowKit
section
variable{w:World}{s:ByteArray}{n:Nat}
theorem ZlU(a:s.size=n)(h:n<4):At Am 175 #[Ae s] w λ e w'=>e=Aj (Af #[Ag #[Ab Ak 0,tx []],Ab Ak 0,Ab Ak 10])/\An w.heap.size w w':=by
 have q:(n:Int)<4:=by omega
 go_enter func175,ntmps175;go_wp2;refine As (v:=Af #[Ag #[Ab Ak 0,tx []],Ab Ak 0,Ab Ak 10]) ?_ rfl ⟨rfl,?_⟩
 ·simp[AH,Tryz.f175];go_simp
 ·exact bz1 _ _
theorem Zj4(l:s.size=n)(h:¬n<4)(t:Nat)(f:val ((s.extract 0 4).data.toList)=t)(k:8192<t):At Am 175 #[Ae s] w λ e w'=>e=Aj (Af #[Ag #[Ab Ak 0,tx []],Ab Ak 0,Ab Ak 4])/\An w.heap.size w w':=by
 have q:decide ((n:Int)<4)=false:=by rw[Ax];omega
 have m:(4:Int)<=(n:Int):=by omega
 have r:(8192:Int)<(t:Int):=by omega
 obtain⟨W,d⟩:=Xa (w.alloc (.cells #[Ab Ak 0,Ae ⟨#[]⟩] 224))
 have c:An w.heap.size w W:=by rw[<- d];exact bz1 _ _
 have T:Box W w.heap.size 224 (Ab Ak 0) (Ae ⟨#[]⟩):=by rw[<- d];exact Box.new w _ _ _
 have a:=ZaG (s.extract 0 4) (by rw[BR];omega) W;rw[f]at a
 obtain⟨p,hp⟩:=Xa (s.extract 0 4)
 rw[hp]at a
 have g:Hid (An w.heap.size w W/\Box W w.heap.size 224 (Ab Ak 0) (Ae ⟨#[]⟩)):=⟨c,T⟩
 obtain⟨u,x⟩:=T.cells;obtain⟨i,j⟩:=T.thaw;clear f h c T;go_enter func175,ntmps175;go_wp2_with fail;refine a.mono ?_;rintro e w1 ⟨rfl,b⟩;rw[b];clear b w1 a;go_wp2;refine As (v:=Af #[Ag #[Ab Ak 0,tx []],Ab Ak 0,Ab Ak 4]) ?_ rfl ⟨rfl,(ZfX g.o.1 (Az _) _ _).1⟩;simp[AH,Tryz.f175];go_simp
theorem Ziu(y:s.size=n)(h:¬n<4)(t:Nat)(g:val ((s.extract 0 4).data.toList)=t)(r:¬8192<t)(u:n<9+t):At Am 175 #[Ae s] w λ e w'=>e=Aj (Af #[Ag #[Ab Ak 0,tx []],Ab Ak 0,Ab Ak 10])/\An w.heap.size w w':=by
 have q:decide ((n:Int)<4)=false:=by rw[Ax];omega
 have z:(4:Int)<=(n:Int):=by omega
 have A:decide ((8192:Int)<(t:Int))=false:=by rw[Ax];omega
 have C:Ak.wrap (t:Int)=(t:Int):=by rw[Au];omega
 obtain⟨c,k⟩:=Xa (5+t)
 have x:(5+(t:Int))=(c:Int):=by omega
 have j:c<=8197:=by omega
 have B:decide ((n:Int)<(c:Int)+4)=true:=by rw[CR];omega
 obtain⟨W,f⟩:=Xa (w.alloc (.cells #[Ab Ak 0,Ae ⟨#[]⟩] 224))
 have d:An w.heap.size w W:=by rw[<- f];exact bz1 _ _
 have T:Box W w.heap.size 224 (Ab Ak 0) (Ae ⟨#[]⟩):=by rw[<- f];exact Box.new w _ _ _
 have a:=ZaG (s.extract 0 4) (by rw[BR];omega) W;rw[g]at a
 obtain⟨p,hp⟩:=Xa (s.extract 0 4)
 rw[hp]at a
 have i:Hid (An w.heap.size w W/\Box W w.heap.size 224 (Ab Ak 0) (Ae ⟨#[]⟩)):=⟨d,T⟩
 obtain⟨D,E⟩:=T.cells;obtain⟨l,m⟩:=T.thaw;clear g h d T;go_enter func175,ntmps175;go_wp2_with fail;refine a.mono ?_;rintro e w1 ⟨rfl,b⟩;rw[b];clear b w1 a;go_wp2;refine As (v:=Af #[Ag #[Ab Ak 0,tx []],Ab Ak 0,Ab Ak 10]) ?_ rfl ⟨rfl,(ZfX i.o.1 (Az _) _ _).1⟩;simp[AH,Tryz.f175];go_simp
theorem ZmS(hz:s.size=n)(h:¬n<4)(t:Nat)(O:val ((s.extract 0 4).data.toList)=t)(h8:¬8192<t)(h9:¬n<9+t)(I:val ((s.extract (5+t) (5+t+4)).data.toList)≠crc ((s.extract 0 (5+t)).data.toList)):At Am 175 #[Ae s] w λ e w'=>e=Aj (Af #[Ag #[Ab Ak 0,tx []],Ab Ak 0,Ab Ak 11])/\An w.heap.size w w':=by
 have q:decide ((n:Int)<4)=false:=by rw[Ax];omega
 have n4:(4:Int)<=(n:Int):=by omega
 have q2:decide ((8192:Int)<(t:Int))=false:=by rw[Ax];omega
 have ww:Ak.wrap (t:Int)=(t:Int):=by rw[Au];omega
 obtain⟨a,x⟩:=Xa (5+t)
 have he:(5+(t:Int))=(a:Int):=by omega
 have ab:a<=8197:=by omega
 have q3:decide ((n:Int)<(a:Int)+4)=false:=by rw[Ax];omega
 have aa:(a:Int)+4<=(n:Int):=by omega
 have V:(a:Int)<=(n:Int):=by omega
 have X:(0:Int)<=(a:Int):=by omega
 have tn:((a:Int)+4).toNat=a+4:=by omega
 have Y:(a:Int)<=(a:Int)+4:=by omega
 have Z:Ak.wrap ((a:Int)+4)=(a:Int)+4:=by rw[Au];omega
 obtain⟨J,f⟩:=Xa (s.extract a (a+4))
 obtain⟨k,g⟩:=Xa (s.extract 0 a)
 obtain⟨C,d⟩:=Xa (crc k.data.toList)
 obtain⟨W,N⟩:=Xa (w.alloc (.cells #[Ab Ak 0,Ae ⟨#[]⟩] 224))
 have M:An w.heap.size w W:=by rw[<- N];exact bz1 _ _
 have T:Box W w.heap.size 224 (Ab Ak 0) (Ae ⟨#[]⟩):=by rw[<- N];exact Box.new w _ _ _
 have j:=ZaG (s.extract 0 4) (by rw[BR];omega) W;rw[O]at j
 obtain⟨p,hp⟩:=Xa (s.extract 0 4)
 rw[hp]at j
 have F:Hid (An w.heap.size w W/\Box W w.heap.size 224 (Ab Ak 0) (Ae ⟨#[]⟩)):=⟨M,T⟩
 obtain⟨x0,x1⟩:=T.cells;obtain⟨f0,f1⟩:=T.thaw;clear O h M T;go_enter func175,ntmps175;go_wp2_with fail;refine j.mono ?_;rintro e w1 ⟨rfl,E⟩;rw[E];clear E w1 j
 have y:(s.extract a (a+4)).size<=4:=by rw[BR];omega
 rw[f]at y
 have A:=λ u=>ZaG J (AZ y (by decide)) u
 obtain⟨t1,z⟩:=Xa (val J.data.toList)
 rw[z]at A
 have i:k.data.toList.length=a:=by
  have e0:k.size=a:=by rw[<- g,BR];omega
  rw[<- e0]
  rfl
 obtain⟨m,H,b,B,K,G⟩:=ZaU W.drew k.data.toList
 have ac:(convert 9 61 (Ae k)).run Am W.drew=.ok (Aa (some ⟨W.heap.size,0,none⟩) a H) m:=by
  have U:tx k.data.toList=Ae k:=by simp
  rw[U,i]at b;exact b
 have D:BAt m (Aa (some ⟨W.heap.size,0,none⟩) a H) k.data.toList:=by
  have:=G.1.at G.2.1 (G.2.2 (by rw[i];simp only[maxLen];omega));rw[i]at this;exact this
 have r:=Zdf m D;rw[d]at r;have S:Hid (An W.heap.size W W.drew):=(Below.refl _ W).drew;have l:Hid (An W.heap.size W m):=(Below.refl _ W).drew.trans B
 have wc:Bl.wrap (C:Int)=(C:Int):=by
  have:C<4294967296:=by rw[<- d];exact Zjq _
  rw[Bh];omega
 rw[<- x]at f g;rw[f,g,z,d]at I
 have m0:((t1:Int) != (C:Int))=true:=by
  rw[FY];intro q;exact I (by omega)
 rw[x]at f g;have R:Hid (∀u,At Am 55 #[Ae J] u λ e w'=>e=Aj (Ab Bl (t1:Int))/\w'=u):=A;have Q:Hid (At Am 50 #[Aa (some ⟨W.heap.size,0,none⟩) a H] m λ e w'=>e=Aj (Ab .u32 (C:Int))/\w'=m):=r;clear A r b B K G D i y d z I x h9;go_wp2_with fail
 go_region_with
  (first
   | (go_at_call 50;(with_reducible refine Q.o.mono ?_);rintro e L ⟨rfl,c⟩;rw[c];clear c L)
   | (go_at_call 55;(with_reducible refine(R.o _).mono ?_);rintro e L ⟨rfl,c⟩;rw[c];clear c L))
 all_goals
  obtain⟨y0,y1⟩:=(F.o.2.below l.o).cells;obtain⟨g0,g1⟩:=(F.o.2.below l.o).thaw;have P:Hid (An w.heap.size w m):=F.o.1.trans (l.o.mono F.o.1.size);go_wp2;refine As (v:=Af #[Ag #[Ab Ak 0,tx []],Ab Ak 0,Ab Ak 11]) ?_ rfl ⟨rfl,(ZfX P.o (Az _) _ _).1⟩;simp[AH,Tryz.f175];go_simp
theorem Zn6(hz:s.size=n)(_h:¬n<4)(t:Nat)(R:val ((s.extract 0 4).data.toList)=t)(h8:¬8192<t)(h9:¬n<9+t)(K:val ((s.extract (5+t) (5+t+4)).data.toList)=crc ((s.extract 0 (5+t)).data.toList))(ah:4<s.size):At Am 175 #[Ae s] w λ e w'=>e=Aj (Af #[Ag #[Ab Ak (s[4].toNat:Int),Ae (s.extract 5 (5+t))],Ab Ak ((9+t:Nat):Int),Ab Ak 0])/\An w.heap.size w w':=by
 have q:decide ((n:Int)<4)=false:=by rw[Ax];omega
 have n4:(4:Int)<=(n:Int):=by omega
 have q2:decide ((8192:Int)<(t:Int))=false:=by rw[Ax];omega
 have ww:Ak.wrap (t:Int)=(t:Int):=by rw[Au];omega
 obtain⟨a,g⟩:=Xa (5+t)
 have he:(5+(t:Int))=(a:Int):=by omega
 have af:a<=8197:=by omega
 have q3:decide ((n:Int)<(a:Int)+4)=false:=by rw[Ax];omega
 have ae:(a:Int)+4<=(n:Int):=by omega
 have aa:(a:Int)<=(n:Int):=by omega
 have ab:(0:Int)<=(a:Int):=by omega
 have tn:((a:Int)+4).toNat=a+4:=by omega
 have ac:(a:Int)<=(a:Int)+4:=by omega
 have ad:Ak.wrap ((a:Int)+4)=(a:Int)+4:=by rw[Au];omega
 obtain⟨L,h⟩:=Xa (s.extract a (a+4))
 obtain⟨l,i⟩:=Xa (s.extract 0 a)
 obtain⟨I,f⟩:=Xa (crc l.data.toList)
 obtain⟨y,hy⟩:=Xa (s[4])
 obtain⟨S,J⟩:=Xa (s.extract 5 a)
 have i4:(4:Int)<(n:Int):=by omega
 have i5:(5:Int)<=(a:Int):=by omega
 have wy:Ak.wrap (y.toNat:Int)=(y.toNat:Int):=by have:=y.toNat_lt;rw[Au];omega
 rw[g,hy,J]
 have P:((9+t:Nat):Int)=(a:Int)+4:=by omega
 rw[P];clear P
 obtain⟨W,Q⟩:=Xa (w.alloc (.cells #[Ab Ak 0,Ae ⟨#[]⟩] 224))
 have O:An w.heap.size w W:=by rw[<- Q];exact bz1 _ _
 have T:Box W w.heap.size 224 (Ab Ak 0) (Ae ⟨#[]⟩):=by rw[<- Q];exact Box.new w _ _ _
 have k:=ZaG (s.extract 0 4) (by rw[BR];omega) W;rw[R]at k
 obtain⟨p,hp⟩:=Xa (s.extract 0 4)
 rw[hp]at k
 have F:Hid (An w.heap.size w W/\Box W w.heap.size 224 (Ab Ak 0) (Ae ⟨#[]⟩)):=⟨O,T⟩
 obtain⟨x0,x1⟩:=T.cells;obtain⟨f0,f1⟩:=T.thaw;clear R O T;go_enter func175,ntmps175;go_wp2_with fail;refine k.mono ?_;rintro e w1 ⟨rfl,E⟩;rw[E];clear E w1 k
 have x:(s.extract a (a+4)).size<=4:=by rw[BR];omega
 rw[h]at x
 have A:=λ u=>ZaG L (AZ x (by decide)) u
 obtain⟨t1,z⟩:=Xa (val L.data.toList)
 rw[z]at A
 have j:l.data.toList.length=a:=by
  have e0:l.size=a:=by rw[<- i,BR];omega
  rw[<- e0]
  rfl
 obtain⟨r,H,b,B,M,G⟩:=ZaU W.drew l.data.toList
 have ag:(convert 9 61 (Ae l)).run Am W.drew=.ok (Aa (some ⟨W.heap.size,0,none⟩) a H) r:=by
  have e1:tx l.data.toList=Ae l:=by simp
  rw[e1,j]at b;exact b
 have C:BAt r (Aa (some ⟨W.heap.size,0,none⟩) a H) l.data.toList:=by
  have:=G.1.at G.2.1 (G.2.2 (by rw[j];simp only[maxLen];omega));rw[j]at this;exact this
 have d:=Zdf r C;rw[f]at d;have Y:Hid (An W.heap.size W W.drew):=(Below.refl _ W).drew;have m:Hid (An W.heap.size W r):=(Below.refl _ W).drew.trans B
 have wc:Bl.wrap (I:Int)=(I:Int):=by
  have:I<4294967296:=by rw[<- f];exact Zjq _
  rw[Bh];omega
 rw[<- g]at h i;rw[h,i,z,f]at K;have D:=K.symm;rw[D]at wc d;rw[g]at h i;have X:Hid (∀u,At Am 55 #[Ae L] u λ e w'=>e=Aj (Ab Bl (t1:Int))/\w'=u):=A;have V:Hid (At Am 50 #[Aa (some ⟨W.heap.size,0,none⟩) a H] r λ e w'=>e=Aj (Ab .u32 (t1:Int))/\w'=r):=d;clear A d b D B M G C j x f z K g h9;go_wp2_with fail
 go_region_with
  (first
   | (go_at_call 50;(with_reducible refine V.o.mono ?_);rintro e N ⟨rfl,c⟩;rw[c];clear c N)
   | (go_at_call 55;(with_reducible refine(X.o _).mono ?_);rintro e N ⟨rfl,c⟩;rw[c];clear c N))
 all_goals
  obtain⟨y0,y1⟩:=(F.o.2.below m.o).cells;obtain⟨g0,g1⟩:=(F.o.2.below m.o).thaw;have U:Hid (An w.heap.size w r):=F.o.1.trans (m.o.mono F.o.1.size);go_wp2_with fail;go_region;go_wp2;refine As (v:=Af #[Ag #[Ab Ak (y.toNat:Int),Ae S],Ab Ak ((a:Int)+4),Ab Ak 0]) ?_ rfl ⟨rfl,?_⟩
  ·simp[AH,Tryz.f175];go_simp
  ·have Z:=ZfX U.o (Az _) (Ab Ak (y.toNat:Int)) (Ae S);exact Z.1.drew
end
theorem Zqt(bs:Bs)(i j:Nat):Ae ((⟨bs.toArray⟩:ByteArray).extract i j)=tx ((bs.drop i).take (j - i)):=by
 show Ae _=Ae _
 congr 1
 rw[<- ZaT bs i j]
theorem ZmT(bs:Bs)(w:World):At Am 175 #[tx bs] w λ e w'=>e=Aj (Af #[Ag #[Ab Ak (fopen bs).1.1,tx (fopen bs).1.2],Ab Ak ((fopen bs).2.1:Int),Ab Ak (fopen bs).2.2])/\An w.heap.size w w':=by
 have c:(⟨bs.toArray⟩:ByteArray).size=bs.length:=by show bs.toArray.size=_;simp
 have d:((⟨bs.toArray⟩:ByteArray).extract 0 4).data.toList=bs.take 4:=by rw[ZaT];simp
 unfold fopen;by_cases h:bs.length<4
 ·rw[AE h];exact ZlU c h
 ·rw[Aw h];by_cases a:8192<val (bs.take 4)
  ·rw[AE a];exact Zj4 c h _ (by rw[d]) a
  ·rw[Aw a];by_cases b:bs.length<9+val (bs.take 4)
   ·rw[AE b];exact Ziu c h _ (by rw[d]) a b
   ·rw[Aw b]
    obtain⟨t,i⟩:=Xa (val (bs.take 4))
    rw[i]at a b ⊢
    have j:((⟨bs.toArray⟩:ByteArray).extract (5+t) (5+t+4)).data.toList=(bs.drop (5+t)).take 4:=by rw[ZaT,D9]
    have k:((⟨bs.toArray⟩:ByteArray).extract 0 (5+t)).data.toList=bs.take (5+t):=by rw[ZaT];simp
    by_cases f:val ((bs.drop (5+t)).take 4)=crc (bs.take (5+t))
    ·rw[Aw (by simpa using f)]
     have g:4<(⟨bs.toArray⟩:ByteArray).size:=by omega
     have:=Zn6 (w:=w) (s:=⟨bs.toArray⟩) c h t (by rw[d];exact i) a b (by rw[j,k];exact f) g;rw[Zqt,D9]at this
     have l:(⟨bs.toArray⟩:ByteArray)[4]=bs.getD 4 0:=by
      have m:4<bs.length:=by omega
      simp[List.getD,List.getElem?_eq_getElem m,CF]
     rw[l]at this;exact this
    ·rw[AE f];exact ZmS c h t (by rw[d];exact i) a b (by rw[j,k];exact f)


def encR:Enc Fr:=⟨λ f=>[Ab Ak f.1,tx f.2],2,λ _=>rfl,by decide,by intro x u h;simp at h;rcases h with rfl|rfl <;> rfl⟩
theorem Zqi:(Am.info? 224).map (λ i=>(i.zero,i.size,i.bytes))=some (some (Ag #[Ab Ak 0,Ae ⟨#[]⟩]),2,24):=by kernel_rfl
theorem Zok(bs:Bs)(w:World)(s:ByteArray)(b:s=⟨bs.toArray⟩)(a:Int)(fb:Bs)(fn:Nat)(fe:Int)(h:fopen bs=((a,fb),fn,fe)):At Am 175 #[Ae s] w λ e w'=>e=Aj (Af #[Ag #[Ab Ak a,tx fb],Ab Ak (fn:Int),Ab Ak fe])/\An w.heap.size w w':=by
 have:=ZmT bs w;rw[h,show tx bs=Ae s by rw[b]]at this;exact this
theorem Znj(bs:Bs)(w:World)(Q:bs.length<=1000000000000):
  At Am 112 #[tx bs] w λ e w'=>∃lv,e=Aj (Af #[lv,Ab Ak ((fcut bs).2.1:Int),Ab Ak (fcut bs).2.2])/\Hid (OwnG encR 224 w' w.heap.size lv (fcut bs).1/\An w.heap.size w w'):=by
 obtain⟨s,z⟩:∃s:ByteArray,s=⟨bs.toArray⟩:=⟨_,rfl⟩
 obtain⟨n,T⟩:=Xa s.size
 have F:bs.length=n:=by rw[<- T,z];show _=bs.toArray.size;simp
 rw[show tx bs=Ae s by rw[z]]
 have H:Hid (bs.length=n/\s=⟨bs.toArray⟩):=⟨F,z⟩
 have R:n<=1000000000000:=by omega
 clear F z Q;go_enter func112,ntmps112;go_wp2_with fail;go_loopg[5,6] n (λ m lv dv wr=>∃(d:Nat) (g:List Fr),dv=Ab Ak d/\d<=n/\m=n - d/\Hid (OwnG encR 224 wr w.heap.size lv g/\An w.heap.size w wr/\Zc5 bs g d))
 case atStart=>exact⟨0,[],rfl,Nat.zero_le _,by omega,OwnG.nil _ _ _ _,Below.refl _ _,Zc5.start bs⟩
 case round =>
  obtain⟨d,g,rfl,hd,V,a⟩:=hrel;by_cases t:d<n
  ·have id:(d:Int)<(n:Int):=by omega
   have U:(d:Int)<=(n:Int):=by omega
   have P:(0:Int)<=(d:Int):=by omega
   obtain⟨O,i⟩:=Xa (fopen (bs.drop d))
   obtain⟨⟨f,fb⟩,fn,fe⟩:=O
   obtain⟨p,hp⟩:=Xa (s.extract d n)
   have E:p=⟨(bs.drop d).toArray⟩:=by
    have:=ZaT bs d n;rw[<- H.o.2,hp]at this;have L:(bs.drop d).take (n - d)=bs.drop d:=List.take_of_length_le (by rw[List.length_drop,H.o.1];omega);rw[L]at this;rw[<- this]
   have G:=Zok (bs.drop d) wr p E f fb fn fe i;have l:Hid (fopen (bs.drop d)=((f,fb),fn,fe)):=i;clear i E;go_wp2_with fail;refine G.mono ?_;rintro e h ⟨rfl,k⟩;clear G;by_cases B:fe=0
   ·subst B;have c:=Zix (b:=bs.drop d) (by rw[l.o]);rw[l.o,List.length_drop,H.o.1]at c;simp only at c;have M:fn<=n - d:=c.2.1;have N:9<=fn:=c.1
    obtain⟨wA,x⟩:=Xa (h.alloc (.cells #[Ab Ak f,tx fb] 224))
    have q:An wr.heap.size wr wA:=by rw[<- x];exact k.trans ((bz1 h _).mono k.size)
    have bx:Box wA h.heap.size 224 (Ab Ak f) (tx fb):=by rw[<- x];exact Box.new h _ _ _
    have y:Hid (OwnG encR 224 wA w.heap.size u5 g/\An w.heap.size w wA/\Zc5 bs g d):=⟨a.o.1.below q,a.o.2.1.trans (q.mono a.o.2.1.size),a.o.2.2⟩
    obtain⟨X,Y⟩:=bx.cells;have S:9*g.length<=d:=a.o.2.2.2.1;clear q bx k c;go_wp2_with(at_builtin;refine Zag encR 224 218 24 _ rfl Zqi underlying218 rfl (.tmp 27) (.tmp 29) rfl w.heap.size _ g (f,fb) _ rfl y.o.1 rfl (by omega) (by simp only[maxLen];omega) y.o.2.1.size _ rfl ?_;intro v4 I u r C D)
    have K:Hid (OwnG encR 224 I w.heap.size v4 (g++[(f,fb)])/\An w.heap.size w I/\Zc5 bs (g++[(f,fb)]) (d+fn)):=by
     refine⟨u,y.o.2.1.trans r,?_⟩;have:=y.o.2.2.step (by rw[H.o.1];exact t) (by rw[l.o]);rw[l.o]at this;exact this
    clear u r C D;go_wp2;go_roundg (n - (d+fn))
    case measure=>omega
    case rel=>exact⟨d+fn,_,by go_num,by omega,rfl,K⟩
   ·have W:(fe != 0)=true:=by simpa using B
    have j:=a.o.2.2.stop (by rw[H.o.1];exact t) (by rw[l.o];exact B);rw[l.o]at j;simp only at j
    have J:Hid (OwnG encR 224 (h.alloc (.cells #[Ab Ak f,tx fb] 224)) w.heap.size u5 g/\An w.heap.size w (h.alloc (.cells #[Ab Ak f,tx fb] 224))):=by
     have q:An wr.heap.size wr (h.alloc (.cells #[Ab Ak f,tx fb] 224)):=k.trans ((bz1 h _).mono k.size);exact⟨a.o.1.below q,a.o.2.1.trans (q.mono a.o.2.1.size)⟩
    clear k;go_wp2;refine As (v:=Af #[u5,Ab Ak (d:Int),Ab Ak fe]) ?_ rfl ?_
    ·simp[AH,Tryz.f112]
    ·rw[j];exact⟨u5,rfl,J.o⟩
  ·obtain rfl:d=n:=by omega
   have A:=a.o.2.2.done (by rw[H.o.1];omega);go_wp2;refine As (v:=Af #[u5,Ab Ak (d:Int),Ab Ak 0]) ?_ rfl ?_
   ·simp[AH,Tryz.f112]
   ·rw[A];exact⟨u5,rfl,a.o.1,a.o.2.1⟩
section
variable{w:World}{s b:Nat}{st:St}{S:Nat->Prop}{a:Option Addr}{n c:Nat}{body:Bs}
theorem ZbJ(x:UInt64):(x.toNat:Int)=0↔x=0:=by
 constructor
 ·intro q;exact UInt64.toNat_inj.1 (by simpa using q)
 ·rintro rfl;rfl
end
end Go.Proofs.YtlojblelpaegpaaGreat
