/-
  Several texts, laid together.
-/
import Derived.Test.YtmhcpbbiokpjjaaGreatM02
set_option maxHeartbeats 6400000
set_option maxRecDepth 100000
namespace Go.Proofs.YtmhcpbbiokpjjaaGreat
open Go.RowKit
abbrev X32 (a b:Int):Int:=bits BinOp.xor IntKind.u32 a b
theorem Zbv (a b:Int):0<=X32 a b/\X32 a b<4294967296:=by
 show 0<=IntKind.u32.wrap _/\IntKind.u32.wrap _<4294967296;rw [IntKind.wrap_u32];omega
def crcBit (c:Int):Int:=if c % 2=1 then X32 (c / 2) 3988292384 else c / 2
def crcBits:Nat->Int->Int
 | 0,c=>c
 | n+1,c=>crcBit (crcBits n c)
theorem ZbQ (c:Int) (h0:0<=c) (h1:c<4294967296):0<=crcBit c/\crcBit c<4294967296:=by
 unfold crcBit
 split
 ·exact Zbv _ _
 ·omega
def chkStep (c b:Int):Int:=crcBits 8 (bits BinOp.xor IntKind.u32 c (b % 4294967296))
theorem ZlJ (c:Int) (h0:0<=c) (h1:c<4294967296):bits .and .u32 c 1=c % 2:=by
 have h255:(BitVec.ofInt 32 1).toNat=2 ^ 1 - 1:=by decide
 have key:(BitVec.ofInt 32 c &&& BitVec.ofInt 32 1).toNat=(c % ((2 ^ 32:Nat):Int)).toNat % 2 ^ 1:=by
  rw [BitVec.toNat_and,BitVec.toNat_ofInt,h255,Nat.and_two_pow_sub_one_eq_mod]
 show IntKind.u32.wrap ((BitVec.ofInt 32 c &&& BitVec.ofInt 32 1).toNat:Nat)=c % 2;rw [key,IntKind.wrap_u32];omega
theorem Zie (a b c0:Int) (hc0:bits BinOp.xor IntKind.u32 a (b % 4294967296)=c0) (r0:0<=c0) (r1:c0<4294967296) (w:World) :
  Calls Tryz.prog 155 #[.int .u32 a,.int .u8 b] w λ e w'=>e=.returned (.int .u32 (crcBits 8 c0))/\w'=w:=by
 go_enter Tryz.func155,Tryz.ntmps155;go_wp2
 go_loop [0,10] (λ c i=>∃ k:Nat,k<=8/\i=.int .i64 k/\c=.int .u32 (crcBits k c0)/\0<=crcBits k c0/\crcBits k c0<4294967296)
  (λ _ i=>8 - (intOf i).toNat)
 case atStart=>exact ⟨0,by omega,rfl,rfl,r0,r1⟩
 case round =>
  obtain ⟨k,hk,rfl,rfl,h0,h1⟩:=hrel;have hb:=ZbQ _ h0 h1;have he:crcBit (crcBits k c0)=crcBits (k+1) c0:=rfl;have ha:=ZlJ _ h0 h1;rw [he] at hb;have HE:Hid (_=_):=he;clear he;go_wp2
  ·have hk8:(k:Int)<8:=by assumption
   have hodd:(crcBits k c0 % 2==1)=true:=by assumption
   have hv:crcBits (k+1) c0=bits BinOp.xor IntKind.u32 (crcBits k c0 / 2) 3988292384:=by
    rw [<- HE.out,crcBit,if_pos (by simpa using hodd)]
   go_round
   case rel=>exact ⟨k+1,by omega,by go_num,by rw [hv],hb.1,hb.2⟩
   case measure=>simp [intOf]; omega
  ·have hk8:(k:Int)<8:=by assumption
   have hodd:(crcBits k c0 % 2==1)=false:=by assumption
   have hv:crcBits (k+1) c0=crcBits k c0 / 2:=by
    rw [<- HE.out,crcBit,if_neg (by simpa using hodd)]
   go_round
   case rel=>exact ⟨k+1,by omega,by go_num,by rw [hv],hb.1,hb.2⟩
   case measure=>simp [intOf]; omega
  ·have:k=8:=by omega
   subst this;go_ret;exact ⟨rfl,rfl⟩
theorem ZgP (a b:Int) (w:World) :
  Calls Tryz.prog 155 #[.int .u32 a,.int .u8 b] w λ e w'=>e=.returned (.int .u32 (chkStep a b))/\w'=w :=
 Zie a b _ rfl (Zbv a _).1 (Zbv a _).2 w
theorem Ze3 (n:Nat) (c:Int) (h0:0<=c) (h1:c<4294967296):0<=crcBits n c/\crcBits n c<4294967296:=by
 induction n with
 | zero=>exact ⟨h0,h1⟩
 | succ n ih=>exact ZbQ _ ih.1 ih.2
theorem Zcm (c b:Int):0<=chkStep c b/\chkStep c b<4294967296:=Ze3 8 _ (Zbv c _).1 (Zbv c _).2
def chkFold (h:Int) (zs:List Int):Int:=zs.foldl chkStep h
theorem ZaO (zs:List Int):∀ (h:Int),0<=h->h<4294967296->0<=chkFold h zs/\chkFold h zs<4294967296:=by
 induction zs with
 | nil=>intro h h0 h1; exact ⟨h0,h1⟩
 | cons z zs ih=>intro h _ _; exact ih _ (Zcm h z).1 (Zcm h z).2
theorem Zc4 (h:Int) (zs:List Int) (k:Nat) (hk:k<zs.length):chkFold h (zs.take (k+1))=chkStep (chkFold h (zs.take k)) zs[k]:=by
 unfold chkFold;rw [List.take_add_one,List.foldl_append];simp [List.getElem?_eq_getElem hk]
def chkFolds (h:Int) (zss:List (List Int)):Int:=zss.foldl chkFold h
theorem Zd1 (zss:List (List Int)):∀ (h:Int),0<=h->h<4294967296->0<=chkFolds h zss/\chkFolds h zss<4294967296:=by
 induction zss with
 | nil=>intro h h0 h1; exact ⟨h0,h1⟩
 | cons z zs ih=>intro h h0 h1; exact ih _ (ZaO z h h0 h1).1 (ZaO z h h0 h1).2
theorem ZmX (c:Int) (h0:0<=c) (h1:c<4294967296):bits BinOp.xor IntKind.u32 IntKind.u32.max c=4294967295 - c:=by
 obtain ⟨n,rfl⟩:=Int.eq_ofNat_of_zero_le h0
 have hn:n<4294967296:=by omega
 have hm:(IntKind.u32.max:Int)=((4294967295:Nat):Int):=by decide
 rw [hm,u32_xor_nat _ _ (by decide) hn]
 have h:(BitVec.allOnes 32 ^^^ BitVec.ofNat 32 n).toNat=4294967295 - n:=by
  rw [BitVec.allOnes_xor,BitVec.toNat_not,BitVec.toNat_ofNat,Nat.mod_eq_of_lt hn]
 rw [BitVec.toNat_xor,BitVec.toNat_allOnes,BitVec.toNat_ofNat,Nat.mod_eq_of_lt hn] at h;have h':4294967295 ^^^ n=4294967295 - n:=h;rw [h'];omega
theorem ZeT (h:Int) (zss:List (List Int)) (k:Nat) (hk:k<zss.length):chkFolds h (zss.take (k+1))=chkFold (chkFolds h (zss.take k)) (zss.getD k []):=by
 unfold chkFolds;rw [List.take_add_one,List.foldl_append];simp [List.getElem?_eq_getElem hk,List.getD]
theorem ZlZ (b off cap:Nat) (zss:List (List Int)) (w:World) (hn:zss.length<=9223372036854775807)
  (hc:∀ j,j<zss.length->∃ u,w.cell? ⟨b,off+j,none⟩=some u/\ZcG w u (zss.getD j [])) :
  Calls Tryz.prog 95 #[.slice (some ⟨b,off,none⟩) zss.length cap] w λ e w'=>e=.returned (.int .u32 (bits BinOp.xor IntKind.u32 IntKind.u32.max (chkFolds 4294967295 zss)))/\w'=w:=by
 go_enter Tryz.func95,Tryz.ntmps95;go_wp2
 go_loop [3,10] (λ h i=>∃ k:Nat,k<=zss.length/\i=.int .i64 k/\h=.int .u32 (chkFolds 4294967295 (zss.take k)))
  (λ _ i=>zss.length - (intOf i).toNat)
 case atStart=>exact ⟨0,Nat.zero_le _,rfl,rfl⟩
 case round =>
  obtain ⟨k,hk,rfl,rfl⟩:=hrel;by_cases hlt:k<zss.length
  ·obtain ⟨u,hcell,a,ca,rfl,hl,hb⟩:=hc k hlt;have hstep:=ZeT 4294967295 zss k hlt;generalize zss.getD k []=zs at hl hb hcell hstep;generalize chkFolds 4294967295 (zss.take k)=h at hstep ⊢;have HS:Hid (_=_):=hstep;clear hstep
   rcases hb with rfl | ⟨b',off',rfl,hc'⟩
   ·go_wp2;refine wp_loop_rounds 1 ?_;rw [rounds_succ];go_wp2;go_round
    case rel=>exact ⟨k+1,by omega,by go_num,by rw [HS.out]; rfl⟩
    case measure=>simp [intOf]; omega
   ·go_wp2
    go_loop [3,16] (λ g i=>∃ m:Nat,m<=zs.length/\i=.int .i64 m/\g=.int .u32 (chkFold h (zs.take m)))
     (λ _ i=>zs.length - (intOf i).toNat)
    case atStart=>exact ⟨0,Nat.zero_le _,rfl,rfl⟩
    case round =>
     obtain ⟨m,hm,rfl,rfl⟩:=hrel
     have hcm:m<zs.length->w.cell? ⟨b',off'+m,none⟩=some (.int .u8 (zs.getD m 0)):=λ hm'=>hc' m hm'
     go_wp2_with (go_at_call 155; refine (ZgP _ _ _).mono ?_; rintro e w' ⟨rfl,rfl⟩)
     ·have hlt2:m<zs.length:=by assumption
      go_round
      case rel=>exact ⟨m+1,by omega,by go_num,by rw [Zc4 h zs m hlt2]⟩
      case measure=>simp [intOf]; omega
     ·have:m=zs.length:=by omega
      subst this;go_round
      case rel=>exact ⟨k+1,by omega,by go_num,by rw [HS.out]; simp⟩
      case measure=>simp [intOf]; omega
  ·have:k=zss.length:=by omega
   subst this;go_wp2;go_ret;exact ⟨by simp,rfl⟩
theorem Zm2 (v:Value) (zss:List (List Int)) (w:World) (h:ZeW w v zss) :
  Calls Tryz.prog 95 #[v] w λ e w'=>e=.returned (.int .u32 (bits BinOp.xor IntKind.u32 IntKind.u32.max (chkFolds 4294967295 zss)))/\w'=w:=by
 obtain ⟨a,cap,rfl,hn,h⟩:=h
 rcases h with rfl | ⟨b,off,rfl,hc⟩
 ·go_enter Tryz.func95,Tryz.ntmps95;go_wp2;refine wp_loop_rounds 1 ?_;rw [rounds_succ];go_wp2;go_ret;exact ⟨rfl,rfl⟩
 ·exact ZlZ b off cap zss w hn hc
theorem Zne (v:Value) (zss:List (List Int)) (w:World) (h:ZeW w v zss) :
  Calls Tryz.prog 95 #[v] w λ e w'=>e=.returned (.int .u32 (4294967295 - chkFolds 4294967295 zss))/\w'=w:=by
 have hr:=Zd1 zss 4294967295 (by decide) (by decide);have hx:=ZmX _ hr.1 hr.2;rw [<- hx];exact Zm2 v zss w h
theorem Zlu (v:Value) (zs:List Int) (w:World) (h:ZcG w v zs) :
  Calls Tryz.prog 97 #[v] w λ e w'=>e=.returned (.int .u32 (4294967295 - chkFold 4294967295 zs))/\w'=w:=by
 obtain ⟨a,cap,rfl,hn,h⟩:=h
 rcases h with rfl | ⟨b,off,rfl,hc⟩
 ·go_enter Tryz.func97,Tryz.ntmps97;go_wp2;refine wp_loop_rounds 1 ?_;rw [rounds_succ];go_wp2;go_ret;exact ⟨rfl,rfl⟩
 ·go_enter Tryz.func97,Tryz.ntmps97;go_wp2
  go_loop [3,4] (λ h i=>∃ k:Nat,k<=zs.length/\i=.int .i64 k/\h=.int .u32 (chkFold 4294967295 (zs.take k)))
   (λ _ i=>zs.length - (intOf i).toNat)
  case atStart=>exact ⟨0,Nat.zero_le _,rfl,rfl⟩
  case round =>
   obtain ⟨m,hm,rfl,rfl⟩:=hrel;by_cases hlt:m<zs.length
   ·have hcm:=hc m hlt;have hst:=Zc4 4294967295 zs m hlt
    have hz:zs.getD m 0=zs[m]:=by simp [List.getD,List.getElem?_eq_getElem hlt]
    rw [hz] at hcm;generalize zs[m]=z at hcm hst;generalize chkFold 4294967295 (zs.take m)=h at hst ⊢;have HS:Hid (_=_):=hst;clear hst hz hc;obtain ⟨r0,r1⟩:=Zbv h (z % 4294967296)
    have hc0:∃ c0,c0=bits BinOp.xor IntKind.u32 h (z % 4294967296):=⟨_,rfl⟩
    obtain ⟨c0,hc0⟩:=hc0
    have HC:Hid (chkStep h z=crcBits 8 c0):=by rw [hc0]; exact show chkStep h z=_ from rfl
    replace r0:0<=c0:=by rw [hc0]; exact r0
    replace r1:c0<4294967296:=by rw [hc0]; exact r1
    have hc1:=hc0.symm;clear hc0;go_wp2
    go_loop [3,5] (λ c i=>∃ k:Nat,k<=8/\i=.int .i64 k/\c=.int .u32 (crcBits k c0)/\0<=crcBits k c0/\crcBits k c0<4294967296)
     (λ _ i=>8 - (intOf i).toNat)
    case atStart=>exact ⟨0,by omega,rfl,rfl,r0,r1⟩
    case round =>
     obtain ⟨k,hk,rfl,rfl,h0,h1⟩:=hrel;have hb:=ZbQ _ h0 h1;have he:crcBit (crcBits k c0)=crcBits (k+1) c0:=rfl;rw [he] at hb;have HE:Hid (_=_):=he;clear he;go_wp2
     ·have hk8:(k:Int)<8:=by assumption
      have hodd:(crcBits k c0 % 2==1)=true:=by assumption
      have hv:crcBits (k+1) c0=bits BinOp.xor IntKind.u32 (crcBits k c0 / 2) 3988292384:=by
       rw [<- HE.out,crcBit,if_pos (by simpa using hodd)]
      go_round
      case rel=>exact ⟨k+1,by omega,by go_num,by rw [hv],hb.1,hb.2⟩
      case measure=>simp [intOf]; omega
     ·have hk8:(k:Int)<8:=by assumption
      have hodd:(crcBits k c0 % 2==1)=false:=by assumption
      have hv:crcBits (k+1) c0=crcBits k c0 / 2:=by
       rw [<- HE.out,crcBit,if_neg (by simpa using hodd)]
      go_round
      case rel=>exact ⟨k+1,by omega,by go_num,by rw [hv],hb.1,hb.2⟩
      case measure=>simp [intOf]; omega
     ·have:k=8:=by omega
      subst this;go_round
      case rel=>exact ⟨m+1,by omega,by go_num,by rw [HS.out,HC.out]⟩
      case measure=>simp [intOf]; omega
   ·have:m=zs.length:=by omega
    subst this;go_wp2;go_ret;refine ⟨?_,rfl⟩;obtain ⟨r0,r1⟩:=ZaO zs 4294967295 (by decide) (by decide)
    have hq:(4294967295 - chkFold 4294967295 zs) % 4294967296=4294967295 - chkFold 4294967295 zs:=by omega
    rw [hq]
    rfl
def b4 (n:Nat):Bs:=[UInt8.ofNat (n / 16777216),UInt8.ofNat (n / 65536),UInt8.ofNat (n / 256),UInt8.ofNat n]
theorem Zbj (n:Nat):(b4 n).length=4:=rfl
theorem ZkP (n:Nat) (hn:n<4294967296) (w:World) :
  Calls Tryz.prog 228 #[.int .u32 (n:Int)] w λ e w'=>e=.returned (.slice (some ⟨w.heap.size,0,none⟩) 4 4)/\w'=w.alloc (.cells ((b4 n).map (λ x=>Value.int .u8 (x.toNat:Int))).toArray 5):=by
 go_enter Tryz.func228,Tryz.ntmps228;go_wp2;go_ret;refine ⟨rfl,?_⟩
 have e0:(UInt8.ofNat (n / 16777216)).toNat=n / 16777216:=by rw [UInt8.toNat_ofNat']; omega
 have e1:(UInt8.ofNat (n / 65536)).toNat=n / 65536 % 256:=UInt8.toNat_ofNat';have e2:(UInt8.ofNat (n / 256)).toNat=n / 256 % 256:=UInt8.toNat_ofNat';have e3:(UInt8.ofNat n).toNat=n % 256:=UInt8.toNat_ofNat';simp [b4,e0,e1,e2,e3]
theorem Zjc (a b:Nat) (ha:a<4294967296) (hb:b<4294967296):bits BinOp.or IntKind.u32 (a:Int) (b:Int)=((a ||| b:Nat):Int):=by
 have hx:a ||| b<2 ^ 32:=Nat.or_lt_two_pow ha hb
 have h1:(BitVec.ofInt 32 (a:Int)).toNat=a:=by
  rw [BitVec.ofInt_natCast,BitVec.toNat_ofNat]; exact Nat.mod_eq_of_lt (by omega)
 have h2:(BitVec.ofInt 32 (b:Int)).toNat=b:=by
  rw [BitVec.ofInt_natCast,BitVec.toNat_ofNat]; exact Nat.mod_eq_of_lt (by omega)
 show IntKind.u32.wrap ((BitVec.ofInt 32 (a:Int) ||| BitVec.ofInt 32 (b:Int)).toNat:Int)=_;rw [BitVec.toNat_or,h1,h2,IntKind.wrap_u32];omega
theorem val4 (b0 b1 b2 b3:UInt8):val [b0,b1,b2,b3]=((b0.toNat*256+b1.toNat)*256+b2.toNat)*256+b3.toNat:=by
 simp [val]
theorem ZkS (b0 b1 b2 b3:UInt8):bits BinOp.or IntKind.u32 (bits BinOp.or IntKind.u32 (bits BinOp.or IntKind.u32 ((b0.toNat:Int) % 4294967296*16777216 % 4294967296) ((b1.toNat:Int) % 4294967296*65536 % 4294967296)) ((b2.toNat:Int) % 4294967296*256 % 4294967296)) ((b3.toNat:Int) % 4294967296)=(val [b0,b1,b2,b3]:Int):=by
 have l0:=b0.toNat_lt;have l1:=b1.toNat_lt;have l2:=b2.toNat_lt;have l3:=b3.toNat_lt
 have c0:(b0.toNat:Int) % 4294967296*16777216 % 4294967296=((2 ^ 24*b0.toNat:Nat):Int):=by omega
 have c1:(b1.toNat:Int) % 4294967296*65536 % 4294967296=((b1.toNat*65536:Nat):Int):=by omega
 have c2:(b2.toNat:Int) % 4294967296*256 % 4294967296=((b2.toNat*256:Nat):Int):=by omega
 have c3:(b3.toNat:Int) % 4294967296=((b3.toNat:Nat):Int):=by omega
 rw [c0,c1,c2,c3,Zjc _ _ (by omega) (by omega),<- Nat.two_pow_add_eq_or_of_lt (by omega) _]
 have e1:2 ^ 24*b0.toNat+b1.toNat*65536=2 ^ 16*(b0.toNat*256+b1.toNat):=by omega
 rw [e1,Zjc _ _ (by omega) (by omega),<- Nat.two_pow_add_eq_or_of_lt (by omega) _]
 have e2:2 ^ 16*(b0.toNat*256+b1.toNat)+b2.toNat*256=2 ^ 8*((b0.toNat*256+b1.toNat)*256+b2.toNat):=by omega
 rw [e2,Zjc _ _ (by omega) (by omega),<- Nat.two_pow_add_eq_or_of_lt (by omega) _,val4];omega
theorem ZiO {v:Value} {b0 b1 b2 b3:UInt8} {rest:Bs} (w:World) (h:BAt w v (b0::b1::b2::b3::rest)) :
  Calls Tryz.prog 222 #[v] w λ e w'=>e=.returned (.int .u32 (val [b0,b1,b2,b3]:Int))/\∃ q,w'=w.drewN q:=by
 obtain ⟨ao,c,rfl,h1,h2,h3⟩:=h;obtain ⟨b,off,rfl,hlt,hc⟩:=h3 (by simp)
 have c0:w.cell? ⟨b,off,none⟩=some (.int .u8 (b0.toNat:Int)):=by simpa [encB] using hc 0 b0 rfl 0 _ rfl
 have c1:w.cell? ⟨b,off+1,none⟩=some (.int .u8 (b1.toNat:Int)):=by simpa [encB] using hc 1 b1 rfl 0 _ rfl
 have c2:w.cell? ⟨b,off+2,none⟩=some (.int .u8 (b2.toNat:Int)):=by simpa [encB] using hc 2 b2 rfl 0 _ rfl
 have c3:w.cell? ⟨b,off+3,none⟩=some (.int .u8 (b3.toNat:Int)):=by simpa [encB] using hc 3 b3 rfl 0 _ rfl
 obtain ⟨n,hn⟩:∃ n,(b0::b1::b2::b3::rest).length=n:=⟨_,rfl⟩
 have hn4:4<=n:=by rw [<- hn]; simp
 rw [hn] at h1 ⊢;clear hc h3 hn;go_enter Tryz.func222,Tryz.ntmps222;go_wp2_with fail;go_quiet (fail);go_wp2;go_ret;exact ⟨by rw [<- ZkS]; rfl,_,rfl⟩
theorem low4 (n:Nat):low 4 n=b4 n:=by
 simp [low,b4,Nat.div_div_eq_div_mul]
def ints (bs:Bs):List Int:=bs.map (λ b=>(b.toNat:Int))
theorem ZlC {bs:Bs} {j:Nat} (hj:j<bs.length):(ints bs).getD j 0=(bs[j].toNat:Int):=by
 simp [ints,List.getD,List.getElem?_eq_getElem hj]
theorem BAt.bytes {w:World} {v:Value} {bs:Bs} (h:BAt w v bs):ZcG w v (ints bs):=by
 obtain ⟨ao,c,rfl,h1,h2,h3⟩:=h;refine ⟨ao,c,by simp [ints],by simp [ints]; omega,?_⟩;by_cases h0:0<bs.length
 ·obtain ⟨b,off,rfl,hlt,hc⟩:=h3 h0;refine .inr ⟨b,off,rfl,λ j hj=>?_⟩
  have hj':j<bs.length:=by simpa [ints] using hj
  rw [ZlC hj'];have:=hc j bs[j] (List.getElem?_eq_getElem hj') 0 _ rfl;rw [show off+(j*encB.size+0)=off+j from (by show off+(j*1+0)=off+j; omega)] at this;exact this
 ·obtain rfl:bs=[]:=List.eq_nil_of_length_eq_zero (by omega);exact .inl rfl
theorem Zau.parts {w:World} {v:Value} {xss:List Bs} (h:Zau w v xss) (hl:xss.length<=1000000):ZeW w v (xss.map ints):=by
 obtain ⟨ao,c,rfl,h1,h2⟩:=h;refine ⟨ao,c,by simp,by simp; omega,?_⟩;by_cases h0:0<xss.length
 ·obtain ⟨b,off,rfl,hlt⟩:=h1 h0;refine .inr ⟨b,off,rfl,λ j hj=>?_⟩
  have hj':j<xss.length:=by simpa using hj
  obtain ⟨u,hu,hb⟩:=h2 j xss[j] b off (List.getElem?_eq_getElem hj') rfl;refine ⟨u,hu,?_⟩
  have e:(xss.map ints).getD j []=ints xss[j]:=by simp [List.getD,List.getElem?_eq_getElem hj']
  rw [e];exact hb.bytes
 ·obtain rfl:xss=[]:=List.eq_nil_of_length_eq_zero (by omega);exact .inl rfl
theorem Zia (xss:List Bs):∀ h,chkFolds h (xss.map ints)=chkFold h (ints xss.flatten):=by
 induction xss with
 | nil=>intro h; rfl
 | cons x t ih =>
  intro h;show chkFolds (chkFold h (ints x)) (t.map ints)=_;rw [ih];simp [chkFold,ints,List.foldl_append]
def crc (bs:Bs):Nat:=(4294967295 - chkFold 4294967295 (ints bs)).toNat
theorem Zmn (bs:Bs):4294967295 - chkFold 4294967295 (ints bs)=(crc bs:Int):=by
 have:=ZaO (ints bs) 4294967295 (by decide) (by decide);unfold crc;omega
theorem Zhj (bs:Bs):crc bs<4294967296:=by
 have:=ZaO (ints bs) 4294967295 (by decide) (by decide);unfold crc;omega
theorem ZjQ {v:Value} {xss:List Bs} (w:World) (h:Zau w v xss) (hl:xss.length<=1000000) :
  Calls Tryz.prog 95 #[v] w λ e w'=>e=.returned (.int .u32 (crc xss.flatten:Int))/\w'=w:=by
 have:=Zne v _ w (h.parts hl);rw [Zia,Zmn] at this;exact this
theorem ZcS {v:Value} {bs:Bs} (w:World) (h:BAt w v bs) :
  Calls Tryz.prog 97 #[v] w λ e w'=>e=.returned (.int .u32 (crc bs:Int))/\w'=w:=by
 have:=Zlu v _ w h.bytes;rw [Zmn] at this;exact this
abbrev Fr:=Int×Bs
def headB (k:Int) (body:Bs):Bs:=b4 body.length++(UInt8.ofNat k.toNat::body)
def sealB (k:Int) (body:Bs):Bs:=headB k body++b4 (crc (headB k body))
theorem Zf2 (k:Int) (body:Bs):(headB k body).length=5+body.length:=by simp [headB,Zbj]; omega
theorem ZfZ (k:Int) (body:Bs):(sealB k body).length=9+body.length:=by simp [sealB,Zf2,Zbj]; omega
def fseal (f:Fr):Bs×Int:=if f.1<0∨255<f.1 then ([],3) else if 8192<f.2.length then ([],4) else (sealB f.1 f.2,0)
def fopen (b:Bs):Fr×Nat×Int :=
 if b.length<4 then ((0,[]),0,10)
 else if 8192<val (b.take 4) then ((0,[]),0,4)
 else if b.length<9+val (b.take 4) then ((0,[]),0,10)
 else if val ((b.drop (5+val (b.take 4))).take 4)≠crc (b.take (5+val (b.take 4))) then ((0,[]),0,11)
 else ((((b.getD 4 0).toNat:Int),(b.drop 5).take (val (b.take 4))),9+val (b.take 4),0)
theorem Zhe {b:Bs} (h:(fopen b).2.2=0):4<=b.length/\val (b.take 4)<=8192/\9+val (b.take 4)<=b.length/\val ((b.drop (5+val (b.take 4))).take 4)=crc (b.take (5+val (b.take 4)))/\fopen b=((((b.getD 4 0).toNat:Int),(b.drop 5).take (val (b.take 4))),9+val (b.take 4),0):=by
 unfold fopen at h ⊢
 split at h
 ·simp at h
 ·split at h
  ·simp at h
  ·split at h
   ·simp at h
   ·split at h
    ·simp at h
    ·rename_i h1 h2 h3 h4
     rw [if_neg h1,if_neg h2,if_neg h3,if_neg h4];exact ⟨by omega,by omega,by omega,by simpa using h4,rfl⟩
theorem Zbh {b:Bs} (h:(fopen b).2.2=0):9<=(fopen b).2.1/\(fopen b).2.1<=b.length/\(fopen b).2.1=9+(fopen b).1.2.length:=by
 obtain ⟨h1,h2,h3,_,e⟩:=Zhe h;rw [e];refine ⟨by show 9<=9+_; omega,h3,?_⟩;show 9+_=9+((b.drop 5).take _).length;rw [List.length_take,List.length_drop];omega
def fcut (b:Bs):List Fr×Nat×Int :=
 if _h0:b=[] then ([],0,0)
 else if _h:(fopen b).2.2=0 then ((fopen b).1::(fcut (b.drop (fopen b).2.1)).1,(fopen b).2.1+(fcut (b.drop (fopen b).2.1)).2.1,(fcut (b.drop (fopen b).2.1)).2.2)
 else ([],0,(fopen b).2.2)
termination_by b.length
decreasing_by
 all_goals
  have:=Zbh _h
  have:0<b.length:=by
   rcases b with _ | _
   ·exact absurd rfl _h0
   ·simp
  simp only [List.length_drop];omega
theorem Ze6:fcut []=([],0,0):=by rw [fcut]; simp
theorem ZdH {b:Bs} (h0:0<b.length) (h:(fopen b).2.2≠0):fcut b=([],0,(fopen b).2.2):=by
 rw [fcut,dif_neg (by intro e; rw [e] at h0; simp at h0),dif_neg h]
theorem ZbK {b:Bs} (h0:0<b.length) (h:(fopen b).2.2=0):fcut b=((fopen b).1::(fcut (b.drop (fopen b).2.1)).1,(fopen b).2.1+(fcut (b.drop (fopen b).2.1)).2.1,(fcut (b.drop (fopen b).2.1)).2.2):=by
 rw [fcut,dif_neg (by intro e; rw [e] at h0; simp at h0),dif_pos h]
def ZcU (b:Bs) (fs:List Fr) (d:Nat):Prop:=d<=b.length/\9*fs.length<=d/\fcut b=(fs++(fcut (b.drop d)).1,d+(fcut (b.drop d)).2.1,(fcut (b.drop d)).2.2)
theorem ZcU.start (b:Bs):ZcU b [] 0:=⟨Nat.zero_le _,by simp,by simp⟩
theorem ZcU.stop {b:Bs} {fs:List Fr} {d:Nat} (h:ZcU b fs d) (hd:d<b.length) (he:(fopen (b.drop d)).2.2≠0):fcut b=(fs,d,(fopen (b.drop d)).2.2):=by
 rw [h.2.2,ZdH (by rw [List.length_drop]; omega) he];simp
theorem ZcU.step {b:Bs} {fs:List Fr} {d:Nat} (h:ZcU b fs d) (hd:d<b.length) (he:(fopen (b.drop d)).2.2=0):ZcU b (fs++[(fopen (b.drop d)).1]) (d+(fopen (b.drop d)).2.1):=by
 have hn:=Zbh he;rw [List.length_drop] at hn;refine ⟨by omega,by have:=h.2.1; simp; omega,?_⟩;rw [h.2.2,ZbK (by rw [List.length_drop]; omega) he,List.drop_drop];simp [Nat.add_assoc]
theorem ZcU.done {b:Bs} {fs:List Fr} {d:Nat} (h:ZcU b fs d) (hd:¬ d<b.length):fcut b=(fs,d,0):=by
 have:b.drop d=[]:=List.drop_eq_nil_of_le (by omega);rw [h.2.2,this,Ze6];simp
end Go.Proofs.YtmhcpbbiokpjjaaGreat
