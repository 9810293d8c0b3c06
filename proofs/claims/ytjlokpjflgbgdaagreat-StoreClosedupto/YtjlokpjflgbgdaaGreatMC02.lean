/-
  Several texts, laid together.
-/
import Derived.Test.YtjlokpjflgbgdaaGreatMC01
set_option maxHeartbeats 6400000
set_option maxRecDepth 100000
namespace Go.Proofs.YtjlokpjflgbgdaaGreat
open Go.RowKit
abbrev U (n:Int):Int:=IntKind.u64.wrap n
abbrev X64 (a b:Int):Int:=bits BinOp.xor IntKind.u64 a b
def idStep (a b:Int):Int:=U (X64 a (U b)*1099511628211)
theorem idstep_any (a b:Int) (w:World) :
  Calls Tryz.prog 230 #[.int .u64 a,.int .u8 b] w λ e w'=>e=.returned (.int .u64 (idStep a b))/\w'=w:=by
 go_enter Tryz.func230,Tryz.ntmps230;go_wp2;go_ret;exact ⟨rfl,rfl⟩
end Go.Proofs.YtjlokpjflgbgdaaGreat

namespace Go.Proofs.YtjlokpjflgbgdaaGreat
open Go.RowKit
def BytesAt (w:World) (v:Value) (zs:List Int):Prop :=
 ∃ a cap,v=.slice a zs.length cap/\zs.length<=9223372036854775807/\(zs=[]∨∃ b off,a=some ⟨b,off,none⟩/\∀ j,j<zs.length->w.cell? ⟨b,off+j,none⟩=some (.int .u8 (zs.getD j 0)))
def PartsAt (w:World) (v:Value) (zss:List (List Int)):Prop :=
 ∃ a cap,v=.slice a zss.length cap/\zss.length<=9223372036854775807/\(zss=[]∨∃ b off,a=some ⟨b,off,none⟩/\∀ j,j<zss.length->∃ u,w.cell? ⟨b,off+j,none⟩=some u/\BytesAt w u (zss.getD j []))
def idFold (h:Int) (zs:List Int):Int:=zs.foldl idStep h
theorem idFold_step (h:Int) (zs:List Int) (k:Nat) (hk:k<zs.length):idFold h (zs.take (k+1))=idStep (idFold h (zs.take k)) zs[k]:=by
 unfold idFold;rw [List.take_add_one,List.foldl_append];simp [List.getElem?_eq_getElem hk]
def idFolds (h:Int) (zss:List (List Int)):Int:=zss.foldl idFold h
theorem idFolds_step (h:Int) (zss:List (List Int)) (k:Nat) (hk:k<zss.length):idFolds h (zss.take (k+1))=idFold (idFolds h (zss.take k)) (zss.getD k []):=by
 unfold idFolds;rw [List.take_add_one,List.foldl_append];simp [List.getElem?_eq_getElem hk,List.getD]
theorem id_walk (kind:Int) (b off cap:Nat) (zss:List (List Int)) (w:World) (hn:zss.length<=9223372036854775807)
  (hc:∀ j,j<zss.length->∃ u,w.cell? ⟨b,off+j,none⟩=some u/\BytesAt w u (zss.getD j [])) :
  Calls Tryz.prog 171 #[.int .i64 kind,.slice (some ⟨b,off,none⟩) zss.length cap] w λ e w'=>e=.returned (.int .u64 (idFolds (idStep 14695981039346656037 (kind % 256)) zss))/\w'=w:=by
 go_enter Tryz.func171,Tryz.ntmps171;go_wp2_with (go_at_call 230; refine (idstep_any _ _ _).mono ?_; rintro e w' ⟨rfl,rfl⟩)
 go_loop [5,15] (λ h i=>∃ k:Nat,k<=zss.length/\i=.int .i64 k/\h=.int .u64 (idFolds (idStep 14695981039346656037 (kind % 256)) (zss.take k)))
  (λ _ i=>zss.length - (intOf i).toNat)
 case atStart=>exact ⟨0,Nat.zero_le _,rfl,rfl⟩
 case round =>
  obtain ⟨k,hk,rfl,rfl⟩:=hrel;by_cases hlt:k<zss.length
  ·obtain ⟨u,hcell,a,ca,rfl,hl,hb⟩:=hc k hlt;have hstep:=idFolds_step (idStep 14695981039346656037 (kind % 256)) zss k hlt;generalize zss.getD k []=zs at hl hb hcell hstep;generalize idFolds (idStep 14695981039346656037 (kind % 256)) (zss.take k)=h at hstep ⊢;have HS:Hid (_=_):=hstep;clear hstep
   rcases hb with rfl | ⟨b',off',rfl,hc'⟩
   ·go_wp2;refine wp_loop_rounds 1 ?_;rw [rounds_succ];go_wp2;go_round
    case rel=>exact ⟨k+1,by omega,by go_num,by rw [HS.out]; rfl⟩
    case measure=>simp [intOf]; omega
   ·go_wp2
    go_loop [5,21] (λ g i=>∃ m:Nat,m<=zs.length/\i=.int .i64 m/\g=.int .u64 (idFold h (zs.take m)))
     (λ _ i=>zs.length - (intOf i).toNat)
    case atStart=>exact ⟨0,Nat.zero_le _,rfl,rfl⟩
    case round =>
     obtain ⟨m,hm,rfl,rfl⟩:=hrel
     have hcm:m<zs.length->w'.cell? ⟨b',off'+m,none⟩=some (.int .u8 (zs.getD m 0)):=λ hm'=>hc' m hm'
     go_wp2_with (go_at_call 230; refine (idstep_any _ _ _).mono ?_; rintro e w' ⟨rfl,rfl⟩)
     ·have hlt2:m<zs.length:=by assumption
      go_round
      case rel=>exact ⟨m+1,by omega,by go_num,by rw [idFold_step h zs m hlt2]⟩
      case measure=>simp [intOf]; omega
     ·have:m=zs.length:=by omega
      subst this;go_round
      case rel=>exact ⟨k+1,by omega,by go_num,by rw [HS.out]; simp⟩
      case measure=>simp [intOf]; omega
  ·have:k=zss.length:=by omega
   subst this;go_wp2;go_ret;exact ⟨by simp,rfl⟩
theorem id_any (kind:Int) (v:Value) (zss:List (List Int)) (w:World) (h:PartsAt w v zss) :
  Calls Tryz.prog 171 #[.int .i64 kind,v] w λ e w'=>e=.returned (.int .u64 (idFolds (idStep 14695981039346656037 (kind % 256)) zss))/\w'=w:=by
 obtain ⟨a,cap,rfl,hn,h⟩:=h
 rcases h with rfl | ⟨b,off,rfl,hc⟩
 ·go_enter Tryz.func171,Tryz.ntmps171;go_wp2_with (go_at_call 230; refine (idstep_any _ _ _).mono ?_; rintro e w' ⟨rfl,rfl⟩);refine wp_loop_rounds 1 ?_;rw [rounds_succ];go_wp2;go_ret;exact ⟨by simp [idFolds],rfl⟩
 ·exact id_walk kind b off cap zss w hn hc
theorem i64_and255 (n:Int):bits .and .i64 n 255=n % 256:=by
 have h255:(BitVec.ofInt 64 255).toNat=2 ^ 8 - 1:=by decide
 have key:(BitVec.ofInt 64 n &&& BitVec.ofInt 64 255).toNat=(n % ((2 ^ 64:Nat):Int)).toNat % 2 ^ 8:=by
  rw [BitVec.toNat_and,BitVec.toNat_ofInt,h255,Nat.and_two_pow_sub_one_eq_mod]
 show IntKind.i64.wrap ((BitVec.ofInt 64 n &&& BitVec.ofInt 64 255).toNat:Nat)=n % 256;rw [key,IntKind.wrap_i64];omega
theorem idStep_mod (a k:Int):idStep a (k % 256)=IntKind.u64.wrap (bits BinOp.xor IntKind.u64 a (k % 256)*1099511628211):=by
 have h:U (k % 256)=k % 256:=by show IntKind.u64.wrap _=_; rw [IntKind.wrap_u64]; omega
 rw [idStep,h]
theorem rid_any (kind:Int) (v:Value) (zs:List Int) (w:World) (h:BytesAt w v zs) :
  Calls Tryz.prog 180 #[.int .i64 kind,v] w λ e w'=>e=.returned (.int .u64 (idFold (idStep 14695981039346656037 (kind % 256)) zs))/\w'=w:=by
 obtain ⟨a,cap,rfl,hn,h⟩:=h;have he:=i64_and255 kind
 rcases h with rfl | ⟨b,off,rfl,hc⟩
 ·go_enter Tryz.func180,Tryz.ntmps180;go_wp2;refine wp_loop_rounds 1 ?_;rw [rounds_succ];go_wp2;go_ret;refine ⟨?_,rfl⟩;rw [idFold,List.foldl_nil,idStep_mod]
  rfl
 ·go_enter Tryz.func180,Tryz.ntmps180;go_wp2
  go_loop [5,6] (λ h i=>∃ k:Nat,k<=zs.length/\i=.int .i64 k/\h=.int .u64 (idFold (idStep 14695981039346656037 (kind % 256)) (zs.take k)))
   (λ _ i=>zs.length - (intOf i).toNat)
  case atStart=>exact ⟨0,Nat.zero_le _,rfl,by rw [List.take_zero,idFold,List.foldl_nil,idStep_mod]⟩
  case round =>
   obtain ⟨m,hm,rfl,rfl⟩:=hrel
   have hcm:m<zs.length->w.cell? ⟨b,off+m,none⟩=some (.int .u8 (zs.getD m 0)):=λ hm'=>hc m hm'
   go_wp2
   ·have hlt2:m<zs.length:=by assumption
    go_round
    case rel=>exact ⟨m+1,by omega,by go_num,by rw [idFold_step _ zs m hlt2]; rfl⟩
    case measure=>simp [intOf]; omega
   ·have:m=zs.length:=by omega
    subst this;go_ret;exact ⟨by simp,rfl⟩
end Go.Proofs.YtjlokpjflgbgdaaGreat

namespace Go.Proofs.YtjlokpjflgbgdaaGreat
open Go.RowKit
abbrev X32 (a b:Int):Int:=bits BinOp.xor IntKind.u32 a b
theorem X32_range (a b:Int):0<=X32 a b/\X32 a b<4294967296:=by
 show 0<=IntKind.u32.wrap _/\IntKind.u32.wrap _<4294967296;rw [IntKind.wrap_u32];omega
def crcBit (c:Int):Int:=if c % 2=1 then X32 (c / 2) 3988292384 else c / 2
def crcBits:Nat->Int->Int
 | 0,c=>c
 | n+1,c=>crcBit (crcBits n c)
theorem crcBit_range (c:Int) (h0:0<=c) (h1:c<4294967296):0<=crcBit c/\crcBit c<4294967296:=by
 unfold crcBit
 split
 ·exact X32_range _ _
 ·omega
def chkStep (c b:Int):Int:=crcBits 8 (bits BinOp.xor IntKind.u32 c (b % 4294967296))
theorem and1_u32 (c:Int) (h0:0<=c) (h1:c<4294967296):bits .and .u32 c 1=c % 2:=by
 have h255:(BitVec.ofInt 32 1).toNat=2 ^ 1 - 1:=by decide
 have key:(BitVec.ofInt 32 c &&& BitVec.ofInt 32 1).toNat=(c % ((2 ^ 32:Nat):Int)).toNat % 2 ^ 1:=by
  rw [BitVec.toNat_and,BitVec.toNat_ofInt,h255,Nat.and_two_pow_sub_one_eq_mod]
 show IntKind.u32.wrap ((BitVec.ofInt 32 c &&& BitVec.ofInt 32 1).toNat:Nat)=c % 2;rw [key,IntKind.wrap_u32];omega
theorem chkstep_at (a b c0:Int) (hc0:bits BinOp.xor IntKind.u32 a (b % 4294967296)=c0) (r0:0<=c0) (r1:c0<4294967296) (w:World) :
  Calls Tryz.prog 168 #[.int .u32 a,.int .u8 b] w λ e w'=>e=.returned (.int .u32 (crcBits 8 c0))/\w'=w:=by
 go_enter Tryz.func168,Tryz.ntmps168;go_wp2
 go_loop [0,10] (λ c i=>∃ k:Nat,k<=8/\i=.int .i64 k/\c=.int .u32 (crcBits k c0)/\0<=crcBits k c0/\crcBits k c0<4294967296)
  (λ _ i=>8 - (intOf i).toNat)
 case atStart=>exact ⟨0,by omega,rfl,rfl,r0,r1⟩
 case round =>
  obtain ⟨k,hk,rfl,rfl,h0,h1⟩:=hrel;have hb:=crcBit_range _ h0 h1;have he:crcBit (crcBits k c0)=crcBits (k+1) c0:=rfl;have ha:=and1_u32 _ h0 h1;rw [he] at hb;have HE:Hid (_=_):=he;clear he;go_wp2
  ·have hk8:(k:Int)<8:=by assumption
   have hodd:(crcBits k c0 % 2==1)=true:=by assumption
   have hv:crcBits (k+1) c0=bits BinOp.xor IntKind.u32 (crcBits k c0 / 2) 3988292384:=by
    rw [<- HE.out,crcBit,if_pos (by simpa using hodd)]
   go_round
   case rel=>exact ⟨k+1,by omega,by go_num,by rw [hv],hb.1,hb.2⟩
   case measure=>simp [intOf]; omega
  ·have hk8:(k:Int)<8:=by assumption
   have hodd:(crcBits k c0 % 2==1)=false:=by assumption
   have hv:crcBits (k+1) c0=crcBits k c0 / 2:=by
    rw [<- HE.out,crcBit,if_neg (by simpa using hodd)]
   go_round
   case rel=>exact ⟨k+1,by omega,by go_num,by rw [hv],hb.1,hb.2⟩
   case measure=>simp [intOf]; omega
  ·have:k=8:=by omega
   subst this;go_ret;exact ⟨rfl,rfl⟩
theorem chkstep_any (a b:Int) (w:World) :
  Calls Tryz.prog 168 #[.int .u32 a,.int .u8 b] w λ e w'=>e=.returned (.int .u32 (chkStep a b))/\w'=w :=
 chkstep_at a b _ rfl (X32_range a _).1 (X32_range a _).2 w
theorem crcBits_range (n:Nat) (c:Int) (h0:0<=c) (h1:c<4294967296):0<=crcBits n c/\crcBits n c<4294967296:=by
 induction n with
 | zero=>exact ⟨h0,h1⟩
 | succ n ih=>exact crcBit_range _ ih.1 ih.2
theorem chkStep_range (c b:Int):0<=chkStep c b/\chkStep c b<4294967296:=crcBits_range 8 _ (X32_range c _).1 (X32_range c _).2
def chkFold (h:Int) (zs:List Int):Int:=zs.foldl chkStep h
theorem chkFold_range (zs:List Int):∀ (h:Int),0<=h->h<4294967296->0<=chkFold h zs/\chkFold h zs<4294967296:=by
 induction zs with
 | nil=>intro h h0 h1; exact ⟨h0,h1⟩
 | cons z zs ih=>intro h _ _; exact ih _ (chkStep_range h z).1 (chkStep_range h z).2
theorem chkFold_step (h:Int) (zs:List Int) (k:Nat) (hk:k<zs.length):chkFold h (zs.take (k+1))=chkStep (chkFold h (zs.take k)) zs[k]:=by
 unfold chkFold;rw [List.take_add_one,List.foldl_append];simp [List.getElem?_eq_getElem hk]
def chkFolds (h:Int) (zss:List (List Int)):Int:=zss.foldl chkFold h
theorem chkFolds_range (zss:List (List Int)):∀ (h:Int),0<=h->h<4294967296->0<=chkFolds h zss/\chkFolds h zss<4294967296:=by
 induction zss with
 | nil=>intro h h0 h1; exact ⟨h0,h1⟩
 | cons z zs ih=>intro h h0 h1; exact ih _ (chkFold_range z h h0 h1).1 (chkFold_range z h h0 h1).2
theorem xor_max (c:Int) (h0:0<=c) (h1:c<4294967296):bits BinOp.xor IntKind.u32 IntKind.u32.max c=4294967295 - c:=by
 obtain ⟨n,rfl⟩:=Int.eq_ofNat_of_zero_le h0
 have hn:n<4294967296:=by omega
 have hm:(IntKind.u32.max:Int)=((4294967295:Nat):Int):=by decide
 rw [hm,u32_xor_nat _ _ (by decide) hn]
 have h:(BitVec.allOnes 32 ^^^ BitVec.ofNat 32 n).toNat=4294967295 - n:=by
  rw [BitVec.allOnes_xor,BitVec.toNat_not,BitVec.toNat_ofNat,Nat.mod_eq_of_lt hn]
 rw [BitVec.toNat_xor,BitVec.toNat_allOnes,BitVec.toNat_ofNat,Nat.mod_eq_of_lt hn] at h;have h':4294967295 ^^^ n=4294967295 - n:=h;rw [h'];omega
theorem chkFolds_step (h:Int) (zss:List (List Int)) (k:Nat) (hk:k<zss.length):chkFolds h (zss.take (k+1))=chkFold (chkFolds h (zss.take k)) (zss.getD k []):=by
 unfold chkFolds;rw [List.take_add_one,List.foldl_append];simp [List.getElem?_eq_getElem hk,List.getD]
theorem chk_walk (b off cap:Nat) (zss:List (List Int)) (w:World) (hn:zss.length<=9223372036854775807)
  (hc:∀ j,j<zss.length->∃ u,w.cell? ⟨b,off+j,none⟩=some u/\BytesAt w u (zss.getD j [])) :
  Calls Tryz.prog 103 #[.slice (some ⟨b,off,none⟩) zss.length cap] w λ e w'=>e=.returned (.int .u32 (bits BinOp.xor IntKind.u32 IntKind.u32.max (chkFolds 4294967295 zss)))/\w'=w:=by
 go_enter Tryz.func103,Tryz.ntmps103;go_wp2
 go_loop [3,10] (λ h i=>∃ k:Nat,k<=zss.length/\i=.int .i64 k/\h=.int .u32 (chkFolds 4294967295 (zss.take k)))
  (λ _ i=>zss.length - (intOf i).toNat)
 case atStart=>exact ⟨0,Nat.zero_le _,rfl,rfl⟩
 case round =>
  obtain ⟨k,hk,rfl,rfl⟩:=hrel;by_cases hlt:k<zss.length
  ·obtain ⟨u,hcell,a,ca,rfl,hl,hb⟩:=hc k hlt;have hstep:=chkFolds_step 4294967295 zss k hlt;generalize zss.getD k []=zs at hl hb hcell hstep;generalize chkFolds 4294967295 (zss.take k)=h at hstep ⊢;have HS:Hid (_=_):=hstep;clear hstep
   rcases hb with rfl | ⟨b',off',rfl,hc'⟩
   ·go_wp2;refine wp_loop_rounds 1 ?_;rw [rounds_succ];go_wp2;go_round
    case rel=>exact ⟨k+1,by omega,by go_num,by rw [HS.out]; rfl⟩
    case measure=>simp [intOf]; omega
   ·go_wp2
    go_loop [3,16] (λ g i=>∃ m:Nat,m<=zs.length/\i=.int .i64 m/\g=.int .u32 (chkFold h (zs.take m)))
     (λ _ i=>zs.length - (intOf i).toNat)
    case atStart=>exact ⟨0,Nat.zero_le _,rfl,rfl⟩
    case round =>
     obtain ⟨m,hm,rfl,rfl⟩:=hrel
     have hcm:m<zs.length->w.cell? ⟨b',off'+m,none⟩=some (.int .u8 (zs.getD m 0)):=λ hm'=>hc' m hm'
     go_wp2_with (go_at_call 168; refine (chkstep_any _ _ _).mono ?_; rintro e w' ⟨rfl,rfl⟩)
     ·have hlt2:m<zs.length:=by assumption
      go_round
      case rel=>exact ⟨m+1,by omega,by go_num,by rw [chkFold_step h zs m hlt2]⟩
      case measure=>simp [intOf]; omega
     ·have:m=zs.length:=by omega
      subst this;go_round
      case rel=>exact ⟨k+1,by omega,by go_num,by rw [HS.out]; simp⟩
      case measure=>simp [intOf]; omega
  ·have:k=zss.length:=by omega
   subst this;go_wp2;go_ret;exact ⟨by simp,rfl⟩
theorem chk_raw (v:Value) (zss:List (List Int)) (w:World) (h:PartsAt w v zss) :
  Calls Tryz.prog 103 #[v] w λ e w'=>e=.returned (.int .u32 (bits BinOp.xor IntKind.u32 IntKind.u32.max (chkFolds 4294967295 zss)))/\w'=w:=by
 obtain ⟨a,cap,rfl,hn,h⟩:=h
 rcases h with rfl | ⟨b,off,rfl,hc⟩
 ·go_enter Tryz.func103,Tryz.ntmps103;go_wp2;refine wp_loop_rounds 1 ?_;rw [rounds_succ];go_wp2;go_ret;exact ⟨rfl,rfl⟩
 ·exact chk_walk b off cap zss w hn hc
theorem chk_any (v:Value) (zss:List (List Int)) (w:World) (h:PartsAt w v zss) :
  Calls Tryz.prog 103 #[v] w λ e w'=>e=.returned (.int .u32 (4294967295 - chkFolds 4294967295 zss))/\w'=w:=by
 have hr:=chkFolds_range zss 4294967295 (by decide) (by decide);have hx:=xor_max _ hr.1 hr.2;rw [<- hx];exact chk_raw v zss w h
theorem rchk_any (v:Value) (zs:List Int) (w:World) (h:BytesAt w v zs) :
  Calls Tryz.prog 105 #[v] w λ e w'=>e=.returned (.int .u32 (4294967295 - chkFold 4294967295 zs))/\w'=w:=by
 obtain ⟨a,cap,rfl,hn,h⟩:=h
 rcases h with rfl | ⟨b,off,rfl,hc⟩
 ·go_enter Tryz.func105,Tryz.ntmps105;go_wp2;refine wp_loop_rounds 1 ?_;rw [rounds_succ];go_wp2;go_ret;exact ⟨rfl,rfl⟩
 ·go_enter Tryz.func105,Tryz.ntmps105;go_wp2
  go_loop [3,4] (λ h i=>∃ k:Nat,k<=zs.length/\i=.int .i64 k/\h=.int .u32 (chkFold 4294967295 (zs.take k)))
   (λ _ i=>zs.length - (intOf i).toNat)
  case atStart=>exact ⟨0,Nat.zero_le _,rfl,rfl⟩
  case round =>
   obtain ⟨m,hm,rfl,rfl⟩:=hrel;by_cases hlt:m<zs.length
   ·have hcm:=hc m hlt;have hst:=chkFold_step 4294967295 zs m hlt
    have hz:zs.getD m 0=zs[m]:=by simp [List.getD,List.getElem?_eq_getElem hlt]
    rw [hz] at hcm;generalize zs[m]=z at hcm hst;generalize chkFold 4294967295 (zs.take m)=h at hst ⊢;have HS:Hid (_=_):=hst;clear hst hz hc;obtain ⟨r0,r1⟩:=X32_range h (z % 4294967296)
    have hc0:∃ c0,c0=bits BinOp.xor IntKind.u32 h (z % 4294967296):=⟨_,rfl⟩
    obtain ⟨c0,hc0⟩:=hc0
    have HC:Hid (chkStep h z=crcBits 8 c0):=by rw [hc0]; exact show chkStep h z=_ from rfl
    replace r0:0<=c0:=by rw [hc0]; exact r0
    replace r1:c0<4294967296:=by rw [hc0]; exact r1
    have hc1:=hc0.symm;clear hc0;go_wp2
    go_loop [3,5] (λ c i=>∃ k:Nat,k<=8/\i=.int .i64 k/\c=.int .u32 (crcBits k c0)/\0<=crcBits k c0/\crcBits k c0<4294967296)
     (λ _ i=>8 - (intOf i).toNat)
    case atStart=>exact ⟨0,by omega,rfl,rfl,r0,r1⟩
    case round =>
     obtain ⟨k,hk,rfl,rfl,h0,h1⟩:=hrel;have hb:=crcBit_range _ h0 h1;have he:crcBit (crcBits k c0)=crcBits (k+1) c0:=rfl;rw [he] at hb;have HE:Hid (_=_):=he;clear he;go_wp2
     ·have hk8:(k:Int)<8:=by assumption
      have hodd:(crcBits k c0 % 2==1)=true:=by assumption
      have hv:crcBits (k+1) c0=bits BinOp.xor IntKind.u32 (crcBits k c0 / 2) 3988292384:=by
       rw [<- HE.out,crcBit,if_pos (by simpa using hodd)]
      go_round
      case rel=>exact ⟨k+1,by omega,by go_num,by rw [hv],hb.1,hb.2⟩
      case measure=>simp [intOf]; omega
     ·have hk8:(k:Int)<8:=by assumption
      have hodd:(crcBits k c0 % 2==1)=false:=by assumption
      have hv:crcBits (k+1) c0=crcBits k c0 / 2:=by
       rw [<- HE.out,crcBit,if_neg (by simpa using hodd)]
      go_round
      case rel=>exact ⟨k+1,by omega,by go_num,by rw [hv],hb.1,hb.2⟩
      case measure=>simp [intOf]; omega
     ·have:k=8:=by omega
      subst this;go_round
      case rel=>exact ⟨m+1,by omega,by go_num,by rw [HS.out,HC.out]⟩
      case measure=>simp [intOf]; omega
   ·have:m=zs.length:=by omega
    subst this;go_wp2;go_ret;refine ⟨?_,rfl⟩;obtain ⟨r0,r1⟩:=chkFold_range zs 4294967295 (by decide) (by decide)
    have hq:(4294967295 - chkFold 4294967295 zs) % 4294967296=4294967295 - chkFold 4294967295 zs:=by omega
    rw [hq]
    rfl
end Go.Proofs.YtjlokpjflgbgdaaGreat

namespace Go.Proofs.YtjlokpjflgbgdaaGreat
open Go.RowKit
def b4 (n:Nat):Bs:=[UInt8.ofNat (n / 16777216),UInt8.ofNat (n / 65536),UInt8.ofNat (n / 256),UInt8.ofNat n]
theorem b4_len (n:Nat):(b4 n).length=4:=rfl
theorem word_any (n:Nat) (hn:n<4294967296) (w:World) :
  Calls Tryz.prog 232 #[.int .u32 (n:Int)] w λ e w'=>e=.returned (.slice (some ⟨w.heap.size,0,none⟩) 4 4)/\w'=w.alloc (.cells ((b4 n).map (λ x=>Value.int .u8 (x.toNat:Int))).toArray 5):=by
 go_enter Tryz.func232,Tryz.ntmps232;go_wp2;go_ret;refine ⟨rfl,?_⟩
 have e0:(UInt8.ofNat (n / 16777216)).toNat=n / 16777216:=by rw [UInt8.toNat_ofNat']; omega
 have e1:(UInt8.ofNat (n / 65536)).toNat=n / 65536 % 256:=UInt8.toNat_ofNat';have e2:(UInt8.ofNat (n / 256)).toNat=n / 256 % 256:=UInt8.toNat_ofNat';have e3:(UInt8.ofNat n).toNat=n % 256:=UInt8.toNat_ofNat';simp [b4,e0,e1,e2,e3]
theorem or_u32 (a b:Nat) (ha:a<4294967296) (hb:b<4294967296):bits BinOp.or IntKind.u32 (a:Int) (b:Int)=((a ||| b:Nat):Int):=by
 have hx:a ||| b<2 ^ 32:=Nat.or_lt_two_pow ha hb
 have h1:(BitVec.ofInt 32 (a:Int)).toNat=a:=by
  rw [BitVec.ofInt_natCast,BitVec.toNat_ofNat]; exact Nat.mod_eq_of_lt (by omega)
 have h2:(BitVec.ofInt 32 (b:Int)).toNat=b:=by
  rw [BitVec.ofInt_natCast,BitVec.toNat_ofNat]; exact Nat.mod_eq_of_lt (by omega)
 show IntKind.u32.wrap ((BitVec.ofInt 32 (a:Int) ||| BitVec.ofInt 32 (b:Int)).toNat:Int)=_;rw [BitVec.toNat_or,h1,h2,IntKind.wrap_u32];omega
theorem val4 (b0 b1 b2 b3:UInt8):val [b0,b1,b2,b3]=((b0.toNat*256+b1.toNat)*256+b2.toNat)*256+b3.toNat:=by
 simp [val]
theorem or_bytes (b0 b1 b2 b3:UInt8):bits BinOp.or IntKind.u32 (bits BinOp.or IntKind.u32 (bits BinOp.or IntKind.u32 ((b0.toNat:Int) % 4294967296*16777216 % 4294967296) ((b1.toNat:Int) % 4294967296*65536 % 4294967296)) ((b2.toNat:Int) % 4294967296*256 % 4294967296)) ((b3.toNat:Int) % 4294967296)=(val [b0,b1,b2,b3]:Int):=by
 have l0:=b0.toNat_lt;have l1:=b1.toNat_lt;have l2:=b2.toNat_lt;have l3:=b3.toNat_lt
 have c0:(b0.toNat:Int) % 4294967296*16777216 % 4294967296=((2 ^ 24*b0.toNat:Nat):Int):=by omega
 have c1:(b1.toNat:Int) % 4294967296*65536 % 4294967296=((b1.toNat*65536:Nat):Int):=by omega
 have c2:(b2.toNat:Int) % 4294967296*256 % 4294967296=((b2.toNat*256:Nat):Int):=by omega
 have c3:(b3.toNat:Int) % 4294967296=((b3.toNat:Nat):Int):=by omega
 rw [c0,c1,c2,c3,or_u32 _ _ (by omega) (by omega),<- Nat.two_pow_add_eq_or_of_lt (by omega) _]
 have e1:2 ^ 24*b0.toNat+b1.toNat*65536=2 ^ 16*(b0.toNat*256+b1.toNat):=by omega
 rw [e1,or_u32 _ _ (by omega) (by omega),<- Nat.two_pow_add_eq_or_of_lt (by omega) _]
 have e2:2 ^ 16*(b0.toNat*256+b1.toNat)+b2.toNat*256=2 ^ 8*((b0.toNat*256+b1.toNat)*256+b2.toNat):=by omega
 rw [e2,or_u32 _ _ (by omega) (by omega),<- Nat.two_pow_add_eq_or_of_lt (by omega) _,val4];omega
theorem number_any {v:Value} {b0 b1 b2 b3:UInt8} {rest:Bs} (w:World) (h:BAt w v (b0::b1::b2::b3::rest)) :
  Calls Tryz.prog 191 #[v] w λ e w'=>e=.returned (.int .u32 (val [b0,b1,b2,b3]:Int))/\∃ q,w'=w.drewN q:=by
 obtain ⟨ao,c,rfl,h1,h2,h3⟩:=h;obtain ⟨b,off,rfl,hlt,hc⟩:=h3 (by simp)
 have c0:w.cell? ⟨b,off,none⟩=some (.int .u8 (b0.toNat:Int)):=by simpa [encB] using hc 0 b0 rfl 0 _ rfl
 have c1:w.cell? ⟨b,off+1,none⟩=some (.int .u8 (b1.toNat:Int)):=by simpa [encB] using hc 1 b1 rfl 0 _ rfl
 have c2:w.cell? ⟨b,off+2,none⟩=some (.int .u8 (b2.toNat:Int)):=by simpa [encB] using hc 2 b2 rfl 0 _ rfl
 have c3:w.cell? ⟨b,off+3,none⟩=some (.int .u8 (b3.toNat:Int)):=by simpa [encB] using hc 3 b3 rfl 0 _ rfl
 obtain ⟨n,hn⟩:∃ n,(b0::b1::b2::b3::rest).length=n:=⟨_,rfl⟩
 have hn4:4<=n:=by rw [<- hn]; simp
 rw [hn] at h1 ⊢;clear hc h3 hn;go_enter Tryz.func191,Tryz.ntmps191;go_wp2_with fail;go_quiet (fail);go_wp2;go_ret;exact ⟨by rw [<- or_bytes]; rfl,_,rfl⟩
theorem val_b4 {n:Nat} (h:n<4294967296):val (b4 n)=n:=by
 have e0:(UInt8.ofNat (n / 16777216)).toNat=n / 16777216:=by rw [UInt8.toNat_ofNat']; omega
 have e1:(UInt8.ofNat (n / 65536)).toNat=n / 65536 % 256:=UInt8.toNat_ofNat';have e2:(UInt8.ofNat (n / 256)).toNat=n / 256 % 256:=UInt8.toNat_ofNat';have e3:(UInt8.ofNat n).toNat=n % 256:=UInt8.toNat_ofNat';show val [_,_,_,_]=_;rw [val4,e0,e1,e2,e3];omega
theorem low4 (n:Nat):low 4 n=b4 n:=by
 simp [low,b4,Nat.div_div_eq_div_mul]
end Go.Proofs.YtjlokpjflgbgdaaGreat

namespace Go.Proofs.YtjlokpjflgbgdaaGreat
open Go.RowKit
def ints (bs:Bs):List Int:=bs.map (λ b=>(b.toNat:Int))
theorem ints_get {bs:Bs} {j:Nat} (hj:j<bs.length):(ints bs).getD j 0=(bs[j].toNat:Int):=by
 simp [ints,List.getD,List.getElem?_eq_getElem hj]
theorem BAt.bytes {w:World} {v:Value} {bs:Bs} (h:BAt w v bs):BytesAt w v (ints bs):=by
 obtain ⟨ao,c,rfl,h1,h2,h3⟩:=h;refine ⟨ao,c,by simp [ints],by simp [ints]; omega,?_⟩;by_cases h0:0<bs.length
 ·obtain ⟨b,off,rfl,hlt,hc⟩:=h3 h0;refine .inr ⟨b,off,rfl,λ j hj=>?_⟩
  have hj':j<bs.length:=by simpa [ints] using hj
  rw [ints_get hj'];have:=hc j bs[j] (List.getElem?_eq_getElem hj') 0 _ rfl;rw [show off+(j*encB.size+0)=off+j from (by show off+(j*1+0)=off+j; omega)] at this;exact this
 ·obtain rfl:bs=[]:=List.eq_nil_of_length_eq_zero (by omega);exact .inl rfl
theorem PartsB.parts {w:World} {v:Value} {xss:List Bs} (h:PartsB w v xss) (hl:xss.length<=1000000):PartsAt w v (xss.map ints):=by
 obtain ⟨ao,c,rfl,h1,h2⟩:=h;refine ⟨ao,c,by simp,by simp; omega,?_⟩;by_cases h0:0<xss.length
 ·obtain ⟨b,off,rfl,hlt⟩:=h1 h0;refine .inr ⟨b,off,rfl,λ j hj=>?_⟩
  have hj':j<xss.length:=by simpa using hj
  obtain ⟨u,hu,hb⟩:=h2 j xss[j] b off (List.getElem?_eq_getElem hj') rfl;refine ⟨u,hu,?_⟩
  have e:(xss.map ints).getD j []=ints xss[j]:=by simp [List.getD,List.getElem?_eq_getElem hj']
  rw [e];exact hb.bytes
 ·obtain rfl:xss=[]:=List.eq_nil_of_length_eq_zero (by omega);exact .inl rfl
theorem folds_flat (xss:List Bs):∀ h,chkFolds h (xss.map ints)=chkFold h (ints xss.flatten):=by
 induction xss with
 | nil=>intro h; rfl
 | cons x t ih =>
  intro h;show chkFolds (chkFold h (ints x)) (t.map ints)=_;rw [ih];simp [chkFold,ints,List.foldl_append]
def crc (bs:Bs):Nat:=(4294967295 - chkFold 4294967295 (ints bs)).toNat
theorem crc_eq (bs:Bs):4294967295 - chkFold 4294967295 (ints bs)=(crc bs:Int):=by
 have:=chkFold_range (ints bs) 4294967295 (by decide) (by decide);unfold crc;omega
theorem crc_lt (bs:Bs):crc bs<4294967296:=by
 have:=chkFold_range (ints bs) 4294967295 (by decide) (by decide);unfold crc;omega
theorem check_any {v:Value} {xss:List Bs} (w:World) (h:PartsB w v xss) (hl:xss.length<=1000000) :
  Calls Tryz.prog 103 #[v] w λ e w'=>e=.returned (.int .u32 (crc xss.flatten:Int))/\w'=w:=by
 have:=chk_any v _ w (h.parts hl);rw [folds_flat,crc_eq] at this;exact this
theorem rcheck_any {v:Value} {bs:Bs} (w:World) (h:BAt w v bs) :
  Calls Tryz.prog 105 #[v] w λ e w'=>e=.returned (.int .u32 (crc bs:Int))/\w'=w:=by
 have:=rchk_any v _ w h.bytes;rw [crc_eq] at this;exact this
end Go.Proofs.YtjlokpjflgbgdaaGreat
