/-
  Several texts, laid together.
-/
import Derived.Test.YtlojblelpaegpaaGreatM01
set_option maxHeartbeats 6400000
set_option maxRecDepth 100000
open Go.IntKind renaming u64->Al,wrap_u64->Bh,u32->Ck,wrap_u32->FO,i64->Ak
open Go.BinOp renaming xor->Du
open Go renaming World->Ap,Calls->At,Value->Ar,wp_loop_rounds->Dx,rounds_succ->D3
open List renaming take_add_one->AO,foldl_append->Cz,getElem?_eq_getElem->Aq,getD->Cf,foldl_nil->Hb,eq_nil_of_length_eq_zero->AT
open Nat renaming zero_le->BG,and_two_pow_sub_one_eq_mod->Fu,mod_eq_of_lt->Ey
open BitVec renaming ofInt->CY,toNat_and->GV,toNat_ofInt->GH,toNat_ofNat->EQ
open UInt8 renaming ofNat->AW,toNat_ofNat'->Bk
open Go.Value renaming slice->Aa,int->Ab
open Go.Ending renaming returned->Aj
open Go.Proofs.Tryz renaming prog->Am
open Go.Proofs.Tryz
namespace Go.Proofs.YtlojblelpaegpaaGreat
open Go.RowKit
variable{a:List Bs}{bs:Bs}{v:Ar}{w:Ap}
abbrev U(n:Int):Int:=Al.wrap n
abbrev X64(a b:Int):Int:=bits Du Al a b
def mixA(z:Int):Int:=U (X64 z (z / 1073741824)*13787848793156543929)
def mixB(z:Int):Int:=U (X64 z (z / 134217728)*10723151780598845931)
def mixC(z:Int):Int:=X64 z (z / 2147483648)
def spread(a b:Int):Int:=mixC (mixB (mixA (U (a+U (U (U b+1)*11400714819323198485)))))
def idStep(a b:Int):Int:=U (X64 a (U b)*1099511628211)
theorem ZmU(z k:Int)(e:1<=k):U ((U z).tdiv k)=U z / k:=by
 have a:0<=U z:=wrap_u64_nonneg z
 have b:U z<18446744073709551616:=by show Al.wrap z<_;rw[Bh];omega
 rw[Int.tdiv_eq_ediv_of_nonneg a];have c:0<=U z / k:=Int.ediv_nonneg a (by omega);have d:U z / k<=U z:=Int.ediv_le_self _ a;show Al.wrap (U z / k)=_;rw[Bh];omega
theorem ZjN(a b:Int)(w:Ap):
  At Am 203 #[Ab Al a,Ab Ak b] w λ e w'=>e=Aj (Ab Al (spread a b))/\w'=w:=by
 go_enter func203,ntmps203;go_wp2;go_ret;exact⟨rfl,rfl⟩
theorem Zh2(a b:Int)(w:Ap):
  At Am 206 #[Ab Al a,Ab Ak b] w λ e w'=>e=Aj (Ab Al
   (X64 (U (X64 (U (X64 (U (a+U (U (U b+1)*11400714819323198485))) (U ((U (a+U (U (U b+1)*11400714819323198485))).tdiv 1073741824))*13787848793156543929))
    (U ((U (X64 (U (a+U (U (U b+1)*11400714819323198485))) (U ((U (a+U (U (U b+1)*11400714819323198485))).tdiv 1073741824))*13787848793156543929)).tdiv 134217728))*10723151780598845931))
    (U ((U (X64 (U (X64 (U (a+U (U (U b+1)*11400714819323198485))) (U ((U (a+U (U (U b+1)*11400714819323198485))).tdiv 1073741824))*13787848793156543929))
    (U ((U (X64 (U (a+U (U (U b+1)*11400714819323198485))) (U ((U (a+U (U (U b+1)*11400714819323198485))).tdiv 1073741824))*13787848793156543929)).tdiv 134217728))*10723151780598845931)).tdiv 2147483648))))/\w'=w:=by
 go_enter func206,ntmps206;go_wp2;go_ret;exact⟨rfl,rfl⟩
theorem Ziw(a b:Int)(w:Ap):
  At Am 206 #[Ab Al a,Ab Ak b] w λ e w'=>e=Aj (Ab Al (spread a b))/\w'=w:=by
 refine(Zh2 a b w).mono ?_;rintro e w' ⟨rfl,c⟩;refine⟨?_,c⟩;rw[ZmU _ 1073741824 (by decide),ZmU _ 134217728 (by decide),ZmU _ 2147483648 (by decide)]
 rfl
theorem Zdb(a b:Int)(w:Ap):
  At Am 214 #[Ab Al a,Ab .u8 b] w λ e w'=>e=Aj (Ab Al (idStep a b))/\w'=w:=by
 go_enter func214,ntmps214;go_wp2;go_ret;exact⟨rfl,rfl⟩
def Zcn(w:Ap)(v:Ar)(zs:List Int):Prop :=
 ∃a cap,v=Aa a zs.length cap/\zs.length<=9223372036854775807/\(zs=[]∨∃b off,a=some ⟨b,off,none⟩/\∀j,j<zs.length->w.cell? ⟨b,off+j,none⟩=some (Ab .u8 (zs.getD j 0)))
def Zd6(w:Ap)(v:Ar)(zss:List (List Int)):Prop :=
 ∃a cap,v=Aa a zss.length cap/\zss.length<=9223372036854775807/\(zss=[]∨∃b off,a=some ⟨b,off,none⟩/\∀j,j<zss.length->∃u,w.cell? ⟨b,off+j,none⟩=some u/\Zcn w u (zss.getD j []))
def idFold(h:Int)(zs:List Int):Int:=zs.foldl idStep h
theorem Zeo(h:Int)(a:List Int)(k:Nat)(b:k<a.length):idFold h (a.take (k+1))=idStep (idFold h (a.take k)) a[k]:=by
 unfold idFold;rw[AO,Cz];simp[Aq b]
def idFolds(h:Int)(zss:List (List Int)):Int:=zss.foldl idFold h
theorem Zgp(h:Int)(a:List (List Int))(k:Nat)(b:k<a.length):idFolds h (a.take (k+1))=idFold (idFolds h (a.take k)) (a.getD k []):=by
 unfold idFolds;rw[AO,Cz];simp[Aq b,Cf]
theorem Zpw(kind:Int)(b off cap:Nat)(c:List (List Int))(w:Ap)(D:c.length<=9223372036854775807)
  (x:∀j,j<c.length->∃u,w.cell? ⟨b,off+j,none⟩=some u/\Zcn w u (c.getD j [])) :
  At Am 181 #[Ab Ak kind,Aa (some ⟨b,off,none⟩) c.length cap] w λ e w'=>e=Aj (Ab Al (idFolds (idStep 14695981039346656037 (kind % 256)) c))/\w'=w:=by
 go_enter func181,ntmps181;go_wp2_with(go_at_call 214;refine(Zdb _ _ _).mono ?_;rintro e w' ⟨rfl,rfl⟩)
 go_loop [5,15] (λ h i=>∃k:Nat,k<=c.length/\i=Ab Ak k/\h=Ab Al (idFolds (idStep 14695981039346656037 (kind % 256)) (c.take k)))
  (λ _ i=>c.length - (intOf i).toNat)
 case atStart=>exact⟨0,BG _,rfl,rfl⟩
 case round =>
  obtain⟨k,B,rfl,rfl⟩:=hrel;by_cases l:k<c.length
  ·obtain⟨u,f,a,A,rfl,z,t⟩:=x k l;have d:=Zgp (idStep 14695981039346656037 (kind % 256)) c k l;generalize c.getD k []=zs at z t f d;generalize idFolds (idStep 14695981039346656037 (kind % 256)) (c.take k)=h at d ⊢;have s:Hid (_=_):=d;clear d
   rcases t with rfl|⟨v,p,rfl,q⟩
   ·go_wp2;refine Dx 1 ?_;rw[D3];go_wp2;go_round
    case rel=>exact⟨k+1,by omega,by go_num,by rw[s.o];rfl⟩
    case measure=>simp[intOf];omega
   ·go_wp2
    go_loop [5,21] (λ g i=>∃m:Nat,m<=zs.length/\i=Ab Ak m/\g=Ab Al (idFold h (zs.take m)))
     (λ _ i=>zs.length - (intOf i).toNat)
    case atStart=>exact⟨0,BG _,rfl,rfl⟩
    case round =>
     obtain⟨m,C,rfl,rfl⟩:=hrel
     have y:m<zs.length->w'.cell? ⟨v,p+m,none⟩=some (Ab .u8 (zs.getD m 0)):=λ r=>q m r
     go_wp2_with(go_at_call 214;refine(Zdb _ _ _).mono ?_;rintro e w' ⟨rfl,rfl⟩)
     ·have n:m<zs.length:=by assumption
      go_round
      case rel=>exact⟨m+1,by omega,by go_num,by rw[Zeo h zs m n]⟩
      case measure=>simp[intOf];omega
     ·have:m=zs.length:=by omega
      subst this;go_round
      case rel=>exact⟨k+1,by omega,by go_num,by rw[s.o];simp⟩
      case measure=>simp[intOf];omega
  ·have:k=c.length:=by omega
   subst this;go_wp2;go_ret;exact⟨by simp,rfl⟩
theorem Zo8(kind:Int)(v:Ar)(c:List (List Int))(w:Ap)(h:Zd6 w v c):
  At Am 181 #[Ab Ak kind,v] w λ e w'=>e=Aj (Ab Al (idFolds (idStep 14695981039346656037 (kind % 256)) c))/\w'=w:=by
 obtain⟨a,cap,rfl,f,h⟩:=h
 rcases h with rfl|⟨b,off,rfl,d⟩
 ·go_enter func181,ntmps181;go_wp2_with(go_at_call 214;refine(Zdb _ _ _).mono ?_;rintro e w' ⟨rfl,rfl⟩);refine Dx 1 ?_;rw[D3];go_wp2;go_ret;exact⟨by simp[idFolds],rfl⟩
 ·exact Zpw kind b off cap c w f d
theorem ZjO(n:Int):bits .and Ak n 255=n % 256:=by
 have a:(CY 64 255).toNat=2 ^ 8 - 1:=by decide
 have key:(CY 64 n &&& CY 64 255).toNat=(n % ((2 ^ 64:Nat):Int)).toNat % 2 ^ 8:=by
  rw[GV,GH,a,Fu]
 show Ak.wrap ((CY 64 n &&& CY 64 255).toNat:Nat)=n % 256;rw[key,IntKind.wrap_i64];omega
theorem Zfp(a k:Int):idStep a (k % 256)=Al.wrap (bits Du Al a (k % 256)*1099511628211):=by
 have h:U (k % 256)=k % 256:=by show Al.wrap _=_;rw[Bh];omega
 rw[idStep,h]
theorem Zh1(kind:Int)(v:Ar)(c:List Int)(w:Ap)(h:Zcn w v c):
  At Am 178 #[Ab Ak kind,v] w λ e w'=>e=Aj (Ab Al (idFold (idStep 14695981039346656037 (kind % 256)) c))/\w'=w:=by
 obtain⟨a,cap,rfl,o,h⟩:=h;have l:=ZjO kind
 rcases h with rfl|⟨b,off,rfl,g⟩
 ·go_enter func178,ntmps178;go_wp2;refine Dx 1 ?_;rw[D3];go_wp2;go_ret;refine⟨?_,rfl⟩;rw[idFold,Hb,Zfp]
  rfl
 ·go_enter func178,ntmps178;go_wp2
  go_loop [5,6] (λ h i=>∃k:Nat,k<=c.length/\i=Ab Ak k/\h=Ab Al (idFold (idStep 14695981039346656037 (kind % 256)) (c.take k)))
   (λ _ i=>c.length - (intOf i).toNat)
  case atStart=>exact⟨0,BG _,rfl,by rw[List.take_zero,idFold,Hb,Zfp]⟩
  case round =>
   obtain⟨m,n,rfl,rfl⟩:=hrel
   have j:m<c.length->w.cell? ⟨b,off+m,none⟩=some (Ab .u8 (c.getD m 0)):=λ f=>g m f
   go_wp2
   ·have d:m<c.length:=by assumption
    go_round
    case rel=>exact⟨m+1,by omega,by go_num,by rw[Zeo _ c m d];rfl⟩
    case measure=>simp[intOf];omega
   ·have:m=c.length:=by omega
    subst this;go_ret;exact⟨by simp,rfl⟩
abbrev X32(a b:Int):Int:=bits Du Ck a b
theorem Zbx(a b:Int):0<=X32 a b/\X32 a b<4294967296:=by
 show 0<=Ck.wrap _/\Ck.wrap _<4294967296;rw[FO];omega
def crcBit(c:Int):Int:=if c % 2=1 then X32 (c / 2) 3988292384 else c / 2
def crcBits:Nat->Int->Int
 | 0,c=>c
 | n+1,c=>crcBit (crcBits n c)
theorem ZbU(c:Int)(a:0<=c)(b:c<4294967296):0<=crcBit c/\crcBit c<4294967296:=by
 unfold crcBit
 split
 ·exact Zbx _ _
 ·omega
def chkStep(c b:Int):Int:=crcBits 8 (bits Du Ck c (b % 4294967296))
theorem Znv(c:Int)(b:0<=c)(d:c<4294967296):bits .and .u32 c 1=c % 2:=by
 have a:(CY 32 1).toNat=2 ^ 1 - 1:=by decide
 have key:(CY 32 c &&& CY 32 1).toNat=(c % ((2 ^ 32:Nat):Int)).toNat % 2 ^ 1:=by
  rw[GV,GH,a,Fu]
 show Ck.wrap ((CY 32 c &&& CY 32 1).toNat:Nat)=c % 2;rw[key,FO];omega
theorem Zkm(a b d:Int)(q:bits Du Ck a (b % 4294967296)=d)(r:0<=d)(s:d<4294967296)(w:Ap):
  At Am 105 #[Ab .u32 a,Ab .u8 b] w λ e w'=>e=Aj (Ab .u32 (crcBits 8 d))/\w'=w:=by
 go_enter func105,ntmps105;go_wp2
 go_loop [0,10] (λ c i=>∃k:Nat,k<=8/\i=Ab Ak k/\c=Ab .u32 (crcBits k d)/\0<=crcBits k d/\crcBits k d<4294967296)
  (λ _ i=>8 - (intOf i).toNat)
 case atStart=>exact⟨0,by omega,rfl,rfl,r,s⟩
 case round =>
  obtain⟨k,u,rfl,rfl,n,p⟩:=hrel;have g:=ZbU _ n p;have h:crcBit (crcBits k d)=crcBits (k+1) d:=rfl;have t:=Znv _ n p;rw[h]at g;have m:Hid (_=_):=h;clear h;go_wp2
  ·have j:(k:Int)<8:=by assumption
   have f:(crcBits k d % 2==1)=true:=by assumption
   have l:crcBits (k+1) d=bits Du Ck (crcBits k d / 2) 3988292384:=by
    rw[<- m.o,crcBit,AE (by simpa using f)]
   go_round
   case rel=>exact⟨k+1,by omega,by go_num,by rw[l],g.1,g.2⟩
   case measure=>simp[intOf];omega
  ·have j:(k:Int)<8:=by assumption
   have f:(crcBits k d % 2==1)=false:=by assumption
   have l:crcBits (k+1) d=crcBits k d / 2:=by
    rw[<- m.o,crcBit,Aw (by simpa using f)]
   go_round
   case rel=>exact⟨k+1,by omega,by go_num,by rw[l],g.1,g.2⟩
   case measure=>simp[intOf];omega
  ·have:k=8:=by omega
   subst this;go_ret;exact⟨rfl,rfl⟩
theorem ZhG(a b:Int)(w:Ap):
  At Am 105 #[Ab .u32 a,Ab .u8 b] w λ e w'=>e=Aj (Ab .u32 (chkStep a b))/\w'=w :=
 Zkm a b _ rfl (Zbx a _).1 (Zbx a _).2 w
theorem Zfx(n:Nat)(c:Int)(b:0<=c)(d:c<4294967296):0<=crcBits n c/\crcBits n c<4294967296:=by
 induction n with
 | zero=>exact⟨b,d⟩
 | succ n a=>exact ZbU _ a.1 a.2
theorem ZcN(c b:Int):0<=chkStep c b/\chkStep c b<4294967296:=Zfx 8 _ (Zbx c _).1 (Zbx c _).2
def chkFold(h:Int)(zs:List Int):Int:=zs.foldl chkStep h
theorem ZaO(a:List Int):∀(h:Int),0<=h->h<4294967296->0<=chkFold h a/\chkFold h a<4294967296:=by
 induction a with
 | nil=>intro h b c;exact⟨b,c⟩
 | cons z a d=>intro h _ _;exact d _ (ZcN h z).1 (ZcN h z).2
theorem Zdh(h:Int)(a:List Int)(k:Nat)(b:k<a.length):chkFold h (a.take (k+1))=chkStep (chkFold h (a.take k)) a[k]:=by
 unfold chkFold;rw[AO,Cz];simp[Aq b]
def chkFolds(h:Int)(zss:List (List Int)):Int:=zss.foldl chkFold h
theorem ZeQ(a:List (List Int)):∀(h:Int),0<=h->h<4294967296->0<=chkFolds h a/\chkFolds h a<4294967296:=by
 induction a with
 | nil=>intro h b c;exact⟨b,c⟩
 | cons z e d=>intro h b c;exact d _ (ZaO z h b c).1 (ZaO z h b c).2
theorem Zpy(c:Int)(d:0<=c)(f:c<4294967296):bits Du Ck Ck.max c=4294967295 - c:=by
 obtain⟨n,rfl⟩:=Int.eq_ofNat_of_zero_le d
 have a:n<4294967296:=by omega
 have e:(Ck.max:Int)=((4294967295:Nat):Int):=by decide
 rw[e,u32_xor_nat _ _ (by decide) a]
 have h:(BitVec.allOnes 32 ^^^ BitVec.ofNat 32 n).toNat=4294967295 - n:=by
  rw[BitVec.allOnes_xor,BitVec.toNat_not,EQ,Ey a]
 rw[BitVec.toNat_xor,BitVec.toNat_allOnes,EQ,Ey a]at h;have b:4294967295 ^^^ n=4294967295 - n:=h;rw[b];omega
theorem Zge(h:Int)(a:List (List Int))(k:Nat)(b:k<a.length):chkFolds h (a.take (k+1))=chkFold (chkFolds h (a.take k)) (a.getD k []):=by
 unfold chkFolds;rw[AO,Cz];simp[Aq b,Cf]
theorem Zng(b off cap:Nat)(c:List (List Int))(w:Ap)(D:c.length<=9223372036854775807)
  (x:∀j,j<c.length->∃u,w.cell? ⟨b,off+j,none⟩=some u/\Zcn w u (c.getD j [])) :
  At Am 48 #[Aa (some ⟨b,off,none⟩) c.length cap] w λ e w'=>e=Aj (Ab .u32 (bits Du Ck Ck.max (chkFolds 4294967295 c)))/\w'=w:=by
 go_enter func48,ntmps48;go_wp2
 go_loop [3,10] (λ h i=>∃k:Nat,k<=c.length/\i=Ab Ak k/\h=Ab .u32 (chkFolds 4294967295 (c.take k)))
  (λ _ i=>c.length - (intOf i).toNat)
 case atStart=>exact⟨0,BG _,rfl,rfl⟩
 case round =>
  obtain⟨k,B,rfl,rfl⟩:=hrel;by_cases l:k<c.length
  ·obtain⟨u,f,a,A,rfl,z,t⟩:=x k l;have d:=Zge 4294967295 c k l;generalize c.getD k []=zs at z t f d;generalize chkFolds 4294967295 (c.take k)=h at d ⊢;have s:Hid (_=_):=d;clear d
   rcases t with rfl|⟨v,p,rfl,q⟩
   ·go_wp2;refine Dx 1 ?_;rw[D3];go_wp2;go_round
    case rel=>exact⟨k+1,by omega,by go_num,by rw[s.o];rfl⟩
    case measure=>simp[intOf];omega
   ·go_wp2
    go_loop [3,16] (λ g i=>∃m:Nat,m<=zs.length/\i=Ab Ak m/\g=Ab .u32 (chkFold h (zs.take m)))
     (λ _ i=>zs.length - (intOf i).toNat)
    case atStart=>exact⟨0,BG _,rfl,rfl⟩
    case round =>
     obtain⟨m,C,rfl,rfl⟩:=hrel
     have y:m<zs.length->w.cell? ⟨v,p+m,none⟩=some (Ab .u8 (zs.getD m 0)):=λ r=>q m r
     go_wp2_with(go_at_call 105;refine(ZhG _ _ _).mono ?_;rintro e w' ⟨rfl,rfl⟩)
     ·have n:m<zs.length:=by assumption
      go_round
      case rel=>exact⟨m+1,by omega,by go_num,by rw[Zdh h zs m n]⟩
      case measure=>simp[intOf];omega
     ·have:m=zs.length:=by omega
      subst this;go_round
      case rel=>exact⟨k+1,by omega,by go_num,by rw[s.o];simp⟩
      case measure=>simp[intOf];omega
  ·have:k=c.length:=by omega
   subst this;go_wp2;go_ret;exact⟨by simp,rfl⟩
theorem Zpq(v:Ar)(c:List (List Int))(w:Ap)(h:Zd6 w v c):
  At Am 48 #[v] w λ e w'=>e=Aj (Ab .u32 (bits Du Ck Ck.max (chkFolds 4294967295 c)))/\w'=w:=by
 obtain⟨a,cap,rfl,f,h⟩:=h
 rcases h with rfl|⟨b,off,rfl,d⟩
 ·go_enter func48,ntmps48;go_wp2;refine Dx 1 ?_;rw[D3];go_wp2;go_ret;exact⟨rfl,rfl⟩
 ·exact Zng b off cap c w f d
theorem ZpI(v:Ar)(a:List (List Int))(w:Ap)(h:Zd6 w v a):
  At Am 48 #[v] w λ e w'=>e=Aj (Ab .u32 (4294967295 - chkFolds 4294967295 a))/\w'=w:=by
 have b:=ZeQ a 4294967295 (by decide) (by decide);have c:=Zpy _ b.1 b.2;rw[<- c];exact Zpq v a w h
theorem Zoj(v:Ar)(g:List Int)(w:Ap)(h:Zcn w v g):
  At Am 50 #[v] w λ e w'=>e=Aj (Ab .u32 (4294967295 - chkFold 4294967295 g))/\w'=w:=by
 obtain⟨a,cap,rfl,J,h⟩:=h
 rcases h with rfl|⟨b,off,rfl,A⟩
 ·go_enter func50,ntmps50;go_wp2;refine Dx 1 ?_;rw[D3];go_wp2;go_ret;exact⟨rfl,rfl⟩
 ·go_enter func50,ntmps50;go_wp2
  go_loop [3,4] (λ h i=>∃k:Nat,k<=g.length/\i=Ab Ak k/\h=Ab .u32 (chkFold 4294967295 (g.take k)))
   (λ _ i=>g.length - (intOf i).toNat)
  case atStart=>exact⟨0,BG _,rfl,rfl⟩
  case round =>
   obtain⟨m,I,rfl,rfl⟩:=hrel;by_cases n:m<g.length
   ·have q:=A m n;have l:=Zdh 4294967295 g m n
    have B:g.getD m 0=g[m]:=by simp[Cf,Aq n]
    rw[B]at q;generalize g[m]=z at q l;generalize chkFold 4294967295 (g.take m)=h at l ⊢;have D:Hid (_=_):=l;clear l B A;obtain⟨r,s⟩:=Zbx h (z % 4294967296)
    have f:∃d,d=bits Du Ck h (z % 4294967296):=⟨_,rfl⟩
    obtain⟨d,f⟩:=f
    have C:Hid (chkStep h z=crcBits 8 d):=by rw[f];exact show chkStep h z=_ from rfl
    replace r:0<=d:=by rw[f];exact r
    replace s:d<4294967296:=by rw[f];exact s
    have G:=f.symm;clear f;go_wp2
    go_loop [3,5] (λ c i=>∃k:Nat,k<=8/\i=Ab Ak k/\c=Ab .u32 (crcBits k d)/\0<=crcBits k d/\crcBits k d<4294967296)
     (λ _ i=>8 - (intOf i).toNat)
    case atStart=>exact⟨0,by omega,rfl,rfl,r,s⟩
    case round =>
     obtain⟨k,H,rfl,rfl,E,F⟩:=hrel;have p:=ZbU _ E F;have t:crcBit (crcBits k d)=crcBits (k+1) d:=rfl;rw[t]at p;have y:Hid (_=_):=t;clear t;go_wp2
     ·have u:(k:Int)<8:=by assumption
      have j:(crcBits k d % 2==1)=true:=by assumption
      have x:crcBits (k+1) d=bits Du Ck (crcBits k d / 2) 3988292384:=by
       rw[<- y.o,crcBit,AE (by simpa using j)]
      go_round
      case rel=>exact⟨k+1,by omega,by go_num,by rw[x],p.1,p.2⟩
      case measure=>simp[intOf];omega
     ·have u:(k:Int)<8:=by assumption
      have j:(crcBits k d % 2==1)=false:=by assumption
      have x:crcBits (k+1) d=crcBits k d / 2:=by
       rw[<- y.o,crcBit,Aw (by simpa using j)]
      go_round
      case rel=>exact⟨k+1,by omega,by go_num,by rw[x],p.1,p.2⟩
      case measure=>simp[intOf];omega
     ·have:k=8:=by omega
      subst this;go_round
      case rel=>exact⟨m+1,by omega,by go_num,by rw[D.o,C.o]⟩
      case measure=>simp[intOf];omega
   ·have:m=g.length:=by omega
    subst this;go_wp2;go_ret;refine⟨?_,rfl⟩;obtain⟨r,s⟩:=ZaO g 4294967295 (by decide) (by decide)
    have hq:(4294967295 - chkFold 4294967295 g) % 4294967296=4294967295 - chkFold 4294967295 g:=by omega
    rw[hq]
    rfl
def b4(n:Nat):Bs:=[AW (n / 16777216),AW (n / 65536),AW (n / 256),AW n]
theorem Zbi(n:Nat):(b4 n).length=4:=rfl
theorem Znx(n:Nat)(d:n<4294967296)(w:Ap):
  At Am 216 #[Ab .u32 (n:Int)] w λ e w'=>e=Aj (Aa (some ⟨w.heap.size,0,none⟩) 4 4)/\w'=w.alloc (.cells ((b4 n).map (λ x=>Ab .u8 (x.toNat:Int))).toArray 5):=by
 go_enter func216,ntmps216;go_wp2;go_ret;refine⟨rfl,?_⟩
 have e0:(AW (n / 16777216)).toNat=n / 16777216:=by rw[Bk];omega
 have a:(AW (n / 65536)).toNat=n / 65536 % 256:=Bk;have b:(AW (n / 256)).toNat=n / 256 % 256:=Bk;have c:(AW n).toNat=n % 256:=Bk;simp[b4,e0,a,b,c]
theorem low4(n:Nat):low 4 n=b4 n:=by
 simp[low,b4,Nat.div_div_eq_div_mul]
def ints(bs:Bs):List Int:=bs.map (λ b=>(b.toNat:Int))
theorem Zon{j:Nat}(a:j<bs.length):(ints bs).getD j 0=(bs[j].toNat:Int):=by
 simp[ints,Cf,Aq a]
theorem BAt.bytes(h:BAt w v bs):Zcn w v (ints bs):=by
 obtain⟨ao,c,rfl,k,l,e⟩:=h;refine⟨ao,c,by simp[ints],by simp[ints];omega,?_⟩;by_cases d:0<bs.length
 ·obtain⟨b,off,rfl,i,f⟩:=e d;refine .inr ⟨b,off,rfl,λ j g=>?_⟩
  have a:j<bs.length:=by simpa[ints]using g
  rw[Zon a];have:=f j bs[j] (Aq a) 0 _ rfl;rw[show off+(j*encB.size+0)=off+j from(by show off+(j*1+0)=off+j;omega)]at this;exact this
 ·obtain rfl:bs=[]:=AT (by omega);exact .inl rfl
theorem ZaF.parts(h:ZaF w v a)(o:a.length<=1000000):Zd6 w v (a.map ints):=by
 obtain⟨ao,c,rfl,g,i⟩:=h;refine⟨ao,c,by simp,by simp;omega,?_⟩;by_cases f:0<a.length
 ·obtain⟨b,off,rfl,m⟩:=g f;refine .inr ⟨b,off,rfl,λ j l=>?_⟩
  have d:j<a.length:=by simpa using l
  obtain⟨u,n,k⟩:=i j a[j] b off (Aq d) rfl;refine⟨u,n,?_⟩
  have e:(a.map ints).getD j []=ints a[j]:=by simp[Cf,Aq d]
  rw[e];exact k.bytes
 ·obtain rfl:a=[]:=AT (by omega);exact .inl rfl
theorem Zj1(a:List Bs):∀h,chkFolds h (a.map ints)=chkFold h (ints a.flatten):=by
 induction a with
 | nil=>intro h;rfl
 | cons x t b =>
  intro h;show chkFolds (chkFold h (ints x)) (t.map ints)=_;rw[b];simp[chkFold,ints,Cz]
def crc(bs:Bs):Nat:=(4294967295 - chkFold 4294967295 (ints bs)).toNat
theorem Zo1(bs:Bs):4294967295 - chkFold 4294967295 (ints bs)=(crc bs:Int):=by
 have:=ZaO (ints bs) 4294967295 (by decide) (by decide);unfold crc;omega
theorem Zjq(bs:Bs):crc bs<4294967296:=by
 have:=ZaO (ints bs) 4294967295 (by decide) (by decide);unfold crc;omega
theorem Zlm(w:Ap)(h:ZaF w v a)(b:a.length<=1000000):
  At Am 48 #[v] w λ e w'=>e=Aj (Ab .u32 (crc a.flatten:Int))/\w'=w:=by
 have:=ZpI v _ w (h.parts b);rw[Zj1,Zo1]at this;exact this
theorem Zdf(w:Ap)(h:BAt w v bs):
  At Am 50 #[v] w λ e w'=>e=Aj (Ab .u32 (crc bs:Int))/\w'=w:=by
 have:=Zoj v _ w h.bytes;rw[Zo1]at this;exact this
end Go.Proofs.YtlojblelpaegpaaGreat
