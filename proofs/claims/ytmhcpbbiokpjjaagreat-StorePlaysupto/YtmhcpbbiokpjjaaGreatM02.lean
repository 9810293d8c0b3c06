/-
  Several texts, laid together.
-/
import Derived.Test.YtmhcpbbiokpjjaaGreatM01
set_option maxHeartbeats 6400000
set_option maxRecDepth 100000
namespace Go.Proofs.YtmhcpbbiokpjjaaGreat
open Go.RowKit
def val (bs:Bs):Nat:=bs.foldl (λ v b=>v*256+b.toNat) 0
theorem ZgW (a b:Bs):val (a++b)=val a*256 ^ b.length+val b:=by
 have key:∀ (b:Bs) (v:Nat),b.foldl (λ v b=>v*256+b.toNat) v=v*256 ^ b.length+val b:=by
  intro b
  induction b with
  | nil=>intro v; simp [val]
  | cons x t ih =>
   intro v
   have e:val (x::t)=x.toNat*256 ^ t.length+val t:=by
    show List.foldl _ (0*256+x.toNat) t=_;rw [ih,Nat.zero_mul,Nat.zero_add]
   rw [List.foldl_cons,ih,e,List.length_cons,Nat.pow_succ,Nat.add_mul,Nat.mul_assoc v,Nat.mul_comm 256,Nat.add_assoc]
 unfold val;rw [List.foldl_append,key]
 rfl
theorem Zf8 (a:Bs):val a<256 ^ a.length:=by
 induction a with
 | nil=>decide
 | cons x t ih =>
  have e:val (x::t)=x.toNat*256 ^ t.length+val t:=by
   have:=ZgW [x] t;rw [show [x]++t=x::t from rfl] at this;rw [this];simp [val]
  have hx:=x.toNat_lt;rw [e,List.length_cons,Nat.pow_succ,Nat.mul_comm _ 256];have:x.toNat*256 ^ t.length<=255*256 ^ t.length:=Nat.mul_le_mul_right _ (by omega);omega
theorem ZeY (l:Bs) (i:Nat) (hi:i<l.length):val (l.take (i+1))=val (l.take i)*256+l[i].toNat:=by
 rw [List.take_add_one,List.getElem?_eq_getElem hi];show val (_++[l[i]])=_;rw [ZgW];simp [val]
theorem Zhz (l:Bs) (x:UInt8):val (l++[x])=val l*256+x.toNat:=by
 rw [ZgW];simp [val]
theorem Zm3 {l:Bs} (h:l.length<=8):val l<18446744073709551616:=by
 have h1:=Zf8 l;have h2:=Nat.pow_le_pow_right (n:=256) (by decide) h
 have e:256 ^ 8=18446744073709551616:=by decide
 omega
theorem val_1 {l:Bs} (h:l.length<=1):val l<=255:=by
 have h1:=Zf8 l;have h2:=Nat.pow_le_pow_right (n:=256) (by decide) h
 have e:256 ^ 1=256:=by decide
 omega
def low:Nat->Nat->Bs
 | 0,_=>[]
 | k+1,n=>low k (n / 256)++[UInt8.ofNat n]
theorem Zav:∀ k n,(low k n).length=k
 | 0,_=>rfl
 | k+1,n=>by simp [low,Zav k]
theorem ZgM:∀ k n,val (low k n)=n % 256 ^ k
 | 0,n=>by simp [low,val,Nat.mod_one]
 | k+1,n=>by
  rw [low,Zhz,ZgM k,Nat.pow_succ,Nat.mul_comm (256 ^ k),Nat.mod_mul,UInt8.toNat_ofNat'];omega
theorem Zgo (l:Bs):low l.length (val l)=l:=by
 have key:∀ n (l:Bs),l.length=n->low n (val l)=l:=by
  intro n
  induction n with
  | zero=>intro l h; rw [List.eq_nil_of_length_eq_zero h]; rfl
  | succ n ih =>
   intro l h
   have hne:l≠[]:=by intro e; rw [e] at h; simp at h
   obtain ⟨t,x,rfl⟩:∃ t x,l=t++[x]:=⟨l.dropLast,l.getLast hne,(List.dropLast_concat_getLast hne).symm⟩
   have hx:=x.toNat_lt;rw [Zhz,low,show (val t*256+x.toNat) / 256=val t by omega,ih t (by simpa using h)]
   congr 2
   apply UInt8.toNat_inj.1;rw [UInt8.toNat_ofNat'];omega
 exact key _ l rfl
def b8 (x:UInt64):Bs:=low 8 x.toNat
theorem ZbJ (x:UInt64):(b8 x).length=8:=Zav _ _
theorem ZhE (x:UInt64):val (b8 x)=x.toNat:=by
 rw [b8,ZgM];have:=x.toNat_lt
 exact Nat.mod_eq_of_lt (by have e : 256 ^ 8 = 2 ^ 64 := by decide
                            omega)
theorem Zbe {l:Bs} (h:l.length<=8):(UInt64.ofNat (val l)).toNat=val l:=by
 have:=Zm3 h;rw [UInt64.toNat_ofNat'];omega
theorem Zml {l:Bs} (h:l.length=8):b8 (UInt64.ofNat (val l))=l:=by
 rw [b8,Zbe (by omega)];have:=Zgo l;rw [h] at this;exact this
theorem Zdd (x:UInt64):UInt64.ofNat (val (b8 x))=x:=by
 rw [ZhE];simp
theorem ZaG (n k:Nat) (hn:n<18446744073709551616) (hk:k<=8) (w:World) :
  Calls Tryz.prog 96 #[.int .u64 (n:Int),.int .i64 (k:Int)] w λ e w'=>e=.returned (tx (low k n))/\Below w.heap.size w w':=by
 go_enter Tryz.func96,Tryz.ntmps96;go_wp2_with fail;go_loopg [0,5,6] k (λ m nv sv iv wr=>∃ (i p:Nat) (s:ByteArray),iv=.int .i64 i/\i+m=k/\nv=.int .u64 (p:Int)/\sv=.string s/\p<18446744073709551616/\Hid (∃ t:Bs,s=⟨t.toArray⟩/\t.length=i/\low k n=low m p++t/\Below w.heap.size w wr))
 case atStart=>exact ⟨0,n,_,rfl,by omega,rfl,rfl,hn,[],rfl,rfl,by simp,Below.refl _ _⟩
 case round =>
  obtain ⟨i,p,s,rfl,hi,rfl,rfl,hp,HR⟩:=hrel;by_cases hin:i<k
  ·have id:(i:Int)<(k:Int):=by omega
   have hcv:=ZaY (ZeP wr [UInt8.ofNat p] 5 (0,0) #[.int .u8 ((p:Int) % 256)] (by simp [UInt8.toNat_ofNat']) 1 rfl (by simp))
   obtain ⟨z,hz⟩:∃ z:ByteArray,z=⟨[UInt8.ofNat p].toArray⟩:=⟨_,rfl⟩
   rw [show tx [UInt8.ofNat p]=Value.string z by rw [hz]] at hcv
   have hsz:¬ (9223372036854775807<z.size+s.size):=by
    obtain ⟨t,e1,e2,_⟩:=HR.out;rw [hz,e1];show ¬ (9223372036854775807<1+t.toArray.size);simp only [List.size_toArray];omega
   have HZ:Hid (z=⟨[UInt8.ofNat p].toArray⟩):=hz;clear hz;go_wp2;go_roundg (gk - 1)
   case measure=>omega
   case rel =>
    obtain ⟨t,e1,e2,e3,e4⟩:=HR.out;refine ⟨i+1,p / 256,z++s,by go_num,by omega,by go_num,rfl,by omega,UInt8.ofNat p::t,?_,by simp [e2],?_,e4.trans ((bz1 wr _).mono e4.size)⟩
    ·rw [HZ.out,e1]
     rfl
    ·obtain ⟨g,rfl⟩:∃ g,gk=g+1:=⟨gk - 1,by omega⟩
     rw [e3,Nat.add_sub_cancel];simp [low]
  ·obtain rfl:i=k:=by omega
   obtain ⟨t,e1,e2,e3,e4⟩:=HR.out
   have hg:gk=0:=by omega
   rw [hg] at e3
   have e5:low i n=t:=by rw [e3]; rfl
   have HH:Hid (s=⟨(low i n).toArray⟩/\Below w.heap.size w wr):=⟨by rw [e5]; exact e1,e4⟩
   clear e1 e2 e3 e4 e5 hg;go_wp2;go_ret;exact ⟨by rw [HH.out.1]; rfl,HH.out.2⟩
theorem ZaH (s:ByteArray) (hs:s.size<=8) (w:World) :
  Calls Tryz.prog 102 #[.string s] w λ e w'=>e=.returned (.int .u64 (val s.data.toList:Int))/\w'=w:=by
 obtain ⟨L,hL⟩:∃ L,s.size=L:=⟨_,rfl⟩
 have hLl:s.data.toList.length=L:=by rw [<- hL]; rfl
 go_enter Tryz.func102,Tryz.ntmps102;go_wp2_with fail;go_loopg [3,4] L (λ m vv iv wr=>wr=w/\∃ (i v:Nat),iv=.int .i64 i/\i+m=L/\vv=.int .u64 (v:Int)/\v<18446744073709551616/\Hid (val (s.data.toList.take i)=v))
 case atStart=>exact ⟨rfl,0,0,rfl,by omega,rfl,by omega,rfl⟩
 case round =>
  obtain ⟨hwr,i,v,rfl,hi,rfl,hv,HR⟩:=hrel;subst hwr;by_cases hin:i<L
  ·have id:(i:Int)<(L:Int):=by omega
   have hil:i<s.data.toList.length:=by omega
   have hvt:=ZeY s.data.toList i hil;have hlt:=Zf8 (s.data.toList.take i);rw [HR.out] at hvt hlt
   have hv2:v<72057594037927936:=by
    have:(s.data.toList.take i).length<=7:=by rw [List.length_take]; omega
    have:=Nat.pow_le_pow_right (n:=256) (by decide) this
    have e:256 ^ 7=72057594037927936:=by decide
    omega
   have hi2:i<s.size:=by omega
   have hb:s.data.toList[i]=s[i]:=by simp [ByteArray.getElem_eq_getElem_data]
   rw [hb] at hvt
   obtain ⟨y,hy⟩:∃ y,s[i]=y:=⟨_,rfl⟩
   have hyl:=y.toNat_lt;rw [hy] at hvt;have HV:Hid (val (s.data.toList.take (i+1))=v*256+y.toNat):=hvt;clear hvt hlt hb hil;go_wp2;go_roundg (gk - 1)
   case measure=>omega
   case rel=>exact ⟨rfl,i+1,v*256+y.toNat,by go_num,by omega,by go_num,by omega,HV.out⟩
  ·obtain rfl:i=L:=by omega
   have e:s.data.toList.take i=s.data.toList:=List.take_of_length_le (by omega)
   have HH:Hid (val s.data.toList=v):=by rw [<- e]; exact HR.out
   clear e;go_wp2;go_ret;exact ⟨by rw [HH.out]; rfl,rfl⟩
abbrev U (n:Int):Int:=IntKind.u64.wrap n
abbrev X64 (a b:Int):Int:=bits BinOp.xor IntKind.u64 a b
def idStep (a b:Int):Int:=U (X64 a (U b)*1099511628211)
theorem ZcI (a b:Int) (w:World) :
  Calls Tryz.prog 219 #[.int .u64 a,.int .u8 b] w λ e w'=>e=.returned (.int .u64 (idStep a b))/\w'=w:=by
 go_enter Tryz.func219,Tryz.ntmps219;go_wp2;go_ret;exact ⟨rfl,rfl⟩
def ZcG (w:World) (v:Value) (zs:List Int):Prop :=
 ∃ a cap,v=.slice a zs.length cap/\zs.length<=9223372036854775807/\(zs=[]∨∃ b off,a=some ⟨b,off,none⟩/\∀ j,j<zs.length->w.cell? ⟨b,off+j,none⟩=some (.int .u8 (zs.getD j 0)))
def ZeW (w:World) (v:Value) (zss:List (List Int)):Prop :=
 ∃ a cap,v=.slice a zss.length cap/\zss.length<=9223372036854775807/\(zss=[]∨∃ b off,a=some ⟨b,off,none⟩/\∀ j,j<zss.length->∃ u,w.cell? ⟨b,off+j,none⟩=some u/\ZcG w u (zss.getD j []))
def idFold (h:Int) (zs:List Int):Int:=zs.foldl idStep h
theorem ZdI (h:Int) (zs:List Int) (k:Nat) (hk:k<zs.length):idFold h (zs.take (k+1))=idStep (idFold h (zs.take k)) zs[k]:=by
 unfold idFold;rw [List.take_add_one,List.foldl_append];simp [List.getElem?_eq_getElem hk]
def idFolds (h:Int) (zss:List (List Int)):Int:=zss.foldl idFold h
theorem Zfl (h:Int) (zss:List (List Int)) (k:Nat) (hk:k<zss.length):idFolds h (zss.take (k+1))=idFold (idFolds h (zss.take k)) (zss.getD k []):=by
 unfold idFolds;rw [List.take_add_one,List.foldl_append];simp [List.getElem?_eq_getElem hk,List.getD]
theorem ZmJ (kind:Int) (b off cap:Nat) (zss:List (List Int)) (w:World) (hn:zss.length<=9223372036854775807)
  (hc:∀ j,j<zss.length->∃ u,w.cell? ⟨b,off+j,none⟩=some u/\ZcG w u (zss.getD j [])) :
  Calls Tryz.prog 158 #[.int .i64 kind,.slice (some ⟨b,off,none⟩) zss.length cap] w λ e w'=>e=.returned (.int .u64 (idFolds (idStep 14695981039346656037 (kind % 256)) zss))/\w'=w:=by
 go_enter Tryz.func158,Tryz.ntmps158;go_wp2_with (go_at_call 219; refine (ZcI _ _ _).mono ?_; rintro e w' ⟨rfl,rfl⟩)
 go_loop [5,15] (λ h i=>∃ k:Nat,k<=zss.length/\i=.int .i64 k/\h=.int .u64 (idFolds (idStep 14695981039346656037 (kind % 256)) (zss.take k)))
  (λ _ i=>zss.length - (intOf i).toNat)
 case atStart=>exact ⟨0,Nat.zero_le _,rfl,rfl⟩
 case round =>
  obtain ⟨k,hk,rfl,rfl⟩:=hrel;by_cases hlt:k<zss.length
  ·obtain ⟨u,hcell,a,ca,rfl,hl,hb⟩:=hc k hlt;have hstep:=Zfl (idStep 14695981039346656037 (kind % 256)) zss k hlt;generalize zss.getD k []=zs at hl hb hcell hstep;generalize idFolds (idStep 14695981039346656037 (kind % 256)) (zss.take k)=h at hstep ⊢;have HS:Hid (_=_):=hstep;clear hstep
   rcases hb with rfl | ⟨b',off',rfl,hc'⟩
   ·go_wp2;refine wp_loop_rounds 1 ?_;rw [rounds_succ];go_wp2;go_round
    case rel=>exact ⟨k+1,by omega,by go_num,by rw [HS.out]; rfl⟩
    case measure=>simp [intOf]; omega
   ·go_wp2
    go_loop [5,21] (λ g i=>∃ m:Nat,m<=zs.length/\i=.int .i64 m/\g=.int .u64 (idFold h (zs.take m)))
     (λ _ i=>zs.length - (intOf i).toNat)
    case atStart=>exact ⟨0,Nat.zero_le _,rfl,rfl⟩
    case round =>
     obtain ⟨m,hm,rfl,rfl⟩:=hrel
     have hcm:m<zs.length->w'.cell? ⟨b',off'+m,none⟩=some (.int .u8 (zs.getD m 0)):=λ hm'=>hc' m hm'
     go_wp2_with (go_at_call 219; refine (ZcI _ _ _).mono ?_; rintro e w' ⟨rfl,rfl⟩)
     ·have hlt2:m<zs.length:=by assumption
      go_round
      case rel=>exact ⟨m+1,by omega,by go_num,by rw [ZdI h zs m hlt2]⟩
      case measure=>simp [intOf]; omega
     ·have:m=zs.length:=by omega
      subst this;go_round
      case rel=>exact ⟨k+1,by omega,by go_num,by rw [HS.out]; simp⟩
      case measure=>simp [intOf]; omega
  ·have:k=zss.length:=by omega
   subst this;go_wp2;go_ret;exact ⟨by simp,rfl⟩
theorem Znr (kind:Int) (v:Value) (zss:List (List Int)) (w:World) (h:ZeW w v zss) :
  Calls Tryz.prog 158 #[.int .i64 kind,v] w λ e w'=>e=.returned (.int .u64 (idFolds (idStep 14695981039346656037 (kind % 256)) zss))/\w'=w:=by
 obtain ⟨a,cap,rfl,hn,h⟩:=h
 rcases h with rfl | ⟨b,off,rfl,hc⟩
 ·go_enter Tryz.func158,Tryz.ntmps158;go_wp2_with (go_at_call 219; refine (ZcI _ _ _).mono ?_; rintro e w' ⟨rfl,rfl⟩);refine wp_loop_rounds 1 ?_;rw [rounds_succ];go_wp2;go_ret;exact ⟨by simp [idFolds],rfl⟩
 ·exact ZmJ kind b off cap zss w hn hc
theorem ZhS (n:Int):bits .and .i64 n 255=n % 256:=by
 have h255:(BitVec.ofInt 64 255).toNat=2 ^ 8 - 1:=by decide
 have key:(BitVec.ofInt 64 n &&& BitVec.ofInt 64 255).toNat=(n % ((2 ^ 64:Nat):Int)).toNat % 2 ^ 8:=by
  rw [BitVec.toNat_and,BitVec.toNat_ofInt,h255,Nat.and_two_pow_sub_one_eq_mod]
 show IntKind.i64.wrap ((BitVec.ofInt 64 n &&& BitVec.ofInt 64 255).toNat:Nat)=n % 256;rw [key,IntKind.wrap_i64];omega
theorem Zej (a k:Int):idStep a (k % 256)=IntKind.u64.wrap (bits BinOp.xor IntKind.u64 a (k % 256)*1099511628211):=by
 have h:U (k % 256)=k % 256:=by show IntKind.u64.wrap _=_; rw [IntKind.wrap_u64]; omega
 rw [idStep,h]
theorem Zm5 (kind:Int) (v:Value) (zs:List Int) (w:World) (h:ZcG w v zs) :
  Calls Tryz.prog 174 #[.int .i64 kind,v] w λ e w'=>e=.returned (.int .u64 (idFold (idStep 14695981039346656037 (kind % 256)) zs))/\w'=w:=by
 obtain ⟨a,cap,rfl,hn,h⟩:=h;have he:=ZhS kind
 rcases h with rfl | ⟨b,off,rfl,hc⟩
 ·go_enter Tryz.func174,Tryz.ntmps174;go_wp2;refine wp_loop_rounds 1 ?_;rw [rounds_succ];go_wp2;go_ret;refine ⟨?_,rfl⟩;rw [idFold,List.foldl_nil,Zej]
  rfl
 ·go_enter Tryz.func174,Tryz.ntmps174;go_wp2
  go_loop [5,6] (λ h i=>∃ k:Nat,k<=zs.length/\i=.int .i64 k/\h=.int .u64 (idFold (idStep 14695981039346656037 (kind % 256)) (zs.take k)))
   (λ _ i=>zs.length - (intOf i).toNat)
  case atStart=>exact ⟨0,Nat.zero_le _,rfl,by rw [List.take_zero,idFold,List.foldl_nil,Zej]⟩
  case round =>
   obtain ⟨m,hm,rfl,rfl⟩:=hrel
   have hcm:m<zs.length->w.cell? ⟨b,off+m,none⟩=some (.int .u8 (zs.getD m 0)):=λ hm'=>hc m hm'
   go_wp2
   ·have hlt2:m<zs.length:=by assumption
    go_round
    case rel=>exact ⟨m+1,by omega,by go_num,by rw [ZdI _ zs m hlt2]; rfl⟩
    case measure=>simp [intOf]; omega
   ·have:m=zs.length:=by omega
    subst this;go_ret;exact ⟨by simp,rfl⟩
end Go.Proofs.YtmhcpbbiokpjjaaGreat
