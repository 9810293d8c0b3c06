/-
  Several texts, laid together.
-/
import Derived.Shelf.LaysM
import Derived.Shelf.Strconv.Clone
import Derived.Shelf.Sort.Plain
import Derived.Shelf.Slices.In.SortNone
import Derived.Shelf.SlIter.Sorted
import Derived.Test.YtjlokpjflgbgdaaGreatMC04
set_option maxHeartbeats 6400000
set_option maxRecDepth 100000
namespace Go.Proofs.YtjlokpjflgbgdaaGreat
open Go.Shelf
def laySClone_ren:Go.Shelf.Ren:=⟨λ | 316=>235 | n=>n,λ | 9=>9 | 3=>3 | 4=>4 | 37=>39 | 0=>0 | 127=>374 | 5=>5 | n=>n,λ | n=>n⟩
theorem laySClone:Go.Proofs.LaysM.n316 Tryz.prog laySClone_ren:={
 mixed:=by kernel_rfl
 f316:=Tryz.func235.trans (congrArg some (by kernel_rfl))
 t0:=Tryz.underlying0
 a0:=Tryz.isAgg0
 z0:=Tryz.sizeOf0
 v0:=Tryz.zeroValue0
 t3:=Tryz.underlying3
 a3:=Tryz.isAgg3
 z3:=Tryz.sizeOf3
 v3:=Tryz.zeroValue3
 t4:=Tryz.underlying4
 a4:=Tryz.isAgg4
 z4:=Tryz.sizeOf4
 v4:=Tryz.zeroValue4
 t9:=Tryz.underlying9
 a9:=Tryz.isAgg9
 z9:=Tryz.sizeOf9
 v9:=Tryz.zeroValue9
 t37:=Tryz.underlying39
 a37:=Tryz.isAgg39
 z37:=Tryz.sizeOf39
 v37:=Tryz.zeroValue39
 t127:=Tryz.underlying374
 a127:=Tryz.isAgg374
 z127:=Tryz.sizeOf374
 v127:=Tryz.zeroValue374
 t5:=Tryz.underlying5
 a5:=Tryz.isAgg5
 z5:=Tryz.sizeOf5
 v5:=Tryz.zeroValue5
 i0:=by kernel_rfl
 i3:=by kernel_rfl
 i4:=by kernel_rfl
 i5:=by kernel_rfl
 i9:=by kernel_rfl
 i37:=by kernel_rfl
 i127:=by kernel_rfl }
def klaySort_ren:Go.Shelf.Ren:=⟨λ | 190=>189 | 125=>159 | 258=>234 | 128=>213 | 129=>214 | 302=>262 | 303=>263 | 304=>264 | 305=>265 | 306=>266 | 307=>267 | 308=>268 | 309=>269 | 310=>270 | 333=>283 | 329=>250 | 330=>251 | 334=>284 | 335=>285 | 336=>203 | 344=>291 | n=>n,λ | 31=>40 | 9=>9 | 3=>3 | 46=>100 | 0=>0 | 51=>198 | 53=>55 | 4=>4 | 183=>323 | 182=>322 | 131=>272 | 5=>5 | 218=>358 | 222=>361 | 228=>380 | 229=>381 | n=>n,λ | n=>n⟩
theorem klaySort:Go.Proofs.Lays.n190 Tryz.prog klaySort_ren:={
 mixed:=by kernel_rfl
 f125:=Tryz.func159.trans (congrArg some (by kernel_rfl))
 f128:=Tryz.func213.trans (congrArg some (by kernel_rfl))
 f129:=Tryz.func214.trans (congrArg some (by kernel_rfl))
 f190:=Tryz.func189.trans (congrArg some (by kernel_rfl))
 f258:=Tryz.func234.trans (congrArg some (by kernel_rfl))
 f302:=Tryz.func262.trans (congrArg some (by kernel_rfl))
 f303:=Tryz.func263.trans (congrArg some (by kernel_rfl))
 f304:=Tryz.func264.trans (congrArg some (by kernel_rfl))
 f305:=Tryz.func265.trans (congrArg some (by kernel_rfl))
 f306:=Tryz.func266.trans (congrArg some (by kernel_rfl))
 f307:=Tryz.func267.trans (congrArg some (by kernel_rfl))
 f308:=Tryz.func268.trans (congrArg some (by kernel_rfl))
 f309:=Tryz.func269.trans (congrArg some (by kernel_rfl))
 f310:=Tryz.func270.trans (congrArg some (by kernel_rfl))
 f329:=Tryz.func250.trans (congrArg some (by kernel_rfl))
 f330:=Tryz.func251.trans (congrArg some (by kernel_rfl))
 f333:=Tryz.func283.trans (congrArg some (by kernel_rfl))
 f334:=Tryz.func284.trans (congrArg some (by kernel_rfl))
 f335:=Tryz.func285.trans (congrArg some (by kernel_rfl))
 f336:=Tryz.func203.trans (congrArg some (by kernel_rfl))
 f344:=Tryz.func291.trans (congrArg some (by kernel_rfl))
 t0:=Tryz.underlying0
 a0:=Tryz.isAgg0
 z0:=Tryz.sizeOf0
 v0:=Tryz.zeroValue0
 t3:=Tryz.underlying3
 a3:=Tryz.isAgg3
 z3:=Tryz.sizeOf3
 v3:=Tryz.zeroValue3
 t4:=Tryz.underlying4
 a4:=Tryz.isAgg4
 z4:=Tryz.sizeOf4
 v4:=Tryz.zeroValue4
 t5:=Tryz.underlying5
 a5:=Tryz.isAgg5
 z5:=Tryz.sizeOf5
 v5:=Tryz.zeroValue5
 t9:=Tryz.underlying9
 a9:=Tryz.isAgg9
 z9:=Tryz.sizeOf9
 v9:=Tryz.zeroValue9
 t31:=Tryz.underlying40
 a31:=Tryz.isAgg40
 z31:=Tryz.sizeOf40
 v31:=Tryz.zeroValue40
 t46:=Tryz.underlying100
 a46:=Tryz.isAgg100
 z46:=Tryz.sizeOf100
 v46:=Tryz.zeroValue100
 t51:=Tryz.underlying198
 a51:=Tryz.isAgg198
 z51:=Tryz.sizeOf198
 v51:=Tryz.zeroValue198
 t53:=Tryz.underlying55
 a53:=Tryz.isAgg55
 z53:=Tryz.sizeOf55
 v53:=Tryz.zeroValue55
 t131:=Tryz.underlying272
 a131:=Tryz.isAgg272
 z131:=Tryz.sizeOf272
 v131:=Tryz.zeroValue272
 t182:=Tryz.underlying322
 a182:=Tryz.isAgg322
 z182:=Tryz.sizeOf322
 v182:=Tryz.zeroValue322
 t183:=Tryz.underlying323
 a183:=Tryz.isAgg323
 z183:=Tryz.sizeOf323
 v183:=Tryz.zeroValue323
 t218:=Tryz.underlying358
 a218:=Tryz.isAgg358
 z218:=Tryz.sizeOf358
 v218:=Tryz.zeroValue358
 t222:=Tryz.underlying361
 a222:=Tryz.isAgg361
 z222:=Tryz.sizeOf361
 v222:=Tryz.zeroValue361
 t228:=Tryz.underlying380
 a228:=Tryz.isAgg380
 z228:=Tryz.sizeOf380
 v228:=Tryz.zeroValue380
 t229:=Tryz.underlying381
 a229:=Tryz.isAgg381
 z229:=Tryz.sizeOf381
 v229:=Tryz.zeroValue381 }
end Go.Proofs.YtjlokpjflgbgdaaGreat

namespace Go.Proofs.YtjlokpjflgbgdaaGreat
open Go.RowKit
theorem bsize (s:ByteArray):s.size=s.data.toList.length:=Lib.size_eq s
theorem may_any (c:Int) (w:World) :
  Calls Tryz.prog 187 #[.int .u8 c] w λ e w'=>e=.returned (.bool (okI c))/\w'=w:=by
 go_enter Tryz.func187,Tryz.ntmps187;go_wp2
 all_goals go_ret
 all_goals refine ⟨congrArg (λ b=>Ending.returned (Value.bool b)) ?_,rfl⟩
 all_goals (rw [Bool.eq_iff_iff]; simp [okI]; try omega)
theorem pindexByte_any (s:ByteArray) (c:Int) (w:World) :
  Calls Tryz.prog 292 #[.string s,.int .u8 c] w λ e w'=>e=.returned (.int .i64 (Lib.indexByte s.data.toList c.toNat.toUInt8))/\w'=w:=by
 go_enter Tryz.func292,Tryz.ntmps292;go_wp2;rw [run_callFunc_extern Tryz.func296 (by kernel_rfl) (by kernel_rfl) (by kernel_rfl) (e:=Extern.BytealgIndexByte.indexByte) (by kernel_rfl),Lib.run_indexByteString];simp only [Result.andThen];rw [Oper.upon_value];go_wp2;go_ret;exact ⟨rfl,rfl⟩
theorem index_self {s:ByteArray} (h:([47]==s.toList)=true):Lib.indexByte s.data.toList 47=0:=by
 have e:[47]=s.toList:=by simpa using h
 rw [<- ByteArray.toList_eq,<- e]
 rfl
theorem index_slash (s:ByteArray) (w:World) :
  Calls Tryz.prog 286 #[.string s,.string ⟨#[47]⟩] w λ e w'=>e=.returned (.int .i64 (Lib.indexByte s.data.toList 47))/\w'=w:=by
 go_enter Tryz.func286,Tryz.ntmps286;go_wp2_with fail
 ·have h:([47]==s.toList)=true:=by assumption
  go_ret;exact ⟨by rw [index_self h]; rfl,rfl⟩
 ·refine (pindexByte_any s 47 _).mono ?_;rintro e w' ⟨rfl,rfl⟩;go_wp2;go_ret;exact ⟨rfl,rfl⟩
theorem ext_take (s:ByteArray) (o:Nat):s.extract 0 o=⟨(s.data.toList.take o).toArray⟩:=by
 have:=ByteArray.extract_mk s.data.toList 0 o;simpa using this
theorem ext_drop (s:ByteArray) (o:Nat):s.extract o s.size=⟨(s.data.toList.drop o).toArray⟩:=by
 have:=ByteArray.extract_mk s.data.toList o s.size;rw [List.take_of_length_le (by rw [List.length_drop,bsize]; omega)] at this;simpa using this
theorem cut_le:∀ l:Bs,(cutB l).2.1.length<=l.length
 | []=>by simp [cutB]
 | b::t=>by
  have:=cut_le t;by_cases h:b=47
  ·simp [cutB,h]
  ·simp only [cutB,h,if_false,List.length_cons]; omega
theorem cut_lite (s:ByteArray) (hm:s.size<=9223372036854775807) (w:World) :
  Calls Tryz.prog 271 #[.string s,.string ⟨#[47]⟩] w λ e w'=>e=.returned (.tuple #[.string ⟨(cutB s.data.toList).1.toArray⟩,.string ⟨(cutB s.data.toList).2.1.toArray⟩,.bool (cutB s.data.toList).2.2])/\∃ m,w'=w.drewN m:=by
 have hge:=Lib.indexByte_ge s.data.toList 47
 obtain ⟨o,ho⟩:∃ o,Lib.indexByte s.data.toList 47=o:=⟨_,rfl⟩
 have hc:=index_slash s;rw [ho] at hc hge;by_cases h0:o = -1
 ·have q:=cut_none _ (ho.trans h0);rw [q];subst h0;go_enter Tryz.func271,Tryz.ntmps271;go_wp2_with fail;refine (hc _).mono ?_;rintro e w' ⟨rfl,rfl⟩;go_wp2;refine bodyPost_ret (v:=.tuple #[.string s,.string ⟨#[]⟩,.bool false]) ?_ rfl ⟨rfl,0,rfl⟩;simp [results,Tryz.f271]
 ·obtain ⟨k,rfl⟩:∃ k:Nat,o=k:=⟨o.toNat,by omega⟩
  obtain ⟨hk,q⟩:=cut_some _ k ho;rw [q,<- ext_take,<- ext_drop];rw [<- bsize] at hk;have Q:Hid (cutB s.data.toList=_):=q;clear hge h0 q ho;go_enter Tryz.func271,Tryz.ntmps271;go_wp2_with fail;refine (hc _).mono ?_;rintro e w' ⟨rfl,rfl⟩;go_wp2_with fail;go_quiet (fail);go_wp2;refine bodyPost_ret (v:=.tuple #[.string (s.extract 0 k),.string (s.extract (k+1) s.size),.bool true]) ?_ rfl ⟨rfl,_,rfl⟩;simp [results,Tryz.f271]
theorem cut_slash (s:ByteArray) (hm:s.size<=9223372036854775807) (w:World) :
  Calls Tryz.prog 236 #[.string s,.string ⟨#[47]⟩] w λ e w'=>e=.returned (.tuple #[.string ⟨(cutB s.data.toList).1.toArray⟩,.string ⟨(cutB s.data.toList).2.1.toArray⟩,.bool (cutB s.data.toList).2.2])/\∃ m,w'=w.drewN m:=by
 obtain ⟨a,ha⟩:∃ a,(cutB s.data.toList).1=a:=⟨_,rfl⟩
 obtain ⟨b,hb⟩:∃ b,(cutB s.data.toList).2.1=b:=⟨_,rfl⟩
 obtain ⟨f,hf⟩:∃ f,(cutB s.data.toList).2.2=f:=⟨_,rfl⟩
 have hc:=cut_lite s hm w;rw [ha,hb,hf] at hc ⊢;go_enter Tryz.func236,Tryz.ntmps236;go_wp2_with fail;refine hc.mono ?_;rintro e w' ⟨rfl,m,rfl⟩;go_wp2;refine bodyPost_ret (v:=.tuple #[.string ⟨a.toArray⟩,.string ⟨b.toArray⟩,.bool f]) ?_ rfl ⟨rfl,m,rfl⟩;simp [results,Tryz.f236]
theorem name_bad {s:ByteArray} {i:Nat} (h:i<s.data.toList.length) (hf:okI ((s.data.toList[i]).toNat:Int)=false):isName s.data.toList=false:=by
 have:s.data.toList.all okB=false:=by
  rw [List.all_eq_false];exact ⟨_,List.getElem_mem h,by simpa [okB] using hf⟩
 simp [isName,this]
theorem name_step {l:Bs} {i:Nat} (h:i<l.length) (ha:(l.take i).all okB=true) (hf:okI ((l[i]).toNat:Int)=true):Hid ((l.take (i+1)).all okB=true):=by
 show _=_;rw [List.take_succ_eq_append_getElem h,List.all_append,ha];simpa [okB] using hf
theorem name_good {l:Bs} (h1:1<=l.length) (h2:l.length<=16) (ha:(l.take l.length).all okB=true):isName l=true:=by
 rw [List.take_length] at ha;simp [isName,ha,h1,h2]
theorem name_any (s:ByteArray) (w:World) :
  Calls Tryz.prog 134 #[.string s] w λ e w'=>e=.returned (.int .i64 (err (isName s.data.toList)))/\w'=w:=by
 have hl:=bsize s;by_cases h1:1<=s.size
 ·by_cases h2:s.size<=16
  ·have E:Hid (s.size=s.data.toList.length):=hl;clear hl;go_enter Tryz.func134,Tryz.ntmps134;go_wp2_with fail;go_loopg [14] s.size (λ k v wr=>∃ i:Nat,v=.int .i64 i/\i+k=s.size/\wr=w/\Hid ((s.data.toList.take i).all okB=true))
   case atStart=>exact ⟨0,rfl,by omega,rfl,by simp [Hid]⟩
   case round =>
    obtain ⟨i,rfl,hi,rfl,HA⟩:=hrel;by_cases hin:i<s.size
    ·go_wp2_with fail;refine (may_any _ _).mono ?_;rintro e w' ⟨rfl,rfl⟩
     obtain ⟨f,hf⟩:∃ f,okI (s[i].toNat:Int)=f:=⟨_,rfl⟩
     have F:Hid (okI (s[i].toNat:Int)=f):=hf;rw [hf];clear hf;cases f
     ·go_wp2;go_ret;exact ⟨by rw [name_bad (E.out ▸ hin) F.out]; rfl,rfl⟩
     ·go_wp2;go_roundg (gk - 1)
      case measure=>omega
      case rel=>exact ⟨i+1,by go_num,by omega,rfl,name_step (E.out ▸ hin) HA.out F.out⟩
    ·obtain rfl:i=s.size:=by omega
     go_wp2;go_ret;exact ⟨by rw [name_good (by rw [<- E.out]; exact h1) (by rw [<- E.out]; exact h2) (by rw [E.out] at HA; exact HA.out)]; rfl,rfl⟩
  ·have:isName s.data.toList=false:=by simp [isName]; omega
   rw [this];clear this hl;go_enter Tryz.func134,Tryz.ntmps134;go_wp2;go_ret;exact ⟨rfl,rfl⟩
 ·have:isName s.data.toList=false:=by simp [isName]; omega
  rw [this];clear this hl;go_enter Tryz.func134,Tryz.ntmps134;go_wp2;go_ret;exact ⟨rfl,rfl⟩
theorem name_at (l:Bs) (g:Bool) (hg:isName l=g) (w:World) :
  Calls Tryz.prog 134 #[.string ⟨l.toArray⟩] w λ e w'=>e=.returned (.int .i64 (err g))/\w'=w:=by
 subst hg;exact name_any ⟨l.toArray⟩ w
theorem pcheck_any (s:ByteArray) (hm:s.size<=9223372036854775807) (w:World) :
  Calls Tryz.prog 198 #[.string s] w λ e w'=>e=.returned (.int .i64 (err (isPath s.data.toList)))/\∃ m,w'=w.drewN m:=by
 go_enter Tryz.func198,Tryz.ntmps198;go_wp2_with fail;go_loopg [0,7] 6 (λ k p c wr=>∃ (i:Nat) (u:ByteArray) (m:Nat),p=.string u/\c=.int .i64 i/\i+k=6/\u.size<=9223372036854775807/\wr=w.drewN m/\Hid (chk k u.data.toList=isPath s.data.toList))
 case atStart=>exact ⟨0,s,0,rfl,rfl,by omega,hm,rfl,rfl⟩
 case round =>
  obtain ⟨i,u,m,rfl,rfl,hi,hu,rfl,HC⟩:=hrel;by_cases hin:i<6
  ·obtain ⟨k,rfl⟩:∃ k,gk=k+1:=⟨gk - 1,by omega⟩
   obtain ⟨a,ha⟩:∃ a,(cutB u.data.toList).1=a:=⟨_,rfl⟩
   obtain ⟨b,hb⟩:∃ b,(cutB u.data.toList).2.1=b:=⟨_,rfl⟩
   obtain ⟨f,hf⟩:∃ f,(cutB u.data.toList).2.2=f:=⟨_,rfl⟩
   have HC2:=HC.out;rw [chk,ha,hb,hf] at HC2;have HD:Hid _:=HC2
   have hbl:b.length<=9223372036854775807:=by rw [<- hb]; have:=cut_le u.data.toList; rw [<- bsize] at this; omega
   have hc:=cut_slash u hu;rw [ha,hb,hf] at hc;clear ha hb hf HC2 HC;go_wp2_with fail;refine (hc _).mono ?_;rintro e w' ⟨rfl,m1,rfl⟩;go_wp2_with fail
   obtain ⟨g,hg⟩:∃ g,isName a=g:=⟨_,rfl⟩
   have HG:Hid (isName a=g):=hg;refine (name_at a g hg _).mono ?_;rintro e w' ⟨rfl,rfl⟩;clear hg;cases g
   ·rw [show err false=2 from rfl];go_wp2;go_ret;exact ⟨by rw [<- HD.out,HG.out]; rfl,_,rfl⟩
   ·rw [show err true=0 from rfl];cases f
    ·go_wp2;go_ret;exact ⟨by rw [<- HD.out,HG.out]; rfl,_,rfl⟩
    ·go_wp2;go_roundg k
     case measure=>omega
     case rel=>exact ⟨i+1,⟨b.toArray⟩,_,rfl,by go_num,by omega,by rw [bsize]; exact hbl,rfl,by have:=HD.out; rw [HG.out] at this; exact this⟩
  ·obtain rfl:i=6:=by omega
   obtain rfl:gk=0:=by omega
   go_wp2;go_ret;exact ⟨by rw [<- HC.out]; rfl,m,rfl⟩
theorem pcheck_at (s:ByteArray) (hm:s.size<=9223372036854775807) (g:Bool) (hg:isPath s.data.toList=g) (w:World) :
  Calls Tryz.prog 198 #[.string s] w λ e w'=>e=.returned (.int .i64 (err g))/\∃ m,w'=w.drewN m:=by
 subst hg;exact pcheck_any s hm w
end Go.Proofs.YtjlokpjflgbgdaaGreat

namespace Go.Proofs.YtjlokpjflgbgdaaGreat
open Go.RowKit
end Go.Proofs.YtjlokpjflgbgdaaGreat

namespace Go.Proofs.YtjlokpjflgbgdaaGreat
open Go.RowKit Go.Maps Go.Sort Go.Shelf
theorem sclone_any (s:ByteArray) (w:World) (hlim:s.size<=281474976710656) :
  Calls Tryz.prog 195 #[.string s] w λ e w'=>e=.returned (.string s)/\Below w.heap.size w w':=by
 have hc:Calls Tryz.prog 235 #[.string s] w λ e w'=>e=.returned (.string s)/\Below w.heap.size w w':=Any.stringslite_Clone laySClone s w hlim
 go_enter Tryz.func195,Tryz.ntmps195;go_wp2_with fail;refine hc.mono ?_;rintro e w1 ⟨rfl,B1⟩;go_wp2;go_ret;exact ⟨rfl,B1⟩
end Go.Proofs.YtjlokpjflgbgdaaGreat

namespace Go.Proofs.YtjlokpjflgbgdaaGreat
open Go.RowKit
theorem dnext_dead {d:Dk} (h:d.dead=true):dnext d=(d,false,false):=by simp [dnext,h]
theorem dnext_torn {d:Dk} (h:d.dead=false) (ha:d.armed=true) (h0:d.after=0):dnext d=({ d with dead:=true,armed:=false },false,true):=by simp [dnext,h,ha,h0]
theorem dnext_armed {d:Dk} (h:d.dead=false) (ha:d.armed=true) (h0:d.after≠0):dnext d=({ d with after:=d.after - 1,writes:=d.writes+1 },true,false):=by simp [dnext,h,ha,h0]
theorem dnext_plain {d:Dk} (h:d.dead=false) (ha:d.armed=false):dnext d=({ d with writes:=d.writes+1 },true,false):=by simp [dnext,h,ha]
section
variable {S:Nat->Prop} {w:World} {b m:Nat} {f:Bs->Option Value} {a k:Int} {d:Dk}
theorem write_dead (h:DiskM w b m f a k d S) (hd:d.dead=true) :
  Calls Tryz.prog 145 #[.pointer (some ⟨b,0,none⟩)] w λ e w'=>e=.returned (.int .i64 8)/\w'=w:=by
 obtain ⟨c0,c1,c2,c3,c4,c5,cf⟩:=h.cell;rw [hd] at c2;have H:Hid _:=h;clear h hd;go_enter Tryz.func145,Tryz.ntmps145;go_wp2;go_ret;exact ⟨rfl,rfl⟩
theorem write_torn (h:DiskM w b m f a k d S) (hd:d.dead=false) (ha:d.armed=true) (h0:d.after=0) :
  Calls Tryz.prog 145 #[.pointer (some ⟨b,0,none⟩)] w λ e w'=>e=.returned (.int .i64 8)/\DiskM w' b m f a k { d with dead:=true,armed:=false } S/\Turned (λ i=>i=b) w w':=by
 obtain ⟨c0,c1,c2,c3,c4,c5,cf⟩:=h.cell;have f2:=cf 2;have f3:=cf 3;have ea:=(h.cut ha).1;rw [h0] at ea;subst ea;rw [hd] at c2;rw [ha] at c3;have H:Hid _:=h;clear h cf;have HD:Hid _:=And.intro hd ha;clear hd ha;go_enter Tryz.func145,Tryz.ntmps145;go_wp2;go_ret;have h1:=set_block (set_block H.out.cells 3 (.bool false)) 2 (.bool true);have t1:Turned (λ i=>i=b) w ((w.setCell ⟨b,3,none⟩ (.bool false)).setCell ⟨b,2,none⟩ (.bool true)):=(turned_set 3 _).trans (turned_set 2 _) (λ _ _ q=>q);refine ⟨rfl,DiskM.wrote H.out t1 (d':={ d with dead:=true,armed:=false }) rfl (by rw [h1]; simp [HD.out]) (by simp),t1⟩
theorem write_armed (h:DiskM w b m f a k d S) (hd:d.dead=false) (ha:d.armed=true) (h0:d.after≠0) (hb:d.after<9223372036854775808) (hw:d.writes<4611686018427387904) :
  Calls Tryz.prog 145 #[.pointer (some ⟨b,0,none⟩)] w λ e w'=>∃ a',e=.returned (.int .i64 0)/\DiskM w' b m f a' k { d with after:=d.after - 1,writes:=d.writes+1 } S/\Turned (λ i=>i=b) w w':=by
 obtain ⟨c0,c1,c2,c3,c4,c5,cf⟩:=h.cell;have f1:=cf 1;have f4:=cf 4;obtain ⟨ea,ek⟩:=h.cut ha;rw [hd] at c2;rw [ha] at c3;have H:Hid _:=h;clear h cf;have HD:Hid _:=And.intro hd (And.intro ha ek);clear hd ha ek
 obtain ⟨n,hn⟩:∃ n,d.after=n+1:=⟨d.after - 1,by omega⟩
 have N:Hid (d.after=n+1):=hn
 have hn1:n<9223372036854775807:=by omega
 have ea':a=((n+1:Nat):Int):=by rw [ea,hn]
 clear hn ea h0 hb;subst ea'
 have z:(((n+1:Nat):Int)==0)=false:=by simp; omega
 obtain ⟨q,hq⟩:∃ q,d.writes=q:=⟨_,rfl⟩
 rw [hq] at c1 hw;go_enter Tryz.func145,Tryz.ntmps145;go_wp2;go_ret;have h1:=set_block (set_block H.out.cells 4 (.int .i64 (n:Int))) 1 (.int .i64 ((q:Int)+1));have t1:Turned (λ i=>i=b) w ((w.setCell ⟨b,4,none⟩ (.int .i64 (n:Int))).setCell ⟨b,1,none⟩ (.int .i64 ((q:Int)+1))):=(turned_set 4 _).trans (turned_set 1 _) (λ _ _ q=>q);refine ⟨n,rfl,DiskM.wrote H.out t1 (d':={ d with after:=d.after - 1,writes:=d.writes+1 }) rfl (by rw [h1]; simp [HD.out,hq]) (λ _=>⟨by rw [N.out]; rfl,HD.out.2.2⟩),t1⟩
theorem write_plain (h:DiskM w b m f a k d S) (hd:d.dead=false) (ha:d.armed=false) (hw:d.writes<4611686018427387904) :
  Calls Tryz.prog 145 #[.pointer (some ⟨b,0,none⟩)] w λ e w'=>e=.returned (.int .i64 0)/\DiskM w' b m f a k { d with writes:=d.writes+1 } S/\Turned (λ i=>i=b) w w':=by
 obtain ⟨c0,c1,c2,c3,c4,c5,cf⟩:=h.cell;have f1:=cf 1;rw [hd] at c2;rw [ha] at c3;have H:Hid _:=h;clear h cf;have HD:Hid _:=And.intro hd ha;clear hd ha
 obtain ⟨q,hq⟩:∃ q,d.writes=q:=⟨_,rfl⟩
 rw [hq] at c1 hw;go_enter Tryz.func145,Tryz.ntmps145;go_wp2;go_ret;have h1:=set_block H.out.cells 1 (.int .i64 ((q:Int)+1));have t1:Turned (λ i=>i=b) w (w.setCell ⟨b,1,none⟩ (.int .i64 ((q:Int)+1))):=turned_set 1 _;refine ⟨rfl,DiskM.wrote H.out t1 (d':={ d with writes:=d.writes+1 }) rfl (by rw [h1]; simp [HD.out,hq]) (λ e=>by rw [show ({ d with writes:=d.writes+1 }:Dk).armed=d.armed from rfl,HD.out.2] at e; cases e),t1⟩
theorem write_any (h:DiskM w b m f a k d S) (hb:d.after<9223372036854775808) (hw:d.writes<4611686018427387904) :
  Calls Tryz.prog 145 #[.pointer (some ⟨b,0,none⟩)] w λ e w'=>∃ r a',e=.returned (.int .i64 r)/\Hid (r=if (dnext d).2.1 then 0 else 8)/\DiskM w' b m f a' k (dnext d).1 S/\Turned (λ i=>i=b) w w':=by
 by_cases hd:d.dead=true
 ·refine (write_dead h hd).mono ?_;rintro e w' ⟨rfl,rfl⟩;rw [dnext_dead hd];exact ⟨8,a,rfl,rfl,h,Turned.refl _ _⟩
 ·have hd:d.dead=false:=by simpa using hd
  by_cases ha:d.armed=true
  ·by_cases h0:d.after=0
   ·refine (write_torn h hd ha h0).mono ?_;rintro e w' ⟨rfl,h1,h2⟩;rw [dnext_torn hd ha h0];exact ⟨8,a,rfl,rfl,h1,h2⟩
   ·refine (write_armed h hd ha h0 hb hw).mono ?_;rintro e w' ⟨a',rfl,h1,h2⟩;rw [dnext_armed hd ha h0];exact ⟨0,a',rfl,rfl,h1,h2⟩
  ·have ha:d.armed=false:=by simpa using ha
   refine (write_plain h hd ha hw).mono ?_;rintro e w' ⟨rfl,h1,h2⟩;rw [dnext_plain hd ha];exact ⟨0,a,rfl,rfl,h1,h2⟩
theorem writes_at (h:DiskAt w b d S):Calls Tryz.prog 26 #[.pointer (some ⟨b,0,none⟩)] w λ e w'=>e=.returned (.int .i64 (d.writes:Int))/\w'=w:=by
 obtain ⟨m,f,a,k,h⟩:=h;obtain ⟨c0,c1,c2,c3,c4,c5,cf⟩:=h.cell;have H:Hid _:=h;clear h;go_enter Tryz.func26,Tryz.ntmps26;go_wp2;go_ret;exact ⟨rfl,rfl⟩
end
theorem files_none (w:World) (m:Nat) (S:Nat->Prop) (hm:w.heap[m]? = some (.map #[] 0)):FilesX w m S [] (λ _=>none) (λ _=>False) where
 map:=⟨.map [],⟨#[],0,hm,⟨by simp,MapKept.stamped_empty 0,by simp⟩,Nat.le_refl _,rfl⟩,rfl,λ _=>rfl,λ _ _ h=>by cases h⟩
 no:=λ _ _=>rfl
 yes:=λ x bs h=>by simp [fget] at h
 apart:=λ x y u v g _ h=>by cases h
 own:=λ x v g h=>by cases h
theorem new_any (w:World):Calls Tryz.prog 46 #[] w λ e w'=>∃ b,e=.returned (.pointer (some ⟨b,0,none⟩))/\DiskAt w' b dk0 (λ i=>w.heap.size<=i/\i<w'.heap.size)/\Below w.heap.size w w':=by
 have hmk:=run_makeMap (P:=Tryz.prog) 151 w;go_enter Tryz.func46,Tryz.ntmps46;go_wp2;go_ret
 have e:(w.alloc (.map #[] 0)).heap.size=w.heap.size+1:=by simp
 have e2:∀ o,((w.alloc (.map #[] 0)).alloc o).heap.size=w.heap.size+2:=by intro o; simp
 refine ⟨w.heap.size+1,rfl,⟨w.heap.size,λ _=>none,0,0,⟨?_,by simp [dk0],files_none _ _ _ ?_,⟨⟨by omega,by rw [e2]; omega⟩,⟨Nat.le_refl _,by rw [e2]; omega⟩⟩,λ i hi=>hi.2⟩⟩,bz2 _ _ _⟩
 ·have:=heap_alloc_new (w.alloc (.map #[] 0)) (.cells #[.map (some w.heap.size),.int .i64 0,.bool false,.bool false,.int .i64 0,.int .i64 0] 155);rw [e] at this;exact this
 ·exact (Below.heap_alloc _ _ w.heap.size (by simp)).trans (heap_alloc_new w _)
end Go.Proofs.YtjlokpjflgbgdaaGreat
