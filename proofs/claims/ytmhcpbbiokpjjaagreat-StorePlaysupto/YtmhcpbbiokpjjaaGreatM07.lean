/-
  Several texts, laid together.
-/
import Derived.Shelf.Slices.Clone
import Derived.Shelf.Slices.CompactS
import Derived.Shelf.Small.Wraps
import Derived.Shelf.Sort.Plain
import Derived.Shelf.Strings.Prefix
import Derived.Shelf.Slices.In.SortNone
import Derived.Test.YtmhcpbbiokpjjaaGreatM06
set_option maxHeartbeats 6400000
set_option maxRecDepth 100000
namespace Go.Proofs.YtmhcpbbiokpjjaaGreat
open Go.RowKit
theorem bsize (s:ByteArray):s.size=s.data.toList.length:=Lib.size_eq s
theorem Zni (c:Int) (w:World) :
  Calls Tryz.prog 181 #[.int .u8 c] w λ e w'=>e=.returned (.bool (okI c))/\w'=w:=by
 go_enter Tryz.func181,Tryz.ntmps181;go_wp2
 all_goals go_ret
 all_goals refine ⟨congrArg (λ b=>Ending.returned (Value.bool b)) ?_,rfl⟩
 all_goals (rw [Bool.eq_iff_iff]; simp [okI]; try omega)
theorem Zd4 (s:ByteArray) (c:Int) (w:World) :
  Calls Tryz.prog 290 #[.string s,.int .u8 c] w λ e w'=>e=.returned (.int .i64 (Lib.indexByte s.data.toList c.toNat.toUInt8))/\w'=w:=by
 go_enter Tryz.func290,Tryz.ntmps290;go_wp2;rw [run_callFunc_extern Tryz.func294 (by kernel_rfl) (by kernel_rfl) (by kernel_rfl) (e:=Extern.BytealgIndexByte.indexByte) (by kernel_rfl),Lib.run_indexByteString];simp only [Result.andThen];rw [Oper.upon_value];go_wp2;go_ret;exact ⟨rfl,rfl⟩
theorem Zh9 {s:ByteArray} (h:([47]==s.toList)=true):Lib.indexByte s.data.toList 47=0:=by
 have e:[47]=s.toList:=by simpa using h
 rw [<- ByteArray.toList_eq,<- e]
 rfl
theorem Zgj (s:ByteArray) (w:World) :
  Calls Tryz.prog 285 #[.string s,.string ⟨#[47]⟩] w λ e w'=>e=.returned (.int .i64 (Lib.indexByte s.data.toList 47))/\w'=w:=by
 go_enter Tryz.func285,Tryz.ntmps285;go_wp2_with fail
 ·have h:([47]==s.toList)=true:=by assumption
  go_ret;exact ⟨by rw [Zh9 h]; rfl,rfl⟩
 ·refine (Zd4 s 47 _).mono ?_;rintro e w' ⟨rfl,rfl⟩;go_wp2;go_ret;exact ⟨rfl,rfl⟩
theorem ZbV (s:ByteArray) (o:Nat):s.extract 0 o=⟨(s.data.toList.take o).toArray⟩:=by
 have:=ByteArray.extract_mk s.data.toList 0 o;simpa using this
theorem ZeU (s:ByteArray) (o:Nat):s.extract o s.size=⟨(s.data.toList.drop o).toArray⟩:=by
 have:=ByteArray.extract_mk s.data.toList o s.size;rw [List.take_of_length_le (by rw [List.length_drop,bsize]; omega)] at this;simpa using this
theorem Zmo:∀ l:Bs,(cutB l).2.1.length<=l.length
 | []=>by simp [cutB]
 | b::t=>by
  have:=Zmo t;by_cases h:b=47
  ·simp [cutB,h]
  ·simp only [cutB,h,if_false,List.length_cons]; omega
theorem ZlF (s:ByteArray) (hm:s.size<=9223372036854775807) (w:World) :
  Calls Tryz.prog 274 #[.string s,.string ⟨#[47]⟩] w λ e w'=>e=.returned (.tuple #[.string ⟨(cutB s.data.toList).1.toArray⟩,.string ⟨(cutB s.data.toList).2.1.toArray⟩,.bool (cutB s.data.toList).2.2])/\∃ m,w'=w.drewN m:=by
 have hge:=Lib.indexByte_ge s.data.toList 47
 obtain ⟨o,ho⟩:∃ o,Lib.indexByte s.data.toList 47=o:=⟨_,rfl⟩
 have hc:=Zgj s;rw [ho] at hc hge;by_cases h0:o = -1
 ·have q:=Zg2 _ (ho.trans h0);rw [q];subst h0;go_enter Tryz.func274,Tryz.ntmps274;go_wp2_with fail;refine (hc _).mono ?_;rintro e w' ⟨rfl,rfl⟩;go_wp2;refine bodyPost_ret (v:=.tuple #[.string s,.string ⟨#[]⟩,.bool false]) ?_ rfl ⟨rfl,0,rfl⟩;simp [results,Tryz.f274]
 ·obtain ⟨k,rfl⟩:∃ k:Nat,o=k:=⟨o.toNat,by omega⟩
  obtain ⟨hk,q⟩:=ZhG _ k ho;rw [q,<- ZbV,<- ZeU];rw [<- bsize] at hk;have Q:Hid (cutB s.data.toList=_):=q;clear hge h0 q ho;go_enter Tryz.func274,Tryz.ntmps274;go_wp2_with fail;refine (hc _).mono ?_;rintro e w' ⟨rfl,rfl⟩;go_wp2_with fail;go_quiet (fail);go_wp2;refine bodyPost_ret (v:=.tuple #[.string (s.extract 0 k),.string (s.extract (k+1) s.size),.bool true]) ?_ rfl ⟨rfl,_,rfl⟩;simp [results,Tryz.f274]
theorem Zkx (s:ByteArray) (hm:s.size<=9223372036854775807) (w:World) :
  Calls Tryz.prog 247 #[.string s,.string ⟨#[47]⟩] w λ e w'=>e=.returned (.tuple #[.string ⟨(cutB s.data.toList).1.toArray⟩,.string ⟨(cutB s.data.toList).2.1.toArray⟩,.bool (cutB s.data.toList).2.2])/\∃ m,w'=w.drewN m:=by
 obtain ⟨a,ha⟩:∃ a,(cutB s.data.toList).1=a:=⟨_,rfl⟩
 obtain ⟨b,hb⟩:∃ b,(cutB s.data.toList).2.1=b:=⟨_,rfl⟩
 obtain ⟨f,hf⟩:∃ f,(cutB s.data.toList).2.2=f:=⟨_,rfl⟩
 have hc:=ZlF s hm w;rw [ha,hb,hf] at hc ⊢;go_enter Tryz.func247,Tryz.ntmps247;go_wp2_with fail;refine hc.mono ?_;rintro e w' ⟨rfl,m,rfl⟩;go_wp2;refine bodyPost_ret (v:=.tuple #[.string ⟨a.toArray⟩,.string ⟨b.toArray⟩,.bool f]) ?_ rfl ⟨rfl,m,rfl⟩;simp [results,Tryz.f247]
theorem Zg5 {s:ByteArray} {i:Nat} (h:i<s.data.toList.length) (hf:okI ((s.data.toList[i]).toNat:Int)=false):isName s.data.toList=false:=by
 have:s.data.toList.all okB=false:=by
  rw [List.all_eq_false];exact ⟨_,List.getElem_mem h,by simpa [okB] using hf⟩
 simp [isName,this]
theorem Zfn {l:Bs} {i:Nat} (h:i<l.length) (ha:(l.take i).all okB=true) (hf:okI ((l[i]).toNat:Int)=true):Hid ((l.take (i+1)).all okB=true):=by
 show _=_;rw [List.take_succ_eq_append_getElem h,List.all_append,ha];simpa [okB] using hf
theorem Zjz {l:Bs} (h1:1<=l.length) (h2:l.length<=16) (ha:(l.take l.length).all okB=true):isName l=true:=by
 rw [List.take_length] at ha;simp [isName,ha,h1,h2]
theorem ZkV (s:ByteArray) (w:World) :
  Calls Tryz.prog 128 #[.string s] w λ e w'=>e=.returned (.int .i64 (err (isName s.data.toList)))/\w'=w:=by
 have hl:=bsize s;by_cases h1:1<=s.size
 ·by_cases h2:s.size<=16
  ·have E:Hid (s.size=s.data.toList.length):=hl;clear hl;go_enter Tryz.func128,Tryz.ntmps128;go_wp2_with fail;go_loopg [14] s.size (λ k v wr=>∃ i:Nat,v=.int .i64 i/\i+k=s.size/\wr=w/\Hid ((s.data.toList.take i).all okB=true))
   case atStart=>exact ⟨0,rfl,by omega,rfl,by simp [Hid]⟩
   case round =>
    obtain ⟨i,rfl,hi,rfl,HA⟩:=hrel;by_cases hin:i<s.size
    ·go_wp2_with fail;refine (Zni _ _).mono ?_;rintro e w' ⟨rfl,rfl⟩
     obtain ⟨f,hf⟩:∃ f,okI (s[i].toNat:Int)=f:=⟨_,rfl⟩
     have F:Hid (okI (s[i].toNat:Int)=f):=hf;rw [hf];clear hf;cases f
     ·go_wp2;go_ret;exact ⟨by rw [Zg5 (E.out ▸ hin) F.out]; rfl,rfl⟩
     ·go_wp2;go_roundg (gk - 1)
      case measure=>omega
      case rel=>exact ⟨i+1,by go_num,by omega,rfl,Zfn (E.out ▸ hin) HA.out F.out⟩
    ·obtain rfl:i=s.size:=by omega
     go_wp2;go_ret;exact ⟨by rw [Zjz (by rw [<- E.out]; exact h1) (by rw [<- E.out]; exact h2) (by rw [E.out] at HA; exact HA.out)]; rfl,rfl⟩
  ·have:isName s.data.toList=false:=by simp [isName]; omega
   rw [this];clear this hl;go_enter Tryz.func128,Tryz.ntmps128;go_wp2;go_ret;exact ⟨rfl,rfl⟩
 ·have:isName s.data.toList=false:=by simp [isName]; omega
  rw [this];clear this hl;go_enter Tryz.func128,Tryz.ntmps128;go_wp2;go_ret;exact ⟨rfl,rfl⟩
theorem ZaW (l:Bs) (g:Bool) (hg:isName l=g) (w:World) :
  Calls Tryz.prog 128 #[.string ⟨l.toArray⟩] w λ e w'=>e=.returned (.int .i64 (err g))/\w'=w:=by
 subst hg;exact ZkV ⟨l.toArray⟩ w
theorem Zh0 (s:ByteArray) (hm:s.size<=9223372036854775807) (w:World) :
  Calls Tryz.prog 220 #[.string s] w λ e w'=>e=.returned (.int .i64 (err (isPath s.data.toList)))/\∃ m,w'=w.drewN m:=by
 go_enter Tryz.func220,Tryz.ntmps220;go_wp2_with fail;go_loopg [0,7] 6 (λ k p c wr=>∃ (i:Nat) (u:ByteArray) (m:Nat),p=.string u/\c=.int .i64 i/\i+k=6/\u.size<=9223372036854775807/\wr=w.drewN m/\Hid (chk k u.data.toList=isPath s.data.toList))
 case atStart=>exact ⟨0,s,0,rfl,rfl,by omega,hm,rfl,rfl⟩
 case round =>
  obtain ⟨i,u,m,rfl,rfl,hi,hu,rfl,HC⟩:=hrel;by_cases hin:i<6
  ·obtain ⟨k,rfl⟩:∃ k,gk=k+1:=⟨gk - 1,by omega⟩
   obtain ⟨a,ha⟩:∃ a,(cutB u.data.toList).1=a:=⟨_,rfl⟩
   obtain ⟨b,hb⟩:∃ b,(cutB u.data.toList).2.1=b:=⟨_,rfl⟩
   obtain ⟨f,hf⟩:∃ f,(cutB u.data.toList).2.2=f:=⟨_,rfl⟩
   have HC2:=HC.out;rw [chk,ha,hb,hf] at HC2;have HD:Hid _:=HC2
   have hbl:b.length<=9223372036854775807:=by rw [<- hb]; have:=Zmo u.data.toList; rw [<- bsize] at this; omega
   have hc:=Zkx u hu;rw [ha,hb,hf] at hc;clear ha hb hf HC2 HC;go_wp2_with fail;refine (hc _).mono ?_;rintro e w' ⟨rfl,m1,rfl⟩;go_wp2_with fail
   obtain ⟨g,hg⟩:∃ g,isName a=g:=⟨_,rfl⟩
   have HG:Hid (isName a=g):=hg;refine (ZaW a g hg _).mono ?_;rintro e w' ⟨rfl,rfl⟩;clear hg;cases g
   ·rw [show err false=2 from rfl];go_wp2;go_ret;exact ⟨by rw [<- HD.out,HG.out]; rfl,_,rfl⟩
   ·rw [show err true=0 from rfl];cases f
    ·go_wp2;go_ret;exact ⟨by rw [<- HD.out,HG.out]; rfl,_,rfl⟩
    ·go_wp2;go_roundg k
     case measure=>omega
     case rel=>exact ⟨i+1,⟨b.toArray⟩,_,rfl,by go_num,by omega,by rw [bsize]; exact hbl,rfl,by have:=HD.out; rw [HG.out] at this; exact this⟩
  ·obtain rfl:i=6:=by omega
   obtain rfl:gk=0:=by omega
   go_wp2;go_ret;exact ⟨by rw [<- HC.out]; rfl,m,rfl⟩
theorem Zfp (s:ByteArray) (hm:s.size<=9223372036854775807) (g:Bool) (hg:isPath s.data.toList=g) (w:World) :
  Calls Tryz.prog 220 #[.string s] w λ e w'=>e=.returned (.int .i64 (err g))/\∃ m,w'=w.drewN m:=by
 subst hg;exact Zh0 s hm w
def Zdb:Go.Shelf.Ren:=⟨λ | 103=>276 | 210=>286 | 206=>287 | n=>n,λ | 9=>9 | 4=>4 | 24=>377 | 3=>3 | n=>n,λ | n=>n⟩
theorem layCutPrefix:Go.Proofs.Lays.n103 Tryz.prog Zdb:={
 mixed:=by kernel_rfl
 f103:=Tryz.func276.trans (congrArg some (by kernel_rfl))
 f206:=Tryz.func287.trans (congrArg some (by kernel_rfl))
 f210:=Tryz.func286.trans (congrArg some (by kernel_rfl))
 t3:=Tryz.underlying3
 a3:=Tryz.isAgg3
 z3:=Tryz.sizeOf3
 v3:=Tryz.zeroValue3
 t4:=Tryz.underlying4
 a4:=Tryz.isAgg4
 z4:=Tryz.sizeOf4
 v4:=Tryz.zeroValue4
 t9:=Tryz.underlying9
 a9:=Tryz.isAgg9
 z9:=Tryz.sizeOf9
 v9:=Tryz.zeroValue9
 t24:=Tryz.underlying377
 a24:=Tryz.isAgg377
 z24:=Tryz.sizeOf377
 v24:=Tryz.zeroValue377 }
def Zc9:Go.Shelf.Ren:=⟨λ | 99=>277 | 206=>287 | n=>n,λ | 9=>9 | 4=>4 | 3=>3 | n=>n,λ | n=>n⟩
theorem layHasPrefix:Go.Proofs.Lays.n99 Tryz.prog Zc9:={
 mixed:=by kernel_rfl
 f99:=Tryz.func277.trans (congrArg some (by kernel_rfl))
 f206:=Tryz.func287.trans (congrArg some (by kernel_rfl))
 t3:=Tryz.underlying3
 a3:=Tryz.isAgg3
 z3:=Tryz.sizeOf3
 v3:=Tryz.zeroValue3
 t4:=Tryz.underlying4
 a4:=Tryz.isAgg4
 z4:=Tryz.sizeOf4
 v4:=Tryz.zeroValue4
 t9:=Tryz.underlying9
 a9:=Tryz.isAgg9
 z9:=Tryz.sizeOf9
 v9:=Tryz.zeroValue9 }
theorem Zc7 (p d:ByteArray) (r:Bs) (f:Bool) (hf:d.data.toList.isPrefixOf p.data.toList=f) (hr:r=if f then p.data.toList.drop d.data.toList.length else p.data.toList) (w:World) :
  Calls Tryz.prog 276 #[.string p,.string d] w λ e w'=>e=.returned (.tuple #[.string ⟨r.toArray⟩,.bool f])/\w'=w:=by
 have h:=Any.strings_CutPrefix layCutPrefix p d w;subst hf hr;exact h
theorem ZfD (r:Bs) (g:Bool) (hg:[47].isPrefixOf r=g) (w:World) :
  Calls Tryz.prog 277 #[.string ⟨r.toArray⟩,.string ⟨#[47]⟩] w λ e w'=>e=.returned (.bool g)/\w'=w:=by
 subst hg;exact Any.strings_HasPrefix layHasPrefix ⟨r.toArray⟩ ⟨#[47]⟩ w
theorem Zks (p d:ByteArray) (w:World) :
  Calls Tryz.prog 250 #[.string p,.string d] w λ e w'=>e=.returned (.bool (under p.data.toList d.data.toList))/\w'=w:=by
 have U:=Ziz p.data.toList d.data.toList
 obtain ⟨f,hf⟩:∃ f,d.data.toList.isPrefixOf p.data.toList=f:=⟨_,rfl⟩
 rw [<- U,hf]
 cases f with
 | false =>
  have h1:=Zc7 p d _ false hf rfl;rw [Bool.false_and];clear U hf;go_enter Tryz.func250,Tryz.ntmps250;go_wp2_with fail;refine (h1 _).mono ?_;rintro e w' ⟨rfl,rfl⟩;go_wp2;go_ret;exact ⟨rfl,rfl⟩
 | true =>
  obtain ⟨r,hr⟩:∃ r,p.data.toList.drop d.data.toList.length=r:=⟨_,rfl⟩
  have h1:=Zc7 p d r true hf hr.symm;rw [hr,Bool.true_and];clear U hf hr
  cases hr:r==[] with
  | true =>
   obtain rfl:r=[]:=by simpa using hr
   go_enter Tryz.func250,Tryz.ntmps250;go_wp2_with fail;refine (h1 _).mono ?_;rintro e w' ⟨rfl,rfl⟩;go_wp2;go_ret;exact ⟨rfl,rfl⟩
  | false =>
   obtain ⟨g,hg⟩:∃ g,[47].isPrefixOf r=g:=⟨_,rfl⟩
   have h2:=ZfD r g hg;rw [hg];clear hg;go_enter Tryz.func250,Tryz.ntmps250;go_wp2_with fail;refine (h1 _).mono ?_;rintro e w' ⟨rfl,rfl⟩;go_wp2_with fail;refine (h2 _).mono ?_;rintro e w' ⟨rfl,rfl⟩;go_wp2;go_ret;exact ⟨rfl,rfl⟩
def encE:Enc En:=⟨λ e=>[tx e.1,.int .u64 (e.2.toNat:Int)],2,λ _=>rfl,by decide,by intro x u h; simp at h; rcases h with rfl | rfl <;> rfl⟩
theorem Tryz.info91:(Tryz.prog.info? 91).map (λ i=>(i.zero,i.size,i.bytes))=some (some (.agg #[.string ⟨#[]⟩,.int .u64 0]),2,24):=by kernel_rfl
theorem Tryz.info221:(Tryz.prog.info? 221).map (λ i=>(i.zero,i.size,i.bytes))=some (some (.agg #[.string ⟨#[]⟩,.int .u64 0]),2,24):=by kernel_rfl
theorem Tryz.info53:(Tryz.prog.info? 53).map (λ i=>(i.zero,i.size,i.bytes))=some (some (.int .u64 0),1,8):=by kernel_rfl
theorem Tryz.info52:(Tryz.prog.info? 52).map (λ i=>(i.zero,i.size,i.bytes))=some (some (.int .u64 0),1,8):=by kernel_rfl
theorem RdG.ents {w:World} {b off:Nat} {es:List En} (h:RdG encE w (some ⟨b,off,none⟩) es) {i:Nat} {e:En} (hx:es[i]? = some e):b<w.heap.size/\w.cell? ⟨b,off+i*2,none⟩=some (tx e.1)/\w.cell? ⟨b,off+i*2+1,none⟩=some (.int .u64 (e.2.toNat:Int)):=by
 obtain ⟨b', off', e', hlt, hc⟩ := h (by rcases Nat.lt_or_ge i es.length with q | q
                                         · omega
                                         · rw [List.getElem?_eq_none q] at hx; cases hx)
 obtain ⟨rfl,rfl⟩:b=b'/\off=off':=by simpa using e'
 have h0:=hc i e hx 0 _ rfl;have h1:=hc i e hx 1 _ rfl;exact ⟨hlt,by simpa [encE] using h0,by simpa [encE,Nat.add_assoc] using h1⟩
theorem Zex (p:Bs) (B:Nat) (d:Bs) (z:Int) (w:World) (hc:w.cell? ⟨B,0,none⟩=some (tx p)) (f:Bool) (hf:under p d=f) :
  Calls Tryz.prog 249 #[.agg #[tx d,.int .u64 z],.pointer (some ⟨B,0,none⟩)] w λ e w'=>e=.returned (.bool f)/\Below w.heap.size w w':=by
 have hb:B<w.heap.size:=World.block_lt_of_cell? w _ hc;have h:=Zks ⟨p.toArray⟩ ⟨d.toArray⟩ (w.alloc (.cells #[tx d,.int .u64 z] 91))
 change Calls Tryz.prog 250 #[.string ⟨p.toArray⟩,.string ⟨d.toArray⟩] _ λ e w'=>e=.returned (.bool (under p d))/\w'=_ at h
 rw [hf] at h
 have ne:B≠w.heap.size:=by omega
 clear hf;go_enter Tryz.func249,Tryz.ntmps249;go_wp2_with fail;refine h.mono ?_;rintro e w' ⟨rfl,rfl⟩;go_wp2;go_ret;exact ⟨rfl,bz1 _ _⟩
theorem Zj6:∀ args w,(callFunc 249 args).run Tryz.prog w=.ok (.enter 249 args) w:=enters_of Tryz.func249 (by kernel_rfl) rfl
theorem ZmM {ao:Option Addr} {c n B:Nat} {es:List En} (p:Bs) (w:World) (hB:w.cell? ⟨B,0,none⟩=some (tx p)) (ha:RdG encE w ao es) (hl:es.length=n) (hn:n<=4000000000000000000) :
  Calls Tryz.prog 275 #[.slice ao n c,.func (.func 249) #[] #[.pointer (some ⟨B,0,none⟩)]] w λ e w'=>∃ r:Int,e=.returned (.int .i64 r)/\decide (0<=r)=es.any (λ e=>under p e.1)/\Below w.heap.size w w':=by
 have H:Hid (RdG encE w ao es/\es.length=n/\w.cell? ⟨B,0,none⟩=some (tx p)/\B<w.heap.size):=⟨ha,hl,hB,World.block_lt_of_cell? w _ hB⟩
 clear ha hl hB;have eg:=Zj6;go_enter Tryz.func275,Tryz.ntmps275;go_wp2_with fail;go_loopg [5,8] n (λ k _ v wr=>∃ (i:Nat),v=.int .i64 i/\i+k=n/\Hid ((es.take i).any (λ e=>under p e.1)=false)/\Hid (Below w.heap.size w wr))
 case atStart=>exact ⟨0,rfl,by omega,rfl,Below.refl _ _⟩
 case round =>
  obtain ⟨i,rfl,hi,HT,hb⟩:=hrel;by_cases hin:i<n
  ·have id:(i:Int)<(n:Int):=by omega
   obtain ⟨e,he⟩:=Zaf H.out.2.1 hin;obtain ⟨b,off,rfl,hlt⟩:=H.out.1.some_of he;obtain ⟨_,c0,c1⟩:=(H.out.1.below hb.out).ents he;obtain ⟨d,z⟩:=e
   obtain ⟨zi,hz⟩:∃ zi,(z.toNat:Int)=zi:=⟨_,rfl⟩
   simp only at c0 c1;rw [hz] at c1;have hcB:wr.cell? ⟨B,0,none⟩=some (tx p):=(hb.out.cell H.out.2.2.2).trans H.out.2.2.1;have HE:Hid (es[i]? = some (d,z)):=he;clear he hz
   cases hxy:under p d with
   | true =>
    have hcall:=Zex p B d zi wr hcB true hxy;clear hcB;go_wp2_with (go_at_fn 249; refine hcall.mono ?_; rintro e w' ⟨rfl,hb'⟩);go_ret;exact ⟨i,rfl,by rw [ZhD (p:=λ e=>under p e.1) HE.out hxy]; simp,hb.out.trans (hb'.mono hb.out.size)⟩
   | false =>
    have hcall:=Zex p B d zi wr hcB false hxy;clear hcB;go_wp2_with (go_at_fn 249; refine hcall.mono ?_; rintro e w' ⟨rfl,hb'⟩);go_roundg (gk - 1)
    case measure=>omega
    case rel=>exact ⟨i+1,by go_num,by omega,Zfg (es:=es) (p:=λ e:En=>under p e.1) HE.out HT.out hxy,hb.out.trans (hb'.mono hb.out.size)⟩
  ·obtain rfl:i=n:=by omega
   go_wp2;go_ret;refine ⟨-1,rfl,?_,hb.out⟩;have e:=HT.out;rw [List.take_of_length_le (by rw [H.out.2.1]; omega)] at e;rw [e]
   rfl
theorem ZcX {ao:Option Addr} {c n B:Nat} {es:List En} (p:Bs) (w:World) (hB:w.cell? ⟨B,0,none⟩=some (tx p)) (ha:RdG encE w ao es) (hl:es.length=n) (hn:n<=4000000000000000000) (f:Bool) (hf:es.any (λ e=>under p e.1)=f) :
  Calls Tryz.prog 248 #[.slice ao n c,.func (.func 249) #[] #[.pointer (some ⟨B,0,none⟩)]] w λ e w'=>e=.returned (.bool f)/\Below w.heap.size w w':=by
 have h:=ZmM (c:=c) p w hB ha hl hn;rw [hf] at h;clear hB ha hl hf;go_enter Tryz.func248,Tryz.ntmps248;go_wp2_with fail;refine h.mono ?_;rintro e w' ⟨r,rfl,hr,hb⟩;have R:Hid (decide (0<=r)=f):=hr;clear hr;go_wp2;go_ret;exact ⟨by rw [<- R.out]; rfl,hb⟩
theorem ZiP {ao:Option Addr} {c:Nat} (p:Bs) (w:World) :
  Calls Tryz.prog 221 #[tx p,.slice ao 0 c] w λ e w'=>e=.returned (.bool true)/\Below w.heap.size w w':=by
 have hc:∀ m,_:=λ m=>ZcX (ao:=ao) (c:=c) (n:=0) (B:=w.heap.size) (es:=[]) p ((w.alloc (.cells #[tx p] 9)).drewN m) (((bdrewN _ m).cell (by simp)).trans (by simp)) (RdG.nil _ _ _) rfl (by omega) false rfl
 go_enter Tryz.func221,Tryz.ntmps221;go_wp2_with fail;go_quiet (fail);go_wp2_with fail;refine (hc _).mono ?_;rintro e w' ⟨rfl,hb⟩;go_wp2;go_ret;exact ⟨rfl,((bz1 w _).trans ((bdrewN _ _).mono (bz1 w _).size)).trans (hb.mono (bz1 w _).size)⟩
theorem ZkH {ao:Option Addr} {c m:Nat} {es:List En} (p:Bs) (w:World) (ha:RdG encE w ao es) (hl:es.length=m+1) (hn:m+1<=4000000000000000000) :
  Calls Tryz.prog 221 #[tx p,.slice ao (m+1) c] w λ e w'=>e=.returned (.bool (fits p es))/\Below w.heap.size w w':=by
 obtain ⟨e,he⟩:=Zaf hl (Nat.lt_succ_self m);obtain ⟨b,off,rfl,hlt⟩:=ha.some_of he
 obtain ⟨W,hW⟩:∃ W,w.alloc (.cells #[tx p] 9)=W:=⟨_,rfl⟩
 have bW:Below w.heap.size w W:=by rw [<- hW]; exact bz1 _ _
 have cW:W.cell? ⟨w.heap.size,0,none⟩=some (tx p):=by rw [<- hW]; simp
 have sW:W.heap.size=w.heap.size+1:=by rw [<- hW]; simp
 obtain ⟨hbW,c0,_⟩:=(ha.below bW).ents he;obtain ⟨d,z⟩:=e;simp only at c0
 have hf:fits p es=(decide (d<p)&&!(es.any λ e=>under p e.1)):=by
  unfold fits
  have:es.getLast? = some (d,z):=by rw [List.getLast?_eq_getElem?,hl]; exact he
  rw [this]
 obtain ⟨f,hff⟩:∃ f,(es.any λ e=>under p e.1)=f:=⟨_,rfl⟩
 rw [hff] at hf
 have hc:∀ k,_:=λ k=>ZcX (ao:=some ⟨b,off,none⟩) (c:=c) (n:=m+1) (B:=w.heap.size) p (W.drewN k) (((bdrewN _ k).cell (by rw [sW]; exact Nat.lt_succ_self _)).trans cW) ((ha.below bW).below (bdrewN _ k)) hl hn f hff
 have H:Hid (Below w.heap.size w W/\W.heap.size=w.heap.size+1):=⟨bW,sW⟩
 have hdp:=ZaJ d p;clear bW sW ha he hff hl;by_cases hlt:d<p
 ·have q1:Op.bytesLess p d=false:=by rw [ZaJ,decide_eq_false_iff_not]; exact List.lt_asymm hlt
  have q2:(p==d)=false:=by rw [beq_eq_false_iff_ne]; rintro rfl; exact List.lt_irrefl _ hlt
  rw [hf,decide_eq_true hlt,Bool.true_and];clear hf hdp hlt;go_enter Tryz.func221,Tryz.ntmps221;go_wp2_with fail;go_quiet (fail);go_wp2_with fail;refine (hc _).mono ?_;rintro e w' ⟨rfl,hb⟩;go_wp2;go_ret;exact ⟨rfl,(H.out.1.trans ((bdrewN _ _).mono H.out.1.size)).trans (hb.mono H.out.1.size)⟩
 ·rw [hf,decide_eq_false hlt,Bool.false_and];clear hc hf hdp;by_cases hq:p=d
  ·subst hq;clear hlt;go_enter Tryz.func221,Tryz.ntmps221;go_wp2_with fail;go_quiet (fail);go_wp2;go_ret;exact ⟨rfl,H.out.1.trans ((bdrewN _ _).mono H.out.1.size)⟩
  ·have q1:Op.bytesLess p d=true:=by
    rw [ZaJ,decide_eq_true_iff];by_cases k:p<d
    ·exact k
    ·exact absurd (List.le_antisymm hlt k) hq
   clear hlt hq;go_enter Tryz.func221,Tryz.ntmps221;go_wp2_with fail;go_quiet (fail);go_wp2;go_ret;exact ⟨rfl,H.out.1.trans ((bdrewN _ _).mono H.out.1.size)⟩
theorem Zlq {ao:Option Addr} {c n:Nat} {es:List En} (p:Bs) (w:World) (ha:RdG encE w ao es) (hl:es.length=n) (hn:n<=4000000000000000000) (f:Bool) (hf:fits p es=f) :
  Calls Tryz.prog 221 #[tx p,.slice ao n c] w λ e w'=>e=.returned (.bool f)/\Below w.heap.size w w':=by
 subst hf
 cases n with
 | zero =>
  obtain rfl:es=[]:=List.eq_nil_of_length_eq_zero hl;exact ZiP p w
 | succ m=>exact ZkH p w ha hl hn
theorem Znf {ao:Option Addr} {c n:Nat} {xs:List UInt64} (x:UInt64) (w:World) (ha:RdG encU w ao xs) (hl:xs.length=n) (hn:n<=4000000000000000000) :
  Calls Tryz.prog 246 #[.slice ao n c,.int .u64 (x.toNat:Int)] w λ e w'=>∃ r:Int,e=.returned (.int .i64 r)/\decide (0<=r)=xs.any (λ y=>x==y)/\w'=w:=by
 have H:Hid (RdG encU w ao xs/\xs.length=n):=⟨ha,hl⟩
 clear ha hl;go_enter Tryz.func246,Tryz.ntmps246;go_wp2_with fail;go_loopg [5,8] n (λ k _ v wr=>∃ (i:Nat),v=.int .i64 i/\i+k=n/\wr=w/\Hid ((xs.take i).any (λ y=>x==y)=false))
 case atStart=>exact ⟨0,rfl,by omega,rfl,rfl⟩
 case round =>
  obtain ⟨i,rfl,hi,rfl,HT⟩:=hrel;by_cases hin:i<n
  ·have id:(i:Int)<(n:Int):=by omega
   obtain ⟨y,he⟩:=Zaf H.out.2 hin;obtain ⟨b,off,rfl,hlt⟩:=H.out.1.some_of he;obtain ⟨_,c0⟩:=H.out.1.nums he;have HE:Hid (xs[i]? = some y):=he;clear he;by_cases hxy:x=y
   ·subst hxy;go_wp2;go_ret;exact ⟨i,rfl,by rw [ZhD (p:=λ y=>x==y) HE.out (by simp)]; simp,rfl⟩
   ·have m0:((x.toNat:Int)==(y.toNat:Int))=false:=by
     rw [beq_eq_false_iff_ne];intro q;exact hxy (UInt64.toNat_inj.1 (by omega))
    have m1:(x.toNat==y.toNat)=false:=by
     rw [beq_eq_false_iff_ne];intro q;exact hxy (UInt64.toNat_inj.1 q)
    go_wp2;go_roundg (gk - 1)
    case measure=>omega
    case rel=>exact ⟨i+1,by go_num,by omega,rfl,Zfg (p:=λ y=>x==y) HE.out HT.out (by simpa using hxy)⟩
  ·obtain rfl:i=n:=by omega
   go_wp2;go_ret;refine ⟨-1,rfl,?_,rfl⟩;have e:=HT.out;rw [List.take_of_length_le (by rw [H.out.2]; omega)] at e;rw [e]
   rfl
theorem Zfq {ao:Option Addr} {c n:Nat} {xs:List UInt64} (x:UInt64) (w:World) (ha:RdG encU w ao xs) (hl:xs.length=n) (hn:n<=4000000000000000000) (f:Bool) (hf:xs.any (λ y=>x==y)=f) :
  Calls Tryz.prog 218 #[.slice ao n c,.int .u64 (x.toNat:Int)] w λ e w'=>e=.returned (.bool f)/\w'=w:=by
 have h:=Znf (c:=c) x w ha hl hn;rw [hf] at h;clear ha hl hf;go_enter Tryz.func218,Tryz.ntmps218;go_wp2_with fail;refine h.mono ?_;rintro e w' ⟨r,rfl,hr,rfl⟩;have R:Hid (decide (0<=r)=f):=hr;clear hr;go_wp2;go_ret;exact ⟨by rw [<- R.out]; rfl,rfl⟩
end Go.Proofs.YtmhcpbbiokpjjaaGreat
