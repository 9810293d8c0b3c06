/-
  Several texts, laid together.
-/
import Derived.Test.YtmhcpbbiokpjjaaGreatM11
set_option maxHeartbeats 6400000
set_option maxRecDepth 100000
namespace Go.Proofs.YtmhcpbbiokpjjaaGreat
open Go.RowKit
def addB (ns:List Bs) (b:UInt8):List Bs:=if b=47 then ns++[[]] else ns.dropLast++[ns.getLastD []++[b]]
theorem Zeo:∀ (l:Bs) (b:UInt8),names (l++[b])=addB (names l) b
 | [],b=>by
  by_cases h:b=47 <;> simp [names,addB,h]
 | a::t,b=>by
  have ih:=Zeo t b;have hne:=Zdr t;by_cases ha:a=47
  ·simp only [List.cons_append,names,ha,if_true,ih];by_cases hb:b=47
   ·simp [addB,hb]
   ·cases hn:names t with
    | nil=>exact absurd hn hne
    | cons x y=>simp [addB,hb]
  ·simp only [List.cons_append,names,ha,if_false,ih];by_cases hb:b=47
   ·cases hn:names t with
    | nil=>exact absurd hn hne
    | cons x y=>simp [addB,hb]
   ·cases hn:names t with
    | nil=>exact absurd hn hne
    | cons x y=>cases y <;> simp [addB,hb]
theorem Zfd (l:Bs):(names l).length<=l.length+1:=by
 have:=ZbX l;omega
theorem Zi8 {l:Bs} {i:Nat} (h:i<l.length):l.take (i+1)=l.take i++[l[i]]:=List.take_succ_eq_append_getElem h
theorem ZlB {ns:List Bs} {k:Nat} {b:UInt8} (hk:ns.length=k+1) (hb:¬ b=47):addB ns b=ns.set k (el ns k++[b]):=by
 rw [addB,if_neg hb]
 have hne:ns≠[]:=by intro e; rw [e] at hk; simp at hk
 obtain ⟨a,y,rfl⟩:∃ a y,ns=a++[y]:=⟨ns.dropLast,ns.getLast hne,(List.dropLast_concat_getLast hne).symm⟩
 have hka:a.length=k:=by simpa using hk
 have e1:el (a++[y]) k=y:=by rw [Zdx (by omega)]; simp [<- hka]
 rw [e1];simp [<- hka]
theorem Zhm:∀ (ns:List Bs) (x:Bs),x∈ns->x.length<=ns.flatten.length
 | a::t,x,h=>by
  rcases List.mem_cons.1 h with e | e
  ·subst e; simp
  ·have:=Zhm t x e;rw [List.flatten_cons,List.length_append];omega
theorem Zd6 {l x:Bs} (h:x∈names l):x.length<=l.length:=by
 have h1:=Zhm _ _ h;have h2:=ZbX l;have h3:0<(names l).length:=List.length_pos_of_mem h;omega
theorem ZlO (ww:World) (b:UInt8) :
  (convert 39 9 (.slice (some ⟨ww.heap.size,0,none⟩) 1 1)).run Tryz.prog (ww.alloc (.cells #[.int .u8 b.toNat] 5)).drew=.ok (.string ⟨#[b]⟩) (ww.alloc (.cells #[.int .u8 b.toNat] 5)).drew:=by
 have h:=run_convert_bytes_back (P:=Tryz.prog) (ww.alloc (.cells #[.int .u8 b.toNat] 5)).drew 39 9 5 ⟨ww.heap.size,0,none⟩ 1 [b] Tryz.underlying39 Tryz.underlying5 Tryz.underlying9 (by
  intro j hj
  have hj0:j=0:=by simpa using hj
  subst hj0;show (ww.alloc (.cells #[.int .u8 b.toNat] 5)).cell? _=_;rw [ZcP,World.cell?_alloc_new]
  rfl)
 exact h
theorem Zh4 (s:ByteArray) (hs:s.size<=102) (w:World) :
  Calls Tryz.prog 227 #[.string s] w λ e w'=>∃ v',e=.returned v'/\Own w' w.heap.size v' (names s.data.toList)/\Below w.heap.size w w':=by
 have E:Hid (s.size=s.data.toList.length):=bsize s;go_enter Tryz.func227,Tryz.ntmps227;go_wp2_with fail;go_loopg [3,4] s.size (λ k ov v wr=>∃ (i:Nat),v=.int .i64 i/\i+k=s.size/\Hid (Own wr w.heap.size ov (names (s.data.toList.take i))/\Below w.heap.size w wr))
 case atStart=>exact ⟨0,rfl,by omega,World.ownsRow_lit w _ 1 (Nat.le_refl _) (by decide) rfl,(Below.refl _ w).alloc (Nat.le_refl _) _⟩
 case round =>
  obtain ⟨i,rfl,hi,HR⟩:=hrel;by_cases hin:i<s.size
  ·have hst:names (s.data.toList.take (i+1))=addB (names (s.data.toList.take i)) s[i]:=by
    rw [Zi8 (by rw [<- E.out]; exact hin),Zeo]
    rfl
   obtain ⟨b,hb⟩:∃ b,s[i]=b:=⟨_,rfl⟩
   rw [hb] at hst
   obtain ⟨ns,hns⟩:∃ ns,names (s.data.toList.take i)=ns:=⟨_,rfl⟩
   have hnl:=Zfd (s.data.toList.take i);have hne:=Zdr (s.data.toList.take i);rw [hns] at hst hnl hne HR;have ST:Hid _:=hst;rw [List.length_take] at hnl
   have hnl2:ns.length<=103:=by omega
   clear hst hnl;by_cases h47:b=47
   ·subst h47;have hbi:((47:UInt8).toNat:Int)=47:=rfl;go_wp2_with (at_builtin; refine ZmE rfl (.tmp 16) (.tmp 17) rfl w.heap.size _ ns [] _ rfl HR.out.1 rfl (by omega) HR.out.2.size ?_; intro v' w4 hown4 hbel4);go_roundg (gk - 1)
    case measure=>omega
    case rel=>exact ⟨i+1,by go_num,by omega,by rw [ST.out,addB,if_pos rfl]; exact hown4,HR.out.2.trans hbel4⟩
   ·have hbi:((b.toNat:Int)==47)=false:=by
     rw [beq_eq_false_iff_ne];intro e;exact h47 (UInt8.toNat_inj.1 (show b.toNat=47 by omega))
    obtain ⟨k,hk⟩:∃ k,ns.length=k+1:=⟨ns.length - 1,by cases ns with
     | nil=>exact absurd rfl hne
     | cons x y=>simp⟩
    obtain ⟨ao,cap,rfl,hcap,hcm,R⟩:=HR.out.1.form
    obtain ⟨g,hg⟩:∃ g,ao=some ⟨g,0,none⟩:=(Zdl HR.out.1).elim λ a h=>h.elim λ c h=>by
     have:=h.2.2.2 (by omega);obtain ⟨g,hg⟩:=this;exact ⟨g,by have:=h.1; cases this; exact hg⟩
    subst hg;rw [hk] at HR ⊢
    obtain ⟨x,hx⟩:∃ x,el ns k=x:=⟨_,rfl⟩
    have hcf:=ZkJ HR.out.1 (i:=k) (by omega);rw [hx] at hcf;obtain ⟨hc,hf⟩:=hcf
    obtain ⟨xb,hxb⟩:∃ xb:ByteArray,(⟨x.toArray⟩:ByteArray)=xb:=⟨_,rfl⟩
    rw [hxb] at hc
    have hxl:xb.size<=102:=by
     have hmem:x∈names (s.data.toList.take i):=by rw [hns,<- hx]; exact ZhA (by omega)
     have h1:=Zd6 hmem;rw [List.length_take] at h1;rw [<- hxb,bsize];show x.length<=102;omega
    have hgl:g<wr.heap.size:=(HR.out.1.lt g rfl).2
    have hca:∀ o,(wr.alloc o).cell? ⟨g,k,none⟩=some (.string xb):=λ o=>(((Below.refl _ wr).alloc (Nat.le_refl _) o).cell (p:=⟨g,k,none⟩) hgl).trans hc
    have hfa:∀ o,(wr.alloc o).frozen? ⟨g,k,none⟩=false:=λ o=>(((Below.refl _ wr).alloc (Nat.le_refl _) o).frozen (p:=⟨g,k,none⟩) hgl).trans hf
    have hcv:=λ ww=>ZlO ww b
    have XB:Hid (el ns k=x/\(⟨x.toArray⟩:ByteArray)=xb):=⟨hx,hxb⟩
    clear R hx hxb hns;go_wp2_with fail;go_region;go_wp2;go_roundg (gk - 1)
    case measure=>omega
    case rel =>
     have eb:xb++⟨#[b]⟩=⟨(x++[b]).toArray⟩:=by
      rw [<- XB.out.2];apply ByteArray.ext;rw [ByteArray.data_append];simp
     rw [eb]
     have hb1:Below w.heap.size w (wr.setCell ⟨g,k,none⟩ (.string ⟨(x++[b]).toArray⟩)) :=
      HR.out.2.trans ((Zaa.refl (λ k=>k=g) wr).setCell (.inl rfl) _ |>.below HR.out.2.size (λ j hj q=>by have:=(HR.out.1.lt g rfl).1; omega))
     have hb2:Below (wr.setCell ⟨g,k,none⟩ (.string ⟨(x++[b]).toArray⟩)).heap.size (wr.setCell ⟨g,k,none⟩ (.string ⟨(x++[b]).toArray⟩)) ((wr.setCell ⟨g,k,none⟩ (.string ⟨(x++[b]).toArray⟩)).alloc (.cells #[.int .u8 b.toNat] 5)).drew:=((Below.refl _ _).alloc (Nat.le_refl _) _).drew;refine ⟨i+1,by go_num,by omega,?_,hb1.trans (hb2.mono hb1.size)⟩;rw [ST.out,ZlB hk h47,XB.out.1];exact (Zja HR.out.1 k (x++[b])).below hb2
  ·obtain rfl:i=s.size:=by omega
   rw [E.out,List.take_length] at HR;go_wp2;go_ret;exact ⟨_,rfl,HR.out.1,HR.out.2⟩
theorem Zhq {ss:List Bs} {p:Bs->Bool} {i:Nat} (h:i<ss.length) (ht:(ss.take i).all p=true) (hx:p (el ss i)=true):(ss.take (i+1)).all p=true:=by
 rw [List.take_succ_eq_append_getElem h,List.all_append,ht,<- Zdx h];simp [hx]
theorem ZhP {ss:List Bs} {p:Bs->Bool} {i:Nat} (h:i<ss.length) (hx:p (el ss i)=false):ss.all p=false :=
 List.all_eq_false.2 ⟨_,ZhA h,by simp [hx]⟩
theorem Zhs (l:Bs) (hl:l.length<=9223372036854775807) (f:Bool) (hf:isName l=f) (w:World) :
  Calls Tryz.prog 125 #[.string ⟨l.toArray⟩] w λ e w'=>e=.returned (.bool f)/\w'=w:=by
 subst hf;exact Zap ⟨l.toArray⟩ (by rw [bsize]; exact hl) w
theorem ZmA (s:ByteArray) (w:World) :
  Calls Tryz.prog 177 #[.string s] w λ e w'=>e=.returned (.bool (isPath s.data.toList))/\Below w.heap.size w w':=by
 have E:Hid (s.size=s.data.toList.length):=bsize s;by_cases h:s.size<=102
 ·have h':¬ (102:Int)<s.size:=by omega
  have hn:=Zh4 s h w
  obtain ⟨ns,hns⟩:∃ ns,names s.data.toList=ns:=⟨_,rfl⟩
  have hP:isPath s.data.toList=(ns.all isName&&decide (ns.length<=6)):=by rw [isPath,ZdC,hns]
  have hsh:∀ x∈ns,x.length<=102:=by
   intro x hx;rw [<- hns] at hx;have:=Zd6 hx;rw [<- E.out] at this;omega
  have hnl:=Zfd s.data.toList;rw [hns,<- E.out] at hnl;rw [hns] at hn
  have P:Hid (isPath s.data.toList=(ns.all isName&&decide (ns.length<=6))/\∀ x∈ns,x.length<=102):=⟨hP,hsh⟩
  clear hP hsh hns;go_enter Tryz.func177,Tryz.ntmps177;go_wp2_with fail;refine hn.mono ?_;rintro e w1 ⟨v1,rfl,ho,hb⟩;obtain ⟨ao,cap,rfl,_,_,R⟩:=ho.form
  obtain ⟨n,hnn⟩:∃ n,ns.length=n:=⟨_,rfl⟩
  have G:Hid (Rd w1 ao ns/\ns.length=n/\Below w.heap.size w w1):=⟨R,hnn,hb⟩
  rw [hnn] at hnl ⊢;clear ho hb R hn hnn;go_wp2_with fail;go_loopg [4] n (λ k v wr=>∃ (i:Nat),v=.int .i64 i/\i+k=n/\wr=w1/\Hid ((ns.take i).all isName=true))
  case atStart=>exact ⟨0,rfl,by omega,rfl,rfl⟩
  case round =>
   obtain ⟨i,rfl,hi,rfl,HT⟩:=hrel;by_cases hin:i<n
   ·have id:(i:Int)<(n:Int):=by omega
    obtain ⟨b1,o1,rfl,hlt1,hc1⟩:=G.out.1 (by rw [G.out.2.1]; omega)
    obtain ⟨y,hy⟩:∃ y,el ns i=y:=⟨_,rfl⟩
    have c1:=hc1 i (by rw [G.out.2.1]; omega);rw [hy] at c1
    have hyl:y.length<=102:=by rw [<- hy]; exact P.out.2 _ (ZhA (by rw [G.out.2.1]; exact hin))
    have X:Hid (el ns i=y):=hy;clear hc1 hy
    cases hf:isName y with
    | true =>
     have hc:=Zhs y (by omega) true hf;go_wp2_with fail;refine (hc _).mono ?_;rintro e w' ⟨rfl,rfl⟩;go_wp2;go_roundg (gk - 1)
     case measure=>omega
     case rel=>exact ⟨i+1,by go_num,by omega,rfl,Zhq (by rw [G.out.2.1]; exact hin) HT.out (by rw [X.out]; exact hf)⟩
    | false =>
     have hc:=Zhs y (by omega) false hf;go_wp2_with fail;refine (hc _).mono ?_;rintro e w' ⟨rfl,rfl⟩;go_wp2;go_ret;exact ⟨by rw [P.out.1,ZhP (p:=isName) (i:=i) (by rw [G.out.2.1]; exact hin) (by rw [X.out]; exact hf)]; rfl,G.out.2.2⟩
   ·obtain rfl:i=n:=by omega
    have ha:=HT.out;rw [List.take_of_length_le (by rw [G.out.2.1]; omega)] at ha;have A:Hid (ns.all isName=true):=ha;clear ha;go_wp2;go_ret;refine ⟨congrArg (λ b=>Ending.returned (Value.bool b)) ?_,G.out.2.2⟩;rw [P.out.1,A.out,G.out.2.1,Bool.eq_iff_iff];simp
    try omega
 ·have h':(102:Int)<s.size:=by omega
  have hP:isPath s.data.toList=false:=by
   rw [<- ZhC,refIs,<- E.out];simp;omega
  rw [hP];go_enter Tryz.func177,Tryz.ntmps177;go_wp2;go_ret;exact ⟨rfl,Below.refl _ _⟩
theorem Znz (l:Bs) (f:Bool) (hf:isPath l=f) (w:World) :
  Calls Tryz.prog 177 #[.string ⟨l.toArray⟩] w λ e w'=>e=.returned (.bool f)/\Below w.heap.size w w':=by
 subst hf;exact ZmA ⟨l.toArray⟩ w
theorem Zdu {ao:Option Addr} {c n:Nat} {es:List En} (w:World) (hr:RdG encE w ao es) (hl:es.length=n) (hn:n*24<=140737488355328) :
  Calls Tryz.prog 40 #[.slice ao n c] w λ e w'=>∃ v,e=.returned v/\Hid (OwnG encE 221 w' w.heap.size v es/\Below w.heap.size w w'):=by
 have H:Hid (RdG encE w ao es/\es.length=n):=⟨hr,hl⟩
 clear hr hl;go_enter Tryz.func40,Tryz.ntmps40;go_wp2_with fail;go_loopg [3,4] n (λ m rv iv wr=>∃ i:Nat,iv=.int .i64 i/\i+m=n/\Hid (OwnG encE 221 wr w.heap.size rv (es.take i)/\Below w.heap.size w wr))
 case atStart=>exact ⟨0,rfl,by omega,OwnG.nil _ _ _ _,Below.refl _ _⟩
 case round =>
  obtain ⟨i,rfl,hi,HR⟩:=hrel;by_cases hin:i<n
  ·have id:(i:Int)<(n:Int):=by omega
   have id0:(0:Int)<=(i:Int):=by omega
   obtain ⟨e,he⟩:=Zaf H.out.2 hin;obtain ⟨b,off,rfl,hlt⟩:=H.out.1.some_of he;obtain ⟨hbw,c0,c1⟩:=(H.out.1.below HR.out.2).ents he;have hst:=Zb1 he;obtain ⟨d,z⟩:=e;simp only at c0 c1
   have hll:(es.take i).length=i:=by rw [List.length_take,H.out.2]; omega
   have HS:Hid (es.take (i+1)=es.take i++[(d,z)]/\(es.take i).length=i):=⟨hst,hll⟩
   clear he hst hll;go_wp2_with fail;go_region_law (refine Za8 encE 221 103 24 _ rfl Tryz.info221 Tryz.underlying103 rfl (.tmp 11) (.tmp 23) rfl w.heap.size _ (es.take i) (d,z) rfl (HR.out.1.below ((Below.refl _ wr).drew.trans (bz1 wr.drew _))) wr.heap.size rfl (ZaC encE wr.drew (d,z) 221) (by rw [HS.out.2]; omega) (by rw [HS.out.2]; simp only [maxLen]; omega) (by have:=HR.out.2.size; simp; omega) ?_; intro v4 w4 ho4 hb4 hm4 ht4)
   all_goals
    go_wp2;go_roundg (gk - 1)
    case measure=>omega
    case rel=>exact ⟨i+1,by go_num,by omega,by rw [HS.out.1]; exact ho4,HR.out.2.trans ((((bz1 wr _).drew).mono HR.out.2.size).trans hb4)⟩
  ·obtain rfl:i=n:=by omega
   have htk:es.take i=es:=List.take_of_length_le (by rw [H.out.2]; omega);rw [htk] at HR;go_wp2;go_ret;exact ⟨_,rfl,HR.out.1,HR.out.2⟩
theorem Zfr {ao ao2:Option Addr} {c c2 n:Nat} {es:List En} (w:World) (hr:RdG encE w ao es) (hr2:RdG encE w ao2 es) (hl:es.length=n) (hn:n<=4000000000000000000) :
  Calls Tryz.prog 70 #[.slice ao n c,.slice ao2 n c2] w λ e w'=>e=.returned (.bool true)/\Below w.heap.size w w':=by
 have H:Hid (RdG encE w ao es/\RdG encE w ao2 es/\es.length=n):=⟨hr,hr2,hl⟩
 clear hr hr2 hl;go_enter Tryz.func70,Tryz.ntmps70;go_wp2_with fail;go_loopg [5] n (λ m iv wr=>∃ i:Nat,iv=.int .i64 i/\i+m=n/\Hid (Below w.heap.size w wr))
 case atStart=>exact ⟨0,rfl,by omega,Below.refl _ _⟩
 case round =>
  obtain ⟨i,rfl,hi,HR⟩:=hrel;by_cases hin:i<n
  ·have id:(i:Int)<(n:Int):=by omega
   have id0:(0:Int)<=(i:Int):=by omega
   obtain ⟨e,he⟩:=Zaf H.out.2.2 hin;obtain ⟨b,off,rfl,hlt⟩:=H.out.1.some_of he;obtain ⟨b2,off2,rfl,hlt2⟩:=H.out.2.1.some_of he;obtain ⟨hbw,c0,c1⟩:=(H.out.1.below HR.out).ents he;obtain ⟨hbw2,c02,c12⟩:=(H.out.2.1.below HR.out).ents he;obtain ⟨d,z⟩:=e;simp only at c0 c1 c02 c12;clear he;go_wp2_with fail;go_quiet (fail);go_wp2;go_roundg (gk - 1)
   case measure=>omega
   case rel=>exact ⟨i+1,by go_num,by omega,HR.out.trans ((bdrewN _ _).mono HR.out.size)⟩
  ·obtain rfl:i=n:=by omega
   go_wp2;go_ret;exact ⟨rfl,HR.out⟩
def pickU (ids:List UInt64) (n:Int):UInt64:=if ids.length=0∨n<0 then 12345 else ids.getD (n.toNat % ids.length) 0
def pickI (ns:List Int) (i:Nat):Int:=ns.getD i 0
theorem ZbR {w:World} {a:Option Addr} {L c:Nat} {ids:List UInt64} (h:RdG encU w a ids) (hl:ids.length=L) (hL:L<=4000000000000000000) (n:Int) (x:Int) (hx:((pickU ids n).toNat:Int)=x) :
  Calls Tryz.prog 17 #[.slice a L c,.int .i64 n] w λ e w'=>e=.returned (.int .u64 x)/\w'=w:=by
 by_cases h0:L=0
 ·have e:x=12345:=by rw [<- hx]; unfold pickU; rw [if_pos (.inl (by omega))]; rfl
  subst h0 e;clear h hl hx;go_enter Tryz.func17,Tryz.ntmps17;go_wp2;go_ret;exact ⟨rfl,rfl⟩
 have z0:((L:Int)==0)=false:=by rw [beq_eq_false_iff_ne]; omega
 have z1:¬ (L:Int)=0:=by omega
 by_cases h1:n<0
 ·have e:x=12345:=by rw [<- hx]; unfold pickU; rw [if_pos (.inr h1)]; rfl
  subst e;clear h hl hx;go_enter Tryz.func17,Tryz.ntmps17;go_wp2;go_ret;exact ⟨rfl,rfl⟩
 obtain ⟨m,rfl⟩:∃ m:Nat,n=(m:Int):=⟨n.toNat,by omega⟩
 obtain ⟨r,hr⟩:∃ r,m % L=r:=⟨_,rfl⟩
 have hrl:r<L:=by rw [<- hr]; exact Nat.mod_lt _ (by omega)
 have e1:(m:Int).tmod (L:Int)=(r:Int):=by rw [<- hr]; rfl
 obtain ⟨y,hy⟩:=Zaf hl hrl
 have ex:x=(y.toNat:Int):=by
  rw [<- hx];unfold pickU;rw [if_neg (by omega)];simp only [Int.toNat_natCast,hl,hr];rw [List.getD_eq_getElem?_getD,hy]
  rfl
 subst ex;obtain ⟨b,off,rfl,hlt⟩:=h.some_of hy;obtain ⟨_,c0⟩:=h.nums hy
 obtain ⟨yi,hyi⟩:∃ yi:Int,(y.toNat:Int)=yi:=⟨_,rfl⟩
 rw [hyi] at c0 ⊢
 have w1:IntKind.i64.wrap (r:Int)=(r:Int):=by rw [IntKind.wrap_i64]; omega
 have rI:(r:Int)<(L:Int):=by omega
 clear h hl hx hy hyi hr;go_enter Tryz.func17,Tryz.ntmps17;go_wp2;go_ret;exact ⟨rfl,rfl⟩
theorem Zcx {w:World} {a:Option Addr} {L c:Nat} {ns:List Int} (h:RdG encI w a ns) (hl:ns.length=L) (_hL:L<=4000000000000000000) (i:Nat) (x:Int) (hx:pickI ns i=x) :
  Calls Tryz.prog 45 #[.slice a L c,.int .i64 (i:Int)] w λ e w'=>e=.returned (.int .i64 x)/\w'=w:=by
 by_cases hi:i<L
 ·obtain ⟨y,hy⟩:=Zaf hl hi
  have ex:y=x:=by rw [<- hx]; unfold pickI; rw [List.getD_eq_getElem?_getD,hy]; rfl
  subst ex;obtain ⟨b,off,rfl,hlt⟩:=h.some_of hy;have c0:=h.ints hy
  have iI:(i:Int)<(L:Int):=by omega
  have iJ:¬ (L:Int)<=(i:Int):=by omega
  clear h hl hx hy;go_enter Tryz.func45,Tryz.ntmps45;go_wp2;go_ret;exact ⟨rfl,rfl⟩
 ·have ex:x=0:=by rw [<- hx]; unfold pickI; rw [List.getD_eq_getElem?_getD,List.getElem?_eq_none (by omega)]; rfl
  subst ex
  have iJ:(L:Int)<=(i:Int):=by omega
  clear h hl hx;go_enter Tryz.func45,Tryz.ntmps45;go_wp2;go_ret;exact ⟨rfl,rfl⟩
def encT:Enc Bs:=⟨λ s=>[tx s],1,λ _=>rfl,by decide,by intro x u h; simp at h; subst h; rfl⟩
theorem RdG.txts {w:World} {b off:Nat} {ss:List Bs} (h:RdG encT w (some ⟨b,off,none⟩) ss) {i:Nat} {s:Bs} (hx:ss[i]? = some s):b<w.heap.size/\w.cell? ⟨b,off+i,none⟩=some (tx s):=by
 obtain ⟨b', off', e', hlt, hc⟩ := h (by rcases Nat.lt_or_ge i ss.length with q | q
                                         · omega
                                         · rw [List.getElem?_eq_none q] at hx; cases hx)
 obtain ⟨rfl,rfl⟩:b=b'/\off=off':=by simpa using e'
 have h0:=hc i s hx 0 _ rfl;exact ⟨hlt,by simpa [encT] using h0⟩
def BoxA (w:World) (B:Nat) (t:TypeId) (cs:Array Value):Prop:=w.heap[B]? = some (.cells cs t (0,0))
section
variable {w w':World} {B:Nat} {t:TypeId} {cs:Array Value}
theorem BoxA.lt (h:BoxA w B t cs):B<w.heap.size:=(Array.getElem?_eq_some_iff.1 h).1
theorem BoxA.below {K:Nat} (h:BoxA w B t cs) (hb:Below K w w') (hK:B<K):BoxA w' B t cs:=(hb.block B hK).trans h
theorem BoxA.turned {S:Nat->Prop} (h:BoxA w B t cs) (ht:Zaa S w w') (hS:¬ S B):BoxA w' B t cs:=(ht.block B h.lt hS).trans h
theorem BoxA.cell (h:BoxA w B t cs) {j:Nat} {v:Value} (hj:cs[j]? = some v):w.cell? ⟨B,j,none⟩=some v:=by
 unfold BoxA at h;simp [World.cell?,h,hj]
theorem BoxA.thaw (h:BoxA w B t cs) (j:Nat):w.frozen? ⟨B,j,none⟩=false:=by
 unfold BoxA at h;simp [World.frozen?,h]
theorem BoxA.new (w:World) (t:TypeId) (cs:Array Value):BoxA (w.alloc (.cells cs t)) w.heap.size t cs:=by
 unfold BoxA World.alloc;simp
theorem BoxA.put (h:BoxA w B t cs) (j:Nat) (v:Value):BoxA (w.setCell ⟨B,j,none⟩ v) B t (cs.setIfInBounds j v):=by
 unfold BoxA at h ⊢;simp [World.setCell,Array.getElem?_modify,h]
end
theorem BoxA.c14 {w:World} {Q:Nat} {t:TypeId} {a0 a1 a2 a3 a4 a5 a6 a7 a8 a9 a10 a11 a12 a13:Value} (h:BoxA w Q t #[a0,a1,a2,a3,a4,a5,a6,a7,a8,a9,a10,a11,a12,a13]):w.cell? ⟨Q,0,none⟩=some a0/\w.cell? ⟨Q,1,none⟩=some a1/\w.cell? ⟨Q,2,none⟩=some a2/\w.cell? ⟨Q,3,none⟩=some a3/\w.cell? ⟨Q,4,none⟩=some a4/\w.cell? ⟨Q,5,none⟩=some a5/\w.cell? ⟨Q,6,none⟩=some a6/\w.cell? ⟨Q,7,none⟩=some a7/\w.cell? ⟨Q,8,none⟩=some a8/\w.cell? ⟨Q,9,none⟩=some a9/\w.cell? ⟨Q,10,none⟩=some a10/\w.cell? ⟨Q,11,none⟩=some a11/\w.cell? ⟨Q,12,none⟩=some a12/\w.cell? ⟨Q,13,none⟩=some a13 :=
 ⟨h.cell rfl,h.cell rfl,h.cell rfl,h.cell rfl,h.cell rfl,h.cell rfl,h.cell rfl,h.cell rfl,h.cell rfl,h.cell rfl,h.cell rfl,h.cell rfl,h.cell rfl,h.cell rfl⟩
theorem BoxA.t14 {w:World} {Q:Nat} {t:TypeId} {cs:Array Value} (h:BoxA w Q t cs):w.frozen? ⟨Q,0,none⟩=false/\w.frozen? ⟨Q,1,none⟩=false/\w.frozen? ⟨Q,2,none⟩=false/\w.frozen? ⟨Q,3,none⟩=false/\w.frozen? ⟨Q,4,none⟩=false/\w.frozen? ⟨Q,5,none⟩=false/\w.frozen? ⟨Q,6,none⟩=false/\w.frozen? ⟨Q,7,none⟩=false/\w.frozen? ⟨Q,8,none⟩=false/\w.frozen? ⟨Q,9,none⟩=false/\w.frozen? ⟨Q,10,none⟩=false/\w.frozen? ⟨Q,11,none⟩=false/\w.frozen? ⟨Q,12,none⟩=false/\w.frozen? ⟨Q,13,none⟩=false :=
 ⟨h.thaw _,h.thaw _,h.thaw _,h.thaw _,h.thaw _,h.thaw _,h.thaw _,h.thaw _,h.thaw _,h.thaw _,h.thaw _,h.thaw _,h.thaw _,h.thaw _⟩
abbrev actC (k:Int) (dv pv qv:Value) (nm:ByteArray) (dt kp:Int):Array Value:=#[.int .i64 k,dv,pv,qv,.string nm,.int .i64 dt,.int .i64 kp]
abbrev actV (k:Int) (dv pv qv:Value) (nm:ByteArray) (dt kp:Int):Value:=.agg (actC k dv pv qv nm dt kp)
def aent (ps:List Bs) (qs:List Int) (ids:List UInt64) (i:Nat):En:=(ps.getD i [],pickU ids (pickI qs i))
def aents (ps:List Bs) (qs:List Int) (ids:List UInt64):List En:=(List.range ps.length).map (aent ps qs ids)
theorem Zbi {ops:Array Oper} {o:Oper} {a:Act} {w:World} {K:Act->World->Prop} {Q:Exit->Act->World->Prop} {X:Prop} (hg:o.guard=none) (x y:Operand) (f:Nat) (ts:Array TypeId)
  (hop:o.op=.call { callee:=.value (.func f),args:=#[x,y],argTypes:=ts }) (en:∀ args w,(callFunc f args).run Tryz.prog w=.ok (.enter f args) w) (u1 u2 v:Value) (hx:a.eval x=u1) (hy:a.eval y=u2)
  (hc:Calls Tryz.prog f #[u1,u2] w λ e w'=>e=.returned v/\w'=w) (h:K (a.put o.dst v) w) :
  if Region.wanted o (yielded ops a.tmps)=true then Oper.wp Tryz.prog o a w K Q else X:=by
 have hw:Region.wanted o (yielded ops a.tmps)=true:=by simp [Region.wanted,hg]
 rw [if_pos hw];unfold Oper.wp
 have e:(execOp a.eval o).run Tryz.prog w=.ok (.enter f #[u1,u2]) w:=by
  have hf:a.eval (.func f)=.func (.func f) #[] #[]:=rfl;simp [execOp,hop,resolve,invoke,hx,hy,hf,Deferred.ofValue,en]
 rw [e,Oper.upon_enter];refine hc.mono ?_;rintro e w' ⟨rfl,rfl⟩;exact h
theorem Zcc:∀ args w,(callFunc 45 args).run Tryz.prog w=.ok (.enter 45 args) w:=enters_of Tryz.func45 (by kernel_rfl) rfl
theorem Zbx:∀ args w,(callFunc 17 args).run Tryz.prog w=.ok (.enter 17 args) w:=enters_of Tryz.func17 (by kernel_rfl) rfl
theorem ZbE (w:World) (c1 c2 c3:Array Value) (t1 t2 t3:TypeId) :
  BoxA (((w.alloc (.cells c1 t1)).alloc (.cells c2 t2)).alloc (.cells c3 t3)) w.heap.size t1 c1 /\
  BoxA (((w.alloc (.cells c1 t1)).alloc (.cells c2 t2)).alloc (.cells c3 t3)) (w.heap.size+1) t2 c2 /\
  BoxA (((w.alloc (.cells c1 t1)).alloc (.cells c2 t2)).alloc (.cells c3 t3)) (w.heap.size+2) t3 c3 /\
  Below w.heap.size w (((w.alloc (.cells c1 t1)).alloc (.cells c2 t2)).alloc (.cells c3 t3)):=by
 have e1:(w.alloc (.cells c1 t1)).heap.size=w.heap.size+1:=by simp
 have e2:((w.alloc (.cells c1 t1)).alloc (.cells c2 t2)).heap.size=w.heap.size+2:=by simp
 have b1:=bz1 (w.alloc (.cells c1 t1)) (.cells c2 t2);have b2:=bz1 ((w.alloc (.cells c1 t1)).alloc (.cells c2 t2)) (.cells c3 t3);have n1:=BoxA.new w t1 c1;have n2:=BoxA.new (w.alloc (.cells c1 t1)) t2 c2;have n3:=BoxA.new ((w.alloc (.cells c1 t1)).alloc (.cells c2 t2)) t3 c3;rw [e1] at b1 n2;rw [e2] at b2 n3;exact ⟨(n1.below b1 (by omega)).below b2 (by omega),n2.below b2 (by omega),n3,((bz1 w _).trans (b1.mono (by omega))).trans (b2.mono (by omega))⟩
end Go.Proofs.YtmhcpbbiokpjjaaGreat
