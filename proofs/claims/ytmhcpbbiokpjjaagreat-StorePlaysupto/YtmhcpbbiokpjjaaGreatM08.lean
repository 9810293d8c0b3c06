/-
  Several texts, laid together.
-/
import Derived.Test.YtmhcpbbiokpjjaaGreatM07
set_option maxHeartbeats 6400000
set_option maxRecDepth 100000
namespace Go.Proofs.YtmhcpbbiokpjjaaGreat
open Go.RowKit
structure Rdr (w:World) (R:Nat) (r:Rs):Prop where
 at_:∃ a c,Box w R 272 (.slice a r.1.length c) (.bool r.2)/\∀ u,Below R w u->BAt u (.slice a r.1.length c) r.1
theorem Rdr.lt {w:World} {R:Nat} {r:Rs} (h:Rdr w R r):R<w.heap.size:=by
 obtain ⟨a,c,h1,_⟩:=h.at_;exact h1.lt
theorem Rdr.over {w w':World} {R:Nat} {r:Rs} (h:Rdr w R r) (hb:Below (R+1) w w'):Rdr w' R r:=by
 obtain ⟨a,c,h1,h2⟩:=h.at_;exact ⟨a,c,(hb.block R (Nat.lt_succ_self R)).trans h1,λ u hu=>h2 u ((hb.mono (Nat.le_succ R)).trans hu)⟩
theorem Rdr.below {w w':World} {R:Nat} {r:Rs} (h:Rdr w R r) (hb:Below w.heap.size w w'):Rdr w' R r:=h.over (hb.mono h.lt)
theorem Rdr.new {w:World} {a:Option Addr} {n c:Nat} {bs:Bs} (h:BAt w (.slice a n c) bs) (hl:bs.length=n):Rdr (w.alloc (.cells #[.slice a n c,.bool false] 272)) w.heap.size (bs,false):=by
 subst hl;exact ⟨a,c,Box.new _ _ _ _,λ u hu=>h.below ((bz1 w _).trans hu)⟩
theorem ZiC {w:World} {R:Nat} {r:Rs} (h:Rdr w R r) (k:Nat) (hk:r.1.length<k) :
  Calls Tryz.prog 217 #[.pointer (some ⟨R,0,none⟩),.int .i64 (k:Int)] w λ e w'=>e=.returned (.slice none 0 0)/\Hid (Rdr w' R ([],true)/\Zaa (λ i=>i=R) w w'):=by
 obtain ⟨a,c,h1,h2⟩:=h.at_
 obtain ⟨n,hn⟩:∃ n,r.1.length=n:=⟨_,rfl⟩
 rw [hn] at h1 hk
 have q:(n:Int)<(k:Int):=by omega
 obtain ⟨x0,x1⟩:=h1.cells;obtain ⟨f0,f1⟩:=h1.thaw;have H:Hid (Box w R 272 (.slice a n c) (.bool r.2)):=h1;clear h h1 h2 hn;go_enter Tryz.func217,Tryz.ntmps217;go_wp2;go_ret;refine ⟨rfl,⟨none,0,H.out.put _ _,λ u _=>⟨none,0,rfl,Nat.le_refl _,by omega,RdG.nil _ _ _⟩⟩,?_⟩;exact ((Zaa.refl (λ i=>i=R) w).setCell (p:=⟨R,0,none⟩) (.inl (show R=R from rfl)) _).setCell (p:=⟨R,1,none⟩) (.inl (show R=R from rfl)) _
theorem ZjH {w:World} {R:Nat} {r:Rs} (h:Rdr w R r) (k:Nat) (hk:¬ r.1.length<k) :
  Calls Tryz.prog 217 #[.pointer (some ⟨R,0,none⟩),.int .i64 (k:Int)] w λ e w'=>∃ a c,e=.returned (.slice a k c)/\Hid (BAt w' (.slice a k c) (r.1.take k)/\Rdr w' R (r.1.drop k,r.2)/\Zaa (λ i=>i=R) w w'):=by
 obtain ⟨a,c,h1,h2⟩:=h.at_
 obtain ⟨n,hn⟩:∃ n,r.1.length=n:=⟨_,rfl⟩
 rw [hn] at h1 h2 hk
 have q:decide ((n:Int)<(k:Int))=false:=by rw [decide_eq_false_iff_not]; omega
 have o:(n<=c/\c<=9223372036854775807)/\∀ u,Below R w u->RdG encB u a r.1:=by
  constructor
  ·obtain ⟨ao,c',e,o1,o2,_⟩:=h2 w (Below.refl _ _);rw [hn] at e o1;cases e;exact ⟨o1,o2⟩
  ·intro u hu;obtain ⟨ao,c',e,_,_,o3⟩:=h2 u hu;cases e;exact o3
 obtain ⟨a2,c2,s2,p1,p2,r2⟩:=ZbU (ao:=a) (n:=n) (c:=c) (k:=k) o.1.1 (by omega);obtain ⟨a3,c3,s3,p3,p4,r3⟩:=Zcl (ao:=a) (n:=n) (c:=c) (k:=k) o.1.1 (by omega);obtain ⟨x0,x1⟩:=h1.cells;obtain ⟨f0,f1⟩:=h1.thaw
 have l1:(r.1.take k).length=k:=by rw [List.length_take]; omega
 have l2:(r.1.drop k).length=n - k:=by rw [List.length_drop]; omega
 have H:Hid (Box w R 272 (.slice a n c) (.bool r.2)/\(∀ u,Below R w u->BAt u (.slice a3 k c3) (r.1.take k))/\(∀ u,Below R w u->BAt u (.slice a2 (n - k) c2) (r.1.drop k))/\(r.1.drop k).length=n - k):=by
  have o2:=o.1.2;refine ⟨h1,λ u hu=>⟨a3,c3,by rw [l1],by rw [l1]; exact p3,by omega,r3 u _ (o.2 u hu)⟩,λ u hu=>⟨a2,c2,by rw [l2],by rw [l2]; exact p1,by omega,r2 u _ hn (o.2 u hu)⟩,l2⟩
 clear h h1 h2 hn o p1 p2 p3 p4 r2 r3 l1 l2;go_enter Tryz.func217,Tryz.ntmps217;go_wp2;go_ret;have ht:Zaa (λ i=>i=R) w (w.setCell ⟨R,0,none⟩ (.slice a2 (n - k) c2)):=(Zaa.refl (λ i=>i=R) w).setCell (p:=⟨R,0,none⟩) (.inl (show R=R from rfl)) _;have hb:=Znm H.out.1.lt ht;refine ⟨a3,c3,rfl,H.out.2.1 _ hb,⟨a2,c2,?_⟩,ht⟩;simp only;rw [H.out.2.2.2];exact ⟨H.out.1.put0 _,λ u hu=>H.out.2.2.1 u (hb.trans hu)⟩
theorem Zfa {w:World} {R:Nat} {r:Rs} (h:Rdr w R r) (k:Nat) :
  Calls Tryz.prog 217 #[.pointer (some ⟨R,0,none⟩),.int .i64 (k:Int)] w λ e w'=>∃ a n c,e=.returned (.slice a n c)/\Hid (n=(rtake k r).1.length/\BAt w' (.slice a n c) (rtake k r).1/\Rdr w' R (rtake k r).2/\Zaa (λ i=>i=R) w w'):=by
 by_cases hk:r.1.length<k
 ·have e:rtake k r=([],([],true)):=by unfold rtake; rw [if_pos hk]
  rw [e];refine (ZiC h k hk).mono ?_;rintro e w' ⟨rfl,J⟩;exact ⟨none,0,0,rfl,rfl,⟨none,0,rfl,Nat.le_refl _,by omega,RdG.nil _ _ _⟩,J.out.1,J.out.2⟩
 ·have e:rtake k r=(r.1.take k,(r.1.drop k,r.2)):=by unfold rtake; rw [if_neg hk]
  rw [e];refine (ZjH h k hk).mono ?_;rintro e w' ⟨a,c,rfl,J⟩;exact ⟨a,k,c,rfl,by rw [List.length_take]; omega,J.out.1,J.out.2.1,J.out.2.2⟩
theorem Ze1 {w:World} {R:Nat} {r:Rs} (h:Rdr w R r) (v:Nat) (r':Rs) (hv:rnum r=(v,r')) :
  Calls Tryz.prog 151 #[.pointer (some ⟨R,0,none⟩)] w λ e w'=>e=.returned (.int .u64 (v:Int))/\Hid (Rdr w' R r'/\Zaa (λ i=>i=R) w w'):=by
 have ht:=Zfa h 8;have hle:=ZbN 8 r;unfold rnum at hv
 obtain ⟨t,ht0⟩:∃ t,rtake 8 r=t:=⟨_,rfl⟩
 rw [ht0] at ht hv hle
 obtain ⟨hv1,rfl⟩:val t.1=v/\t.2=r':=by simpa using hv
 clear hv ht0 h;go_enter Tryz.func151,Tryz.ntmps151;go_wp2_with fail;refine ht.mono ?_;rintro e w1 ⟨a,n,c,rfl,J⟩;have hn:=ZcV J.out.2.1 J.out.1.symm (by rw [J.out.1]; exact hle);rw [hv1] at hn;clear ht hv1;go_wp2_with fail;refine hn.mono ?_;rintro e w2 ⟨rfl,rfl⟩;go_wp2;go_ret;exact ⟨rfl,J.out.2.2.1,J.out.2.2.2⟩
theorem Zkd {w:World} {R:Nat} {r:Rs} (h:Rdr w R r) (v:Nat) (r':Rs) (hv:rcnt r=(v,r')) :
  Calls Tryz.prog 152 #[.pointer (some ⟨R,0,none⟩)] w λ e w'=>e=.returned (.int .i64 (v:Int))/\Hid (Rdr w' R r'/\Zaa (λ i=>i=R) w w'):=by
 have ht:=Zfa h 1;have hle:=ZbN 1 r;have hv2:=Zgz r;rw [hv] at hv2;unfold rcnt at hv
 obtain ⟨t,ht0⟩:∃ t,rtake 1 r=t:=⟨_,rfl⟩
 rw [ht0] at ht hv hle
 obtain ⟨hv1,rfl⟩:val t.1=v/\t.2=r':=by simpa using hv
 clear hv ht0 h;go_enter Tryz.func152,Tryz.ntmps152;go_wp2_with fail;refine ht.mono ?_;rintro e w1 ⟨a,n,c,rfl,J⟩;have hn:=ZcV J.out.2.1 J.out.1.symm (by rw [J.out.1]; omega);rw [hv1] at hn
 have hw:IntKind.i64.wrap (v:Int)=(v:Int):=by rw [IntKind.wrap_i64]; omega
 clear ht hv1;go_wp2_with fail;refine hn.mono ?_;rintro e w2 ⟨rfl,rfl⟩;go_wp2;go_ret;exact ⟨rfl,J.out.2.2.1,J.out.2.2.2⟩
theorem Zkb {w:World} {R:Nat} {r:Rs} (h:Rdr w R r) (t:ByteArray) (r':Rs) (hv:rtxt r=(t.data.toList,r')) :
  Calls Tryz.prog 153 #[.pointer (some ⟨R,0,none⟩)] w λ e w'=>e=.returned (.string t)/\Hid (Rdr w' R r'/\Zaa (λ i=>i=R) w w'):=by
 obtain ⟨n,r1,hc⟩:∃ n r1,rcnt r=(n,r1):=⟨_,_,rfl⟩
 have hcn:=Zkd h n r1 hc;unfold rtxt at hv;rw [hc] at hv;simp only at hv;have HV:Hid (rtake n r1=(t.data.toList,r')):=hv;clear hv hc h;go_enter Tryz.func153,Tryz.ntmps153;go_wp2_with fail;refine hcn.mono ?_;rintro e w1 ⟨rfl,J⟩;have ht:=Zfa J.out.1 n;rw [HV.out] at ht;clear hcn;go_wp2_with fail;refine ht.mono ?_;rintro e w2 ⟨a,m,c,rfl,K⟩
 have hcv:(convert 39 9 (.slice a m c)).run Tryz.prog w2=.ok (.string t) w2:=by
  have:=ZaY K.out.2.1;simpa using this
 clear ht;go_wp2;go_ret;exact ⟨rfl,K.out.2.2.1,J.out.2.trans K.out.2.2.2 (λ _ _ q=>q)⟩
theorem ZnO {es:List En} {i:Nat} (h:¬ Tr (es.take i)):¬ Tr es:=λ q=>h (List.Pairwise.sublist (List.take_sublist i es) q)
theorem Zb1 {α:Type} {es:List α} {i:Nat} {e:α} (h:es[i]? = some e):es.take (i+1)=es.take i++[e]:=by
 rw [List.take_add_one,h]
 rfl
theorem Zfh {es:List En} {i:Nat} {e:En} (h:es[i]? = some e) (ht:((es.take i).all λ e=>isPath e.1)=true) (hx:isPath e.1=true):((es.take (i+1)).all λ e=>isPath e.1)=true:=by
 rw [Zb1 h,List.all_append,ht];simp [hx]
theorem ZfQ {es:List En} {i:Nat} {e:En} (h:es[i]? = some e) (hx:isPath e.1=false):(es.all λ e=>isPath e.1)=false :=
 List.all_eq_false.2 ⟨e,List.mem_of_getElem? h,by simp [hx]⟩
def Fine (es:List En):Prop:=∀ e∈es,e.1.length<=9223372036854775807
theorem ZcC {ao:Option Addr} {c n:Nat} {es:List En} (w:World) (hr:RdG encE w ao es) (hl:es.length=n) (hf:Fine es) (hc:n<=c) :
  Calls Tryz.prog 160 #[.slice ao n c] w λ e w'=>e=.returned (.int .i64 (ctree es))/\Below w.heap.size w w':=by
 by_cases h64:64<n
 ·have q:(64:Int)<(n:Int):=by omega
  have e:ctree es=4:=by unfold ctree; rw [if_pos (by omega)]
  rw [e];clear hr hl hf e hc;go_enter Tryz.func160,Tryz.ntmps160;go_wp2;go_ret;exact ⟨rfl,Below.refl _ _⟩
 have q:decide ((64:Int)<(n:Int))=false:=by rw [decide_eq_false_iff_not]; omega
 have H:Hid (RdG encE w ao es/\es.length=n/\Fine es/\n<=c):=⟨hr,hl,hf,hc⟩
 clear hr hl hf hc;go_enter Tryz.func160,Tryz.ntmps160;go_wp2_with fail;go_loopg [13] n (λ m iv wr=>∃ i:Nat,iv=.int .i64 i/\i+m=n/\Hid (((es.take i).all λ e=>isPath e.1)=true/\Below w.heap.size w wr))
 case atStart=>exact ⟨0,rfl,by omega,rfl,Below.refl _ _⟩
 case round =>
  obtain ⟨i,rfl,hi,HR⟩:=hrel;by_cases hin:i<n
  ·have id:(i:Int)<(n:Int):=by omega
   obtain ⟨e,he⟩:=Zaf H.out.2.1 hin;obtain ⟨b,off,rfl,hlt⟩:=H.out.1.some_of he;obtain ⟨_,c0,c1⟩:=(H.out.1.below HR.out.2).ents he;have hfe:=H.out.2.2.1 e (List.mem_of_getElem? he);obtain ⟨d,z⟩:=e
   obtain ⟨zi,hz⟩:∃ zi,(z.toNat:Int)=zi:=⟨_,rfl⟩
   simp only at c0 c1 hfe;rw [hz] at c1;have HE:Hid (es[i]? = some (d,z)):=he;clear he hz
   have hsz:(⟨d.toArray⟩:ByteArray).size<=9223372036854775807:=by show d.toArray.size<=_; simpa using hfe
   cases hp:isPath d with
   | true =>
    have hck:=Zfp ⟨d.toArray⟩ hsz true hp (wr.alloc (.cells #[tx d,.int .u64 zi] 91));rw [show err true=0 from rfl] at hck;clear hsz hfe;go_wp2_with fail;refine hck.mono ?_;rintro e w2 ⟨rfl,m2,rfl⟩;go_wp2;go_roundg (gk - 1)
    case measure=>omega
    case rel=>exact ⟨i+1,by go_num,by omega,Zfh HE.out HR.out.1 hp,HR.out.2.trans (((bz1 wr _).trans ((bdrewN _ _).mono (bz1 wr _).size)).mono HR.out.2.size)⟩
   | false =>
    have hck:=Zfp ⟨d.toArray⟩ hsz false hp (wr.alloc (.cells #[tx d,.int .u64 zi] 91));rw [show err false=2 from rfl] at hck
    have hct:ctree es=2:=by
     unfold ctree;rw [if_neg (by rw [H.out.2.1]; exact h64),if_pos (ZfQ HE.out hp)]
    clear hsz hfe;go_wp2_with fail;refine hck.mono ?_;rintro e w2 ⟨rfl,m2,rfl⟩;go_wp2;go_ret;exact ⟨by rw [hct]; rfl,HR.out.2.trans (((bz1 wr _).trans ((bdrewN _ _).mono (bz1 wr _).size)).mono HR.out.2.size)⟩
  ·obtain rfl:i=n:=by omega
   have hall:=HR.out.1;rw [List.take_of_length_le (by rw [H.out.2.1]; omega)] at hall
   have HA:Hid (((es.all λ e=>isPath e.1)=true)/\Below w.heap.size w wr):=⟨hall,HR.out.2⟩
   obtain ⟨w1,hw1⟩:∃ w1,w1=wr:=⟨_,rfl⟩
   rw [<- hw1] at HA ⊢;clear hall hw1 HR wr hin hi;go_wp2_with fail;go_loopg [26] i (λ m iv wr=>∃ k:Nat,iv=.int .i64 k/\k+m=i/\Hid (Tr (es.take k)/\Below w.heap.size w wr))
   case atStart=>exact ⟨0,rfl,by omega,List.Pairwise.nil,HA.out.2⟩
   case round =>
    obtain ⟨k,rfl,hi,HR⟩:=hrel;by_cases hin:k<i
    ·have id:(k:Int)<(i:Int):=by omega
     have hk0:(0:Int)<=(k:Int):=by omega
     obtain ⟨e,he⟩:=Zaf H.out.2.1 hin;obtain ⟨b,off,rfl,hlt⟩:=H.out.1.some_of he;obtain ⟨_,c0,c1⟩:=(H.out.1.below HR.out.2).ents he;obtain ⟨d,z⟩:=e
     obtain ⟨zi,hz⟩:∃ zi,(z.toNat:Int)=zi:=⟨_,rfl⟩
     simp only at c0 c1;rw [hz] at c1;have HE:Hid (es[k]? = some (d,z)):=he;obtain ⟨a3,c3,s3,o3,_,r3⟩:=Zg4 encE 91 100 24 _ Tryz.info91 Tryz.underlying100 (by kernel_rfl) (ao:=some ⟨b,off,none⟩) (k:=k) H.out.2.2.2 (by omega)
     obtain ⟨W2,hW2⟩:∃ W2,wr.alloc (.cells #[tx d,.int .u64 zi] 91)=W2:=⟨_,rfl⟩
     have b2:Below wr.heap.size wr W2:=by rw [<- hW2]; exact bz1 _ _
     have bx:Box W2 wr.heap.size 91 (tx d) (.int .u64 zi):=by rw [<- hW2]; exact Box.new _ _ _ _
     have NE:Nonempty (SW (Grew W2)):=⟨⟨W2,Below.refl _ _⟩⟩
     have k0:∀ u:SW (Grew W2),u.w.cell? ⟨wr.heap.size,0,none⟩=some (tx d):=λ u=>((bx.below u.ok).cells).1
     obtain ⟨f,hff⟩:∃ f,fits d (es.take k)=f:=⟨_,rfl⟩
     have hfi:∀ u:SW (Grew W2),Calls Tryz.prog 221 #[tx d,.slice a3 k c3] u.w λ e w'=>e=.returned (.bool f)/\∃ u':SW (Grew W2),w'=u'.w:=λ u=>by
      refine (Zlq d u.w (r3 u.w es (((H.out.1.below HR.out.2).below b2).below u.ok)) (by rw [List.length_take,H.out.2.1]; omega) (by omega) f hff).mono ?_;rintro e w' ⟨rfl,hb⟩;exact ⟨rfl,⟨w',u.ok.trans (hb.mono u.ok.size)⟩,rfl⟩
     have HF:Hid (fits d (es.take k)=f/\Below w.heap.size w W2):=⟨hff,HR.out.2.trans (b2.mono HR.out.2.size)⟩
     clear he hz bx b2 r3 o3 hff;go_wp2_with fail;refine Zab (S:=Grew W2) (by kernel_rfl) (by kernel_rfl) (Below.refl _ W2).drew ?_
     repeat (go_big_quiet_step (with_reducible exact hfi _))
     refine wpQuiet_nil ?_;intro _ hw';obtain ⟨u,hw''⟩:=hw';subst hw'';have N4:Hid (Below w.heap.size w u.w):=HF.out.2.trans (u.ok.mono HF.out.2.size)
     obtain ⟨w4,hw4⟩:∃ w4,w4=u.w:=⟨_,rfl⟩
     rw [<- hw4] at N4 ⊢;clear hw4 k0 hfi NE u;have fi:=Zlr (x:=(d,z)) HR.out.1;rw [<- Zb1 HE.out] at fi;simp only at fi;rw [HF.out.1] at fi
     cases f with
     | true =>
      have T:Hid (Tr (es.take (k+1))):=fi.1 rfl;clear fi;go_wp2;go_roundg (gk - 1)
      case measure=>omega
      case rel=>exact ⟨k+1,by go_num,by omega,T.out,N4.out⟩
     | false =>
      have hct:ctree es=12:=by
       unfold ctree;rw [if_neg (by rw [H.out.2.1]; exact h64),if_neg (by rw [HA.out.1]; decide),if_neg (ZnO (i:=k+1) (λ q=>by have:=fi.2 q; cases this))]
      clear fi;go_wp2;go_ret;exact ⟨by rw [hct]; rfl,N4.out⟩
    ·obtain rfl:k=i:=by omega
     have htr:=HR.out.1;rw [List.take_of_length_le (by rw [H.out.2.1]; omega)] at htr;have hct:ctree es=0:=Zhu (by rw [H.out.2.1]; omega) HA.out.1 htr;clear htr;go_wp2;go_ret;exact ⟨by rw [hct]; rfl,HR.out.2⟩
theorem Zew {es:List En} {i:Nat} {e:En} (h:es[i]? = some e):treeB (es.take (i+1))=treeB (es.take i)++(UInt8.ofNat e.1.length::e.1)++b8 e.2:=by
 rw [Zb1 h,ZcF];simp [entB]
theorem ZdY:∀ {es:List En},Sm es->(treeB es).length<=264*es.length
 | [],_=>by simp [treeB]
 | e::t,h=>by
  have:=ZdY (es:=t) (λ x hx=>h x (List.mem_cons_of_mem _ hx));have h1:=h e List.mem_cons_self;simp only [treeB,List.flatMap_cons,List.length_append,Zdj,List.length_cons] at this ⊢;omega
theorem ZkO {ao:Option Addr} {c n:Nat} {es:List En} (w:World) (hr:RdG encE w ao es) (hl:es.length=n) (hf:Fine es) (hc:n<=c) (ce:Int) (h:ctree es=ce) (h0:ce≠0) :
  Calls Tryz.prog 107 #[.slice ao n c] w λ e w'=>e=.returned (.tuple #[.slice none 0 0,.int .i64 ce])/\Below w.heap.size w w':=by
 have hct:=ZcC w hr hl hf hc;rw [h] at hct
 have m0:(ce==0)=false:=by simpa using h0
 have m1:(ce != 0)=true:=by simpa using h0
 clear hr hl hf hc h h0;go_enter Tryz.func107,Tryz.ntmps107;go_wp2_with fail;refine hct.mono ?_;rintro e w1 ⟨rfl,hb⟩;go_wp2;refine bodyPost_ret (results_tmp2 rfl _ _ _) rfl ?_;exact ⟨rfl,hb⟩
theorem ZmI {ao:Option Addr} {c n:Nat} {es:List En} (w:World) (hr:RdG encE w ao es) (hl:es.length=n) (hf:Fine es) (hc:n<=c) (h:ctree es=0) :
  Calls Tryz.prog 107 #[.slice ao n c] w λ e w'=>∃ v,e=.returned (.tuple #[v,.int .i64 0])/\Hid (OwnG encB 5 w' w.heap.size v (treeB es)/\Below w.heap.size w w'):=by
 have hct:=ZcC w hr hl hf hc;rw [h] at hct
 have hn:n<=64:=by rw [<- hl]; exact (ZaQ h).1
 have H:Hid (RdG encE w ao es/\es.length=n/\Sm es):=⟨hr,hl,Zb3 h⟩
 clear hr hl hf hc h;go_enter Tryz.func107,Tryz.ntmps107;go_wp2_with fail;refine hct.mono ?_;rintro e w1 ⟨rfl,hb1⟩;have HB:Hid (Below w.heap.size w w1):=hb1;clear hb1 hct;go_wp2_with fail;go_loopg [5,15] n (λ m rv iv wr=>∃ i:Nat,iv=.int .i64 i/\i+m=n/\Hid (OwnG encB 5 wr w.heap.size rv (treeB (es.take i))/\Below w.heap.size w wr))
 case atStart=>exact ⟨0,rfl,by omega,OwnG.nil _ _ _ _,HB.out⟩
 case round =>
  obtain ⟨i,rfl,hi,HR⟩:=hrel;by_cases hin:i<n
  ·have id:(i:Int)<(n:Int):=by omega
   obtain ⟨e,he⟩:=Zaf H.out.2.1 hin;obtain ⟨b,off,rfl,hlt⟩:=H.out.1.some_of he;obtain ⟨_,c0,c1⟩:=(H.out.1.below HR.out.2).ents he;have hsm:=H.out.2.2 e (List.mem_of_getElem? he)
   have hlen:(treeB (es.take i)).length<=264*64:=by
    have h1:=ZdY (es:=es.take i) (λ x hx=>H.out.2.2 x (List.mem_of_mem_take hx))
    have h2:(es.take i).length<=64:=by rw [List.length_take,H.out.2.1]; omega
    omega
   obtain ⟨d,z⟩:=e;have hst:=Zew he;simp only at c0 c1 hsm hst
   obtain ⟨W2,hW2⟩:∃ W2,wr.alloc (.cells #[tx d,.int .u64 (z.toNat:Int)] 91)=W2:=⟨_,rfl⟩
   have b2:Below wr.heap.size wr W2:=by rw [<- hW2]; exact bz1 _ _
   have bx:Box W2 wr.heap.size 91 (tx d) (.int .u64 (z.toNat:Int)):=by rw [<- hW2]; exact Box.new _ _ _ _
   have B2:=HR.out.2.trans (b2.mono HR.out.2.size);have hat:=ZdX d hsm (HR.out.1.below b2) B2.size (by omega)
   have J2:Hid (Box W2 wr.heap.size 91 (tx d) (.int .u64 (z.toNat:Int))/\Below w.heap.size w W2/\(∀ g,u5.ownBlock=some g->g<wr.heap.size)/\treeB (es.take (i+1))=treeB (es.take i)++(UInt8.ofNat d.length::d)++b8 z/\(treeB (es.take i)).length<=264*64/\d.length<=255):=⟨bx,B2,λ g hg=>(HR.out.1.lt g hg).2,hst,hlen,hsm⟩
   obtain ⟨y0,y1⟩:=bx.cells;clear he bx b2 B2 hst hlen hsm;go_wp2_with fail;refine hat.mono ?_;rintro e w3 ⟨v3,rfl,J3⟩;clear y0 y1;have bx3:=J2.out.1.turned J3.out.2.2 (λ q=>by have:=J2.out.2.2.1 _ q; omega);obtain ⟨x0,x1⟩:=bx3.cells;have B3:=J2.out.2.1.trans J3.out.2.1;have han:=Zb2 z.toNat J3.out.1 B3.size (by rw [List.length_append]; have h1:=J2.out.2.2.2.2.1; have h2:=J2.out.2.2.2.2.2; simp; omega);have J4:Hid (Below w.heap.size w w3):=B3;clear hat B3 c0 c1 bx3;go_wp2_with fail;refine han.mono ?_;rintro e w4 ⟨v4,rfl,J5⟩;clear han x0 x1;go_wp2;go_roundg (gk - 1)
   case measure=>omega
   case rel=>exact ⟨i+1,by go_num,by omega,by rw [J2.out.2.2.2.1]; exact J5.out.1,J4.out.trans J5.out.2.1⟩
  ·obtain rfl:i=n:=by omega
   have htk:es.take i=es:=List.take_of_length_le (by rw [H.out.2.1]; omega);rw [htk] at HR;go_wp2;refine bodyPost_ret (results_tmp2 rfl _ _ _) rfl ?_;exact ⟨_,rfl,HR.out.1,HR.out.2⟩
theorem Zln {ao:Option Addr} {c n:Nat} {es:List En} (w:World) (hr:RdG encE w ao es) (hl:es.length=n) (hf:Fine es) (hc:n<=c) :
  Calls Tryz.prog 107 #[.slice ao n c] w λ e w'=>∃ v,e=.returned (.tuple #[v,.int .i64 (ftree es).2])/\Hid (OwnG encB 5 w' w.heap.size v (ftree es).1/\Below w.heap.size w w'):=by
 unfold ftree;by_cases h:ctree es=0
 ·rw [if_pos h];exact ZmI w hr hl hf hc h
 ·rw [if_neg h];refine (ZkO w hr hl hf hc _ rfl h).mono ?_;rintro e w' ⟨rfl,hb⟩;exact ⟨_,rfl,OwnG.nil _ _ _ _,hb⟩
theorem Zd5 {xs:List UInt64} {i:Nat} {x:UInt64} (h:xs[i]? = some x) (hn:(xs.take i).Nodup) (hx:(xs.take i).any (λ y=>x==y)=false):(xs.take (i+1)).Nodup:=by
 rw [List.take_add_one,h];show (xs.take i++[x]).Nodup;rw [List.nodup_append];refine ⟨hn,by simp,?_⟩;intro a ha b hb
 obtain rfl:b=x:=by simpa using hb
 rw [List.any_eq_false] at hx;have:=hx a ha;intro e;subst e;simp at this
theorem Zfu {xs:List UInt64} {i:Nat} {x:UInt64} (h:xs[i]? = some x) (hx:(xs.take i).any (λ y=>x==y)=true):¬ xs.Nodup:=by
 intro hn;obtain ⟨y,hy,e⟩:=List.any_eq_true.1 hx
 obtain rfl:x=y:=by simpa using e
 have hs:(xs.take (i+1)).Nodup:=hn.sublist (List.take_sublist _ _);rw [List.take_add_one,h] at hs;have hs':(xs.take i++[x]).Nodup:=hs;rw [List.nodup_append] at hs';exact hs'.2.2 x hy x (by simp) rfl
section
variable {w:World} {c:Cm} {pa:Option Addr} {pn pc:Nat}
theorem ZeX (hr:RdG encU w pa c.ps) (hl:c.ps.length=pn) (hpc:pn<=pc) (nt:ByteArray) (hnt:nt=⟨c.note.toArray⟩) (dt:Int) (hdt:c.date=dt) (tr:Int) :
  Calls Tryz.prog 154 #[.agg #[.int .u64 tr,.slice pa pn pc,.int .i64 dt,.string nt]] w λ e w'=>e=.returned (.int .i64 (ccom c))/\Below w.heap.size w w':=by
 have hnl:nt.size=c.note.length:=by rw [hnt]; show c.note.toArray.size=_; simp
 by_cases h8:8<pn
 ·have q:(8:Int)<(pn:Int):=by omega
  have e:ccom c=4:=by unfold ccom; rw [if_pos (by omega)]
  rw [e];clear hr hl hnt hnl e hpc hdt;go_enter Tryz.func154,Tryz.ntmps154;go_wp2;go_ret;exact ⟨rfl,bz1 _ _⟩
 have q:decide ((8:Int)<(pn:Int))=false:=by rw [decide_eq_false_iff_not]; omega
 by_cases h64:64<nt.size
 ·have q2:(64:Int)<(nt.size:Int):=by omega
  have e:ccom c=4:=by unfold ccom; rw [if_pos (by omega)]
  rw [e];clear hr hl hnt hnl e hpc hdt;go_enter Tryz.func154,Tryz.ntmps154;go_wp2;go_ret;exact ⟨rfl,bz1 _ _⟩
 have q2:decide ((64:Int)<(nt.size:Int))=false:=by rw [decide_eq_false_iff_not]; omega
 have h4:¬ (8<c.ps.length∨64<c.note.length):=by omega
 obtain ⟨W,hW⟩:∃ W,w.alloc (.cells #[.int .u64 tr,.slice pa pn pc,.int .i64 dt,.string nt] 67)=W:=⟨_,rfl⟩
 have bW:Below w.heap.size w W:=by rw [<- hW]; exact bz1 _ _
 have bx:Box4 W w.heap.size 67 (.int .u64 tr) (.slice pa pn pc) (.int .i64 dt) (.string nt):=by rw [<- hW]; exact Box4.new _ _ _ _ _ _
 obtain ⟨x0,x1,x2,x3⟩:=bx.cells
 have H:Hid (RdG encU W pa c.ps/\c.ps.length=pn/\pn<=pc/\Below w.heap.size w W/\¬ (8<c.ps.length∨64<c.note.length)/\c.date=dt):=⟨hr.below bW,hl,hpc,bW,h4,hdt⟩
 clear hr hl hnt hnl hpc bW bx h4 hdt;go_enter Tryz.func154,Tryz.ntmps154;go_wp2_with fail;go_loopg [18] pn (λ m iv wr=>∃ i:Nat,iv=.int .i64 i/\i+m=pn/\wr=W/\Hid ((c.ps.take i).Nodup))
 case atStart=>exact ⟨0,rfl,by omega,rfl,by simp [Hid]⟩
 case round =>
  obtain ⟨i,rfl,hi,rfl,HR⟩:=hrel;by_cases hin:i<pn
  ·have id:(i:Int)<(pn:Int):=by omega
   have id0:(0:Int)<=(i:Int):=by omega
   obtain ⟨x,hx⟩:=Zaf H.out.2.1 hin;obtain ⟨b,off,rfl,hlt⟩:=H.out.1.some_of hx;obtain ⟨_,c0⟩:=H.out.1.nums hx;obtain ⟨a3,c3,s3,o3,_,r3⟩:=Zg4 encU 53 33 8 _ Tryz.info53 Tryz.underlying33 (by kernel_rfl) (ao:=some ⟨b,off,none⟩) (k:=i) H.out.2.2.1 (by omega)
   obtain ⟨f,hf⟩:∃ f,(c.ps.take i).any (λ y=>x==y)=f:=⟨_,rfl⟩
   have hc:=Zfq (n:=i) (c:=c3) x wr (r3 wr _ H.out.1) (by rw [List.length_take,H.out.2.1]; omega) (by omega) f hf
   have HX:Hid (c.ps[i]? = some x/\(c.ps.take i).any (λ y=>x==y)=f):=⟨hx,hf⟩
   clear hx hf r3 o3
   cases f with
   | true =>
    have hct:ccom c=6:=by
     unfold ccom;rw [if_neg H.out.2.2.2.2.1,if_pos (Zfu HX.out.1 HX.out.2)]
    go_wp2_with fail;refine hc.mono ?_;rintro e w2 ⟨rfl,hw2⟩;rw [hw2];go_wp2;go_ret;exact ⟨by first | rfl | (rw [hct]; rfl),H.out.2.2.2.1⟩
   | false =>
    go_wp2_with fail;refine hc.mono ?_;rintro e w2 ⟨rfl,hw2⟩;rw [hw2];go_wp2;go_roundg (gk - 1)
    case measure=>omega
    case rel=>exact ⟨i+1,by go_num,by omega,rfl,Zd5 HX.out.1 HR.out HX.out.2⟩
  ·obtain rfl:i=pn:=by omega
   have hnd:=HR.out;rw [List.take_of_length_le (by rw [H.out.2.1]; omega)] at hnd;by_cases hd:dt<0
   ·have d1:decide (dt<0)=true:=by simpa using hd
    have hct:ccom c=3:=by
     unfold ccom;rw [if_neg H.out.2.2.2.2.1,if_neg (by simpa using hnd),if_pos (by rw [H.out.2.2.2.2.2]; exact .inl hd)]
    clear hnd;go_wp2;go_ret;exact ⟨by first | rfl | (rw [hct]; rfl),H.out.2.2.2.1⟩
   ·have d1:decide (dt<0)=false:=by simpa using hd
    by_cases hd2:1099511627776<dt
    ·have d2:decide (1099511627776<dt)=true:=by simpa using hd2
     have hct:ccom c=3:=by
      unfold ccom;rw [if_neg H.out.2.2.2.2.1,if_neg (by simpa using hnd),if_pos (by rw [H.out.2.2.2.2.2]; exact .inr hd2)]
     clear hnd;go_wp2;go_ret;exact ⟨by first | rfl | (rw [hct]; rfl),H.out.2.2.2.1⟩
    ·have d2:decide (1099511627776<dt)=false:=by simpa using hd2
     have hct:ccom c=0:=by
      unfold ccom;rw [if_neg H.out.2.2.2.2.1,if_neg (by simpa using hnd),if_neg (by rw [H.out.2.2.2.2.2]; omega)]
     clear hnd;go_wp2;go_ret;exact ⟨by first | rfl | (rw [hct]; rfl),H.out.2.2.2.1⟩
theorem Zmd {d:Int} (h0:0<=d):low 8 d.toNat=b8 (dw d):=by
 unfold b8
 have key:∀ k a b,a % 256 ^ k=b % 256 ^ k->low k a=low k b:=by
  intro k a b h;have h1:=Zgo (low k a);have h2:=Zgo (low k b);rw [Zav,ZgM] at h1 h2;rw [<- h1,<- h2,h]
 apply key;have:=Zha d
 have e:256 ^ 8=18446744073709551616:=by decide
 omega
theorem ZmC (hr:RdG encU w pa c.ps) (hl:c.ps.length=pn) (hpc:pn<=pc) (nt:ByteArray) (hnt:nt=⟨c.note.toArray⟩) (dt:Int) (hdt:c.date=dt) (tr:Int) (ce:Int) (h:ccom c=ce) (h0:ce≠0) :
  Calls Tryz.prog 120 #[.agg #[.int .u64 tr,.slice pa pn pc,.int .i64 dt,.string nt]] w λ e w'=>e=.returned (.tuple #[.slice none 0 0,.int .i64 ce])/\Below w.heap.size w w':=by
 obtain ⟨W,hW⟩:∃ W,w.alloc (.cells #[.int .u64 tr,.slice pa pn pc,.int .i64 dt,.string nt] 67)=W:=⟨_,rfl⟩
 have bW:Below w.heap.size w W:=by rw [<- hW]; exact bz1 _ _
 have bx:Box4 W w.heap.size 67 (.int .u64 tr) (.slice pa pn pc) (.int .i64 dt) (.string nt):=by rw [<- hW]; exact Box4.new _ _ _ _ _ _
 obtain ⟨x0,x1,x2,x3⟩:=bx.cells;have hct:=ZeX (hr.below bW) hl hpc nt hnt dt hdt tr;rw [h] at hct
 have m0:(ce==0)=false:=by simpa using h0
 have m1:(ce != 0)=true:=by simpa using h0
 have H:Hid (Below w.heap.size w W):=bW;clear hr hl hpc hnt hdt h h0 bW bx;go_enter Tryz.func120,Tryz.ntmps120;go_wp2_with fail;refine hct.mono ?_;rintro e w1 ⟨rfl,hb⟩;go_wp2;refine bodyPost_ret (results_tmp2 rfl _ _ _) rfl ?_;exact ⟨rfl,H.out.trans (hb.mono H.out.size)⟩
theorem ZnN (hr:RdG encU w pa c.ps) (hl:c.ps.length=pn) (hpc:pn<=pc) (nt:ByteArray) (hnt:nt=⟨c.note.toArray⟩) (dt:Int) (hdt:c.date=dt) (h:ccom c=0) :
  Calls Tryz.prog 120 #[.agg #[.int .u64 (c.tree.toNat:Int),.slice pa pn pc,.int .i64 dt,.string nt]] w λ e w'=>∃ v,e=.returned (.tuple #[v,.int .i64 0])/\Hid (OwnG encB 5 w' w.heap.size v (comB c)/\Below w.heap.size w w'):=by
 obtain ⟨W,hW⟩:∃ W,w.alloc (.cells #[.int .u64 (c.tree.toNat:Int),.slice pa pn pc,.int .i64 dt,.string nt] 67)=W:=⟨_,rfl⟩
 have bW:Below w.heap.size w W:=by rw [<- hW]; exact bz1 _ _
 have sW:W.heap.size=w.heap.size+1:=by rw [<- hW]; simp
 have bx:Box4 W w.heap.size 67 (.int .u64 (c.tree.toNat:Int)) (.slice pa pn pc) (.int .i64 dt) (.string nt):=by rw [<- hW]; exact Box4.new _ _ _ _ _ _
 obtain ⟨x0,x1,x2,x3⟩:=bx.cells;have hct:=ZeX (hr.below bW) hl hpc nt hnt dt hdt (c.tree.toNat:Int);rw [h] at hct;obtain ⟨g1,g2,_,g4,g5⟩:=Za3 h;rw [hdt] at g4 g5
 have hpn:pn<=8:=by omega
 have hww:IntKind.u64.wrap dt=(dt.toNat:Int):=by rw [IntKind.wrap_u64]; omega
 obtain ⟨y,hy⟩:∃ y:UInt8,UInt8.ofNat pn=y:=⟨_,rfl⟩
 have HY:Hid ((y.toNat:Int)=(pn:Int)):=by show _=_; rw [<- hy,UInt8.toNat_ofNat']; omega
 obtain ⟨dn,hdn⟩:∃ dn,dt.toNat=dn:=⟨_,rfl⟩
 rw [hdn] at hww
 have hld:low 8 dn=b8 (dw c.date):=by rw [<- hdn,hdt]; exact Zmd g4
 have H:Hid (Below w.heap.size w W/\W.heap.size=w.heap.size+1/\Box4 W w.heap.size 67 (.int .u64 (c.tree.toNat:Int)) (.slice pa pn pc) (.int .i64 dt) (.string nt)/\RdG encU W pa c.ps/\c.ps.length=pn/\UInt8.ofNat pn=y/\low 8 dn=b8 (dw c.date)/\nt=⟨c.note.toArray⟩/\c.note.length<=64):=⟨bW,sW,bx,hr.below bW,hl,hy,hld,hnt,g2⟩
 clear hr hl hpc hnt hdt h bW bx sW hy hld hdn g1 g2 g4 g5;go_enter Tryz.func120,Tryz.ntmps120;go_wp2_with fail;refine hct.mono ?_;rintro e w1 ⟨rfl,hb1⟩;have B1:Hid (Below W.heap.size W w1):=hb1;clear hb1 hct x0 x1 x2 x3;obtain ⟨x0,x1,x2,x3⟩:=(H.out.2.2.1.below B1.out (by have:=H.out.2.1; omega)).cells;have h1:=Zb2 c.tree.toNat (OwnG.nil encB 5 w1 W.heap.size) B1.out.size (by simp);rw [List.nil_append] at h1;go_wp2_with fail;refine h1.mono ?_;rintro e w2 ⟨v2,rfl,J2⟩;have B2:Hid (Below W.heap.size W w2):=B1.out.trans J2.out.2.1;clear h1 x0 x1 x2 x3;obtain ⟨x0,x1,x2,x3⟩:=(H.out.2.2.1.below B2.out (by have:=H.out.2.1; omega)).cells;have h64:(low 8 c.tree.toNat).length=8:=Zav _ _;go_wp2_with (at_builtin; refine Zak encB 5 39 1 (.int .u8 0) rfl Tryz.info5 Tryz.underlying39 rfl (.tmp 16) (.tmp 21) rfl W.heap.size _ _ y _ rfl J2.out.1 rfl (by rw [h64]; omega) (by rw [h64]; simp only [maxLen]; omega) B2.out.size _ (by show _=#[Value.int .u8 (y.toNat:Int)]; rw [HY.out]) ?_; intro v3 w3 ho3 hb3 _ _; have B3:Hid (Below W.heap.size W w3/\OwnG encB 5 w3 W.heap.size v3 (low 8 c.tree.toNat++[y])):=⟨B2.out.trans hb3,ho3⟩; clear ho3 hb3 x0 x1 x2 x3; have x4:=(H.out.2.2.1.below B3.out.1 (by have:=H.out.2.1; omega)).cells; obtain ⟨x0,x1,x2,x3⟩:=x4);go_loopg [5,26] pn (λ m bv iv wr=>∃ i:Nat,iv=.int .i64 i/\i+m=pn/\Hid (OwnG encB 5 wr W.heap.size bv (low 8 c.tree.toNat++[y]++psB (c.ps.take i))/\Below W.heap.size W wr))
 case atStart=>exact ⟨0,rfl,by omega,by simpa [psB] using B3.out.2,B3.out.1⟩
 case round =>
  obtain ⟨i,rfl,hi,HR⟩:=hrel;by_cases hin:i<pn
  ·have id:(i:Int)<(pn:Int):=by omega
   obtain ⟨x,hx⟩:=Zaf H.out.2.2.2.2.1 hin;obtain ⟨b,off,rfl,hlt⟩:=H.out.2.2.2.1.some_of hx;obtain ⟨_,c0⟩:=(H.out.2.2.2.1.below HR.out.2).nums hx
   have hps:psB (c.ps.take (i+1))=psB (c.ps.take i)++b8 x:=by rw [List.take_add_one,hx]; exact Zdp _ _
   have hln:(low 8 c.tree.toNat++[y]++psB (c.ps.take i)).length<=1000:=by
    rw [List.length_append,List.length_append,h64,ZcQ,List.length_take];simp;omega
   have ha:=Zb2 x.toNat HR.out.1 HR.out.2.size (by omega);have HP:Hid (psB (c.ps.take (i+1))=psB (c.ps.take i)++b8 x):=hps;clear hps hln hx;go_wp2_with fail;refine ha.mono ?_;rintro e w4 ⟨v4,rfl,J4⟩;clear ha;go_wp2;go_roundg (gk - 1)
   case measure=>omega
   case rel=>exact ⟨i+1,by go_num,by omega,by rw [HP.out,<- List.append_assoc]; exact J4.out.1,HR.out.2.trans J4.out.2.1⟩
  ·obtain rfl:i=pn:=by omega
   have htk:c.ps.take i=c.ps:=List.take_of_length_le (by have:=H.out.2.2.2.2.1; omega)
   have HQ:Hid (OwnG encB 5 wr W.heap.size u5 (low 8 c.tree.toNat++[y]++psB c.ps)/\Below W.heap.size W wr):=by
    have:=HR.out;rw [htk] at this;exact this
   have hln:(low 8 c.tree.toNat++[y]++psB c.ps).length<=1000:=by
    rw [List.length_append,List.length_append,h64,ZcQ];have:=H.out.2.2.2.2.1;simp;omega
   have ha:=Zb2 dn HQ.out.1 HQ.out.2.size (by omega);clear x0 x1 x2 x3;obtain ⟨x0,x1,x2,x3⟩:=(H.out.2.2.1.below HQ.out.2 (by have:=H.out.2.1; omega)).cells;clear htk HR;go_wp2_with fail;refine ha.mono ?_;rintro e w5 ⟨v5,rfl,J5⟩;have B5:Hid (Below W.heap.size W w5):=HQ.out.2.trans J5.out.2.1;clear ha x0 x1 x2 x3;obtain ⟨x0,x1,x2,x3⟩:=(H.out.2.2.1.below B5.out (by have:=H.out.2.1; omega)).cells;have hb':=ZdX c.note (by have:=H.out.2.2.2.2.2.2.2.2; omega) J5.out.1 B5.out.size (by rw [List.length_append,Zav]; omega);rw [show tx c.note=.string nt by rw [H.out.2.2.2.2.2.2.2.1]] at hb';go_wp2_with fail;refine hb'.mono ?_;rintro e w6 ⟨v6,rfl,J6⟩;have B6:Hid (Below W.heap.size W w6):=B5.out.trans J6.out.2.1;clear hb' x0 x1 x2 x3;go_wp2;refine bodyPost_ret (results_tmp2 rfl _ _ _) rfl ?_
   have ec:low 8 c.tree.toNat++[y]++psB c.ps++low 8 dn++UInt8.ofNat c.note.length::c.note=comB c:=by
    unfold comB;rw [H.out.2.2.2.2.2.2.1,H.out.2.2.2.2.1,H.out.2.2.2.2.2.1];simp [b8]
   refine ⟨_,rfl,?_,H.out.1.trans (B6.out.mono H.out.1.size)⟩;rw [<- ec];exact J6.out.1.low H.out.1.size
theorem ZmT (hr:RdG encU w pa c.ps) (hl:c.ps.length=pn) (hpc:pn<=pc) (nt:ByteArray) (hnt:nt=⟨c.note.toArray⟩) (dt:Int) (hdt:c.date=dt) :
  Calls Tryz.prog 120 #[.agg #[.int .u64 (c.tree.toNat:Int),.slice pa pn pc,.int .i64 dt,.string nt]] w λ e w'=>∃ v,e=.returned (.tuple #[v,.int .i64 (fcom c).2])/\Hid (OwnG encB 5 w' w.heap.size v (fcom c).1/\Below w.heap.size w w'):=by
 unfold fcom;by_cases h:ccom c=0
 ·rw [if_pos h];exact ZnN hr hl hpc nt hnt dt hdt h
 ·rw [if_neg h];refine (ZmC hr hl hpc nt hnt dt hdt _ _ rfl h).mono ?_;rintro e w' ⟨rfl,hb⟩;exact ⟨_,rfl,OwnG.nil _ _ _ _,hb⟩
end
theorem Zjp (bs:Bs):encB.all bs=bs.map (λ x=>Value.int .u8 (x.toNat:Int)):=by
 induction bs with
 | nil=>rfl
 | cons x t ih =>
  show encB.cells x++encB.all t=_;rw [ih]
  rfl
theorem Zjg (w:World) (bs:Bs) (base:Nat) (hb:base<=w.heap.size) (hl:bs.length<=1000000) (c:Array Value) (hc:c=(bs.map (λ x=>Value.int .u8 (x.toNat:Int))).toArray) (n:Nat) (hn:n=bs.length):OwnG encB 5 (w.alloc (.cells c 5)) base (.slice (some ⟨w.heap.size,0,none⟩) n n) bs:=by
 subst hc hn;refine ⟨encB.all_length bs,.inr ⟨w.heap.size,bs.length,_,rfl,hb,heap_alloc_new w _,Nat.le_refl _,by simp only [maxLen]; omega,?_,?_⟩⟩
 ·show (List.map _ bs).toArray.size=bs.length*1;simp
 ·rw [Zjp];show List.take (bs.length*1) (List.map _ bs)=_;rw [List.take_of_length_le (by simp)]
theorem bz3d (u:World) (o1 o2 o3:Obj):Below u.heap.size u (((u.alloc o1).alloc o2).alloc o3).drew:=((bz2 u o1 o2).trans ((bz1 _ o3).mono (bz2 u o1 o2).size)).drew
theorem ZgI {w:World} {u v z:Value} {x y t:Bs} (h:BAt w u x) (k:BAt w v y) (m:BAt w z t) (ty:TypeId):Zau (w.alloc (.cells #[u,v,z] ty)) (.slice (some ⟨w.heap.size,0,none⟩) 3 3) [x,y,t]:=by
 refine ⟨_,3,rfl,λ _=>⟨w.heap.size,0,rfl,by simp⟩,λ j q b off hz hb=>?_⟩;cases hb
 match j,hz with
 | 0,hz =>
  cases hz;exact ⟨u,by simp,h.below (bz1 w _)⟩
 | 1,hz =>
  cases hz;exact ⟨v,by simp,k.below (bz1 w _)⟩
 | 2,hz =>
  cases hz;exact ⟨z,by simp,m.below (bz1 w _)⟩
 | j+3,hz=>simp at hz
theorem Zj9 (n:Nat) (hn:n<4294967296) (w:World) :
  Calls Tryz.prog 228 #[.int .u32 (n:Int)] w λ e w'=>∃ cs,e=.returned (.slice (some ⟨w.heap.size,0,none⟩) 4 4)/\w'=w.alloc (.cells cs 5)/\Hid (cs=((b4 n).map (λ x=>Value.int .u8 (x.toNat:Int))).toArray):=by
 refine (ZkP n hn w).mono ?_;rintro e w' ⟨rfl,rfl⟩;exact ⟨_,rfl,rfl,rfl⟩
theorem ZnD (u:World) (n:Nat) (y:UInt8) (cs:Array Value) (hcs:cs=((b4 n).map (λ x=>Value.int .u8 (x.toNat:Int))).toArray):OwnG encB 5 ((u.alloc (.cells cs 5)).alloc (.cells #[.int .u8 (y.toNat:Int)] 5)) u.heap.size (.slice (some ⟨u.heap.size,0,none⟩) 4 4) (b4 n) /\
  ∀ j v,(encB.cells y)[j]? = some v->((u.alloc (.cells cs 5)).alloc (.cells #[.int .u8 (y.toNat:Int)] 5)).cell? ((⟨u.heap.size+1,0,none⟩:Addr).add j)=some v:=by
 refine ⟨(Zjg u (b4 n) u.heap.size (Nat.le_refl _) (by rw [Zbj]; decide) cs hcs 4 (Zbj n).symm).below (bz1 _ _),?_⟩;have:=ZaC encB (u.alloc (.cells cs 5)) y 5;rw [show (u.alloc (.cells cs 5)).heap.size=u.heap.size+1 by simp] at this;exact this
theorem Zmi (u:World) (n:Nat) (y:UInt8) (cs:Array Value) (hcs:cs=((b4 n).map (λ x=>Value.int .u8 (x.toNat:Int))).toArray):OwnG encB 5 ((u.alloc (.cells #[.int .u8 (y.toNat:Int)] 5)).alloc (.cells cs 5)) u.heap.size (.slice (some ⟨u.heap.size+1,0,none⟩) 4 4) (b4 n) /\
  ∀ j v,(encB.cells y)[j]? = some v->((u.alloc (.cells #[.int .u8 (y.toNat:Int)] 5)).alloc (.cells cs 5)).cell? ((⟨u.heap.size,0,none⟩:Addr).add j)=some v:=by
 constructor
 ·have:=Zjg (u.alloc (.cells #[.int .u8 (y.toNat:Int)] 5)) (b4 n) u.heap.size (by simp) (by rw [Zbj]; decide) cs hcs 4 (Zbj n).symm;rw [show (u.alloc (.cells #[.int .u8 (y.toNat:Int)] 5)).heap.size=u.heap.size+1 by simp] at this;exact this
 ·intro j v h;have h1:=ZaC encB u y 5 j v h;rw [<- h1];exact (bz1 (u.alloc (.cells #[.int .u8 (y.toNat:Int)] 5)) _).cell (by rw [ZcP]; simp)
theorem Zcw {v:Value} {xss:List Bs} (w:World) (h:Zau w v xss) (hl:xss.length<=1000000) (cr:Nat) (hc:crc xss.flatten=cr) :
  Calls Tryz.prog 95 #[v] w λ e w'=>e=.returned (.int .u32 (cr:Int))/\w'=w:=by
 rw [<- hc];exact ZjQ w h hl
theorem Zlv (u:World) (v1 v2:Value) (xs ys:Bs) (h1:BAt u v1 xs) (h2:BAt u v2 ys) (hl:xs.length+ys.length<=10000) (cr:Nat) (cs:Array Value) (hcs:cs=((b4 cr).map (λ x=>Value.int .u8 (x.toNat:Int))).toArray) (A:Array Value) (t:TypeId) :
  Calls Tryz.prog 106 #[.slice (some ⟨u.heap.size+1+1,0,none⟩) 3 3] (((u.alloc (.cells A t)).alloc (.cells cs 5)).alloc (.cells #[v1,v2,.slice (some ⟨u.heap.size+1,0,none⟩) 4 4] 39)) λ e w'=>∃ v,e=.returned v/\Hid (OwnG encB 5 w' u.heap.size v (xs++ys++b4 cr)/\Below u.heap.size u w'):=by
 have s1:(u.alloc (.cells A t)).heap.size=u.heap.size+1:=by simp
 have s2:((u.alloc (.cells A t)).alloc (.cells cs 5)).heap.size=u.heap.size+1+1:=by simp
 have b1:Below u.heap.size u ((u.alloc (.cells A t)).alloc (.cells cs 5)):=bz2 _ _ _
 have h3:BAt ((u.alloc (.cells A t)).alloc (.cells cs 5)) (.slice (some ⟨u.heap.size+1,0,none⟩) 4 4) (b4 cr):=by
  have:=ZeP (u.alloc (.cells A t)) (b4 cr) 5 (0,0) cs hcs 4 (Zbj cr).symm (by rw [Zbj]; decide);rw [s1] at this;exact this
 have hp:=ZgI (h1.below b1) (h2.below b1) h3 39;rw [s2] at hp
 have e:([xs,ys,b4 cr]:List Bs).flatten=xs++ys++b4 cr:=by simp
 refine (ZbW _ hp (by simp) (by rw [e]; simp [Zbj]; omega)).mono ?_;rintro e' w' ⟨v,rfl,ho,hb⟩;rw [e] at ho;have b2:=b1.trans ((bz1 ((u.alloc (.cells A t)).alloc (.cells cs 5)) (.cells #[v1,v2,.slice (some ⟨u.heap.size+1,0,none⟩) 4 4] 39)).mono b1.size);exact ⟨v,rfl,ho.low b2.size,b2.trans (hb.mono b2.size)⟩
section
variable {w:World} {k:Int} {a:Option Addr} {n c:Nat} {body:Bs}
theorem ZjS (h:k<0∨255<k):Calls Tryz.prog 179 #[.agg #[.int .i64 k,.slice a n c]] w λ e w'=>e=.returned (.tuple #[.slice none 0 0,.int .i64 3])/\Below w.heap.size w w':=by
 by_cases h0:k<0
 ·have q:decide (k<0)=true:=by simpa using h0
  go_enter Tryz.func179,Tryz.ntmps179;go_wp2;refine bodyPost_ret (results_tmp2 rfl _ _ _) rfl ?_;exact ⟨rfl,bz1 _ _⟩
 ·have q:decide (k<0)=false:=by simpa using h0
  have q2:decide (255<k)=true:=by simp; omega
  go_enter Tryz.func179,Tryz.ntmps179;go_wp2;refine bodyPost_ret (results_tmp2 rfl _ _ _) rfl ?_;exact ⟨rfl,bz1 _ _⟩
theorem ZkE (h0:¬ k<0) (h1:¬ 255<k) (h:8192<n):Calls Tryz.prog 179 #[.agg #[.int .i64 k,.slice a n c]] w λ e w'=>e=.returned (.tuple #[.slice none 0 0,.int .i64 4])/\Below w.heap.size w w':=by
 have q:decide (k<0)=false:=by simpa using h0
 have q2:decide (255<k)=false:=by simpa using h1
 have q3:(8192:Int)<(n:Int):=by omega
 go_enter Tryz.func179,Tryz.ntmps179;go_wp2;refine bodyPost_ret (results_tmp2 rfl _ _ _) rfl ?_;exact ⟨rfl,bz1 _ _⟩
theorem ZiY (h0:¬ k<0) (h1:¬ 255<k) (hl:body.length=n) (hn:¬ 8192<n) (hb:BAt w (.slice a n c) body):Calls Tryz.prog 179 #[.agg #[.int .i64 k,.slice a n c]] w λ e w'=>∃ v,e=.returned (.tuple #[v,.int .i64 0])/\Hid (OwnG encB 5 w' w.heap.size v (sealB k body)/\Below w.heap.size w w'):=by
 have q:decide (k<0)=false:=by simpa using h0
 have q2:decide (255<k)=false:=by simpa using h1
 have q3:decide ((8192:Int)<(n:Int))=false:=by rw [decide_eq_false_iff_not]; omega
 obtain ⟨W,hW⟩:∃ W,w.alloc (.cells #[.int .i64 k,.slice a n c] 228)=W:=⟨_,rfl⟩
 have B0:Below w.heap.size w W:=by rw [<- hW]; exact bz1 _ _
 have T:Box W w.heap.size 228 (.int .i64 k) (.slice a n c):=by rw [<- hW]; exact Box.new w _ _ _
 have sW:W.heap.size=w.heap.size+1:=by rw [<- hW]; simp
 have H:Hid (Below w.heap.size w W/\Box W w.heap.size 228 (.int .i64 k) (.slice a n c)/\BAt W (.slice a n c) body/\body.length=n/\n<=8192/\W.heap.size=w.heap.size+1/\0<=k/\k<=255):=⟨B0,T,hb.below B0,hl,by omega,sW,by omega,by omega⟩
 obtain ⟨x0,x1⟩:=T.cells
 obtain ⟨y,hy⟩:∃ y:UInt8,UInt8.ofNat k.toNat=y:=⟨_,rfl⟩
 have hky:k % 256=(y.toNat:Int):=by rw [<- hy,UInt8.toNat_ofNat']; omega
 have HY:Hid (UInt8.ofNat k.toNat=y):=hy
 have hn32:IntKind.u32.wrap (n:Int)=(n:Int):=by rw [IntKind.wrap_u32]; omega
 have hk8:IntKind.u8.wrap k=(y.toNat:Int):=by
  rw [show IntKind.u8.wrap k=k % 256 by simp [IntKind.wrap,IntKind.bits,IntKind.signed]];exact hky
 clear B0 T sW hl hb hy;go_enter Tryz.func179,Tryz.ntmps179
 go_upto_region 5 with fail
 clear h0 h1 q q2 q3 hn hW
 go_region_held3 (λ u=>u.cell? ⟨w.heap.size,0,none⟩=some (.int .i64 k)/\u.cell? ⟨w.heap.size,1,none⟩=some (.slice a n c)) (go_keep)
  (first
   | (refine Za8 encB 5 39 1 _ rfl Tryz.info5 Tryz.underlying39 rfl (.tmp 21) (.tmp 25) rfl W.heap.size _ (b4 n) y rfl (ZnD W.drew n y cs hcs.out).1 (W.heap.size+1) rfl (ZnD W.drew n y cs hcs.out).2 (by rw [Zbj]; decide) (by rw [Zbj]; decide) (by simp; omega) ?_; intro v5 w5 ho5 hb5 hm5 ht5; have J5:Hid (OwnG encB 5 w5 W.heap.size v5 (b4 n++[y])/\Below W.heap.size W.drew w5):=⟨ho5,(bz2 W.drew _ _).trans hb5⟩; clear ho5 hb5 hm5 ht5; have k5:=(H.out.2.1.below ((Below.refl _ W).drew.trans J5.out.2)).cells)
   | (refine Za8 encB 5 39 1 _ rfl Tryz.info5 Tryz.underlying39 rfl (.tmp 21) (.tmp 25) rfl W.heap.size _ (b4 n) y rfl (Zmi W.drew n y cs hcs.out).1 W.heap.size rfl (Zmi W.drew n y cs hcs.out).2 (by rw [Zbj]; decide) (by rw [Zbj]; decide) (by simp; omega) ?_; intro v5 w5 ho5 hb5 hm5 ht5; have J5:Hid (OwnG encB 5 w5 W.heap.size v5 (b4 n++[y])/\Below W.heap.size W.drew w5):=⟨ho5,(bz2 W.drew _ _).trans hb5⟩; clear ho5 hb5 hm5 ht5; have k5:=(H.out.2.1.below ((Below.refl _ W).drew.trans J5.out.2)).cells)
   | (go_at_call 228; refine (Zj9 n (by have:=H.out.2.2.2.2.1; omega) _).mono ?_; rintro e w2 ⟨cs,rfl,rfl,hcs⟩))
 all_goals
  obtain ⟨a5,c5,rfl,_,_,_,q5⟩:=OwnG.form J5.out.1
  have l5:(b4 n++[y]).length=5:=by rw [List.length_append,Zbj]; rfl
  rw [l5] at J5 ⊢;obtain ⟨g5,rfl⟩:=q5 (by rw [l5]; decide);have B5:Below w.heap.size w w5.drew:=(H.out.1.trans (((Below.refl _ W).drew.trans J5.out.2).mono H.out.1.size)).drew
  have hd:([b4 n++[y],body]:List Bs).flatten=headB k body:=by
   rw [headB,H.out.2.2.2.1,HY.out];simp
  obtain ⟨cr,hcr⟩:∃ cr,crc (headB k body)=cr:=⟨_,rfl⟩
  have J6:Hid (BAt w5.drew (.slice (some ⟨g5,0,none⟩) 5 c5) (b4 n++[y])/\BAt w5.drew (.slice a n c) body/\Below w.heap.size w w5.drew/\Box w5 w.heap.size 228 (.int .i64 k) (.slice a n c)/\([b4 n++[y],body]:List Bs).flatten=headB k body/\crc (headB k body)=cr) :=
   ⟨OwnB.at (OwnG.low (J5.out.1.below (Below.refl _ w5).drew) (Nat.zero_le _)),(H.out.2.2.1.below ((Below.refl _ W).drew.trans J5.out.2)).below (Below.refl _ w5).drew,B5,H.out.2.1.below ((Below.refl _ W).drew.trans J5.out.2),hd,hcr⟩
  have k6:=J6.out.2.2.2.1.cells;obtain ⟨k60,k61⟩:=k6;have l6:w.heap.size<w5.heap.size:=J6.out.2.2.2.1.lt
  have n60:w.heap.size≠w5.heap.size:=by omega
  have n61:w.heap.size≠w5.heap.size+1:=by omega
  have n62:w.heap.size≠w5.heap.size+1+1:=by omega
  clear k5 x0 x1 q5 B5 hd hcr hcs l5 J5;go_wp2_with fail
  go_region_held3 (λ u=>u.cell? ⟨w.heap.size,0,none⟩=some (.int .i64 k)/\u.cell? ⟨w.heap.size,1,none⟩=some (.slice a n c)) (first | with_reducible exact (J6.out.2.2.2.1.below (bz3d _ _ _ _)).cells | go_keep)
   (first
    | (go_at_call 106; refine (Zlv w5.drew _ _ _ _ J6.out.1 J6.out.2.1 (by rw [List.length_append,Zbj]; have:=H.out.2.2.2.1; have:=H.out.2.2.2.2.1; simp; omega) cr cs2 hcs2.out _ 39).mono ?_; rintro e w8 ⟨v8,rfl,J8⟩; have k8:=(J6.out.2.2.2.1.below ((Below.refl _ w5).drew.trans J8.out.2)).cells)
    | (go_at_call 228; refine (Zj9 cr (by rw [<- J6.out.2.2.2.2.2]; exact Zhj _) _).mono ?_; rintro e w7 ⟨cs2,rfl,rfl,hcs2⟩)
    | (go_at_call 95; refine (Zcw _ (Zdt J6.out.1 J6.out.2.1 39) (by simp) cr (by rw [J6.out.2.2.2.2.1]; exact J6.out.2.2.2.2.2)).mono ?_; rintro e w6 ⟨rfl,rfl⟩))
  go_wp2;refine bodyPost_ret (results_tmp2 rfl _ _ _) rfl ?_;refine ⟨_,rfl,?_,J6.out.2.2.1.trans (J8.out.2.mono J6.out.2.2.1.size)⟩
  have e:b4 n++[y]++body++b4 cr=sealB k body:=by
   rw [sealB,J6.out.2.2.2.2.2,<- J6.out.2.2.2.2.1];simp
  rw [<- e];exact J8.out.1.low J6.out.2.2.1.size
theorem Zk7 (hb:BAt w (.slice a n c) body) (hl:body.length=n):Calls Tryz.prog 179 #[.agg #[.int .i64 k,.slice a n c]] w λ e w'=>∃ v,e=.returned (.tuple #[v,.int .i64 (fseal (k,body)).2])/\Hid (OwnG encB 5 w' w.heap.size v (fseal (k,body)).1/\Below w.heap.size w w'):=by
 unfold fseal;by_cases h0:k<0∨255<k
 ·rw [if_pos h0];refine (ZjS h0).mono ?_;rintro e w' ⟨rfl,hb⟩;exact ⟨_,rfl,OwnG.nil _ _ _ _,hb⟩
 ·rw [if_neg h0];by_cases h1:8192<body.length
  ·rw [if_pos h1];refine (ZkE (by omega) (by omega) (by omega)).mono ?_;rintro e w' ⟨rfl,hb⟩;exact ⟨_,rfl,OwnG.nil _ _ _ _,hb⟩
  ·rw [if_neg h1];exact ZiY (by omega) (by omega) hl (by omega) hb
end
end Go.Proofs.YtmhcpbbiokpjjaaGreat
