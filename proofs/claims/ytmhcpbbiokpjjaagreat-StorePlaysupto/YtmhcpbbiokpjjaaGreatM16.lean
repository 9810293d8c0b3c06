/-
  Several texts, laid together.
-/
import Derived.Test.YtmhcpbbiokpjjaaGreatM15
set_option maxHeartbeats 6400000
set_option maxRecDepth 100000
namespace Go.Proofs.YtmhcpbbiokpjjaaGreat
open Go.RowKit
def encO:Enc Ob:=⟨λ o=>[.int .i64 o.kind,.int .u64 (o.id.toNat:Int),tx o.body],3,λ _=>rfl,by decide,by intro x u h; simp at h; rcases h with rfl | rfl | rfl <;> rfl⟩
def encN:Enc (Nm UInt64):=⟨λ f=>[tx f.1,.int .u64 (f.2.toNat:Int)],2,λ _=>rfl,by decide,by intro x u h; simp at h; rcases h with rfl | rfl <;> rfl⟩
theorem RdG.obs {w:World} {b off:Nat} {os:List Ob} (h:RdG encO w (some ⟨b,off,none⟩) os) {i:Nat} {o:Ob} (hx:os[i]? = some o):b<w.heap.size/\w.cell? ⟨b,off+i*3,none⟩=some (.int .i64 o.kind)/\w.cell? ⟨b,off+i*3+1,none⟩=some (.int .u64 (o.id.toNat:Int))/\w.cell? ⟨b,off+i*3+2,none⟩=some (tx o.body):=by
 obtain ⟨b', off', e, hlt, hc⟩ := h (by rcases Nat.lt_or_ge i os.length with q | q
                                        · omega
                                        · rw [List.getElem?_eq_none q] at hx; cases hx)
 obtain ⟨rfl,rfl⟩:b=b'/\off=off':=by simpa using e
 have h0:=hc i o hx 0 _ rfl;have h1:=hc i o hx 1 _ rfl;have h2:=hc i o hx 2 _ rfl;exact ⟨hlt,by simpa [encO] using h0,by simpa [encO,Nat.add_assoc] using h1,by simpa [encO,Nat.add_assoc] using h2⟩
theorem RdG.named {w:World} {b off:Nat} {ns:List (Nm UInt64)} (h:RdG encN w (some ⟨b,off,none⟩) ns) {i:Nat} {n:Bs} {x:UInt64} (hx:ns[i]? = some (n,x)):b<w.heap.size/\w.cell? ⟨b,off+i*2,none⟩=some (tx n)/\w.cell? ⟨b,off+i*2+1,none⟩=some (.int .u64 (x.toNat:Int)):=by
 obtain ⟨b', off', e, hlt, hc⟩ := h (by rcases Nat.lt_or_ge i ns.length with q | q
                                        · omega
                                        · rw [List.getElem?_eq_none q] at hx; cases hx)
 obtain ⟨rfl,rfl⟩:b=b'/\off=off':=by simpa using e
 have h0:=hc i (n,x) hx 0 _ rfl;have h1:=hc i (n,x) hx 1 _ rfl;exact ⟨hlt,by simpa [encN] using h0,by simpa [encN,Nat.add_assoc] using h1⟩
structure LG {α:Type} (E:Enc α) (Z:Nat->Prop) (w:World) (a:Option Addr) (n c:Nat) (xs:List α):Prop where
 len:xs.length=n
 cap:n<=c
 rd:RdG E w a xs
 far:0<n->∀ p,a=some p->¬ Z p.block
section
variable {α:Type} {E:Enc α} {Z Z' T:Nat->Prop} {w w':World} {a:Option Addr} {n c:Nat} {xs:List α}
theorem LG.below (h:LG E Z w a n c xs) (hb:Below w.heap.size w w'):LG E Z w' a n c xs:=⟨h.len,h.cap,h.rd.below hb,h.far⟩
theorem LG.mono (h:LG E Z w a n c xs) (hz:∀ i,Z' i->Z i):LG E Z' w a n c xs:=⟨h.len,h.cap,h.rd,λ h0 p hp q=>h.far h0 p hp (hz _ q)⟩
theorem LG.turned (h:LG E Z w a n c xs) (ht:Zaa T w w') (hT:∀ i,T i->Z i):LG E Z w' a n c xs:=⟨h.len,h.cap,h.rd.turned ht (λ h0 p hp q=>h.far (by rw [<- h.len]; exact h0) p hp (hT _ q)),h.far⟩
theorem LG.into (h:LG E Z w a n c xs) (hz:∀ i,i<w.heap.size->Z' i->Z i):LG E Z' w a n c xs:=⟨h.len,h.cap,h.rd,λ h0 p hp q=>by
 obtain ⟨b,off,e,hlt,_⟩:=h.rd (by rw [h.len]; exact h0);rw [e] at hp;cases hp
 exact h.far h0 _ e (hz _ hlt q)⟩
theorem LG.ofOwn {e:TypeId} {B:Nat} {v:Value} (h:OwnG E e w B v xs) (hZ:∀ i,Z i->i<B):∃ a c,v=.slice a xs.length c/\LG E Z w a xs.length c xs:=by
 obtain ⟨a,c,rfl,h1,h2,h3,h4⟩:=OwnG.form h;refine ⟨a,c,rfl,rfl,h1,h3,λ h0 p hp q=>?_⟩;obtain ⟨g,eg⟩:=h4 h0;rw [hp] at eg;cases eg;have:=(h.lt g (by rw [hp]; rfl)).1;have:=hZ _ q;have e:((⟨g,0,none⟩:Addr)).block=g:=rfl;omega
end
def Nine (w:World) (B:Nat) (a0 a1 a2 a3 a4 a5 a6 a7 a8:Value):Prop:=w.heap[B]? = some (.cells #[a0,a1,a2,a3,a4,a5,a6,a7,a8] 32 (0,0))
section
variable {w w':World} {B:Nat} {a0 a1 a2 a3 a4 a5 a6 a7 a8:Value}
theorem Nine.lt (h:Nine w B a0 a1 a2 a3 a4 a5 a6 a7 a8):B<w.heap.size:=(Array.getElem?_eq_some_iff.1 h).1
theorem Nine.below {K:Nat} (h:Nine w B a0 a1 a2 a3 a4 a5 a6 a7 a8) (hb:Below K w w') (hK:B<K):Nine w' B a0 a1 a2 a3 a4 a5 a6 a7 a8:=(hb.block B hK).trans h
theorem Nine.turned {S:Nat->Prop} (h:Nine w B a0 a1 a2 a3 a4 a5 a6 a7 a8) (ht:Zaa S w w') (hS:¬ S B):Nine w' B a0 a1 a2 a3 a4 a5 a6 a7 a8:=(ht.block B h.lt hS).trans h
theorem Nine.cells (h:Nine w B a0 a1 a2 a3 a4 a5 a6 a7 a8):w.cell? ⟨B,0,none⟩=some a0/\w.cell? ⟨B,1,none⟩=some a1/\w.cell? ⟨B,2,none⟩=some a2/\w.cell? ⟨B,3,none⟩=some a3/\w.cell? ⟨B,4,none⟩=some a4/\w.cell? ⟨B,5,none⟩=some a5/\w.cell? ⟨B,6,none⟩=some a6/\w.cell? ⟨B,7,none⟩=some a7/\w.cell? ⟨B,8,none⟩=some a8:=by
 unfold Nine at h;simp [World.cell?,h]
theorem Nine.thaw (h:Nine w B a0 a1 a2 a3 a4 a5 a6 a7 a8):∀ j,w.frozen? ⟨B,j,none⟩=false:=by
 unfold Nine at h;simp [World.frozen?,h]
theorem Nine.new (w:World) (a0 a1 a2 a3 a4 a5 a6 a7 a8:Value):Nine (w.alloc (.cells #[a0,a1,a2,a3,a4,a5,a6,a7,a8] 32)) w.heap.size a0 a1 a2 a3 a4 a5 a6 a7 a8:=heap_alloc_new w _
end
abbrev rm (d:Dk) (vf vo vr vt:Value):Value:=.agg #[vf,.int .i64 (d.writes:Int),.bool d.armed,.bool d.dead,.int .i64 (d.after:Int),.int .i64 (d.keep:Int),vo,vr,vt]
abbrev Zbg (w:World) (B:Nat) (d:Dk) (vf vo vr vt:Value):Prop:=Nine w B vf (.int .i64 (d.writes:Int)) (.bool d.armed) (.bool d.dead) (.int .i64 (d.after:Int)) (.int .i64 (d.keep:Int)) vo vr vt
abbrev nineC (d:Dk) (vf vo vr vt:Value):Obj:=.cells #[vf,.int .i64 (d.writes:Int),.bool d.armed,.bool d.dead,.int .i64 (d.after:Int),.int .i64 (d.keep:Int),vo,vr,vt] 32
theorem Zf7 {l:List Ob} {k:Int} {x:UInt64}:∀ {i:Nat},(∀ j,j<i->∀ o,l[j]? = some o->¬ (o.kind=k/\o.id=x))->oget l k x=oget (l.drop i) k x:=by
 induction l with
 | nil=>intro i _; simp
 | cons f t ih =>
  intro i h
  cases i with
  | zero=>rfl
  | succ i =>
   have h0:¬ (f.kind=k/\f.id=x):=h 0 (by omega) f rfl;simp only [oget,if_neg h0,List.drop_succ_cons];exact ih (i:=i) (λ j hj o ho=>h (j+1) (by omega) o ho)
theorem Zh3 {l:List Ob} {k:Int} {x:UInt64} {b:Bs} {i:Nat} (h:∀ j,j<i->∀ o,l[j]? = some o->¬ (o.kind=k/\o.id=x)) (hi:l[i]? = some ⟨k,x,b⟩):oget l k x=some b:=by
 obtain ⟨hlt,e⟩:=List.getElem?_eq_some_iff.1 hi;rw [Zf7 h,List.drop_eq_getElem_cons hlt,e];simp [oget]
section
variable {w:World} {d:Dk} {st:St} {oa:Option Addr} {on oc:Nat} {vf vr vt:Value}
theorem ZfK (h:RdG encO w oa st.objs) (hl:st.objs.length=on) (hn:on<=1000000) (k:Int) (x:UInt64) :
  Calls Tryz.prog 136 #[rm d vf (.slice oa on oc) vr vt,.int .i64 k,.int .u64 (x.toNat:Int)] w λ e w'=>∃ r,e=.returned (.int .i64 r)/\Hid ((oget st.objs k x=none/\r = -1)∨∃ i:Nat,r=(i:Int)/\∃ bs:Bs,st.objs[i]? = some ⟨k,x,bs⟩/\oget st.objs k x=some bs)/\Below w.heap.size w w':=by
 have H:Hid (RdG encO w oa st.objs/\st.objs.length=on):=⟨h,hl⟩
 obtain ⟨W,hW⟩:∃ W,w.alloc (nineC d vf (.slice oa on oc) vr vt)=W:=⟨_,rfl⟩
 have k6:W.cell? ⟨w.heap.size,6,none⟩=some (.slice oa on oc):=by rw [<- hW]; exact (Nine.new w _ _ _ _ _ _ _ _ _).cells.2.2.2.2.2.2.1
 have HW:Hid (Below w.heap.size w W):=by rw [<- hW]; exact bz1 _ _
 obtain ⟨xi,hxi⟩:∃ xi:Int,(x.toNat:Int)=xi:=⟨_,rfl⟩
 rw [hxi];have HX:Hid ((x.toNat:Int)=xi):=hxi;clear h hl hxi;go_enter Tryz.func136,Tryz.ntmps136;go_wp2_with fail;go_loopg [7] on (λ m iv wr=>wr=W/\∃ i:Nat,iv=.int .i64 i/\i+m=on/\Hid (∀ j,j<i->∀ o,st.objs[j]? = some o->¬ (o.kind=k/\o.id=x)))
 case atStart=>exact ⟨rfl,0,rfl,by omega,λ j hj=>by omega⟩
 case round =>
  obtain ⟨hwr,i,rfl,hi,HT⟩:=hrel;subst hwr;by_cases hin:i<on
  ·have id:(i:Int)<(on:Int):=by omega
   obtain ⟨o,ho⟩:=Zaf H.out.2 hin;have R:=H.out.1.below HW.out;obtain ⟨b1,o1,rfl,hlt⟩:=R.some_of ho;obtain ⟨_,cc0,cc1,cc2⟩:=R.obs ho;obtain ⟨ok,oi,ob⟩:=o;simp only at cc0 cc1 cc2;have X:Hid (st.objs[i]? = some ⟨ok,oi,ob⟩):=ho
   obtain ⟨oii,hoi⟩:∃ oii:Int,(oi.toNat:Int)=oii:=⟨_,rfl⟩
   rw [hoi] at cc1;have HO:Hid ((oi.toNat:Int)=oii):=hoi;clear R ho hoi
   have stop:¬ (ok=k/\oi=x)->Hid (∀ j,j<i+1->∀ o,st.objs[j]? = some o->¬ (o.kind=k/\o.id=x)):=by
    intro hne j hj o hoj
    rcases Nat.lt_or_ge j i with q | q
    ·exact HT.out j q o hoj
    ·obtain rfl:j=i:=by omega
     rw [X.out] at hoj;cases hoj;exact hne
   have inj:oii=xi->oi=x:=λ q=>UInt64.toNat_inj.1 (by have:=HO.out; have:=HX.out; omega)
   have inj2:oi=x->oii=xi:=λ q=>by rw [<- HO.out,<- HX.out,q]
   by_cases hk:ok=k
   ·by_cases hx:oii=xi
    ·subst hk hx;have ex:=inj rfl;go_wp2;go_ret;refine ⟨_,rfl,.inr ⟨i,rfl,ob,by rw [<- ex]; exact X.out,?_⟩,HW.out⟩;exact Zh3 HT.out (by rw [<- ex]; exact X.out)
    ·have ST:Hid _:=stop (λ q=>hx (inj2 q.2));subst hk
     have m1:(oii==xi)=false:=by simpa using hx
     clear stop inj inj2;go_wp2;go_roundg (gk - 1)
     case measure=>omega
     case rel=>exact ⟨rfl,i+1,by go_num,by omega,ST⟩
   ·have ST:Hid _:=stop (λ q=>hk q.1)
    have m1:(ok==k)=false:=by simpa using hk
    clear stop inj inj2;go_wp2;go_roundg (gk - 1)
    case measure=>omega
    case rel=>exact ⟨rfl,i+1,by go_num,by omega,ST⟩
  ·obtain rfl:i=on:=by omega
   go_wp2;go_ret;refine ⟨_,rfl,.inl ⟨?_,rfl⟩,HW.out⟩;rw [Zf7 HT.out,List.drop_of_length_le (by rw [H.out.2]; exact Nat.le_refl _)]
   rfl
theorem ZaA (h:RdG encO w oa st.objs) (hl:st.objs.length=on) (hn:on<=1000000) (k:Int) (x:UInt64) (g:Bool) (hg:st.has k x=g) :
  Calls Tryz.prog 68 #[rm d vf (.slice oa on oc) vr vt,.int .i64 k,.int .u64 (x.toNat:Int)] w λ e w'=>e=.returned (.bool g)/\Below w.heap.size w w':=by
 obtain ⟨W,hW⟩:∃ W,w.alloc (nineC d vf (.slice oa on oc) vr vt)=W:=⟨_,rfl⟩
 have bW:Below w.heap.size w W:=by rw [<- hW]; exact bz1 _ _
 have n9:Zbg W w.heap.size d vf (.slice oa on oc) vr vt:=by rw [<- hW]; exact Nine.new w _ _ _ _ _ _ _ _ _
 obtain ⟨k0,k1,k2,k3,k4,k5,k6,k7,k8⟩:=n9.cells
 have hat:=ZfK (d:=d) (oc:=oc) (vf:=vf) (vr:=vr) (vt:=vt) (h.below bW) hl hn k x
 have HW:Hid (Below w.heap.size w W/\st.has k x=g):=⟨bW,hg⟩
 obtain ⟨xi,hxi⟩:∃ xi:Int,(x.toNat:Int)=xi:=⟨_,rfl⟩
 rw [hxi] at hat ⊢;clear h hl hg hxi bW n9;go_enter Tryz.func68,Tryz.ntmps68;go_wp2_with fail;refine hat.mono ?_;rintro e w1 ⟨r,rfl,R1,B1⟩;have HB:Hid (Below w.heap.size w w1):=HW.out.1.trans (B1.mono HW.out.1.size);clear B1 hat
 rcases R1.out with ⟨q1,q2⟩ | ⟨i,q2,bs,_,q1⟩
 ·have eg:g=false:=by rw [<- HW.out.2]; unfold St.has; rw [q1]; rfl
  subst q2 eg;clear q1;go_wp2;go_ret;exact ⟨rfl,HB.out⟩
 ·have eg:g=true:=by rw [<- HW.out.2]; unfold St.has; rw [q1]; rfl
  subst q2 eg
  have i0:(0:Int)<=(i:Int):=by omega
  clear q1;go_wp2;go_ret;exact ⟨by simp,HB.out⟩
end
section
variable {w:World} {d:Dk} {st:St} {oa:Option Addr} {on oc:Nat} {vf vr vt:Value}
theorem Zhv {wr:World} (h:RdG encO wr oa st.objs) (hl:st.objs.length=on) (hn:on<=1000000) (k:Int) (x:UInt64) (g:Bool) (hg:st.has k x=g) (u:SW (Grew wr)) :
  Calls Tryz.prog 68 #[rm d vf (.slice oa on oc) vr vt,.int .i64 k,.int .u64 (x.toNat:Int)] u.w λ e w'=>e=.returned (.bool g)/\∃ u':SW (Grew wr),w'=u'.w:=by
 refine (ZaA (h.below u.ok) hl hn k x g hg).mono ?_;rintro e w' ⟨rfl,hb⟩;exact ⟨rfl,⟨w',Below.trans u.ok (hb.mono u.ok.size)⟩,rfl⟩
theorem Zeh (h:RdG encO w oa st.objs) (hl:st.objs.length=on) (hn:on<=1000000) {ea:Option Addr} {en ec:Nat} {es:List En} (hr:RdG encE w ea es) (hel:es.length=en) (hen:en<=4000000000000000000) (g:Bool) (hg:st.blobs es=g) :
  Calls Tryz.prog 117 #[rm d vf (.slice oa on oc) vr vt,.slice ea en ec] w λ e w'=>e=.returned (.bool g)/\Below w.heap.size w w':=by
 obtain ⟨W,hW⟩:∃ W,w.alloc (nineC d vf (.slice oa on oc) vr vt)=W:=⟨_,rfl⟩
 have bW:Below w.heap.size w W:=by rw [<- hW]; exact bz1 _ _
 have n9:Zbg W w.heap.size d vf (.slice oa on oc) vr vt:=by rw [<- hW]; exact Nine.new w _ _ _ _ _ _ _ _ _
 have H:Hid (RdG encO W oa st.objs/\st.objs.length=on/\RdG encE W ea es/\es.length=en/\st.blobs es=g/\Below w.heap.size w W/\Zbg W w.heap.size d vf (.slice oa on oc) vr vt):=⟨h.below bW,hl,hr.below bW,hel,hg,bW,n9⟩
 clear h hl hr hel hg bW n9;go_enter Tryz.func117,Tryz.ntmps117;go_wp2_with fail;go_loopg [5] en (λ m iv wr=>∃ i:Nat,iv=.int .i64 i/\i+m=en/\Hid ((es.take i).all (λ e=>st.has 1 e.2)=true/\Below W.heap.size W wr))
 case atStart=>exact ⟨0,rfl,by omega,rfl,Below.refl _ _⟩
 case round =>
  obtain ⟨i,rfl,hi,HR⟩:=hrel;by_cases hin:i<en
  ·have id:(i:Int)<(en:Int):=by omega
   obtain ⟨e,he⟩:=Zaf H.out.2.2.2.1 hin;obtain ⟨b1,off,rfl,hlt⟩:=H.out.2.2.1.some_of he;obtain ⟨dp,z⟩:=e
   have bu:∀ u:SW (Grew wr),Below W.heap.size W u.w:=λ u=>HR.out.2.trans (Below.mono u.ok HR.out.2.size)
   have NE:Nonempty (SW (Grew wr)):=⟨⟨wr,Below.refl _ _⟩⟩
   have k1:∀ u:SW (Grew wr),u.w.cell? ⟨b1,off+i*2+1,none⟩=some (.int .u64 (z.toNat:Int)):=λ u=>((H.out.2.2.1.below (bu u)).ents he).2.2
   have n9:=λ u:SW (Grew wr)=>(H.out.2.2.2.2.2.2.below (bu u) H.out.2.2.2.2.2.2.lt).cells
   have c0:=λ u=>(n9 u).1
   have c1:=λ u=>(n9 u).2.1
   have c2:=λ u=>(n9 u).2.2.1
   have c3:=λ u=>(n9 u).2.2.2.1
   have c4:=λ u=>(n9 u).2.2.2.2.1
   have c5:=λ u=>(n9 u).2.2.2.2.2.1
   have c6:=λ u=>(n9 u).2.2.2.2.2.2.1
   have c7:=λ u=>(n9 u).2.2.2.2.2.2.2.1
   have c8:=λ u=>(n9 u).2.2.2.2.2.2.2.2
   have hb:=λ q hq=>Zhv (d:=d) (oc:=oc) (vf:=vf) (vr:=vr) (vt:=vt) (wr:=wr) (H.out.1.below HR.out.2) H.out.2.1 hn 1 z q hq
   obtain ⟨zi,hz⟩:∃ zi:Int,(z.toNat:Int)=zi:=⟨_,rfl⟩
   rw [hz] at k1 hb;have HE:Hid (es[i]? = some (dp,z)):=he;clear he n9 hz bu
   cases hp:st.has 1 z with
   | true =>
    have hb:=hb true hp;go_wp2_with fail;refine Zab (S:=Grew wr) (by kernel_rfl) (by kernel_rfl) (Below.refl _ wr).drew ?_
    repeat (go_big_quiet_step (with_reducible exact hb _))
    refine wpQuiet_nil ?_;intro _ hw';obtain ⟨u,hw''⟩:=hw';subst hw'';have N4:Hid (Below W.heap.size W u.w):=HR.out.2.trans (Below.mono u.ok HR.out.2.size)
    obtain ⟨w4,hw4⟩:∃ w4,w4=u.w:=⟨_,rfl⟩
    rw [<- hw4] at N4 ⊢;clear hw4 k1 hb c0 c1 c2 c3 c4 c5 c6 c7 c8 NE u;go_wp2;go_roundg (gk - 1)
    case measure=>omega
    case rel=>exact ⟨i+1,by go_num,by omega,ZcD HE.out HR.out.1 hp,N4.out⟩
   | false =>
    have hb:=hb false hp
    have eg:g=false:=by rw [<- H.out.2.2.2.2.1]; exact Zcg HE.out hp
    subst eg;go_wp2_with fail;refine Zab (S:=Grew wr) (by kernel_rfl) (by kernel_rfl) (Below.refl _ wr).drew ?_
    repeat (go_big_quiet_step (with_reducible exact hb _))
    refine wpQuiet_nil ?_;intro _ hw';obtain ⟨u,hw''⟩:=hw';subst hw'';have N4:Hid (Below W.heap.size W u.w):=HR.out.2.trans (Below.mono u.ok HR.out.2.size)
    obtain ⟨w4,hw4⟩:∃ w4,w4=u.w:=⟨_,rfl⟩
    rw [<- hw4] at N4 ⊢;clear hw4 k1 hb c0 c1 c2 c3 c4 c5 c6 c7 c8 NE u;go_wp2;go_ret;exact ⟨rfl,H.out.2.2.2.2.2.1.trans (N4.out.mono H.out.2.2.2.2.2.1.size)⟩
  ·obtain rfl:i=en:=by omega
   have hall:=HR.out.1;rw [List.take_of_length_le (by rw [H.out.2.2.2.1]; omega)] at hall
   have eg:g=true:=by rw [<- H.out.2.2.2.2.1]; exact hall
   subst eg;clear hall;go_wp2;go_ret;exact ⟨rfl,H.out.2.2.2.2.2.1.trans (HR.out.2.mono H.out.2.2.2.2.2.1.size)⟩
theorem Zeg (h:RdG encO w oa st.objs) (hl:st.objs.length=on) (hn:on<=1000000) {pa:Option Addr} {pn pc:Nat} {cm:Cm} (hr:RdG encU w pa cm.ps) (hel:cm.ps.length=pn) (hen:pn<=4000000000000000000) (dt:Int) (nt:ByteArray) (g:Bool) (hg:st.above cm=g) :
  Calls Tryz.prog 119 #[rm d vf (.slice oa on oc) vr vt,.agg #[.int .u64 (cm.tree.toNat:Int),.slice pa pn pc,.int .i64 dt,.string nt]] w λ e w'=>e=.returned (.bool g)/\Below w.heap.size w w':=by
 have htr0:=λ (wr:World) (bw:Below w.heap.size w wr) (q:Bool) (hq:st.has 2 cm.tree=q)=>ZaA (d:=d) (oc:=oc) (vf:=vf) (vr:=vr) (vt:=vt) (h.below bw) hl hn 2 cm.tree q hq
 obtain ⟨tr,htr⟩:∃ tr:Int,(cm.tree.toNat:Int)=tr:=⟨_,rfl⟩
 rw [htr] at htr0 ⊢
 obtain ⟨W,hW⟩:∃ W,(w.alloc (nineC d vf (.slice oa on oc) vr vt)).alloc (.cells #[.int .u64 tr,.slice pa pn pc,.int .i64 dt,.string nt] 108)=W:=⟨_,rfl⟩
 have bW:Below w.heap.size w W:=by rw [<- hW]; exact bz2 _ _ _
 have s1:(w.alloc (nineC d vf (.slice oa on oc) vr vt)).heap.size=w.heap.size+1:=by simp
 have n9:Zbg W w.heap.size d vf (.slice oa on oc) vr vt:=by rw [<- hW]; exact (Nine.new w _ _ _ _ _ _ _ _ _).below (bz1 _ _) (by rw [s1]; omega)
 have bx:Box4 W (w.heap.size+1) 108 (.int .u64 tr) (.slice pa pn pc) (.int .i64 dt) (.string nt):=by
  have:=Box4.new (w.alloc (nineC d vf (.slice oa on oc) vr vt)) 108 (.int .u64 tr) (.slice pa pn pc) (.int .i64 dt) (.string nt);rw [s1,hW] at this;exact this
 have H:Hid (RdG encO W oa st.objs/\st.objs.length=on/\RdG encU W pa cm.ps/\cm.ps.length=pn/\st.above cm=g/\Below w.heap.size w W/\Zbg W w.heap.size d vf (.slice oa on oc) vr vt/\Box4 W (w.heap.size+1) 108 (.int .u64 tr) (.slice pa pn pc) (.int .i64 dt) (.string nt)):=⟨h.below bW,hl,hr.below bW,hel,hg,bW,n9,bx⟩
 have TR:Hid (∀ (wr:World),Below w.heap.size w wr->∀ (q:Bool),st.has 2 cm.tree=q->Calls Tryz.prog 68 #[rm d vf (.slice oa on oc) vr vt,.int .i64 2,.int .u64 tr] wr λ e w'=>e=.returned (.bool q)/\Below wr.heap.size wr w'):=htr0;clear h hl hr hel hg bW n9 bx htr0 htr s1;go_enter Tryz.func119,Tryz.ntmps119;go_wp2_with fail;go_loopg [5] pn (λ m iv wr=>∃ i:Nat,iv=.int .i64 i/\i+m=pn/\Hid ((cm.ps.take i).all (λ p=>st.has 3 p)=true/\Below W.heap.size W wr))
 case atStart=>exact ⟨0,rfl,by omega,rfl,Below.refl _ _⟩
 case round =>
  obtain ⟨i,rfl,hi,HR⟩:=hrel;obtain ⟨p0,p1,p2,p3⟩:=(H.out.2.2.2.2.2.2.2.below HR.out.2 H.out.2.2.2.2.2.2.2.lt).cells;by_cases hin:i<pn
  ·have id:(i:Int)<(pn:Int):=by omega
   obtain ⟨z,he⟩:=Zaf H.out.2.2.2.1 hin;obtain ⟨b1,off,rfl,hlt⟩:=H.out.2.2.1.some_of he
   have bu:∀ u:SW (Grew wr),Below W.heap.size W u.w:=λ u=>HR.out.2.trans (Below.mono u.ok HR.out.2.size)
   have NE:Nonempty (SW (Grew wr)):=⟨⟨wr,Below.refl _ _⟩⟩
   have k1:∀ u:SW (Grew wr),u.w.cell? ⟨b1,off+i,none⟩=some (.int .u64 (z.toNat:Int)):=λ u=>((H.out.2.2.1.below (bu u)).nums he).2
   have n9:=λ u:SW (Grew wr)=>(H.out.2.2.2.2.2.2.1.below (bu u) H.out.2.2.2.2.2.2.1.lt).cells
   have c0:=λ u=>(n9 u).1
   have c1:=λ u=>(n9 u).2.1
   have c2:=λ u=>(n9 u).2.2.1
   have c3:=λ u=>(n9 u).2.2.2.1
   have c4:=λ u=>(n9 u).2.2.2.2.1
   have c5:=λ u=>(n9 u).2.2.2.2.2.1
   have c6:=λ u=>(n9 u).2.2.2.2.2.2.1
   have c7:=λ u=>(n9 u).2.2.2.2.2.2.2.1
   have c8:=λ u=>(n9 u).2.2.2.2.2.2.2.2
   have q1:=λ u:SW (Grew wr)=>(H.out.2.2.2.2.2.2.2.below (bu u) H.out.2.2.2.2.2.2.2.lt).cells.2.1
   have hb:=λ q hq=>Zhv (d:=d) (oc:=oc) (vf:=vf) (vr:=vr) (vt:=vt) (wr:=wr) (H.out.1.below HR.out.2) H.out.2.1 hn 3 z q hq
   obtain ⟨zi,hz⟩:∃ zi:Int,(z.toNat:Int)=zi:=⟨_,rfl⟩
   rw [hz] at k1 hb;have HE:Hid (cm.ps[i]? = some z):=he;clear he n9 hz bu
   cases hp:st.has 3 z with
   | true =>
    have hb:=hb true hp;go_wp2_with fail;refine Zab (S:=Grew wr) (by kernel_rfl) (by kernel_rfl) (Below.refl _ wr).drew ?_
    repeat (go_big_quiet_step (with_reducible exact hb _))
    refine wpQuiet_nil ?_;intro _ hw';obtain ⟨u,hw''⟩:=hw';subst hw'';have N4:Hid (Below W.heap.size W u.w):=HR.out.2.trans (Below.mono u.ok HR.out.2.size)
    obtain ⟨w4,hw4⟩:∃ w4,w4=u.w:=⟨_,rfl⟩
    rw [<- hw4] at N4 ⊢;clear hw4 k1 hb c0 c1 c2 c3 c4 c5 c6 c7 c8 q1 NE u p0 p1 p2 p3;go_wp2;go_roundg (gk - 1)
    case measure=>omega
    case rel=>exact ⟨i+1,by go_num,by omega,ZcD HE.out HR.out.1 hp,N4.out⟩
   | false =>
    have hb:=hb false hp
    have eg:g=false:=by rw [<- H.out.2.2.2.2.1]; unfold St.above; rw [Zcg HE.out hp]; rfl
    subst eg;go_wp2_with fail;refine Zab (S:=Grew wr) (by kernel_rfl) (by kernel_rfl) (Below.refl _ wr).drew ?_
    repeat (go_big_quiet_step (with_reducible exact hb _))
    refine wpQuiet_nil ?_;intro _ hw';obtain ⟨u,hw''⟩:=hw';subst hw'';have N4:Hid (Below W.heap.size W u.w):=HR.out.2.trans (Below.mono u.ok HR.out.2.size)
    obtain ⟨w4,hw4⟩:∃ w4,w4=u.w:=⟨_,rfl⟩
    rw [<- hw4] at N4 ⊢;clear hw4 k1 hb c0 c1 c2 c3 c4 c5 c6 c7 c8 q1 NE u p0 p1 p2 p3;go_wp2;go_ret;exact ⟨rfl,H.out.2.2.2.2.2.1.trans (N4.out.mono H.out.2.2.2.2.2.1.size)⟩
  ·obtain rfl:i=pn:=by omega
   have hall:=HR.out.1;rw [List.take_of_length_le (by rw [H.out.2.2.2.1]; omega)] at hall
   have eg:st.has 2 cm.tree=g:=by rw [<- H.out.2.2.2.2.1]; unfold St.above; rw [hall]; rfl
   have bw:=H.out.2.2.2.2.2.1.trans (HR.out.2.mono H.out.2.2.2.2.2.1.size);have ht:=TR.out wr bw g eg;obtain ⟨c0,c1,c2,c3,c4,c5,c6,c7,c8⟩:=(H.out.2.2.2.2.2.2.1.below HR.out.2 H.out.2.2.2.2.2.2.1.lt).cells;have HBW:Hid (Below w.heap.size w wr):=bw;clear hall eg bw;go_wp2_with fail;refine ht.mono ?_;rintro e w2 ⟨rfl,B2⟩;have HB2:Hid (Below w.heap.size w w2):=HBW.out.trans (B2.mono HBW.out.size);clear B2 ht;go_wp2;go_ret;exact ⟨rfl,HB2.out⟩
end
theorem Zgb {α:Type} {l:List (Nm α)} {n:Bs}:∀ {i:Nat},(∀ j,j<i->∀ m v,l[j]? = some (m,v)->m≠n)->nget l n=nget (l.drop i) n:=by
 induction l with
 | nil=>intro i _; simp
 | cons f t ih =>
  intro i h
  cases i with
  | zero=>rfl
  | succ i =>
   have h0:f.1≠n:=h 0 (by omega) f.1 f.2 rfl;simp only [nget,if_neg h0,List.drop_succ_cons];exact ih (i:=i) (λ j hj m v hm=>h (j+1) (by omega) m v hm)
theorem Zik {α:Type} {l:List (Nm α)} {n:Bs} {v:α} {i:Nat} (h:∀ j,j<i->∀ m v,l[j]? = some (m,v)->m≠n) (hi:l[i]? = some (n,v)):nget l n=some v:=by
 obtain ⟨hlt,e⟩:=List.getElem?_eq_some_iff.1 hi;rw [Zgb h,List.drop_eq_getElem_cons hlt,e];simp [nget]
theorem ZjX {α:Type} {l:List (Nm α)} {i n:Nat} (hl:l.length=n) (hi:i<n):∃ m v,l[i]? = some (m,v):=⟨(l[i]'(by omega)).1,(l[i]'(by omega)).2,List.getElem?_eq_getElem (by omega)⟩
theorem Zjw {α:Type} {l:List (Nm α)} {n m:Bs} {v:α} {i:Nat} (h:l[i]? = some (m,v)):nout (l.take (i+1)) n=nout (l.take i) n++(if m==n then [] else [(m,v)]):=by
 rw [List.take_add_one,h];unfold nout;rw [List.filter_append]
 congr 1
 cases e:m==n <;> simp [e]
theorem ZcK {α:Type} {n:Bs} {v:α}:∀ {a b:List (Nm α)},(∀ f∈a,¬ n<f.1)->nins (a++b) n v=a++nins b n v
 | [],b,_=>rfl
 | f::t,b,h=>by
  have h1:¬ n<f.1:=h f List.mem_cons_self;have ih:=ZcK (v:=v) (b:=b) (λ g hg=>h g (List.mem_cons_of_mem _ hg):∀ g∈t,¬ n<g.1);simp only [List.cons_append,nins];rw [if_neg h1,ih]
theorem Zfx {α:Type} {n:Bs} {v:α} {x:Nm α}:∀ {l:List (Nm α)},(∃ f∈l,n<f.1)->nins (l++[x]) n v=nins l n v++[x]
 | [],h=>by obtain ⟨f,hf,_⟩:=h; cases hf
 | f::t,h=>by
  simp only [List.cons_append,nins]
  split
  ·simp
  ·rename_i h1
   obtain ⟨g,hg,hn⟩:=h
   rcases List.mem_cons.1 hg with rfl | q
   ·exact absurd hn h1
   ·rw [Zfx ⟨g,q,hn⟩]
    rfl
theorem Tryz.info146:(Tryz.prog.info? 146).map (λ i=>(i.zero,i.size,i.bytes))=some (some (.agg #[.string ⟨#[]⟩,.int .u64 0]),2,24):=by kernel_rfl
theorem ZbZ {ao:Option Addr} {L c:Nat} (l:List (Nm UInt64)) (n:Bs) (w:World) (h:RdG encN w ao l) (hL:l.length=L) (hl:L<=1000000) :
  Calls Tryz.prog 127 #[.slice ao L c,tx n] w λ e w'=>∃ r,e=.returned (.int .i64 r)/\Hid (((nget l n).isSome=false/\r = -1)∨((nget l n).isSome=true/\∃ i:Nat,r=(i:Int)))/\w'=w:=by
 have H:Hid (RdG encN w ao l/\l.length=L):=⟨h,hL⟩
 clear h hL;go_enter Tryz.func127,Tryz.ntmps127;go_wp2_with fail;go_loopg [5] L (λ k iv wr=>wr=w/\∃ i:Nat,iv=.int .i64 i/\i+k=L/\Hid (∀ j,j<i->∀ m v,l[j]? = some (m,v)->m≠n))
 case atStart=>exact ⟨rfl,0,rfl,by omega,λ j hj=>by omega⟩
 case round =>
  obtain ⟨hwr,i,rfl,hi,HT⟩:=hrel;subst hwr;by_cases hin:i<L
  ·have id:(i:Int)<(L:Int):=by omega
   obtain ⟨m,v,hm⟩:=ZjX H.out.2 hin;obtain ⟨b1,o1,rfl,hlt⟩:=H.out.1.some_of hm;have cc:=(H.out.1.named hm).2.1;have X:Hid (l[i]? = some (m,v)):=hm;clear hm
   cases hxy:m==n with
   | true =>
    go_wp2;go_ret
    have e:m=n:=by simpa using hxy
    subst e;exact ⟨_,rfl,.inr ⟨by rw [Zik HT.out X.out]; rfl,i,rfl⟩,rfl⟩
   | false =>
    go_wp2;go_roundg (gk - 1)
    all_goals first
     | omega
     | exact ⟨rfl,i+1,by go_num,by omega,λ j hj m' v' hm'=>by
       rcases Nat.lt_or_ge j i with q | q
       ·exact HT.out j q m' v' hm'
       ·obtain rfl:j=i:=by omega
        rw [X.out] at hm';cases hm'
        simpa using hxy⟩
  ·obtain rfl:i=L:=by omega
   go_wp2;go_ret;refine ⟨_,rfl,.inl ⟨?_,rfl⟩,rfl⟩;rw [Zgb HT.out,List.drop_of_length_le (by rw [H.out.2]; exact Nat.le_refl _)]
   rfl
theorem Zc5 {ao:Option Addr} {L c:Nat} (l:List (Nm UInt64)) (n:Bs) (w:World) (h:RdG encN w ao l) (hL:l.length=L) (hl:L<=1000000) :
  Calls Tryz.prog 173 #[.slice ao L c,tx n] w λ e w'=>∃ v,e=.returned v/\Hid (OwnG encN 146 w' w.heap.size v (nout l n)/\Below w.heap.size w w'):=by
 have H:Hid (RdG encN w ao l/\l.length=L):=⟨h,hL⟩
 clear h hL;go_enter Tryz.func173,Tryz.ntmps173;go_wp2_with fail;go_loopg [5,6] L (λ k lv iv wr=>∃ i:Nat,iv=.int .i64 i/\i+k=L/\Hid (OwnG encN 146 wr w.heap.size lv (nout (l.take i) n)/\Below w.heap.size w wr))
 case atStart=>exact ⟨0,rfl,by omega,OwnG.nil _ _ _ _,Below.refl _ _⟩
 case round =>
  obtain ⟨i,rfl,hi,HR⟩:=hrel;by_cases hin:i<L
  ·have id:(i:Int)<(L:Int):=by omega
   obtain ⟨m,v,hm⟩:=ZjX H.out.2 hin;have R:=H.out.1.below HR.out.2;obtain ⟨b1,o1,rfl,hlt⟩:=R.some_of hm;obtain ⟨_,cc,cd⟩:=R.named hm
   have T:Hid (nout (l.take (i+1)) n=nout (l.take i) n++(if m==n then [] else [(m,v)])/\(nout (l.take i) n).length<=1000000):=⟨Zjw hm,Nat.le_trans (List.length_filter_le _ _) (by rw [List.length_take]; omega)⟩
   clear R hm
   cases hxy:m==n with
   | true =>
    have hxy2:(!m==n)=false:=by rw [hxy]; rfl
    go_wp2;go_roundg (gk - 1)
    all_goals first
     | omega
     | exact ⟨i+1,by go_num,by omega,by have:=T.out.1; rw [hxy] at this; rw [this]; simpa using HR.out.1,HR.out.2⟩
   | false =>
    have hxy2:(!m==n)=true:=by rw [hxy]; rfl
    go_wp2_with (at_builtin; (refine Zak encN 146 30 24 _ rfl Tryz.info146 Tryz.underlying30 rfl (.tmp 20) (.tmp 25) rfl w.heap.size _ (nout (l.take i) n) (m,v) 146 rfl HR.out.1 rfl (by have:=T.out.2; omega) (by have:=T.out.2; simp only [maxLen]; omega) HR.out.2.size _ rfl ?_; intro v2 w2 O2 B2 _ _));go_wp2;go_roundg (gk - 1)
    all_goals first
     | omega
     | exact ⟨i+1,by go_num,by omega,by have:=T.out.1; rw [hxy] at this; rw [this]; exact O2,HR.out.2.trans B2⟩
  ·obtain rfl:i=L:=by omega
   have e0:l.take i=l:=List.take_of_length_le (by rw [H.out.2]; exact Nat.le_refl _);go_wp2;go_ret;exact ⟨_,rfl,by have:=HR.out.1; rw [e0] at this; exact this,HR.out.2⟩
def Zd3 (l:List (Nm UInt64)) (n:Bs) (v:UInt64) (i:Nat) (dn:Bool) (out:List (Nm UInt64)):Prop:=(dn=false/\(∀ f∈l.take i,¬ n<f.1)/\out=l.take i)∨(dn=true/\(∃ f∈l.take i,n<f.1)/\out=nins (l.take i) n v)
section
variable {l out:List (Nm UInt64)} {n m:Bs} {v u:UInt64} {i:Nat}
theorem Zba {x:Nm UInt64} (h:l[i]? = some x):l.take (i+1)=l.take i++[x]:=by rw [List.take_add_one,h]; rfl
theorem ZiT (h:Zd3 l n v i false out):out.length<=i:=by
 rcases h with ⟨_,_,e⟩ | ⟨q,_⟩
 ·rw [e,List.length_take]; omega
 ·cases q
theorem Zh6 (h:Zd3 l n v i false out) (hx:l[i]? = some (m,u)) (hm:¬ n<m):Zd3 l n v (i+1) false (out++[(m,u)]):=by
 rcases h with ⟨_,h1,h2⟩ | ⟨q,_⟩
 ·refine .inl ⟨rfl,?_,by rw [h2,Zba hx]⟩;intro f hf;rw [Zba hx] at hf
  rcases List.mem_append.1 hf with q | q
  ·exact h1 f q
  ·simp at q; rw [q]; exact hm
 ·cases q
theorem Zh7 (h:Zd3 l n v i false out) (hx:l[i]? = some (m,u)) (hm:n<m):Zd3 l n v (i+1) true (out++[(n,v)]++[(m,u)]):=by
 rcases h with ⟨_,h1,h2⟩ | ⟨q,_⟩
 ·refine .inr ⟨rfl,⟨(m,u),by rw [Zba hx]; simp,hm⟩,?_⟩;rw [Zba hx,ZcK h1,h2];simp [nins,hm]
 ·cases q
theorem Zh5 (h:Zd3 l n v i true out) (hx:l[i]? = some (m,u)):Zd3 l n v (i+1) true (out++[(m,u)]):=by
 rcases h with ⟨q,_⟩ | ⟨_,h1,h2⟩
 ·cases q
 ·refine .inr ⟨rfl,?_,?_⟩
  ·obtain ⟨f,hf,hn⟩:=h1;exact ⟨f,by rw [Zba hx]; exact List.mem_append_left _ hf,hn⟩
  ·rw [Zba hx,Zfx h1,h2]
end
theorem ZfO {ao:Option Addr} {L c:Nat} (l0:List (Nm UInt64)) (n:Bs) (v:UInt64) (w:World) (h:RdG encN w ao l0) (hL:l0.length=L) (hl:L<=1000000) :
  Calls Tryz.prog 172 #[.slice ao L c,.agg #[tx n,.int .u64 (v.toNat:Int)]] w λ e w'=>∃ u,e=.returned u/\Hid (OwnG encN 146 w' w.heap.size u (nwith l0 n v)/\Below w.heap.size w w'):=by
 obtain ⟨l,hln⟩:∃ l,nout l0 n=l:=⟨_,rfl⟩
 have ew:nwith l0 n v=nins l n v:=by unfold nwith; rw [hln]
 rw [ew]
 have hlo:l.length<=1000000:=by rw [<- hln]; exact Nat.le_trans (List.length_filter_le _ _) (by omega)
 obtain ⟨W,hW⟩:∃ W,w.alloc (.cells #[tx n,.int .u64 (v.toNat:Int)] 146)=W:=⟨_,rfl⟩
 have HW:Hid (Below w.heap.size w W/\W.cell? ⟨w.heap.size,0,none⟩=some (tx n)/\W.cell? ⟨w.heap.size,1,none⟩=some (.int .u64 (v.toNat:Int))/\w.heap.size<W.heap.size):=by rw [<- hW]; exact ⟨bz1 _ _,by simp,by simp,by simp⟩
 have hwo:=Zc5 (c:=c) l0 n W (h.below HW.out.1) hL hl;rw [hln] at hwo;have x0:=HW.out.2.1;have HV:Hid (l.length<=1000000):=hlo;clear h hL hl hln ew hlo;go_enter Tryz.func172,Tryz.ntmps172;go_wp2_with fail;refine hwo.mono ?_;rintro e w1 ⟨v1,rfl,O1⟩;obtain ⟨a1,c1,hv1,h1,h2,r1,_⟩:=OwnG.form O1.out.1
 obtain ⟨L1,hL1⟩:∃ L1,l.length=L1:=⟨_,rfl⟩
 rw [hL1] at hv1;subst hv1
 have H:Hid (RdG encN w1 a1 l/\l.length=L1/\Below W.heap.size W w1):=⟨r1,hL1,O1.out.2⟩
 have lb:L1<=1000000:=by rw [<- hL1]; exact HV.out
 clear O1 h1 h2 r1 hL1 hwo x0;go_wp2_with fail;go_loopg [5,6,7] L1 (λ k lv dv iv wr=>∃ (i:Nat) (dn:Bool) (out:List (Nm UInt64)),iv=.int .i64 i/\i+k=L1/\dv=.bool dn/\Hid (Zd3 l n v i dn out/\out.length<=i+1/\OwnG encN 146 wr w1.heap.size lv out/\Below w1.heap.size w1 wr))
 case atStart=>exact ⟨0,false,[],rfl,by omega,rfl,.inl ⟨rfl,by simp,by simp⟩,by simp,OwnG.nil _ _ _ _,Below.refl _ _⟩
 case round =>
  obtain ⟨i,dn,out,rfl,hi,rfl,HR⟩:=hrel;have BB:Below W.heap.size W wr:=H.out.2.2.trans (HR.out.2.2.2.mono H.out.2.2.size);have k0:=(BB.cell (p:=⟨w.heap.size,0,none⟩) HW.out.2.2.2).trans HW.out.2.1;have k1:=(BB.cell (p:=⟨w.heap.size,1,none⟩) HW.out.2.2.2).trans HW.out.2.2.1;have sz:w1.heap.size<=wr.heap.size:=HR.out.2.2.2.size;clear BB;by_cases hin:i<L1
  ·have id:(i:Int)<(L1:Int):=by omega
   obtain ⟨m,u,hm⟩:=ZjX H.out.2.1 hin;have R:=H.out.1.below HR.out.2.2.2;obtain ⟨b1,o1,rfl,hlt⟩:=R.some_of hm;obtain ⟨_,cc,cd⟩:=R.named hm;have X:Hid (l[i]? = some (m,u)):=hm;have G:Hid (Zd3 l n v i dn out/\out.length<=i+1/\OwnG encN 146 wr w1.heap.size u5 out/\Below w1.heap.size w1 wr):=HR;clear R hm HR
   cases dn with
   | false =>
    by_cases hgt:n<m
    ·have q1:Op.bytesLess n m=true:=by rw [ZaJ,decide_eq_true_iff]; exact hgt
     have Q:Hid (n<m):=hgt
     have X2:Hid (∀ w2,Below w1.heap.size w1 w2->w2.cell? ⟨b1,o1+i*2,none⟩=some (tx m)/\w2.cell? ⟨b1,o1+i*2+1,none⟩=some (.int .u64 (u.toNat:Int))/\b1<w2.heap.size):=λ w2 b2=>⟨((H.out.1.below b2).named X.out).2.1,((H.out.1.below b2).named X.out).2.2,((H.out.1.below b2).named X.out).1⟩
     clear hgt;go_wp2_with fail;go_quiet (fail)
     go_wp2_with (first
      | (at_builtin; (refine Zak encN 146 30 24 _ rfl Tryz.info146 Tryz.underlying30 rfl (.tmp 30) (.tmp 32) rfl w1.heap.size _ out (n,v) 146 (by rfl) (G.out.2.2.1.below (below_drewN (Below.refl _ _) _)) (by rfl) (by have:=G.out.2.1; omega) (by simp only [maxLen]; have:=G.out.2.1; omega) sz _ rfl ?_; intro v2 w2 O2 B2 _ _; have C:Hid (OwnG encN 146 w2 w1.heap.size v2 (out++[(n,v)])/\Below w1.heap.size w1 w2):=⟨O2,(below_drewN G.out.2.2.2 _).trans B2⟩; obtain ⟨y0,y1,ylt⟩:=X2.out w2 C.out.2; have sz2:w1.heap.size<=w2.heap.size:=C.out.2.size; clear O2 B2))
      | (at_builtin; (refine Zak encN 146 30 24 _ rfl Tryz.info146 Tryz.underlying30 rfl (.tmp 34) (.tmp 39) rfl w1.heap.size _ (out++[(n,v)]) (m,u) 146 (by rfl) C.out.1 (by rfl) (by have:=G.out.2.1; simp; omega) (by simp only [maxLen]; have:=G.out.2.1; simp; omega) sz2 _ rfl ?_; intro v3 w3 O3 B3 _ _)))
     go_wp2;go_roundg (gk - 1)
     all_goals first
      | omega
      | exact ⟨i+1,true,_,by go_num,by omega,rfl,Zh7 G.out.1 X.out Q.out,by have:=ZiT G.out.1; simp; omega,O3,C.out.2.trans B3⟩
    ·have q1:Op.bytesLess n m=false:=by rw [ZaJ,decide_eq_false_iff_not]; exact hgt
     have Q:Hid (¬ n<m):=hgt;clear hgt;go_wp2_with fail;go_quiet (fail);go_wp2_with (at_builtin; (refine Zak encN 146 30 24 _ rfl Tryz.info146 Tryz.underlying30 rfl (.tmp 34) (.tmp 39) rfl w1.heap.size _ out (m,u) 146 (by rfl) (G.out.2.2.1.below (below_drewN (Below.refl _ _) _)) (by rfl) (by have:=G.out.2.1; omega) (by simp only [maxLen]; have:=G.out.2.1; omega) sz _ rfl ?_; intro v3 w3 O3 B3 _ _));go_wp2;go_roundg (gk - 1)
     all_goals first
      | omega
      | exact ⟨i+1,false,_,by go_num,by omega,rfl,Zh6 G.out.1 X.out Q.out,by have:=G.out.2.1; simp; omega,O3,(below_drewN G.out.2.2.2 _).trans B3⟩
   | true =>
    go_wp2_with fail;go_quiet (fail);go_wp2_with (at_builtin; (refine Zak encN 146 30 24 _ rfl Tryz.info146 Tryz.underlying30 rfl (.tmp 34) (.tmp 39) rfl w1.heap.size _ out (m,u) 146 (by rfl) (G.out.2.2.1.below (below_drewN (Below.refl _ _) _)) (by rfl) (by have:=G.out.2.1; omega) (by simp only [maxLen]; have:=G.out.2.1; omega) sz _ rfl ?_; intro v3 w3 O3 B3 _ _));go_wp2;go_roundg (gk - 1)
    all_goals first
     | omega
     | exact ⟨i+1,true,_,by go_num,by omega,rfl,Zh5 G.out.1 X.out,by have:=G.out.2.1; simp; omega,O3,(below_drewN G.out.2.2.2 _).trans B3⟩
  ·obtain rfl:i=L1:=by omega
   have e0:l.take i=l:=List.take_of_length_le (by rw [H.out.2.1]; exact Nat.le_refl _);have hLa:=HR.out.1;unfold Zd3 at hLa;rw [e0] at hLa
   have G:Hid (OwnG encN 146 wr w1.heap.size u5 out/\Below w1.heap.size w1 wr/\out.length<=i+1):=⟨HR.out.2.2.1,HR.out.2.2.2,HR.out.2.1⟩
   have LH:Hid _:=hLa;have BW:Hid (Below w.heap.size w w1):=HW.out.1.trans (H.out.2.2.mono HW.out.1.size);clear HR hLa
   cases dn with
   | false =>
    have hf:nins l n v=out++[(n,v)]:=by
     rcases LH.out with ⟨_,h1,h2⟩ | ⟨q,_⟩
     ·have:=ZcK (v:=v) (b:=[]) h1;rw [List.append_nil] at this;rw [this,h2]; rfl
     ·cases q
    clear LH;go_wp2_with (at_builtin; (refine Zak encN 146 30 24 _ rfl Tryz.info146 Tryz.underlying30 rfl (.tmp 43) (.tmp 45) rfl w1.heap.size _ out (n,v) 146 rfl G.out.1 rfl (by have:=G.out.2.2; omega) (by have:=G.out.2.2; simp only [maxLen]; omega) sz _ rfl ?_; intro v2 w2 O2 B2 _ _));go_wp2;go_ret;rw [hf];exact ⟨_,rfl,OwnG.low O2 BW.out.size,BW.out.trans ((G.out.2.1.trans B2).mono BW.out.size)⟩
   | true =>
    have hf:nins l n v=out:=by
     rcases LH.out with ⟨q,_⟩ | ⟨_,_,h2⟩
     ·cases q
     ·exact h2.symm
    clear LH;go_wp2;go_ret;rw [hf];exact ⟨_,rfl,OwnG.low G.out.1 BW.out.size,BW.out.trans (G.out.2.1.mono BW.out.size)⟩
def Bad (es:List En) (i k:Nat):Prop:=∃ a b,es[i]? = some a/\es[k]? = some b/\((i<k/\¬ a.1<b.1)∨(i≠k/\under a.1 b.1=true))
theorem ZjM {es:List En} (h:Tr es) {i k:Nat} {a b:En} (hik:i<k) (ha:es[i]? = some a) (hb:es[k]? = some b):Ahead a b:=by
 obtain ⟨hi,rfl⟩:=List.getElem?_eq_some_iff.1 ha;obtain ⟨hk,rfl⟩:=List.getElem?_eq_some_iff.1 hb;exact List.pairwise_iff_getElem.1 h i k hi hk hik
theorem Zmw {es:List En} {i k:Nat} (h:Bad es i k):¬ Tr es:=by
 intro ht;obtain ⟨a,b,ha,hb,q⟩:=h
 rcases q with ⟨h1,h2⟩ | ⟨h1,h2⟩
 ·exact h2 (ZjM ht h1 ha hb).1
 ·rcases Nat.lt_or_gt_of_ne h1 with q | q
  ·exact ZkQ h2 (ZjM ht q ha hb).1
  ·have:=(ZjM ht q hb ha).2;rw [h2] at this;cases this
theorem ZmK {es:List En} (h:∀ i k,¬ Bad es i k):Tr es:=by
 refine List.pairwise_iff_getElem.2 (λ i k hi hk hik=>⟨?_,?_⟩)
 ·by_cases q:es[i].1<es[k].1
  ·exact q
  ·exact absurd ⟨es[i],es[k],List.getElem?_eq_getElem hi,List.getElem?_eq_getElem hk,.inl ⟨hik,q⟩⟩ (h i k)
 ·cases q:under es[k].1 es[i].1 with
  | false=>rfl
  | true=>exact absurd ⟨es[k],es[i],List.getElem?_eq_getElem hk,List.getElem?_eq_getElem hi,.inr ⟨by omega,q⟩⟩ (h k i)
theorem ZmS (a b:ByteArray):(a++b).data.toList=a.data.toList++b.data.toList:=by
 rw [ByteArray.data_append];simp
theorem Zb8 (a b:ByteArray):(a++b).size=a.size+b.size:=by
 rw [bsize,ZmS,List.length_append,bsize,bsize]
theorem ZcR (n k:Nat) (hn:n<18446744073709551616) (hk:k<=8) (z:ByteArray) (hz:z=⟨(low k n).toArray⟩) (w:World) (u:SW (Grew w)) :
  Calls Tryz.prog 96 #[.int .u64 (n:Int),.int .i64 (k:Int)] u.w λ e w'=>e=.returned (.string z)/\∃ u':SW (Grew w),w'=u'.w:=by
 subst hz;refine (ZaG n k hn hk u.w).mono ?_;rintro e w' ⟨rfl,hb⟩;exact ⟨rfl,⟨w',u.ok.trans (hb.mono u.ok.size)⟩,rfl⟩
theorem ZfP {ao:Option Addr} {c n:Nat} {es:List En} (w:World) (hr:RdG encE w ao es) (hl:es.length=n) :
  Calls Tryz.prog 116 #[.slice ao n c] w λ e w'=>e=.returned (.tuple #[tx (ftree es).1,.int .i64 (ftree es).2])/\Below w.heap.size w w':=by
 by_cases h64:64<n
 ·have q:(64:Int)<(n:Int):=by omega
  have e:ctree es=4:=by unfold ctree; rw [if_pos (by omega)]
  have e2:ftree es=([],4):=by unfold ftree; rw [e]; rfl
  rw [e2];clear hr hl e e2;go_enter Tryz.func116,Tryz.ntmps116;go_wp2;refine bodyPost_ret (results_tmp2 rfl _ _ _) rfl ?_;exact ⟨rfl,Below.refl _ _⟩
 have q:decide ((64:Int)<(n:Int))=false:=by rw [decide_eq_false_iff_not]; omega
 have H:Hid (RdG encE w ao es/\es.length=n):=⟨hr,hl⟩
 clear hr hl;go_enter Tryz.func116,Tryz.ntmps116;go_wp2_with fail;go_loopg [4,5] n (λ m sv iv wr=>∃ (i:Nat) (s:ByteArray),iv=.int .i64 i/\i+m=n/\sv=.string s/\Hid (s=⟨(treeB (es.take i)).toArray⟩/\((es.take i).all λ e=>isPath e.1)=true/\Below w.heap.size w wr))
 case atStart=>exact ⟨0,_,rfl,by omega,rfl,rfl,rfl,Below.refl _ _⟩
 case round =>
  obtain ⟨i,s,rfl,hi,rfl,HR⟩:=hrel;by_cases hin:i<n
  ·have id:(i:Int)<(n:Int):=by omega
   have id0:(0:Int)<=(i:Int):=by omega
   obtain ⟨e,he⟩:=Zaf H.out.2 hin;obtain ⟨b,off,rfl,hlt⟩:=H.out.1.some_of he;obtain ⟨hbw,c0,c1⟩:=(H.out.1.below HR.out.2.2).ents he;obtain ⟨d,z⟩:=e
   obtain ⟨t,ht⟩:∃ t:ByteArray,t=⟨d.toArray⟩:=⟨_,rfl⟩
   have hts:t.size=d.length:=by rw [ht]; show d.toArray.size=_; simp
   simp only at c0 c1;rw [show tx d=.string t by rw [ht]] at c0
   have HE:Hid (es[i]? = some (d,z)/\t=⟨d.toArray⟩/\t.size=d.length):=⟨he,ht,hts⟩
   have hri:∀ f,isPath d=f->Calls Tryz.prog 177 #[.string t] wr λ e w'=>e=.returned (.bool f)/\Below wr.heap.size wr w':=λ f hf=>by rw [ht]; exact Znz d f hf wr
   clear he ht hts
   cases hp:isPath d with
   | false =>
    have hri2:=hri false hp
    have hct:ftree es=([],2):=by
     have:ctree es=2:=by
      unfold ctree;rw [if_neg (by rw [H.out.2]; exact h64),if_pos (ZfQ HE.out.1 hp)]
     unfold ftree;rw [this]
     rfl
    clear hri;go_wp2_with fail;refine hri2.mono ?_;rintro e w2 ⟨rfl,hb2⟩;go_wp2;refine bodyPost_ret (results_tmp2 rfl _ _ _) rfl ?_;exact ⟨by rw [hct]; rfl,HR.out.2.2.trans (hb2.mono HR.out.2.2.size)⟩
   | true =>
    have hri2:=hri true hp;clear hri;go_wp2_with fail;refine hri2.mono ?_;rintro e w2 ⟨rfl,hb2⟩;clear hri2 c0 c1;have B2:=HR.out.2.2.trans (hb2.mono HR.out.2.2.size);have hps:=Zbp hp
    have hlen:s.size<=264*64:=by
     rw [HR.out.1];show (treeB (es.take i)).toArray.size<=_;have h1:=ZdY (es:=es.take i) (λ x hx=>by have:=Zbp (List.all_eq_true.1 HR.out.2.1 x hx); omega)
     have h2:(es.take i).length<=64:=by rw [List.length_take,H.out.2]; omega
     simp only [List.size_toArray];omega
    obtain ⟨z1,hz1⟩:∃ z1:ByteArray,z1=⟨(low 1 t.size).toArray⟩:=⟨_,rfl⟩
    obtain ⟨z8,hz8⟩:∃ z8:ByteArray,z8=⟨(low 8 z.toNat).toArray⟩:=⟨_,rfl⟩
    have l1:z1.size=1:=by rw [hz1]; show (low 1 t.size).toArray.size=1; simp [Zav]
    have l8:z8.size=8:=by rw [hz8]; show (low 8 z.toNat).toArray.size=8; simp [Zav]
    have lt':t.size<=102:=by rw [HE.out.2.2]; exact hps
    have NE:Nonempty (SW (Grew w2)):=⟨⟨w2,Below.refl _ _⟩⟩
    have bu:∀ u:SW (Grew w2),Below w.heap.size w u.w:=λ u=>B2.trans (u.ok.mono B2.size)
    have k0:∀ u:SW (Grew w2),u.w.cell? ⟨b,off+i*2,none⟩=some (.string t):=λ u=>by
     have:=((H.out.1.below (bu u)).ents HE.out.1).2.1;rw [HE.out.2.1];exact this
    have k1:∀ u:SW (Grew w2),u.w.cell? ⟨b,off+i*2+1,none⟩=some (.int .u64 (z.toNat:Int)):=λ u=>((H.out.1.below (bu u)).ents HE.out.1).2.2
    have n1:∀ u:SW (Grew w2),Calls Tryz.prog 96 #[.int .u64 (t.size:Int),.int .i64 1] u.w λ e w'=>e=.returned (.string z1)/\∃ u':SW (Grew w2),w'=u'.w:=ZcR t.size 1 (by omega) (by omega) z1 hz1 w2
    have n8:∀ u:SW (Grew w2),Calls Tryz.prog 96 #[.int .u64 (z.toNat:Int),.int .i64 8] u.w λ e w'=>e=.returned (.string z8)/\∃ u':SW (Grew w2),w'=u'.w:=ZcR z.toNat 8 z.toNat_lt (by omega) z8 hz8 w2
    have wr1:IntKind.u64.wrap (t.size:Int)=(t.size:Int):=by rw [IntKind.wrap_u64]; omega
    have a1:¬ (9223372036854775807<s.size+z1.size):=by omega
    have a2:¬ (9223372036854775807<(s++z1).size+t.size):=by rw [Zb8]; omega
    have a3:¬ (9223372036854775807<(s++z1++t).size+z8.size):=by rw [Zb8,Zb8]; omega
    have HN:Hid (s++z1++t++z8=⟨(treeB (es.take (i+1))).toArray⟩):=by
     show _=_;rw [Zew HE.out.1,HR.out.1,hz1,hz8,HE.out.2.1]
     have e1:low 1 (⟨d.toArray⟩:ByteArray).size=[UInt8.ofNat d.length]:=by
      have:(⟨d.toArray⟩:ByteArray).size=d.length:=by show d.toArray.size=_; simp
      rw [this]; rfl
     rw [e1];apply ByteArray.ext;simp [b8]
    have HB2:Hid (Below w.heap.size w w2/\isPath d=true):=⟨B2,hp⟩
    clear bu hps hlen l1 l8 lt' hz1 hz8 B2 hb2;go_wp2_with fail;refine Zab (S:=Grew w2) (by kernel_rfl) (by kernel_rfl) (Below.refl _ w2).drew ?_
    repeat (go_big_quiet_step (first | with_reducible exact n1 _ | with_reducible exact n8 _))
    refine wpQuiet_nil ?_;intro _ hw';obtain ⟨u,hw''⟩:=hw';subst hw'';have N4:Hid (Below w.heap.size w u.w):=HB2.out.1.trans (u.ok.mono HB2.out.1.size)
    obtain ⟨w4,hw4⟩:∃ w4,w4=u.w:=⟨_,rfl⟩
    rw [<- hw4] at N4 ⊢;clear hw4 k0 k1 n1 n8 NE u;go_wp2;go_roundg (gk - 1)
    case measure=>omega
    case rel=>exact ⟨i+1,_,by go_num,by omega,rfl,HN.out,Zfh HE.out.1 HR.out.2.1 HB2.out.2,N4.out⟩
  ·obtain rfl:i=n:=by omega
   have htk:es.take i=es:=List.take_of_length_le (by rw [H.out.2]; omega)
   have HA:Hid (s=⟨(treeB es).toArray⟩/\((es.all λ e=>isPath e.1)=true)/\Below w.heap.size w wr):=by
    have:=HR.out;rw [htk] at this;exact this
   obtain ⟨w1,hw1⟩:∃ w1,w1=wr:=⟨_,rfl⟩
   rw [<- hw1] at HA ⊢;clear htk hw1 HR wr hin hi;go_wp2_with fail;go_loopg [6,7] i (λ m iv _ wr=>∃ k:Nat,iv=.int .i64 k/\k+m=i/\Hid ((∀ j l,j<k->¬ Bad es j l)/\Below w.heap.size w wr))
   case atStart=>exact ⟨0,rfl,by omega,λ j l h=>absurd h (by omega),HA.out.2.2⟩
   case round =>
    obtain ⟨k,rfl,hi,HR⟩:=hrel;by_cases hin:k<i
    ·have id:(k:Int)<(i:Int):=by omega
     have id0:(0:Int)<=(k:Int):=by omega
     obtain ⟨w2,hw2⟩:∃ w2,w2=wr:=⟨_,rfl⟩
     rw [<- hw2] at HR ⊢;clear hw2 wr;go_wp2_with fail;go_loopg [7] i (λ m iv wr=>∃ l:Nat,iv=.int .i64 l/\l+m=i/\Hid ((∀ j,j<l->¬ Bad es k j)/\Below w.heap.size w wr))
     case atStart=>exact ⟨0,rfl,by omega,λ j h=>absurd h (by omega),HR.out.2⟩
     case round =>
      obtain ⟨l,rfl,hl,HQ⟩:=hrel;by_cases hln:l<i
      ·have ld:(l:Int)<(i:Int):=by omega
       have ld0:(0:Int)<=(l:Int):=by omega
       obtain ⟨x,hx⟩:=Zaf H.out.2 hin;obtain ⟨y,hy⟩:=Zaf H.out.2 hln;obtain ⟨b,off,rfl,hlt⟩:=H.out.1.some_of hx;obtain ⟨xp,xb⟩:=x;obtain ⟨yp,yb⟩:=y
       have NE:Nonempty (SW (Grew wr)):=⟨⟨wr,Below.refl _ _⟩⟩
       have bu:∀ u:SW (Grew wr),Below w.heap.size w u.w:=λ u=>HQ.out.2.trans (u.ok.mono HQ.out.2.size)
       have k0:∀ u:SW (Grew wr),u.w.cell? ⟨b,off+k*2,none⟩=some (tx xp):=λ u=>((H.out.1.below (bu u)).ents hx).2.1
       have k1:∀ u:SW (Grew wr),u.w.cell? ⟨b,off+l*2,none⟩=some (tx yp):=λ u=>((H.out.1.below (bu u)).ents hy).2.1
       obtain ⟨f,hf⟩:∃ f,under xp yp=f:=⟨_,rfl⟩
       have hun:∀ u:SW (Grew wr),Calls Tryz.prog 178 #[tx xp,tx yp] u.w λ e w'=>e=.returned (.bool f)/\∃ u':SW (Grew wr),w'=u'.w:=λ u=>by
        refine (Zib ⟨xp.toArray⟩ ⟨yp.toArray⟩ u.w).mono ?_;rintro e w' ⟨rfl,rfl⟩;exact ⟨by rw [<- hf],u,rfl⟩
       have HX:Hid (es[k]? = some (xp,xb)/\es[l]? = some (yp,yb)/\under xp yp=f):=⟨hx,hy,hf⟩
       have fine:∀ u:SW (Grew wr),¬ Bad es k l->Hid ((∀ j,j<l+1->¬ Bad es k j)/\Below w.heap.size w u.w):=λ u hb=>by
        refine ⟨λ j hj=>?_,bu u⟩
        rcases Nat.lt_or_ge j l with q | q
        ·exact HQ.out.1 j q
        ·obtain rfl:j=l:=by omega
         exact hb
       have wrong:Bad es k l->ftree es=([],12):=λ hb=>by
        have:ctree es=12:=by
         unfold ctree;rw [if_neg (by rw [H.out.2]; exact h64),if_neg (by rw [HA.out.2.1]; decide),if_neg (Zmw hb)]
        unfold ftree;rw [this]
        rfl
       have HW:Hid ((∀ u:SW (Grew wr),¬ Bad es k l->Hid ((∀ j,j<l+1->¬ Bad es k j)/\Below w.heap.size w u.w))/\(Bad es k l->ftree es=([],12))/\∀ u:SW (Grew wr),Below w.heap.size w u.w):=⟨fine,wrong,bu⟩
       clear hx hy hf fine wrong bu
       rcases Nat.lt_trichotomy k l with hkl | hkl | hkl
       ·have d1:decide ((k:Int)<(l:Int))=true:=by rw [decide_eq_true_iff]; omega
        have d2:((k:Int) != (l:Int))=true:=by rw [bne_iff_ne]; omega
        have d3:(k:Int)<(l:Int):=by omega
        by_cases hxy:xp<yp
        ·have q1:Op.bytesLess xp yp=true:=by rw [ZaJ,decide_eq_true_iff]; exact hxy
         have q2:Op.bytesLess yp xp=false:=by rw [ZaJ,decide_eq_false_iff_not]; exact List.lt_asymm hxy
         have q3:(yp==xp)=false:=by rw [beq_eq_false_iff_ne]; rintro rfl; exact List.lt_irrefl _ hxy
         have q4:(xp==yp)=false:=by rw [beq_eq_false_iff_ne]; rintro rfl; exact List.lt_irrefl _ hxy
         go_wp2_with fail;refine Zab (S:=Grew wr) (by kernel_rfl) (by kernel_rfl) (Below.refl _ wr).drew ?_
         repeat (go_big_quiet_step (with_reducible exact hun _))
         refine wpQuiet_nil ?_;intro _ hw';obtain ⟨u,hw''⟩:=hw';subst hw'';have HU:=HW.out.1 u;have HV:Hid (Below w.heap.size w u.w):=HW.out.2.2 u;have HU':Hid (¬ Bad es k l->Hid ((∀ j,j<l+1->¬ Bad es k j)/\Below w.heap.size w u.w)):=HU
         obtain ⟨w4,hw4⟩:∃ w4,w4=u.w:=⟨_,rfl⟩
         rw [<- hw4] at HU' HV ⊢;clear HU hw4 k0 k1 hun NE u
         cases f with
         | true =>
          have hct:=HW.out.2.1 (⟨_,_,HX.out.1,HX.out.2.1,.inr ⟨by omega,HX.out.2.2⟩⟩);clear HU';go_wp2;refine bodyPost_ret (results_tmp2 rfl _ _ _) rfl ?_;exact ⟨by rw [hct]; rfl,HV.out⟩
         | false =>
          have N:=HU'.out (by
            rintro ⟨a,b',h1,h2,h3⟩;rw [HX.out.1] at h1;rw [HX.out.2.1] at h2;cases h1;cases h2
            rcases h3 with ⟨g1,g2⟩ | ⟨g1,g2⟩
            ·first | exact g2 hxy | omega
            ·first | omega | (rw [HX.out.2.2] at g2; cases g2))
          clear HU';go_wp2;go_roundg (gk - 1)
          case measure=>omega
          case rel=>exact ⟨l+1,by go_num,by omega,N⟩
        ·by_cases hq:xp=yp
         ·have hct:=HW.out.2.1 ⟨_,_,HX.out.1,HX.out.2.1,.inl ⟨hkl,hxy⟩⟩
          have q1:Op.bytesLess xp yp=false:=by rw [ZaJ,decide_eq_false_iff_not]; exact hxy
          have q2:Op.bytesLess yp xp=false:=by rw [ZaJ,decide_eq_false_iff_not,<- hq]; exact List.lt_irrefl _
          have q3:(yp==xp)=true:=by rw [beq_iff_eq]; exact hq.symm
          have q4:(xp==yp)=true:=by rw [beq_iff_eq]; exact hq
          clear hq;go_wp2_with fail;refine Zab (S:=Grew wr) (by kernel_rfl) (by kernel_rfl) (Below.refl _ wr).drew ?_
          repeat (go_big_quiet_step (with_reducible exact hun _))
          refine wpQuiet_nil ?_;intro _ hw';obtain ⟨u,hw''⟩:=hw';subst hw'';have HU:=HW.out.1 u;have HV:Hid (Below w.heap.size w u.w):=HW.out.2.2 u;have HU':Hid (¬ Bad es k l->Hid ((∀ j,j<l+1->¬ Bad es k j)/\Below w.heap.size w u.w)):=HU
          obtain ⟨w4,hw4⟩:∃ w4,w4=u.w:=⟨_,rfl⟩
          rw [<- hw4] at HU' HV ⊢;clear HU hw4 k0 k1 hun NE u;clear HU';go_wp2;refine bodyPost_ret (results_tmp2 rfl _ _ _) rfl ?_;exact ⟨by rw [hct]; rfl,HV.out⟩
         ·have hct:=HW.out.2.1 ⟨_,_,HX.out.1,HX.out.2.1,.inl ⟨hkl,hxy⟩⟩
          have hlt2:yp<xp:=by
           by_cases k':yp<xp
           ·exact k'
           ·exact absurd (List.le_antisymm k' hxy) hq
          have q1:Op.bytesLess xp yp=false:=by rw [ZaJ,decide_eq_false_iff_not]; exact hxy
          have q2:Op.bytesLess yp xp=true:=by rw [ZaJ,decide_eq_true_iff]; exact hlt2
          have q3:(yp==xp)=false:=by rw [beq_eq_false_iff_ne]; exact λ e=>hq e.symm
          have q4:(xp==yp)=false:=by rw [beq_eq_false_iff_ne]; exact hq
          clear hq hlt2;go_wp2_with fail;refine Zab (S:=Grew wr) (by kernel_rfl) (by kernel_rfl) (Below.refl _ wr).drew ?_
          repeat (go_big_quiet_step (with_reducible exact hun _))
          refine wpQuiet_nil ?_;intro _ hw';obtain ⟨u,hw''⟩:=hw';subst hw'';have HU:=HW.out.1 u;have HV:Hid (Below w.heap.size w u.w):=HW.out.2.2 u;have HU':Hid (¬ Bad es k l->Hid ((∀ j,j<l+1->¬ Bad es k j)/\Below w.heap.size w u.w)):=HU
          obtain ⟨w4,hw4⟩:∃ w4,w4=u.w:=⟨_,rfl⟩
          rw [<- hw4] at HU' HV ⊢;clear HU hw4 k0 k1 hun NE u;clear HU';go_wp2;refine bodyPost_ret (results_tmp2 rfl _ _ _) rfl ?_;exact ⟨by rw [hct]; rfl,HV.out⟩
       ·subst hkl
        have hnb:¬ Bad es k k:=by
         rintro ⟨a,b',h1,h2,h3⟩
         rcases h3 with ⟨g1,g2⟩ | ⟨g1,g2⟩
         ·omega
         ·exact g1 rfl
        have HNB:Hid (¬ Bad es k k):=hnb;clear hnb;go_wp2_with fail;refine Zab (S:=Grew wr) (by kernel_rfl) (by kernel_rfl) (Below.refl _ wr).drew ?_
        repeat (go_big_quiet_step (with_reducible exact hun _))
        refine wpQuiet_nil ?_;intro _ hw';obtain ⟨u,hw''⟩:=hw';subst hw'';have HU:=HW.out.1 u;have HV:Hid (Below w.heap.size w u.w):=HW.out.2.2 u;have HU':Hid (¬ Bad es k k->Hid ((∀ j,j<k+1->¬ Bad es k j)/\Below w.heap.size w u.w)):=HU
        obtain ⟨w4,hw4⟩:∃ w4,w4=u.w:=⟨_,rfl⟩
        rw [<- hw4] at HU' HV ⊢;clear HU hw4 k0 k1 hun NE u;have N:=HU'.out (HNB.out);clear HU';go_wp2;go_roundg (gk - 1)
        case measure=>omega
        case rel=>exact ⟨k+1,by go_num,by omega,N⟩
       ·have d1:decide ((k:Int)<(l:Int))=false:=by rw [decide_eq_false_iff_not]; omega
        have d4:decide (k<l)=false:=by rw [decide_eq_false_iff_not]; omega
        have d5:((k:Int)==(l:Int))=false:=by rw [beq_eq_false_iff_ne]; omega
        have d6:(k==l)=false:=by rw [beq_eq_false_iff_ne]; omega
        have d7:(k != l)=true:=by rw [bne_iff_ne]; omega
        have d2:((k:Int) != (l:Int))=true:=by rw [bne_iff_ne]; omega
        go_wp2_with fail;refine Zab (S:=Grew wr) (by kernel_rfl) (by kernel_rfl) (Below.refl _ wr).drew ?_
        repeat (go_big_quiet_step (with_reducible exact hun _))
        refine wpQuiet_nil ?_;intro _ hw';obtain ⟨u,hw''⟩:=hw';subst hw'';have HU:=HW.out.1 u;have HV:Hid (Below w.heap.size w u.w):=HW.out.2.2 u;have HU':Hid (¬ Bad es k l->Hid ((∀ j,j<l+1->¬ Bad es k j)/\Below w.heap.size w u.w)):=HU
        obtain ⟨w4,hw4⟩:∃ w4,w4=u.w:=⟨_,rfl⟩
        rw [<- hw4] at HU' HV ⊢;clear HU hw4 k0 k1 hun NE u
        cases f with
        | true =>
         have hct:=HW.out.2.1 (⟨_,_,HX.out.1,HX.out.2.1,.inr ⟨by omega,HX.out.2.2⟩⟩);clear HU';go_wp2;refine bodyPost_ret (results_tmp2 rfl _ _ _) rfl ?_;exact ⟨by rw [hct]; rfl,HV.out⟩
        | false =>
         have N:=HU'.out (by
           rintro ⟨a,b',h1,h2,h3⟩;rw [HX.out.1] at h1;rw [HX.out.2.1] at h2;cases h1;cases h2
           rcases h3 with ⟨g1,g2⟩ | ⟨g1,g2⟩
           ·omega
           ·first | omega | (rw [HX.out.2.2] at g2; cases g2))
         clear HU';go_wp2;go_roundg (gk - 1)
         case measure=>omega
         case rel=>exact ⟨l+1,by go_num,by omega,N⟩
      ·obtain rfl:l=i:=by omega
       have HZ:Hid (∀ j l,j<k+1->¬ Bad es j l):=λ j l hj hb=>by
        rcases Nat.lt_or_ge j k with q | q
        ·exact HR.out.1 j l q hb
        ·obtain rfl:j=k:=by omega
         have hb2:=hb;obtain ⟨_,_,_,h2,_⟩:=hb2;exact HQ.out.1 l (by have:=(List.getElem?_eq_some_iff.1 h2).1; rw [H.out.2] at this; exact this) hb
       go_wp2;go_roundg (l - (k+1))
       case measure=>omega
       case rel=>exact ⟨k+1,by go_num,by omega,HZ.out,HQ.out.2⟩
    ·obtain rfl:k=i:=by omega
     have htr:Tr es:=ZmK (λ j l hb=>by
      have hb2:=hb;obtain ⟨_,_,h1,_,_⟩:=hb2
      exact HR.out.1 j l (by have:=(List.getElem?_eq_some_iff.1 h1).1; rw [H.out.2] at this; exact this) hb)
     have hct:ftree es=(treeB es,0):=by
      unfold ftree;rw [if_pos (Zhu (by rw [H.out.2]; omega) HA.out.2.1 htr)]
     clear htr;go_wp2;refine bodyPost_ret (results_tmp2 rfl _ _ _) rfl ?_;exact ⟨by rw [hct,HA.out.1]; rfl,HR.out.2⟩
end Go.Proofs.YtmhcpbbiokpjjaaGreat
