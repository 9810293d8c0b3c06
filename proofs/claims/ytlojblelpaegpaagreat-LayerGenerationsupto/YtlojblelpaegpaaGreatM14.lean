/-
  Several texts, laid together.
-/
import Derived.Test.YtlojblelpaegpaaGreatM13
set_option maxHeartbeats 6400000
set_option maxRecDepth 100000
open Go renaming World->Ap,Value->Ar,Calls->At,wpQuiet_nil->AN,maxLen->AG,below_drewN->AS
open Go.RowKit renaming Below->An
open List renaming drop_succ_cons->FP,getElem?_eq_some_iff->AC,drop_eq_getElem_cons->BV,drop_of_length_le->Dj,take_of_length_le->Av,take_add_one->AO,cons_append->Cs,length_filter_le->CK,length_take->AM
open Nat renaming lt_or_ge->Cp,le_refl->Az,le_trans->AZ
open Go.RowKit.Below renaming refl->Ao,mono->Dw
open Go.Value renaming slice->Aa,int->Ab,bool->Ad,string->Ae
open Go.Ending renaming returned->Aj
open Go.IntKind renaming i64->Ak,u64->Al
open Go.Proofs.Tryz renaming prog->Am
open Go.Proofs.Tryz
namespace Go.Proofs.YtlojblelpaegpaaGreat
open Go.RowKit
variable{L c i:Nat}{ao:Option Addr}{k:Int}{n:Bs}{x:UInt64}{α:Type}
section
variable{S:Nat->Prop}{ao:Option Addr}{L c:Nat}{d:Dk}{w:World}
end
section
variable{S:Nat->Prop}{d:Dk}{w:World}
end
def encO:Enc Ob:=⟨λ o=>[Ab Ak o.kind,Ab Al (o.id.toNat:Int),tx o.body],3,λ _=>rfl,by decide,by intro x u h;simp at h;rcases h with rfl|rfl|rfl <;> rfl⟩
def encN:Enc (Nm UInt64):=⟨λ f=>[tx f.1,Ab Al (f.2.toNat:Int)],2,λ _=>rfl,by decide,by intro x u h;simp at h;rcases h with rfl|rfl <;> rfl⟩
theorem RdG.obs {w:World} {b off:Nat} {os:List Ob} (h:RdG encO w (some ⟨b,off,none⟩) os) {i:Nat} {o:Ob} (hx:os[i]? = some o):b<w.heap.size/\w.cell? ⟨b,off+i*3,none⟩=some (.int .i64 o.kind)/\w.cell? ⟨b,off+i*3+1,none⟩=some (.int .u64 (o.id.toNat:Int))/\w.cell? ⟨b,off+i*3+2,none⟩=some (tx o.body):=by
 obtain ⟨b', off', e, hlt, hc⟩ := h (by rcases Nat.lt_or_ge i os.length with q | q
                                        · omega
                                        · rw [List.getElem?_eq_none q] at hx; cases hx)
 obtain ⟨rfl,rfl⟩:b=b'/\off=off':=by simpa using e
 have h0:=hc i o hx 0 _ rfl;have h1:=hc i o hx 1 _ rfl;have h2:=hc i o hx 2 _ rfl;exact ⟨hlt,by simpa [encO] using h0,by simpa [encO,Nat.add_assoc] using h1,by simpa [encO,Nat.add_assoc] using h2⟩
theorem RdG.named {w:World} {b off:Nat} {ns:List (Nm UInt64)} (h:RdG encN w (some ⟨b,off,none⟩) ns) {i:Nat} {n:Bs} {x:UInt64} (hx:ns[i]? = some (n,x)):b<w.heap.size/\w.cell? ⟨b,off+i*2,none⟩=some (tx n)/\w.cell? ⟨b,off+i*2+1,none⟩=some (.int .u64 (x.toNat:Int)):=by
 obtain ⟨b', off', e, hlt, hc⟩ := h (by rcases Nat.lt_or_ge i ns.length with q | q
                                        · omega
                                        · rw [List.getElem?_eq_none q] at hx; cases hx)
 obtain ⟨rfl,rfl⟩:b=b'/\off=off':=by simpa using e
 have h0:=hc i (n,x) hx 0 _ rfl;have h1:=hc i (n,x) hx 1 _ rfl;exact ⟨hlt,by simpa [encN] using h0,by simpa [encN,Nat.add_assoc] using h1⟩
structure LG{α:Type}(E:Enc α)(Z:Nat->Prop)(w:Ap)(a:Option Addr)(n c:Nat)(xs:List α):Prop where
 len:xs.length=n
 cap:n<=c
 rd:RdG E w a xs
 far:0<n->∀p,a=some p->¬Z p.block
section
variable{α:Type}{E:Enc α}{Z Z' T:Nat->Prop}{w w':World}{a:Option Addr}{n c:Nat}{xs:List α}
theorem LG.below(h:LG E Z w a n c xs)(b:An w.heap.size w w'):LG E Z w' a n c xs:=⟨h.len,h.cap,h.rd.below b,h.far⟩
theorem LG.mono(h:LG E Z w a n c xs)(d:∀i,Z' i->Z i):LG E Z' w a n c xs:=⟨h.len,h.cap,h.rd,λ b p hp q=>h.far b p hp (d _ q)⟩
theorem LG.turned(h:LG E Z w a n c xs)(e:Zaa T w w')(d:∀i,T i->Z i):LG E Z w' a n c xs:=⟨h.len,h.cap,h.rd.turned e (λ b p hp q=>h.far (by rw[<- h.len];exact b) p hp (d _ q)),h.far⟩
theorem LG.into(h:LG E Z w a n c xs)(g:∀i,i<w.heap.size->Z' i->Z i):LG E Z' w a n c xs:=⟨h.len,h.cap,h.rd,λ f p hp q=>by
 obtain⟨b,off,e,d,_⟩:=h.rd (by rw[h.len];exact f);rw[e]at hp;cases hp
 exact h.far f _ e (g _ d q)⟩
theorem LG.ofOwn{e:TypeId}{B:Nat}{v:Ar}(h:OwnG E e w B v xs)(l:∀i,Z i->i<B):∃a c,v=Aa a xs.length c/\LG E Z w a xs.length c xs:=by
 obtain⟨a,c,rfl,f,m,j,k⟩:=OwnG.form h;refine⟨a,c,rfl,rfl,f,j,λ d p hp q=>?_⟩;obtain⟨g,b⟩:=k d;rw[hp]at b;cases b;have:=(h.lt g (by rw[hp];rfl)).1;have:=l _ q;have e:((⟨g,0,none⟩:Addr)).block=g:=rfl;omega
end
def Nine(w:Ap)(B:Nat)(a0 a1 a2 a3 a4 a5 a6 a7 a8:Ar):Prop:=w.heap[B]? = some (.cells #[a0,a1,a2,a3,a4,a5,a6,a7,a8] 33 (0,0))
section
variable{w w':World}{B:Nat}{a0 a1 a2 a3 a4 a5 a6 a7 a8:Value}
theorem Nine.lt(h:Nine w B a0 a1 a2 a3 a4 a5 a6 a7 a8):B<w.heap.size:=(Array.getElem?_eq_some_iff.1 h).1
theorem Nine.below{K:Nat}(h:Nine w B a0 a1 a2 a3 a4 a5 a6 a7 a8)(b:An K w w')(a:B<K):Nine w' B a0 a1 a2 a3 a4 a5 a6 a7 a8:=(b.block B a).trans h
theorem Nine.turned{S:Nat->Prop}(h:Nine w B a0 a1 a2 a3 a4 a5 a6 a7 a8)(b:Zaa S w w')(a:¬S B):Nine w' B a0 a1 a2 a3 a4 a5 a6 a7 a8:=(b.block B h.lt a).trans h
theorem Nine.cells(h:Nine w B a0 a1 a2 a3 a4 a5 a6 a7 a8):w.cell? ⟨B,0,none⟩=some a0/\w.cell? ⟨B,1,none⟩=some a1/\w.cell? ⟨B,2,none⟩=some a2/\w.cell? ⟨B,3,none⟩=some a3/\w.cell? ⟨B,4,none⟩=some a4/\w.cell? ⟨B,5,none⟩=some a5/\w.cell? ⟨B,6,none⟩=some a6/\w.cell? ⟨B,7,none⟩=some a7/\w.cell? ⟨B,8,none⟩=some a8:=by
 unfold Nine at h;simp[World.cell?,h]
theorem Nine.thaw(h:Nine w B a0 a1 a2 a3 a4 a5 a6 a7 a8):∀j,w.frozen? ⟨B,j,none⟩=false:=by
 unfold Nine at h;simp[World.frozen?,h]
theorem Nine.new(w:Ap)(a0 a1 a2 a3 a4 a5 a6 a7 a8:Ar):Nine (w.alloc (.cells #[a0,a1,a2,a3,a4,a5,a6,a7,a8] 33)) w.heap.size a0 a1 a2 a3 a4 a5 a6 a7 a8:=heap_alloc_new w _
end
abbrev rm(d:Dk)(vf vo vr vt:Ar):Ar:=.agg #[vf,Ab Ak (d.writes:Int),Ad d.armed,Ad d.dead,Ab Ak (d.after:Int),Ab Ak (d.keep:Int),vo,vr,vt]
abbrev Zco(w:Ap)(B:Nat)(d:Dk)(vf vo vr vt:Ar):Prop:=Nine w B vf (Ab Ak (d.writes:Int)) (Ad d.armed) (Ad d.dead) (Ab Ak (d.after:Int)) (Ab Ak (d.keep:Int)) vo vr vt
abbrev nineC(d:Dk)(vf vo vr vt:Ar):Obj:=.cells #[vf,Ab Ak (d.writes:Int),Ad d.armed,Ad d.dead,Ab Ak (d.after:Int),Ab Ak (d.keep:Int),vo,vr,vt] 33
theorem ZgH{l:List Ob}:∀{i:Nat},(∀j,j<i->∀o,l[j]? = some o->¬(o.kind=k/\o.id=x))->oget l k x=oget (l.drop i) k x:=by
 induction l with
 | nil=>intro i _;simp
 | cons f t c =>
  intro i h
  cases i with
  | zero=>rfl
  | succ i =>
   have a:¬(f.kind=k/\f.id=x):=h 0 (by omega) f rfl;simp only[oget,Aw a,FP];exact c (i:=i) (λ j d o b=>h (j+1) (by omega) o b)
theorem Zks{l:List Ob}{b:Bs}(h:∀j,j<i->∀o,l[j]? = some o->¬(o.kind=k/\o.id=x))(hi:l[i]? = some ⟨k,x,b⟩):oget l k x=some b:=by
 obtain⟨a,e⟩:=AC.1 hi;rw[ZgH h,BV a,e];simp[oget]
section
variable{w:World}{d:Dk}{st:St}{oa:Option Addr}{on oc:Nat}{vf vr vt:Value}
theorem Zgr(h:RdG encO w oa st.objs)(L:st.objs.length=on)(Q:on<=1000000)(k:Int)(x:UInt64):
  At Am 92 #[rm d vf (Aa oa on oc) vr vt,Ab Ak k,Ab Al (x.toNat:Int)] w λ e w'=>∃r,e=Aj (Ab Ak r)/\Hid ((oget st.objs k x=none/\r = -1)∨∃i:Nat,r=(i:Int)/\∃bs:Bs,st.objs[i]? = some ⟨k,x,bs⟩/\oget st.objs k x=some bs)/\An w.heap.size w w':=by
 have H:Hid (RdG encO w oa st.objs/\st.objs.length=on):=⟨h,L⟩
 obtain⟨W,K⟩:=Xa (w.alloc (nineC d vf (Aa oa on oc) vr vt))
 have S:W.cell? ⟨w.heap.size,6,none⟩=some (Aa oa on oc):=by rw[<- K];exact(Nine.new w _ _ _ _ _ _ _ _ _).cells.2.2.2.2.2.2.1
 have y:Hid (An w.heap.size w W):=by rw[<- K];exact bz1 _ _
 obtain⟨n,l⟩:∃n:Int,(x.toNat:Int)=n:=⟨_,rfl⟩
 rw[l];have I:Hid ((x.toNat:Int)=n):=l;clear h L l;go_enter func92,ntmps92;go_wp2_with fail;go_loopg[7] on (λ m O wr=>wr=W/\∃i:Nat,O=Ab Ak i/\i+m=on/\Hid (∀j,j<i->∀o,st.objs[j]? = some o->¬(o.kind=k/\o.id=x)))
 case atStart=>exact⟨rfl,0,rfl,by omega,λ j M=>by omega⟩
 case round =>
  obtain⟨E,i,rfl,hi,v⟩:=hrel;subst E;by_cases C:i<on
  ·have id:(i:Int)<(on:Int):=by omega
   obtain⟨o,u⟩:=Zaf H.o.2 C;have R:=H.o.1.below y.o;obtain⟨b1,T,rfl,N⟩:=R.some_of u;obtain⟨_,A,s,B⟩:=R.obs u;obtain⟨ok,p,ob⟩:=o;simp only at A s B;have X:Hid (st.objs[i]? = some ⟨ok,p,ob⟩):=u
   obtain⟨a,f⟩:∃a:Int,(p.toNat:Int)=a:=⟨_,rfl⟩
   rw[f]at s;have G:Hid ((p.toNat:Int)=a):=f;clear R u f
   have b:¬(ok=k/\p=x)->Hid (∀j,j<i+1->∀o,st.objs[j]? = some o->¬(o.kind=k/\o.id=x)):=by
    intro D j M o g
    rcases Cp j i with q|q
    ·exact v.o j q o g
    ·obtain rfl:j=i:=by omega
     rw[X.o]at g;cases g;exact D
   have inj:a=n->p=x:=λ q=>UInt64.toNat_inj.1 (by have:=G.o;have:=I.o;omega)
   have c:p=x->a=n:=λ q=>by rw[<- G.o,<- I.o,q]
   by_cases t:ok=k
   ·by_cases F:a=n
    ·subst t F;have J:=inj rfl;go_wp2;go_ret;refine⟨_,rfl,.inr ⟨i,rfl,ob,by rw[<- J];exact X.o,?_⟩,y.o⟩;exact Zks v.o (by rw[<- J];exact X.o)
    ·have z:Hid _:=b (λ q=>F (c q.2));subst t
     have P:(a==n)=false:=by simpa using F
     clear b inj c;go_wp2;go_roundg (gk - 1)
     case measure=>omega
     case rel=>exact⟨rfl,i+1,by go_num,by omega,z⟩
   ·have z:Hid _:=b (λ q=>t q.1)
    have P:(ok==k)=false:=by simpa using t
    clear b inj c;go_wp2;go_roundg (gk - 1)
    case measure=>omega
    case rel=>exact⟨rfl,i+1,by go_num,by omega,z⟩
  ·obtain rfl:i=on:=by omega
   go_wp2;go_ret;refine⟨_,rfl,.inl ⟨?_,rfl⟩,y.o⟩;rw[ZgH v.o,Dj (by rw[H.o.2];exact Az _)]
   rfl
theorem ZaK(h:RdG encO w oa st.objs)(t:st.objs.length=on)(z:on<=1000000)(k:Int)(x:UInt64)(g:Bool)(s:st.has k x=g):
  At Am 37 #[rm d vf (Aa oa on oc) vr vt,Ab Ak k,Ab Al (x.toNat:Int)] w λ e w'=>e=Aj (Ad g)/\An w.heap.size w w':=by
 obtain⟨W,q⟩:=Xa (w.alloc (nineC d vf (Aa oa on oc) vr vt))
 have j:An w.heap.size w W:=by rw[<- q];exact bz1 _ _
 have u:Zco W w.heap.size d vf (Aa oa on oc) vr vt:=by rw[<- q];exact Nine.new w _ _ _ _ _ _ _ _ _
 obtain⟨A,B,C,D,E,F,G,H,I⟩:=u.cells
 have a:=Zgr (d:=d) (oc:=oc) (vf:=vf) (vr:=vr) (vt:=vt) (h.below j) t z k x
 have f:Hid (An w.heap.size w W/\st.has k x=g):=⟨j,s⟩
 obtain⟨v,b⟩:∃v:Int,(x.toNat:Int)=v:=⟨_,rfl⟩
 rw[b]at a ⊢;clear h t s b j u;go_enter func37,ntmps37;go_wp2_with fail;refine a.mono ?_;rintro e w1 ⟨r,rfl,y,n⟩;have p:Hid (An w.heap.size w w1):=f.o.1.trans (n.mono f.o.1.size);clear n a
 rcases y.o with⟨c,m⟩ | ⟨i,m,bs,_,c⟩
 ·have l:g=false:=by rw[<- f.o.2];unfold St.has;rw[c];rfl
  subst m l;clear c;go_wp2;go_ret;exact⟨rfl,p.o⟩
 ·have l:g=true:=by rw[<- f.o.2];unfold St.has;rw[c];rfl
  subst m l
  have i0:(0:Int)<=(i:Int):=by omega
  clear c;go_wp2;go_ret;exact⟨by simp,p.o⟩
end
section
variable{w:World}{d:Dk}{st:St}{oa:Option Addr}{on oc:Nat}{vf vr vt:Value}
theorem Zgd{wr:Ap}(h:RdG encO wr oa st.objs)(c:st.objs.length=on)(f:on<=1000000)(k:Int)(x:UInt64)(g:Bool)(b:st.has k x=g)(u:SW (Grew wr)):
  At Am 37 #[rm d vf (Aa oa on oc) vr vt,Ab Ak k,Ab Al (x.toNat:Int)] u.w λ e w'=>e=Aj (Ad g)/\∃u':SW (Grew wr),w'=u'.w:=by
 refine(ZaK (h.below u.ok) c f k x g b).mono ?_;rintro e w' ⟨rfl,a⟩;exact⟨rfl,⟨w',Below.trans u.ok (a.mono u.ok.size)⟩,rfl⟩
theorem Ze5(h:RdG encO w oa st.objs)(Q:st.objs.length=on)(Z:on<=1000000){x:Option Addr}{k ec:Nat}{es:List En}(R:RdG encE w x es)(r:es.length=k)(X:k<=4000000000000000000)(g:Bool)(P:st.blobs es=g):
  At Am 119 #[rm d vf (Aa oa on oc) vr vt,Aa x k ec] w λ e w'=>e=Aj (Ad g)/\An w.heap.size w w':=by
 obtain⟨W,O⟩:=Xa (w.alloc (nineC d vf (Aa oa on oc) vr vt))
 have s:An w.heap.size w W:=by rw[<- O];exact bz1 _ _
 have a:Zco W w.heap.size d vf (Aa oa on oc) vr vt:=by rw[<- O];exact Nine.new w _ _ _ _ _ _ _ _ _
 have H:Hid (RdG encO W oa st.objs/\st.objs.length=on/\RdG encE W x es/\es.length=k/\st.blobs es=g/\An w.heap.size w W/\Zco W w.heap.size d vf (Aa oa on oc) vr vt):=⟨h.below s,Q,R.below s,r,P,s,a⟩
 clear h Q R r P s a;go_enter func119,ntmps119;go_wp2_with fail;go_loopg[5] k (λ m iv wr=>∃i:Nat,iv=Ab Ak i/\i+m=k/\Hid ((es.take i).all (λ e=>st.has 1 e.2)=true/\An W.heap.size W wr))
 case atStart=>exact⟨0,rfl,by omega,rfl,Ao _ _⟩
 case round =>
  obtain⟨i,rfl,hi,j⟩:=hrel;by_cases A:i<k
  ·have id:(i:Int)<(k:Int):=by omega
   obtain⟨e,t⟩:=Zaf H.o.2.2.2.1 A;obtain⟨b1,off,rfl,Y⟩:=H.o.2.2.1.some_of t;obtain⟨V,z⟩:=e
   have v:∀u:SW (Grew wr),An W.heap.size W u.w:=λ u=>j.o.2.trans (Dw u.ok j.o.2.size)
   have D:Nonempty (SW (Grew wr)):=⟨⟨wr,Ao _ _⟩⟩
   have B:∀u:SW (Grew wr),u.w.cell? ⟨b1,off+i*2+1,none⟩=some (Ab Al (z.toNat:Int)):=λ u=>((H.o.2.2.1.below (v u)).ents t).2.2
   have a:=λ u:SW (Grew wr)=>(H.o.2.2.2.2.2.2.below (v u) H.o.2.2.2.2.2.2.lt).cells
   have E:=λ u=>(a u).1
   have F:=λ u=>(a u).2.1
   have G:=λ u=>(a u).2.2.1
   have I:=λ u=>(a u).2.2.2.1
   have J:=λ u=>(a u).2.2.2.2.1
   have K:=λ u=>(a u).2.2.2.2.2.1
   have L:=λ u=>(a u).2.2.2.2.2.2.1
   have M:=λ u=>(a u).2.2.2.2.2.2.2.1
   have N:=λ u=>(a u).2.2.2.2.2.2.2.2
   have l:=λ q hq=>Zgd (d:=d) (oc:=oc) (vf:=vf) (vr:=vr) (vt:=vt) (wr:=wr) (H.o.1.below j.o.2) H.o.2.1 Z 1 z q hq
   obtain⟨U,T⟩:∃U:Int,(z.toNat:Int)=U:=⟨_,rfl⟩
   rw[T]at B l;have C:Hid (es[i]? = some (V,z)):=t;clear t a T v
   cases hp:st.has 1 z with
   | true =>
    have l:=l true hp;go_wp2_with fail;refine Zab (S:=Grew wr) (by kernel_rfl) (by kernel_rfl) (Ao _ wr).drew ?_
    repeat(go_big_quiet_step (with_reducible exact l _))
    refine AN ?_;intro _ n;obtain⟨u,c⟩:=n;subst c;have p:Hid (An W.heap.size W u.w):=j.o.2.trans (Dw u.ok j.o.2.size)
    obtain⟨w4,f⟩:=Xb u.w
    rw[<- f]at p ⊢;clear f B l E F G I J K L M N D u;go_wp2;go_roundg (gk - 1)
    case measure=>omega
    case rel=>exact⟨i+1,by go_num,by omega,ZcI C.o j.o.1 hp,p.o⟩
   | false =>
    have l:=l false hp
    have y:g=false:=by rw[<- H.o.2.2.2.2.1];exact Zcy C.o hp
    subst y;go_wp2_with fail;refine Zab (S:=Grew wr) (by kernel_rfl) (by kernel_rfl) (Ao _ wr).drew ?_
    repeat(go_big_quiet_step (with_reducible exact l _))
    refine AN ?_;intro _ n;obtain⟨u,c⟩:=n;subst c;have p:Hid (An W.heap.size W u.w):=j.o.2.trans (Dw u.ok j.o.2.size)
    obtain⟨w4,f⟩:=Xb u.w
    rw[<- f]at p ⊢;clear f B l E F G I J K L M N D u;go_wp2;go_ret;exact⟨rfl,H.o.2.2.2.2.2.1.trans (p.o.mono H.o.2.2.2.2.2.1.size)⟩
  ·obtain rfl:i=k:=by omega
   have b:=j.o.1;rw[Av (by rw[H.o.2.2.2.1];omega)]at b
   have y:g=true:=by rw[<- H.o.2.2.2.2.1];exact b
   subst y;clear b;go_wp2;go_ret;exact⟨rfl,H.o.2.2.2.2.2.1.trans (j.o.2.mono H.o.2.2.2.2.2.1.size)⟩
theorem ZeT(h:RdG encO w oa st.objs)(R:st.objs.length=on)(Z:on<=1000000){pa:Option Addr}{pn pc:Nat}{cm:Cm}(hr:RdG encU w pa cm.ps)(x:cm.ps.length=pn)(aa:pn<=4000000000000000000)(dt:Int)(nt:ByteArray)(g:Bool)(Y:st.above cm=g):
  At Am 123 #[rm d vf (Aa oa on oc) vr vt,.agg #[Ab Al (cm.tree.toNat:Int),Aa pa pn pc,Ab Ak dt,Ae nt]] w λ e w'=>e=Aj (Ad g)/\An w.heap.size w w':=by
 have f:=λ(wr:Ap) (v:An w.heap.size w wr) (q:Bool) (hq:st.has 2 cm.tree=q)=>ZaK (d:=d) (oc:=oc) (vf:=vf) (vr:=vr) (vt:=vt) (h.below v) R Z 2 cm.tree q hq
 obtain⟨r,y⟩:∃r:Int,(cm.tree.toNat:Int)=r:=⟨_,rfl⟩
 rw[y]at f ⊢
 obtain⟨W,P⟩:=Xa ((w.alloc (nineC d vf (Aa oa on oc) vr vt)).alloc (.cells #[Ab Al r,Aa pa pn pc,Ab Ak dt,Ae nt] 101))
 have A:An w.heap.size w W:=by rw[<- P];exact bz2 _ _ _
 have s1:(w.alloc (nineC d vf (Aa oa on oc) vr vt)).heap.size=w.heap.size+1:=by simp
 have a:Zco W w.heap.size d vf (Aa oa on oc) vr vt:=by rw[<- P];exact(Nine.new w _ _ _ _ _ _ _ _ _).below (bz1 _ _) (by rw[s1];omega)
 have bx:Box4 W (w.heap.size+1) 101 (Ab Al r) (Aa pa pn pc) (Ab Ak dt) (Ae nt):=by
  have:=Box4.new (w.alloc (nineC d vf (Aa oa on oc) vr vt)) 101 (Ab Al r) (Aa pa pn pc) (Ab Ak dt) (Ae nt);rw[s1,P]at this;exact this
 have H:Hid (RdG encO W oa st.objs/\st.objs.length=on/\RdG encU W pa cm.ps/\cm.ps.length=pn/\st.above cm=g/\An w.heap.size w W/\Zco W w.heap.size d vf (Aa oa on oc) vr vt/\Box4 W (w.heap.size+1) 101 (Ab Al r) (Aa pa pn pc) (Ab Ak dt) (Ae nt)):=⟨h.below A,R,hr.below A,x,Y,A,a,bx⟩
 have TR:Hid (∀(wr:Ap),An w.heap.size w wr->∀(q:Bool),st.has 2 cm.tree=q->At Am 37 #[rm d vf (Aa oa on oc) vr vt,Ab Ak 2,Ab Al r] wr λ e w'=>e=Aj (Ad q)/\An wr.heap.size wr w'):=f;clear h R hr x Y A a bx f y s1;go_enter func123,ntmps123;go_wp2_with fail;go_loopg[5] pn (λ m iv wr=>∃i:Nat,iv=Ab Ak i/\i+m=pn/\Hid ((cm.ps.take i).all (λ p=>st.has 3 p)=true/\An W.heap.size W wr))
 case atStart=>exact⟨0,rfl,by omega,rfl,Ao _ _⟩
 case round =>
  obtain⟨i,rfl,hi,b⟩:=hrel;obtain⟨p0,p1,p2,p3⟩:=(H.o.2.2.2.2.2.2.2.below b.o.2 H.o.2.2.2.2.2.2.2.lt).cells;by_cases Q:i<pn
  ·have id:(i:Int)<(pn:Int):=by omega
   obtain⟨z,D⟩:=Zaf H.o.2.2.2.1 Q;obtain⟨b1,off,rfl,ab⟩:=H.o.2.2.1.some_of D
   have B:∀u:SW (Grew wr),An W.heap.size W u.w:=λ u=>b.o.2.trans (Dw u.ok b.o.2.size)
   have X:Nonempty (SW (Grew wr)):=⟨⟨wr,Ao _ _⟩⟩
   have T:∀u:SW (Grew wr),u.w.cell? ⟨b1,off+i,none⟩=some (Ab Al (z.toNat:Int)):=λ u=>((H.o.2.2.1.below (B u)).nums D).2
   have a:=λ u:SW (Grew wr)=>(H.o.2.2.2.2.2.2.1.below (B u) H.o.2.2.2.2.2.2.1.lt).cells
   have F:=λ u=>(a u).1
   have G:=λ u=>(a u).2.1
   have I:=λ u=>(a u).2.2.1
   have J:=λ u=>(a u).2.2.2.1
   have K:=λ u=>(a u).2.2.2.2.1
   have L:=λ u=>(a u).2.2.2.2.2.1
   have M:=λ u=>(a u).2.2.2.2.2.2.1
   have N:=λ u=>(a u).2.2.2.2.2.2.2.1
   have O:=λ u=>(a u).2.2.2.2.2.2.2.2
   have q1:=λ u:SW (Grew wr)=>(H.o.2.2.2.2.2.2.2.below (B u) H.o.2.2.2.2.2.2.2.lt).cells.2.1
   have l:=λ q hq=>Zgd (d:=d) (oc:=oc) (vf:=vf) (vr:=vr) (vt:=vt) (wr:=wr) (H.o.1.below b.o.2) H.o.2.1 Z 3 z q hq
   obtain⟨zi,hz⟩:∃zi:Int,(z.toNat:Int)=zi:=⟨_,rfl⟩
   rw[hz]at T l;have V:Hid (cm.ps[i]? = some z):=D;clear D a hz B
   cases hp:st.has 3 z with
   | true =>
    have l:=l true hp;go_wp2_with fail;refine Zab (S:=Grew wr) (by kernel_rfl) (by kernel_rfl) (Ao _ wr).drew ?_
    repeat(go_big_quiet_step (with_reducible exact l _))
    refine AN ?_;intro _ n;obtain⟨u,j⟩:=n;subst j;have t:Hid (An W.heap.size W u.w):=b.o.2.trans (Dw u.ok b.o.2.size)
    obtain⟨w4,k⟩:=Xb u.w
    rw[<- k]at t ⊢;clear k T l F G I J K L M N O q1 X u p0 p1 p2 p3;go_wp2;go_roundg (gk - 1)
    case measure=>omega
    case rel=>exact⟨i+1,by go_num,by omega,ZcI V.o b.o.1 hp,t.o⟩
   | false =>
    have l:=l false hp
    have C:g=false:=by rw[<- H.o.2.2.2.2.1];unfold St.above;rw[Zcy V.o hp];rfl
    subst C;go_wp2_with fail;refine Zab (S:=Grew wr) (by kernel_rfl) (by kernel_rfl) (Ao _ wr).drew ?_
    repeat(go_big_quiet_step (with_reducible exact l _))
    refine AN ?_;intro _ n;obtain⟨u,j⟩:=n;subst j;have t:Hid (An W.heap.size W u.w):=b.o.2.trans (Dw u.ok b.o.2.size)
    obtain⟨w4,k⟩:=Xb u.w
    rw[<- k]at t ⊢;clear k T l F G I J K L M N O q1 X u p0 p1 p2 p3;go_wp2;go_ret;exact⟨rfl,H.o.2.2.2.2.2.1.trans (t.o.mono H.o.2.2.2.2.2.1.size)⟩
  ·obtain rfl:i=pn:=by omega
   have c:=b.o.1;rw[Av (by rw[H.o.2.2.2.1];omega)]at c
   have C:st.has 2 cm.tree=g:=by rw[<- H.o.2.2.2.2.1];unfold St.above;rw[c];rfl
   have v:=H.o.2.2.2.2.2.1.trans (b.o.2.mono H.o.2.2.2.2.2.1.size);have ht:=TR.o wr v g C;obtain⟨F,G,I,J,K,L,M,N,O⟩:=(H.o.2.2.2.2.2.2.1.below b.o.2 H.o.2.2.2.2.2.2.1.lt).cells;have s:Hid (An w.heap.size w wr):=v;clear c C v;go_wp2_with fail;refine ht.mono ?_;rintro e w2 ⟨rfl,U⟩;have E:Hid (An w.heap.size w w2):=s.o.trans (U.mono s.o.size);clear U ht;go_wp2;go_ret;exact⟨rfl,E.o⟩
end
theorem Zhy{l:List (Nm α)}:∀{i:Nat},(∀j,j<i->∀m v,l[j]? = some (m,v)->m≠n)->nget l n=nget (l.drop i) n:=by
 induction l with
 | nil=>intro i _;simp
 | cons f t c =>
  intro i h
  cases i with
  | zero=>rfl
  | succ i =>
   have a:f.1≠n:=h 0 (by omega) f.1 f.2 rfl;simp only[nget,Aw a,FP];exact c (i:=i) (λ j d m v b=>h (j+1) (by omega) m v b)
theorem Zkd{l:List (Nm α)}{v:α}(h:∀j,j<i->∀m v,l[j]? = some (m,v)->m≠n)(hi:l[i]? = some (n,v)):nget l n=some v:=by
 obtain⟨a,e⟩:=AC.1 hi;rw[Zhy h,BV a,e];simp[nget]
theorem ZkR{l:List (Nm α)}{n:Nat}(a:l.length=n)(hi:i<n):∃m v,l[i]? = some (m,v):=⟨(l[i]'(by omega)).1,(l[i]'(by omega)).2,List.getElem?_eq_getElem (by omega)⟩
theorem Zm1{l:List (Nm α)}{m:Bs}{v:α}(h:l[i]? = some (m,v)):nout (l.take (i+1)) n=nout (l.take i) n++(if m==n then[]else[(m,v)]):=by
 rw[AO,h];unfold nout;rw[List.filter_append]
 congr 1
 cases e:m==n <;> simp[e]
theorem Zc6{v:α}:∀{a b:List (Nm α)},(∀f∈a,¬n<f.1)->nins (a++b) n v=a++nins b n v
 | [],b,_=>rfl
 | f::t,b,h=>by
  have c:¬n<f.1:=h f List.mem_cons_self;have e:=Zc6 (v:=v) (b:=b) (λ g d=>h g (List.mem_cons_of_mem _ d):∀g∈t,¬n<g.1);simp only[Cs,nins];rw[Aw c,e]
theorem Zhw{v:α}{x:Nm α}:∀{l:List (Nm α)},(∃f∈l,n<f.1)->nins (l++[x]) n v=nins l n v++[x]
 | [],h=>by obtain⟨f,c,_⟩:=h;cases c
 | f::t,h=>by
  simp only[Cs,nins]
  split
  ·simp
  ·rename_i b
   obtain⟨g,d,a⟩:=h
   rcases List.mem_cons.1 d with rfl|q
   ·exact absurd a b
   ·rw[Zhw ⟨g,q,a⟩]
    rfl
theorem Tryz.info295:(Am.info? 295).map (λ i=>(i.zero,i.size,i.bytes))=some (some (.agg #[Ae ⟨#[]⟩,Ab Al 0]),2,24):=by kernel_rfl
theorem Zca(l:List (Nm UInt64))(n:Bs)(w:Ap)(h:RdG encN w ao l)(s:l.length=L)(z:L<=1000000):
  At Am 131 #[Aa ao L c,tx n] w λ e w'=>∃r,e=Aj (Ab Ak r)/\Hid (((nget l n).isSome=false/\r = -1)∨((nget l n).isSome=true/\∃i:Nat,r=(i:Int)))/\w'=w:=by
 have H:Hid (RdG encN w ao l/\l.length=L):=⟨h,s⟩
 clear h s;go_enter func131,ntmps131;go_wp2_with fail;go_loopg[5] L (λ k x wr=>wr=w/\∃i:Nat,x=Ab Ak i/\i+k=L/\Hid (∀j,j<i->∀m v,l[j]? = some (m,v)->m≠n))
 case atStart=>exact⟨rfl,0,rfl,by omega,λ j t=>by omega⟩
 case round =>
  obtain⟨p,i,rfl,hi,f⟩:=hrel;subst p;by_cases g:i<L
  ·have id:(i:Int)<(L:Int):=by omega
   obtain⟨m,v,d⟩:=ZkR H.o.2 g;obtain⟨b1,A,rfl,u⟩:=H.o.1.some_of d;have cc:=(H.o.1.named d).2.1;have X:Hid (l[i]? = some (m,v)):=d;clear d
   cases b:m==n with
   | true =>
    go_wp2;go_ret
    have e:m=n:=by simpa using b
    subst e;exact⟨_,rfl,.inr ⟨by rw[Zkd f.o X.o];rfl,i,rfl⟩,rfl⟩
   | false =>
    go_wp2;go_roundg (gk - 1)
    all_goals first
     | omega
     | exact⟨rfl,i+1,by go_num,by omega,λ j t y v' a=>by
       rcases Cp j i with q|q
       ·exact f.o j q y v' a
       ·obtain rfl:j=i:=by omega
        rw[X.o]at a;cases a
        simpa using b⟩
  ·obtain rfl:i=L:=by omega
   go_wp2;go_ret;refine⟨_,rfl,.inl ⟨?_,rfl⟩,rfl⟩;rw[Zhy f.o,Dj (by rw[H.o.2];exact Az _)]
   rfl
theorem Zdg(l:List (Nm UInt64))(n:Bs)(w:Ap)(h:RdG encN w ao l)(j:l.length=L)(u:L<=1000000):
  At Am 177 #[Aa ao L c,tx n] w λ e w'=>∃v,e=Aj v/\Hid (OwnG encN 295 w' w.heap.size v (nout l n)/\An w.heap.size w w'):=by
 have H:Hid (RdG encN w ao l/\l.length=L):=⟨h,j⟩
 clear h j;go_enter func177,ntmps177;go_wp2_with fail;go_loopg[5,6] L (λ k lv s wr=>∃i:Nat,s=Ab Ak i/\i+k=L/\Hid (OwnG encN 295 wr w.heap.size lv (nout (l.take i) n)/\An w.heap.size w wr))
 case atStart=>exact⟨0,rfl,by omega,OwnG.nil _ _ _ _,Ao _ _⟩
 case round =>
  obtain⟨i,rfl,hi,b⟩:=hrel;by_cases g:i<L
  ·have id:(i:Int)<(L:Int):=by omega
   obtain⟨m,v,f⟩:=ZkR H.o.2 g;have R:=H.o.1.below b.o.2;obtain⟨b1,x,rfl,r⟩:=R.some_of f;obtain⟨_,cc,t⟩:=R.named f
   have T:Hid (nout (l.take (i+1)) n=nout (l.take i) n++(if m==n then[]else[(m,v)])/\(nout (l.take i) n).length<=1000000):=⟨Zm1 f,AZ (CK _ _) (by rw[AM];omega)⟩
   clear R f
   cases a:m==n with
   | true =>
    have d:(!m==n)=false:=by rw[a];rfl
    go_wp2;go_roundg (gk - 1)
    all_goals first
     | omega
     | exact⟨i+1,by go_num,by omega,by have:=T.o.1;rw[a]at this;rw[this];simpa using b.o.1,b.o.2⟩
   | false =>
    have d:(!m==n)=true:=by rw[a];rfl
    go_wp2_with(at_builtin;(refine Zag encN 295 31 24 _ rfl Tryz.info295 underlying31 rfl (.tmp 20) (.tmp 25) rfl w.heap.size _ (nout (l.take i) n) (m,v) 295 rfl b.o.1 rfl (by have:=T.o.2;omega) (by have:=T.o.2;simp only[AG];omega) b.o.2.size _ rfl ?_;intro y z q p _ _));go_wp2;go_roundg (gk - 1)
    all_goals first
     | omega
     | exact⟨i+1,by go_num,by omega,by have:=T.o.1;rw[a]at this;rw[this];exact q,b.o.2.trans p⟩
  ·obtain rfl:i=L:=by omega
   have e0:l.take i=l:=Av (by rw[H.o.2];exact Az _);go_wp2;go_ret;exact⟨_,rfl,by have:=b.o.1;rw[e0]at this;exact this,b.o.2⟩
def ZeM(l:List (Nm UInt64))(n:Bs)(v:UInt64)(i:Nat)(dn:Bool)(out:List (Nm UInt64)):Prop:=(dn=false/\(∀f∈l.take i,¬n<f.1)/\out=l.take i)∨(dn=true/\(∃f∈l.take i,n<f.1)/\out=nins (l.take i) n v)
section
variable{l out:List (Nm UInt64)}{n m:Bs}{v u:UInt64}{i:Nat}
theorem Zbe{x:Nm UInt64}(h:l[i]? = some x):l.take (i+1)=l.take i++[x]:=by rw[AO,h];rfl
theorem Zl8(h:ZeM l n v i false out):out.length<=i:=by
 rcases h with⟨_,_,e⟩ | ⟨q,_⟩
 ·rw[e,AM];omega
 ·cases q
theorem Zkr(h:ZeM l n v i false out)(b:l[i]? = some (m,u))(e:¬n<m):ZeM l n v (i+1) false (out++[(m,u)]):=by
 rcases h with⟨_,c,d⟩ | ⟨q,_⟩
 ·refine .inl ⟨rfl,?_,by rw[d,Zbe b]⟩;intro f a;rw[Zbe b]at a
  rcases List.mem_append.1 a with q|q
  ·exact c f q
  ·simp at q;rw[q];exact e
 ·cases q
theorem ZjD(h:ZeM l n v i false out)(b:l[i]? = some (m,u))(a:n<m):ZeM l n v (i+1) true (out++[(n,v)]++[(m,u)]):=by
 rcases h with⟨_,c,d⟩ | ⟨q,_⟩
 ·refine .inr ⟨rfl,⟨(m,u),by rw[Zbe b];simp,a⟩,?_⟩;rw[Zbe b,Zc6 c,d];simp[nins,a]
 ·cases q
theorem Zj2(h:ZeM l n v i true out)(b:l[i]? = some (m,u)):ZeM l n v (i+1) true (out++[(m,u)]):=by
 rcases h with⟨q,_⟩ | ⟨_,a,c⟩
 ·cases q
 ·refine .inr ⟨rfl,?_,?_⟩
  ·obtain⟨f,d,e⟩:=a;exact⟨f,by rw[Zbe b];exact List.mem_append_left _ d,e⟩
  ·rw[Zbe b,Zhw a,c]
end
theorem ZgI(y:List (Nm UInt64))(n:Bs)(v:UInt64)(w:Ap)(h:RdG encN w ao y)(V:y.length=L)(Y:L<=1000000):
  At Am 176 #[Aa ao L c,.agg #[tx n,Ab Al (v.toNat:Int)]] w λ e w'=>∃u,e=Aj u/\Hid (OwnG encN 295 w' w.heap.size u (nwith y n v)/\An w.heap.size w w'):=by
 obtain⟨l,r⟩:=Xa (nout y n)
 have U:nwith y n v=nins l n v:=by unfold nwith;rw[r]
 rw[U]
 have D:l.length<=1000000:=by rw[<- r];exact AZ (CK _ _) (by omega)
 obtain⟨W,hW⟩:=Xa (w.alloc (.cells #[tx n,Ab Al (v.toNat:Int)] 295))
 have s:Hid (An w.heap.size w W/\W.cell? ⟨w.heap.size,0,none⟩=some (tx n)/\W.cell? ⟨w.heap.size,1,none⟩=some (Ab Al (v.toNat:Int))/\w.heap.size<W.heap.size):=by rw[<- hW];exact⟨bz1 _ _,by simp,by simp,by simp⟩
 have x:=Zdg (c:=c) y n W (h.below s.o.1) V Y;rw[r]at x;have x0:=s.o.2.1;have HV:Hid (l.length<=1000000):=D;clear h V Y r U D;go_enter func176,ntmps176;go_wp2_with fail;refine x.mono ?_;rintro e w1 ⟨v1,rfl,N⟩;obtain⟨a1,c1,E,O,B,r1,_⟩:=OwnG.form N.o.1
 obtain⟨t,g⟩:=Xa l.length
 rw[g]at E;subst E
 have H:Hid (RdG encN w1 a1 l/\l.length=t/\An W.heap.size W w1):=⟨r1,g,N.o.2⟩
 have lb:t<=1000000:=by rw[<- g];exact HV.o
 clear N O B r1 g x x0;go_wp2_with fail;go_loopg[5,6,7] t (λ k lv dv iv wr=>∃(i:Nat) (dn:Bool) (out:List (Nm UInt64)),iv=Ab Ak i/\i+k=t/\dv=Ad dn/\Hid (ZeM l n v i dn out/\out.length<=i+1/\OwnG encN 295 wr w1.heap.size lv out/\An w1.heap.size w1 wr))
 case atStart=>exact⟨0,false,[],rfl,by omega,rfl,.inl ⟨rfl,by simp,by simp⟩,by simp,OwnG.nil _ _ _ _,Ao _ _⟩
 case round =>
  obtain⟨i,dn,out,rfl,hi,rfl,f⟩:=hrel;have M:An W.heap.size W wr:=H.o.2.2.trans (f.o.2.2.2.mono H.o.2.2.size);have k0:=(M.cell (p:=⟨w.heap.size,0,none⟩) s.o.2.2.2).trans s.o.2.1;have k1:=(M.cell (p:=⟨w.heap.size,1,none⟩) s.o.2.2.2).trans s.o.2.2.1;have sz:w1.heap.size<=wr.heap.size:=f.o.2.2.2.size;clear M;by_cases S:i<t
  ·have id:(i:Int)<(t:Int):=by omega
   obtain⟨m,u,K⟩:=ZkR H.o.2.1 S;have R:=H.o.1.below f.o.2.2.2;obtain⟨b1,Z,rfl,aa⟩:=R.some_of K;obtain⟨_,cc,cd⟩:=R.named K;have X:Hid (l[i]? = some (m,u)):=K;have G:Hid (ZeM l n v i dn out/\out.length<=i+1/\OwnG encN 295 wr w1.heap.size u5 out/\An w1.heap.size w1 wr):=f;clear R K f
   cases dn with
   | false =>
    by_cases a:n<m
    ·have q1:Op.bytesLess n m=true:=by rw[ZaY,CR];exact a
     have Q:Hid (n<m):=a
     have X2:Hid (∀d,An w1.heap.size w1 d->d.cell? ⟨b1,Z+i*2,none⟩=some (tx m)/\d.cell? ⟨b1,Z+i*2+1,none⟩=some (Ab Al (u.toNat:Int))/\b1<d.heap.size):=λ d b2=>⟨((H.o.1.below b2).named X.o).2.1,((H.o.1.below b2).named X.o).2.2,((H.o.1.below b2).named X.o).1⟩
     clear a;go_wp2_with fail;go_quiet (fail)
     go_wp2_with(first
      | (at_builtin;(refine Zag encN 295 31 24 _ rfl Tryz.info295 underlying31 rfl (.tmp 30) (.tmp 32) rfl w1.heap.size _ out (n,v) 295 (by rfl) (G.o.2.2.1.below (AS (Ao _ _) _)) (by rfl) (by have:=G.o.2.1;omega) (by simp only[AG];have:=G.o.2.1;omega) sz _ rfl ?_;intro v2 d J F _ _;have C:Hid (OwnG encN 295 d w1.heap.size v2 (out++[(n,v)])/\An w1.heap.size w1 d):=⟨J,(AS G.o.2.2.2 _).trans F⟩;obtain⟨y0,y1,ab⟩:=X2.o d C.o.2;have T:w1.heap.size<=d.heap.size:=C.o.2.size;clear J F))
      | (at_builtin;(refine Zag encN 295 31 24 _ rfl Tryz.info295 underlying31 rfl (.tmp 34) (.tmp 39) rfl w1.heap.size _ (out++[(n,v)]) (m,u) 295 (by rfl) C.o.1 (by rfl) (by have:=G.o.2.1;simp;omega) (by simp only[AG];have:=G.o.2.1;simp;omega) T _ rfl ?_;intro v3 w3 A z _ _)))
     go_wp2;go_roundg (gk - 1)
     all_goals first
      | omega
      | exact⟨i+1,true,_,by go_num,by omega,rfl,ZjD G.o.1 X.o Q.o,by have:=Zl8 G.o.1;simp;omega,A,C.o.2.trans z⟩
    ·have q1:Op.bytesLess n m=false:=by rw[ZaY,Ax];exact a
     have Q:Hid (¬n<m):=a;clear a;go_wp2_with fail;go_quiet (fail);go_wp2_with(at_builtin;(refine Zag encN 295 31 24 _ rfl Tryz.info295 underlying31 rfl (.tmp 34) (.tmp 39) rfl w1.heap.size _ out (m,u) 295 (by rfl) (G.o.2.2.1.below (AS (Ao _ _) _)) (by rfl) (by have:=G.o.2.1;omega) (by simp only[AG];have:=G.o.2.1;omega) sz _ rfl ?_;intro v3 w3 A z _ _));go_wp2;go_roundg (gk - 1)
     all_goals first
      | omega
      | exact⟨i+1,false,_,by go_num,by omega,rfl,Zkr G.o.1 X.o Q.o,by have:=G.o.2.1;simp;omega,A,(AS G.o.2.2.2 _).trans z⟩
   | true =>
    go_wp2_with fail;go_quiet (fail);go_wp2_with(at_builtin;(refine Zag encN 295 31 24 _ rfl Tryz.info295 underlying31 rfl (.tmp 34) (.tmp 39) rfl w1.heap.size _ out (m,u) 295 (by rfl) (G.o.2.2.1.below (AS (Ao _ _) _)) (by rfl) (by have:=G.o.2.1;omega) (by simp only[AG];have:=G.o.2.1;omega) sz _ rfl ?_;intro v3 w3 A z _ _));go_wp2;go_roundg (gk - 1)
    all_goals first
     | omega
     | exact⟨i+1,true,_,by go_num,by omega,rfl,Zj2 G.o.1 X.o,by have:=G.o.2.1;simp;omega,A,(AS G.o.2.2.2 _).trans z⟩
  ·obtain rfl:i=t:=by omega
   have e0:l.take i=l:=Av (by rw[H.o.2.1];exact Az _);have j:=f.o.1;unfold ZeM at j;rw[e0]at j
   have G:Hid (OwnG encN 295 wr w1.heap.size u5 out/\An w1.heap.size w1 wr/\out.length<=i+1):=⟨f.o.2.2.1,f.o.2.2.2,f.o.2.1⟩
   have I:Hid _:=j;have BW:Hid (An w.heap.size w w1):=s.o.1.trans (H.o.2.2.mono s.o.1.size);clear f j
   cases dn with
   | false =>
    have P:nins l n v=out++[(n,v)]:=by
     rcases I.o with⟨_,O,B⟩ | ⟨q,_⟩
     ·have:=Zc6 (v:=v) (b:=[]) O;rw[List.append_nil]at this;rw[this,B];rfl
     ·cases q
    clear I;go_wp2_with(at_builtin;(refine Zag encN 295 31 24 _ rfl Tryz.info295 underlying31 rfl (.tmp 43) (.tmp 45) rfl w1.heap.size _ out (n,v) 295 rfl G.o.1 rfl (by have:=G.o.2.2;omega) (by have:=G.o.2.2;simp only[AG];omega) sz _ rfl ?_;intro v2 d J F _ _));go_wp2;go_ret;rw[P];exact⟨_,rfl,OwnG.low J BW.o.size,BW.o.trans ((G.o.2.1.trans F).mono BW.o.size)⟩
   | true =>
    have P:nins l n v=out:=by
     rcases I.o with⟨q,_⟩ | ⟨_,_,B⟩
     ·cases q
     ·exact B.symm
    clear I;go_wp2;go_ret;rw[P];exact⟨_,rfl,OwnG.low G.o.1 BW.o.size,BW.o.trans (G.o.2.1.mono BW.o.size)⟩
end Go.Proofs.YtlojblelpaegpaaGreat
