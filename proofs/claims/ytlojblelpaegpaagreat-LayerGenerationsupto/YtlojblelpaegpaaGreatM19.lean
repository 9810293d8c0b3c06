/-
  Several texts, laid together.
-/
import Derived.Test.YtlojblelpaegpaaGreatM18
set_option maxHeartbeats 6400000
set_option maxRecDepth 100000
open Go renaming Value->Ar,World->Ap,Calls->At,bodyPost_ret->As,heap_alloc_new->Ce
open Go.Value renaming slice->Aa,int->Ab,bool->Ad,string->Ae,tuple->Af,pointer->Ah
open Go.Ending renaming returned->Aj
open Go.IntKind renaming i64->Ak
open Go.Proofs.Tryz renaming prog->Am
open Go.Proofs.Tryz
namespace Go.Proofs.YtlojblelpaegpaaGreat
open Go.RowKit
variable{b k:Nat}{w wr:Ap}
abbrev nilV:Ar:=Aa none 0 0
abbrev rm0:Ar:=rm dk0 nilV nilV nilV nilV
theorem ZiV{α:Type}(E:Enc α)(Z:Nat->Prop)(w:Ap):LG E Z w none 0 0 []:=⟨rfl,Nat.le_refl _,RdG.nil _ _ _,λ h=>absurd h (by omega)⟩
theorem rms0(Z:Nat->Prop)(w:Ap):RMS Z w rm0 st0 dk0 :=
 ⟨none,0,0,none,0,0,none,0,0,none,0,0,rfl,ZiV _ _ _,ZiV _ _ _,ZiV _ _ _,ZiV _ _ _⟩
theorem Zms:(fcut []).1.length=0:=by
 rw[fcut];simp
theorem Zke(w:Ap):
  At Am 60 #[.agg #[nilV,Ab Ak 0,Ad false,Ad false,Ab Ak 0,Ab Ak 0]] w λ e w'=>e=Aj (Af #[rm0,Ab Ak 0])/\Below w.heap.size w w':=by
 obtain⟨W,i⟩:=Xa (((w.alloc (.cells #[nilV,Ab Ak 0,Ad false,Ad false,Ab Ak 0,Ab Ak 0] 29)).alloc zeroC).alloc zeroC)
 have d:Hid (BoxA W w.heap.size 29 #[nilV,Ab Ak 0,Ad false,Ad false,Ab Ak 0,Ab Ak 0]/\BoxA W (w.heap.size+1) 33 #[nilV,Ab Ak 0,Ad false,Ad false,Ab Ak 0,Ab Ak 0,nilV,nilV,nilV]/\BoxA W (w.heap.size+2) 33 #[nilV,Ab Ak 0,Ad false,Ad false,Ab Ak 0,Ab Ak 0,nilV,nilV,nilV]/\Below w.heap.size w W):=by
  rw[<- i];exact Zcl _ _ _ _ _ _ _
 have x:Hid (((w.alloc (.cells #[nilV,Ab Ak 0,Ad false,Ad false,Ab Ak 0,Ab Ak 0] 29)).alloc zeroC).alloc zeroC=W):=i;clear i;have p:Hid (At Am 111 #[.agg #[nilV,Ab Ak 0,Ad false,Ad false,Ab Ak 0,Ab Ak 0],Ae ⟨#[111,98,106,101,99,116,115]⟩] W λ e w'=>e=Aj (Ae ⟨#[]⟩)/\Below W.heap.size W w'):=Zgl (c:=0) dk0 fileN W (RdG.nil _ _ _) rfl (by omega) rfl
 have l:Hid (∀w1,At Am 112 #[Ae ⟨#[]⟩] w1 λ e w'=>∃a c n r,e=Aj (Af #[Aa a 0 c,Ab Ak n,Ab Ak r])/\Below w1.heap.size w1 w'):=by
  intro w1;refine(Znj [] w1 (by simp)).mono ?_;rintro e w' ⟨lv,rfl,h⟩;obtain⟨a,c,t,_,_,_,_⟩:=OwnG.form h.o.1;have e0:=Zms;rw[e0]at t;exact⟨a,c,_,_,by rw[t],h.o.2⟩
 have E:=d.o.1.cell (j:=0) rfl;have F:=d.o.1.cell (j:=1) rfl;have G:=d.o.1.cell (j:=2) rfl;have H:=d.o.1.cell (j:=3) rfl;have I:=d.o.1.cell (j:=4) rfl;have J:=d.o.1.cell (j:=5) rfl;go_enter func60,ntmps60
 go_upto_region 2 with fail
 rw[x.o];go_wp2_with fail;refine p.o.mono ?_;rintro e w1 ⟨rfl,b1⟩;have s:Hid (Below W.heap.size W w1):=b1;clear b1;go_wp2_with fail;refine(l.o w1).mono ?_;rintro e D ⟨a,c,n,r,rfl,b2⟩;have u:Hid (Below W.heap.size W D):=s.o.trans (b2.mono s.o.size);clear b2 E F G H I J;go_wp2_with fail;go_loopg[9,10] 0 (λ m A C wr=>A=Ab Ak 0/\C=Ab Ak 0/\Hid (Below W.heap.size W wr))
 case atStart=>exact⟨rfl,rfl,u.o⟩
 case round =>
  obtain⟨rfl,rfl,g⟩:=hrel
  have y:=λ(j:Nat) (v:Ar) (h:#[nilV,Ab Ak 0,Ad false,Ad false,Ab Ak 0,Ab Ak 0,nilV,nilV,nilV][j]? = some v)=>(d.o.2.2.1.below g.o d.o.2.2.1.lt).cell h
  have U:=y 0 _ rfl;have V:=y 1 _ rfl;have X:=y 2 _ rfl;have Y:=y 3 _ rfl;have Z:=y 4 _ rfl;have y5:=y 5 _ rfl;have y6:=y 6 _ rfl;have y7:=y 7 _ rfl;have y8:=y 8 _ rfl
  have z:=λ(j:Nat) (v:Ar) (h:#[nilV,Ab Ak 0,Ad false,Ad false,Ab Ak 0,Ab Ak 0,nilV,nilV,nilV][j]? = some v)=>(d.o.2.1.below g.o d.o.2.1.lt).cell h
  have f:=(d.o.2.1.below g.o d.o.2.1.lt).thaw;have z0:=z 0 _ rfl;have z1:=z 1 _ rfl;have z2:=z 2 _ rfl;have z3:=z 3 _ rfl;have z4:=z 4 _ rfl;have z5:=z 5 _ rfl;have z6:=z 6 _ rfl;have z7:=z 7 _ rfl;have z8:=z 8 _ rfl;have K:=f 0;have L:=f 1;have f2:=f 2;have M:=f 3;have N:=f 4;have O:=f 5;have P:=f 6;have Q:=f 7;have R:=f 8;have sz:(⟨#[]⟩:ByteArray).size=0:=rfl;clear y z f;go_wp2;refine As (v:=Af #[.agg #[nilV,Ab Ak 0,Ad false,Ad false,Ab Ak 0,Ab Ak 0,nilV,nilV,nilV],Ab Ak 0]) ?_ rfl ⟨rfl,?_⟩
  ·simp[results,Tryz.f60];go_simp
  ·have B:=Zae wr (w.heap.size+1) nilV (Ab Ak 0) (Ad false) (Ad false) (Ab Ak 0) (Ab Ak 0) nilV nilV nilV;have b:=d.o.2.2.2.trans (g.o.mono d.o.2.2.2.size);exact b.trans (B.below b.size (λ k S q=>by have T:k=w.heap.size+1:=q;omega))
section
variable{S:Nat->Prop}{X:Bs->Prop}{w:World}{b m:Nat}{f:Bs->Option Value}{a k:Int}{d:Dk}
end
section
variable{S:Nat->Prop}{w:World}{b m:Nat}{f:Bs->Option Value}{a k:Int}{d:Dk}
end
section
variable{w:World}{s b:Nat}{st:St}{S:Nat->Prop}
theorem Zan.zero{w:Ap}{s b:Nat}{M:Nat->Nat}{r t:Nat}{S:Nat->Prop}(d:w.heap[s]? = some (.cells #[Ah (some ⟨b,0,none⟩),.map (some (M 0)),.map (some (M 1)),.map (some (M 2)),.map (some (M 3)),.map (some r),.map (some t)] 117 (0,0)))
  (f:∀k,k<4->w.heap[M k]? = some (.map #[] 0)) (l:w.heap[r]? = some (.map #[] 0)) (m:w.heap[t]? = some (.map #[] 0)) (hi:∀j k,j<4->k<4->M j=M k->j=k) (c:(∀k,k<4->M k≠r/\M k≠t)/\r≠t) (g:S s/\S r/\S t/\∀k,k<4->S (M k)) (e:∀i,S i->i<w.heap.size) :
  Zan w s b M r t (λ _ _=>none) st0 S where
 cells:=d
 objs:=λ k a=>⟨0,Nat.zero_le _,MapG.new (f k a)⟩
 refs:=MapG.new l
 tags:=MapG.new m
 gone:=λ _ _ _ _=>rfl
 there:=λ k a i bs h=>by simp[st0,oget]at h
 inj:=hi
 apart:=c
 own:=g
 lt:=e
end
def mm(B k j:Nat):Ar:=if j<k then .map (some (B+3+j))else .map none
structure OpI(w:Ap)(b k:Nat)(wr:Ap):Prop where
 sz:wr.heap.size=w.heap.size+3+k
 cells:wr.heap[w.heap.size+2]? = some (.cells #[Ah (some ⟨b,0,none⟩),mm w.heap.size k 0,mm w.heap.size k 1,mm w.heap.size k 2,mm w.heap.size k 3,.map (some w.heap.size),.map (some (w.heap.size+1))] 117 (0,0))
 maps:∀j,j<k->wr.heap[w.heap.size+3+j]? = some (.map #[] 0)
 r:wr.heap[w.heap.size]? = some (.map #[] 0)
 t:wr.heap[w.heap.size+1]? = some (.map #[] 0)
 bel:Below w.heap.size w wr
theorem OpI.cell(h:OpI w b k wr)(j:Nat)(c:j<4):wr.cell? ⟨w.heap.size+2,1+j,none⟩=some (mm w.heap.size k j)/\wr.frozen? ⟨w.heap.size+2,1+j,none⟩=false:=by
 have a:j=0∨j=1∨j=2∨j=3:=by omega
 rcases a with rfl|rfl|rfl|rfl <;> simp[World.cell?,World.frozen?,h.cells]
theorem OpI.step(h:OpI w b k wr)(u:k<4):OpI w b (k+1) ((wr.setCell ⟨w.heap.size+2,1+k,none⟩ (.map (some (w.heap.size+3+k)))).alloc (.map #[] 0)):=by
 obtain⟨W,g⟩:=Xa (wr.setCell ⟨w.heap.size+2,1+k,none⟩ (.map (some (w.heap.size+3+k))))
 have f:Zaa (λ i=>i=w.heap.size+2) wr W:=by rw[<- g];exact Zad _ _
 have d:W.heap.size=w.heap.size+3+k:=by rw[<- g];simp[World.setCell,h.sz]
 have m:=ZbC h.cells (1+k) (.map (some (w.heap.size+3+k)));rw[g]at m ⊢;have n:=Ce W (.map #[] 0);rw[d]at n;have p:=h.sz
 have a:∀i,i<w.heap.size+3+k->(W.alloc (.map #[] 0)).heap[i]? = W.heap[i]? := λ i hi=>(bz1 W (.map #[] 0)).block i (by rw[d];exact hi)
 have c:∀i,i<w.heap.size+3+k->i≠w.heap.size+2->W.heap[i]? = wr.heap[i]? := λ i hi l=>f.block i (by omega) l
 refine⟨by simp[d];omega,?_,?_,?_,?_,?_⟩
 ·rw[a _ (by omega),m]
  have o:k=0∨k=1∨k=2∨k=3:=by omega
  rcases o with rfl|rfl|rfl|rfl <;> simp[mm]
 ·intro j s;by_cases e:j=k
  ·rw[e];exact n
  ·rw[a _ (by omega),c _ (by omega) (by omega)];exact h.maps j (by omega)
 ·rw[a _ (by omega),c _ (by omega) (by omega)];exact h.r
 ·rw[a _ (by omega),c _ (by omega) (by omega)];exact h.t
 ·exact h.bel.trans ((f.below (by omega) (λ i hi q=>by omega)).trans ((bz1 W _).mono (by omega)))
theorem OpI.start(w:Ap)(b:Nat):OpI w b 0 (((w.alloc (.map #[] 0)).alloc (.map #[] 0)).alloc (.cells #[Ah (some ⟨b,0,none⟩),.map none,.map none,.map none,.map none,.map (some w.heap.size),.map (some (w.heap.size+1))] 117)):=by
 have c:(w.alloc (.map #[] 0)).heap.size=w.heap.size+1:=by simp
 have a:((w.alloc (.map #[] 0)).alloc (.map #[] 0)).heap.size=w.heap.size+2:=by simp
 have f:=Ce w (.map #[] 0);have d:=Ce (w.alloc (.map #[] 0)) (.map #[] 0);rw[c]at d;have e:=Ce ((w.alloc (.map #[] 0)).alloc (.map #[] 0)) (.cells #[Ah (some ⟨b,0,none⟩),.map none,.map none,.map none,.map none,.map (some w.heap.size),.map (some (w.heap.size+1))] 117);rw[a]at e;refine⟨by simp,?_,λ j g=>by omega,?_,?_,bz3 _ _ _ _⟩
 ·rw[e];simp[mm]
 ·rw[(bz1 _ _).block _ (by rw[a];omega),(bz1 _ _).block _ (by rw[c];omega)];exact f
 ·rw[(bz1 _ _).block _ (by rw[a];omega)];exact d
theorem OpI.store(h:OpI w b 4 wr):Zac wr (w.heap.size+2) b st0 (λ i=>w.heap.size<=i/\i<w.heap.size+7):=by
 refine⟨λ k=>w.heap.size+3+k,w.heap.size,w.heap.size+1,_,Zan.zero ?_ (λ k a=>h.maps k a) h.r h.t (λ j k _ _ e=>by omega) ⟨λ k _=>⟨by omega,by omega⟩,by omega⟩ ⟨by omega,by omega,by omega,λ k a=>by omega⟩ (λ i hi=>by rw[h.sz];omega)⟩;rw[h.cells];simp[mm]
section
variable{w:World}{b:Nat}{d:Dk}{T:Nat->Prop}
def Left(w w':Ap)(b:Nat)(d':Dk)(T:Nat->Prop)(T':Nat->Prop):Prop:=Zav w' b d' T'/\(∀i,T' i->T i∨w.heap.size<=i)/\Zaa T w w'
theorem ZnG{w:Ap}{s c:Nat}{a:Option Addr}:At Am 109 #[Ah (some ⟨s,0,none⟩),Aa a 0 c] w λ e w'=>e=Aj (Ab Ak 0)/\w'=w:=by
 go_enter func109,ntmps109;go_wp2_with fail;go_loopg[5] 0 (λ k v wr=>wr=w/\v=Ab Ak 0/\k=0)
 case atStart=>exact⟨rfl,rfl,rfl⟩
 case round =>
  obtain⟨rfl,rfl,_⟩:=hrel;go_wp2;go_ret;exact⟨rfl,rfl⟩
theorem ZjS(t:Zav w b dk0 T):
  At Am 59 #[Ah (some ⟨b,0,none⟩)] w λ e w'=>∃z,Hid (Left w w' b dk0 T z) /\
   ((Hid ((0:Int)=0)/\∃s,e=Aj (Af #[Ah (some ⟨s,0,none⟩),Ab Ak 0])/\Hid (∃S,Zac w' s b st0 S/\∀i,S i->w.heap.size<=i/\¬z i)) ∨
    (∃r,e=Aj (Af #[Ah none,Ab Ak r])/\Hid ((0:Int)=r/\r≠0))):=by
 have H:Hid (Zav w b dk0 T):=t;have g:=t.lt
 have L:=λ W=>run_makeMap (P:=Am) 115 W
 have B:=λ W=>run_makeMap (P:=Am) 113 W
 obtain⟨W,G⟩:=Xa (((w.alloc (.map #[] 0)).alloc (.map #[] 0)).alloc (.cells #[Ah (some ⟨b,0,none⟩),.map none,.map none,.map none,.map none,.map (some w.heap.size),.map (some (w.heap.size+1))] 117))
 have D:Hid (OpI w b 0 W):=by rw[<- G];exact OpI.start w b
 have C:Hid (∀i,T i->i<w.heap.size):=g;clear t g;go_enter func59,ntmps59;go_wp2_with fail;go_loopg[15] 4 (λ m M wr=>∃k:Nat,M=Ab Ak (k:Int)/\k+m=4/\Hid (OpI w b k wr))
 case atStart=>exact⟨0,rfl,by omega,D⟩
 case round =>
  obtain⟨k,rfl,O,I⟩:=hrel;by_cases d:k<4
  ·have sz:=I.o.sz;have st:=I.o.step d;have K:=I.o.cell k d
   have F:k=0∨k=1∨k=2∨k=3:=by omega
   rcases F with rfl|rfl|rfl|rfl
   all_goals
    obtain⟨A,E⟩:=K;simp only[mm,Nat.lt_irrefl,Eg]at A;simp only[Nat.add_zero,Nat.reduceAdd]at A E st sz;have l:Hid _:=st;clear st d;go_wp2;go_roundg (gk - 1)
    case measure=>omega
    case rel=>first | exact⟨1,rfl,by omega,l⟩ | exact⟨2,rfl,by omega,l⟩ | exact⟨3,rfl,by omega,l⟩ | exact⟨4,rfl,by omega,l⟩
  ·obtain rfl:k=4:=by omega
   have t4:decide ((4:Int)<4)=false:=by decide
   have f:=H.o.below I.o.bel;have a:=Zpt f fileN (by decide) (λ bs J=>absurd (show(none:Option Bs)=some bs from J) (by simp));rw[show(fget dk0.files fileN).getD []=[]from rfl]at a
   obtain⟨g0,h⟩:=Xa ((fget dk0.files fileN).isSome)
   rw[h]at a;clear f h;go_wp2_with fail;refine a.mono ?_;rintro e v ⟨v5,rfl,y,p⟩;obtain⟨a5,N,u,_⟩:=y.whole (n:=0) rfl;subst u
   have x:Hid (Left w v b dk0 T T/\Zac v (w.heap.size+2) b st0 (λ i=>w.heap.size<=i/\i<w.heap.size+7)):=by
    have c:Below w.heap.size w v:=I.o.bel.trans (p.mono I.o.bel.size);exact⟨⟨H.o.below c,λ i q=>.inl q,Zaa.ofBelow (S:=T) c⟩,I.o.store.below p⟩
   clear y p a;go_wp2_with fail;refine ZnG.mono ?_;rintro e Q ⟨rfl,j⟩;rw[j];clear j;go_wp2;refine As (results_tmp2 rfl _ _ _) rfl ?_;exact⟨T,x.o.1,.inl ⟨trivial,_,rfl,_,x.o.2,λ i hi=>⟨hi.1,λ q=>by have:=C.o i q;omega⟩⟩⟩
end
end Go.Proofs.YtlojblelpaegpaaGreat
