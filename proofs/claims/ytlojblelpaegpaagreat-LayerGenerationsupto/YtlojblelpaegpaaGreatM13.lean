/-
  Several texts, laid together.
-/
import Derived.Test.YtlojblelpaegpaaGreatM12
set_option maxHeartbeats 6400000
set_option maxRecDepth 100000
open Go renaming World->Ap,Value->Ar,Calls->At,bodyPost_ret->As,results->AH
open Go.RowKit renaming Below->An
open And renaming intro->BO
open Go.Value renaming slice->Aa,int->Ab,bool->Ad,tuple->Af
open Go.Obj renaming cells->Ai
open Go.Ending renaming returned->Aj
open Go.IntKind renaming i64->Ak
open Go.Proofs.Tryz renaming prog->Am
open Go.Proofs.Tryz
namespace Go.Proofs.YtlojblelpaegpaaGreat
open Go.RowKit
variable{S:Nat->Prop}{a w w':Ap}{ao:Option Addr}{b1 b2:Nat}{d:Dk}{v:Ar}
def Six(w:Ap)(B:Nat)(a0 a1 a2 a3 a4 a5:Ar):Prop:=w.heap[B]? = some (Ai #[a0,a1,a2,a3,a4,a5] 29 (0,0))
section
variable{w w':World}{B:Nat}{a0 a1 a2 a3 a4 a5:Value}
theorem Six.lt(h:Six w B a0 a1 a2 a3 a4 a5):B<w.heap.size:=(Array.getElem?_eq_some_iff.1 h).1
theorem Six.below(h:Six w B a0 a1 a2 a3 a4 a5)(a:An w.heap.size w w'):Six w' B a0 a1 a2 a3 a4 a5:=(a.block B h.lt).trans h
theorem Six.cells(h:Six w B a0 a1 a2 a3 a4 a5):w.cell? ⟨B,0,none⟩=some a0/\w.cell? ⟨B,1,none⟩=some a1/\w.cell? ⟨B,2,none⟩=some a2/\w.cell? ⟨B,3,none⟩=some a3/\w.cell? ⟨B,4,none⟩=some a4/\w.cell? ⟨B,5,none⟩=some a5:=by
 unfold Six at h;simp[World.cell?,h]
theorem Six.thaw(h:Six w B a0 a1 a2 a3 a4 a5):w.frozen? ⟨B,0,none⟩=false/\w.frozen? ⟨B,1,none⟩=false/\w.frozen? ⟨B,2,none⟩=false/\w.frozen? ⟨B,3,none⟩=false/\w.frozen? ⟨B,4,none⟩=false/\w.frozen? ⟨B,5,none⟩=false:=by
 unfold Six at h;simp[World.frozen?,h]
theorem Six.new(w:Ap)(a0 a1 a2 a3 a4 a5:Ar):Six (w.alloc (Ai #[a0,a1,a2,a3,a4,a5] 29)) w.heap.size a0 a1 a2 a3 a4 a5:=heap_alloc_new w _
end
def RVS(S:Nat->Prop)(w:Ap)(v:Ar)(d:Dk):Prop:=∃ao L c,v=rv ao L c d/\d.files.length=L/\L<=c/\RdG encF w ao d.files/\(0<L->∀p,ao=some p->¬S p.block)
theorem Zep{a:Fs}(h:OwnG encF 291 w' w.heap.size v a):∃ao c,v=Aa ao a.length c/\a.length<=c/\RdG encF w' ao a/\(0<a.length->∀p,ao=some p->w.heap.size<=p.block):=by
 obtain⟨ao,c,e,f,k,i,j⟩:=OwnG.form h;refine⟨ao,c,e,f,i,λ d p hp=>?_⟩;obtain⟨g,b⟩:=j d;rw[hp]at b;cases b;exact(h.lt g (by rw[e,hp];rfl)).1
theorem Zgc(d:An w.heap.size w a)(e:w.heap.size<=b1)(f:w.heap.size<=b2)(u v0 b c v3 v4 v5:Ar):
  An w.heap.size w (((((((a.setCell ⟨b1,0,none⟩ u).setCell ⟨b2,0,none⟩ v0).setCell ⟨b2,1,none⟩ b).setCell ⟨b2,2,none⟩ c).setCell ⟨b2,3,none⟩ v3).setCell ⟨b2,4,none⟩ v4).setCell ⟨b2,5,none⟩ v5) /\
  Zaa (λ i=>i=b1∨i=b2) a (((((((a.setCell ⟨b1,0,none⟩ u).setCell ⟨b2,0,none⟩ v0).setCell ⟨b2,1,none⟩ b).setCell ⟨b2,2,none⟩ c).setCell ⟨b2,3,none⟩ v3).setCell ⟨b2,4,none⟩ v4).setCell ⟨b2,5,none⟩ v5):=by
 have t:Zaa (λ i=>i=b1∨i=b2) a (((((((a.setCell ⟨b1,0,none⟩ u).setCell ⟨b2,0,none⟩ v0).setCell ⟨b2,1,none⟩ b).setCell ⟨b2,2,none⟩ c).setCell ⟨b2,3,none⟩ v3).setCell ⟨b2,4,none⟩ v4).setCell ⟨b2,5,none⟩ v5) :=
  ((((((((Zaa.refl (λ i=>i=b1∨i=b2) a).setCell (p:=⟨b1,0,none⟩) (.inl (.inl rfl)) u).setCell (p:=⟨b2,0,none⟩) (.inl (.inr rfl)) v0).setCell (p:=⟨b2,1,none⟩) (.inl (.inr rfl)) b).setCell (p:=⟨b2,2,none⟩) (.inl (.inr rfl)) c).setCell (p:=⟨b2,3,none⟩) (.inl (.inr rfl)) v3).setCell (p:=⟨b2,4,none⟩) (.inl (.inr rfl)) v4).setCell (p:=⟨b2,5,none⟩) (.inl (.inr rfl)) v5)
 exact⟨d.trans (t.below d.size (λ i hi q=>by rcases q with q|q <;> omega)),t⟩
theorem RVS.close{c e:Ap}{a3:Option Addr}{M a:Nat}(h:∀i,S i->i<w.heap.size)(l:w.heap.size<=b1)(f:d.files.length=M)(j:M<=a)(g:RdG encF c a3 d.files)(hF:0<M->∀p,a3=some p->b1<p.block)(m:b2<=b1)(k:Zaa (λ i=>i=b1∨i=b2) c e):RVS S e (rv a3 M a d) d :=
 ⟨a3,M,a,rfl,f,j,g.turned k (λ b p hp q=>by have:=hF (by omega) p hp;rcases q with q|q <;> omega),λ b p hp q=>by have:=hF b p hp;have:=h _ q;omega⟩
section
variable{S:Nat->Prop}{ao:Option Addr}{L c:Nat}{d:Dk}{w:World}
theorem Zly(X:∀i,S i->i<w.heap.size)(G:RdG encF w ao d.files)(E:d.files.length=L)(z:d.ok)(hw:d.writes<4611686018427387904)(n own a:Bs)(hn:isName n=true)(ab:n.length<=140737488355328)
  (aa:own.length+a.length<=262144) (g:fget d.files n≠none∨L<32) (y:(dnext d).2.1=true) (A:(dnext d).2.2=false) :
  At Am 134 #[rv ao L c d,tx n,tx own,tx a] w λ e w'=>∃v',e=Aj (Af #[v',Ab Ak 0])/\RVS S w' v' { (dnext d).1 with files:=fwith d.files n (own++a) }/\An w.heap.size w w':=by
 obtain⟨W,J⟩:=Xa ((w.alloc (Ai #[Aa ao L c,Ab Ak (d.writes:Int),Ad d.armed,Ad d.dead,Ab Ak (d.after:Int),Ab Ak (d.keep:Int)] 29)).alloc (Ai #[Aa none 0 0,Ab Ak 0,Ad false,Ad false,Ab Ak 0,Ab Ak 0] 29))
 have C:An w.heap.size w W:=by rw[<- J];exact bz2 _ _ _
 have I:Six W w.heap.size (Aa ao L c) (Ab Ak (d.writes:Int)) (Ad d.armed) (Ad d.dead) (Ab Ak (d.after:Int)) (Ab Ak (d.keep:Int)):=by rw[<- J];exact(Six.new w _ _ _ _ _ _).below (bz1 _ _)
 have T:Six W (w.heap.size+1) (Aa none 0 0) (Ab Ak 0) (Ad false) (Ad false) (Ab Ak 0) (Ab Ak 0):=by
  rw[<- J];have:=Six.new (w.alloc (Ai #[Aa ao L c,Ab Ak (d.writes:Int),Ad d.armed,Ad d.dead,Ab Ak (d.after:Int),Ab Ak (d.keep:Int)] 29)) (Aa none 0 0) (Ab Ak 0) (Ad false) (Ad false) (Ab Ak 0) (Ab Ak 0);rw[show(w.alloc (Ai #[Aa ao L c,Ab Ak (d.writes:Int),Ad d.armed,Ad d.dead,Ab Ak (d.after:Int),Ab Ak (d.keep:Int)] 29)).heap.size=w.heap.size+1 by simp]at this;exact this
 have k:=Zat ⟨n.toArray⟩ (by rw[ZaQ];omega) W;rw[show(⟨n.toArray⟩:ByteArray).data.toList=n from rfl,hn]at k;obtain⟨x0,x1,x2,x3,x4,x5⟩:=I.cells
 have p1:decide ((262144:Int)<((own.length:Nat):Int)+((a.length:Nat):Int))=false:=by rw[Ax];omega
 have ol:own.length<=262144:=by omega
 have ml:a.length<=262144:=by omega
 have u:At Am 174 #[rv ao L c d,tx n] W λ e w'=>∃r,e=Aj (Ab Ak r)/\((0<=r/\r<1000)∨(r = -1/\L<32))/\An W.heap.size W w':=by
  cases e:fget d.files n with
  | none =>
   refine(ZcV (c:=c) d n W (G.below C) E (by have:=z.few;omega) e).mono ?_;rintro _ w' ⟨rfl,K⟩;exact⟨-1,rfl,.inr ⟨rfl,g.elim (λ q=>absurd e q) id⟩,K⟩
  | some v =>
   refine(Zei (c:=c) d n W (G.below C) E (by have:=z.few;omega) e).mono ?_;rintro _ w' ⟨i,rfl,hi,_,K⟩;exact⟨i,rfl,.inl ⟨by omega,by have:=z.few;omega⟩,K⟩
 have H:Hid ((∀i,S i->i<w.heap.size)/\RdG encF w ao d.files/\d.files.length=L/\d.ok/\An w.heap.size w W/\Six W w.heap.size (Aa ao L c) (Ab Ak (d.writes:Int)) (Ad d.armed) (Ad d.dead) (Ab Ak (d.after:Int)) (Ab Ak (d.keep:Int))/\Six W (w.heap.size+1) (Aa none 0 0) (Ab Ak 0) (Ad false) (Ad false) (Ab Ak 0) (Ab Ak 0)):=⟨X,G,E,z,C,I,T⟩
 have Y:L<=32:=by have:=z.few;omega
 clear X G E C I T g;have Z:Hid _:=BO y A;clear y A;go_enter func134,ntmps134;go_wp2_with fail;refine k.mono ?_;rintro e w1 ⟨rfl,B⟩;rw[B];clear B w1 k;go_wp2_with fail;refine u.mono ?_;rintro e w1 ⟨r,rfl,hr,N⟩;have b:Hid (An W.heap.size W w1):=N;clear N u x0 x1 x2 x3 x4 x5;obtain⟨x0,x1,x2,x3,x4,x5⟩:=(H.o.2.2.2.2.2.1.below b.o).cells;have l:=Zes (ao:=ao) (L:=L) (c:=c) (w:=w1) H.o.2.2.2.1.after hw;rw[Z.o.1,Z.o.2]at l
 obtain⟨D,V⟩:=Xa ((dnext d).1)
 rw[V]at l
 have pp:(decide (r<0)&&decide ((32:Int)<=(L:Int)))=false:=by
  rcases hr with⟨r0,r1⟩ | ⟨rfl,rL⟩
  ·rw[CW (p:=r<0) (by omega)];rfl
  ·rw[CW (p:=(32:Int)<=(L:Int)) (by omega)];simp
 rcases hr with⟨r0,r1⟩ | ⟨rfl,rL⟩
 all_goals
  first
   | have p2:decide (r<0)=false:=by rw[Ax];omega
   | have p2:decide ((32:Int)<=(L:Int))=false:=by rw[Ax];omega
  go_wp2_with fail;refine l.mono ?_;rintro e h ⟨rfl,O⟩;have f:Hid (An w1.heap.size w1 h):=O;clear O;go_wp2_with fail
 all_goals
  have m:=Zd4 (ao:=ao) (L:=L) (c:=c) d.files n (own++a) (h.alloc (Ai #[Aa ao L c,Ab Ak (D.writes:Int),Ad D.armed,Ad D.dead,Ab Ak (D.after:Int),Ab Ak (D.keep:Int)] 29)) ((((H.o.2.1.below H.o.2.2.2.2.1).below b.o).below f.o).below (bz1 _ _)) H.o.2.2.1 (by omega) H.o.2.2.2.1.rise;rw[<- ZkW]at m;refine m.mono ?_;rintro e w3 ⟨v3,rfl,Q,s⟩;obtain⟨y0,y1,y2,y3,y4,y5⟩:=((((H.o.2.2.2.2.2.2.below b.o).below f.o).below (bz1 _ _)).below s).cells;obtain⟨f0,f1,f2,f3,f4,f5⟩:=((((H.o.2.2.2.2.2.2.below b.o).below f.o).below (bz1 _ _)).below s).thaw;obtain⟨z0,z1,z2,z3,z4,z5⟩:=((Six.new h (Aa ao L c) (Ab Ak (D.writes:Int)) (Ad D.armed) (Ad D.dead) (Ab Ak (D.after:Int)) (Ab Ak (D.keep:Int))).below s).cells;have g0:=((Six.new h (Aa ao L c) (Ab Ak (D.writes:Int)) (Ad D.armed) (Ad D.dead) (Ab Ak (D.after:Int)) (Ab Ak (D.keep:Int))).below s).thaw.1;have s2:w.heap.size+1<h.heap.size:=((H.o.2.2.2.2.2.2.below b.o).below f.o).lt
  have ne:h.heap.size≠w.heap.size+1:=by omega
  have ac:w.heap.size+1≠h.heap.size:=by omega
  obtain⟨a3,t,rfl,x,R,P⟩:=Zep Q
  have j:Hid ((fwith d.files n (own++a)).length<=t/\RdG encF w3 a3 (fwith d.files n (own++a))/\(0<(fwith d.files n (own++a)).length->∀p,a3=some p->h.heap.size<p.block)/\An w.heap.size w w3):=⟨x,R,λ h0 p hp=>by have:=P h0 p hp;simp at this;omega,by
   have b1:=H.o.2.2.2.2.1.trans (b.o.mono H.o.2.2.2.2.1.size);have b2:=b1.trans (f.o.mono b1.size);have U:=b2.trans ((bz1 h (Ai #[Aa ao L c,Ab Ak (D.writes:Int),Ad D.armed,Ad D.dead,Ab Ak (D.after:Int),Ab Ak (D.keep:Int)] 29)).mono b2.size)
   exact U.trans (s.mono U.size)⟩
  obtain⟨M,F⟩:=Xa ((fwith d.files n (own++a)).length)
  rw[F];clear x R P;clear Q s m;go_wp2
 all_goals
  have CL:=Zgc j.o.2.2.2 (b1:=h.heap.size) (b2:=w.heap.size+1) (by omega) (by omega) (Aa a3 M t) (Aa a3 M t) (Ab Ak (D.writes:Int)) (Ad D.armed) (Ad D.dead) (Ab Ak (D.after:Int)) (Ab Ak (D.keep:Int));have RR:RVS S _ (rv a3 M t { D with files:=fwith d.files n (own++a) }) { D with files:=fwith d.files n (own++a) }:=RVS.close H.o.1 (by omega) F (by have:=j.o.1;rw[F]at this;exact this) j.o.2.1 (by rw[<- F];exact j.o.2.2.1) (by omega) CL.2;rw[V];refine As (v:=Af #[rv a3 M t { D with files:=fwith d.files n (own++a) },Ab Ak 0]) ?_ rfl ⟨_,rfl,RR,CL.1⟩;simp[AH,Tryz.f134];go_simp
theorem ZjP(hS:∀i,S i->i<w.heap.size)(N:RdG encF w ao d.files)(I:d.files.length=L)(A:d.ok)(hw:d.writes<4611686018427387904)(n own a:Bs)(hn:isName n=true)(ac:n.length<=140737488355328)
  (ab:own.length+a.length<=262144) (g:fget d.files n≠none∨L<32) (z:(dnext d).2.1=false) (C:(dnext d).2.2=true) (U:d.keep<a.length) :
  At Am 134 #[rv ao L c d,tx n,tx own,tx a] w λ e w'=>∃v',e=Aj (Af #[v',Ab Ak 8])/\RVS S w' v' { (dnext d).1 with files:=fwith d.files n (own++a.take d.keep) }/\An w.heap.size w w':=by
 obtain⟨W,Q⟩:=Xa ((w.alloc (Ai #[Aa ao L c,Ab Ak (d.writes:Int),Ad d.armed,Ad d.dead,Ab Ak (d.after:Int),Ab Ak (d.keep:Int)] 29)).alloc (Ai #[Aa none 0 0,Ab Ak 0,Ad false,Ad false,Ab Ak 0,Ab Ak 0] 29))
 have F:An w.heap.size w W:=by rw[<- Q];exact bz2 _ _ _
 have P:Six W w.heap.size (Aa ao L c) (Ab Ak (d.writes:Int)) (Ad d.armed) (Ad d.dead) (Ab Ak (d.after:Int)) (Ab Ak (d.keep:Int)):=by rw[<- Q];exact(Six.new w _ _ _ _ _ _).below (bz1 _ _)
 have Y0:Six W (w.heap.size+1) (Aa none 0 0) (Ab Ak 0) (Ad false) (Ad false) (Ab Ak 0) (Ab Ak 0):=by
  rw[<- Q];have:=Six.new (w.alloc (Ai #[Aa ao L c,Ab Ak (d.writes:Int),Ad d.armed,Ad d.dead,Ab Ak (d.after:Int),Ab Ak (d.keep:Int)] 29)) (Aa none 0 0) (Ab Ak 0) (Ad false) (Ad false) (Ab Ak 0) (Ab Ak 0);rw[show(w.alloc (Ai #[Aa ao L c,Ab Ak (d.writes:Int),Ad d.armed,Ad d.dead,Ab Ak (d.after:Int),Ab Ak (d.keep:Int)] 29)).heap.size=w.heap.size+1 by simp]at this;exact this
 have m:=Zat ⟨n.toArray⟩ (by rw[ZaQ];omega) W;rw[show(⟨n.toArray⟩:ByteArray).data.toList=n from rfl,hn]at m;obtain⟨x0,x1,x2,x3,x4,x5⟩:=P.cells
 have p1:decide ((262144:Int)<((own.length:Nat):Int)+((a.length:Nat):Int))=false:=by rw[Ax];omega
 have ol:own.length<=262144:=by omega
 have ml:a.length<=262144:=by omega
 have x:At Am 174 #[rv ao L c d,tx n] W λ e w'=>∃r,e=Aj (Ab Ak r)/\((0<=r/\r<1000)∨(r = -1/\L<32))/\An W.heap.size W w':=by
  cases e:fget d.files n with
  | none =>
   refine(ZcV (c:=c) d n W (N.below F) I (by have:=A.few;omega) e).mono ?_;rintro _ w' ⟨rfl,R⟩;exact⟨-1,rfl,.inr ⟨rfl,g.elim (λ q=>absurd e q) id⟩,R⟩
  | some v =>
   refine(Zei (c:=c) d n W (N.below F) I (by have:=A.few;omega) e).mono ?_;rintro _ w' ⟨i,rfl,hi,_,R⟩;exact⟨i,rfl,.inl ⟨by omega,by have:=A.few;omega⟩,R⟩
 have H:Hid ((∀i,S i->i<w.heap.size)/\RdG encF w ao d.files/\d.files.length=L/\d.ok/\An w.heap.size w W/\Six W w.heap.size (Aa ao L c) (Ab Ak (d.writes:Int)) (Ad d.armed) (Ad d.dead) (Ab Ak (d.after:Int)) (Ab Ak (d.keep:Int))/\Six W (w.heap.size+1) (Aa none 0 0) (Ab Ak 0) (Ad false) (Ad false) (Ab Ak 0) (Ab Ak 0)):=⟨hS,N,I,A,F,P,Y0⟩
 have aa:L<=32:=by have:=A.few;omega
 clear hS N I F P Y0 g;have Z:Hid _:=BO z C;clear z C
 obtain⟨K,G⟩:=Xa d.keep
 obtain⟨j,B⟩:=Xa (a.take d.keep)
 rw[G]at U
 have MR:Hid (a.take K=j):=by rw[<- G];exact B
 have O:Hid (d.keep=K):=G;clear G B;go_enter func134,ntmps134;go_wp2_with fail;refine m.mono ?_;rintro e w1 ⟨rfl,E⟩;rw[E];clear E w1 m;go_wp2_with fail;refine x.mono ?_;rintro e w1 ⟨r,rfl,hr,Y⟩;have b:Hid (An W.heap.size W w1):=Y;clear Y x x0 x1 x2 x3 x4 x5;obtain⟨x0,x1,x2,x3,x4,x5⟩:=(H.o.2.2.2.2.2.1.below b.o).cells;have s:=Zes (ao:=ao) (L:=L) (c:=c) (w:=w1) H.o.2.2.2.1.after hw;rw[Z.o.1,Z.o.2]at s
 obtain⟨D,hD⟩:=Xa ((dnext d).1)
 rw[hD]at s
 have pp:(decide (r<0)&&decide ((32:Int)<=(L:Int)))=false:=by
  rcases hr with⟨r0,r1⟩ | ⟨rfl,rL⟩
  ·rw[CW (p:=r<0) (by omega)];rfl
  ·rw[CW (p:=(32:Int)<=(L:Int)) (by omega)];simp
 rcases hr with⟨r0,r1⟩ | ⟨rfl,rL⟩
 all_goals
  first
   | have p2:decide (r<0)=false:=by rw[Ax];omega
   | have p2:decide ((32:Int)<=(L:Int))=false:=by rw[Ax];omega
  go_wp2_with fail;refine s.mono ?_;rintro e h ⟨rfl,B2⟩;have f:Hid (An w1.heap.size w1 h):=B2;clear B2;have V:=(H.o.2.2.2.2.2.1.below b.o |>.below f.o).cells.2.2.2.2.2;rw[O.o]at V;have X:=(((H.o.2.2.2.2.2.1.below b.o).below f.o).below (bz1 h (Ai #[Aa ao L c,Ab Ak (D.writes:Int),Ad D.armed,Ad D.dead,Ab Ak (D.after:Int),Ab Ak (D.keep:Int)] 29))).cells.2.2.2.2.2;rw[O.o]at X
  have p3:decide ((K:Int)<((a.length:Nat):Int))=true:=by rw[A5];omega
  go_wp2_with fail;have l:=Zd4 (ao:=ao) (L:=L) (c:=c) d.files n (own++j) (h.alloc (Ai #[Aa ao L c,Ab Ak (D.writes:Int),Ad D.armed,Ad D.dead,Ab Ak (D.after:Int),Ab Ak (D.keep:Int)] 29)) ((((H.o.2.1.below H.o.2.2.2.2.1).below b.o).below f.o).below (bz1 _ _)) H.o.2.2.1 (by omega) H.o.2.2.2.1.rise;rw[<- ZkW]at l
  have T:(⟨j.toArray⟩:ByteArray)=(⟨a.toArray⟩:ByteArray).extract 0 K:=by rw[Zb5,<- MR.o]
  rw[T]at l;refine l.mono ?_;rintro e w3 ⟨v3,rfl,O3,t⟩;obtain⟨y0,y1,y2,y3,y4,y5⟩:=((((H.o.2.2.2.2.2.2.below b.o).below f.o).below (bz1 _ _)).below t).cells;obtain⟨f0,f1,f2,f3,f4,f5⟩:=((((H.o.2.2.2.2.2.2.below b.o).below f.o).below (bz1 _ _)).below t).thaw;obtain⟨z0,z1,z2,z3,z4,z5⟩:=((Six.new h (Aa ao L c) (Ab Ak (D.writes:Int)) (Ad D.armed) (Ad D.dead) (Ab Ak (D.after:Int)) (Ab Ak (D.keep:Int))).below t).cells;have g0:=((Six.new h (Aa ao L c) (Ab Ak (D.writes:Int)) (Ad D.armed) (Ad D.dead) (Ab Ak (D.after:Int)) (Ab Ak (D.keep:Int))).below t).thaw.1;have s2:w.heap.size+1<h.heap.size:=((H.o.2.2.2.2.2.2.below b.o).below f.o).lt
  have ne:h.heap.size≠w.heap.size+1:=by omega
  have ad:w.heap.size+1≠h.heap.size:=by omega
  obtain⟨a3,u,rfl,y,R3,F3⟩:=Zep O3
  have k:Hid ((fwith d.files n (own++j)).length<=u/\RdG encF w3 a3 (fwith d.files n (own++j))/\(0<(fwith d.files n (own++j)).length->∀p,a3=some p->h.heap.size<p.block)/\An w.heap.size w w3):=⟨y,R3,λ h0 p hp=>by have:=F3 h0 p hp;simp at this;omega,by
   have b1:=H.o.2.2.2.2.1.trans (b.o.mono H.o.2.2.2.2.1.size);have b2:=b1.trans (f.o.mono b1.size);have b3:=b2.trans ((bz1 h (Ai #[Aa ao L c,Ab Ak (D.writes:Int),Ad D.armed,Ad D.dead,Ab Ak (D.after:Int),Ab Ak (D.keep:Int)] 29)).mono b2.size)
   exact b3.trans (t.mono b3.size)⟩
  obtain⟨M,J⟩:=Xa ((fwith d.files n (own++j)).length)
  rw[J];clear y R3 F3;clear O3 t l;go_wp2;have CL:=Zgc k.o.2.2.2 (b1:=h.heap.size) (b2:=w.heap.size+1) (by omega) (by omega) (Aa a3 M u) (Aa a3 M u) (Ab Ak (D.writes:Int)) (Ad D.armed) (Ad D.dead) (Ab Ak (D.after:Int)) (Ab Ak (D.keep:Int));have RR:RVS S _ (rv a3 M u { D with files:=fwith d.files n (own++j) }) { D with files:=fwith d.files n (own++j) }:=RVS.close H.o.1 (by omega) J (by have:=k.o.1;rw[J]at this;exact this) k.o.2.1 (by rw[<- J];exact k.o.2.2.1) (by omega) CL.2;rw[hD,O.o,MR.o];refine As (v:=Af #[rv a3 M u { D with files:=fwith d.files n (own++j) },Ab Ak 8]) ?_ rfl ⟨_,rfl,RR,CL.1⟩;simp[AH,Tryz.f134];go_simp
theorem ZjI(hS:∀i,S i->i<w.heap.size)(N:RdG encF w ao d.files)(I:d.files.length=L)(A:d.ok)(hw:d.writes<4611686018427387904)(n own a:Bs)(hn:isName n=true)(ac:n.length<=140737488355328)
  (ab:own.length+a.length<=262144) (g:fget d.files n≠none∨L<32) (z:(dnext d).2.1=false) (C:(dnext d).2.2=true) (U:a.length<=d.keep) :
  At Am 134 #[rv ao L c d,tx n,tx own,tx a] w λ e w'=>∃v',e=Aj (Af #[v',Ab Ak 8])/\RVS S w' v' { (dnext d).1 with files:=fwith d.files n (own++a.take d.keep) }/\An w.heap.size w w':=by
 obtain⟨W,Q⟩:=Xa ((w.alloc (Ai #[Aa ao L c,Ab Ak (d.writes:Int),Ad d.armed,Ad d.dead,Ab Ak (d.after:Int),Ab Ak (d.keep:Int)] 29)).alloc (Ai #[Aa none 0 0,Ab Ak 0,Ad false,Ad false,Ab Ak 0,Ab Ak 0] 29))
 have F:An w.heap.size w W:=by rw[<- Q];exact bz2 _ _ _
 have P:Six W w.heap.size (Aa ao L c) (Ab Ak (d.writes:Int)) (Ad d.armed) (Ad d.dead) (Ab Ak (d.after:Int)) (Ab Ak (d.keep:Int)):=by rw[<- Q];exact(Six.new w _ _ _ _ _ _).below (bz1 _ _)
 have Y0:Six W (w.heap.size+1) (Aa none 0 0) (Ab Ak 0) (Ad false) (Ad false) (Ab Ak 0) (Ab Ak 0):=by
  rw[<- Q];have:=Six.new (w.alloc (Ai #[Aa ao L c,Ab Ak (d.writes:Int),Ad d.armed,Ad d.dead,Ab Ak (d.after:Int),Ab Ak (d.keep:Int)] 29)) (Aa none 0 0) (Ab Ak 0) (Ad false) (Ad false) (Ab Ak 0) (Ab Ak 0);rw[show(w.alloc (Ai #[Aa ao L c,Ab Ak (d.writes:Int),Ad d.armed,Ad d.dead,Ab Ak (d.after:Int),Ab Ak (d.keep:Int)] 29)).heap.size=w.heap.size+1 by simp]at this;exact this
 have m:=Zat ⟨n.toArray⟩ (by rw[ZaQ];omega) W;rw[show(⟨n.toArray⟩:ByteArray).data.toList=n from rfl,hn]at m;obtain⟨x0,x1,x2,x3,x4,x5⟩:=P.cells
 have p1:decide ((262144:Int)<((own.length:Nat):Int)+((a.length:Nat):Int))=false:=by rw[Ax];omega
 have ol:own.length<=262144:=by omega
 have ml:a.length<=262144:=by omega
 have x:At Am 174 #[rv ao L c d,tx n] W λ e w'=>∃r,e=Aj (Ab Ak r)/\((0<=r/\r<1000)∨(r = -1/\L<32))/\An W.heap.size W w':=by
  cases e:fget d.files n with
  | none =>
   refine(ZcV (c:=c) d n W (N.below F) I (by have:=A.few;omega) e).mono ?_;rintro _ w' ⟨rfl,R⟩;exact⟨-1,rfl,.inr ⟨rfl,g.elim (λ q=>absurd e q) id⟩,R⟩
  | some v =>
   refine(Zei (c:=c) d n W (N.below F) I (by have:=A.few;omega) e).mono ?_;rintro _ w' ⟨i,rfl,hi,_,R⟩;exact⟨i,rfl,.inl ⟨by omega,by have:=A.few;omega⟩,R⟩
 have H:Hid ((∀i,S i->i<w.heap.size)/\RdG encF w ao d.files/\d.files.length=L/\d.ok/\An w.heap.size w W/\Six W w.heap.size (Aa ao L c) (Ab Ak (d.writes:Int)) (Ad d.armed) (Ad d.dead) (Ab Ak (d.after:Int)) (Ab Ak (d.keep:Int))/\Six W (w.heap.size+1) (Aa none 0 0) (Ab Ak 0) (Ad false) (Ad false) (Ab Ak 0) (Ab Ak 0)):=⟨hS,N,I,A,F,P,Y0⟩
 have aa:L<=32:=by have:=A.few;omega
 clear hS N I F P Y0 g;have Z:Hid _:=BO z C;clear z C
 obtain⟨K,G⟩:=Xa d.keep
 obtain⟨j,B⟩:=Xa (a.take d.keep)
 rw[G]at U
 have MR:Hid (a.take K=j):=by rw[<- G];exact B
 have O:Hid (d.keep=K):=G;clear G B;go_enter func134,ntmps134;go_wp2_with fail;refine m.mono ?_;rintro e w1 ⟨rfl,E⟩;rw[E];clear E w1 m;go_wp2_with fail;refine x.mono ?_;rintro e w1 ⟨r,rfl,hr,Y⟩;have b:Hid (An W.heap.size W w1):=Y;clear Y x x0 x1 x2 x3 x4 x5;obtain⟨x0,x1,x2,x3,x4,x5⟩:=(H.o.2.2.2.2.2.1.below b.o).cells;have s:=Zes (ao:=ao) (L:=L) (c:=c) (w:=w1) H.o.2.2.2.1.after hw;rw[Z.o.1,Z.o.2]at s
 obtain⟨D,hD⟩:=Xa ((dnext d).1)
 rw[hD]at s
 have pp:(decide (r<0)&&decide ((32:Int)<=(L:Int)))=false:=by
  rcases hr with⟨r0,r1⟩ | ⟨rfl,rL⟩
  ·rw[CW (p:=r<0) (by omega)];rfl
  ·rw[CW (p:=(32:Int)<=(L:Int)) (by omega)];simp
 rcases hr with⟨r0,r1⟩ | ⟨rfl,rL⟩
 all_goals
  first
   | have p2:decide (r<0)=false:=by rw[Ax];omega
   | have p2:decide ((32:Int)<=(L:Int))=false:=by rw[Ax];omega
  go_wp2_with fail;refine s.mono ?_;rintro e h ⟨rfl,B2⟩;have f:Hid (An w1.heap.size w1 h):=B2;clear B2;have V:=(H.o.2.2.2.2.2.1.below b.o |>.below f.o).cells.2.2.2.2.2;rw[O.o]at V;have X:=(((H.o.2.2.2.2.2.1.below b.o).below f.o).below (bz1 h (Ai #[Aa ao L c,Ab Ak (D.writes:Int),Ad D.armed,Ad D.dead,Ab Ak (D.after:Int),Ab Ak (D.keep:Int)] 29))).cells.2.2.2.2.2;rw[O.o]at X
  have p3:decide ((K:Int)<((a.length:Nat):Int))=false:=by rw[Ax];omega
  go_wp2_with fail;have l:=Zd4 (ao:=ao) (L:=L) (c:=c) d.files n (own++j) (h.alloc (Ai #[Aa ao L c,Ab Ak (D.writes:Int),Ad D.armed,Ad D.dead,Ab Ak (D.after:Int),Ab Ak (D.keep:Int)] 29)) ((((H.o.2.1.below H.o.2.2.2.2.1).below b.o).below f.o).below (bz1 _ _)) H.o.2.2.1 (by omega) H.o.2.2.2.1.rise;rw[<- ZkW]at l
  have T:(⟨j.toArray⟩:ByteArray)=(⟨a.toArray⟩:ByteArray):=by rw[<- MR.o,List.take_of_length_le (by omega)]
  rw[T]at l;refine l.mono ?_;rintro e w3 ⟨v3,rfl,O3,t⟩;obtain⟨y0,y1,y2,y3,y4,y5⟩:=((((H.o.2.2.2.2.2.2.below b.o).below f.o).below (bz1 _ _)).below t).cells;obtain⟨f0,f1,f2,f3,f4,f5⟩:=((((H.o.2.2.2.2.2.2.below b.o).below f.o).below (bz1 _ _)).below t).thaw;obtain⟨z0,z1,z2,z3,z4,z5⟩:=((Six.new h (Aa ao L c) (Ab Ak (D.writes:Int)) (Ad D.armed) (Ad D.dead) (Ab Ak (D.after:Int)) (Ab Ak (D.keep:Int))).below t).cells;have g0:=((Six.new h (Aa ao L c) (Ab Ak (D.writes:Int)) (Ad D.armed) (Ad D.dead) (Ab Ak (D.after:Int)) (Ab Ak (D.keep:Int))).below t).thaw.1;have s2:w.heap.size+1<h.heap.size:=((H.o.2.2.2.2.2.2.below b.o).below f.o).lt
  have ne:h.heap.size≠w.heap.size+1:=by omega
  have ad:w.heap.size+1≠h.heap.size:=by omega
  obtain⟨a3,u,rfl,y,R3,F3⟩:=Zep O3
  have k:Hid ((fwith d.files n (own++j)).length<=u/\RdG encF w3 a3 (fwith d.files n (own++j))/\(0<(fwith d.files n (own++j)).length->∀p,a3=some p->h.heap.size<p.block)/\An w.heap.size w w3):=⟨y,R3,λ h0 p hp=>by have:=F3 h0 p hp;simp at this;omega,by
   have b1:=H.o.2.2.2.2.1.trans (b.o.mono H.o.2.2.2.2.1.size);have b2:=b1.trans (f.o.mono b1.size);have b3:=b2.trans ((bz1 h (Ai #[Aa ao L c,Ab Ak (D.writes:Int),Ad D.armed,Ad D.dead,Ab Ak (D.after:Int),Ab Ak (D.keep:Int)] 29)).mono b2.size)
   exact b3.trans (t.mono b3.size)⟩
  obtain⟨M,J⟩:=Xa ((fwith d.files n (own++j)).length)
  rw[J];clear y R3 F3;clear O3 t l;go_wp2;have CL:=Zgc k.o.2.2.2 (b1:=h.heap.size) (b2:=w.heap.size+1) (by omega) (by omega) (Aa a3 M u) (Aa a3 M u) (Ab Ak (D.writes:Int)) (Ad D.armed) (Ad D.dead) (Ab Ak (D.after:Int)) (Ab Ak (D.keep:Int));have RR:RVS S _ (rv a3 M u { D with files:=fwith d.files n (own++j) }) { D with files:=fwith d.files n (own++j) }:=RVS.close H.o.1 (by omega) J (by have:=k.o.1;rw[J]at this;exact this) k.o.2.1 (by rw[<- J];exact k.o.2.2.1) (by omega) CL.2;rw[hD,O.o,MR.o];refine As (v:=Af #[rv a3 M u { D with files:=fwith d.files n (own++j) },Ab Ak 8]) ?_ rfl ⟨_,rfl,RR,CL.1⟩;simp[AH,Tryz.f134];go_simp
end
theorem Zey(d:An w.heap.size w a)(e:w.heap.size<=b2)(v0 b c v3 v4 v5:Ar):
  An w.heap.size w ((((((a.setCell ⟨b2,0,none⟩ v0).setCell ⟨b2,1,none⟩ b).setCell ⟨b2,2,none⟩ c).setCell ⟨b2,3,none⟩ v3).setCell ⟨b2,4,none⟩ v4).setCell ⟨b2,5,none⟩ v5):=by
 have t:Zaa (λ i=>i=b2) a ((((((a.setCell ⟨b2,0,none⟩ v0).setCell ⟨b2,1,none⟩ b).setCell ⟨b2,2,none⟩ c).setCell ⟨b2,3,none⟩ v3).setCell ⟨b2,4,none⟩ v4).setCell ⟨b2,5,none⟩ v5) :=
  (((((((Zaa.refl (λ i=>i=b2) a).setCell (p:=⟨b2,0,none⟩) (.inl rfl) v0).setCell (p:=⟨b2,1,none⟩) (.inl rfl) b).setCell (p:=⟨b2,2,none⟩) (.inl rfl) c).setCell (p:=⟨b2,3,none⟩) (.inl rfl) v3).setCell (p:=⟨b2,4,none⟩) (.inl rfl) v4).setCell (p:=⟨b2,5,none⟩) (.inl rfl) v5)
 exact d.trans (t.below d.size (λ i hi q=>by omega))
theorem RVS.below(h:RVS S w v d)(i:An w.heap.size w w'):RVS S w' v d:=by
 obtain⟨ao,L,c,e,a,b,f,g⟩:=h;exact⟨ao,L,c,e,a,b,f.below i,g⟩
section
variable{S:Nat->Prop}{ao:Option Addr}{L c:Nat}{d:Dk}{w:World}
theorem ZoK(n own f:Bs)(g:isName n=false)(h:n.length<=140737488355328):
  At Am 134 #[rv ao L c d,tx n,tx own,tx f] w λ e w'=>e=Aj (Af #[rv ao L c d,Ab Ak 2])/\An w.heap.size w w':=by
 have a:=λ W=>Zat ⟨n.toArray⟩ (by rw[ZaQ];omega) W
 rw[show(⟨n.toArray⟩:ByteArray).data.toList=n from rfl,g]at a;unfold rv;go_enter func134,ntmps134;go_wp2_with fail;refine(a _).mono ?_;rintro e w1 ⟨rfl,b⟩;rw[b];clear b w1 a;go_wp2;refine As (v:=Af #[.agg #[Aa ao L c,Ab Ak (d.writes:Int),Ad d.armed,Ad d.dead,Ab Ak (d.after:Int),Ab Ak (d.keep:Int)],Ab Ak 2]) ?_ rfl ⟨rfl,bz2 _ _ _⟩;simp[AH,Tryz.f134];go_simp
theorem Zmx(n own a:Bs)(h:isName n=true)(i:n.length<=140737488355328)(k:own.length<=262144)(j:a.length<=140737488355328)(g:262144<own.length+a.length):
  At Am 134 #[rv ao L c d,tx n,tx own,tx a] w λ e w'=>e=Aj (Af #[rv ao L c d,Ab Ak 7])/\An w.heap.size w w':=by
 have b:=λ W=>Zat ⟨n.toArray⟩ (by rw[ZaQ];omega) W
 rw[show(⟨n.toArray⟩:ByteArray).data.toList=n from rfl,h]at b
 have l:decide ((262144:Int)<((own.length:Nat):Int)+((a.length:Nat):Int))=true:=by rw[A5];omega
 unfold rv;go_enter func134,ntmps134;go_wp2_with fail;refine(b _).mono ?_;rintro e w1 ⟨rfl,f⟩;rw[f];clear f w1 b;go_wp2;refine As (v:=Af #[.agg #[Aa ao L c,Ab Ak (d.writes:Int),Ad d.armed,Ad d.dead,Ab Ak (d.after:Int),Ab Ak (d.keep:Int)],Ab Ak 7]) ?_ rfl ⟨rfl,bz2 _ _ _⟩;simp[AH,Tryz.f134];go_simp
theorem Zde(w:Ap)(a0 a1 a2 a3 a4 a5 a b1 b2 b b4 c:Ar):Six ((w.alloc (Ai #[a0,a1,a2,a3,a4,a5] 29)).alloc (Ai #[a,b1,b2,b,b4,c] 29)) w.heap.size a0 a1 a2 a3 a4 a5/\Six ((w.alloc (Ai #[a0,a1,a2,a3,a4,a5] 29)).alloc (Ai #[a,b1,b2,b,b4,c] 29)) (w.heap.size+1) a b1 b2 b b4 c:=by
 refine⟨(Six.new w _ _ _ _ _ _).below (bz1 _ _),?_⟩;have:=Six.new (w.alloc (Ai #[a0,a1,a2,a3,a4,a5] 29)) a b1 b2 b b4 c;rw[show(w.alloc (Ai #[a0,a1,a2,a3,a4,a5] 29)).heap.size=w.heap.size+1 by simp]at this;exact this
theorem ZlP(k:RdG encF w ao d.files)(j:d.files.length=L)(A:L<=1000)(n own a:Bs)(B:isName n=true)(C:n.length<=140737488355328)(p:own.length+a.length<=262144)(m:fget d.files n=none)(z:32<=L):
  At Am 134 #[rv ao L c d,tx n,tx own,tx a] w λ e w'=>e=Aj (Af #[rv ao L c d,Ab Ak 7])/\An w.heap.size w w':=by
 have b:=λ W=>Zat ⟨n.toArray⟩ (by rw[ZaQ];omega) W
 rw[show(⟨n.toArray⟩:ByteArray).data.toList=n from rfl,B]at b
 have M:decide ((262144:Int)<((own.length:Nat):Int)+((a.length:Nat):Int))=false:=by rw[Ax];omega
 have N:decide ((32:Int)<=(L:Int))=true:=by rw[A5];omega
 have K:own.length<=262144:=by omega
 have J:a.length<=262144:=by omega
 obtain⟨W,l⟩:=Xa ((w.alloc (Ai #[Aa ao L c,Ab Ak (d.writes:Int),Ad d.armed,Ad d.dead,Ab Ak (d.after:Int),Ab Ak (d.keep:Int)] 29)).alloc (Ai #[Aa none 0 0,Ab Ak 0,Ad false,Ad false,Ab Ak 0,Ab Ak 0] 29))
 have T:=Zde w (Aa ao L c) (Ab Ak (d.writes:Int)) (Ad d.armed) (Ad d.dead) (Ab Ak (d.after:Int)) (Ab Ak (d.keep:Int)) (Aa none 0 0) (Ab Ak 0) (Ad false) (Ad false) (Ab Ak 0) (Ab Ak 0);rw[l]at T
 have i:An w.heap.size w W:=by rw[<- l];exact bz2 _ _ _
 have g:=ZcV (c:=c) d n W (k.below i) j A m
 obtain⟨q,r,s,t,u,x⟩:=T.1.cells
 have H:Hid (An w.heap.size w W/\Six W w.heap.size (Aa ao L c) (Ab Ak (d.writes:Int)) (Ad d.armed) (Ad d.dead) (Ab Ak (d.after:Int)) (Ab Ak (d.keep:Int))/\Six W (w.heap.size+1) (Aa none 0 0) (Ab Ak 0) (Ad false) (Ad false) (Ab Ak 0) (Ab Ak 0)):=⟨i,T.1,T.2⟩
 clear k j m T i;go_enter func134,ntmps134;go_wp2_with fail;refine(b _).mono ?_;rintro e w1 ⟨rfl,h⟩;rw[h];clear h w1 b;go_wp2_with fail;refine g.mono ?_;rintro e w1 ⟨rfl,f⟩;clear q r s t u x;obtain⟨q,r,s,t,u,x⟩:=(H.o.2.1.below f).cells;obtain⟨O,P,Q,R,S,U⟩:=(H.o.2.2.below f).cells;obtain⟨D,E,f2,F,G,I⟩:=(H.o.2.2.below f).thaw;have y:Hid (An w.heap.size w w1):=H.o.1.trans (f.mono H.o.1.size);clear f g;go_wp2;refine As (v:=Af #[rv ao L c d,Ab Ak 7]) ?_ rfl ⟨rfl,Zey y.o (by omega) _ _ _ _ _ _⟩;simp[AH,Tryz.f134];go_simp
theorem Zmc(t:RdG encF w ao d.files)(s:d.files.length=L)(z:L<=1000)(n own a:Bs)(J:isName n=true)(K:n.length<=140737488355328)(A:own.length+a.length<=262144)(b:fget d.files n≠none∨L<32)(hd:d.dead=true):
  At Am 134 #[rv ao L c d,tx n,tx own,tx a] w λ e w'=>e=Aj (Af #[rv ao L c d,Ab Ak 8])/\An w.heap.size w w':=by
 have g:=λ W=>Zat ⟨n.toArray⟩ (by rw[ZaQ];omega) W
 rw[show(⟨n.toArray⟩:ByteArray).data.toList=n from rfl,J]at g
 have p1:decide ((262144:Int)<((own.length:Nat):Int)+((a.length:Nat):Int))=false:=by rw[Ax];omega
 have ol:own.length<=262144:=by omega
 have X:a.length<=262144:=by omega
 obtain⟨W,y⟩:=Xa ((w.alloc (Ai #[Aa ao L c,Ab Ak (d.writes:Int),Ad d.armed,Ad d.dead,Ab Ak (d.after:Int),Ab Ak (d.keep:Int)] 29)).alloc (Ai #[Aa none 0 0,Ab Ak 0,Ad false,Ad false,Ab Ak 0,Ab Ak 0] 29))
 have T:=Zde w (Aa ao L c) (Ab Ak (d.writes:Int)) (Ad d.armed) (Ad d.dead) (Ab Ak (d.after:Int)) (Ab Ak (d.keep:Int)) (Aa none 0 0) (Ab Ak 0) (Ad false) (Ad false) (Ab Ak 0) (Ab Ak 0);rw[y]at T
 have k:An w.heap.size w W:=by rw[<- y];exact bz2 _ _ _
 have h:At Am 174 #[rv ao L c d,tx n] W λ e w'=>∃r,e=Aj (Ab Ak r)/\((0<=r/\r<1000)∨(r = -1/\L<32))/\An W.heap.size W w':=by
  cases e:fget d.files n with
  | none =>
   refine(ZcV (c:=c) d n W (t.below k) s z e).mono ?_;rintro _ w' ⟨rfl,u⟩;exact⟨-1,rfl,.inr ⟨rfl,b.elim (λ q=>absurd e q) id⟩,u⟩
  | some v =>
   refine(Zei (c:=c) d n W (t.below k) s z e).mono ?_;rintro _ w' ⟨i,rfl,hi,_,u⟩;exact⟨i,rfl,.inl ⟨by omega,by omega⟩,u⟩
 obtain⟨B,C,D,E,F,G⟩:=T.1.cells
 have H:Hid (An w.heap.size w W/\Six W w.heap.size (Aa ao L c) (Ab Ak (d.writes:Int)) (Ad d.armed) (Ad d.dead) (Ab Ak (d.after:Int)) (Ab Ak (d.keep:Int))/\Six W (w.heap.size+1) (Aa none 0 0) (Ab Ak 0) (Ad false) (Ad false) (Ab Ak 0) (Ab Ak 0)):=⟨k,T.1,T.2⟩
 have x:=λ w1=>ZeV (ao:=ao) (L:=L) (c:=c) (w:=w1) hd
 have P:Hid (d.dead=true):=hd;clear t s b T k hd;go_enter func134,ntmps134;go_wp2_with fail;refine(g _).mono ?_;rintro e w1 ⟨rfl,j⟩;rw[j];clear j w1 g;go_wp2_with fail;refine h.mono ?_;rintro e w1 ⟨r,rfl,M,p⟩;clear B C D E F G;obtain⟨B,C,D,E,F,G⟩:=(H.o.2.1.below p).cells;have f:Hid (An W.heap.size W w1):=p;clear p h
 rcases M with⟨r0,r1⟩ | ⟨rfl,rL⟩
 all_goals
  first
   | have O:decide (r<0)=false:=by rw[Ax];omega
   | have O:decide ((32:Int)<=(L:Int))=false:=by rw[Ax];omega
  go_wp2_with fail;refine(x w1).mono ?_;rintro e m ⟨rfl,l⟩;have Y:=(H.o.2.2.below f.o).below l;obtain⟨y0,y1,y2,y3,y4,y5⟩:=Y.cells;obtain⟨Q,R,f2,S,U,V⟩:=Y.thaw;have s2:w.heap.size+1<m.heap.size:=((H.o.2.2.below f.o).below l).lt
  have Z:m.heap.size≠w.heap.size+1:=by omega
  have N:w.heap.size+1≠m.heap.size:=by omega
  have I:Hid (An w.heap.size w m):=by
   have b1:=H.o.1.trans (f.o.mono H.o.1.size);exact b1.trans (l.mono b1.size)
  clear l Y;go_wp2;have CL:=Zey I.o (b2:=w.heap.size+1) (by omega) (Aa ao L c) (Ab Ak (d.writes:Int)) (Ad d.armed) (Ad d.dead) (Ab Ak (d.after:Int)) (Ab Ak (d.keep:Int));refine As (v:=Af #[rv ao L c d,Ab Ak 8]) ?_ rfl ⟨rfl,CL.trans ((bz1 _ _).mono CL.size)⟩;simp[AH,Tryz.f134];go_simp
theorem Znr(z:∀i,S i->i<w.heap.size)(h:RVS S w v d)(u:d.ok)(C:d.writes<4611686018427387904)(n own a:Bs)(g:n.length<=140737488355328)(H:own.length<=262144)(G:a.length<=140737488355328):
  At Am 134 #[v,tx n,tx own,tx a] w λ e w'=>∃v',e=Aj (Af #[v',Ab Ak (dlay d n own a).2])/\RVS S w' v' (dlay d n own a).1/\An w.heap.size w w':=by
 obtain⟨ao,L,c,rfl,s,F,t,hF⟩:=h
 have k:∀{w':Ap},An w.heap.size w w'->RVS S w' (rv ao L c d) d:=λ l=>⟨ao,L,c,rfl,s,F,t.below l,hF⟩
 have E:L<=1000:=by have:=u.few;omega
 unfold dlay;by_cases m:isName n=false
 ·rw[AE m];refine(ZoK n own a m g).mono ?_;rintro e w' ⟨rfl,l⟩;exact⟨_,rfl,k l,l⟩
 ·rw[Aw m]
  have m:isName n=true:=by simpa using m
  by_cases b:262144<own.length+a.length∨(fget d.files n=none/\32<=d.files.length)
  ·rw[AE b];by_cases D:262144<own.length+a.length
   ·refine(Zmx n own a m g H G D).mono ?_;rintro e w' ⟨rfl,l⟩;exact⟨_,rfl,k l,l⟩
   ·obtain⟨I,J⟩:=b.elim (λ q=>absurd q D) id;refine(ZlP t s E n own a m g (by omega) I (by omega)).mono ?_;rintro e w' ⟨rfl,l⟩;exact⟨_,rfl,k l,l⟩
  ·rw[Aw b]
   have j:own.length+a.length<=262144:=by omega
   have f:fget d.files n≠none∨L<32:=by
    by_cases q:fget d.files n=none
    ·exact .inr (by have:¬32<=d.files.length:=λ r=>b (.inr ⟨q,r⟩);omega)
    ·exact .inl q
   by_cases hd:d.dead=true
   ·rw[Zb8 hd];refine(Zmc t s E n own a m g j f hd).mono ?_;rintro e w' ⟨rfl,l⟩;exact⟨_,rfl,k l,l⟩
   ·have hd:d.dead=false:=by simpa using hd
    by_cases p:d.armed=true/\d.after=0
    ·have e:=Zbz hd p.1 p.2
     have x:(dnext d).2.1=false:=by rw[e]
     have y:(dnext d).2.2=true:=by rw[e]
     rw[Aw (by rw[x];simp),AE y];by_cases B:d.keep<a.length
     ·exact ZjP z t s u C n own a m g j f x y B
     ·exact ZjI z t s u C n own a m g j f x y (by omega)
    ·have o:(dnext d).2.1=true/\(dnext d).2.2=false:=by
      by_cases A:d.armed=true
      ·rw[ZbH hd A (λ q=>p ⟨A,q⟩)];exact⟨rfl,rfl⟩
      ·rw[ZbM hd (by simpa using A)];exact⟨rfl,rfl⟩
     rw[AE o.1];exact Zly z t s u C n own a m g j f o.1 o.2
end
theorem RVS.laid{w1:Ap}{L c:Nat}(h:RVS S w1 (rv ao L c d) d)(b:Nat)(hF:RdG encF w1 ao d.files->0<L->∀p,ao=some p->p.block≠b)(v0 a f v3 v4 v5:Ar):
  RVS S ((((((w1.setCell ⟨b,0,none⟩ v0).setCell ⟨b,1,none⟩ a).setCell ⟨b,2,none⟩ f).setCell ⟨b,3,none⟩ v3).setCell ⟨b,4,none⟩ v4).setCell ⟨b,5,none⟩ v5) (rv ao L c d) d:=by
 have t:Zaa (λ i=>i=b) w1 ((((((w1.setCell ⟨b,0,none⟩ v0).setCell ⟨b,1,none⟩ a).setCell ⟨b,2,none⟩ f).setCell ⟨b,3,none⟩ v3).setCell ⟨b,4,none⟩ v4).setCell ⟨b,5,none⟩ v5) :=
  (((((((Zaa.refl (λ i=>i=b) w1).setCell (p:=⟨b,0,none⟩) (.inl rfl) v0).setCell (p:=⟨b,1,none⟩) (.inl rfl) a).setCell (p:=⟨b,2,none⟩) (.inl rfl) f).setCell (p:=⟨b,3,none⟩) (.inl rfl) v3).setCell (p:=⟨b,4,none⟩) (.inl rfl) v4).setCell (p:=⟨b,5,none⟩) (.inl rfl) v5)
 obtain⟨k,j,c',e,l,m,g,n⟩:=h
 obtain⟨rfl,rfl,rfl⟩:ao=k/\L=j/\c=c':=by simpa[rv]using e
 exact⟨ao,L,c,rfl,l,m,g.turned t (λ o p hp q=>hF g (by omega) p hp q),n⟩
theorem Six.not_files{B:Nat}{a0 a1 a2 a3 a4 a5:Ar}(h:Six w B a0 a1 a2 a3 a4 a5)(i:∀n,a1≠tx n)(g:∀n,a0≠tx n)(j:∀n,a2≠tx n)(k:∀n,a3≠tx n)(l:∀n,a4≠tx n)(m:∀n,a5≠tx n){c:Fs}(o:RdG encF w ao c)(d:0<c.length):∀p,ao=some p->p.block≠B:=by
 intro p hp e;obtain⟨b,off,rfl,r,q⟩:=o d;cases hp;have a:=q 0 c[0] (List.getElem?_eq_getElem d) 0 (tx c[0].1) rfl;have f:b=B:=e;subst f;unfold Six at h;simp[World.cell?,h]at a
 have:off+(0*encF.size+0)=off:=by omega
 rcases off with _|_|_|_|_|_|off
 ·exact g _ (by simpa using a)
 ·exact i _ (by simpa using a)
 ·exact j _ (by simpa using a)
 ·exact k _ (by simpa using a)
 ·exact l _ (by simpa using a)
 ·exact m _ (by simpa using a)
 ·simp at a
section
variable{S:Nat->Prop}{d:Dk}{w:World}
theorem Zns(O:∀i,S i->i<w.heap.size)(h:RVS S w v d)(B:d.ok)(Z:d.writes<4611686018427387904)(n a:Bs)(D:n.length<=140737488355328)(X:a.length<=140737488355328):
  At Am 83 #[v,tx n,tx a] w λ e w'=>∃v',e=Aj (Af #[v',Ab Ak (dapp d n a).2])/\RVS S w' v' (dapp d n a).1/\An w.heap.size w w':=by
 have M:=h;obtain⟨ao,L,c,rfl,z,hc,A,hF⟩:=h
 obtain⟨W,Q⟩:=Xa ((w.alloc (Ai #[Aa ao L c,Ab Ak (d.writes:Int),Ad d.armed,Ad d.dead,Ab Ak (d.after:Int),Ab Ak (d.keep:Int)] 29)).alloc (Ai #[Aa none 0 0,Ab Ak 0,Ad false,Ad false,Ab Ak 0,Ab Ak 0] 29))
 have T:=Zde w (Aa ao L c) (Ab Ak (d.writes:Int)) (Ad d.armed) (Ad d.dead) (Ab Ak (d.after:Int)) (Ab Ak (d.keep:Int)) (Aa none 0 0) (Ab Ak 0) (Ad false) (Ad false) (Ab Ak 0) (Ab Ak 0);rw[Q]at T
 have k:An w.heap.size w W:=by rw[<- Q];exact bz2 _ _ _
 obtain⟨own,f⟩:=Xa ((fget d.files n).getD [])
 have E:own.length<=262144:=by
  rw[<- f]
  cases e:fget d.files n with
  | none=>simp
  | some b=>exact B.get e
 have R:L<=1000:=by have:=B.few;omega
 have g:∀W',An W.heap.size W W'->At Am 111 #[rv ao L c d,tx n] W' λ e w'=>e=Aj (tx own)/\An W'.heap.size W' w':=by
  intro W' p
  cases e:fget d.files n with
  | none=>rw[e]at f;cases f;exact Zgl d n W' ((A.below k).below p) z R e
  | some b=>rw[e]at f;cases f;exact Zk3 d n W' ((A.below k).below p) z R e
 have j:∀W',An W.heap.size W W'->At Am 134 #[rv ao L c d,tx n,tx own,tx a] W' λ e w'=>∃v',e=Aj (Af #[v',Ab Ak (dapp d n a).2])/\RVS S w' v' (dapp d n a).1/\An W'.heap.size W' w':=by
  intro W' p;have:=Znr (w:=W') (λ i hi=>Nat.lt_of_lt_of_le (O i hi) (Nat.le_trans k.size p.size)) (RVS.below (RVS.below M k) p) B Z n own a D E X;rw[<- f]at this ⊢;exact this
 have s:Hid (_/\_):=BO g j
 obtain⟨P,N⟩:=Xa (dapp d n a)
 have H:Hid (An w.heap.size w W/\Six W w.heap.size (Aa ao L c) (Ab Ak (d.writes:Int)) (Ad d.armed) (Ad d.dead) (Ab Ak (d.after:Int)) (Ab Ak (d.keep:Int))/\Six W (w.heap.size+1) (Aa none 0 0) (Ab Ak 0) (Ad false) (Ad false) (Ab Ak 0) (Ab Ak 0)):=⟨k,T.1,T.2⟩
 rw[N]at s ⊢;obtain⟨x0,x1,x2,x3,x4,x5⟩:=T.1.cells;clear A z hF T k M O N g j f;go_enter func83,ntmps83;go_wp2_with fail
 go_region_held3 (λ u=>u.cell? ⟨w.heap.size,0,none⟩=some (Aa ao L c)/\u.cell? ⟨w.heap.size,1,none⟩=some (Ab Ak (d.writes:Int))/\u.cell? ⟨w.heap.size,2,none⟩=some (Ad d.armed)/\u.cell? ⟨w.heap.size,3,none⟩=some (Ad d.dead)/\u.cell? ⟨w.heap.size,4,none⟩=some (Ab Ak (d.after:Int))/\u.cell? ⟨w.heap.size,5,none⟩=some (Ab Ak (d.keep:Int))) (go_keep)
  (first
   | (go_at_call 134;refine(s.o.2 _ m.o).mono ?_;rintro e F ⟨v',rfl,J,r⟩;have x:Hid (RVS S F v' P.1):=J;obtain⟨a1,t,y,rfl,e1,e2,U,V⟩:=J;have Y:=(H.o.2.2.below m.o).below r;obtain⟨y0,y1,y2,y3,y4,y5⟩:=Y.cells;obtain⟨f0,f1,f2,f3,f4,f5⟩:=Y.thaw;have ab:=((H.o.2.1.below m.o).below r).cells;have I:Hid (An w1.heap.size w1 F):=r;clear r Y U V)
   | (go_at_call 111;refine(s.o.1 W.drew ⟨rfl,rfl,rfl,Nat.le_refl _,λ _ _=>rfl⟩).mono ?_;rintro e w1 ⟨rfl,l⟩;have m:Hid (An W.heap.size W w1):=⟨l.os,l.tape,l.output,l.size,l.block⟩;have aa:=(H.o.2.1.below m.o).cells;clear l))
 have G:An w.heap.size w F:=by
  have b1:=H.o.1.trans (m.o.mono H.o.1.size);exact b1.trans (I.o.mono b1.size)
 have CL:=Zey G (b2:=w.heap.size+1) (by omega) (Aa a1 t y) (Ab Ak (P.1.writes:Int)) (Ad P.1.armed) (Ad P.1.dead) (Ab Ak (P.1.after:Int)) (Ab Ak (P.1.keep:Int));have K:=RVS.laid x.o (w.heap.size+1) (λ q h0=>((H.o.2.2.below m.o).below I.o).not_files (λ _ q=>by cases q) (λ _ q=>by cases q) (λ _ q=>by cases q) (λ _ q=>by cases q) (λ _ q=>by cases q) (λ _ q=>by cases q) q (by omega)) (Aa a1 t y) (Ab Ak (P.1.writes:Int)) (Ad P.1.armed) (Ad P.1.dead) (Ab Ak (P.1.after:Int)) (Ab Ak (P.1.keep:Int));have C:Hid _:=BO K CL;clear G CL K;go_wp2;refine As (v:=Af #[rv a1 t y P.1,Ab Ak P.2]) ?_ rfl ⟨_,rfl,C.o.1,C.o.2⟩;simp[AH,Tryz.f83];go_simp
end
section
variable{S:Nat->Prop}{ao:Option Addr}{L c:Nat}{d:Dk}{w:World}
end
section
variable{S:Nat->Prop}{ao:Option Addr}{L c:Nat}{d:Dk}{w:World}
end
end Go.Proofs.YtlojblelpaegpaaGreat
