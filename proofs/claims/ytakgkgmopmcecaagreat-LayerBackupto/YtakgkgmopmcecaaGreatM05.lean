import Derived.Test.YtakgkgmopmcecaaGreatM04
set_option maxHeartbeats 6400000
set_option maxRecDepth 100000
open Go renaming World->Ap,Value->Ar,heap_alloc_new->Cg,Calls->At,bodyPost_ret->As,results->AI,wpQuiet_nil->AS,maxLen->AH,below_drewN->AY,results_tmp2->AD
open Array renaming getElem?_eq_some_iff->Ba
open Go.RowKit renaming Below->An
open Go.World renaming cell?->Bf,frozen?->Ce
open List renaming take_of_length_le->Av,getElem?_eq_getElem->Aq,drop_succ_cons->FS,getElem?_eq_some_iff->AG,drop_eq_getElem_cons->BT,drop_of_length_le->C4,take_add_one->AW,cons_append->Dh,length_filter_le->CT,length_take->AE,pairwise_iff_getElem->Dr,lt_irrefl->Eb
open Nat renaming le_trans->AU,le_refl->AA,lt_or_ge->Ct
open Go.RowKit.Below renaming refl->Ao,mono->Du
open Go.Op renaming bytesLess->BM
open Go.Value renaming slice->Aa,int->Ab,bool->Ad,string->Ae,tuple->Af,agg->Ag
open Go.Obj renaming cells->Ai
open Go.Ending renaming returned->Aj
open Go.IntKind renaming i64->Ak,u64->Al
open Go.Proofs.Tryz renaming prog->Am
open Go.Proofs.Tryz
namespace Go.Proofs.YtakgkgmopmcecaaGreat
open Go.RowKit
variable {B L b1 b2 c i k:Nat}{S:Nat->Prop}{a w w':Ap}{ao:Option Addr}{d:Dk}{es:List En}{n:Bs}{v:Ar}{x:UInt64}{α:Type}
def kt(w:Ap)(B:Nat)(a0 a1 a2 a3 a4 a5:Ar):Prop:=w.heap[B]? = some (Ai #[a0,a1,a2,a3,a4,a5] 30 (0,0))
section
variable {w w':World}{B:Nat}{a0 a1 a2 a3 a4 a5:Value}
theorem kt.lt(h:kt w B a0 a1 a2 a3 a4 a5):B<w.heap.size:=(Ba.1 h).1
theorem kt.below(h:kt w B a0 a1 a2 a3 a4 a5)(a:Iz w w'):kt w' B a0 a1 a2 a3 a4 a5:=(a.block B h.lt).trans h
theorem kt.cells(h:kt w B a0 a1 a2 a3 a4 a5):w.cell? ⟨B,0,none⟩=some a0/\w.cell? ⟨B,1,none⟩=some a1/\w.cell? ⟨B,2,none⟩=some a2/\w.cell? ⟨B,3,none⟩=some a3/\w.cell? ⟨B,4,none⟩=some a4/\w.cell? ⟨B,5,none⟩=some a5:=by
 unfold kt at h;simp[Bf,h]
theorem kt.thaw(h:kt w B a0 a1 a2 a3 a4 a5):w.frozen? ⟨B,0,none⟩=false/\w.frozen? ⟨B,1,none⟩=false/\w.frozen? ⟨B,2,none⟩=false/\w.frozen? ⟨B,3,none⟩=false/\w.frozen? ⟨B,4,none⟩=false/\w.frozen? ⟨B,5,none⟩=false:=by
 unfold kt at h;simp[Ce,h]
theorem kt.new(w:Ap)(a0 a1 a2 a3 a4 a5:Ar):kt (w.alloc (Ai #[a0,a1,a2,a3,a4,a5] 30)) w.heap.size a0 a1 a2 a3 a4 a5:=Cg w _
end
def lV(S:Nat->Prop)(w:Ap)(v:Ar)(d:Dk):Prop:=∃ao L c,v=rv ao L c d/\d.files.length=L/\L<=c/\gQ iz w ao d.files/\(0<L->∀p,ao=some p->¬S p.block)
theorem Oo{a:Fs}(h:gM iz 267 w' w.heap.size v a):∃ao c,v=Aa ao a.length c/\a.length<=c/\gQ iz w' ao a/\(0<a.length->∀p,ao=some p->w.heap.size<=p.block):=by
 obtain⟨ao,c,e,f,k,i,j⟩:=gM.form h;refine⟨ao,c,e,f,i,λ d p hp=>?_⟩;obtain⟨g,b⟩:=j d;rw[hp]at b;cases b;exact(h.lt g (by rw[e,hp];rfl)).1
theorem My(d:Iz w a)(e:w.heap.size<=b1)(f:w.heap.size<=b2)(u v0 b c v3 v4 v5:Ar):
  Iz w (((((((a.setCell ⟨b1,0,none⟩ u).setCell ⟨b2,0,none⟩ v0).setCell ⟨b2,1,none⟩ b).setCell ⟨b2,2,none⟩ c).setCell ⟨b2,3,none⟩ v3).setCell ⟨b2,4,none⟩ v4).setCell ⟨b2,5,none⟩ v5) /\
  Aw (λ i=>i=b1∨i=b2) a (((((((a.setCell ⟨b1,0,none⟩ u).setCell ⟨b2,0,none⟩ v0).setCell ⟨b2,1,none⟩ b).setCell ⟨b2,2,none⟩ c).setCell ⟨b2,3,none⟩ v3).setCell ⟨b2,4,none⟩ v4).setCell ⟨b2,5,none⟩ v5):=by
 have t:Aw (λ i=>i=b1∨i=b2) a (((((((a.setCell ⟨b1,0,none⟩ u).setCell ⟨b2,0,none⟩ v0).setCell ⟨b2,1,none⟩ b).setCell ⟨b2,2,none⟩ c).setCell ⟨b2,3,none⟩ v3).setCell ⟨b2,4,none⟩ v4).setCell ⟨b2,5,none⟩ v5) :=
  ((((((((Aw.refl (λ i=>i=b1∨i=b2) a).setCell (p:=⟨b1,0,none⟩) (.inl (.inl rfl)) u).setCell (p:=⟨b2,0,none⟩) (.inl (.inr rfl)) v0).setCell (p:=⟨b2,1,none⟩) (.inl (.inr rfl)) b).setCell (p:=⟨b2,2,none⟩) (.inl (.inr rfl)) c).setCell (p:=⟨b2,3,none⟩) (.inl (.inr rfl)) v3).setCell (p:=⟨b2,4,none⟩) (.inl (.inr rfl)) v4).setCell (p:=⟨b2,5,none⟩) (.inl (.inr rfl)) v5)
 exact⟨d.trans (t.below d.size (λ i hi q=>by rcases q with q|q <;> omega)),t⟩
theorem lV.close{c e:Ap}{a3:Option Addr}{M a:Nat}(h:∀i,S i->i<w.heap.size)(l:w.heap.size<=b1)(f:d.files.length=M)(j:M<=a)(g:gQ iz c a3 d.files)(hF:0<M->∀p,a3=some p->b1<p.block)(m:b2<=b1)(k:Aw (λ i=>i=b1∨i=b2) c e):lV S e (rv a3 M a d) d :=
 ⟨a3,M,a,rfl,f,j,g.turned k (λ b p hp q=>by have:=hF (by omega) p hp;rcases q with q|q <;> omega),λ b p hp q=>by have:=hF b p hp;have:=h _ q;omega⟩
section
variable {S:Nat->Prop}{ao:Option Addr}{L c:Nat}{d:Dk}{w:World}
theorem eH(X:∀i,S i->i<w.heap.size)(G:gQ iz w ao d.files)(E:d.files.length=L)(z:d.ok)(hw:d.writes<4611686018427387904)(n own a:Bs)(hn:gS n=true)(ab:n.length<=140737488355328)
  (aa:own.length+a.length<=262144) (g:ip d.files n≠none∨L<32) (y:(ij d).2.1=true) (A:(ij d).2.2=false) :
  At Am 115 #[rv ao L c d,tx n,tx own,tx a] w λ e w'=>∃v',e=Aj (Af #[v',Ab Ak 0])/\lV S w' v' { (ij d).1 with files:=ig d.files n (own++a) }/\Iz w w':=by
 obtain⟨W,J⟩:=Xa ((w.alloc (Ai #[Aa ao L c,Ab Ak (d.writes:Int),Ad d.armed,Ad d.dead,Ab Ak (d.after:Int),Ab Ak (d.keep:Int)] 30)).alloc (Ai #[Aa none 0 0,Ab Ak 0,Ad false,Ad false,Ab Ak 0,Ab Ak 0] 30))
 have C:Iz w W:=by rw[<- J];exact lE _ _ _
 have I:kt W w.heap.size (Aa ao L c) (Ab Ak (d.writes:Int)) (Ad d.armed) (Ad d.dead) (Ab Ak (d.after:Int)) (Ab Ak (d.keep:Int)):=by rw[<- J];exact(kt.new w _ _ _ _ _ _).below (gW _ _)
 have T:kt W (w.heap.size+1) (Aa none 0 0) (Ab Ak 0) (Ad false) (Ad false) (Ab Ak 0) (Ab Ak 0):=by
  rw[<- J];have:=kt.new (w.alloc (Ai #[Aa ao L c,Ab Ak (d.writes:Int),Ad d.armed,Ad d.dead,Ab Ak (d.after:Int),Ab Ak (d.keep:Int)] 30)) (Aa none 0 0) (Ab Ak 0) (Ad false) (Ad false) (Ab Ak 0) (Ab Ak 0);rw[show(w.alloc (Ai #[Aa ao L c,Ab Ak (d.writes:Int),Ad d.armed,Ad d.dead,Ab Ak (d.after:Int),Ab Ak (d.keep:Int)] 30)).heap.size=w.heap.size+1 by simp]at this;exact this
 have k:=Hy ⟨n.toArray⟩ (by rw[Is];omega) W;rw[show(⟨n.toArray⟩:ByteArray).data.toList=n from rfl,hn]at k;obtain⟨x0,x1,x2,x3,x4,x5⟩:=I.cells
 have p1:decide ((262144:Int)<((own.length:Nat):Int)+((a.length:Nat):Int))=false:=by rw[Az];omega
 have ol:own.length<=262144:=by omega
 have ml:a.length<=262144:=by omega
 have u:At Am 152 #[rv ao L c d,tx n] W λ e w'=>∃r,e=Aj (Ab Ak r)/\((0<=r/\r<1000)∨(r = -1/\L<32))/\Iz W w':=by
  cases e:ip d.files n with
  | none =>
   refine(JM (c:=c) d n W (G.below C) E (by have:=z.few;omega) e).mono ?_;rintro _ w' ⟨rfl,K⟩;exact⟨-1,rfl,.inr ⟨rfl,g.elim (λ q=>absurd e q) id⟩,K⟩
  | some v =>
   refine(KN (c:=c) d n W (G.below C) E (by have:=z.few;omega) e).mono ?_;rintro _ w' ⟨i,rfl,hi,_,K⟩;exact⟨i,rfl,.inl ⟨by omega,by have:=z.few;omega⟩,K⟩
 have H:=I7 X G E z C I T
 have Y:L<=32:=by have:=z.few;omega
 clear X G E C I T g;have Z:Hid _:=And.intro y A;clear y A;go_enter func115,ntmps115;go_wp2_with fail;refine k.mono ?_;rintro e w1 ⟨rfl,B⟩;rw[B];clear B w1 k;go_wp2_with fail;refine u.mono ?_;rintro e w1 ⟨r,rfl,hr,N⟩;have b:=Ih N;clear N u x0 x1 x2 x3 x4 x5;obtain⟨x0,x1,x2,x3,x4,x5⟩:=(H.o.2.2.2.2.2.1.below b.o).cells;have l:=Nb (ao:=ao) (L:=L) (c:=c) (w:=w1) H.o.2.2.2.1.after hw;rw[Z.o.1,Z.o.2]at l
 obtain⟨D,V⟩:=Xa ((ij d).1)
 rw[V]at l
 have pp:(decide (r<0)&&decide ((32:Int)<=(L:Int)))=false:=by
  rcases hr with⟨r0,r1⟩ | ⟨rfl,rL⟩
  rw[Dd (p:=r<0) (by omega)];rfl;rw[Dd (p:=(32:Int)<=(L:Int)) (by omega)];simp
 rcases hr with⟨r0,r1⟩ | ⟨rfl,rL⟩
 all_goals
  first
   | have p2:decide (r<0)=false:=by rw[Az];omega
   | have p2:decide ((32:Int)<=(L:Int))=false:=by rw[Az];omega
  go_wp2_with fail;refine l.mono ?_;rintro e h ⟨rfl,O⟩;have f:=Ih O;clear O;go_wp2_with fail
 all_goals
  have m:=NY (ao:=ao) (L:=L) (c:=c) d.files n (own++a) (h.alloc (Ai #[Aa ao L c,Ab Ak (D.writes:Int),Ad D.armed,Ad D.dead,Ab Ak (D.after:Int),Ab Ak (D.keep:Int)] 30)) ((((H.o.2.1.below H.o.2.2.2.2.1).below b.o).below f.o).below (gW _ _)) H.o.2.2.1 (by omega) H.o.2.2.2.1.rise;rw[<- OL]at m;refine m.mono ?_;rintro e w3 ⟨v3,rfl,Q,s⟩;obtain⟨y0,y1,y2,y3,y4,y5⟩:=((((H.o.2.2.2.2.2.2.below b.o).below f.o).below (gW _ _)).below s).cells;obtain⟨f0,f1,f2,f3,f4,f5⟩:=((((H.o.2.2.2.2.2.2.below b.o).below f.o).below (gW _ _)).below s).thaw;obtain⟨z0,z1,z2,z3,z4,z5⟩:=((kt.new h (Aa ao L c) (Ab Ak (D.writes:Int)) (Ad D.armed) (Ad D.dead) (Ab Ak (D.after:Int)) (Ab Ak (D.keep:Int))).below s).cells;have g0:=((kt.new h (Aa ao L c) (Ab Ak (D.writes:Int)) (Ad D.armed) (Ad D.dead) (Ab Ak (D.after:Int)) (Ab Ak (D.keep:Int))).below s).thaw.1;have s2:w.heap.size+1<h.heap.size:=((H.o.2.2.2.2.2.2.below b.o).below f.o).lt
  have ne:h.heap.size≠w.heap.size+1:=by omega
  have ac:w.heap.size+1≠h.heap.size:=by omega
  obtain⟨a3,t,rfl,x,R,P⟩:=Oo Q
  have j:Hid ((ig d.files n (own++a)).length<=t/\gQ iz w3 a3 (ig d.files n (own++a))/\(0<(ig d.files n (own++a)).length->∀p,a3=some p->h.heap.size<p.block)/\Iz w w3):=⟨x,R,λ h0 p hp=>by have:=P h0 p hp;simp at this;omega,by
   have b1:=H.o.2.2.2.2.1.trans (b.o.mono H.o.2.2.2.2.1.size);have b2:=b1.trans (f.o.mono b1.size);have U:=b2.trans ((gW h (Ai #[Aa ao L c,Ab Ak (D.writes:Int),Ad D.armed,Ad D.dead,Ab Ak (D.after:Int),Ab Ak (D.keep:Int)] 30)).mono b2.size)
   exact U.trans (s.mono U.size)⟩
  obtain⟨M,F⟩:=Xa ((ig d.files n (own++a)).length);rw[F];clear x R P;clear Q s m;go_wp2
 all_goals
  have CL:=My j.o.2.2.2 (b1:=h.heap.size) (b2:=w.heap.size+1) (by omega) (by omega) (Aa a3 M t) (Aa a3 M t) (Ab Ak (D.writes:Int)) (Ad D.armed) (Ad D.dead) (Ab Ak (D.after:Int)) (Ab Ak (D.keep:Int));have RR:lV S _ (rv a3 M t { D with files:=ig d.files n (own++a) }) { D with files:=ig d.files n (own++a) }:=lV.close H.o.1 (by omega) F (by have:=j.o.1;rw[F]at this;exact this) j.o.2.1 (by rw[<- F];exact j.o.2.2.1) (by omega) CL.2;rw[V];refine As (v:=Af #[rv a3 M t { D with files:=ig d.files n (own++a) },Ab Ak 0]) ?_ rfl ⟨_,rfl,RR,CL.1⟩;simp[AI,Tryz.f115];go_simp
theorem dX(hS:∀i,S i->i<w.heap.size)(N:gQ iz w ao d.files)(I:d.files.length=L)(A:d.ok)(hw:d.writes<4611686018427387904)(n own a:Bs)(hn:gS n=true)(ac:n.length<=140737488355328)
  (ab:own.length+a.length<=262144) (g:ip d.files n≠none∨L<32) (z:(ij d).2.1=false) (C:(ij d).2.2=true) (U:d.keep<a.length) :
  At Am 115 #[rv ao L c d,tx n,tx own,tx a] w λ e w'=>∃v',e=Aj (Af #[v',Ab Ak 8])/\lV S w' v' { (ij d).1 with files:=ig d.files n (own++a.take d.keep) }/\Iz w w':=by
 obtain⟨W,Q⟩:=Xa ((w.alloc (Ai #[Aa ao L c,Ab Ak (d.writes:Int),Ad d.armed,Ad d.dead,Ab Ak (d.after:Int),Ab Ak (d.keep:Int)] 30)).alloc (Ai #[Aa none 0 0,Ab Ak 0,Ad false,Ad false,Ab Ak 0,Ab Ak 0] 30))
 have F:Iz w W:=by rw[<- Q];exact lE _ _ _
 have P:kt W w.heap.size (Aa ao L c) (Ab Ak (d.writes:Int)) (Ad d.armed) (Ad d.dead) (Ab Ak (d.after:Int)) (Ab Ak (d.keep:Int)):=by rw[<- Q];exact(kt.new w _ _ _ _ _ _).below (gW _ _)
 have Y0:kt W (w.heap.size+1) (Aa none 0 0) (Ab Ak 0) (Ad false) (Ad false) (Ab Ak 0) (Ab Ak 0):=by
  rw[<- Q];have:=kt.new (w.alloc (Ai #[Aa ao L c,Ab Ak (d.writes:Int),Ad d.armed,Ad d.dead,Ab Ak (d.after:Int),Ab Ak (d.keep:Int)] 30)) (Aa none 0 0) (Ab Ak 0) (Ad false) (Ad false) (Ab Ak 0) (Ab Ak 0);rw[show(w.alloc (Ai #[Aa ao L c,Ab Ak (d.writes:Int),Ad d.armed,Ad d.dead,Ab Ak (d.after:Int),Ab Ak (d.keep:Int)] 30)).heap.size=w.heap.size+1 by simp]at this;exact this
 have m:=Hy ⟨n.toArray⟩ (by rw[Is];omega) W;rw[show(⟨n.toArray⟩:ByteArray).data.toList=n from rfl,hn]at m;obtain⟨x0,x1,x2,x3,x4,x5⟩:=P.cells
 have p1:decide ((262144:Int)<((own.length:Nat):Int)+((a.length:Nat):Int))=false:=by rw[Az];omega
 have ol:own.length<=262144:=by omega
 have ml:a.length<=262144:=by omega
 have x:At Am 152 #[rv ao L c d,tx n] W λ e w'=>∃r,e=Aj (Ab Ak r)/\((0<=r/\r<1000)∨(r = -1/\L<32))/\Iz W w':=by
  cases e:ip d.files n with
  | none =>
   refine(JM (c:=c) d n W (N.below F) I (by have:=A.few;omega) e).mono ?_;rintro _ w' ⟨rfl,R⟩;exact⟨-1,rfl,.inr ⟨rfl,g.elim (λ q=>absurd e q) id⟩,R⟩
  | some v =>
   refine(KN (c:=c) d n W (N.below F) I (by have:=A.few;omega) e).mono ?_;rintro _ w' ⟨i,rfl,hi,_,R⟩;exact⟨i,rfl,.inl ⟨by omega,by have:=A.few;omega⟩,R⟩
 have H:=I7 hS N I A F P Y0
 have aa:L<=32:=by have:=A.few;omega
 clear hS N I F P Y0 g;have Z:Hid _:=And.intro z C;clear z C
 obtain⟨K,G⟩:=Xa d.keep
 obtain⟨j,B⟩:=Xa (a.take d.keep)
 rw[G]at U
 have MR:Hid (a.take K=j):=by rw[<- G];exact B
 have O:=Ih G;clear G B;go_enter func115,ntmps115;go_wp2_with fail;refine m.mono ?_;rintro e w1 ⟨rfl,E⟩;rw[E];clear E w1 m;go_wp2_with fail;refine x.mono ?_;rintro e w1 ⟨r,rfl,hr,Y⟩;have b:=Ih Y;clear Y x x0 x1 x2 x3 x4 x5;obtain⟨x0,x1,x2,x3,x4,x5⟩:=(H.o.2.2.2.2.2.1.below b.o).cells;have s:=Nb (ao:=ao) (L:=L) (c:=c) (w:=w1) H.o.2.2.2.1.after hw;rw[Z.o.1,Z.o.2]at s
 obtain⟨D,hD⟩:=Xa ((ij d).1)
 rw[hD]at s
 have pp:(decide (r<0)&&decide ((32:Int)<=(L:Int)))=false:=by
  rcases hr with⟨r0,r1⟩ | ⟨rfl,rL⟩
  rw[Dd (p:=r<0) (by omega)];rfl;rw[Dd (p:=(32:Int)<=(L:Int)) (by omega)];simp
 rcases hr with⟨r0,r1⟩ | ⟨rfl,rL⟩
 all_goals
  first
   | have p2:decide (r<0)=false:=by rw[Az];omega
   | have p2:decide ((32:Int)<=(L:Int))=false:=by rw[Az];omega
  go_wp2_with fail;refine s.mono ?_;rintro e h ⟨rfl,B2⟩;have f:=Ih B2;clear B2;have V:=(H.o.2.2.2.2.2.1.below b.o |>.below f.o).cells.2.2.2.2.2;rw[O.o]at V;have X:=(((H.o.2.2.2.2.2.1.below b.o).below f.o).below (gW h (Ai #[Aa ao L c,Ab Ak (D.writes:Int),Ad D.armed,Ad D.dead,Ab Ak (D.after:Int),Ab Ak (D.keep:Int)] 30))).cells.2.2.2.2.2;rw[O.o]at X
  have p3:decide ((K:Int)<((a.length:Nat):Int))=true:=by rw[A9];omega
  go_wp2_with fail;have l:=NY (ao:=ao) (L:=L) (c:=c) d.files n (own++j) (h.alloc (Ai #[Aa ao L c,Ab Ak (D.writes:Int),Ad D.armed,Ad D.dead,Ab Ak (D.after:Int),Ab Ak (D.keep:Int)] 30)) ((((H.o.2.1.below H.o.2.2.2.2.1).below b.o).below f.o).below (gW _ _)) H.o.2.2.1 (by omega) H.o.2.2.2.1.rise;rw[<- OL]at l
  have T:(⟨j.toArray⟩:ByteArray)=(⟨a.toArray⟩:ByteArray).extract 0 K:=by rw[JT,<- MR.o]
  rw[T]at l;refine l.mono ?_;rintro e w3 ⟨v3,rfl,O3,t⟩;obtain⟨y0,y1,y2,y3,y4,y5⟩:=((((H.o.2.2.2.2.2.2.below b.o).below f.o).below (gW _ _)).below t).cells;obtain⟨f0,f1,f2,f3,f4,f5⟩:=((((H.o.2.2.2.2.2.2.below b.o).below f.o).below (gW _ _)).below t).thaw;obtain⟨z0,z1,z2,z3,z4,z5⟩:=((kt.new h (Aa ao L c) (Ab Ak (D.writes:Int)) (Ad D.armed) (Ad D.dead) (Ab Ak (D.after:Int)) (Ab Ak (D.keep:Int))).below t).cells;have g0:=((kt.new h (Aa ao L c) (Ab Ak (D.writes:Int)) (Ad D.armed) (Ad D.dead) (Ab Ak (D.after:Int)) (Ab Ak (D.keep:Int))).below t).thaw.1;have s2:w.heap.size+1<h.heap.size:=((H.o.2.2.2.2.2.2.below b.o).below f.o).lt
  have ne:h.heap.size≠w.heap.size+1:=by omega
  have ad:w.heap.size+1≠h.heap.size:=by omega
  obtain⟨a3,u,rfl,y,R3,F3⟩:=Oo O3
  have k:Hid ((ig d.files n (own++j)).length<=u/\gQ iz w3 a3 (ig d.files n (own++j))/\(0<(ig d.files n (own++j)).length->∀p,a3=some p->h.heap.size<p.block)/\Iz w w3):=⟨y,R3,λ h0 p hp=>by have:=F3 h0 p hp;simp at this;omega,by
   have b1:=H.o.2.2.2.2.1.trans (b.o.mono H.o.2.2.2.2.1.size);have b2:=b1.trans (f.o.mono b1.size);have b3:=b2.trans ((gW h (Ai #[Aa ao L c,Ab Ak (D.writes:Int),Ad D.armed,Ad D.dead,Ab Ak (D.after:Int),Ab Ak (D.keep:Int)] 30)).mono b2.size)
   exact b3.trans (t.mono b3.size)⟩
  obtain⟨M,J⟩:=Xa ((ig d.files n (own++j)).length);rw[J];clear y R3 F3;clear O3 t l;go_wp2;have CL:=My k.o.2.2.2 (b1:=h.heap.size) (b2:=w.heap.size+1) (by omega) (by omega) (Aa a3 M u) (Aa a3 M u) (Ab Ak (D.writes:Int)) (Ad D.armed) (Ad D.dead) (Ab Ak (D.after:Int)) (Ab Ak (D.keep:Int));have RR:lV S _ (rv a3 M u { D with files:=ig d.files n (own++j) }) { D with files:=ig d.files n (own++j) }:=lV.close H.o.1 (by omega) J (by have:=k.o.1;rw[J]at this;exact this) k.o.2.1 (by rw[<- J];exact k.o.2.2.1) (by omega) CL.2;rw[hD,O.o,MR.o];refine As (v:=Af #[rv a3 M u { D with files:=ig d.files n (own++j) },Ab Ak 8]) ?_ rfl ⟨_,rfl,RR,CL.1⟩;simp[AI,Tryz.f115];go_simp
theorem UT(hS:∀i,S i->i<w.heap.size)(N:gQ iz w ao d.files)(I:d.files.length=L)(A:d.ok)(hw:d.writes<4611686018427387904)(n own a:Bs)(hn:gS n=true)(ac:n.length<=140737488355328)
  (ab:own.length+a.length<=262144) (g:ip d.files n≠none∨L<32) (z:(ij d).2.1=false) (C:(ij d).2.2=true) (U:a.length<=d.keep) :
  At Am 115 #[rv ao L c d,tx n,tx own,tx a] w λ e w'=>∃v',e=Aj (Af #[v',Ab Ak 8])/\lV S w' v' { (ij d).1 with files:=ig d.files n (own++a.take d.keep) }/\Iz w w':=by
 obtain⟨W,Q⟩:=Xa ((w.alloc (Ai #[Aa ao L c,Ab Ak (d.writes:Int),Ad d.armed,Ad d.dead,Ab Ak (d.after:Int),Ab Ak (d.keep:Int)] 30)).alloc (Ai #[Aa none 0 0,Ab Ak 0,Ad false,Ad false,Ab Ak 0,Ab Ak 0] 30))
 have F:Iz w W:=by rw[<- Q];exact lE _ _ _
 have P:kt W w.heap.size (Aa ao L c) (Ab Ak (d.writes:Int)) (Ad d.armed) (Ad d.dead) (Ab Ak (d.after:Int)) (Ab Ak (d.keep:Int)):=by rw[<- Q];exact(kt.new w _ _ _ _ _ _).below (gW _ _)
 have Y0:kt W (w.heap.size+1) (Aa none 0 0) (Ab Ak 0) (Ad false) (Ad false) (Ab Ak 0) (Ab Ak 0):=by
  rw[<- Q];have:=kt.new (w.alloc (Ai #[Aa ao L c,Ab Ak (d.writes:Int),Ad d.armed,Ad d.dead,Ab Ak (d.after:Int),Ab Ak (d.keep:Int)] 30)) (Aa none 0 0) (Ab Ak 0) (Ad false) (Ad false) (Ab Ak 0) (Ab Ak 0);rw[show(w.alloc (Ai #[Aa ao L c,Ab Ak (d.writes:Int),Ad d.armed,Ad d.dead,Ab Ak (d.after:Int),Ab Ak (d.keep:Int)] 30)).heap.size=w.heap.size+1 by simp]at this;exact this
 have m:=Hy ⟨n.toArray⟩ (by rw[Is];omega) W;rw[show(⟨n.toArray⟩:ByteArray).data.toList=n from rfl,hn]at m;obtain⟨x0,x1,x2,x3,x4,x5⟩:=P.cells
 have p1:decide ((262144:Int)<((own.length:Nat):Int)+((a.length:Nat):Int))=false:=by rw[Az];omega
 have ol:own.length<=262144:=by omega
 have ml:a.length<=262144:=by omega
 have x:At Am 152 #[rv ao L c d,tx n] W λ e w'=>∃r,e=Aj (Ab Ak r)/\((0<=r/\r<1000)∨(r = -1/\L<32))/\Iz W w':=by
  cases e:ip d.files n with
  | none =>
   refine(JM (c:=c) d n W (N.below F) I (by have:=A.few;omega) e).mono ?_;rintro _ w' ⟨rfl,R⟩;exact⟨-1,rfl,.inr ⟨rfl,g.elim (λ q=>absurd e q) id⟩,R⟩
  | some v =>
   refine(KN (c:=c) d n W (N.below F) I (by have:=A.few;omega) e).mono ?_;rintro _ w' ⟨i,rfl,hi,_,R⟩;exact⟨i,rfl,.inl ⟨by omega,by have:=A.few;omega⟩,R⟩
 have H:=I7 hS N I A F P Y0
 have aa:L<=32:=by have:=A.few;omega
 clear hS N I F P Y0 g;have Z:Hid _:=And.intro z C;clear z C
 obtain⟨K,G⟩:=Xa d.keep
 obtain⟨j,B⟩:=Xa (a.take d.keep)
 rw[G]at U
 have MR:Hid (a.take K=j):=by rw[<- G];exact B
 have O:=Ih G;clear G B;go_enter func115,ntmps115;go_wp2_with fail;refine m.mono ?_;rintro e w1 ⟨rfl,E⟩;rw[E];clear E w1 m;go_wp2_with fail;refine x.mono ?_;rintro e w1 ⟨r,rfl,hr,Y⟩;have b:=Ih Y;clear Y x x0 x1 x2 x3 x4 x5;obtain⟨x0,x1,x2,x3,x4,x5⟩:=(H.o.2.2.2.2.2.1.below b.o).cells;have s:=Nb (ao:=ao) (L:=L) (c:=c) (w:=w1) H.o.2.2.2.1.after hw;rw[Z.o.1,Z.o.2]at s
 obtain⟨D,hD⟩:=Xa ((ij d).1)
 rw[hD]at s
 have pp:(decide (r<0)&&decide ((32:Int)<=(L:Int)))=false:=by
  rcases hr with⟨r0,r1⟩ | ⟨rfl,rL⟩
  rw[Dd (p:=r<0) (by omega)];rfl;rw[Dd (p:=(32:Int)<=(L:Int)) (by omega)];simp
 rcases hr with⟨r0,r1⟩ | ⟨rfl,rL⟩
 all_goals
  first
   | have p2:decide (r<0)=false:=by rw[Az];omega
   | have p2:decide ((32:Int)<=(L:Int))=false:=by rw[Az];omega
  go_wp2_with fail;refine s.mono ?_;rintro e h ⟨rfl,B2⟩;have f:=Ih B2;clear B2;have V:=(H.o.2.2.2.2.2.1.below b.o |>.below f.o).cells.2.2.2.2.2;rw[O.o]at V;have X:=(((H.o.2.2.2.2.2.1.below b.o).below f.o).below (gW h (Ai #[Aa ao L c,Ab Ak (D.writes:Int),Ad D.armed,Ad D.dead,Ab Ak (D.after:Int),Ab Ak (D.keep:Int)] 30))).cells.2.2.2.2.2;rw[O.o]at X
  have p3:decide ((K:Int)<((a.length:Nat):Int))=false:=by rw[Az];omega
  go_wp2_with fail;have l:=NY (ao:=ao) (L:=L) (c:=c) d.files n (own++j) (h.alloc (Ai #[Aa ao L c,Ab Ak (D.writes:Int),Ad D.armed,Ad D.dead,Ab Ak (D.after:Int),Ab Ak (D.keep:Int)] 30)) ((((H.o.2.1.below H.o.2.2.2.2.1).below b.o).below f.o).below (gW _ _)) H.o.2.2.1 (by omega) H.o.2.2.2.1.rise;rw[<- OL]at l
  have T:(⟨j.toArray⟩:ByteArray)=(⟨a.toArray⟩:ByteArray):=by rw[<- MR.o,Av (by omega)]
  rw[T]at l;refine l.mono ?_;rintro e w3 ⟨v3,rfl,O3,t⟩;obtain⟨y0,y1,y2,y3,y4,y5⟩:=((((H.o.2.2.2.2.2.2.below b.o).below f.o).below (gW _ _)).below t).cells;obtain⟨f0,f1,f2,f3,f4,f5⟩:=((((H.o.2.2.2.2.2.2.below b.o).below f.o).below (gW _ _)).below t).thaw;obtain⟨z0,z1,z2,z3,z4,z5⟩:=((kt.new h (Aa ao L c) (Ab Ak (D.writes:Int)) (Ad D.armed) (Ad D.dead) (Ab Ak (D.after:Int)) (Ab Ak (D.keep:Int))).below t).cells;have g0:=((kt.new h (Aa ao L c) (Ab Ak (D.writes:Int)) (Ad D.armed) (Ad D.dead) (Ab Ak (D.after:Int)) (Ab Ak (D.keep:Int))).below t).thaw.1;have s2:w.heap.size+1<h.heap.size:=((H.o.2.2.2.2.2.2.below b.o).below f.o).lt
  have ne:h.heap.size≠w.heap.size+1:=by omega
  have ad:w.heap.size+1≠h.heap.size:=by omega
  obtain⟨a3,u,rfl,y,R3,F3⟩:=Oo O3
  have k:Hid ((ig d.files n (own++j)).length<=u/\gQ iz w3 a3 (ig d.files n (own++j))/\(0<(ig d.files n (own++j)).length->∀p,a3=some p->h.heap.size<p.block)/\Iz w w3):=⟨y,R3,λ h0 p hp=>by have:=F3 h0 p hp;simp at this;omega,by
   have b1:=H.o.2.2.2.2.1.trans (b.o.mono H.o.2.2.2.2.1.size);have b2:=b1.trans (f.o.mono b1.size);have b3:=b2.trans ((gW h (Ai #[Aa ao L c,Ab Ak (D.writes:Int),Ad D.armed,Ad D.dead,Ab Ak (D.after:Int),Ab Ak (D.keep:Int)] 30)).mono b2.size)
   exact b3.trans (t.mono b3.size)⟩
  obtain⟨M,J⟩:=Xa ((ig d.files n (own++j)).length);rw[J];clear y R3 F3;clear O3 t l;go_wp2;have CL:=My k.o.2.2.2 (b1:=h.heap.size) (b2:=w.heap.size+1) (by omega) (by omega) (Aa a3 M u) (Aa a3 M u) (Ab Ak (D.writes:Int)) (Ad D.armed) (Ad D.dead) (Ab Ak (D.after:Int)) (Ab Ak (D.keep:Int));have RR:lV S _ (rv a3 M u { D with files:=ig d.files n (own++j) }) { D with files:=ig d.files n (own++j) }:=lV.close H.o.1 (by omega) J (by have:=k.o.1;rw[J]at this;exact this) k.o.2.1 (by rw[<- J];exact k.o.2.2.1) (by omega) CL.2;rw[hD,O.o,MR.o];refine As (v:=Af #[rv a3 M u { D with files:=ig d.files n (own++j) },Ab Ak 8]) ?_ rfl ⟨_,rfl,RR,CL.1⟩;simp[AI,Tryz.f115];go_simp
end
theorem Oq(d:Iz w a)(e:w.heap.size<=b2)(v0 b c v3 v4 v5:Ar):
  Iz w ((((((a.setCell ⟨b2,0,none⟩ v0).setCell ⟨b2,1,none⟩ b).setCell ⟨b2,2,none⟩ c).setCell ⟨b2,3,none⟩ v3).setCell ⟨b2,4,none⟩ v4).setCell ⟨b2,5,none⟩ v5):=by
 have t:Aw (λ i=>i=b2) a ((((((a.setCell ⟨b2,0,none⟩ v0).setCell ⟨b2,1,none⟩ b).setCell ⟨b2,2,none⟩ c).setCell ⟨b2,3,none⟩ v3).setCell ⟨b2,4,none⟩ v4).setCell ⟨b2,5,none⟩ v5) :=
  (((((((Aw.refl (λ i=>i=b2) a).setCell (p:=⟨b2,0,none⟩) (.inl rfl) v0).setCell (p:=⟨b2,1,none⟩) (.inl rfl) b).setCell (p:=⟨b2,2,none⟩) (.inl rfl) c).setCell (p:=⟨b2,3,none⟩) (.inl rfl) v3).setCell (p:=⟨b2,4,none⟩) (.inl rfl) v4).setCell (p:=⟨b2,5,none⟩) (.inl rfl) v5)
 exact d.trans (t.below d.size (λ i hi q=>by omega))
theorem lV.below(h:lV S w v d)(i:Iz w w'):lV S w' v d:=by
 obtain⟨ao,L,c,e,a,b,f,g⟩:=h;exact⟨ao,L,c,e,a,b,f.below i,g⟩
section
variable {S:Nat->Prop}{ao:Option Addr}{L c:Nat}{d:Dk}{w:World}
theorem YY(n own f:Bs)(g:gS n=false)(h:n.length<=140737488355328):
  At Am 115 #[rv ao L c d,tx n,tx own,tx f] w λ e w'=>e=Aj (Af #[rv ao L c d,Ab Ak 2])/\Iz w w':=by
 have a:=λ W=>Hy ⟨n.toArray⟩ (by rw[Is];omega) W
 rw[show(⟨n.toArray⟩:ByteArray).data.toList=n from rfl,g]at a;unfold rv;go_enter func115,ntmps115;go_wp2_with fail;refine(a _).mono ?_;rintro e w1 ⟨rfl,b⟩;rw[b];clear b w1 a;go_wp2;refine As (v:=Af #[Ag #[Aa ao L c,Ab Ak (d.writes:Int),Ad d.armed,Ad d.dead,Ab Ak (d.after:Int),Ab Ak (d.keep:Int)],Ab Ak 2]) ?_ rfl ⟨rfl,lE _ _ _⟩;simp[AI,Tryz.f115];go_simp
theorem Vq(n own a:Bs)(h:gS n=true)(i:n.length<=140737488355328)(k:own.length<=262144)(j:a.length<=140737488355328)(g:262144<own.length+a.length):
  At Am 115 #[rv ao L c d,tx n,tx own,tx a] w λ e w'=>e=Aj (Af #[rv ao L c d,Ab Ak 7])/\Iz w w':=by
 have b:=λ W=>Hy ⟨n.toArray⟩ (by rw[Is];omega) W
 rw[show(⟨n.toArray⟩:ByteArray).data.toList=n from rfl,h]at b
 have l:decide ((262144:Int)<((own.length:Nat):Int)+((a.length:Nat):Int))=true:=by rw[A9];omega
 unfold rv;go_enter func115,ntmps115;go_wp2_with fail;refine(b _).mono ?_;rintro e w1 ⟨rfl,f⟩;rw[f];clear f w1 b;go_wp2;refine As (v:=Af #[Ag #[Aa ao L c,Ab Ak (d.writes:Int),Ad d.armed,Ad d.dead,Ab Ak (d.after:Int),Ab Ak (d.keep:Int)],Ab Ak 7]) ?_ rfl ⟨rfl,lE _ _ _⟩;simp[AI,Tryz.f115];go_simp
theorem Oh(w:Ap)(a0 a1 a2 a3 a4 a5 a b1 b2 b b4 c:Ar):kt ((w.alloc (Ai #[a0,a1,a2,a3,a4,a5] 30)).alloc (Ai #[a,b1,b2,b,b4,c] 30)) w.heap.size a0 a1 a2 a3 a4 a5/\kt ((w.alloc (Ai #[a0,a1,a2,a3,a4,a5] 30)).alloc (Ai #[a,b1,b2,b,b4,c] 30)) (w.heap.size+1) a b1 b2 b b4 c:=by
 refine⟨(kt.new w _ _ _ _ _ _).below (gW _ _),?_⟩;have:=kt.new (w.alloc (Ai #[a0,a1,a2,a3,a4,a5] 30)) a b1 b2 b b4 c;rw[show(w.alloc (Ai #[a0,a1,a2,a3,a4,a5] 30)).heap.size=w.heap.size+1 by simp]at this;exact this
theorem X4(k:gQ iz w ao d.files)(j:d.files.length=L)(A:L<=1000)(n own a:Bs)(B:gS n=true)(C:n.length<=140737488355328)(p:own.length+a.length<=262144)(m:ip d.files n=none)(z:32<=L):
  At Am 115 #[rv ao L c d,tx n,tx own,tx a] w λ e w'=>e=Aj (Af #[rv ao L c d,Ab Ak 7])/\Iz w w':=by
 have b:=λ W=>Hy ⟨n.toArray⟩ (by rw[Is];omega) W
 rw[show(⟨n.toArray⟩:ByteArray).data.toList=n from rfl,B]at b
 have M:decide ((262144:Int)<((own.length:Nat):Int)+((a.length:Nat):Int))=false:=by rw[Az];omega
 have N:decide ((32:Int)<=(L:Int))=true:=by rw[A9];omega
 have K:own.length<=262144:=by omega
 have J:a.length<=262144:=by omega
 obtain⟨W,l⟩:=Xa ((w.alloc (Ai #[Aa ao L c,Ab Ak (d.writes:Int),Ad d.armed,Ad d.dead,Ab Ak (d.after:Int),Ab Ak (d.keep:Int)] 30)).alloc (Ai #[Aa none 0 0,Ab Ak 0,Ad false,Ad false,Ab Ak 0,Ab Ak 0] 30))
 have T:=Oh w (Aa ao L c) (Ab Ak (d.writes:Int)) (Ad d.armed) (Ad d.dead) (Ab Ak (d.after:Int)) (Ab Ak (d.keep:Int)) (Aa none 0 0) (Ab Ak 0) (Ad false) (Ad false) (Ab Ak 0) (Ab Ak 0);rw[l]at T
 have i:Iz w W:=by rw[<- l];exact lE _ _ _
 have g:=JM (c:=c) d n W (k.below i) j A m
 obtain⟨q,r,s,t,u,x⟩:=T.1.cells
 have H:=I3 i T.1 T.2
 clear k j m T i;go_enter func115,ntmps115;go_wp2_with fail;refine(b _).mono ?_;rintro e w1 ⟨rfl,h⟩;rw[h];clear h w1 b;go_wp2_with fail;refine g.mono ?_;rintro e w1 ⟨rfl,f⟩;clear q r s t u x;obtain⟨q,r,s,t,u,x⟩:=(H.o.2.1.below f).cells;obtain⟨O,P,Q,R,S,U⟩:=(H.o.2.2.below f).cells;obtain⟨D,E,f2,F,G,I⟩:=(H.o.2.2.below f).thaw;have y:=Ih (H.o.1.trans (f.mono H.o.1.size));clear f g;go_wp2;refine As (v:=Af #[rv ao L c d,Ab Ak 7]) ?_ rfl ⟨rfl,Oq y.o (by omega) _ _ _ _ _ _⟩;simp[AI,Tryz.f115];go_simp
theorem Vv(t:gQ iz w ao d.files)(s:d.files.length=L)(z:L<=1000)(n own a:Bs)(J:gS n=true)(K:n.length<=140737488355328)(A:own.length+a.length<=262144)(b:ip d.files n≠none∨L<32)(hd:d.dead=true):
  At Am 115 #[rv ao L c d,tx n,tx own,tx a] w λ e w'=>e=Aj (Af #[rv ao L c d,Ab Ak 8])/\Iz w w':=by
 have g:=λ W=>Hy ⟨n.toArray⟩ (by rw[Is];omega) W
 rw[show(⟨n.toArray⟩:ByteArray).data.toList=n from rfl,J]at g
 have p1:decide ((262144:Int)<((own.length:Nat):Int)+((a.length:Nat):Int))=false:=by rw[Az];omega
 have Z:own.length<=262144:=by omega
 have X:a.length<=262144:=by omega
 obtain⟨W,y⟩:=Xa ((w.alloc (Ai #[Aa ao L c,Ab Ak (d.writes:Int),Ad d.armed,Ad d.dead,Ab Ak (d.after:Int),Ab Ak (d.keep:Int)] 30)).alloc (Ai #[Aa none 0 0,Ab Ak 0,Ad false,Ad false,Ab Ak 0,Ab Ak 0] 30))
 have T:=Oh w (Aa ao L c) (Ab Ak (d.writes:Int)) (Ad d.armed) (Ad d.dead) (Ab Ak (d.after:Int)) (Ab Ak (d.keep:Int)) (Aa none 0 0) (Ab Ak 0) (Ad false) (Ad false) (Ab Ak 0) (Ab Ak 0);rw[y]at T
 have k:Iz w W:=by rw[<- y];exact lE _ _ _
 have h:At Am 152 #[rv ao L c d,tx n] W λ e w'=>∃r,e=Aj (Ab Ak r)/\((0<=r/\r<1000)∨(r = -1/\L<32))/\Iz W w':=by
  cases e:ip d.files n with
  | none =>
   refine(JM (c:=c) d n W (t.below k) s z e).mono ?_;rintro _ w' ⟨rfl,u⟩;exact⟨-1,rfl,.inr ⟨rfl,b.elim (λ q=>absurd e q) id⟩,u⟩
  | some v =>
   refine(KN (c:=c) d n W (t.below k) s z e).mono ?_;rintro _ w' ⟨i,rfl,hi,_,u⟩;exact⟨i,rfl,.inl ⟨by omega,by omega⟩,u⟩
 obtain⟨B,C,D,E,F,G⟩:=T.1.cells
 have H:=I3 k T.1 T.2
 have x:=λ w1=>Qg (ao:=ao) (L:=L) (c:=c) (w:=w1) hd
 have P:=Ih hd;clear t s b T k hd;go_enter func115,ntmps115;go_wp2_with fail;refine(g _).mono ?_;rintro e w1 ⟨rfl,j⟩;rw[j];clear j w1 g;go_wp2_with fail;refine h.mono ?_;rintro e w1 ⟨r,rfl,M,p⟩;clear B C D E F G;obtain⟨B,C,D,E,F,G⟩:=(H.o.2.1.below p).cells;have f:=Ih p;clear p h
 rcases M with⟨r0,r1⟩ | ⟨rfl,rL⟩
 all_goals
  first
   | have O:decide (r<0)=false:=by rw[Az];omega
   | have O:decide ((32:Int)<=(L:Int))=false:=by rw[Az];omega
  go_wp2_with fail;refine(x w1).mono ?_;rintro e m ⟨rfl,l⟩;have Y:=(H.o.2.2.below f.o).below l;obtain⟨y0,y1,y2,y3,y4,y5⟩:=Y.cells;obtain⟨Q,R,f2,S,U,V⟩:=Y.thaw;have s2:w.heap.size+1<m.heap.size:=((H.o.2.2.below f.o).below l).lt
  have ne:m.heap.size≠w.heap.size+1:=by omega
  have N:w.heap.size+1≠m.heap.size:=by omega
  have I:Hid (Iz w m):=by
   have b1:=H.o.1.trans (f.o.mono H.o.1.size);exact b1.trans (l.mono b1.size)
  clear l Y;go_wp2;have CL:=Oq I.o (b2:=w.heap.size+1) (by omega) (Aa ao L c) (Ab Ak (d.writes:Int)) (Ad d.armed) (Ad d.dead) (Ab Ak (d.after:Int)) (Ab Ak (d.keep:Int));refine As (v:=Af #[rv ao L c d,Ab Ak 8]) ?_ rfl ⟨rfl,CL.trans ((gW _ _).mono CL.size)⟩;simp[AI,Tryz.f115];go_simp
theorem T8(y:∀i,S i->i<w.heap.size)(h:lV S w v d)(t:d.ok)(B:d.writes<4611686018427387904)(n own a:Bs)(g:n.length<=140737488355328)(G:own.length<=262144)(F:a.length<=140737488355328):
  At Am 115 #[v,tx n,tx own,tx a] w λ e w'=>∃v',e=Aj (Af #[v',Ab Ak (mz d n own a).2])/\lV S w' v' (mz d n own a).1/\Iz w w':=by
 obtain⟨ao,L,c,rfl,p,E,s,hF⟩:=h
 have same:∀{w':Ap},Iz w w'->lV S w' (rv ao L c d) d:=λ k=>⟨ao,L,c,rfl,p,E,s.below k,hF⟩
 have D:L<=1000:=by have:=t.few;omega
 unfold mz;by_cases l:gS n=false
 rw[AC l];refine(YY n own a l g).mono ?_;rintro e w' ⟨rfl,k⟩;exact⟨_,rfl,same k,k⟩
 rw[Ay l]
 have l:gS n=true:=by simpa using l
 by_cases b:262144<own.length+a.length∨(ip d.files n=none/\32<=d.files.length)
 rw[AC b];by_cases C:262144<own.length+a.length
 refine(Vq n own a l g G F C).mono ?_;rintro e w' ⟨rfl,k⟩;exact⟨_,rfl,same k,k⟩
 obtain⟨H,I⟩:=b.elim (λ q=>absurd q C) id;refine(X4 s p D n own a l g (by omega) H (by omega)).mono ?_;rintro e w' ⟨rfl,k⟩;exact⟨_,rfl,same k,k⟩
 rw[Ay b]
 have j:own.length+a.length<=262144:=by omega
 have f:ip d.files n≠none∨L<32:=by
  by_cases q:ip d.files n=none;exact .inr (by have:¬32<=d.files.length:=λ r=>b (.inr ⟨q,r⟩);omega);exact .inl q
 by_cases hd:d.dead=true
 rw[Mq hd];refine(Vv s p D n own a l g j f hd).mono ?_;rintro e w' ⟨rfl,k⟩;exact⟨_,rfl,same k,k⟩
 have hd:d.dead=false:=by simpa using hd
 by_cases o:d.armed=true/\d.after=0
 have e:=Kp hd o.1 o.2
 have u:(ij d).2.1=false:=by rw[e]
 have x:(ij d).2.2=true:=by rw[e]
 rw[Ay (by rw[u];simp),AC x];by_cases A:d.keep<a.length
 exact dX y s p t B n own a l g j f u x A
 exact UT y s p t B n own a l g j f u x (by omega)
 have m:(ij d).2.1=true/\(ij d).2.2=false:=by
  by_cases z:d.armed=true;rw[K1 hd z (λ q=>o ⟨z,q⟩)];exact⟨rfl,rfl⟩;rw[Ma hd (by simpa using z)];exact⟨rfl,rfl⟩
 rw[AC m.1];exact eH y s p t B n own a l g j f m.1 m.2
end
theorem lV.laid{w1:Ap}(h:lV S w1 (rv ao L c d) d)(b:Nat)(hF:gQ iz w1 ao d.files->0<L->∀p,ao=some p->p.block≠b)(v0 a f v3 v4 v5:Ar):
  lV S ((((((w1.setCell ⟨b,0,none⟩ v0).setCell ⟨b,1,none⟩ a).setCell ⟨b,2,none⟩ f).setCell ⟨b,3,none⟩ v3).setCell ⟨b,4,none⟩ v4).setCell ⟨b,5,none⟩ v5) (rv ao L c d) d:=by
 have t:Aw (λ i=>i=b) w1 ((((((w1.setCell ⟨b,0,none⟩ v0).setCell ⟨b,1,none⟩ a).setCell ⟨b,2,none⟩ f).setCell ⟨b,3,none⟩ v3).setCell ⟨b,4,none⟩ v4).setCell ⟨b,5,none⟩ v5) :=
  (((((((Aw.refl (λ i=>i=b) w1).setCell (p:=⟨b,0,none⟩) (.inl rfl) v0).setCell (p:=⟨b,1,none⟩) (.inl rfl) a).setCell (p:=⟨b,2,none⟩) (.inl rfl) f).setCell (p:=⟨b,3,none⟩) (.inl rfl) v3).setCell (p:=⟨b,4,none⟩) (.inl rfl) v4).setCell (p:=⟨b,5,none⟩) (.inl rfl) v5)
 obtain⟨k,j,c',e,l,m,g,n⟩:=h
 obtain⟨rfl,rfl,rfl⟩:ao=k/\L=j/\c=c':=by simpa[rv]using e
 exact⟨ao,L,c,rfl,l,m,g.turned t (λ o p hp q=>hF g (by omega) p hp q),n⟩
theorem kt.not_files{a0 a1 a2 a3 a4 a5:Ar}(h:kt w B a0 a1 a2 a3 a4 a5)(i:∀n,a1≠tx n)(g:∀n,a0≠tx n)(j:∀n,a2≠tx n)(k:∀n,a3≠tx n)(l:∀n,a4≠tx n)(m:∀n,a5≠tx n){c:Fs}(o:gQ iz w ao c)(d:0<c.length):∀p,ao=some p->p.block≠B:=by
 intro p hp e;obtain⟨b,off,rfl,r,q⟩:=o d;cases hp;have a:=q 0 c[0] (Aq d) 0 (tx c[0].1) rfl;have f:=e;subst f;unfold kt at h;simp[Bf,h]at a
 have:off+(0*iz.size+0)=off:=by omega
 rcases off with _|_|_|_|_|_|off
 exact g _ (by simpa using a)
 exact i _ (by simpa using a)
 exact j _ (by simpa using a)
 exact k _ (by simpa using a)
 exact l _ (by simpa using a)
 exact m _ (by simpa using a)
 simp at a
section
variable {S:Nat->Prop}{d:Dk}{w:World}
theorem gq(O:∀i,S i->i<w.heap.size)(h:lV S w v d)(B:d.ok)(Z:d.writes<4611686018427387904)(n a:Bs)(D:n.length<=140737488355328)(X:a.length<=140737488355328):
  At Am 69 #[v,tx n,tx a] w λ e w'=>∃v',e=Aj (Af #[v',Ab Ak (kf d n a).2])/\lV S w' v' (kf d n a).1/\Iz w w':=by
 have M:=h;obtain⟨ao,L,c,rfl,z,hc,A,hF⟩:=h
 obtain⟨W,Q⟩:=Xa ((w.alloc (Ai #[Aa ao L c,Ab Ak (d.writes:Int),Ad d.armed,Ad d.dead,Ab Ak (d.after:Int),Ab Ak (d.keep:Int)] 30)).alloc (Ai #[Aa none 0 0,Ab Ak 0,Ad false,Ad false,Ab Ak 0,Ab Ak 0] 30))
 have T:=Oh w (Aa ao L c) (Ab Ak (d.writes:Int)) (Ad d.armed) (Ad d.dead) (Ab Ak (d.after:Int)) (Ab Ak (d.keep:Int)) (Aa none 0 0) (Ab Ak 0) (Ad false) (Ad false) (Ab Ak 0) (Ab Ak 0);rw[Q]at T
 have k:Iz w W:=by rw[<- Q];exact lE _ _ _
 obtain⟨own,f⟩:=Xa ((ip d.files n).getD [])
 have E:own.length<=262144:=by
  rw[<- f]
  cases e:ip d.files n with
  | none=>simp
  | some b=>exact B.get e
 have R:L<=1000:=by have:=B.few;omega
 have g:∀W',Iz W W'->At Am 92 #[rv ao L c d,tx n] W' λ e w'=>e=Aj (tx own)/\Iz W' w':=by
  intro W' p
  cases e:ip d.files n with
  | none=>rw[e]at f;cases f;exact To d n W' ((A.below k).below p) z R e
  | some b=>rw[e]at f;cases f;exact UI d n W' ((A.below k).below p) z R e
 have j:∀W',Iz W W'->At Am 115 #[rv ao L c d,tx n,tx own,tx a] W' λ e w'=>∃v',e=Aj (Af #[v',Ab Ak (kf d n a).2])/\lV S w' v' (kf d n a).1/\Iz W' w':=by
  intro W' p;have:=T8 (w:=W') (λ i hi=>Nat.lt_of_lt_of_le (O i hi) (AU k.size p.size)) (lV.below (lV.below M k) p) B Z n own a D E X;rw[<- f]at this ⊢;exact this
 have s:Hid (_/\_):=And.intro g j
 obtain⟨P,N⟩:=Xa (kf d n a)
 have H:=I3 k T.1 T.2
 rw[N]at s ⊢;obtain⟨x0,x1,x2,x3,x4,x5⟩:=T.1.cells;clear A z hF T k M O N g j f;go_enter func69,ntmps69;go_wp2_with fail
 go_region_held3 (λ u=>u.cell? ⟨w.heap.size,0,none⟩=some (Aa ao L c)/\u.cell? ⟨w.heap.size,1,none⟩=some (Ab Ak (d.writes:Int))/\u.cell? ⟨w.heap.size,2,none⟩=some (Ad d.armed)/\u.cell? ⟨w.heap.size,3,none⟩=some (Ad d.dead)/\u.cell? ⟨w.heap.size,4,none⟩=some (Ab Ak (d.after:Int))/\u.cell? ⟨w.heap.size,5,none⟩=some (Ab Ak (d.keep:Int))) (go_keep)
  (first
   | (go_at_call 115;refine(s.o.2 _ m.o).mono ?_;rintro e F ⟨v',rfl,J,r⟩;have x:=Ih J;obtain⟨a1,t,y,rfl,e1,e2,U,V⟩:=J;have Y:=(H.o.2.2.below m.o).below r;obtain⟨y0,y1,y2,y3,y4,y5⟩:=Y.cells;obtain⟨f0,f1,f2,f3,f4,f5⟩:=Y.thaw;have ab:=((H.o.2.1.below m.o).below r).cells;have I:=Ih r;clear r Y U V)
   | (go_at_call 92;refine(s.o.1 W.drew ⟨rfl,rfl,rfl,AA _,λ _ _=>rfl⟩).mono ?_;rintro e w1 ⟨rfl,l⟩;have m:Hid (Iz W w1):=⟨l.os,l.tape,l.output,l.size,l.block⟩;have aa:=(H.o.2.1.below m.o).cells;clear l))
 have G:Iz w F:=by
  have b1:=H.o.1.trans (m.o.mono H.o.1.size);exact b1.trans (I.o.mono b1.size)
 have CL:=Oq G (b2:=w.heap.size+1) (by omega) (Aa a1 t y) (Ab Ak (P.1.writes:Int)) (Ad P.1.armed) (Ad P.1.dead) (Ab Ak (P.1.after:Int)) (Ab Ak (P.1.keep:Int));have K:=lV.laid x.o (w.heap.size+1) (λ q h0=>((H.o.2.2.below m.o).below I.o).not_files (λ _ q=>by cases q) (λ _ q=>by cases q) (λ _ q=>by cases q) (λ _ q=>by cases q) (λ _ q=>by cases q) (λ _ q=>by cases q) q (by omega)) (Aa a1 t y) (Ab Ak (P.1.writes:Int)) (Ad P.1.armed) (Ad P.1.dead) (Ab Ak (P.1.after:Int)) (Ab Ak (P.1.keep:Int));have C:Hid _:=And.intro K CL;clear G CL K;go_wp2;refine As (v:=Af #[rv a1 t y P.1,Ab Ak P.2]) ?_ rfl ⟨_,rfl,C.o.1,C.o.2⟩;simp[AI,Tryz.f69];go_simp
end
section
variable {S:Nat->Prop}{ao:Option Addr}{L c:Nat}{d:Dk}{w:World}
end
section
variable {S:Nat->Prop}{ao:Option Addr}{L c:Nat}{d:Dk}{w:World}
end
section
variable {S:Nat->Prop}{ao:Option Addr}{L c:Nat}{d:Dk}{w:World}
end
section
variable {S:Nat->Prop}{d:Dk}{w:World}
end
def iH:ju Ob:=⟨λ o=>[Ab Ak o.kind,Ab Al (o.id.toNat:Int),tx o.body],3,λ _=>rfl,by decide,by intro x u h;simp at h;rcases h with rfl|rfl|rfl <;> rfl⟩
def ix:ju (Nm UInt64):=⟨λ f=>[tx f.1,Ab Al (f.2.toNat:Int)],2,λ _=>rfl,by decide,by intro x u h;simp at h;rcases h with rfl|rfl <;> rfl⟩
theorem gQ.obs {w:World} {b off:Nat} {os:List Ob} (h:gQ iH w (some ⟨b,off,none⟩) os) {i:Nat} {o:Ob} (hx:os[i]? = some o):b<w.heap.size/\w.cell? ⟨b,off+i*3,none⟩=some (.int .i64 o.kind)/\w.cell? ⟨b,off+i*3+1,none⟩=some (.int .u64 (o.id.toNat:Int))/\w.cell? ⟨b,off+i*3+2,none⟩=some (tx o.body):=by
 obtain ⟨b', off', e, hlt, hc⟩ := h (by rcases Nat.lt_or_ge i os.length with q | q
                                        omega
                                        rw [List.getElem?_eq_none q] at hx; cases hx)
 obtain ⟨rfl,rfl⟩:b=b'/\off=off':=by simpa using e
 have h0:=hc i o hx 0 _ rfl;have h1:=hc i o hx 1 _ rfl;have h2:=hc i o hx 2 _ rfl;exact ⟨hlt,by simpa [iH] using h0,by simpa [iH,Nat.add_assoc] using h1,by simpa [iH,Nat.add_assoc] using h2⟩
theorem gQ.named {w:World} {b off:Nat} {ns:List (Nm UInt64)} (h:gQ ix w (some ⟨b,off,none⟩) ns) {i:Nat} {n:Bs} {x:UInt64} (hx:ns[i]? = some (n,x)):b<w.heap.size/\w.cell? ⟨b,off+i*2,none⟩=some (tx n)/\w.cell? ⟨b,off+i*2+1,none⟩=some (.int .u64 (x.toNat:Int)):=by
 obtain ⟨b', off', e, hlt, hc⟩ := h (by rcases Nat.lt_or_ge i ns.length with q | q
                                        omega
                                        rw [List.getElem?_eq_none q] at hx; cases hx)
 obtain ⟨rfl,rfl⟩:b=b'/\off=off':=by simpa using e
 have h0:=hc i (n,x) hx 0 _ rfl;have h1:=hc i (n,x) hx 1 _ rfl;exact ⟨hlt,by simpa [ix] using h0,by simpa [ix,Nat.add_assoc] using h1⟩
structure LG{α:Type}(E:ju α)(Z:Nat->Prop)(w:Ap)(a:Option Addr)(n c:Nat)(xs:List α):Prop where
 len:xs.length=n
 cap:n<=c
 rd:gQ E w a xs
 far:0<n->∀p,a=some p->¬Z p.block
section
variable {α:Type}{E:ju α}{Z Z' T:Nat->Prop}{w w':World}{a:Option Addr}{n c:Nat}{xs:List α}
theorem LG.below(h:LG E Z w a n c xs)(b:Iz w w'):LG E Z w' a n c xs:=⟨h.len,h.cap,h.rd.below b,h.far⟩
theorem LG.mono(h:LG E Z w a n c xs)(d:∀i,Z' i->Z i):LG E Z' w a n c xs:=⟨h.len,h.cap,h.rd,λ b p hp q=>h.far b p hp (d _ q)⟩
theorem LG.turned(h:LG E Z w a n c xs)(e:Aw T w w')(d:∀i,T i->Z i):LG E Z w' a n c xs:=⟨h.len,h.cap,h.rd.turned e (λ b p hp q=>h.far (by rw[<- h.len];exact b) p hp (d _ q)),h.far⟩
theorem LG.into(h:LG E Z w a n c xs)(g:∀i,i<w.heap.size->Z' i->Z i):LG E Z' w a n c xs:=⟨h.len,h.cap,h.rd,λ f p hp q=>by
 obtain⟨b,off,e,d,_⟩:=h.rd (by rw[h.len];exact f);rw[e]at hp;cases hp
 exact h.far f _ e (g _ d q)⟩
theorem LG.ofOwn{e:TypeId}(h:gM E e w B v xs)(l:∀i,Z i->i<B):∃a c,v=Aa a xs.length c/\LG E Z w a xs.length c xs:=by
 obtain⟨a,c,rfl,f,m,j,k⟩:=gM.form h;refine⟨a,c,rfl,rfl,f,j,λ d p hp q=>?_⟩;obtain⟨g,b⟩:=k d;rw[hp]at b;cases b;have:=(h.lt g (by rw[hp];rfl)).1;have:=l _ q;have e:((⟨g,0,none⟩:Addr)).block=g:=rfl;omega
end
def iR(w:Ap)(B:Nat)(a0 a1 a2 a3 a4 a5 a6 a7 a8:Ar):Prop:=w.heap[B]? = some (Ai #[a0,a1,a2,a3,a4,a5,a6,a7,a8] 34 (0,0))
section
variable {w w':World}{B:Nat}{a0 a1 a2 a3 a4 a5 a6 a7 a8:Value}
theorem iR.lt(h:iR w B a0 a1 a2 a3 a4 a5 a6 a7 a8):B<w.heap.size:=(Ba.1 h).1
theorem iR.below{K:Nat}(h:iR w B a0 a1 a2 a3 a4 a5 a6 a7 a8)(b:An K w w')(a:B<K):iR w' B a0 a1 a2 a3 a4 a5 a6 a7 a8:=(b.block B a).trans h
theorem iR.turned(h:iR w B a0 a1 a2 a3 a4 a5 a6 a7 a8)(b:Aw S w w')(a:¬S B):iR w' B a0 a1 a2 a3 a4 a5 a6 a7 a8:=(b.block B h.lt a).trans h
theorem iR.cells(h:iR w B a0 a1 a2 a3 a4 a5 a6 a7 a8):w.cell? ⟨B,0,none⟩=some a0/\w.cell? ⟨B,1,none⟩=some a1/\w.cell? ⟨B,2,none⟩=some a2/\w.cell? ⟨B,3,none⟩=some a3/\w.cell? ⟨B,4,none⟩=some a4/\w.cell? ⟨B,5,none⟩=some a5/\w.cell? ⟨B,6,none⟩=some a6/\w.cell? ⟨B,7,none⟩=some a7/\w.cell? ⟨B,8,none⟩=some a8:=by
 unfold iR at h;simp[Bf,h]
theorem iR.thaw(h:iR w B a0 a1 a2 a3 a4 a5 a6 a7 a8):∀j,w.frozen? ⟨B,j,none⟩=false:=by
 unfold iR at h;simp[Ce,h]
theorem iR.new(w:Ap)(a0 a1 a2 a3 a4 a5 a6 a7 a8:Ar):iR (w.alloc (Ai #[a0,a1,a2,a3,a4,a5,a6,a7,a8] 34)) w.heap.size a0 a1 a2 a3 a4 a5 a6 a7 a8:=Cg w _
end
abbrev rm(d:Dk)(vf vo vr vt:Ar):Ar:=Ag #[vf,Ab Ak (d.writes:Int),Ad d.armed,Ad d.dead,Ab Ak (d.after:Int),Ab Ak (d.keep:Int),vo,vr,vt]
abbrev GC(w:Ap)(B:Nat)(d:Dk)(vf vo vr vt:Ar):Prop:=iR w B vf (Ab Ak (d.writes:Int)) (Ad d.armed) (Ad d.dead) (Ab Ak (d.after:Int)) (Ab Ak (d.keep:Int)) vo vr vt
abbrev iD(d:Dk)(vf vo vr vt:Ar):Obj:=Ai #[vf,Ab Ak (d.writes:Int),Ad d.armed,Ad d.dead,Ab Ak (d.after:Int),Ab Ak (d.keep:Int),vo,vr,vt] 34
theorem Pb{l:List Ob}{k:Int}:∀{i:Nat},(∀j,j<i->∀o,l[j]? = some o->¬(o.kind=k/\o.id=x))->iq l k x=iq (l.drop i) k x:=by
 induction l with
 | nil=>intro i _;simp
 | cons f t c =>
  intro i h
  cases i with
  | zero=>rfl
  | succ i =>
   have a:¬(f.kind=k/\f.id=x):=h 0 (by omega) f rfl;simp only[iq,Ay a,FS];exact c (i:=i) (λ j d o b=>h (j+1) (by omega) o b)
theorem YN{l:List Ob}{k:Int}{b:Bs}(h:∀j,j<i->∀o,l[j]? = some o->¬(o.kind=k/\o.id=x))(hi:l[i]? = some ⟨k,x,b⟩):iq l k x=some b:=by
 obtain⟨a,e⟩:=AG.1 hi;rw[Pb h,BT a,e];simp[iq]
section
variable {w:World}{d:Dk}{st:St}{oa:Option Addr}{on oc:Nat}{vf vr vt:Value}
theorem Ke(h:gQ iH w oa st.objs)(L:st.objs.length=on)(Q:on<=1000000)(k:Int)(x:UInt64):
  At Am 116 #[rm d vf (Aa oa on oc) vr vt,Ab Ak k,Ab Al (x.toNat:Int)] w λ e w'=>∃r,e=Aj (Ab Ak r)/\Hid ((iq st.objs k x=none/\r = -1)∨∃i:Nat,r=(i:Int)/\∃bs:Bs,st.objs[i]? = some ⟨k,x,bs⟩/\iq st.objs k x=some bs)/\Iz w w':=by
 have H:=I2 h L
 obtain⟨W,K⟩:=Xa (w.alloc (iD d vf (Aa oa on oc) vr vt))
 have S:W.cell? ⟨w.heap.size,6,none⟩=some (Aa oa on oc):=by rw[<- K];exact(iR.new w _ _ _ _ _ _ _ _ _).cells.2.2.2.2.2.2.1
 have y:Hid (Iz w W):=by rw[<- K];exact gW _ _
 obtain⟨n,l⟩:∃n:Int,(x.toNat:Int)=n:=⟨_,rfl⟩
 rw[l];have I:=Ih l;clear h L l;go_enter func116,ntmps116;go_wp2_with fail;go_loopg[7] on (λ m O wr=>wr=W/\∃i:Nat,O=Ab Ak i/\i+m=on/\Hid (∀j,j<i->∀o,st.objs[j]? = some o->¬(o.kind=k/\o.id=x)))
 case atStart=>exact⟨rfl,0,rfl,by omega,λ j M=>by omega⟩
 case round =>
  obtain⟨E,i,rfl,hi,v⟩:=hrel;subst E;by_cases C:i<on
  have id:(i:Int)<(on:Int):=by omega
  obtain⟨o,u⟩:=BK H.o.2 C;have R:=H.o.1.below y.o;obtain⟨b1,T,rfl,N⟩:=R.some_of u;obtain⟨_,A,s,B⟩:=R.obs u;obtain⟨ok,p,ob⟩:=o;simp only at A s B;have X:=Ih u
  obtain⟨a,f⟩:∃a:Int,(p.toNat:Int)=a:=⟨_,rfl⟩
  rw[f]at s;have G:=Ih f;clear R u f
  have b:¬(ok=k/\p=x)->Hid (∀j,j<i+1->∀o,st.objs[j]? = some o->¬(o.kind=k/\o.id=x)):=by
   intro D j M o g
   rcases Ct j i with q|q
   exact v.o j q o g
   obtain rfl:j=i:=by omega
   rw[X.o]at g;cases g;exact D
  have inj:a=n->p=x:=λ q=>UInt64.toNat_inj.1 (by have:=G.o;have:=I.o;omega)
  have c:p=x->a=n:=λ q=>by rw[<- G.o,<- I.o,q]
  by_cases t:ok=k;by_cases F:a=n;subst t F;have J:=inj rfl;go_wp2;go_ret;refine⟨_,rfl,.inr ⟨i,rfl,ob,by rw[<- J];exact X.o,?_⟩,y.o⟩;exact YN v.o (by rw[<- J];exact X.o);have z:Hid _:=b (λ q=>F (c q.2));subst t
  have P:(a==n)=false:=by simpa using F
  clear b inj c;go_wp2;go_roundg (gk - 1)
  case measure=>omega
  case rel=>exact⟨rfl,i+1,by go_num,by omega,z⟩
  have z:Hid _:=b (λ q=>t q.1)
  have P:(ok==k)=false:=by simpa using t
  clear b inj c;go_wp2;go_roundg (gk - 1)
  case measure=>omega
  case rel=>exact⟨rfl,i+1,by go_num,by omega,z⟩
  obtain rfl:i=on:=by omega
  go_wp2;go_ret;refine⟨_,rfl,.inl ⟨?_,rfl⟩,y.o⟩;rw[Pb v.o,C4 (by rw[H.o.2];exact AA _)]
  rfl
theorem Ij(h:gQ iH w oa st.objs)(t:st.objs.length=on)(z:on<=1000000)(k:Int)(x:UInt64)(g:Bool)(s:st.has k x=g):
  At Am 73 #[rm d vf (Aa oa on oc) vr vt,Ab Ak k,Ab Al (x.toNat:Int)] w λ e w'=>e=Aj (Ad g)/\Iz w w':=by
 obtain⟨W,q⟩:=Xa (w.alloc (iD d vf (Aa oa on oc) vr vt))
 have j:Iz w W:=by rw[<- q];exact gW _ _
 have u:GC W w.heap.size d vf (Aa oa on oc) vr vt:=by rw[<- q];exact iR.new w _ _ _ _ _ _ _ _ _
 obtain⟨A,B,C,D,E,F,G,H,I⟩:=u.cells
 have a:=Ke (d:=d) (oc:=oc) (vf:=vf) (vr:=vr) (vt:=vt) (h.below j) t z k x
 have f:=I2 j s
 obtain⟨v,b⟩:∃v:Int,(x.toNat:Int)=v:=⟨_,rfl⟩
 rw[b]at a ⊢;clear h t s b j u;go_enter func73,ntmps73;go_wp2_with fail;refine a.mono ?_;rintro e w1 ⟨r,rfl,y,n⟩;have p:=Ih (f.o.1.trans (n.mono f.o.1.size));clear n a
 rcases y.o with⟨c,m⟩ | ⟨i,m,bs,_,c⟩
 have l:g=false:=by rw[<- f.o.2];unfold St.has;rw[c];rfl
 subst m l;clear c;go_wp2;go_ret;exact⟨rfl,p.o⟩
 have l:g=true:=by rw[<- f.o.2];unfold St.has;rw[c];rfl
 subst m l
 have i0:(0:Int)<=(i:Int):=by omega
 clear c;go_wp2;go_ret;exact⟨by simp,p.o⟩
end
section
variable {w:World}{d:Dk}{st:St}{oa:Option Addr}{on oc:Nat}{vf vr vt:Value}
theorem ND{wr:Ap}(h:gQ iH wr oa st.objs)(c:st.objs.length=on)(f:on<=1000000)(k:Int)(x:UInt64)(g:Bool)(b:st.has k x=g)(u:SW (gN wr)):
  At Am 73 #[rm d vf (Aa oa on oc) vr vt,Ab Ak k,Ab Al (x.toNat:Int)] u.w λ e w'=>e=Aj (Ad g)/\∃u':SW (gN wr),w'=u'.w:=by
 refine(Ij (h.below u.ok) c f k x g b).mono ?_;rintro e w' ⟨rfl,a⟩;exact⟨rfl,⟨w',Below.trans u.ok (a.mono u.ok.size)⟩,rfl⟩
theorem S6(h:gQ iH w oa st.objs)(Q:st.objs.length=on)(Z:on<=1000000){x:Option Addr}{ec:Nat}(R:gQ gZ w x es)(r:es.length=k)(X:k<=4000000000000000000)(g:Bool)(P:st.blobs es=g):
  At Am 100 #[rm d vf (Aa oa on oc) vr vt,Aa x k ec] w λ e w'=>e=Aj (Ad g)/\Iz w w':=by
 obtain⟨W,O⟩:=Xa (w.alloc (iD d vf (Aa oa on oc) vr vt))
 have s:Iz w W:=by rw[<- O];exact gW _ _
 have a:GC W w.heap.size d vf (Aa oa on oc) vr vt:=by rw[<- O];exact iR.new w _ _ _ _ _ _ _ _ _
 have H:=I7 (h.below s) Q (R.below s) r P s a
 clear h Q R r P s a;go_enter func100,ntmps100;go_wp2_with fail;go_loopg[5] k (λ m iv wr=>∃i:Nat,iv=Ab Ak i/\i+m=k/\Hid ((es.take i).all (λ e=>st.has 1 e.2)=true/\Iz W wr))
 case atStart=>exact⟨0,rfl,by omega,rfl,Ao _ _⟩
 case round =>
  obtain⟨i,rfl,hi,j⟩:=hrel;by_cases A:i<k
  ·have id:(i:Int)<(k:Int):=by omega
   obtain⟨e,t⟩:=BK H.o.2.2.2.1 A;obtain⟨b1,off,rfl,Y⟩:=H.o.2.2.1.some_of t;obtain⟨V,z⟩:=e
   have v:∀u:SW (gN wr),Iz W u.w:=λ u=>j.o.2.trans (Du u.ok j.o.2.size)
   have D:Nonempty (SW (gN wr)):=⟨⟨wr,Ao _ _⟩⟩
   have B:∀u:SW (gN wr),u.w.cell? ⟨b1,off+i*2+1,none⟩=some (Ab Al (z.toNat:Int)):=λ u=>((H.o.2.2.1.below (v u)).ents t).2.2
   have a:=λ u:SW (gN wr)=>(H.o.2.2.2.2.2.2.below (v u) H.o.2.2.2.2.2.2.lt).cells
   have E:=λ u=>(a u).1
   have F:=λ u=>(a u).2.1
   have G:=λ u=>(a u).2.2.1
   have I:=λ u=>(a u).2.2.2.1
   have J:=λ u=>(a u).2.2.2.2.1
   have K:=λ u=>(a u).2.2.2.2.2.1
   have L:=λ u=>(a u).2.2.2.2.2.2.1
   have M:=λ u=>(a u).2.2.2.2.2.2.2.1
   have N:=λ u=>(a u).2.2.2.2.2.2.2.2
   have l:=λ q hq=>ND (d:=d) (oc:=oc) (vf:=vf) (vr:=vr) (vt:=vt) (wr:=wr) (H.o.1.below j.o.2) H.o.2.1 Z 1 z q hq
   obtain⟨U,T⟩:∃U:Int,(z.toNat:Int)=U:=⟨_,rfl⟩
   rw[T]at B l;have C:=Ih t;clear t a T v
   cases hp:st.has 1 z with
   | true =>
    have l:=l true hp;go_wp2_with fail;refine Bb (S:=gN wr) (by kernel_rfl) (by kernel_rfl) (Ao _ wr).drew ?_
    repeat(go_big_quiet_step (with_reducible exact l _))
    refine AS ?_;intro _ n;obtain⟨u,c⟩:=n;subst c;have p:=Ih (j.o.2.trans (Du u.ok j.o.2.size));obtain⟨w4,f⟩:=Xb u.w
    rw[<- f]at p ⊢;clear f B l E F G I J K L M N D u;go_wp2;go_roundg (gk - 1)
    case measure=>omega
    case rel=>exact⟨i+1,by go_num,by omega,Mh C.o j.o.1 hp,p.o⟩
   | false =>
    have l:=l false hp
    have y:g=false:=by rw[<- H.o.2.2.2.2.1];exact K9 C.o hp
    subst y;go_wp2_with fail;refine Bb (S:=gN wr) (by kernel_rfl) (by kernel_rfl) (Ao _ wr).drew ?_
    repeat(go_big_quiet_step (with_reducible exact l _))
    refine AS ?_;intro _ n;obtain⟨u,c⟩:=n;subst c;have p:=Ih (j.o.2.trans (Du u.ok j.o.2.size));obtain⟨w4,f⟩:=Xb u.w;rw[<- f]at p ⊢;clear f B l E F G I J K L M N D u;go_wp2;go_ret;exact⟨rfl,H.o.2.2.2.2.2.1.trans (p.o.mono H.o.2.2.2.2.2.1.size)⟩
  obtain rfl:i=k:=by omega
  have b:=j.o.1;rw[Av (by rw[H.o.2.2.2.1];omega)]at b
  have y:g=true:=by rw[<- H.o.2.2.2.2.1];exact b
  subst y;clear b;go_wp2;go_ret;exact⟨rfl,H.o.2.2.2.2.2.1.trans (j.o.2.mono H.o.2.2.2.2.2.1.size)⟩
theorem QU(h:gQ iH w oa st.objs)(R:st.objs.length=on)(Z:on<=1000000){pa:Option Addr}{pn pc:Nat}{cm:Cm}(hr:gQ gR w pa cm.ps)(x:cm.ps.length=pn)(aa:pn<=4000000000000000000)(dt:Int)(nt:ByteArray)(g:Bool)(Y:st.above cm=g):
  At Am 104 #[rm d vf (Aa oa on oc) vr vt,Ag #[Ab Al (cm.tree.toNat:Int),Aa pa pn pc,Ab Ak dt,Ae nt]] w λ e w'=>e=Aj (Ad g)/\Iz w w':=by
 have f:=λ(wr:Ap) (v:Iz w wr) (q:Bool) (hq:st.has 2 cm.tree=q)=>Ij (d:=d) (oc:=oc) (vf:=vf) (vr:=vr) (vt:=vt) (h.below v) R Z 2 cm.tree q hq
 obtain⟨r,y⟩:∃r:Int,(cm.tree.toNat:Int)=r:=⟨_,rfl⟩
 rw[y]at f ⊢
 obtain⟨W,P⟩:=Xa ((w.alloc (iD d vf (Aa oa on oc) vr vt)).alloc (Ai #[Ab Al r,Aa pa pn pc,Ab Ak dt,Ae nt] 129))
 have A:Iz w W:=by rw[<- P];exact lE _ _ _
 have s1:(w.alloc (iD d vf (Aa oa on oc) vr vt)).heap.size=w.heap.size+1:=by simp
 have a:GC W w.heap.size d vf (Aa oa on oc) vr vt:=by rw[<- P];exact(iR.new w _ _ _ _ _ _ _ _ _).below (gW _ _) (by rw[s1];omega)
 have bx:ib W (w.heap.size+1) 129 (Ab Al r) (Aa pa pn pc) (Ab Ak dt) (Ae nt):=by
  have:=ib.new (w.alloc (iD d vf (Aa oa on oc) vr vt)) 129 (Ab Al r) (Aa pa pn pc) (Ab Ak dt) (Ae nt);rw[s1,P]at this;exact this
 have H:=I8 (h.below A) R (hr.below A) x Y A a bx
 have TR:=Ih f;clear h R hr x Y A a bx f y s1;go_enter func104,ntmps104;go_wp2_with fail;go_loopg[5] pn (λ m iv wr=>∃i:Nat,iv=Ab Ak i/\i+m=pn/\Hid ((cm.ps.take i).all (λ p=>st.has 3 p)=true/\Iz W wr))
 case atStart=>exact⟨0,rfl,by omega,rfl,Ao _ _⟩
 case round =>
  obtain⟨i,rfl,hi,b⟩:=hrel;obtain⟨p0,p1,p2,p3⟩:=(H.o.2.2.2.2.2.2.2.below b.o.2 H.o.2.2.2.2.2.2.2.lt).cells;by_cases Q:i<pn
  ·have id:(i:Int)<(pn:Int):=by omega
   obtain⟨z,D⟩:=BK H.o.2.2.2.1 Q;obtain⟨b1,off,rfl,ab⟩:=H.o.2.2.1.some_of D
   have B:∀u:SW (gN wr),Iz W u.w:=λ u=>b.o.2.trans (Du u.ok b.o.2.size)
   have X:Nonempty (SW (gN wr)):=⟨⟨wr,Ao _ _⟩⟩
   have T:∀u:SW (gN wr),u.w.cell? ⟨b1,off+i,none⟩=some (Ab Al (z.toNat:Int)):=λ u=>((H.o.2.2.1.below (B u)).nums D).2
   have a:=λ u:SW (gN wr)=>(H.o.2.2.2.2.2.2.1.below (B u) H.o.2.2.2.2.2.2.1.lt).cells
   have F:=λ u=>(a u).1
   have G:=λ u=>(a u).2.1
   have I:=λ u=>(a u).2.2.1
   have J:=λ u=>(a u).2.2.2.1
   have K:=λ u=>(a u).2.2.2.2.1
   have L:=λ u=>(a u).2.2.2.2.2.1
   have M:=λ u=>(a u).2.2.2.2.2.2.1
   have N:=λ u=>(a u).2.2.2.2.2.2.2.1
   have O:=λ u=>(a u).2.2.2.2.2.2.2.2
   have q1:=λ u:SW (gN wr)=>(H.o.2.2.2.2.2.2.2.below (B u) H.o.2.2.2.2.2.2.2.lt).cells.2.1
   have l:=λ q hq=>ND (d:=d) (oc:=oc) (vf:=vf) (vr:=vr) (vt:=vt) (wr:=wr) (H.o.1.below b.o.2) H.o.2.1 Z 3 z q hq
   obtain⟨zi,hz⟩:∃zi:Int,(z.toNat:Int)=zi:=⟨_,rfl⟩
   rw[hz]at T l;have V:=Ih D;clear D a hz B
   cases hp:st.has 3 z with
   | true =>
    have l:=l true hp;go_wp2_with fail;refine Bb (S:=gN wr) (by kernel_rfl) (by kernel_rfl) (Ao _ wr).drew ?_
    repeat(go_big_quiet_step (with_reducible exact l _))
    refine AS ?_;intro _ n;obtain⟨u,j⟩:=n;subst j;have t:=Ih (b.o.2.trans (Du u.ok b.o.2.size));obtain⟨w4,k⟩:=Xb u.w
    rw[<- k]at t ⊢;clear k T l F G I J K L M N O q1 X u p0 p1 p2 p3;go_wp2;go_roundg (gk - 1)
    case measure=>omega
    case rel=>exact⟨i+1,by go_num,by omega,Mh V.o b.o.1 hp,t.o⟩
   | false =>
    have l:=l false hp
    have C:g=false:=by rw[<- H.o.2.2.2.2.1];unfold St.above;rw[K9 V.o hp];rfl
    subst C;go_wp2_with fail;refine Bb (S:=gN wr) (by kernel_rfl) (by kernel_rfl) (Ao _ wr).drew ?_
    repeat(go_big_quiet_step (with_reducible exact l _))
    refine AS ?_;intro _ n;obtain⟨u,j⟩:=n;subst j;have t:=Ih (b.o.2.trans (Du u.ok b.o.2.size));obtain⟨w4,k⟩:=Xb u.w;rw[<- k]at t ⊢;clear k T l F G I J K L M N O q1 X u p0 p1 p2 p3;go_wp2;go_ret;exact⟨rfl,H.o.2.2.2.2.2.1.trans (t.o.mono H.o.2.2.2.2.2.1.size)⟩
  obtain rfl:i=pn:=by omega
  have c:=b.o.1;rw[Av (by rw[H.o.2.2.2.1];omega)]at c
  have C:st.has 2 cm.tree=g:=by rw[<- H.o.2.2.2.2.1];unfold St.above;rw[c];rfl
  have v:=H.o.2.2.2.2.2.1.trans (b.o.2.mono H.o.2.2.2.2.2.1.size);have ht:=TR.o wr v g C;obtain⟨F,G,I,J,K,L,M,N,O⟩:=(H.o.2.2.2.2.2.2.1.below b.o.2 H.o.2.2.2.2.2.2.1.lt).cells;have s:=Ih v;clear c C v;go_wp2_with fail;refine ht.mono ?_;rintro e w2 ⟨rfl,U⟩;have E:=Ih (s.o.trans (U.mono s.o.size));clear U ht;go_wp2;go_ret;exact⟨rfl,E.o⟩
end
theorem RH{l:List (Nm α)}:∀{i:Nat},(∀j,j<i->∀m v,l[j]? = some (m,v)->m≠n)->iu l n=iu (l.drop i) n:=by
 induction l with
 | nil=>intro i _;simp
 | cons f t c =>
  intro i h
  cases i with
  | zero=>rfl
  | succ i =>
   have a:f.1≠n:=h 0 (by omega) f.1 f.2 rfl;simp only[iu,Ay a,FS];exact c (i:=i) (λ j d m v b=>h (j+1) (by omega) m v b)
theorem VT{l:List (Nm α)}{v:α}(h:∀j,j<i->∀m v,l[j]? = some (m,v)->m≠n)(hi:l[i]? = some (n,v)):iu l n=some v:=by
 obtain⟨a,e⟩:=AG.1 hi;rw[RH h,BT a,e];simp[iu]
theorem Ov{l:List (Nm α)}{n:Nat}(a:l.length=n)(hi:i<n):∃m v,l[i]? = some (m,v):=⟨(l[i]'(by omega)).1,(l[i]'(by omega)).2,Aq (by omega)⟩
theorem ZK{l:List (Nm α)}{m:Bs}{v:α}(h:l[i]? = some (m,v)):kh (l.take (i+1)) n=kh (l.take i) n++(if m==n then[]else[(m,v)]):=by
 rw[AW,h];unfold kh;rw[List.filter_append]
 congr 1
 cases e:m==n <;> simp[e]
theorem MT{v:α}:∀{a b:List (Nm α)},(∀f∈a,¬n<f.1)->kK (a++b) n v=a++kK b n v
 | [],b,_=>rfl
 | f::t,b,h=>by
  have c:=h f List.mem_cons_self;have e:=MT (v:=v) (b:=b) (λ g d=>h g (List.mem_cons_of_mem _ d):∀g∈t,¬n<g.1);simp only[Dh,kK];rw[Ay c,e]
theorem Ro{v:α}{x:Nm α}:∀{l:List (Nm α)},(∃f∈l,n<f.1)->kK (l++[x]) n v=kK l n v++[x]
 | [],h=>by obtain⟨f,c,_⟩:=h;cases c
 | f::t,h=>by
  simp only[Dh,kK]
  split
  simp
  ·rename_i b
   obtain⟨g,d,a⟩:=h
   rcases List.mem_cons.1 d with rfl|q
   exact absurd a b;rw[Ro ⟨g,q,a⟩]
   rfl
theorem Tryz.info271:(Am.info? 271).map (λ i=>(i.zero,i.size,i.bytes))=some (some (Ag #[Ae ⟨#[]⟩,Ab Al 0]),2,24):=by kernel_rfl
theorem LF(l:List (Nm UInt64))(n:Bs)(w:Ap)(h:gQ ix w ao l)(s:l.length=L)(y:L<=1000000):
  At Am 112 #[Aa ao L c,tx n] w λ e w'=>∃r,e=Aj (Ab Ak r)/\Hid (((iu l n).isSome=false/\r = -1)∨((iu l n).isSome=true/\∃i:Nat,r=(i:Int)))/\w'=w:=by
 have H:=I2 h s
 clear h s;go_enter func112,ntmps112;go_wp2_with fail;go_loopg[5] L (λ k x wr=>wr=w/\∃i:Nat,x=Ab Ak i/\i+k=L/\Hid (∀j,j<i->∀m v,l[j]? = some (m,v)->m≠n))
 case atStart=>exact⟨rfl,0,rfl,by omega,λ j t=>by omega⟩
 case round =>
  obtain⟨p,i,rfl,hi,f⟩:=hrel;subst p;by_cases g:i<L
  ·have id:(i:Int)<(L:Int):=by omega
   obtain⟨m,v,d⟩:=Ov H.o.2 g;obtain⟨b1,z,rfl,u⟩:=H.o.1.some_of d;have cc:=(H.o.1.named d).2.1;have X:=Ih d;clear d
   cases b:m==n with
   | true =>
    go_wp2;go_ret
    have e:m=n:=by simpa using b
    subst e;exact⟨_,rfl,.inr ⟨by rw[VT f.o X.o];rfl,i,rfl⟩,rfl⟩
   | false =>
    go_wp2;go_roundg (gk - 1)
    all_goals first
     | omega
     | exact⟨rfl,i+1,by go_num,by omega,λ j t m' v' a=>by
       rcases Ct j i with q|q
       exact f.o j q m' v' a
       obtain rfl:j=i:=by omega
       rw[X.o]at a;cases a
       simpa using b⟩
  obtain rfl:i=L:=by omega
  go_wp2;go_ret;refine⟨_,rfl,.inl ⟨?_,rfl⟩,rfl⟩;rw[RH f.o,C4 (by rw[H.o.2];exact AA _)]
  rfl
theorem Re(l:List (Nm UInt64))(n:Bs)(w:Ap)(h:gQ ix w ao l)(j:l.length=L)(u:L<=1000000):
  At Am 155 #[Aa ao L c,tx n] w λ e w'=>∃v,e=Aj v/\Hid (gM ix 271 w' w.heap.size v (kh l n)/\An w.heap.size w w'):=by
 have H:Hid (gQ ix w ao l/\l.length=L):=⟨h,j⟩
 clear h j;go_enter func155,ntmps155;go_wp2_with fail;go_loopg[5,6] L (λ k lv s wr=>∃i:Nat,s=Ab Ak i/\i+k=L/\Hid (gM ix 271 wr w.heap.size lv (kh (l.take i) n)/\An w.heap.size w wr))
 case atStart=>exact⟨0,rfl,by omega,gM.nil _ _ _ _,Ao _ _⟩
 case round =>
  obtain⟨i,rfl,hi,b⟩:=hrel;by_cases g:i<L
  ·have id:(i:Int)<(L:Int):=by omega
   obtain⟨m,v,f⟩:=Ov H.o.2 g;have R:=H.o.1.below b.o.2;obtain⟨b1,x,rfl,r⟩:=R.some_of f;obtain⟨_,cc,t⟩:=R.named f
   have T:Hid (kh (l.take (i+1)) n=kh (l.take i) n++(if m==n then[]else[(m,v)])/\(kh (l.take i) n).length<=1000000):=⟨ZK f,AU (CT _ _) (by rw[AE];omega)⟩
   clear R f
   cases a:m==n with
   | true =>
    have d:(!m==n)=false:=by rw[a];rfl
    go_wp2;go_roundg (gk - 1)
    all_goals first
     | omega
     | exact⟨i+1,by go_num,by omega,by have:=T.o.1;rw[a]at this;rw[this];simpa using b.o.1,b.o.2⟩
   | false =>
    have d:(!m==n)=true:=by rw[a];rfl
    go_wp2_with(at_builtin;(refine BA ix 271 32 24 _ rfl Tryz.info271 underlying32 rfl (.tmp 20) (.tmp 25) rfl w.heap.size _ (kh (l.take i) n) (m,v) 271 rfl b.o.1 rfl (by have:=T.o.2;omega) (by have:=T.o.2;simp only[AH];omega) b.o.2.size _ rfl ?_;intro y z q p _ _));go_wp2;go_roundg (gk - 1)
    all_goals first
     | omega
     | exact⟨i+1,by go_num,by omega,by have:=T.o.1;rw[a]at this;rw[this];exact q,b.o.2.trans p⟩
  ·obtain rfl:i=L:=by omega
   have e0:l.take i=l:=Av (by rw[H.o.2];exact AA _);go_wp2;go_ret;exact⟨_,rfl,by have:=b.o.1;rw[e0]at this;exact this,b.o.2⟩
def IB(l:List (Nm UInt64))(n:Bs)(v:UInt64)(i:Nat)(dn:Bool)(out:List (Nm UInt64)):Prop:=(dn=false/\(∀f∈l.take i,¬n<f.1)/\out=l.take i)∨(dn=true/\(∃f∈l.take i,n<f.1)/\out=kK (l.take i) n v)
section
variable {l out:List (Nm UInt64)}{n m:Bs}{v u:UInt64}{i:Nat}
theorem JU{x:Nm UInt64}(h:l[i]? = some x):l.take (i+1)=l.take i++[x]:=by rw[AW,h];rfl
theorem Ux(h:IB l n v i false out):out.length<=i:=by
 rcases h with⟨_,_,e⟩ | ⟨q,_⟩
 rw[e,AE];omega
 cases q
theorem ZC(h:IB l n v i false out)(b:l[i]? = some (m,u))(e:¬n<m):IB l n v (i+1) false (out++[(m,u)]):=by
 rcases h with⟨_,c,d⟩ | ⟨q,_⟩
 refine .inl ⟨rfl,?_,by rw[d,JU b]⟩;intro f a;rw[JU b]at a
 rcases List.mem_append.1 a with q|q
 exact c f q
 simp at q;rw[q];exact e
 cases q
theorem YK(h:IB l n v i false out)(b:l[i]? = some (m,u))(a:n<m):IB l n v (i+1) true (out++[(n,v)]++[(m,u)]):=by
 rcases h with⟨_,c,d⟩ | ⟨q,_⟩
 refine .inr ⟨rfl,⟨(m,u),by rw[JU b];simp,a⟩,?_⟩;rw[JU b,MT c,d];simp[kK,a]
 cases q
theorem gK(h:IB l n v i true out)(b:l[i]? = some (m,u)):IB l n v (i+1) true (out++[(m,u)]):=by
 rcases h with⟨q,_⟩ | ⟨_,a,c⟩
 cases q
 refine .inr ⟨rfl,?_,?_⟩
 obtain⟨f,d,e⟩:=a;exact⟨f,by rw[JU b];exact List.mem_append_left _ d,e⟩
 rw[JU b,Ro a,c]
end
theorem Qa(y:List (Nm UInt64))(n:Bs)(v:UInt64)(w:Ap)(h:gQ ix w ao y)(V:y.length=L)(Y:L<=1000000):
  At Am 154 #[Aa ao L c,Ag #[tx n,Ab Al (v.toNat:Int)]] w λ e w'=>∃u,e=Aj u/\Hid (gM ix 271 w' w.heap.size u (jp y n v)/\Iz w w'):=by
 obtain⟨l,r⟩:=Xa (kh y n)
 have U:jp y n v=kK l n v:=by unfold jp;rw[r]
 rw[U]
 have D:l.length<=1000000:=by rw[<- r];exact AU (CT _ _) (by omega)
 obtain⟨W,hW⟩:=Xa (w.alloc (Ai #[tx n,Ab Al (v.toNat:Int)] 271))
 have s:Hid (Iz w W/\W.cell? ⟨w.heap.size,0,none⟩=some (tx n)/\W.cell? ⟨w.heap.size,1,none⟩=some (Ab Al (v.toNat:Int))/\w.heap.size<W.heap.size):=by rw[<- hW];exact⟨gW _ _,by simp,by simp,by simp⟩
 have x:=Re (c:=c) y n W (h.below s.o.1) V Y;rw[r]at x;have x0:=s.o.2.1;have HV:=Ih D;clear h V Y r U D;go_enter func154,ntmps154;go_wp2_with fail;refine x.mono ?_;rintro e w1 ⟨v1,rfl,N⟩;obtain⟨a1,c1,E,O,B,r1,_⟩:=gM.form N.o.1
 obtain⟨t,g⟩:=Xa l.length
 rw[g]at E;subst E
 have H:=I3 r1 g N.o.2
 have lb:t<=1000000:=by rw[<- g];exact HV.o
 clear N O B r1 g x x0;go_wp2_with fail;go_loopg[5,6,7] t (λ k lv dv iv wr=>∃(i:Nat) (dn:Bool) (out:List (Nm UInt64)),iv=Ab Ak i/\i+k=t/\dv=Ad dn/\Hid (IB l n v i dn out/\out.length<=i+1/\gM ix 271 wr w1.heap.size lv out/\Iz w1 wr))
 case atStart=>exact⟨0,false,[],rfl,by omega,rfl,.inl ⟨rfl,by simp,by simp⟩,by simp,gM.nil _ _ _ _,Ao _ _⟩
 case round =>
  obtain⟨i,dn,out,rfl,hi,rfl,f⟩:=hrel;have M:=H.o.2.2.trans (f.o.2.2.2.mono H.o.2.2.size);have k0:=(M.cell (p:=⟨w.heap.size,0,none⟩) s.o.2.2.2).trans s.o.2.1;have k1:=(M.cell (p:=⟨w.heap.size,1,none⟩) s.o.2.2.2).trans s.o.2.2.1;have sz:=f.o.2.2.2.size;clear M;by_cases S:i<t
  ·have id:(i:Int)<(t:Int):=by omega
   obtain⟨m,u,K⟩:=Ov H.o.2.1 S;have R:=H.o.1.below f.o.2.2.2;obtain⟨b1,Z,rfl,aa⟩:=R.some_of K;obtain⟨_,cc,cd⟩:=R.named K;have X:=Ih K;have G:=Ih f;clear R K f
   cases dn with
   | false =>
    by_cases a:n<m
    ·have q1:BM n m=true:=by rw[Ho,CZ];exact a
     have Q:=Ih a
     have X2:Hid (∀d,Iz w1 d->d.cell? ⟨b1,Z+i*2,none⟩=some (tx m)/\d.cell? ⟨b1,Z+i*2+1,none⟩=some (Ab Al (u.toNat:Int))/\b1<d.heap.size):=λ d b2=>⟨((H.o.1.below b2).named X.o).2.1,((H.o.1.below b2).named X.o).2.2,((H.o.1.below b2).named X.o).1⟩
     clear a;go_wp2_with fail;go_quiet (fail)
     go_wp2_with(first
      | (at_builtin;(refine BA ix 271 32 24 _ rfl Tryz.info271 underlying32 rfl (.tmp 30) (.tmp 32) rfl w1.heap.size _ out (n,v) 271 (by rfl) (G.o.2.2.1.below (AY (Ao _ _) _)) (by rfl) (by have:=G.o.2.1;omega) (by simp only[AH];have:=G.o.2.1;omega) sz _ rfl ?_;intro v2 d J F _ _;have C:=I2 J ((AY G.o.2.2.2 _).trans F:Iz w1 d);obtain⟨y0,y1,ab⟩:=X2.o d C.o.2;have T:=C.o.2.size;clear J F))
      | (at_builtin;(refine BA ix 271 32 24 _ rfl Tryz.info271 underlying32 rfl (.tmp 34) (.tmp 39) rfl w1.heap.size _ (out++[(n,v)]) (m,u) 271 (by rfl) C.o.1 (by rfl) (by have:=G.o.2.1;simp;omega) (by simp only[AH];have:=G.o.2.1;simp;omega) T _ rfl ?_;intro v3 w3 A z _ _)))
     go_wp2;go_roundg (gk - 1)
     all_goals first
      | omega
      | exact⟨i+1,true,_,by go_num,by omega,rfl,YK G.o.1 X.o Q.o,by have:=Ux G.o.1;simp;omega,A,C.o.2.trans z⟩
    ·have q1:BM n m=false:=by rw[Ho,Az];exact a
     have Q:=Ih a;clear a;go_wp2_with fail;go_quiet (fail);go_wp2_with(at_builtin;(refine BA ix 271 32 24 _ rfl Tryz.info271 underlying32 rfl (.tmp 34) (.tmp 39) rfl w1.heap.size _ out (m,u) 271 (by rfl) (G.o.2.2.1.below (AY (Ao _ _) _)) (by rfl) (by have:=G.o.2.1;omega) (by simp only[AH];have:=G.o.2.1;omega) sz _ rfl ?_;intro v3 w3 A z _ _));go_wp2;go_roundg (gk - 1)
     all_goals first
      | omega
      | exact⟨i+1,false,_,by go_num,by omega,rfl,ZC G.o.1 X.o Q.o,by have:=G.o.2.1;simp;omega,A,(AY G.o.2.2.2 _).trans z⟩
   | true =>
    go_wp2_with fail;go_quiet (fail);go_wp2_with(at_builtin;(refine BA ix 271 32 24 _ rfl Tryz.info271 underlying32 rfl (.tmp 34) (.tmp 39) rfl w1.heap.size _ out (m,u) 271 (by rfl) (G.o.2.2.1.below (AY (Ao _ _) _)) (by rfl) (by have:=G.o.2.1;omega) (by simp only[AH];have:=G.o.2.1;omega) sz _ rfl ?_;intro v3 w3 A z _ _));go_wp2;go_roundg (gk - 1)
    all_goals first
     | omega
     | exact⟨i+1,true,_,by go_num,by omega,rfl,gK G.o.1 X.o,by have:=G.o.2.1;simp;omega,A,(AY G.o.2.2.2 _).trans z⟩
  obtain rfl:i=t:=by omega
  have e0:l.take i=l:=Av (by rw[H.o.2.1];exact AA _);have j:=f.o.1;unfold IB at j;rw[e0]at j;have G:=I3 f.o.2.2.1 f.o.2.2.2 f.o.2.1;have I:Hid _:=j;have BW:=Ih (s.o.1.trans (H.o.2.2.mono s.o.1.size));clear f j
  cases dn with
  | false =>
   have P:kK l n v=out++[(n,v)]:=by
    rcases I.o with⟨_,O,B⟩ | ⟨q,_⟩
    have:=MT (v:=v) (b:=[]) O;rw[List.append_nil]at this;rw[this,B];rfl;cases q
   clear I;go_wp2_with(at_builtin;(refine BA ix 271 32 24 _ rfl Tryz.info271 underlying32 rfl (.tmp 43) (.tmp 45) rfl w1.heap.size _ out (n,v) 271 rfl G.o.1 rfl (by have:=G.o.2.2;omega) (by have:=G.o.2.2;simp only[AH];omega) sz _ rfl ?_;intro v2 d J F _ _));go_wp2;go_ret;rw[P];exact⟨_,rfl,gM.low J BW.o.size,BW.o.trans ((G.o.2.1.trans F).mono BW.o.size)⟩
  | true =>
   have P:kK l n v=out:=by
    rcases I.o with⟨q,_⟩ | ⟨_,_,B⟩
    cases q;exact B.symm
   clear I;go_wp2;go_ret;rw[P];exact⟨_,rfl,gM.low G.o.1 BW.o.size,BW.o.trans (G.o.2.1.mono BW.o.size)⟩
def mt(es:List En)(i k:Nat):Prop:=∃a b,es[i]? = some a/\es[k]? = some b/\((i<k/\¬a.1<b.1)∨(i≠k/\under a.1 b.1=true))
theorem NV(h:Tr es){a b:En}(c:i<k)(d:es[i]? = some a)(e:es[k]? = some b):my a b:=by
 obtain⟨hi,rfl⟩:=AG.1 d;obtain⟨f,rfl⟩:=AG.1 e;exact Dr.1 h i k hi f c
theorem dV(h:mt es i k):¬Tr es:=by
 intro g;obtain⟨a,b,e,f,q⟩:=h
 rcases q with⟨d,c⟩ | ⟨d,c⟩
 exact c (NV g d e f).1
 rcases Nat.lt_or_gt_of_ne d with q|q
 exact fP c (NV g q e f).1
 have:=(NV g q f e).2;rw[c]at this;cases this
theorem cX(h:∀i k,¬mt es i k):Tr es:=by
 refine Dr.2 (λ i k hi b a=>⟨?_,?_⟩)
 by_cases q:es[i].1<es[k].1
 exact q
 exact absurd ⟨es[i],es[k],Aq hi,Aq b,.inl ⟨a,q⟩⟩ (h i k)
 cases q:under es[k].1 es[i].1 with
 | false=>rfl
 | true=>exact absurd ⟨es[k],es[i],Aq b,Aq hi,.inr ⟨by omega,q⟩⟩ (h k i)
theorem Lo(a b:ByteArray):(a++b).data.toList=a.data.toList++b.data.toList:=by
 rw[ByteArray.data_append];simp
theorem Fi(a b:ByteArray):(a++b).size=a.size+b.size:=by
 rw[jz,Lo,List.length_append,jz,jz]
theorem Ia(n k:Nat)(c:n<18446744073709551616)(b:k<=8)(z:ByteArray)(d:z=⟨(low k n).toArray⟩)(w:Ap)(u:SW (gN w)):
  At Am 26 #[Ab Al (n:Int),Ab Ak (k:Int)] u.w λ e w'=>e=Aj (Ae z)/\∃u':SW (gN w),w'=u'.w:=by
 subst d;refine(Ig n k c b u.w).mono ?_;rintro e w' ⟨rfl,a⟩;exact⟨rfl,⟨w',u.ok.trans (a.mono u.ok.size)⟩,rfl⟩
theorem RS{n:Nat}(w:Ap)(hr:gQ gZ w ao es)(hl:es.length=n):
  At Am 99 #[Aa ao n c] w λ e w'=>e=Aj (Af #[tx (iC es).1,Ab Ak (iC es).2])/\Iz w w':=by
 by_cases ac:64<n
 ·have q:(64:Int)<(n:Int):=by omega
  have e:iM es=4:=by unfold iM;rw[AC (by omega)]
  have e2:iC es=([],4):=by unfold iC;rw[e];rfl
  rw[e2];clear hr hl e e2;go_enter func99,ntmps99;go_wp2;refine As (AD rfl _ _ _) rfl ?_;exact⟨rfl,Ao _ _⟩
 have q:decide ((64:Int)<(n:Int))=false:=by rw[Az];omega
 have H:=I2 hr hl
 clear hr hl;go_enter func99,ntmps99;go_wp2_with fail;go_loopg[4,5] n (λ m sv iv wr=>∃(i:Nat) (s:ByteArray),iv=Ab Ak i/\i+m=n/\sv=Ae s/\Hid (s=⟨(gX (es.take i)).toArray⟩/\((es.take i).all λ e=>gV e.1)=true/\Iz w wr))
 case atStart=>exact⟨0,_,rfl,by omega,rfl,rfl,rfl,Ao _ _⟩
 case round =>
  obtain⟨i,s,rfl,hi,rfl,F⟩:=hrel;by_cases W:i<n
  ·have id:(i:Int)<(n:Int):=by omega
   have ap:(0:Int)<=(i:Int):=by omega
   obtain⟨e,he⟩:=BK H.o.2 W;obtain⟨b,off,rfl,an⟩:=H.o.1.some_of he;obtain⟨ar,c0,c1⟩:=(H.o.1.below F.o.2.2).ents he;obtain⟨d,z⟩:=e
   obtain⟨t,ht⟩:∃t:ByteArray,t=⟨d.toArray⟩:=⟨_,rfl⟩
   have ai:t.size=d.length:=by rw[ht];show d.toArray.size=_;simp
   simp only at c0 c1;rw[show tx d=Ae t by rw[ht]]at c0
   have HE:=I3 he ht ai
   have X:∀f,gV d=f->At Am 162 #[Ae t] wr λ e w'=>e=Aj (Ad f)/\Iz wr w':=λ f hf=>by rw[ht];exact NN d f hf wr
   clear he ht ai
   cases hp:gV d with
   | false =>
    have M:=X false hp
    have v:iC es=([],2):=by
     have:iM es=2:=by
      unfold iM;rw[Ay (by rw[H.o.2];exact ac),AC (Tc HE.o.1 hp)]
     unfold iC;rw[this]
     rfl
    clear X;go_wp2_with fail;refine M.mono ?_;rintro e J ⟨rfl,G⟩;go_wp2;refine As (AD rfl _ _ _) rfl ?_;exact⟨by rw[v];rfl,F.o.2.2.trans (G.mono F.o.2.2.size)⟩
   | true =>
    have M:=X true hp;clear X;go_wp2_with fail;refine M.mono ?_;rintro e J ⟨rfl,G⟩;clear M c0 c1;have B2:=F.o.2.2.trans (G.mono F.o.2.2.size);have af:=Ks hp
    have ad:s.size<=264*64:=by
     rw[F.o.1];show(gX (es.take i)).toArray.size<=_;have U:=NP (es:=es.take i) (λ x hx=>by have:=Ks (List.all_eq_true.1 F.o.2.1 x hx);omega)
     have V:(es.take i).length<=64:=by rw[AE,H.o.2];omega
     simp only[List.size_toArray];omega
    obtain⟨z1,Y⟩:∃z1:ByteArray,z1=⟨(low 1 t.size).toArray⟩:=⟨_,rfl⟩
    obtain⟨z8,Z⟩:∃z8:ByteArray,z8=⟨(low 8 z.toNat).toArray⟩:=⟨_,rfl⟩
    have l1:z1.size=1:=by rw[Y];show(low 1 t.size).toArray.size=1;simp[Bp]
    have l8:z8.size=8:=by rw[Z];show(low 8 z.toNat).toArray.size=8;simp[Bp]
    have aq:t.size<=102:=by rw[HE.o.2.2];exact af
    have NE:Nonempty (SW (gN J)):=⟨⟨J,Ao _ _⟩⟩
    have T:∀u:SW (gN J),Iz w u.w:=λ u=>B2.trans (u.ok.mono B2.size)
    have k0:∀u:SW (gN J),u.w.cell? ⟨b,off+i*2,none⟩=some (Ae t):=λ u=>by
     have:=((H.o.1.below (T u)).ents HE.o.1).2.1;rw[HE.o.2.1];exact this
    have k1:∀u:SW (gN J),u.w.cell? ⟨b,off+i*2+1,none⟩=some (Ab Al (z.toNat:Int)):=λ u=>((H.o.1.below (T u)).ents HE.o.1).2.2
    have n1:∀u:SW (gN J),At Am 26 #[Ab Al (t.size:Int),Ab Ak 1] u.w λ e w'=>e=Aj (Ae z1)/\∃u':SW (gN J),w'=u'.w:=Ia t.size 1 (by omega) (by omega) z1 Y J
    have n8:∀u:SW (gN J),At Am 26 #[Ab Al (z.toNat:Int),Ab Ak 8] u.w λ e w'=>e=Aj (Ae z8)/\∃u':SW (gN J),w'=u'.w:=Ia z.toNat 8 z.toNat_lt (by omega) z8 Z J
    have av:Al.wrap (t.size:Int)=(t.size:Int):=by rw[IntKind.wrap_u64];omega
    have a1:¬(9223372036854775807<s.size+z1.size):=by omega
    have a2:¬(9223372036854775807<(s++z1).size+t.size):=by rw[Fi];omega
    have a3:¬(9223372036854775807<(s++z1++t).size+z8.size):=by rw[Fi,Fi];omega
    have HN:Hid (s++z1++t++z8=⟨(gX (es.take (i+1))).toArray⟩):=by
     show _=_;rw[RJ HE.o.1,F.o.1,Y,Z,HE.o.2.1]
     have e1:low 1 (⟨d.toArray⟩:ByteArray).size=[UInt8.ofNat d.length]:=by
      have:(⟨d.toArray⟩:ByteArray).size=d.length:=by show d.toArray.size=_;simp
      rw[this];rfl
     rw[e1];apply ByteArray.ext;simp[b8]
    have ab:=I2 B2 hp
    clear T af ad l1 l8 aq Y Z B2 G;go_wp2_with fail;refine Bb (S:=gN J) (by kernel_rfl) (by kernel_rfl) (Ao _ J).drew ?_
    repeat(go_big_quiet_step (first | with_reducible exact n1 _ | with_reducible exact n8 _))
    refine AS ?_;intro _ A;obtain⟨u,p⟩:=A;subst p;have N4:=Ih (ab.o.1.trans (u.ok.mono ab.o.1.size))
    obtain⟨w4,r⟩:=Xb u.w
    rw[<- r]at N4 ⊢;clear r k0 k1 n1 n8 NE u;go_wp2;go_roundg (gk - 1)
    case measure=>omega
    case rel=>exact⟨i+1,_,by go_num,by omega,rfl,HN.o,S7 HE.o.1 F.o.2.1 ab.o.2,N4.o⟩
  ·obtain rfl:i=n:=by omega
   have ag:es.take i=es:=Av (by rw[H.o.2];omega)
   have HA:Hid (s=⟨(gX es).toArray⟩/\((es.all λ e=>gV e.1)=true)/\Iz w wr):=by
    have:=F.o;rw[ag]at this;exact this
   obtain⟨w1,aj⟩:=Xb wr
   rw[<- aj]at HA ⊢;clear ag aj F wr W hi;go_wp2_with fail;go_loopg[6,7] i (λ m iv _ wr=>∃k:Nat,iv=Ab Ak k/\k+m=i/\Hid ((∀j l,j<k->¬mt es j l)/\Iz w wr))
   case atStart=>exact⟨0,rfl,by omega,λ j l h=>absurd h (by omega),HA.o.2.2⟩
   case round =>
    obtain⟨k,rfl,hi,F⟩:=hrel;by_cases W:k<i
    ·have id:(k:Int)<(i:Int):=by omega
     have ap:(0:Int)<=(k:Int):=by omega
     obtain⟨J,ak⟩:=Xb wr
     rw[<- ak]at F ⊢;clear ak wr;go_wp2_with fail;go_loopg[7] i (λ m iv wr=>∃l:Nat,iv=Ab Ak l/\l+m=i/\Hid ((∀j,j<l->¬mt es k j)/\Iz w wr))
     case atStart=>exact⟨0,rfl,by omega,λ j h=>absurd h (by omega),F.o.2⟩
     case round =>
      obtain⟨l,rfl,hl,HQ⟩:=hrel;by_cases am:l<i
      ·have ld:(l:Int)<(i:Int):=by omega
       have au:(0:Int)<=(l:Int):=by omega
       obtain⟨x,hx⟩:=BK H.o.2 W;obtain⟨y,hy⟩:=BK H.o.2 am;obtain⟨b,off,rfl,an⟩:=H.o.1.some_of hx;obtain⟨B,xb⟩:=x;obtain⟨C,yb⟩:=y
       have NE:Nonempty (SW (gN wr)):=⟨⟨wr,Ao _ _⟩⟩
       have T:∀u:SW (gN wr),Iz w u.w:=λ u=>HQ.o.2.trans (u.ok.mono HQ.o.2.size)
       have k0:∀u:SW (gN wr),u.w.cell? ⟨b,off+k*2,none⟩=some (tx B):=λ u=>((H.o.1.below (T u)).ents hx).2.1
       have k1:∀u:SW (gN wr),u.w.cell? ⟨b,off+l*2,none⟩=some (tx C):=λ u=>((H.o.1.below (T u)).ents hy).2.1
       obtain⟨f,hf⟩:=Xa (under B C)
       have D:∀u:SW (gN wr),At Am 163 #[tx B,tx C] u.w λ e w'=>e=Aj (Ad f)/\∃u':SW (gN wr),w'=u'.w:=λ u=>by
        refine(SB ⟨B.toArray⟩ ⟨C.toArray⟩ u.w).mono ?_;rintro e w' ⟨rfl,rfl⟩;exact⟨by rw[<- hf],u,rfl⟩
       have I:=I3 hx hy hf
       have fine:∀u:SW (gN wr),¬mt es k l->Hid ((∀j,j<l+1->¬mt es k j)/\Iz w u.w):=λ u R=>by
        refine⟨λ j hj=>?_,T u⟩
        rcases Ct j l with q|q
        ·exact HQ.o.1 j q
        ·obtain rfl:j=l:=by omega
         exact R
       have Q:mt es k l->iC es=([],12):=λ R=>by
        have:iM es=12:=by
         unfold iM;rw[Ay (by rw[H.o.2];exact ac),Ay (by rw[HA.o.2.1];decide),Ay (dV R)]
        unfold iC;rw[this]
        rfl
       have L:=I3 fine Q T
       clear hx hy hf fine Q T
       rcases Nat.lt_trichotomy k l with P|P|P
       ·have d1:decide ((k:Int)<(l:Int))=true:=by rw[CZ];omega
        have d2:((k:Int) != (l:Int))=true:=by rw[Ex];omega
        have d3:(k:Int)<(l:Int):=by omega
        by_cases E:B<C
        ·have q1:BM B C=true:=by rw[Ho,CZ];exact E
         have q2:BM C B=false:=by rw[Ho,Az];exact List.lt_asymm E
         have q3:(C==B)=false:=by rw[A3];rintro rfl;exact Eb _ E
         have q4:(B==C)=false:=by rw[A3];rintro rfl;exact Eb _ E
         go_wp2_with fail;refine Bb (S:=gN wr) (by kernel_rfl) (by kernel_rfl) (Ao _ wr).drew ?_
         repeat(go_big_quiet_step (with_reducible exact D _))
         refine AS ?_;intro _ A;obtain⟨u,p⟩:=A;subst p;have K:=L.o.1 u;have O:=Ih (L.o.2.2 u);have g:=Ih K
         obtain⟨w4,r⟩:=Xb u.w
         rw[<- r]at g O ⊢;clear K r k0 k1 D NE u
         cases f with
         | true =>
          have v:=L.o.2.1 (⟨_,_,I.o.1,I.o.2.1,.inr ⟨by omega,I.o.2.2⟩⟩);clear g;go_wp2;refine As (AD rfl _ _ _) rfl ?_;exact⟨by rw[v];rfl,O.o⟩
         | false =>
          have N:=g.o (by
            rintro⟨a,b',U,V,h3⟩;rw[I.o.1]at U;rw[I.o.2.1]at V;cases U;cases V
            rcases h3 with⟨g1,g2⟩ | ⟨g1,g2⟩
            ·first | exact g2 E | omega
            ·first | omega | (rw[I.o.2.2]at g2;cases g2))
          clear g;go_wp2;go_roundg (gk - 1)
          case measure=>omega
          case rel=>exact⟨l+1,by go_num,by omega,N⟩
        ·by_cases hq:B=C
         ·have v:=L.o.2.1 ⟨_,_,I.o.1,I.o.2.1,.inl ⟨P,E⟩⟩
          have q1:BM B C=false:=by rw[Ho,Az];exact E
          have q2:BM C B=false:=by rw[Ho,Az,<- hq];exact Eb _
          have q3:(C==B)=true:=by rw[Eg];exact hq.symm
          have q4:(B==C)=true:=by rw[Eg];exact hq
          clear hq;go_wp2_with fail;refine Bb (S:=gN wr) (by kernel_rfl) (by kernel_rfl) (Ao _ wr).drew ?_
          repeat(go_big_quiet_step (with_reducible exact D _))
          refine AS ?_;intro _ A;obtain⟨u,p⟩:=A;subst p;have K:=L.o.1 u;have O:=Ih (L.o.2.2 u);have g:=Ih K
          obtain⟨w4,r⟩:=Xb u.w
          rw[<- r]at g O ⊢;clear K r k0 k1 D NE u;clear g;go_wp2;refine As (AD rfl _ _ _) rfl ?_;exact⟨by rw[v];rfl,O.o⟩
         ·have v:=L.o.2.1 ⟨_,_,I.o.1,I.o.2.1,.inl ⟨P,E⟩⟩
          have aa:C<B:=by
           by_cases k':C<B
           ·exact k'
           ·exact absurd (List.le_antisymm k' E) hq
          have q1:BM B C=false:=by rw[Ho,Az];exact E
          have q2:BM C B=true:=by rw[Ho,CZ];exact aa
          have q3:(C==B)=false:=by rw[A3];exact λ e=>hq e.symm
          have q4:(B==C)=false:=by rw[A3];exact hq
          clear hq aa;go_wp2_with fail;refine Bb (S:=gN wr) (by kernel_rfl) (by kernel_rfl) (Ao _ wr).drew ?_
          repeat(go_big_quiet_step (with_reducible exact D _))
          refine AS ?_;intro _ A;obtain⟨u,p⟩:=A;subst p;have K:=L.o.1 u;have O:=Ih (L.o.2.2 u);have g:=Ih K
          obtain⟨w4,r⟩:=Xb u.w
          rw[<- r]at g O ⊢;clear K r k0 k1 D NE u;clear g;go_wp2;refine As (AD rfl _ _ _) rfl ?_;exact⟨by rw[v];rfl,O.o⟩
       ·subst P
        have ae:¬mt es k k:=by
         rintro⟨a,b',U,V,h3⟩
         rcases h3 with⟨g1,g2⟩ | ⟨g1,g2⟩
         ·omega
         ·exact g1 rfl
        have al:=Ih ae;clear ae;go_wp2_with fail;refine Bb (S:=gN wr) (by kernel_rfl) (by kernel_rfl) (Ao _ wr).drew ?_
        repeat(go_big_quiet_step (with_reducible exact D _))
        refine AS ?_;intro _ A;obtain⟨u,p⟩:=A;subst p;have K:=L.o.1 u;have O:=Ih (L.o.2.2 u);have g:=Ih K
        obtain⟨w4,r⟩:=Xb u.w
        rw[<- r]at g O ⊢;clear K r k0 k1 D NE u;have N:=g.o (al.o);clear g;go_wp2;go_roundg (gk - 1)
        case measure=>omega
        case rel=>exact⟨k+1,by go_num,by omega,N⟩
       ·have d1:decide ((k:Int)<(l:Int))=false:=by rw[Az];omega
        have d4:decide (k<l)=false:=by rw[Az];omega
        have d5:((k:Int)==(l:Int))=false:=by rw[A3];omega
        have d6:(k==l)=false:=by rw[A3];omega
        have d7:(k != l)=true:=by rw[Ex];omega
        have d2:((k:Int) != (l:Int))=true:=by rw[Ex];omega
        go_wp2_with fail;refine Bb (S:=gN wr) (by kernel_rfl) (by kernel_rfl) (Ao _ wr).drew ?_
        repeat(go_big_quiet_step (with_reducible exact D _))
        refine AS ?_;intro _ A;obtain⟨u,p⟩:=A;subst p;have K:=L.o.1 u;have O:=Ih (L.o.2.2 u);have g:=Ih K
        obtain⟨w4,r⟩:=Xb u.w
        rw[<- r]at g O ⊢;clear K r k0 k1 D NE u
        cases f with
        | true =>
         have v:=L.o.2.1 (⟨_,_,I.o.1,I.o.2.1,.inr ⟨by omega,I.o.2.2⟩⟩);clear g;go_wp2;refine As (AD rfl _ _ _) rfl ?_;exact⟨by rw[v];rfl,O.o⟩
        | false =>
         have N:=g.o (by
           rintro⟨a,b',U,V,h3⟩;rw[I.o.1]at U;rw[I.o.2.1]at V;cases U;cases V
           rcases h3 with⟨g1,g2⟩ | ⟨g1,g2⟩
           ·omega
           ·first | omega | (rw[I.o.2.2]at g2;cases g2))
         clear g;go_wp2;go_roundg (gk - 1)
         case measure=>omega
         case rel=>exact⟨l+1,by go_num,by omega,N⟩
      ·obtain rfl:l=i:=by omega
       have HZ:Hid (∀j l,j<k+1->¬mt es j l):=λ j l hj R=>by
        rcases Ct j k with q|q
        ·exact F.o.1 j l q R
        ·obtain rfl:j=k:=by omega
         have G:=R;obtain⟨_,_,_,V,_⟩:=G;exact HQ.o.1 l (by have:=(AG.1 V).1;rw[H.o.2]at this;exact this) R
       go_wp2;go_roundg (l - (k+1))
       case measure=>omega
       case rel=>exact⟨k+1,by go_num,by omega,HZ.o,HQ.o.2⟩
    ·obtain rfl:k=i:=by omega
     have ah:Tr es:=cX (λ j l R=>by
      have G:=R;obtain⟨_,_,U,_,_⟩:=G
      exact F.o.1 j l (by have:=(AG.1 U).1;rw[H.o.2]at this;exact this) R)
     have v:iC es=(gX es,0):=by
      unfold iC;rw[AC (SU (by rw[H.o.2];omega) HA.o.2.1 ah)]
     clear ah;go_wp2;refine As (AD rfl _ _ _) rfl ?_;exact⟨by rw[v,HA.o.1];rfl,F.o.2⟩
end Go.Proofs.YtakgkgmopmcecaaGreat
