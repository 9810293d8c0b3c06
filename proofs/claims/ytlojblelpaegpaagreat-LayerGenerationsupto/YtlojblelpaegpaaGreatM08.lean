/-
  Several texts, laid together.
-/
import Derived.Test.YtlojblelpaegpaaGreatM07
import Derived.Test.YtlojblelpaegpaaGreatM06
set_option maxHeartbeats 6400000
set_option maxRecDepth 100000
open Go renaming maxLen->AG,Value->Ar,Calls->At,World->Ap
open Go.Instr renaming lookup->Db,mapUpdate->Ec
open Go.RowKit renaming Below->An
open List renaming length_append->AD,mem_of_getElem?->AY,take_of_length_le->Av,length_take->AM
open Nat renaming le_refl->Az,lt_of_lt_of_le->AI,zero_le->BG,le_succ->FC
open Go.Value renaming slice->Aa,int->Ab,bool->Ad,string->Ae,tuple->Af,pointer->Ah
open Go.Ending renaming returned->Aj
open Go.IntKind renaming i64->Ak,u64->Al
open Go.Proofs.Tryz renaming prog->Am
open Go.Proofs.Tryz
namespace Go.Proofs.YtlojblelpaegpaaGreat
open Go.RowKit
variable{S':Nat->Prop}{W w w' w1:Ap}{a c:List Bs}{body bs n own:Bs}{d':Dk}{i k m:Nat}{p:Addr}{v:Ar}{α:Type}
theorem ZaQ(n:Bs):(⟨n.toArray⟩:ByteArray).size=n.length:=by simp[ByteArray.size]
section
variable{S:Nat->Prop}{X:Bs->Prop}{w:World}{b m:Nat}{f:Bs->Option Value}{a k:Int}{d:Dk}
theorem ZaH.look(h:ZaH w b m f a k d S X)(n:Bs)(c:n.length<=AG)(o:Option Ar)(e:f n=o):
  (Db 209 (.map (some m)) (tx n) true).run Am w=.ok (Af #[o.getD (Aa none 0 0),Ad o.isSome]) w:=by
 subst e;exact h.files.map.look ⟨n.toArray⟩ (by rw[ZaQ];exact c)
theorem ZaH.look1(h:ZaH w b m f a k d S X)(n:Bs)(c:n.length<=AG)(o:Option Ar)(e:f n=o):
  (Db 209 (.map (some m)) (tx n) false).run Am w=.ok (o.getD (Aa none 0 0)) w:=by
 subst e;exact h.files.map.look1 ⟨n.toArray⟩ (by rw[ZaQ];exact c)
theorem Zo4(h:Zaq w b m f a k d S)(n:Bs)(r:n.length<=AG)(o:Option Ar)(l:f n=o)(bs:Bs)(c:BAt w (o.getD (Aa none 0 0)) bs)(x:bs.length<=262144):
  At Am 108 #[Ah (some ⟨b,0,none⟩),tx n] w λ e w'=>∃v,e=Aj (Af #[v,Ad o.isSome])/\OwnG encB 5 w' w.heap.size v bs/\An w.heap.size w w':=by
 have i:=Zjy w c (by omega);have s:=h.look n r o l;have t:=h.cell.1;have H:Hid _:=h;clear l h c
 obtain⟨u,p⟩:=Xa (o.getD (Aa none 0 0))
 obtain⟨g,j⟩:=Xa o.isSome
 rw[p,j]at s;rw[p]at i;rw[j];go_enter func108,ntmps108;go_wp2_with fail;refine i.mono ?_;rintro e w1 ⟨v,rfl,q,c⟩;go_wp2;refine bodyPost_ret (results_tmp2 rfl _ _ _) rfl ?_;exact⟨v,rfl,q,c⟩
theorem Zpt(h:Zav w b d S)(n:Bs)(i:n.length<=AG)(j:∀bs,fget d.files n=some bs->bs.length<=262144):
  At Am 108 #[Ah (some ⟨b,0,none⟩),tx n] w λ e w'=>∃v,e=Aj (Af #[v,Ad (fget d.files n).isSome])/\OwnG encB 5 w' w.heap.size v ((fget d.files n).getD [])/\An w.heap.size w w':=by
 obtain⟨m,f,a,k,h⟩:=h
 rcases h.file n with⟨c,g⟩ | ⟨bs,v,c,g,l⟩
 ·rw[c];exact Zo4 h n i none g [] (OwnB.at (OwnG.nil _ _ _ _)) (by simp)
 ·rw[c];exact Zo4 h n i (some v) g bs (OwnB.at (l.elim False.elim id)) (j bs c)
theorem ZdL(h:Zaq w b m f a k d S)(n:Bs)(hn:n.length<=AG)(z:Nat)(hz:z<=262144){l:List Bs}(hp:ZaF w v l)(Y:l.length<=1000000)(p:∀x∈l,x.length<=140737488355328)
  (g:Bool) (y:(decide (z+l.flatten.length<=262144)&&((fget d.files n).isSome||decide (d.files.length<32)))=g) :
  At Am 192 #[Ah (some ⟨b,0,none⟩),tx n,Ab Ak (z:Int),v] w λ e w'=>e=Aj (Ad g)/\w'=w:=by
 obtain⟨ao,c,rfl,K,Q⟩:=hp
 obtain⟨N,J⟩:=Xa l.length
 rw[J]at Y K ⊢;have U:=h.look n hn _ rfl;rw[h.some_iff n]at U
 obtain⟨u,G⟩:=Xa ((f n).getD (Aa none 0 0))
 obtain⟨q,hq⟩:=Xa ((fget d.files n).isSome)
 obtain⟨L,R⟩:=Xa d.files.length
 rw[G,hq]at U;rw[hq,R]at y;have D:=h.files.map.len;rw[R]at D;have c0:=h.cell.1;have A:Hid (0<N->∃b off,ao=some ⟨b,off,none⟩/\b<w.heap.size):=K;have B:Hid (∀j x b off,l[j]? = some x->ao=some ⟨b,off,none⟩->∃u,w.cell? ⟨b,off+j,none⟩=some u/\BAt w u x):=Q
 have H:Hid ((decide (z+l.flatten.length<=262144)&&(q||decide (L<32)))=g/\l.length=N/\∀x∈l,x.length<=140737488355328):=⟨y,J,p⟩
 clear K Q y J p G hq h;go_enter func192,ntmps192;go_wp2;go_loopg[2,15] N (λ k sv iv wr=>wr=w/\∃i s:Nat,iv=Ab Ak i/\i+k=N/\sv=Ab Ak (s:Int)/\s<=262144/\Hid (s=z+(l.take i).flatten.length))
 case atStart=>exact⟨rfl,0,z,rfl,by omega,rfl,hz,rfl⟩
 case round =>
  obtain⟨V,i,s,rfl,hi,rfl,hs,I⟩:=hrel;have O:=V.symm;subst O;clear V;by_cases M:i<N
  ·have id:(i:Int)<(N:Int):=by omega
   obtain⟨x,p⟩:=Zaf H.o.2.1 M;obtain⟨b1,o1,rfl,Z⟩:=A.o (by omega);obtain⟨u,G,a2,c2,rfl,_,_,_⟩:=B.o i x b1 o1 p rfl;have F:=ZdK l (i+1);rw[Za8 p,AD]at F;have P:=H.o.2.2 x (AY p)
   obtain⟨C,r⟩:=Xa x.length
   rw[r]at P G F
   have E:Hid ((l.take i).flatten.length+C<=l.flatten.length/\s+C=z+(l.take (i+1)).flatten.length):=⟨F,by rw[Za8 p,AD,r,I.o];omega⟩
   clear F p r;by_cases T:262144<s+C
   ·have t:decide ((262144:Int)<(s:Int)+(C:Int))=true:=by simp;omega
    have W:g=false:=by
     rw[<- H.o.1]
     have:decide (z+l.flatten.length<=262144)=false:=by
      have e3:=E.o.1;have e4:=I.o;rw[Ax];omega
     rw[this]
     rfl
    subst W;go_wp2;go_ret;exact⟨rfl,rfl⟩
   ·have t:decide ((262144:Int)<(s:Int)+(C:Int))=false:=by simp;omega
    go_wp2;go_roundg (gk - 1)
    all_goals first
     | omega
     | exact⟨rfl,i+1,s+C,by go_num,by omega,by go_num,by omega,E.o.2⟩
  ·obtain rfl:i=N:=by omega
   have e0:s=z+l.flatten.length:=by rw[I.o,Av (by rw[H.o.2.1];exact Az _)]
   have y:(q||decide (L<32))=g:=by
    rw[<- H.o.1]
    have:decide (z+l.flatten.length<=262144)=true:=by rw[A5];omega
    rw[this]
    rfl
   clear e0;cases q
   ·have X:decide ((L:Int)<32)=g:=by rw[<- y,Bool.false_or];exact D8.2 (by omega)
    clear y;go_wp2;go_ret;exact⟨rfl,rfl⟩
   ·subst y;go_wp2;go_ret;exact⟨rfl,rfl⟩
end
section
variable{S:Nat->Prop}{X:Bs->Prop}{w:World}{b m:Nat}{f:Bs->Option Value}{a k:Int}{d:Dk}
theorem Zdq{w w':Ap}{m:Nat}(h:w.grownBy w' (some m)):Zaa (λ i=>i=m) w w':=(Zaa.refl _ w).grown h (λ i _ e=>by cases e;rfl)
theorem Zj9{w w':Ap}{m:Nat}(h:w.grownBy w' (some m)){p:Addr}(hp:p.block<w.heap.size)(a:p.block≠m):w'.cell? p=w.cell? p:=(Zdq h).cell hp a
theorem ZaH.putIn(h:ZaH w b m f a k d S X)(D:Zcu d.files)(K:∀x,X x->x=n)(I:OwnB w v bs)(z:∀y u g,y≠n->f y=some u->u.ownBlock=some g->v.ownBlock≠some g)(F:∀g,v.ownBlock=some g->S g)(l:w.grownBy w' (some m))(A:Zb2 w' m (fput f n v) (if(f n).isSome then d.files.length else d.files.length+1)):
  Zaq w' b m (fput f n v) a k { d with files:=fwith d.files n bs } S:=by
 have E:Zaa (λ i=>i=m) w w':=(Zaa.refl _ w).grown l (λ i _ e=>by cases e;rfl)
 have p:∀{u:Ar} {cs:Bs} {g:Nat},OwnB w u cs->u.ownBlock=some g->g≠m:=by
  intro u cs g C l e;obtain⟨J,H⟩:=C.block l;obtain⟨es,c,B⟩:=h.files.map.block;rw[e,B]at H;cases H
 refine⟨?_,h.cut,?_,h.mine,λ i hi=>AI (h.lt i hi) l.size⟩
 ·rw[E.block b h.lt_b (λ e=>h.m_ne e.symm)];exact h.cells
 ·refine⟨?_,?_,?_,?_,?_⟩
  ·rw[ZdS n bs D,<- h.some_iff n];cases e:(f n).isSome
   ·rw[e]at A;exact A
   ·rw[e]at A;exact A
  ·intro x j;rw[Zeu n bs x D]at j;by_cases e:n=x
   ·rw[AE e]at j;cases j
   ·rw[Aw e]at j;unfold fput;rw[Aw (λ q=>e q.symm)];exact h.files.no x j
  ·intro x cs j;rw[Zeu n bs x D]at j;unfold fput;by_cases e:n=x
   ·rw[AE e]at j;cases j;rw[AE e.symm];exact⟨v,rfl,.inr (I.turned E (λ g l=>p I l))⟩
   ·rw[Aw e]at j;rw[Aw (λ q=>e q.symm)];obtain⟨u,o,C⟩:=h.files.yes x cs j;refine⟨u,o,.inr ?_⟩
    rcases C with q|q
    ·exact absurd (K x q).symm e
    ·exact q.turned E (λ g l=>p q l)
  ·intro x y u v' g r j s o;unfold fput at j s;by_cases t:x=n
   ·rw[AE t]at j;cases j;rw[Aw (λ q=>r (by rw[t,q]))]at s;intro q;exact z y v' g (λ q=>r (by rw[t,q])) s q o
   ·rw[Aw t]at j;by_cases G:y=n
    ·rw[AE G]at s;cases s;exact z x u g t j o
    ·rw[Aw G]at s;exact h.files.apart x y u v' g r j s o
  ·intro x u g j o;unfold fput at j;by_cases e:x=n
   ·rw[AE e]at j;cases j;exact F g o
   ·rw[Aw e]at j;exact h.files.own x u g j o
theorem Zmn(h:ZaH w b m f a k d S X)(C:Zcu d.files)(B:d.files.length<=1000)(L:n.length<=140737488355328)(A:∀x,X x->x=n)(E:OwnB w v bs)(r:∀y u g,y≠n->f y=some u->u.ownBlock=some g->v.ownBlock≠some g)(t:∀g,v.ownBlock=some g->S g):
  At Am 173 #[Ah (some ⟨b,0,none⟩),tx n,v] w λ e w'=>e=Aj (Af #[])/\Zaq w' b m (fput f n v) a k { d with files:=fwith d.files n bs } S/\Zaa (λ i=>i=m) w w':=by
 have K:=h.cell.1
 have H:Hid (ZaH w b m f a k d S X/\Zcu d.files/\d.files.length<=1000/\(∀x,X x->x=n)/\OwnB w v bs/\(∀y u g,y≠n->f y=some u->u.ownBlock=some g->v.ownBlock≠some g)/\∀g,v.ownBlock=some g->S g):=⟨h,C,B,A,E,r,t⟩
 clear h C B A E r t;go_enter func173,ntmps173;go_wp2_with fail
 go_region_held3 (λ u=>u.cell? ⟨b,0,none⟩=some (.map (some m))) (go_keep)
  (first|(go_at_call 213;refine(ZjJ ⟨n.toArray⟩ _ (by rw[ZaQ];omega)).mono ?_;rintro e w1 ⟨rfl,z⟩;have l:=Zah z;obtain⟨F,D,s,c⟩:=(H.o.1.below l).files.map.put ⟨n.toArray⟩ (by rw[ZaQ];simp only[AG];omega) (by have:=H.o.2.2.1;simp only[AG];omega) v;have J:=(H.o.1.below l).cell.1;have N:=(Zj9 c (p:=⟨b,0,none⟩) (H.o.1.below l).lt_b (λ e=>H.o.1.m_ne e.symm)).trans J;have M:Hid (An w.heap.size w w1/\w1.grownBy F (some m)/\Zb2 F m (fput f n v) (if(f n).isSome then d.files.length else d.files.length+1)):=⟨l,c,s⟩;clear z l s c))
 go_end0;have j:=M.o.1;have G:=H.o.1.below j;have I:=H.o.2.2.2.2.1.turned (Zaa.ofBelow (S:=λ _=>False) j) (λ _ _ q=>q);exact⟨rfl,ZaH.putIn G H.o.2.1 H.o.2.2.2.1 I H.o.2.2.2.2.2.1 H.o.2.2.2.2.2.2 M.o.2.1 M.o.2.2,(Zaa.ofBelow j).trans (Zdq M.o.2.1) (λ _ _ q=>q)⟩
theorem Zaq.row_lt(h:Zaq w b m f a k d S){x:Bs}{g:Nat}(e:f x=some v)(c:v.ownBlock=some g):g<w.heap.size:=h.lt g (h.files.own x v g e c)
theorem Zlw{z s:Ap}{cs:Bs}{r v3:Ar}{D:Int}(h:Zaq w b m f a k d S)(l:∀g,r.ownBlock=some g->f n=some r)(C:An w.heap.size w w1)(j:Zaq z b m f D k d' S)(v:Zaa (λ i=>i=b) w1 z)
  (G:OwnB s v3 cs) (E:ZaP z r v3) (p:Zaa (λ i=>r.ownBlock=some i) z s) :
  ZaH s b m f D k d' (ZaA S w s) (λ x=>x=n)/\(∀y u g,y≠n->f y=some u->u.ownBlock=some g->v3.ownBlock≠some g)/\(∀g,v3.ownBlock=some g->ZaA S w s g)/\Zaa S w s:=by
 have H:∀i,S i->i<s.heap.size:=λ i hi=>AI (j.lt i hi) p.size
 have o:∀g,r.ownBlock=some g->g≠b/\g≠m/\S g:=λ g c=>⟨(Zaq.row_ne j (l g c) c).1,(Zaq.row_ne j (l g c) c).2,j.files.own n r g (l g c) c⟩
 have I:w.heap.size<=z.heap.size:=Nat.le_trans C.size v.size;refine⟨⟨?_,j.cut,?_,⟨.inl j.mine.1,.inl j.mine.2⟩,?_⟩,?_,?_,?_⟩
 ·rw[p.block b j.lt_b (λ e=>(o b e).1 rfl)];exact j.cells
 ·refine(Zcz.mono j.files (S':=ZaA S w s) (X':=λ x=>x=n) (λ i hi=>.inl hi) (λ _ q=>q.elim)).turned p (λ e=>(o m e).2.1 rfl) ?_;intro x u g J B A c;exact j.files.apart x n u r g B J (l g c) A c
 ·intro i hi
  rcases hi with q|q
  ·exact H i q
  ·exact q.2
 ·intro y u g K A c q
  rcases E with e|e
  ·have t:r.ownBlock=some g:=by rw[<- e];exact q
   exact j.files.apart y n u r g K A (l g t) c t
  ·have F:=e g q;have L:=Zaq.row_lt j A c;omega
 ·intro g c
  rcases E with e|e
  ·exact .inl (o g (by rw[<- e];exact c)).2.2
  ·have F:=e g c;exact .inr ⟨by omega,(G.lt g c).2⟩
 ·refine((Zaa.ofBelow C).trans (v.mono (T:=S) (λ i _ e=>by rw[e];exact h.mine.1)) (λ _ _ q=>q)).trans (p.mono (T:=S) (λ i _ e=>(o i e).2.2)) (λ _ _ q=>q)
theorem ZlN{c a:Ap}{d:Int}{f:Bs->Option Ar}(l:S m)(j:Zaa S w c)(g:Zaq a b m f d k d' (ZaA S w c))(h:Zaa (λ i=>i=m) c a):Zav a b d' (ZaA S w a)/\Zaa S w a:=by
 refine⟨⟨m,f,d,k,ZaH.mono g (λ i hi=>?_) (λ _ q=>q) (λ i hi=>?_)⟩,j.trans (h.mono (T:=S) (λ i _ e=>by rw[e];exact l)) (λ _ _ q=>q)⟩
 ·rcases hi with q|q
  ·exact .inl q
  ·exact .inr ⟨q.1,AI q.2 h.size⟩
 ·rcases hi with q|q
  ·exact g.lt i (.inl q)
  ·exact q.2
theorem ZpL(b:Nat)(n:Bs)(a:isName n=false)(d v:Ar):At Am 133 #[Ah (some ⟨b,0,none⟩),tx n,d,v] w λ e w'=>e=Aj (Ab Ak 2)/\w'=w:=by
 have c:=ZbP n false a w;clear a;go_enter func133,ntmps133;go_wp2_with fail;refine c.mono ?_;rintro e w1 ⟨rfl,rfl⟩;go_wp2;go_ret;exact⟨rfl,rfl⟩
theorem ZoG(h:Zaq w b m f a k d S)(n:Bs)(j:isName n=true)(r:n.length<=AG){o:Ar}(g:OwnB w o own)(t:own.length<=262144)(hp:ZaF w v c)(q:c.length<=1000000)(l:∀x∈c,x.length<=140737488355328)
  (i:(decide (own.length+c.flatten.length<=262144)&&((fget d.files n).isSome||decide (d.files.length<32)))=false) :
  At Am 133 #[Ah (some ⟨b,0,none⟩),tx n,o,v] w λ e w'=>e=Aj (Ab Ak 7)/\w'=w:=by
 have p:=ZbP n true j w;have s:=ZdL h n r own.length t hp q l false i;obtain⟨ao,cc,rfl,_⟩:=OwnG.form g;clear j h g hp l i;go_enter func133,ntmps133;go_wp2_with fail;refine p.mono ?_;rintro e w1 ⟨rfl,rfl⟩;go_wp2_with fail;refine s.mono ?_;rintro e w1 ⟨rfl,rfl⟩;go_wp2;go_ret;exact⟨rfl,rfl⟩
theorem Zoa(h:Zaq w b m f a k d S)(hd:d.dead=true)(n:Bs)(j:isName n=true)(s:n.length<=AG){o:Ar}(g:OwnB w o own)(u:own.length<=262144)(hp:ZaF w v c)(r:c.length<=1000000)(l:∀x∈c,x.length<=140737488355328)
  (i:(decide (own.length+c.flatten.length<=262144)&&((fget d.files n).isSome||decide (d.files.length<32)))=true) :
  At Am 133 #[Ah (some ⟨b,0,none⟩),tx n,o,v] w λ e w'=>e=Aj (Ab Ak 8)/\w'=w:=by
 have q:=ZbP n true j w;have t:=ZdL h n s own.length u hp r l true i;have p:=h.cell.2.2.1;rw[hd]at p;obtain⟨ao,cc,rfl,_⟩:=OwnG.form g;clear j h g hp l i hd;go_enter func133,ntmps133;go_wp2_with fail;refine q.mono ?_;rintro e w1 ⟨rfl,rfl⟩;go_wp2_with fail;refine t.mono ?_;rintro e w1 ⟨rfl,rfl⟩;go_wp2;go_ret;exact⟨rfl,rfl⟩
theorem Zol(h:Zaq w b m f a k d S)(B:Zcu d.files)(A:d.files.length<=1000)(hd:d.dead=false)(z:(dnext d).2.1=true)(hb:d.after<9223372036854775808)(hw:d.writes<4611686018427387904)(n:Bs)(t:isName n=true)(hn:n.length<=140737488355328){F:Ar}
  (u:OwnB w F own) (C:∀g,F.ownBlock=some g->f n=some F) (hz:own.length<=262144) (hp:ZaF w v c) (X:c.length<=1000000) (Z:∀x∈c,x.length<=140737488355328)
  (I:(decide (own.length+c.flatten.length<=262144)&&((fget d.files n).isSome||decide (d.files.length<32)))=true) :
  At Am 133 #[Ah (some ⟨b,0,none⟩),tx n,F,v] w λ e w'=>e=Aj (Ab Ak 0)/\Zav w' b { (dnext d).1 with files:=fwith d.files n (own++c.flatten) } (ZaA S w w')/\Zaa S w w':=by
 have hc:=ZbP n true t w;have O:=ZdL h n (by simp only[AG];omega) own.length hz hp X Z true I
 have p:own.length+c.flatten.length<=262144:=by
  simp only[Bool.and_eq_true,A5]at I;exact I.1
 have c2:=h.cell.2.2.1;rw[hd]at c2;have y:=Zce w hp X (by omega);have s:OwnB w F own:=u;obtain⟨ao,cc,rfl,_⟩:=OwnG.form u
 have H:Hid (Zaq w b m f a k d S/\Zcu d.files/\d.files.length<=1000/\(dnext d).2.1=true/\OwnB w (Aa ao own.length cc) own/\(∀g,(Aa ao own.length cc).ownBlock=some g->f n=some (Aa ao own.length cc))/\own.length+c.flatten.length<=262144):=⟨h,B,A,z,s,C,p⟩
 clear t h u hp Z I hd B A z s C p;go_enter func133,ntmps133;go_wp2_with fail;refine hc.mono ?_;rintro e w1 ⟨rfl,j⟩;rw[j];clear j w1;go_wp2_with fail;refine O.mono ?_;rintro e w1 ⟨rfl,j⟩;rw[j];clear j w1;go_wp2_with fail;refine y.mono ?_;rintro e w1 ⟨vb,rfl,R,K⟩;have D:=Zhv (H.o.1.below K) hb hw
 have G:Hid (OwnG encB 5 w1 w.heap.size vb c.flatten/\An w.heap.size w w1):=⟨R,K⟩
 clear R K y;go_wp2_with fail;refine D.mono ?_;rintro e J ⟨r,a',rfl,B,W,l⟩
 have er:r=0:=by rw[B.o,AE H.o.2.2.2.1]
 subst er
 have V:Hid (Zaq J b m f a' k (dnext d).1 S/\Zaa (λ i=>i=b) w1 J):=⟨W,l⟩
 have b2:Hid (BAt J vb c.flatten/\OwnB J (Aa ao own.length cc) own):=by
  refine⟨?_,?_⟩
  ·refine OwnB.at (OwnB.turned (OwnG.low G.o.1 (BG _)) l (λ g t e=>?_));have:=(G.o.1.lt g t).1;have:=H.o.1.lt_b;rw[e]at *;omega
  ·refine OwnB.turned (OwnG.below H.o.2.2.2.2.1 G.o.2) l (λ g t e=>?_);exact(Zaq.row_ne H.o.1 (H.o.2.2.2.2.2.1 g t) t).1 e
 clear D B W l;go_wp2_with(at_builtin;(refine appB rfl (.tmp 46) (.tmp 47) rfl 0 _ _ own c.flatten rfl b2.o.2 rfl b2.o.1 (by have:=H.o.2.2.2.2.2.2;omega) (BG _) ?_;intro v3 w3 M _ Q T));have L:=Zlw H.o.1 H.o.2.2.2.2.2.1 G.o.2 V.o.1 V.o.2 M Q T;have N:(dnext d).1.files=d.files:=Zck d;have Y:=Zmn L.1 (by rw[N];exact H.o.2.1) (by rw[N];exact H.o.2.2.1) hn (λ x q=>q) M L.2.1 L.2.2.1;have LH:Hid (Zaa S w w3):=L.2.2.2;clear L M Q T;go_wp2_with fail;refine Y.mono ?_;rintro e w4 ⟨rfl,P,U⟩;have E:=ZlN H.o.1.mine.2 LH.o P U;rw[N]at E;clear P U Y;go_wp2;go_ret;exact⟨rfl,E.1,E.2⟩
theorem ZnS(h:Zaq w b m f a k d S)(F:Zcu d.files)(D:d.files.length<=1000)(hd:d.dead=false)(ha:d.armed=true)(h0:d.after=0)(hb:d.after<9223372036854775808)(hw:d.writes<4611686018427387904)(n:Bs)(t:isName n=true)(hn:n.length<=140737488355328){M:Ar}
  (u:OwnB w M own) (G:∀g,M.ownBlock=some g->f n=some M) (hz:own.length<=262144) (hp:ZaF w v c) (hl:c.length<=1000000) (hx:∀x∈c,x.length<=140737488355328)
  (P:(decide (own.length+c.flatten.length<=262144)&&((fget d.files n).isSome||decide (d.files.length<32)))=true) :
  At Am 133 #[Ah (some ⟨b,0,none⟩),tx n,M,v] w λ e w'=>e=Aj (Ab Ak 8)/\Zav w' b { (dnext d).1 with files:=fwith d.files n (own++c.flatten.take d.keep) } (ZaA S w w')/\Zaa S w w':=by
 have hc:=ZbP n true t w;have Z:=ZdL h n (by simp only[AG];omega) own.length hz hp hl hx true P
 have p:own.length+c.flatten.length<=262144:=by
  simp only[Bool.and_eq_true,A5]at P;exact P.1
 have C:(dnext d).2.1=false:=by rw[Zbz hd ha h0]
 have ek:k=(d.keep:Int):=(h.cut ha).2;subst ek;have c2:=h.cell.2.2.1;rw[hd]at c2;have B:=Zce w hp hl (by omega);have s:OwnB w M own:=u;obtain⟨ao,cc,rfl,_⟩:=OwnG.form u
 have H:Hid (Zaq w b m f a (d.keep:Int) d S/\Zcu d.files/\d.files.length<=1000/\(dnext d).2.1=false/\OwnB w (Aa ao own.length cc) own/\(∀g,(Aa ao own.length cc).ownBlock=some g->f n=some (Aa ao own.length cc))/\own.length+c.flatten.length<=262144):=⟨h,F,D,C,s,G,p⟩
 clear t h u hp hx P hd F D C s G p;go_enter func133,ntmps133;go_wp2_with fail;refine hc.mono ?_;rintro e w1 ⟨rfl,j⟩;rw[j];clear j w1;go_wp2_with fail;refine Z.mono ?_;rintro e w1 ⟨rfl,j⟩;rw[j];clear j w1;go_wp2_with fail;refine B.mono ?_;rintro e w1 ⟨vb,rfl,O1,Q⟩;have I:=Zhv (H.o.1.below Q) hb hw
 have O:Hid (OwnG encB 5 w1 w.heap.size vb c.flatten/\An w.heap.size w w1):=⟨O1,Q⟩
 clear O1 Q B;go_wp2_with fail;refine I.mono ?_;rintro e N ⟨r,a',rfl,F,hD,l⟩
 have er:r=8:=by rw[F.o,Aw (by rw[H.o.2.2.2.1];simp)]
 subst er
 have U:Hid (Zaq N b m f a' (d.keep:Int) (dnext d).1 S/\Zaa (λ i=>i=b) w1 N):=⟨hD,l⟩
 have b2:Hid (BAt N vb c.flatten/\OwnB N (Aa ao own.length cc) own):=by
  refine⟨?_,?_⟩
  ·refine OwnB.at (OwnB.turned (OwnG.low O.o.1 (BG _)) l (λ g t e=>?_));have:=(O.o.1.lt g t).1;have:=H.o.1.lt_b;rw[e]at *;omega
  ·refine OwnB.turned (OwnG.below H.o.2.2.2.2.1 O.o.2) l (λ g t e=>?_);exact(Zaq.row_ne H.o.1 (H.o.2.2.2.2.2.1 g t) t).1 e
 clear I F hD l;have c5:=U.o.1.cell.2.2.2.2.2.1
 obtain⟨K,eK⟩:=Xa d.keep
 rw[eK]at c5;have b3:=b2.o.1;obtain⟨V,W,rfl,Y,z,A⟩:=b3
 obtain⟨L,eL⟩:=Xa c.flatten.length
 obtain⟨J,eJ⟩:=Xa (min K L)
 have mj:min (K:Int) (L:Int)=(J:Int):=by omega
 have b4:Hid (BAt N (Aa V J W) (c.flatten.take K)):=by
  have e:(c.flatten.take K).length=J:=by rw[AM,eL,eJ]
  exact⟨V,W,by rw[e],by rw[e];omega,z,A.take K⟩
 have hJ:J<=L:=by omega
 have aa:(J:Int)<=(W:Int):=by omega
 rw[eL];have X:(dnext d).1.files=d.files:=Zck d
 have tl:(c.flatten.take K).length<=c.flatten.length:=by rw[AM];omega
 have T:Hid (own.length+(c.flatten.take K).length<=262144):=by have:=H.o.2.2.2.2.2.2;show _<=_;omega
 clear Y z A eJ tl;cases V
 all_goals go_wp2_with(at_builtin;(refine appB rfl (.tmp 46) (.tmp 47) rfl 0 _ _ own (c.flatten.take K) rfl b2.o.2 rfl b4.o (by have:=T.o;omega) (BG _) ?_;intro v3 w3 R _ M3 T3))
 all_goals have y:=Zlw H.o.1 H.o.2.2.2.2.2.1 O.o.2 U.o.1 U.o.2 R M3 T3
 all_goals have hs:=Zmn y.1 (by rw[X];exact H.o.2.1) (by rw[X];exact H.o.2.2.1) hn (λ x q=>q) R y.2.1 y.2.2.1
 all_goals have LH:Hid (Zaa S w w3):=y.2.2.2
 all_goals clear y R M3 T3
 all_goals go_wp2_with fail
 all_goals refine hs.mono ?_
 all_goals rintro e w4 ⟨rfl,D4,T4⟩
 all_goals have E:=ZlN H.o.1.mine.2 LH.o D4 T4
 all_goals rw[X]at E
 all_goals clear D4 T4 hs
 all_goals go_wp2
 all_goals go_ret
 all_goals exact⟨rfl,by rw[eK];exact E.1,E.2⟩
structure Dk.ok(d:Dk):Prop where
 rise:Zcu d.files
 few:d.files.length<=32
 each:∀f∈d.files,isName f.1=true/\f.2.length<=262144
 after:d.after<9223372036854775808
theorem Dk.ok.get(h:Dk.ok d)(a:fget d.files n=some bs):bs.length<=262144:=(h.each _ (ZiY a)).2
theorem ZjW(S:Nat->Prop)(w:Ap):∀i,ZaA S w w i->S i:=by
 intro i h
 rcases h with q|q
 ·exact q
 ·omega
theorem Zaq.same(h:Zaq w b m f a k d S):Zav w b d (ZaA S w w):=⟨m,f,a,k,ZaH.mono h (λ _ q=>.inl q) (λ _ q=>q) (λ i hi=>h.lt i (ZjW S w i hi))⟩
theorem ZlQ(h:Zaq w b m f a k d S)(s:d.ok)(J:d.writes<4611686018427387904)(n:Bs)(I:n.length<=140737488355328){A:Ar}{i:List Bs}
  (o:OwnB w A own) (z:∀g,A.ownBlock=some g->f n=some A) (F:own.length<=262144) (hp:ZaF w v i) (D:i.length<=1000000) (E:∀x∈i,x.length<=140737488355328) :
  At Am 133 #[Ah (some ⟨b,0,none⟩),tx n,A,v] w λ e w'=>∃r,e=Aj (Ab Ak r)/\Hid (r=(dlay d n own i.flatten).2)/\Zav w' b (dlay d n own i.flatten).1 (ZaA S w w')/\Zaa S w w':=by
 have y:n.length<=AG:=by simp only[AG];omega
 unfold dlay;by_cases C:isName n=false
 ·refine(ZpL b n C A v).mono ?_;rintro e w' ⟨rfl,rfl⟩;rw[AE C];exact⟨2,rfl,rfl,Zaq.same h,Zaa.refl _ _⟩
 ·rw[Aw C]
  have l:isName n=true:=by simpa using C
  by_cases c:262144<own.length+i.flatten.length∨(fget d.files n=none/\32<=d.files.length)
  ·have u:(decide (own.length+i.flatten.length<=262144)&&((fget d.files n).isSome||decide (d.files.length<32)))=false:=by
    rcases c with q|⟨L,K⟩
    ·rw[CW (by omega)];rfl
    ·rw[L,CW (p:=d.files.length<32) (by omega)];simp
   refine(ZoG h n l y o F hp D E u).mono ?_;rintro e w' ⟨rfl,rfl⟩;rw[AE c];exact⟨7,rfl,rfl,Zaq.same h,Zaa.refl _ _⟩
  ·rw[Aw c]
   have u:(decide (own.length+i.flatten.length<=262144)&&((fget d.files n).isSome||decide (d.files.length<32)))=true:=by
    rw[FW (by omega),Bool.true_and]
    cases q:fget d.files n with
    | none=>rw[FW (p:=d.files.length<32) (by have:¬(32<=d.files.length):=λ K=>c (.inr ⟨q,K⟩);omega)];rfl
    | some _=>rfl
   by_cases hd:d.dead=true
   ·refine(Zoa h hd n l y o F hp D E u).mono ?_;rintro e w' ⟨rfl,rfl⟩;rw[Zb8 hd];exact⟨8,rfl,rfl,Zaq.same h,Zaa.refl _ _⟩
   ·have hd:d.dead=false:=by simpa using hd
    by_cases j:d.armed=true/\d.after=0
    ·refine(ZnS h s.rise (by have:=s.few;omega) hd j.1 j.2 s.after J n l I o z F hp D E u).mono ?_;rintro e w' ⟨rfl,B,G⟩;rw[Zbz hd j.1 j.2]at B ⊢;exact⟨8,rfl,rfl,B,G⟩
    ·have t:(dnext d).2.1=true:=by
      by_cases H:d.armed=true
      ·rw[ZbH hd H (λ q=>j ⟨H,q⟩)]
      ·rw[ZbM hd (by simpa using H)]
     refine(Zol h s.rise (by have:=s.few;omega) hd t s.after J n l I o z F hp D E u).mono ?_;rintro e w' ⟨rfl,B,G⟩;rw[AE t];exact⟨0,rfl,rfl,B,G⟩
theorem Zlh(h:Zav w b d S)(l:d.ok)(B:d.writes<4611686018427387904)(n:Bs)(z:n.length<=140737488355328)(hp:ZaF w v c)(y:c.length<=1000000)(C:∀x∈c,x.length<=140737488355328):
  At Am 82 #[Ah (some ⟨b,0,none⟩),tx n,v] w λ e w'=>∃r,e=Aj (Ab Ak r)/\Hid (r=(dapp d n c.flatten).2)/\Zav w' b (dapp d n c.flatten).1 (ZaA S w w')/\Zaa S w w':=by
 obtain⟨m,f,a,k,h⟩:=h;have p:=h.look1 n (by simp only[AG];omega) _ rfl;have E:=h.cell.1
 have s:At Am 133 #[Ah (some ⟨b,0,none⟩),tx n,(f n).getD (Aa none 0 0),v] w λ e w'=>∃r,e=Aj (Ab Ak r)/\Hid (r=(dapp d n c.flatten).2)/\Zav w' b (dapp d n c.flatten).1 (ZaA S w w')/\Zaa S w w':=by
  unfold dapp
  rcases h.file n with⟨j,i⟩ | ⟨bs,u,j,i,D⟩
  ·rw[j,i];exact ZlQ h l B n z (OwnG.nil encB 5 w 0) (λ g t=>by simp[Value.ownBlock]at t) (by simp) hp y C
  ·rw[j,i];exact ZlQ h l B n z (D.elim False.elim id) (λ g t=>i) (l.get j) hp y C
 obtain⟨u,A⟩:=Xa ((f n).getD (Aa none 0 0))
 rw[A]at s p;clear h hp A;go_enter func82,ntmps82;go_wp2_with fail;refine s.mono ?_;rintro e w1 ⟨r,rfl,j,i,q⟩;have H:Hid _:=And.intro i q;clear i q;go_wp2;go_ret;exact⟨r,rfl,j,H.o.1,H.o.2⟩
end
theorem ZoZ(k:Int)(w:Ap)(h:ZaF w v a)(b:a.length<=1000000)(x:UInt64)(d:oid k a.flatten=x):
  At Am 181 #[Ab Ak k,v] w λ e w'=>e=Aj (Ab Al (x.toNat:Int))/\w'=w:=by
 refine(Zo8 k v _ w (h.parts b)).mono ?_;rintro e w' ⟨rfl,c⟩;exact⟨by rw[Zgm,Zpb,d],c⟩
theorem ZdV(k:Int)(w:Ap)(h:BAt w v bs)(x:UInt64)(b:oid k bs=x):
  At Am 178 #[Ab Ak k,v] w λ e w'=>e=Aj (Ab Al (x.toNat:Int))/\w'=w:=by
 refine(Zh1 k v _ w h.bytes).mono ?_;rintro e w' ⟨rfl,a⟩;exact⟨by rw[Zpb,b],a⟩
section
variable{w:World}{s b:Nat}{M:Nat->Nat}{r t:Nat}{F:Nat->UInt64->Option Value}{st:St}{S:Nat->Prop}
theorem Zan.look(h:Zan w s b M r t F st S)(c:k<4)(i:UInt64):
  ∃v,(Db 113 (.map (some (M k))) (Ab Al (i.toNat:Int)) true).run Am w=.ok (Af #[v,Ad (st.has (k:Int) i)]) w/\(∀bs,oget st.objs (k:Int) i=some bs->BAt w v bs/\ZdW S v)/\(oget st.objs (k:Int) i=none->v=Aa none 0 0):=by
 obtain⟨n,_,m⟩:=h.objs k c;have a:=m.look underlying113 (zeroS w) i trivial;have a:(Db 113 (.map (some (M k))) (Ab Al (i.toNat:Int)) true).run Am w=.ok (Af #[(F k i).getD (Aa none 0 0),Ad (F k i).isSome]) w:=a;unfold St.has
 cases e:oget st.objs (k:Int) i with
 | none =>
  have f:=h.gone k c i e;rw[f]at a;exact⟨_,a,λ bs q=>(by cases q),λ _=>rfl⟩
 | some bs =>
  obtain⟨v,g,j,l⟩:=h.there k c i bs e;rw[g]at a;exact⟨v,a,λ d q=>(by cases q;exact⟨j,l⟩),λ q=>(by cases q)⟩
theorem has_x(h:Zan w s b M r t F st S)(j:k<4)(i:UInt64)(g:Bool)(c:st.has (k:Int) i=g):
  At Am 188 #[Ah (some ⟨s,0,none⟩),Ab Ak (k:Int),Ab Al (i.toNat:Int)] w λ e w'=>e=Aj (Ad g)/\w'=w:=by
 obtain⟨v,d,_⟩:=h.look j i;rw[c]at d;obtain⟨l,m,n,o,p,q,u⟩:=h.cell;clear h c
 obtain⟨x,f⟩:∃x:Int,(i.toNat:Int)=x:=⟨_,rfl⟩
 rw[f]at d ⊢;clear f
 have a:k=0∨k=1∨k=2∨k=3:=by omega
 rcases a with rfl|rfl|rfl|rfl
 all_goals
  go_enter func188,ntmps188;go_wp2;go_ret;exact⟨rfl,rfl⟩
theorem ZdE(h:Zac w s b st S)(c:k<4)(i:UInt64)(g:Bool)(a:st.has (k:Int) i=g):
  At Am 188 #[Ah (some ⟨s,0,none⟩),Ab Ak (k:Int),Ab Al (i.toNat:Int)] w λ e w'=>e=Aj (Ad g)/\w'=w:=by
 obtain⟨M,r,t,F,h⟩:=h;exact has_x h c i g a
end
theorem ZcI{es:List α}{p:α->Bool}{e:α}(h:es[i]? = some e)(a:(es.take i).all p=true)(b:p e=true):(es.take (i+1)).all p=true:=by
 rw[List.take_add_one,h,List.all_append,a];simp[b]
theorem Zcy{es:List α}{p:α->Bool}{e:α}(h:es[i]? = some e)(a:p e=false):es.all p=false:=by
 rw[List.all_eq_false];exact⟨e,AY h,by simp[a]⟩
section
variable{w:World}{s b:Nat}{st:St}{S:Nat->Prop}
theorem ZgK{ao:Option Addr}{c n:Nat}{es:List En}(h:Zac w s b st S)(A:RdG encE w ao es)(y:es.length=n)(F:n<=4000000000000000000)(g:Bool)(p:st.blobs es=g):
  At Am 121 #[Ah (some ⟨s,0,none⟩),Aa ao n c] w λ e w'=>e=Aj (Ad g)/\An w.heap.size w w':=by
 have H:Hid (Zac w s b st S/\RdG encE w ao es/\es.length=n/\st.blobs es=g):=⟨h,A,y,p⟩
 clear h A y p;go_enter func121,ntmps121;go_wp2_with fail;go_loopg[9] n (λ m E wr=>∃i:Nat,E=Ab Ak i/\i+m=n/\Hid ((es.take i).all (λ e=>st.has 1 e.2)=true/\An w.heap.size w wr))
 case atStart=>exact⟨0,rfl,by omega,rfl,Below.refl _ _⟩
 case round =>
  obtain⟨i,rfl,hi,j⟩:=hrel;by_cases t:i<n
  ·have id:(i:Int)<(n:Int):=by omega
   obtain⟨e,r⟩:=Zaf H.o.2.2.1 t;obtain⟨b1,off,rfl,D⟩:=H.o.2.1.some_of r;obtain⟨_,C,x⟩:=(H.o.2.1.below j.o.2).ents r;obtain⟨d,z⟩:=e;simp only at C x;have v:Hid (es[i]? = some (d,z)):=r;clear r
   have l:=λ(q:Bool) (hq:st.has 1 z=q)=>ZdE ((H.o.1.below j.o.2).below (bz1 wr (.cells #[tx d,Ab Al (z.toNat:Int)] 152))) (k:=1) (by omega) z q hq
   obtain⟨G,B⟩:=Xa ((z.toNat:Int))
   rw[B]at x l;clear B
   cases hp:st.has 1 z with
   | true =>
    have l:=l true hp;go_wp2_with fail;refine l.mono ?_;rintro e u ⟨rfl,f⟩;rw[f];clear f u;go_wp2;go_roundg (gk - 1)
    case measure=>omega
    case rel=>exact⟨i+1,by go_num,by omega,ZcI v.o j.o.1 hp,j.o.2.trans ((bz1 wr _).mono j.o.2.size)⟩
   | false =>
    have l:=l false hp
    have p:g=false:=by rw[<- H.o.2.2.2];exact Zcy v.o hp
    subst p;go_wp2_with fail;refine l.mono ?_;rintro e u ⟨rfl,f⟩;rw[f];clear f u;go_wp2;go_ret;exact⟨rfl,j.o.2.trans ((bz1 wr _).mono j.o.2.size)⟩
  ·obtain rfl:i=n:=by omega
   have a:=j.o.1;rw[Av (by rw[H.o.2.2.1];omega)]at a
   have p:g=true:=by rw[<- H.o.2.2.2];exact a
   subst p;clear a;go_wp2;go_ret;exact⟨rfl,j.o.2⟩
theorem ZiB{pa:Option Addr}{pn pc:Nat}{cm:Cm}(h:Zac w s b st S)(B:RdG encU w pa cm.ps)(A:cm.ps.length=pn)(I:pn<=4000000000000000000)(dt:Int)(nt:ByteArray)(g:Bool)(f:st.above cm=g):
  At Am 125 #[Ah (some ⟨s,0,none⟩),.agg #[Ab Al (cm.tree.toNat:Int),Aa pa pn pc,Ab Ak dt,Ae nt]] w λ e w'=>e=Aj (Ad g)/\An w.heap.size w w':=by
 have j:=λ(W:Ap) (t:An w.heap.size w W) (q:Bool) (hq:st.has 2 cm.tree=q)=>ZdE (h.below t) (k:=2) (by omega) cm.tree q hq
 obtain⟨D,n⟩:=Xa ((cm.tree.toNat:Int))
 rw[n]at j ⊢;clear n
 obtain⟨W,t⟩:=Xa (w.alloc (.cells #[Ab Al D,Aa pa pn pc,Ab Ak dt,Ae nt] 58))
 have l:An w.heap.size w W:=by rw[<- t];exact bz1 _ _
 have bx:Box4 W w.heap.size 58 (Ab Al D) (Aa pa pn pc) (Ab Ak dt) (Ae nt):=by rw[<- t];exact Box4.new _ _ _ _ _ _
 obtain⟨J,K,L,M⟩:=bx.cells;have j:=j W l
 have H:Hid (Zac W s b st S/\RdG encU W pa cm.ps/\cm.ps.length=pn/\st.above cm=g/\An w.heap.size w W):=⟨h.below l,B.below l,A,f,l⟩
 clear h B A f l bx;go_enter func125,ntmps125;go_wp2_with fail;go_loopg[10] pn (λ m G wr=>∃i:Nat,G=Ab Ak i/\i+m=pn/\wr=W/\Hid ((cm.ps.take i).all (λ p=>st.has 3 p)=true))
 case atStart=>exact⟨0,rfl,by omega,rfl,rfl⟩
 case round =>
  obtain⟨i,rfl,hi,rfl,z⟩:=hrel;by_cases v:i<pn
  ·have id:(i:Int)<(pn:Int):=by omega
   obtain⟨x,u⟩:=Zaf H.o.2.2.1 v;obtain⟨b1,off,rfl,F⟩:=H.o.2.1.some_of u;obtain⟨_,E⟩:=H.o.2.1.nums u;have y:Hid (cm.ps[i]? = some x):=u;clear u
   have d:=λ(q:Bool) (hq:st.has 3 x=q)=>ZdE H.o.1 (k:=3) (by omega) x q hq
   obtain⟨N,C⟩:=Xa ((x.toNat:Int))
   rw[C]at E d;clear C
   cases hp:st.has 3 x with
   | true =>
    have d:=d true hp;go_wp2_with fail;refine d.mono ?_;rintro e r ⟨rfl,a⟩;rw[a];clear a r;go_wp2;go_roundg (gk - 1)
    case measure=>omega
    case rel=>exact⟨i+1,by go_num,by omega,rfl,ZcI y.o z.o hp⟩
   | false =>
    have d:=d false hp
    have f:g=false:=by rw[<- H.o.2.2.2.1];unfold St.above;rw[Zcy y.o hp];rfl
    subst f;go_wp2_with fail;refine d.mono ?_;rintro e r ⟨rfl,a⟩;rw[a];clear a r;go_wp2;go_ret;exact⟨rfl,H.o.2.2.2.2⟩
  ·obtain rfl:i=pn:=by omega
   have c:=z.o;rw[Av (by rw[H.o.2.2.1];omega)]at c
   have f:st.has 2 cm.tree=g:=by
    rw[<- H.o.2.2.2.1];unfold St.above;rw[c]
    rfl
   have j:=j g f;clear c f;go_wp2_with fail;refine j.mono ?_;rintro e r ⟨rfl,a⟩;rw[a];clear a r;go_wp2;go_ret;exact⟨rfl,H.o.2.2.2.2⟩
end
theorem ZmP{o:Obj}(h:An (W.drew.alloc o).heap.size (W.drew.alloc o) w1):An W.heap.size W w1:=Zah ((bz1 W.drew o).trans (h.mono (bz1 W.drew o).size))
theorem Zpl(k:Int)(w:Ap)(h:ZaF w v a)(b:a.length<=1000000)(x:UInt64)(c:oid k a.flatten=x):
  At Am 181 #[Ab Ak k,v] w λ e w'=>e=Aj (Ab Al (x.toNat:Int))/\An w.heap.size w w':=by
 refine(ZoZ k w h b x c).mono ?_;rintro e w' ⟨rfl,rfl⟩;exact⟨rfl,Below.refl _ _⟩
theorem ZbG(h:w.grownBy w' (some m)):Zaa (λ i=>i=m) w w':=(Zaa.refl _ _).grown h (λ k _ e=>by cases e;rfl)
theorem Zcw{d:Ap}(b:An W.heap.size W w1)(f:Zaa (λ x=>x=m) w1 d)(hp:p.block<W.heap.size)(a:p.block≠m)(e:W.cell? p=some v):w1.cell? p=some v/\d.cell? p=some v:=by
 have c:w1.cell? p=some v:=(b.cell hp).trans e;exact⟨c,(f.cell (AI hp b.size) a).trans c⟩
section
variable{w:World}{s b:Nat}{M:Nat->Nat}{r t:Nat}{F:Nat->UInt64->Option Value}{st:St}{S:Nat->Prop}
theorem Zan.update(h:Zan w s b M r t F st S)(g:An w.heap.size w w1)(j:k<4)(i:UInt64)(m:st.objs.length<=1000000)(v:Ar):
  ∃a n,(Ec 113 (.map (some (M k))) (Ab Al (i.toNat:Int)) v).run Am w1=.ok () a/\MapG kU a (M k) (gput (F k) i v) n/\n<=st.objs.length+1/\Zaa (λ x=>x=M k) w1 a:=by
 obtain⟨n,l,c⟩:=(h.below g).objs k j;obtain⟨a,d,e,f⟩:=c.put underlying113 i trivial (by simp only[AG];omega) v;refine⟨a,_,d,e,?_,ZbG f⟩
 split <;> omega
theorem Zp6(h:Zan w s b M r t F st S)(J:∀i,S i->S' i)(K:∀i,S' i->i<w.heap.size)(aa:1<=k)(N:k<4)(z:Int)(A:(k:Int)=z){a:Option Addr}{n c:Nat}(hv:BAt w (Aa a n c) body)(L:ZdW S' (Aa a n c))(i:UInt64)(hi:oid z body=i)(R:oget st.objs z i=none)(hn:st.objs.length<=1000000):
  At Am 170 #[Ah (some ⟨s,0,none⟩),.agg #[Ab Ak z,Aa a n c]] w λ e w'=>e=Aj (Af #[])/\Zac w' s b { st with objs:=st.objs++[⟨z,i,body⟩] } S'/\Zaa S w w':=by
 obtain⟨W,hW⟩:=Xa (w.alloc (.cells #[Ab Ak z,Aa a n c] 243))
 have U:An w.heap.size w W:=by rw[<- hW];exact bz1 _ _
 have bx:Box W w.heap.size 243 (Ab Ak z) (Aa a n c):=by rw[<- hW];exact Box.new _ _ _ _
 have V:=(h.mono J K).below U;have C:=h.own.2.2.2 k N;obtain⟨x0,x1⟩:=bx.cells;obtain⟨c0,c1,c2,c3,c4,c5,c6⟩:=V.cell
 have H:Hid (Zan W s b M r t F st S'/\BAt W (Aa a n c) body/\ZdW S' (Aa a n c)/\oid z body=i/\oget st.objs z i=none/\st.objs.length<=1000000/\An w.heap.size w W/\Box W w.heap.size 243 (Ab Ak z) (Aa a n c)):=⟨V,hv.below U,L,hi,R,hn,U,bx⟩
 have I:∀w1 g m,An W.heap.size W w1->MapG kU g (M k) (gput (F k) i (Aa a n c)) m->m<=st.objs.length+1->Zaa (λ x=>x=M k) w1 g->Zac g s b { st with objs:=st.objs++[⟨z,i,body⟩] } S'/\Zaa S w g:=by
  intro w1 g m Y q2 q3 q4;have:=(H.o.1.below Y).add N (by rw[A];exact H.o.2.2.2.2.1) (H.o.2.1.below Y) H.o.2.2.1 q2 q3 q4;rw[A]at this;refine⟨⟨M,r,t,_,this⟩,?_⟩;refine(Zaa.ofBelow (S:=S) (H.o.2.2.2.2.2.2.1.trans (Y.mono H.o.2.2.2.2.2.2.1.size))).trans q4 (λ j _ e=>?_);have e:j=M k:=e;rw[e];exact C
 have Z:=λ w1 hb=>Zan.update (w1:=w1) H.o.1 hb N i H.o.2.2.2.2.2.1 (Aa a n c)
 have ne:M k≠s:=H.o.1.map_ne.2.2 k N
 obtain⟨x,hx⟩:∃x:Int,(i.toNat:Int)=x:=⟨_,rfl⟩
 have E:=λ u (v:Ar) (hu:ZaF u v [body])=>Zpl z u hu (by simp) i (by simpa using hi)
 rw[hx]at E Z;have O:s<W.heap.size:=V.lt_s;have P:w.heap.size<W.heap.size:=bx.lt
 have Q:w.heap.size≠M k:=λ e=>by
  have:=h.lt _ (h.own.2.2.2 k N);omega
 have f:Hid ((∀w1 g m,An W.heap.size W w1->MapG kU g (M k) (gput (F k) i (Aa a n c)) m->m<=st.objs.length+1->Zaa (λ x=>x=M k) w1 g->Zac g s b { st with objs:=st.objs++[⟨z,i,body⟩] } S'/\Zaa S w g)
  /\ (∀w1,An W.heap.size W w1->∃g T,(Ec 113 (.map (some (M k))) (Ab Al x) (Aa a n c)).run Am w1=.ok () g/\MapG kU g (M k) (gput (F k) i (Aa a n c)) T/\T<=st.objs.length+1/\Zaa (λ x=>x=M k) w1 g)
  /\ (∀u v,ZaF u v [body]->At Am 181 #[Ab Ak z,v] u λ e w'=>e=Aj (Ab Al x)/\An u.heap.size u w')/\BAt W (Aa a n c) body/\s<W.heap.size/\w.heap.size<W.heap.size/\s≠M k/\w.heap.size≠M k):=⟨I,Z,E,H.o.2.1,O,P,ne.symm,Q⟩
 clear h hv L hi R hn U bx V I Z E hx H O P Q ne C J K
 have X:k=1∨k=2∨k=3:=by omega
 rcases X with rfl|rfl|rfl
 ·obtain rfl:z=1:=by rw[<- A];rfl
  go_enter func170,ntmps170;go_wp2_with fail
  go_region_held3 (λ u=>u.cell? ⟨w.heap.size,0,none⟩=some (Ab Ak 1)/\u.cell? ⟨w.heap.size,1,none⟩=some (Aa a n c)/\u.cell? ⟨s,2,none⟩=some (.map (some (M 1))))
   (go_keep)
   (first|(go_at_call 181;refine(f.o.2.2.1 _ _ (ZbV (f.o.2.2.2.1.below (bdrewN W 1)) 61)).mono ?_;rintro e w1 ⟨rfl,B⟩;have l:An W.heap.size W w1:=ZmP B;obtain⟨g,m2,D,q,y,d⟩:=f.o.2.1 w1 l;obtain⟨k0,l0⟩:=Zcw l d (p:=⟨w.heap.size,0,none⟩) f.o.2.2.2.2.2.1 f.o.2.2.2.2.2.2.2 x0;obtain⟨k1,l1⟩:=Zcw l d (p:=⟨w.heap.size,1,none⟩) f.o.2.2.2.2.2.1 f.o.2.2.2.2.2.2.2 x1;obtain⟨k2,l2⟩:=Zcw l d (p:=⟨s,2,none⟩) f.o.2.2.2.2.1 f.o.2.2.2.2.2.2.1 c2;have G:Hid (Zac g s b { st with objs:=st.objs++[⟨1,i,body⟩] } S'/\Zaa S w g):=f.o.1 w1 g m2 l q y d;clear B l q y d))
  go_end0;exact⟨rfl,G.o⟩
 ·obtain rfl:z=2:=by rw[<- A];rfl
  go_enter func170,ntmps170;go_wp2_with fail
  go_region_held3 (λ u=>u.cell? ⟨w.heap.size,0,none⟩=some (Ab Ak 2)/\u.cell? ⟨w.heap.size,1,none⟩=some (Aa a n c)/\u.cell? ⟨s,3,none⟩=some (.map (some (M 2))))
   (go_keep)
   (first|(go_at_call 181;refine(f.o.2.2.1 _ _ (ZbV (f.o.2.2.2.1.below (bdrewN W 1)) 61)).mono ?_;rintro e w1 ⟨rfl,B⟩;have l:An W.heap.size W w1:=ZmP B;obtain⟨g,m2,D,q,y,d⟩:=f.o.2.1 w1 l;obtain⟨k0,l0⟩:=Zcw l d (p:=⟨w.heap.size,0,none⟩) f.o.2.2.2.2.2.1 f.o.2.2.2.2.2.2.2 x0;obtain⟨k1,l1⟩:=Zcw l d (p:=⟨w.heap.size,1,none⟩) f.o.2.2.2.2.2.1 f.o.2.2.2.2.2.2.2 x1;obtain⟨k2,l2⟩:=Zcw l d (p:=⟨s,3,none⟩) f.o.2.2.2.2.1 f.o.2.2.2.2.2.2.1 c3;have G:Hid (Zac g s b { st with objs:=st.objs++[⟨2,i,body⟩] } S'/\Zaa S w g):=f.o.1 w1 g m2 l q y d;clear B l q y d))
  go_end0;exact⟨rfl,G.o⟩
 ·obtain rfl:z=3:=by rw[<- A];rfl
  go_enter func170,ntmps170;go_wp2_with fail
  go_region_held3 (λ u=>u.cell? ⟨w.heap.size,0,none⟩=some (Ab Ak 3)/\u.cell? ⟨w.heap.size,1,none⟩=some (Aa a n c)/\u.cell? ⟨s,4,none⟩=some (.map (some (M 3))))
   (go_keep)
   (first|(go_at_call 181;refine(f.o.2.2.1 _ _ (ZbV (f.o.2.2.2.1.below (bdrewN W 1)) 61)).mono ?_;rintro e w1 ⟨rfl,B⟩;have l:An W.heap.size W w1:=ZmP B;obtain⟨g,m2,D,q,y,d⟩:=f.o.2.1 w1 l;obtain⟨k0,l0⟩:=Zcw l d (p:=⟨w.heap.size,0,none⟩) f.o.2.2.2.2.2.1 f.o.2.2.2.2.2.2.2 x0;obtain⟨k1,l1⟩:=Zcw l d (p:=⟨w.heap.size,1,none⟩) f.o.2.2.2.2.2.1 f.o.2.2.2.2.2.2.2 x1;obtain⟨k2,l2⟩:=Zcw l d (p:=⟨s,4,none⟩) f.o.2.2.2.2.1 f.o.2.2.2.2.2.2.1 c4;have G:Hid (Zac g s b { st with objs:=st.objs++[⟨3,i,body⟩] } S'/\Zaa S w g):=f.o.1 w1 g m2 l q y d;clear B l q y d))
  go_end0;exact⟨rfl,G.o⟩
theorem ZoD(h:Zac w s b st S)(d:∀i,S i->S' i)(f:∀i,S' i->i<w.heap.size)(k:Int)(o:k=1∨k=2∨k=3){a:Option Addr}{n c:Nat}(m:BAt w (Aa a n c) body)(g:ZdW S' (Aa a n c))(j:oget st.objs k (oid k body)=none)(l:st.objs.length<=1000000):
  At Am 170 #[Ah (some ⟨s,0,none⟩),.agg #[Ab Ak k,Aa a n c]] w λ e w'=>e=Aj (Af #[])/\Zac w' s b (st.take (k,body)) S'/\Zaa S w w':=by
 obtain⟨M,r,t,F,h⟩:=h
 have e:st.take (k,body)={ st with objs:=st.objs++[⟨k,oid k body,body⟩] }:=by
  unfold St.take;rw[Aw (by show ¬k=4;omega),Aw (by show ¬k=5;omega)]
 rw[e];exact Zp6 h d f (k:=k.toNat) (by omega) (by omega) k (by omega) m g _ rfl j l
end
end Go.Proofs.YtlojblelpaegpaaGreat
namespace Go.Proofs.YtlojblelpaegpaaGreat
variable{S':Nat->Prop}{W w w' w1:Ap}{a c:List Bs}{body bs n own:Bs}{d':Dk}{i k m:Nat}{p:Addr}{v:Ar}{α:Type}
variable{d:Dk}
theorem ZjH(d:Dk):(dnext d).1.after<=d.after:=by
 unfold dnext
 split
 ·exact Az _
 ·split
  ·exact Az _
  ·show(if d.armed then d.after - 1 else d.after)<=d.after
   split <;> omega
theorem Zir(d:Dk):(dnext d).1.writes<=d.writes+1:=by
 unfold dnext
 split
 ·exact FC _
 ·split
  ·exact FC _
  ·exact Az _
theorem Dk.ok.next(h:d.ok):(dnext d).1.ok:=by
 have e:=Zck d;exact⟨by rw[e];exact h.rise,by rw[e];exact h.few,by rw[e];exact h.each,Nat.lt_of_le_of_lt (ZjH d) h.after⟩
theorem Dk.ok.with(h:d.ok)(b:d'.ok)(g:isName n=true)(c:bs.length<=262144)(a:fget d.files n≠none∨d.files.length<32):({ d' with files:=fwith d.files n bs }:Dk).ok:=by
 refine⟨Zgz n bs h.rise,?_,?_,b.after⟩
 ·show(fwith d.files n bs).length<=32;rw[ZdS n bs h.rise];have:=h.few
  cases e:fget d.files n with
  | none =>
   have:d.files.length<32:=a.elim (λ q=>absurd e q) id;simp;omega
  | some _=>simpa using this
 ·intro f a
  rcases Zen _ _ _ _ a with rfl|q
  ·exact⟨g,c⟩
  ·exact h.each f q
theorem Zqn(h:d.ok){b:Bs}:(dlay d n own b).1.ok:=by
 unfold dlay
 split
 ·exact h
 ·rename_i g
  have c:isName n=true:=by simpa using g
  split
  ·exact h
  ·rename_i f
   have e:own.length+b.length<=262144:=by omega
   have a:fget d.files n≠none∨d.files.length<32:=by
    by_cases q:fget d.files n=none
    ·exact .inr (by have:¬32<=d.files.length:=λ r=>f (.inr ⟨q,r⟩);omega)
    ·exact .inl q
   split
   ·exact h.with h.next c (by simp;omega) a
   ·split
    ·exact h.with h.next c (by simp;omega) a
    ·exact h.next
theorem ZlY(h:d.ok)(n v:Bs):(dapp d n v).1.ok:=Zqn h
theorem ZoX(d:Dk)(n own a:Bs):(dlay d n own a).1.writes<=d.writes+1:=by
 unfold dlay
 repeat' split
 all_goals first | exact Zir d | exact FC _
end Go.Proofs.YtlojblelpaegpaaGreat
