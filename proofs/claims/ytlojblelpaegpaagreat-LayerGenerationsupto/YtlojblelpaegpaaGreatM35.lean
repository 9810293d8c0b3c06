/-
  Several texts, laid together.
-/
import Derived.Test.YtlojblelpaegpaaGreatM33
import Derived.Test.YtlojblelpaegpaaGreatM34
set_option maxHeartbeats 6400000
set_option maxRecDepth 100000
open Go renaming Value->Ar,World->Ap,bodyPost_ret->As,results->AH
open Go.RowKit renaming Below->An
open List renaming take_of_length_le->Av,take_add_one->AO,mem_map->Bu,mem_append->AK,mem_singleton->A2,getElem_of_mem->Cv,getElem?_eq_getElem->Aq,length_map->AQ,map_append->BS,getElem?_map->Bc,getElem?_eq_none->AL,append_nil->Bp
open Nat renaming le_trans->AZ,le_refl->Az,reduceAdd->BT,lt_or_ge->Cp
open Go.Value renaming slice->Aa,int->Ab,bool->Ad,string->Ae,agg->Ag,pointer->Ah
open Go.Obj renaming cells->Ai
open Go.IntKind renaming i64->Ak,u64->Al
open Go.Proofs.Tryz
namespace Go.Proofs.YtlojblelpaegpaaGreat
open Go.RowKit
variable{B b c i n s:Nat}{E:Nat->Prop}{Q bl cl gr ps tl:List UInt64}{R:List Rw}{a w:Ap}{cs:Array Ar}{d:Dk}{st:St}{t:TypeId}{v:Wd}{vf vo vr vt xb xc xt:Ar}{x:UInt64}
theorem set14(a0 a1 a2 a3 a4 a5 a6 a7 a8 a9 e f g h i j n2 k l m n o p q a b c d:Ar):setL #[a0,a1,a2,a3,a4,a5,a6,a7,a8,a9,e,f,g,h] [i,j,n2,k,l,m,n,o,p,q,a,b,c,d] 0=#[i,j,n2,k,l,m,n,o,p,q,a,b,c,d]:=by simp[setL]
def WB(B R:Nat)(w0 u:Ap)(v:Wd):Prop:=∃s b fa fl fc oa on oc ra rn rc ta tn tc xa xn xc ya yn yc za zn zc U,
 WI B (λ j=>j=R) u s b (Aa fa fl fc) (Aa oa on oc) (Aa ra rn rc) (Aa ta tn tc) (Aa xa xn xc) (Aa ya yn yc) (Aa za zn zc) U v.st v.d v.bl v.tl v.cl/\BoxA u R 36 (wdV s b v.d (Aa fa fl fc) (Aa oa on oc) (Aa ra rn rc) (Aa ta tn tc) (Aa xa xn xc) (Aa ya yn yc) (Aa za zn zc))/\An B w0 u/\B<=R
theorem WB.start{w1:Ap}(c:An w.heap.size w w1)(hd:Duo a s b st0 dk0 (λ i=>w1.heap.size<=i/\i<a.heap.size))(e:An w1.heap.size w1 a):
  WI w.heap.size (λ j=>j=a.heap.size) (a.alloc (Ai (wdV s b dk0 nilV nilV nilV nilV nilV nilV nilV) 36)) s b nilV nilV nilV nilV nilV nilV nilV (λ i=>w1.heap.size<=i/\i<a.heap.size) st0 dk0 [] [] []/\BoxA (a.alloc (Ai (wdV s b dk0 nilV nilV nilV nilV nilV nilV nilV) 36)) a.heap.size 36 (wdV s b dk0 nilV nilV nilV nilV nilV nilV nilV)/\An w.heap.size w (a.alloc (Ai (wdV s b dk0 nilV nilV nilV nilV nilV nilV nilV) 36))/\w.heap.size<=a.heap.size:=by
 have b2:An w.heap.size w a:=c.trans (e.mono c.size);have d:=bz1 a (Ai (wdV s b dk0 nilV nilV nilV nilV nilV nilV nilV) 36);refine⟨⟨hd.below d,λ i q=>?_,rms0 _ _,λ i q r=>?_,λ i q=>?_,OwnG.nil _ _ _ _,OwnG.nil _ _ _ _,OwnG.nil _ _ _ _,λ g q=>(by cases q),λ g q=>(by cases q),λ g q=>(by cases q),λ g q=>(by cases q),λ g q=>(by cases q),λ g q=>(by cases q)⟩,BoxA.new _ _ _,b2.trans (d.mono b2.size),b2.size⟩
 ·have:=q.1;have:=c.size;omega
 ·have h:i=a.heap.size:=r
  rcases q with q|q|q|q
  ·have:=q.2;omega
  ·cases q
  ·cases q
  ·cases q
 ·have f:i=a.heap.size:=q;rw[f];simp
theorem BoxA.all14{Q:Nat}{a0 a1 a2 a3 a4 a5 a6 a7 a8 a9 a b c d:Ar}(h:BoxA w Q t #[a0,a1,a2,a3,a4,a5,a6,a7,a8,a9,a,b,c,d]):w.cell? ⟨Q,0,none⟩=some a0/\w.cell? ⟨Q,1,none⟩=some a1/\w.cell? ⟨Q,2,none⟩=some a2/\w.cell? ⟨Q,3,none⟩=some a3/\w.cell? ⟨Q,4,none⟩=some a4/\w.cell? ⟨Q,5,none⟩=some a5/\w.cell? ⟨Q,6,none⟩=some a6/\w.cell? ⟨Q,7,none⟩=some a7/\w.cell? ⟨Q,8,none⟩=some a8/\w.cell? ⟨Q,9,none⟩=some a9/\w.cell? ⟨Q,10,none⟩=some a/\w.cell? ⟨Q,11,none⟩=some b/\w.cell? ⟨Q,12,none⟩=some c/\w.cell? ⟨Q,13,none⟩=some d :=
 ⟨h.cell rfl,h.cell rfl,h.cell rfl,h.cell rfl,h.cell rfl,h.cell rfl,h.cell rfl,h.cell rfl,h.cell rfl,h.cell rfl,h.cell rfl,h.cell rfl,h.cell rfl,h.cell rfl⟩
theorem BoxA.thaw14{Q:Nat}(h:BoxA w Q t cs):w.frozen? ⟨Q,0,none⟩=false/\w.frozen? ⟨Q,1,none⟩=false/\w.frozen? ⟨Q,2,none⟩=false/\w.frozen? ⟨Q,3,none⟩=false/\w.frozen? ⟨Q,4,none⟩=false/\w.frozen? ⟨Q,5,none⟩=false/\w.frozen? ⟨Q,6,none⟩=false/\w.frozen? ⟨Q,7,none⟩=false/\w.frozen? ⟨Q,8,none⟩=false/\w.frozen? ⟨Q,9,none⟩=false/\w.frozen? ⟨Q,10,none⟩=false/\w.frozen? ⟨Q,11,none⟩=false/\w.frozen? ⟨Q,12,none⟩=false/\w.frozen? ⟨Q,13,none⟩=false :=
 ⟨h.thaw _,h.thaw _,h.thaw _,h.thaw _,h.thaw _,h.thaw _,h.thaw _,h.thaw _,h.thaw _,h.thaw _,h.thaw _,h.thaw _,h.thaw _,h.thaw _⟩
def bstep(v:Wd)(a:Ac):Wd:=if a.k<6 then wstep a v else v
def bwd(acs:List Ac):Wd:=acs.foldl bstep wd0
theorem Zi3(acs:List Ac)(a:Ac):bwd (acs++[a])=bstep (bwd acs) a:=by
 unfold bwd;rw[List.foldl_append]
 rfl
structure Wd.built(v:Wd)(n:Nat):Prop where
 fine:v.fine n
 ord:Ordd v.st
 cc:v.cc
theorem Wd.built.step(h:v.built n)(a:Ac):(bstep v a).built (n+1):=by
 unfold bstep
 split
 ·exact⟨h.fine.step a,h.ord.stp (ZmO h.fine.st a),h.cc.step a⟩
 ·exact⟨h.fine.more,h.ord,h.cc⟩
theorem ZoH:wd0.fine 0:=⟨St.ok0,Dk.ok0,by decide,by decide,by decide,by decide,by decide⟩
theorem ZbX(acs:List Ac):∀i,(bwd (acs.take i)).built i
 | 0=>⟨ZoH,Ordd.zero,Zqq⟩
 | i+1=>by
  by_cases hi:i<acs.length
  ·rw[List.take_succ_eq_append_getElem hi,Zi3];exact(ZbX acs i).step _
  ·have h:=ZbX acs i;rw[Av (by omega)]at h ⊢;exact⟨h.fine.more,h.ord,h.cc⟩
structure ZgF(w:Ap)(l:List AV)(acs:List Ac):Prop where
 len:acs.length=l.length
 at_:∀(i:Nat) (a:AV),l[i]? = some a->∃data ps qs,Zds w a data ps qs/\acs[i]? = some (a.ac data ps qs)
theorem Zl5:∀{l:List AV},(∀a∈l,∃data ps qs,Zds w a data ps qs)->∃acs,ZgF w l acs
 | [],_=>⟨[],rfl,λ _ a h=>by simp at h⟩
 | a::t,h=>by
  obtain⟨acs,f,g⟩:=Zl5 (l:=t) (λ b c=>h b (List.mem_cons_of_mem _ c));obtain⟨data,ps,qs,j⟩:=h a List.mem_cons_self;refine⟨a.ac data ps qs::acs,by simp[f],λ i b c=>?_⟩
  cases i with
  | zero =>
   have e:a=b:=by simpa using c
   subst e;exact⟨data,ps,qs,j,rfl⟩
  | succ i =>
   obtain⟨d,n,o,k,m⟩:=g i b (by simpa using c);exact⟨d,n,o,k,by simpa using m⟩
theorem Zds.below{w':Ap}{a:AV}{data:Bs}{ps:List Bs}{qs:List Int}(h:Zds w a data ps qs)(b:An w.heap.size w w'):Zds w' a data ps qs :=
 ⟨h.hd.below b,h.dl,h.dm,h.hp.below b,h.pl,h.pm,h.pf,h.hq.below b,h.ql,h.qm⟩
def BW(w w':Ap)(v:Wd)(u:Ar):Prop:=∃s b fa fl fc oa on oc ra rn rc ta tn tc xa xn xc ya yn yc za zn zc U,
 u=.tuple #[Ag (wdV s b v.d (Aa fa fl fc) (Aa oa on oc) (Aa ra rn rc) (Aa ta tn tc) (Aa xa xn xc) (Aa ya yn yc) (Aa za zn zc)),Ad true]/\WI w.heap.size (λ _=>False) w' s b (Aa fa fl fc) (Aa oa on oc) (Aa ra rn rc) (Aa ta tn tc) (Aa xa xn xc) (Aa ya yn yc) (Aa za zn zc) U v.st v.d v.bl v.tl v.cl/\An w.heap.size w w'
theorem WI.bare{U:Nat->Prop}(h:WI B E w s b vf vo vr vt xb xt xc U st d bl tl cl):WI B (λ _=>False) w s b vf vo vr vt xb xt xc U st d bl tl cl :=
 ⟨h.duo,h.low,h.ref.mono (λ _ q=>q.imp id (λ q=>q.elim)),λ _ _ q=>q,λ _ q=>q.elim,h.ob,h.ot,h.oc,h.fb,h.ft,h.fc,h.bt,h.bc,h.tc⟩
theorem WI.lower{U:Nat->Prop}(h:WI B E w s b vf vo vr vt xb xt xc U st d bl tl cl)(a:c<=B):WI c E w s b vf vo vr vt xb xt xc U st d bl tl cl :=
 ⟨h.duo,λ i q=>AZ a (h.low i q),h.ref,h.fe,h.elt,h.ob.low a,h.ot.low a,h.oc.low a,h.fb,h.ft,h.fc,h.bt,h.bc,h.tc⟩
def WBm(B R m0:Nat)(w0 u:Ap)(v:Wd):Prop:=∃s b fa fl fc oa on oc ra rn rc ta tn tc xa xn xc ya yn yc za zn zc U,
 WI B (λ j=>j=R∨j=m0) u s b (Aa fa fl fc) (Aa oa on oc) (Aa ra rn rc) (Aa ta tn tc) (Aa xa xn xc) (Aa ya yn yc) (Aa za zn zc) U v.st v.d v.bl v.tl v.cl/\BoxA u R 36 (wdV s b v.d (Aa fa fl fc) (Aa oa on oc) (Aa ra rn rc) (Aa ta tn tc) (Aa xa xn xc) (Aa ya yn yc) (Aa za zn zc))/\An B w0 u/\B<=R
theorem WBm.start{d:Nat}(e:d<w.heap.size)(hd:Duo a s b st0 dk0 (λ i=>w.heap.size<=i/\i<a.heap.size))(c:An w.heap.size w a):WBm w.heap.size a.heap.size d w (a.alloc (Ai (wdV s b dk0 nilV nilV nilV nilV nilV nilV nilV) 36)) wd0:=by
 have h:=WB.start (Below.refl w.heap.size w) hd c;refine⟨s,b,none,0,0,none,0,0,none,0,0,none,0,0,none,0,0,none,0,0,none,0,0,_,⟨h.1.duo,h.1.low,rms0 _ _,λ i q r=>?_,λ i q=>?_,h.1.ob,h.1.ot,h.1.oc,h.1.fb,h.1.ft,h.1.fc,h.1.bt,h.1.bc,h.1.tc⟩,h.2.1,h.2.2.1,h.2.2.2⟩
 ·rcases r with r|r
  ·exact h.1.fe i q r
  ·have:=(h.1.lt i q).1;omega
 ·rcases q with q|q
  ·exact h.1.elt i q
  ·have:=c.size;rw[q];simp;omega
theorem WBm.stored{R E:Nat}{w0 o:Ap}{fa oa h m p t x:Option Addr}{g fc on oc l k tc r xc w u y zc:Nat}{U:Nat->Prop}(F:WI B (λ j=>j=R∨j=E) o s b (Aa fa g fc) (Aa oa on oc) (Aa h l k) (Aa m n tc) (Aa p r xc) (Aa t w u) (Aa x y zc) U v.st v.d v.bl v.tl v.cl)(G:An B w0 o)(D:BoxA o R 36 cs)(H:∃a0 a1 a2 a3 a4 a5 a6 a7 a8 a9 a c e f,cs=#[a0,a1,a2,a3,a4,a5,a6,a7,a8,a9,a,c,e,f])(A:B<=R):
  WBm B R E w0 (layL o R [Ah (some ⟨b,0,none⟩),Ah (some ⟨s,0,none⟩),Aa fa g fc,Ab Ak (v.d.writes:Int),Ad v.d.armed,Ad v.d.dead,Ab Ak (v.d.after:Int),Ab Ak (v.d.keep:Int),Aa oa on oc,Aa h l k,Aa m n tc,Aa p r xc,Aa t w u,Aa x y zc] 0) v:=by
 obtain⟨a0,a1,a2,a3,a4,a5,a6,a7,a8,a9,a,c,e,f,rfl⟩:=H;have C:=Zal (W:=o) R [Ah (some ⟨b,0,none⟩),Ah (some ⟨s,0,none⟩),Aa fa g fc,Ab Ak (v.d.writes:Int),Ad v.d.armed,Ad v.d.dead,Ab Ak (v.d.after:Int),Ab Ak (v.d.keep:Int),Aa oa on oc,Aa h l k,Aa m n tc,Aa p r xc,Aa t w u,Aa x y zc] 0;have z:=D.lays [Ah (some ⟨b,0,none⟩),Ah (some ⟨s,0,none⟩),Aa fa g fc,Ab Ak (v.d.writes:Int),Ad v.d.armed,Ad v.d.dead,Ab Ak (v.d.after:Int),Ab Ak (v.d.keep:Int),Aa oa on oc,Aa h l k,Aa m n tc,Aa p r xc,Aa t w u,Aa x y zc] 0;rw[set14]at z;exact⟨s,b,fa,g,fc,oa,on,oc,h,l,k,m,n,tc,p,r,xc,t,w,u,x,y,zc,U,F.turn C (λ i q=>.inl q),z,G.trans (C.below (AZ A (Nat.le_of_lt D.lt)) (λ i hi q=>by have I:i=R:=q;omega)),A⟩
theorem Zem{ao:Option Addr}{l:List AV}{acs:List Ac}(hA:Acts w ao n l)(hC:ZgF w l acs)(hN:∀a∈l,a.nm.size<=140737488355328)(hn:n<=4000000000000000000):
  Calls Tryz.prog 9 #[Aa ao n c] w λ e w'=>∃u,e=.returned u/\Hid (BW w w' (bwd (acs.take 40)) u):=by
 obtain⟨x,I⟩:=Xa w.heap.size
 obtain⟨p,t⟩:=Xb (w.alloc (Ai zeroW 36))
 have B0:An w.heap.size w p:=by rw[t];exact bz1 _ _
 have ab:BoxA p x 36 zeroW:=by rw[t,<- I];exact BoxA.new _ _ _
 have B:Hid (Acts p ao n l/\(∀a∈l,a.nm.size<=140737488355328)/\ZgF p l acs):=⟨⟨hA.rd.below B0,hA.len,λ a A=>by obtain⟨d1,d2,d3,h⟩:=hA.each a A;exact⟨d1,d2,d3,h.below B0⟩⟩,hN,hC.len,λ i a h=>by obtain⟨d1,d2,d3,E,h2⟩:=hC.at_ i a h;exact⟨d1,d2,d3,E.below B0,h2⟩⟩
 have y:Hid (BoxA p x 36 zeroW/\An w.heap.size w p/\w.heap.size=x/\p.heap.size=x+1):=⟨ab,B0,I,by rw[t];simp;omega⟩
 clear hA hC hN B0 ab;go_enter func9,ntmps9
 go_upto_region 1 with fail
 rw[<- t];clear t I;go_wp2_with fail;refine(ZlA p).mono ?_;rintro e w2 ⟨s,b,rfl,H2⟩
 obtain⟨R,hR⟩:=Xa w2.heap.size
 have L1:Hid (WBm p.heap.size R x p (w2.alloc (Ai (wdV s b dk0 nilV nilV nilV nilV nilV nilV nilV) 36)) (bwd (acs.take 0))):=by
  rw[<- hR];exact WBm.start (by rw[y.o.2.2.2];omega) H2.o.1 H2.o.2
 have am:Hid (p.heap.size<=R):=by
  rw[<- hR];exact H2.o.2.size
 clear H2
 go_upto_region 2 with fail
 clear hR;go_wp2_with fail;go_loopg[5,6] (min n 40) (λ m ov iv wr=>ov=Ad true/\∃i:Nat,iv=Ab Ak i/\i+m=min n 40/\Hid (WBm p.heap.size R x p wr (bwd (acs.take i))))
 case atStart=>exact⟨rfl,0,rfl,by omega,L1.o⟩
 case round =>
  obtain⟨rfl,i,rfl,hi,HR⟩:=hrel;clear L1;have H:=ZbX acs i
  obtain⟨v,hv⟩:=Xa (bwd (acs.take i))
  rw[hv]at H HR
  have HV:Hid (v.built i/\bwd (acs.take i)=v):=⟨H,hv⟩
  obtain⟨s,b,fa,D,fc,oa,on,oc,K,M,L,O,P,tc,Q,S,xc,T,X,V,Y,Z,zc,U,E,h2,h4,h5⟩:=HR.o
  have r:Hid (WI p.heap.size (λ j=>j=R∨j=x) wr s b (Aa fa D fc) (Aa oa on oc) (Aa K M L) (Aa O P tc) (Aa Q S xc) (Aa T X V) (Aa Y Z zc) U v.st v.d v.bl v.tl v.cl/\BoxA wr R 36 (wdV s b v.d (Aa fa D fc) (Aa oa on oc) (Aa K M L) (Aa O P tc) (Aa Q S xc) (Aa T X V) (Aa Y Z zc))/\An p.heap.size p wr):=⟨E,h2,h4⟩
  clear E h2 h4 h5 H hv
  go_upto_region 3 with fail
  go_cut[21] (λ tv u=>∃f,u=wr/\tv=Ad f/\Hid ((f=true->i<min n 40)/\(f=false->i=min n 40)))
  case first =>
   by_cases ae:i<n
   ·have id:(i:Int)<(n:Int):=by omega
    have aw:decide ((i:Int)<(n:Int))=true:=by simpa using id
    by_cases au:i<40
    ·have i6:(i:Int)<40:=by omega
     have av:decide ((i:Int)<40)=true:=by simpa using i6
     go_wp2_with fail;go_meet;exact⟨_,rfl,rfl,λ _=>by omega,λ q=>(by cases q)⟩
    ·have i6:¬(i:Int)<40:=by omega
     have av:decide ((i:Int)<40)=false:=by simpa using i6
     go_wp2_with fail;go_meet;exact⟨_,rfl,rfl,λ q=>(by cases q),λ _=>by omega⟩
   ·have id:¬(i:Int)<(n:Int):=by omega
    have aw:decide ((i:Int)<(n:Int))=false:=by simpa using id
    go_wp2_with fail;go_meet;exact⟨_,rfl,rfl,λ q=>(by cases q),λ _=>by omega⟩
  case rest =>
   obtain⟨f,rfl,rfl,HF⟩:=hcut
   cases f with
   | true =>
    have ae:=HF.o.1 rfl
    have id:(i:Int)<(n:Int):=by omega
    have aG:(0:Int)<=(i:Int):=by omega
    obtain⟨a,A⟩:=Zaf B.o.1.len (show i<n by omega);obtain⟨g,off,rfl,aF⟩:=B.o.1.rd.some_of A;have aa:=hid ((B.o.1.rd.below r.o.2.2).acts A);obtain⟨aE,c0,c1,c2,c3,c4,C,c6⟩:=aa.o;have J:=B.o.2.1 a (List.mem_of_getElem? A);obtain⟨data,ps,qs,F,ad⟩:=B.o.2.2.at_ i a A
    obtain⟨ak,G⟩:=Xa a.k
    rw[G]at c0
    have HG:Hid (bwd (acs.take (i+1))=bstep v (a.ac data ps qs)):=by
     show _=_;rw[AO,ad,<- HV.o.2];exact Zi3 _ _
    have HK:Hid (a.k=ak):=G;clear G HF ad;by_cases h6:ak<6
    ·have PA:=hid (play6 (w0:=p) (v:=v) (a:=a) (N:=i) (r.o.1.below (Below.refl _ _).drew) r.o.2.2.drew rfl (AZ r.o.2.2.size (Az _)) F J (by rw[HK.o];exact h6) HV.o.1.fine (by omega))
     have al:Hid (bwd (acs.take (i+1))=wstep (a.ac data ps qs) v):=by
      have h:=HG.o;unfold bstep at h;rw[AE (by show a.k<6;rw[HK.o];exact h6)]at h;exact h
     obtain⟨k,da,dn,dc,pa,pn,pc,qa,qn,qc,nm,dt,kp⟩:=a;obtain rfl:k=ak:=HK.o;simp only at c1 c2 c3 c4 C c6;clear A F J HV HK HG
     go_upto_region 6 with fail
     obtain⟨p0,p1,p2,p3,p4,p5,p6,p7,p8,p9,af,ag,ah,ai⟩:=r.o.2.1.all14
     go_region_law
      (first
       | (refine Zbd rfl (.tmp 31) (.tmp 35) 26 #[36,81] rfl Zh8 (Ag (wdV s b v.d (Aa fa D fc) (Aa oa on oc) (Aa K M L) (Aa O P tc) (Aa Q S xc) (Aa T X V) (Aa Y Z zc))) (actV k (Aa da dn dc) (Aa pa pn pc) (Aa qa qn qc) nm dt kp) (by simp[Act.eval]) (by simp[Act.eval]) _ PA.o ?_;intro v3 w3 h3;obtain⟨aB,aD,aC,aH,aJ,aI,aK,aM,aL,aR,aT,aS,aU,aW,aV,aX,aZ,aY,a0,a2,a1,U',e3,q1,q2,q3⟩:=h3.o;subst e3;have kR:BoxA w3 R 36 (wdV s b v.d (Aa fa D fc) (Aa oa on oc) (Aa K M L) (Aa O P tc) (Aa Q S xc) (Aa T X V) (Aa Y Z zc)):=(q3 R (.inl rfl)).trans r.o.2.1;have H9:=hid (WBm.stored q1 q2 kR ⟨_,_,_,_,_,_,_,_,_,_,_,_,_,_,rfl⟩ am.o);obtain⟨k0,k1,k2,k3,k4,k5,k6,k7,k8,k9,ax,ay,az,aA⟩:=kR.all14;obtain⟨f0,f1,f2,f3,f4,f5,f6,f7,f8,f9,an,ap,aq,ar⟩:=kR.thaw14;clear h3 q1 q2 q3 kR)
       | fail)
     all_goals
      simp only[layL,BT]at H9;clear k0 k1 k2 k3 k4 k5 k6 k7 k8 k9 ax ay az aA p0 p1 p2 p3 p4 p5 p6 p7 p8 p9 af ag ah ai c0 c1 c2 c3 c4 C c6;go_wp2;go_roundg (gk - 1)
      case measure=>omega
      case rel=>exact⟨rfl,i+1,by go_num,by omega,by rw[al.o];exact H9⟩
    ·have aj:Hid (WBm p.heap.size R x p wc (bwd (acs.take (i+1)))):=by
      have h:=HG.o;unfold bstep at h;rw[Aw (by show ¬a.k<6;rw[HK.o];exact h6)]at h;rw[h];exact HR.o
     clear c1 c2 c3 c4 C c6 A F J HV r aa HG HK;go_wp2;go_roundg (gk - 1)
     case measure=>omega
     case rel=>exact⟨rfl,i+1,by go_num,by omega,aj.o⟩
   | false =>
    have ae:=HF.o.2 rfl
    have HE:Hid (bwd (acs.take 40)=v):=by
     show _=_;rw[<- HV.o.2];have E:=B.o.2.2.len;have h2:=B.o.1.len;by_cases au:n<40
     ·rw[Av (by omega),Av (by omega)]
     ·rw[show i=40 by omega]
    have z:=y.o.1.below r.o.2.2 (by rw[y.o.2.2.2];omega);obtain⟨p0,p1,p2,p3,p4,p5,p6,p7,p8,p9,af,ag,ah,ai⟩:=r.o.2.1.all14;obtain⟨s0,s1,s2,s3,s4,s5,s6,s7,s8,s9,aN,aO,aP,aQ⟩:=z.all14;obtain⟨f0,f1,f2,f3,f4,f5,f6,f7,f8,f9,an,ap,aq,ar⟩:=z.thaw14;have HX:Hid (BoxA wc x 36 zeroW):=z;clear HF HR z;go_wp2;refine As (v:=.tuple #[Ag (wdV s b v.d (Aa fa D fc) (Aa oa on oc) (Aa K M L) (Aa O P tc) (Aa Q S xc) (Aa T X V) (Aa Y Z zc)),Ad true]) ?_ rfl ⟨_,rfl,?_⟩
    ·simp[AH,Tryz.f9];go_simp
    ·have ht:=Zal (W:=wc) x [Ah (some ⟨b,0,none⟩),Ah (some ⟨s,0,none⟩),Aa fa D fc,Ab Ak (v.d.writes:Int),Ad v.d.armed,Ad v.d.dead,Ab Ak (v.d.after:Int),Ab Ak (v.d.keep:Int),Aa oa on oc,Aa K M L,Aa O P tc,Aa Q S xc,Aa T X V,Aa Y Z zc] 0;simp only[layL,BT]at ht;rw[HE.o];have E:=(r.o.1.turn ht (λ i q=>.inr q)).bare.lower (show w.heap.size<=p.heap.size by rw[y.o.2.2.1,y.o.2.2.2];omega);have hb:=y.o.2.1.trans (r.o.2.2.mono (show w.heap.size<=p.heap.size by rw[y.o.2.2.1,y.o.2.2.2];omega));exact⟨s,b,fa,D,fc,oa,on,oc,K,M,L,O,P,tc,Q,S,xc,T,X,V,Y,Z,zc,U,rfl,E,hb.trans (ht.below hb.size (λ i hi q=>by have q':i=x:=q;have:=y.o.2.2.1;omega))⟩
structure St.laid(st:St)(Q:List UInt64)(K:List Int)(r:Rw):Prop where
 eq:r=st.row Q r.id r.gen
 has:st.has 3 r.id=true
 shut:∀p∈(st.com r.id).ps,p∈Q
 gen:r.gen=genF K r.ps
theorem ZpN{a:List UInt64}(h:∀p∈ps,p∈Q):pps (Q++a) ps=pps Q ps:=by
 unfold pps;refine List.map_congr_left (λ p hp=>?_);rw[List.idxOf_append,AE (h p hp)]
theorem Zqk(h:∀p∈ps,p∈Q):∀a∈pps Q ps,0<=a/\a<(Q.length:Int):=by
 intro a b;obtain⟨p,hp,rfl⟩:=Bu.1 b;have:=List.idxOf_lt_length_of_mem (h p hp);omega
theorem St.laid.more{a:List UInt64}{K b:List Int}{r:Rw}(h:st.laid Q K r)(d:K.length=Q.length):st.laid (Q++a) (K++b) r:=by
 have e:st.row (Q++a) r.id r.gen=st.row Q r.id r.gen:=by unfold St.row;rw[ZpN h.shut]
 have c:r.ps=pps Q (st.com r.id).ps:=A4 Rw.ps h.eq;refine⟨by rw[e];exact h.eq,h.has,λ p hp=>AK.2 (.inl (h.shut p hp)),h.gen.trans (Zbu (λ p hp=>?_))⟩;rw[c]at hp;obtain⟨f,g⟩:=Zqk h.shut p hp;exact(ZaV f (by rw[d];exact g)).symm
structure SG(st:St)(cl:List UInt64)(i:Nat)(R:List Rw)(gr:List UInt64):Prop where
 cov:∀x∈cl.take i,x∈R.map (·.id)∨x∈gr
 mem:∀x∈gr,x∈cl.take i
 nd:(R.map (·.id)++gr).Nodup
 row:∀r∈R,st.laid (R.map (·.id)) (R.map (·.gen)) r
theorem SG.nil(st:St)(cl:List UInt64):SG st cl 0 [] []:=⟨by simp,by simp,by simp,by simp⟩
theorem ZdD(h:cl[i]? = some x):cl.take (i+1)=cl.take i++[x]:=by
 rw[AO,h]
 rfl
theorem SG.more(h:SG st cl i R gr)(c:cl[i]? = some x)(b:x∈R.map (·.id)∨x∈gr):SG st cl (i+1) R gr:=by
 have e:=ZdD c;refine⟨λ y a=>?_,λ y a=>by rw[e];exact AK.2 (.inl (h.mem y a)),h.nd,h.row⟩;rw[e]at a
 rcases AK.1 a with q|q
 ·exact h.cov y q
 ·rw[A2]at q;rw[q];exact b
theorem SG.group(h:SG st cl i R gr)(j:cl[i]? = some x)(g:¬(x∈R.map (·.id)∨x∈gr)):SG st cl (i+1) R (gr++[x]):=by
 have e:=ZdD j;refine⟨λ y c=>?_,λ y c=>?_,?_,h.row⟩
 ·rw[e]at c
  rcases AK.1 c with q|q
  ·exact(h.cov y q).imp id (λ q=>AK.2 (.inl q))
  ·exact .inr (AK.2 (.inr q))
 ·rw[e]
  rcases AK.1 c with q|q
  ·exact AK.2 (.inl (h.mem y q))
  ·exact AK.2 (.inr q)
 ·rw[<- List.append_assoc,List.nodup_append];refine⟨h.nd,by simp,λ a f b d q=>?_⟩;rw[A2]at d;subst d;subst q;exact g (AK.1 f)
theorem SG.free(h:SG st cl i R gr)(b:CC st cl):st.free (R.map (·.id)) gr:=by
 have at_:∀x∈cl.take i,st.has 3 x=true/\∀p∈(st.com x).ps,p∈cl.take i:=by
  intro x a;obtain⟨j,c,rfl⟩:=Cv a;rw[List.length_take]at c;rw[List.getElem_take];have q:=b j _ (Aq (by omega));exact⟨q.1,λ p hp=>List.take_subset_take_left cl (by omega) (q.2 p hp)⟩
 exact⟨h.nd,λ x a=>(at_ x (h.mem x a)).1,λ x a p hp=>AK.2 (h.cov p ((at_ x (h.mem x a)).2 p hp))⟩
theorem SG.laid{f:List Rw}{G:List Int}{r:Int}(h:SG st cl i R gr)(l:CC st cl)(s:st.told (R.map (·.id)) G gr r f)(k:st.free (R.map (·.id)) gr->Gens (R.map (·.gen)) (st.pss (R.map (·.id)++risU gr) (risU gr)) G)(hi:∀{Q xs:List UInt64} {G:List Int},G.length=xs.length->(st.rows Q xs G).map (·.id)=xs):SG st cl i (R++f) []:=by
 have a:=h.free l;have d:=k a
 have n:G.length=(risU gr).length:=by rw[d.len];unfold St.pss;rw[AQ]
 obtain⟨rfl,rfl⟩:=s.uniq (.rows a)
 have c:(R++st.rows (R.map (·.id)++risU gr) (risU gr) G).map (·.id)=R.map (·.id)++risU gr:=by rw[BS,hi n]
 have g:(st.rows (R.map (·.id)++risU gr) (risU gr) G).map (·.gen)=G:=by
  unfold St.rows;refine List.ext_getElem? (λ i=>?_);rw[Bc,List.getElem?_zipWith];by_cases hi:i<G.length
  ·rw[Aq hi,Aq (by omega:i<(risU gr).length)]
   rfl
  ·rw[AL (by omega:G.length<=i),AL (by omega:(risU gr).length<=i)]
   rfl
 refine⟨λ x b=>?_,by simp,by rw[c,Bp];exact ZbS.2 a.nd,λ r o=>?_⟩
 ·left
  rw[c];exact ZbL.2 (AK.2 (h.cov x b))
 ·rw[c,BS,g]
  rcases AK.1 o with q|q
  ·exact(h.row r q).more (by rw[AQ,AQ])
  ·unfold St.rows at q;obtain⟨j,m,rfl⟩:=Cv q;rw[List.length_zipWith]at m;rw[List.getElem_zipWith];have b:(risU gr)[j]'(by omega)∈gr:=ZaJ.1 (List.getElem_mem _);refine⟨rfl,a.has _ b,λ p hp=>ZbL.2 (a.shut _ b p hp),?_⟩;have e:=d.eq j (pps (R.map (·.id)++risU gr) (st.com ((risU gr)[j]'(by omega))).ps) (by unfold St.pss;rw[Bc,Aq (by omega:j<(risU gr).length)];rfl);rw[Aq (by omega:j<G.length)]at e;exact Option.some.inj e
theorem SG.all(h:SG v.st v.cl i R [])(hi:v.cl.length<=i)(b:v.cc)(c:v.st.ok):R.length=v.st.coms.length:=by
 have a:=h.nd;rw[Bp]at a
 have:=Zmu c.one a (λ x=>by
  constructor
  ·intro q;obtain⟨r,d,rfl⟩:=Bu.1 q;exact(h.row r d).has
  ·intro q;have:=h.cov x (by rw[Av hi];exact b.all x q)
   exact this.elim id (λ q=>by simp at q))
 rw[<- this,Zb7,AQ]
theorem shidR{p:Prop}(h:p):Hid p:=h
section
variable{w:World}{d:Dk}{st:St}{oa:Option Addr}{on oc:Nat}{vf vr vt:Value}
theorem Zfm(h:RdG encO w oa st.objs)(I:st.objs.length=on)(T:on<=1000000)(N:∀o∈st.objs,o.body.length<=8192)(x:UInt64):
  Calls Tryz.prog 97 #[rm d vf (Aa oa on oc) vr vt,Ab Al (x.toNat:Int)] w λ e w'=>∃v,e=.returned v/\Hid (OwnG encE 233 w' w.heap.size v (st.files x)/\An w.heap.size w w'):=by
 obtain⟨W,M⟩:=Xa (w.alloc (nineC d vf (Aa oa on oc) vr vt))
 have t:An w.heap.size w W:=by rw[<- M];exact bz1 _ _
 have K:Zco W w.heap.size d vf (Aa oa on oc) vr vt:=by rw[<- M];exact Nine.new w _ _ _ _ _ _ _ _ _
 obtain⟨u,y,z,A,B,C,D,E,F⟩:=K.cells
 have g:=Zgr (d:=d) (oc:=oc) (vf:=vf) (vr:=vr) (vt:=vt) (h.below t) I T 2 x
 have a:Hid (An w.heap.size w W/\RdG encO W oa st.objs/\Zco W w.heap.size d vf (Aa oa on oc) vr vt/\st.objs.length=on/\∀o∈st.objs,o.body.length<=8192):=⟨t,h.below t,K,I,N⟩
 obtain⟨R,n⟩:∃R:Int,(x.toNat:Int)=R:=⟨_,rfl⟩
 rw[n]at g ⊢;clear h I N n t K;go_enter func97,ntmps97;go_wp2_with fail;refine g.mono ?_;rintro e w1 ⟨r,rfl,S,G⟩
 have c:Hid (An w.heap.size w w1/\An W.heap.size W w1):=⟨a.o.1.trans (G.mono a.o.1.size),G⟩
 clear G g
 rcases S.o with⟨k,L⟩ | ⟨i,L,bs,p,k⟩
 ·have l:st.files x=[]:=by
   unfold St.files;rw[k]
   rfl
  have s:=shidR l;subst L;clear k l u y z A B C D E F;go_wp2;go_ret;exact⟨_,rfl,by rw[s.o];exact OwnG.nil _ _ _ _,c.o.1⟩
 ·have l:st.files x=(rdtree bs).getD []:=by
   unfold St.files;rw[k]
   rfl
  have m:=a.o.2.2.2.2 _ (Zb4 k);simp only at m
  have i0:(0:Int)<=(i:Int):=by omega
  have il:i<on:=by
   rw[<- a.o.2.2.2.1]
   rcases Cp i st.objs.length with q|q
   ·exact q
   ·rw[AL q]at p;cases p
  have U:(i:Int)<(on:Int):=by omega
  have P:=a.o.2.2.1.below c.o.2 a.o.2.2.1.lt;clear u y z A B C D E F;obtain⟨u,y,z,A,B,C,D,E,F⟩:=P.cells;obtain⟨b1,off,rfl,_⟩:=(a.o.2.1.below c.o.2).some_of p;obtain⟨_,V,X,O⟩:=(a.o.2.1.below c.o.2).obs p
  obtain⟨b,f⟩:∃b:ByteArray,(⟨bs.toArray⟩:ByteArray)=b:=⟨_,rfl⟩
  have Y:w1.cell? ⟨b1,off+i*3+2,none⟩=some (Ae b):=by rw[<- f];exact O
  have j:=ZcB bs (by omega) w1;rw[show tx bs=Ae b by rw[<- f]]at j;have s:Hid (st.files x=(rdtree bs).getD []):=l;subst L;clear k p l V X O P m f;go_wp2_with fail;refine j.mono ?_;rintro e Q ⟨es,Z,v,rfl,J⟩
  have H:Hid (OwnG encE 233 Q w.heap.size v (st.files x)/\An w.heap.size w Q):=by
   rw[s.o,J.o.1.files];exact⟨ownsRow_base_a J.o.2.1 c.o.1.size,c.o.1.trans (J.o.2.2.mono c.o.1.size)⟩
  clear J j s u y z A B C D E F Y;go_wp2;go_ret;exact⟨_,rfl,H⟩
theorem Zjj(h:RdG encO w oa st.objs)(hl:st.objs.length=on)(hn:on<=1000000)(hb:∀o∈st.objs,o.body.length<=8192)(x:UInt64)(cm:Cm)(F:st.com x=cm):
  Calls Tryz.prog 38 #[rm d vf (Aa oa on oc) vr vt,Ab Al (x.toNat:Int)] w λ e w'=>∃(pa:Option Addr) (pc:Nat),e=.returned (Ag #[Ab Al (cm.tree.toNat:Int),Aa pa cm.ps.length pc,Ab Ak cm.date,tx cm.note])/\Hid (RdG encU w' pa cm.ps/\cm.ps.length<=pc/\An w.heap.size w w'):=by
 obtain⟨W,Z⟩:=Xa ((w.alloc (nineC d vf (Aa oa on oc) vr vt)).alloc (Ai #[Ab Al 0,Aa none 0 0,Ab Ak 0,Ae ⟨#[]⟩] 101))
 have L:An w.heap.size w W:=by rw[<- Z];exact bz2 _ _ _
 have n9:Zco W w.heap.size d vf (Aa oa on oc) vr vt:=by rw[<- Z];exact(Nine.new w _ _ _ _ _ _ _ _ _).below (bz1 _ _) (by simp)
 have bx:Box4 W (w.heap.size+1) 101 (Ab Al 0) (Aa none 0 0) (Ab Ak 0) (Ae ⟨#[]⟩):=by
  rw[<- Z];have:=Box4.new (w.alloc (nineC d vf (Aa oa on oc) vr vt)) 101 (Ab Al 0) (Aa none 0 0) (Ab Ak 0) (Ae ⟨#[]⟩)
  rwa [World.size_alloc]at this
 obtain⟨M,N,O,P,Q,R,S,T,U⟩:=n9.cells
 have s:=Zgr (d:=d) (oc:=oc) (vf:=vf) (vr:=vr) (vt:=vt) (h.below L) hl hn 3 x
 have c:Hid (An w.heap.size w W/\RdG encO W oa st.objs/\Zco W w.heap.size d vf (Aa oa on oc) vr vt/\st.objs.length=on/\(∀o∈st.objs,o.body.length<=8192)/\Box4 W (w.heap.size+1) 101 (Ab Al 0) (Aa none 0 0) (Ab Ak 0) (Ae ⟨#[]⟩)/\st.com x=cm):=⟨L,h.below L,n9,hl,hb,bx,F⟩
 obtain⟨xi,H⟩:∃xi:Int,(x.toNat:Int)=xi:=⟨_,rfl⟩
 rw[H]at s ⊢;clear h hl hb H L n9 bx F;go_enter func38,ntmps38;go_wp2_with fail;refine s.mono ?_;rintro e w1 ⟨r,rfl,Y,X⟩
 have g:Hid (An w.heap.size w w1/\An W.heap.size W w1):=⟨c.o.1.trans (X.mono c.o.1.size),X⟩
 have a:=c.o.2.2.2.2.2.1.below g.o.2 c.o.2.2.2.2.2.1.lt;clear X s
 rcases Y.o with⟨B,q2⟩ | ⟨i,q2,bs,I,B⟩
 ·have ec:cm=zcm:=by
   rw[<- c.o.2.2.2.2.2.2];unfold St.com;rw[B]
   rfl
  subst q2 ec;obtain⟨x0,x1,x2,x3⟩:=a.cells;obtain⟨f0,f1,f2,f3⟩:=a.thaw;have lt:=a.lt;have f:=shidR (g.o.1.trans ((ZaC w1 (w.heap.size+1) (Ab Al 0) (Aa none 0 0) (Ab Ak 0) (Ae ⟨#[]⟩)).below g.o.1.size (λ k hk q=>by have q':k=w.heap.size+1:=q;omega)));clear B M N O P Q R S T U a Y;go_wp2;refine As (v:=Ag #[Ab Al 0,Aa none 0 0,Ab Ak 0,Ae ⟨#[]⟩]) ?_ rfl ⟨none,0,rfl,RdG.nil _ _ _,Az _,f.o⟩;simp[AH,Tryz.f38];go_simp
 ·have ec:st.com x=(rdcom bs).getD zcm:=by
   unfold St.com;rw[B]
   rfl
  have E:=c.o.2.2.2.2.1 _ (Zb4 B);simp only at E
  have i0:(0:Int)<=(i:Int):=by omega
  have il:i<on:=by
   rw[<- c.o.2.2.2.1]
   rcases Cp i st.objs.length with q|q
   ·exact q
   ·rw[AL q]at I;cases I
  have aa:(i:Int)<(on:Int):=by omega
  have r9:=c.o.2.2.1.below g.o.2 c.o.2.2.1.lt;clear M N O P Q R S T U;obtain⟨M,N,O,P,Q,R,S,T,U⟩:=r9.cells;obtain⟨b1,off,rfl,_⟩:=(c.o.2.1.below g.o.2).some_of I;obtain⟨_,o0,o1,o9⟩:=(c.o.2.1.below g.o.2).obs I
  obtain⟨b,n⟩:∃b:ByteArray,(⟨bs.toArray⟩:ByteArray)=b:=⟨_,rfl⟩
  have o2:w1.cell? ⟨b1,off+i*3+2,none⟩=some (Ae b):=by rw[<- n];exact o9
  have y:=Zb1 bs (by omega) w1;rw[show tx bs=Ae b by rw[<- n]]at y
  have EB:Hid (cm=(rdcom bs).getD zcm):=by rw[<- c.o.2.2.2.2.2.2];exact ec
  have A:=shidR a;subst q2;clear B I ec o0 o1 o9 r9 E n a Y;go_wp2_with fail;refine y.mono ?_;rintro e V ⟨c2,er,pa,pc,rfl,J⟩
  have ec:cm=c2:=by rw[EB.o];exact J.o.1.com
  subst ec
  obtain⟨m,z⟩:∃m:Int,(cm.tree.toNat:Int)=m:=⟨_,rfl⟩
  obtain⟨pn,l⟩:=Xa cm.ps.length
  obtain⟨dt,t⟩:=Xa cm.date
  obtain⟨nt,u⟩:∃nt:ByteArray,(⟨cm.note.toArray⟩:ByteArray)=nt:=⟨_,rfl⟩
  rw[z,l,t,show tx cm.note=Ae nt by rw[<- u]]
  obtain⟨wA,G⟩:=Xa (V.alloc (Ai #[Ab Al m,Aa pa pn pc,Ab Ak dt,Ae nt] 101))
  have K:An V.heap.size V wA:=by rw[<- G];exact bz1 _ _
  have D:Box4 wA V.heap.size 101 (Ab Al m) (Aa pa pn pc) (Ab Ak dt) (Ae nt):=by rw[<- G];exact Box4.new _ _ _ _ _ _
  have j:=(A.o.below J.o.2.2.2.1 A.o.lt).below K (A.o.below J.o.2.2.2.1 A.o.lt).lt;obtain⟨y0,y1,y2,y3⟩:=D.cells;obtain⟨x0,x1,x2,x3⟩:=j.cells;obtain⟨f0,f1,f2,f3⟩:=j.thaw;have lt:=j.lt;have ht:=ZaC wA (w.heap.size+1) (Ab Al m) (Aa pa pn pc) (Ab Ak dt) (Ae nt);have bel:An w.heap.size w wA:=(g.o.1.trans (J.o.2.2.2.1.mono g.o.1.size)).trans (K.mono (AZ g.o.1.size J.o.2.2.2.1.size))
  have f:Hid (RdG encU ((((wA.setCell ⟨w.heap.size+1,0,none⟩ (Ab Al m)).setCell ⟨w.heap.size+1,1,none⟩ (Aa pa pn pc)).setCell ⟨w.heap.size+1,2,none⟩ (Ab Ak dt)).setCell ⟨w.heap.size+1,3,none⟩ (Ae nt)) pa cm.ps/\pn<=pc/\An w.heap.size w ((((wA.setCell ⟨w.heap.size+1,0,none⟩ (Ab Al m)).setCell ⟨w.heap.size+1,1,none⟩ (Aa pa pn pc)).setCell ⟨w.heap.size+1,2,none⟩ (Ab Ak dt)).setCell ⟨w.heap.size+1,3,none⟩ (Ae nt))):=by
   refine⟨(J.o.2.1.below K).turned ht (λ h0 p hp q=>?_),by rw[<- l];exact J.o.2.2.1,bel.trans (ht.below bel.size (λ k hk q=>by have q':k=w.heap.size+1:=q;omega))⟩;have h1:=J.o.2.2.2.2 h0 p hp;have h2:=A.o.lt;have q':p.block=w.heap.size+1:=q;omega
  have C:Hid ((cm.tree.toNat:Int)=m/\cm.ps.length=pn/\cm.date=dt/\(⟨cm.note.toArray⟩:ByteArray)=nt):=⟨z,l,t,u⟩
  clear z l t u K D j J y EB M N O P Q R S T U o2 ht bel A;go_wp2;refine As (v:=Ag #[Ab Al m,Aa pa pn pc,Ab Ak dt,Ae nt]) ?_ rfl ?_
  ·simp[AH,Tryz.f38];go_simp
  ·refine⟨pa,pc,?_,f.o.1,by rw[C.o.2.1];exact f.o.2.1,f.o.2.2⟩;rw[C.o.1,C.o.2.1,C.o.2.2.1,<- C.o.2.2.2]
end
end Go.Proofs.YtlojblelpaegpaaGreat
