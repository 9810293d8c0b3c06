import Derived.Test.YtakgkgmopmcecaaGreatM14
set_option maxHeartbeats 6400000
set_option maxRecDepth 100000
open Go renaming World->Ap,Value->Ar,Calls->At,bodyPost_ret->As,results->AI,maxLen->AH
open List renaming foldl_append->CU,take_succ_eq_append_getElem->Bh,take_of_length_le->Av,mem_of_getElem?->A8,take_add_one->AW,idxOf_append->D0,mem_map->BJ,mem_append->AN,mem_singleton->AZ,append_assoc->AT,getElem_of_mem->CE,length_take->AE,getElem_take->F9,getElem?_eq_getElem->Aq,length_map->A4,map_append->BV,ext_getElem?->CD,getElem?_map->Bo,getElem?_zipWith->C8,getElem?_eq_none->AM,append_nil->Bz,getElem?_eq_some_iff->AG,getElem?_append_left->BS,getElem?_append_right->BZ,drop_eq_getElem_cons->BT,getD->Cn,drop_eq_nil_of_le->Ei,length_append->Ax,length_take_le->CS
open Go.RowKit renaming Below->An
open Nat renaming le_trans->AU,le_refl->AA,reduceAdd->Cv,lt_or_ge->Ct
open Go.RowKit.Below renaming refl->Ao
open UInt64 renaming lt_iff_toNat_lt->BO,le_iff_toNat_le->BP,toNat_inj->BG
open Go.Value renaming slice->Aa,int->Ab,bool->Ad,string->Ae,agg->Ag,pointer->Ah
open Go.IntKind renaming i64->Ak,wrap_i64->Au,u64->Al
open Go.Ending renaming returned->Aj
open Go.Proofs.Tryz renaming prog->Am
open Go.Proofs.Tryz
namespace Go.Proofs.YtakgkgmopmcecaaGreat
open Go.RowKit
variable {A:List En}{B B' b base c i m n rc rg:Nat}{E S:Nat->Prop}{G K X:List Int}{Q bl cl gr ps tl:List UInt64}{R rs:List Rw}{a ao h:Option Addr}{cs:Array Ar}{d:Dk}{l out:List Bs}{r:Rw}{rk:Nat->Nat}{s:Bs}{st:St}{t:TypeId}{u w w':Ap}{vf vo vr vt xb xc xt:Ar}{x y:UInt64}
theorem gT.all14{Q:Nat}{a0 a1 a2 a3 a4 a5 a6 a7 a8 a9 a b c d:Ar}(h:gT w Q t #[a0,a1,a2,a3,a4,a5,a6,a7,a8,a9,a,b,c,d]):w.cell? ⟨Q,0,none⟩=some a0/\w.cell? ⟨Q,1,none⟩=some a1/\w.cell? ⟨Q,2,none⟩=some a2/\w.cell? ⟨Q,3,none⟩=some a3/\w.cell? ⟨Q,4,none⟩=some a4/\w.cell? ⟨Q,5,none⟩=some a5/\w.cell? ⟨Q,6,none⟩=some a6/\w.cell? ⟨Q,7,none⟩=some a7/\w.cell? ⟨Q,8,none⟩=some a8/\w.cell? ⟨Q,9,none⟩=some a9/\w.cell? ⟨Q,10,none⟩=some a/\w.cell? ⟨Q,11,none⟩=some b/\w.cell? ⟨Q,12,none⟩=some c/\w.cell? ⟨Q,13,none⟩=some d :=
 ⟨h.cell rfl,h.cell rfl,h.cell rfl,h.cell rfl,h.cell rfl,h.cell rfl,h.cell rfl,h.cell rfl,h.cell rfl,h.cell rfl,h.cell rfl,h.cell rfl,h.cell rfl,h.cell rfl⟩
theorem gT.thaw14{Q:Nat}(h:gT w Q t cs):w.frozen? ⟨Q,0,none⟩=false/\w.frozen? ⟨Q,1,none⟩=false/\w.frozen? ⟨Q,2,none⟩=false/\w.frozen? ⟨Q,3,none⟩=false/\w.frozen? ⟨Q,4,none⟩=false/\w.frozen? ⟨Q,5,none⟩=false/\w.frozen? ⟨Q,6,none⟩=false/\w.frozen? ⟨Q,7,none⟩=false/\w.frozen? ⟨Q,8,none⟩=false/\w.frozen? ⟨Q,9,none⟩=false/\w.frozen? ⟨Q,10,none⟩=false/\w.frozen? ⟨Q,11,none⟩=false/\w.frozen? ⟨Q,12,none⟩=false/\w.frozen? ⟨Q,13,none⟩=false :=
 ⟨h.thaw _,h.thaw _,h.thaw _,h.thaw _,h.thaw _,h.thaw _,h.thaw _,h.thaw _,h.thaw _,h.thaw _,h.thaw _,h.thaw _,h.thaw _,h.thaw _⟩
def mB(v:Wd)(a:Ac):Wd:=if a.k<6 then jN a v else v
def mW(acs:List Ac):Wd:=acs.foldl mB oh
theorem Sn(acs:List Ac)(a:Ac):mW (acs++[a])=mB (mW acs) a:=by
 unfold mW;rw[CU]
 rfl
structure Wd.built(v:Wd)(n:Nat):Prop where
 fine:v.fine n
 ord:lC v.st
 cc:v.cc
theorem Wd.built.step{v:Wd}(h:v.built n)(a:Ac):(mB v a).built (n+1):=by
 unfold mB
 split
 exact⟨h.fine.step a,h.ord.stp (ZD h.fine.st a),h.cc.step a⟩
 exact⟨h.fine.more,h.ord,h.cc⟩
theorem ef:oh.fine 0:=⟨St.ok0,Dk.ok0,by decide,by decide,by decide,by decide,by decide⟩
theorem Me(acs:List Ac):∀i,(mW (acs.take i)).built i
 | 0=>⟨ef,lC.zero,YO⟩
 | i+1=>by
  by_cases hi:i<acs.length;rw[Bh hi,Sn];exact(Me acs i).step _;have h:=Me acs i;rw[Av (by omega)]at h ⊢;exact⟨h.fine.more,h.ord,h.cc⟩
structure JX(w:Ap)(l:List AV)(acs:List Ac):Prop where
 len:acs.length=l.length
 at_:∀(i:Nat) (a:AV),l[i]? = some a->∃data ps qs,H7 w a data ps qs/\acs[i]? = some (a.ac data ps qs)
theorem SF:∀{l:List AV},(∀a∈l,∃data ps qs,H7 w a data ps qs)->∃acs,JX w l acs
 | [],_=>⟨[],rfl,λ _ a h=>by simp at h⟩
 | a::t,h=>by
  obtain⟨acs,f,g⟩:=SF (l:=t) (λ b c=>h b (List.mem_cons_of_mem _ c));obtain⟨data,ps,qs,j⟩:=h a List.mem_cons_self;refine⟨a.ac data ps qs::acs,by simp[f],λ i b c=>?_⟩
  cases i with
  | zero =>
   have e:a=b:=by simpa using c
   subst e;exact⟨data,ps,qs,j,rfl⟩
  | succ i =>
   obtain⟨d,n,o,k,m⟩:=g i b (by simpa using c);exact⟨d,n,o,k,by simpa using m⟩
theorem H7.below{a:AV}{data:Bs}{ps:List Bs}{qs:List Int}(h:H7 w a data ps qs)(b:Iz w w'):H7 w' a data ps qs :=
 ⟨h.hd.below b,h.dl,h.dm,h.hp.below b,h.pl,h.pm,h.pf,h.hq.below b,h.ql,h.qm⟩
def BW(w w':Ap)(v:Wd)(u:Ar):Prop:=∃s b fa fl fc oa on oc ra rn rc ta tn tc xa xn xc ya yn yc za zn zc U,
 u=.tuple #[Ag (iS s b v.d (Aa fa fl fc) (Aa oa on oc) (Aa ra rn rc) (Aa ta tn tc) (Aa xa xn xc) (Aa ya yn yc) (Aa za zn zc)),Ad true]/\WI w.heap.size (λ _=>False) w' s b (Aa fa fl fc) (Aa oa on oc) (Aa ra rn rc) (Aa ta tn tc) (Aa xa xn xc) (Aa ya yn yc) (Aa za zn zc) U v.st v.d v.bl v.tl v.cl/\An w.heap.size w w'
theorem WI.bare{s:Nat}{U:Nat->Prop}(h:WI B E w s b vf vo vr vt xb xt xc U st d bl tl cl):WI B (λ _=>False) w s b vf vo vr vt xb xt xc U st d bl tl cl :=
 ⟨h.duo,h.low,h.ref.mono (λ _ q=>q.imp id (λ q=>q.elim)),λ _ _ q=>q,λ _ q=>q.elim,h.ob,h.ot,h.oc,h.fb,h.ft,h.fc,h.bt,h.bc,h.tc⟩
theorem WI.lower{s:Nat}{U:Nat->Prop}(h:WI B E w s b vf vo vr vt xb xt xc U st d bl tl cl)(a:B'<=B):WI B' E w s b vf vo vr vt xb xt xc U st d bl tl cl :=
 ⟨h.duo,λ i q=>AU a (h.low i q),h.ref,h.fe,h.elt,h.ob.low a,h.ot.low a,h.oc.low a,h.fb,h.ft,h.fc,h.bt,h.bc,h.tc⟩
def nP(B R m0:Nat)(w0 u:Ap)(v:Wd):Prop:=∃s b fa fl fc oa on oc ra rn rc ta tn tc xa xn xc ya yn yc za zn zc U,
 WI B (λ j=>j=R∨j=m0) u s b (Aa fa fl fc) (Aa oa on oc) (Aa ra rn rc) (Aa ta tn tc) (Aa xa xn xc) (Aa ya yn yc) (Aa za zn zc) U v.st v.d v.bl v.tl v.cl/\gT u R 37 (iS s b v.d (Aa fa fl fc) (Aa oa on oc) (Aa ra rn rc) (Aa ta tn tc) (Aa xa xn xc) (Aa ya yn yc) (Aa za zn zc))/\An B w0 u/\B<=R
theorem nP.start{a:Ap}{s d:Nat}(e:d<w.heap.size)(hd:jK a s b mH lM (λ i=>w.heap.size<=i/\i<a.heap.size))(c:Iz w a):nP w.heap.size a.heap.size d w (a.alloc (.cells (iS s b lM gU gU gU gU gU gU gU) 37)) oh:=by
 have h:=WB.start (Ao w.heap.size w) hd c;refine⟨s,b,none,0,0,none,0,0,none,0,0,none,0,0,none,0,0,none,0,0,none,0,0,_,⟨h.1.duo,h.1.low,oM _ _,λ i q r=>?_,λ i q=>?_,h.1.ob,h.1.ot,h.1.oc,h.1.fb,h.1.ft,h.1.fc,h.1.bt,h.1.bc,h.1.tc⟩,h.2.1,h.2.2.1,h.2.2.2⟩
 rcases r with r|r
 exact h.1.fe i q r
 have:=(h.1.lt i q).1;omega
 rcases q with q|q
 exact h.1.elt i q
 have:=c.size;rw[q];simp;omega
theorem nP.stored{R D:Nat}{w0 n:Ap}{s:Nat}{v:Wd}{fa oa l o r w:Option Addr}{g fc on oc k tc p xc u t x zc:Nat}{U:Nat->Prop}(E:WI B (λ j=>j=R∨j=D) n s b (Aa fa g fc) (Aa oa on oc) (Aa h k rc) (Aa l m tc) (Aa o p xc) (Aa r u t) (Aa w x zc) U v.st v.d v.bl v.tl v.cl)(F:An B w0 n)(C:gT n R 37 cs)(G:∃a0 a1 a2 a3 a4 a5 a6 a7 a8 a9 a c e f,cs=#[a0,a1,a2,a3,a4,a5,a6,a7,a8,a9,a,c,e,f])(z:B<=R):
  nP B R D w0 (jG n R [Ah (some ⟨b,0,none⟩),Ah (some ⟨s,0,none⟩),Aa fa g fc,Ab Ak (v.d.writes:Int),Ad v.d.armed,Ad v.d.dead,Ab Ak (v.d.after:Int),Ab Ak (v.d.keep:Int),Aa oa on oc,Aa h k rc,Aa l m tc,Aa o p xc,Aa r u t,Aa w x zc] 0) v:=by
 obtain⟨a0,a1,a2,a3,a4,a5,a6,a7,a8,a9,a,c,e,f,rfl⟩:=G;have A:=De (W:=n) R [Ah (some ⟨b,0,none⟩),Ah (some ⟨s,0,none⟩),Aa fa g fc,Ab Ak (v.d.writes:Int),Ad v.d.armed,Ad v.d.dead,Ab Ak (v.d.after:Int),Ab Ak (v.d.keep:Int),Aa oa on oc,Aa h k rc,Aa l m tc,Aa o p xc,Aa r u t,Aa w x zc] 0;have y:=C.lays [Ah (some ⟨b,0,none⟩),Ah (some ⟨s,0,none⟩),Aa fa g fc,Ab Ak (v.d.writes:Int),Ad v.d.armed,Ad v.d.dead,Ab Ak (v.d.after:Int),Ab Ak (v.d.keep:Int),Aa oa on oc,Aa h k rc,Aa l m tc,Aa o p xc,Aa r u t,Aa w x zc] 0;rw[om]at y;exact⟨s,b,fa,g,fc,oa,on,oc,h,k,rc,l,m,tc,o,p,xc,r,u,t,w,x,zc,U,E.turn A (λ i q=>.inl q),y,F.trans (A.below (AU z (Nat.le_of_lt C.lt)) (λ i hi q=>by have H:=q;omega)),z⟩
theorem TD{l:List AV}{acs:List Ac}(hA:nA w ao n l)(hC:JX w l acs)(hN:∀a∈l,a.nm.size<=140737488355328)(hn:n<=4000000000000000000):
  At Am 7 #[Aa ao n c] w λ e w'=>∃u,e=Aj u/\Hid (BW w w' (mW (acs.take 40)) u):=by
 obtain⟨x,I⟩:=Xa w.heap.size
 obtain⟨p,t⟩:=Xb (w.alloc (.cells kO 37))
 have B0:Iz w p:=by rw[t];exact gW _ _
 have ab:gT p x 37 kO:=by rw[t,<- I];exact gT.new _ _ _
 have B:Hid (nA p ao n l/\(∀a∈l,a.nm.size<=140737488355328)/\JX p l acs):=⟨⟨hA.rd.below B0,hA.len,λ a A=>by obtain⟨d1,d2,d3,h⟩:=hA.each a A;exact⟨d1,d2,d3,h.below B0⟩⟩,hN,hC.len,λ i a h=>by obtain⟨d1,d2,d3,E,h2⟩:=hC.at_ i a h;exact⟨d1,d2,d3,E.below B0,h2⟩⟩
 have y:=I4 ab B0 I (by rw[t];simp;omega:p.heap.size=x+1)
 clear hA hC hN B0 ab;go_enter func7,ntmps7
 go_upto_region 1 with fail
 rw[<- t];clear t I;go_wp2_with fail;refine(YU p).mono ?_;rintro e w2 ⟨s,b,rfl,H2⟩
 obtain⟨R,hR⟩:=Xa w2.heap.size
 have L1:Hid (nP p.heap.size R x p (w2.alloc (.cells (iS s b lM gU gU gU gU gU gU gU) 37)) (mW (acs.take 0))):=by
  rw[<- hR];exact nP.start (by rw[y.o.2.2.2];omega) H2.o.1 H2.o.2
 have am:Hid (p.heap.size<=R):=by
  rw[<- hR];exact H2.o.2.size
 clear H2
 go_upto_region 2 with fail
 clear hR;go_wp2_with fail;go_loopg[5,6] (min n 40) (λ m ov iv wr=>ov=Ad true/\∃i:Nat,iv=Ab Ak i/\i+m=min n 40/\Hid (nP p.heap.size R x p wr (mW (acs.take i))))
 case atStart=>exact⟨rfl,0,rfl,by omega,L1.o⟩
 case round =>
  obtain⟨rfl,i,rfl,hi,HR⟩:=hrel;clear L1;have H:=Me acs i;obtain⟨v,hv⟩:=Xa (mW (acs.take i));rw[hv]at H HR;have HV:=I2 H hv;obtain⟨s,b,fa,D,fc,oa,on,oc,K,L,rc,M,O,tc,P,Q,xc,S,V,T,X,Y,zc,U,E,h2,h4,h5⟩:=HR.o;have r:=I3 E h2 h4;clear E h2 h4 h5 H hv;go_upto_region 3 with fail
  go_cut[21] (λ tv u=>∃f,u=wr/\tv=Ad f/\Hid ((f=true->i<min n 40)/\(f=false->i=min n 40)))
  case first =>
   by_cases ae:i<n
   have id:(i:Int)<(n:Int):=by omega
   have aw:decide ((i:Int)<(n:Int))=true:=by simpa using id
   by_cases au:i<40
   have i6:(i:Int)<40:=by omega
   have av:decide ((i:Int)<40)=true:=by simpa using i6
   go_wp2_with fail;go_meet;exact⟨_,rfl,rfl,λ _=>by omega,λ q=>(by cases q)⟩
   have i6:¬(i:Int)<40:=by omega
   have av:decide ((i:Int)<40)=false:=by simpa using i6
   go_wp2_with fail;go_meet;exact⟨_,rfl,rfl,λ q=>(by cases q),λ _=>by omega⟩
   have id:¬(i:Int)<(n:Int):=by omega
   have aw:decide ((i:Int)<(n:Int))=false:=by simpa using id
   go_wp2_with fail;go_meet;exact⟨_,rfl,rfl,λ q=>(by cases q),λ _=>by omega⟩
  case rest =>
   obtain⟨f,rfl,rfl,HF⟩:=hcut
   cases f with
   | true =>
    have ae:=HF.o.1 rfl
    have id:(i:Int)<(n:Int):=by omega
    have aG:(0:Int)<=(i:Int):=by omega
    obtain⟨a,A⟩:=BK B.o.1.len (show i<n by omega);obtain⟨g,off,rfl,aF⟩:=B.o.1.rd.some_of A;have aa:=hid ((B.o.1.rd.below r.o.2.2).acts A);obtain⟨aE,c0,c1,c2,c3,c4,C,c6⟩:=aa.o;have J:=B.o.2.1 a (A8 A);obtain⟨data,ps,qs,F,ad⟩:=B.o.2.2.at_ i a A;obtain⟨ak,G⟩:=Xa a.k;rw[G]at c0
    have HG:Hid (mW (acs.take (i+1))=mB v (a.ac data ps qs)):=by
     show _=_;rw[AW,ad,<- HV.o.2];exact Sn _ _
    have Z:=Ih G;clear G HF ad;by_cases h6:ak<6
    ·have PA:=hid (oD (w0:=p) (v:=v) (a:=a) (N:=i) (r.o.1.below (Ao _ _).drew) r.o.2.2.drew rfl (AU r.o.2.2.size (AA _)) F J (by rw[Z.o];exact h6) HV.o.1.fine (by omega))
     have al:Hid (mW (acs.take (i+1))=jN (a.ac data ps qs) v):=by
      have h:=HG.o;unfold mB at h;rw[AC (by show a.k<6;rw[Z.o];exact h6)]at h;exact h
     obtain⟨k,da,dn,dc,pa,pn,pc,qa,qn,qc,nm,dt,kp⟩:=a;obtain rfl:k=ak:=Z.o;simp only at c1 c2 c3 c4 C c6;clear A F J HV Z HG;go_upto_region 6 with fail;obtain⟨p0,p1,p2,p3,p4,p5,p6,p7,p8,p9,af,ag,ah,ai⟩:=r.o.2.1.all14
     go_region_law
      (first
       | (refine JS rfl (.tmp 31) (.tmp 35) 19 #[37,69] rfl ZM (Ag (iS s b v.d (Aa fa D fc) (Aa oa on oc) (Aa K L rc) (Aa M O tc) (Aa P Q xc) (Aa S V T) (Aa X Y zc))) (mQ k (Aa da dn dc) (Aa pa pn pc) (Aa qa qn qc) nm dt kp) (by simp[Act.eval]) (by simp[Act.eval]) _ PA.o ?_;intro v3 w3 h3;obtain⟨aB,aD,aC,aH,aJ,aI,aK,aM,aL,aR,aT,aS,aU,aW,aV,aX,aZ,aY,a0,a2,a1,U',e3,q1,q2,q3⟩:=h3.o;subst e3;have kR:gT w3 R 37 (iS s b v.d (Aa fa D fc) (Aa oa on oc) (Aa K L rc) (Aa M O tc) (Aa P Q xc) (Aa S V T) (Aa X Y zc)):=(q3 R (.inl rfl)).trans r.o.2.1;have H9:=hid (nP.stored q1 q2 kR ⟨_,_,_,_,_,_,_,_,_,_,_,_,_,_,rfl⟩ am.o);obtain⟨k0,k1,k2,k3,k4,k5,k6,k7,k8,k9,ax,ay,az,aA⟩:=kR.all14;obtain⟨f0,f1,f2,f3,f4,f5,f6,f7,f8,f9,an,ap,aq,ar⟩:=kR.thaw14;clear h3 q1 q2 q3 kR)
       | fail)
     all_goals
      simp only[jG,Cv]at H9;clear k0 k1 k2 k3 k4 k5 k6 k7 k8 k9 ax ay az aA p0 p1 p2 p3 p4 p5 p6 p7 p8 p9 af ag ah ai c0 c1 c2 c3 c4 C c6;go_wp2;go_roundg (gk - 1)
      case measure=>omega
      case rel=>exact⟨rfl,i+1,by go_num,by omega,by rw[al.o];exact H9⟩
    have aj:Hid (nP p.heap.size R x p wc (mW (acs.take (i+1)))):=by
     have h:=HG.o;unfold mB at h;rw[Ay (by show ¬a.k<6;rw[Z.o];exact h6)]at h;rw[h];exact HR.o
    clear c1 c2 c3 c4 C c6 A F J HV r aa HG Z;go_wp2;go_roundg (gk - 1)
    case measure=>omega
    case rel=>exact⟨rfl,i+1,by go_num,by omega,aj.o⟩
   | false =>
    have ae:=HF.o.2 rfl
    have HE:Hid (mW (acs.take 40)=v):=by
     show _=_;rw[<- HV.o.2];have E:=B.o.2.2.len;have h2:=B.o.1.len;by_cases au:n<40
     rw[Av (by omega),Av (by omega)];rw[show i=40 by omega]
    have z:=y.o.1.below r.o.2.2 (by rw[y.o.2.2.2];omega);obtain⟨p0,p1,p2,p3,p4,p5,p6,p7,p8,p9,af,ag,ah,ai⟩:=r.o.2.1.all14;obtain⟨s0,s1,s2,s3,s4,s5,s6,s7,s8,s9,aN,aO,aP,aQ⟩:=z.all14;obtain⟨f0,f1,f2,f3,f4,f5,f6,f7,f8,f9,an,ap,aq,ar⟩:=z.thaw14;have HX:=Ih z;clear HF HR z;go_wp2;refine As (v:=.tuple #[Ag (iS s b v.d (Aa fa D fc) (Aa oa on oc) (Aa K L rc) (Aa M O tc) (Aa P Q xc) (Aa S V T) (Aa X Y zc)),Ad true]) ?_ rfl ⟨_,rfl,?_⟩;simp[AI,Tryz.f7];go_simp;have ht:=De (W:=wc) x [Ah (some ⟨b,0,none⟩),Ah (some ⟨s,0,none⟩),Aa fa D fc,Ab Ak (v.d.writes:Int),Ad v.d.armed,Ad v.d.dead,Ab Ak (v.d.after:Int),Ab Ak (v.d.keep:Int),Aa oa on oc,Aa K L rc,Aa M O tc,Aa P Q xc,Aa S V T,Aa X Y zc] 0;simp only[jG,Cv]at ht;rw[HE.o];have E:=(r.o.1.turn ht (λ i q=>.inr q)).bare.lower (show w.heap.size<=p.heap.size by rw[y.o.2.2.1,y.o.2.2.2];omega);have hb:=y.o.2.1.trans (r.o.2.2.mono (show w.heap.size<=p.heap.size by rw[y.o.2.2.1,y.o.2.2.2];omega));exact⟨s,b,fa,D,fc,oa,on,oc,K,L,rc,M,O,tc,P,Q,xc,S,V,T,X,Y,zc,U,rfl,E,hb.trans (ht.below hb.size (λ i hi q=>by have q':=q;have:=y.o.2.2.1;omega))⟩
structure St.laid(st:St)(Q:List UInt64)(K:List Int)(r:Rw):Prop where
 eq:r=st.row Q r.id r.gen
 has:st.has 3 r.id=true
 shut:∀p∈(st.com r.id).ps,p∈Q
 gen:r.gen=lD K r.ps
theorem Xl{a:List UInt64}(h:∀p∈ps,p∈Q):kL (Q++a) ps=kL Q ps:=by
 unfold kL;refine List.map_congr_left (λ p hp=>?_);rw[D0,AC (h p hp)]
theorem SZ(h:∀p∈ps,p∈Q):∀a∈kL Q ps,0<=a/\a<(Q.length:Int):=by
 intro a b;obtain⟨p,hp,rfl⟩:=BJ.1 b;have:=List.idxOf_lt_length_of_mem (h p hp);omega
theorem St.laid.more{a:List UInt64}{b:List Int}(h:st.laid Q K r)(d:K.length=Q.length):st.laid (Q++a) (K++b) r:=by
 have e:st.row (Q++a) r.id r.gen=st.row Q r.id r.gen:=by unfold St.row;rw[Xl h.shut]
 have c:=A7 Rw.ps h.eq;refine⟨by rw[e];exact h.eq,h.has,λ p hp=>AN.2 (.inl (h.shut p hp)),h.gen.trans (KB (λ p hp=>?_))⟩;rw[c]at hp;obtain⟨f,g⟩:=SZ h.shut p hp;exact(Iq f (by rw[d];exact g)).symm
structure SG(st:St)(cl:List UInt64)(i:Nat)(R:List Rw)(gr:List UInt64):Prop where
 cov:∀x∈cl.take i,x∈R.map (·.id)∨x∈gr
 mem:∀x∈gr,x∈cl.take i
 nd:(R.map (·.id)++gr).Nodup
 row:∀r∈R,st.laid (R.map (·.id)) (R.map (·.gen)) r
theorem SG.nil(st:St)(cl:List UInt64):SG st cl 0 [] []:=⟨by simp,by simp,by simp,by simp⟩
theorem La(h:cl[i]? = some x):cl.take (i+1)=cl.take i++[x]:=by
 rw[AW,h]
 rfl
theorem SG.more(h:SG st cl i R gr)(c:cl[i]? = some x)(b:x∈R.map (·.id)∨x∈gr):SG st cl (i+1) R gr:=by
 have e:=La c;refine⟨λ y a=>?_,λ y a=>by rw[e];exact AN.2 (.inl (h.mem y a)),h.nd,h.row⟩;rw[e]at a
 rcases AN.1 a with q|q
 exact h.cov y q
 rw[AZ]at q;rw[q];exact b
theorem SG.group(h:SG st cl i R gr)(j:cl[i]? = some x)(g:¬(x∈R.map (·.id)∨x∈gr)):SG st cl (i+1) R (gr++[x]):=by
 have e:=La j;refine⟨λ y c=>?_,λ y c=>?_,?_,h.row⟩
 rw[e]at c
 rcases AN.1 c with q|q
 exact(h.cov y q).imp id (λ q=>AN.2 (.inl q))
 exact .inr (AN.2 (.inr q))
 rw[e]
 rcases AN.1 c with q|q
 exact AN.2 (.inl (h.mem y q))
 exact AN.2 (.inr q)
 rw[<- AT,List.nodup_append];refine⟨h.nd,by simp,λ a f b d q=>?_⟩;rw[AZ]at d;subst d;subst q;exact g (AN.1 f)
theorem SG.free(h:SG st cl i R gr)(b:CC st cl):st.free (R.map (·.id)) gr:=by
 have at_:∀x∈cl.take i,st.has 3 x=true/\∀p∈(st.com x).ps,p∈cl.take i:=by
  intro x a;obtain⟨j,c,rfl⟩:=CE a;rw[AE]at c;rw[F9];have q:=b j _ (Aq (by omega));exact⟨q.1,λ p hp=>List.take_subset_take_left cl (by omega) (q.2 p hp)⟩
 exact⟨h.nd,λ x a=>(at_ x (h.mem x a)).1,λ x a p hp=>AN.2 (h.cov p ((at_ x (h.mem x a)).2 p hp))⟩
theorem SG.laid{r:Int}(h:SG st cl i R gr)(k:CC st cl)(o:st.told (R.map (·.id)) G gr r rs)(g:st.free (R.map (·.id)) gr->kx (R.map (·.gen)) (st.pss (R.map (·.id)++gY gr) (gY gr)) G)(hi:∀{Q xs:List UInt64} {G:List Int},G.length=xs.length->(st.rows Q xs G).map (·.id)=xs):SG st cl i (R++rs) []:=by
 have a:=h.free k;have d:=g a
 have m:G.length=(gY gr).length:=by rw[d.len];unfold St.pss;rw[A4]
 obtain⟨rfl,rfl⟩:=o.uniq (.rows a)
 have c:(R++st.rows (R.map (·.id)++gY gr) (gY gr) G).map (·.id)=R.map (·.id)++gY gr:=by rw[BV,hi m]
 have f:(st.rows (R.map (·.id)++gY gr) (gY gr) G).map (·.gen)=G:=by
  unfold St.rows;refine CD (λ i=>?_);rw[Bo,C8];by_cases hi:i<G.length;rw[Aq hi,Aq (by omega:i<(gY gr).length)]
  rfl
  rw[AM (by omega:G.length<=i),AM (by omega:(gY gr).length<=i)]
  rfl
 refine⟨λ x b=>?_,by simp,by rw[c,Bz];exact KH.2 a.nd,λ r n=>?_⟩
 left
 rw[c];exact Ju.2 (AN.2 (h.cov x b))
 rw[c,BV,f]
 rcases AN.1 n with q|q
 exact(h.row r q).more (by rw[A4,A4])
 unfold St.rows at q;obtain⟨j,l,rfl⟩:=CE q;rw[List.length_zipWith]at l;rw[List.getElem_zipWith];have b:(gY gr)[j]'(by omega)∈gr:=IA.1 (List.getElem_mem _);refine⟨rfl,a.has _ b,λ p hp=>Ju.2 (a.shut _ b p hp),?_⟩;have e:=d.eq j (kL (R.map (·.id)++gY gr) (st.com ((gY gr)[j]'(by omega))).ps) (by unfold St.pss;rw[Bo,Aq (by omega:j<(gY gr).length)];rfl);rw[Aq (by omega:j<G.length)]at e;exact Option.some.inj e
theorem li{p:Prop}(h:p):Hid p:=h
section
variable {w:World}{d:Dk}{st:St}{oa:Option Addr}{on oc:Nat}{vf vr vt:Value}
theorem PD(h:gQ iH w oa st.objs)(I:st.objs.length=on)(T:on<=1000000)(N:∀o∈st.objs,o.body.length<=8192)(x:UInt64):
  At Am 121 #[rm d vf (Aa oa on oc) vr vt,Ab Al (x.toNat:Int)] w λ e w'=>∃v,e=Aj v/\Hid (gM gZ 203 w' w.heap.size v (st.files x)/\Iz w w'):=by
 obtain⟨W,M⟩:=Xa (w.alloc (iD d vf (Aa oa on oc) vr vt))
 have t:Iz w W:=by rw[<- M];exact gW _ _
 have K:GC W w.heap.size d vf (Aa oa on oc) vr vt:=by rw[<- M];exact iR.new w _ _ _ _ _ _ _ _ _
 obtain⟨u,y,z,A,B,C,D,E,F⟩:=K.cells
 have g:=Ke (d:=d) (oc:=oc) (vf:=vf) (vr:=vr) (vt:=vt) (h.below t) I T 2 x
 have a:=I5 t (h.below t) K I N
 obtain⟨R,n⟩:∃R:Int,(x.toNat:Int)=R:=⟨_,rfl⟩
 rw[n]at g ⊢;clear h I N n t K;go_enter func121,ntmps121;go_wp2_with fail;refine g.mono ?_;rintro e w1 ⟨r,rfl,S,G⟩
 have c:=I2 (a.o.1.trans (G.mono a.o.1.size)) G
 clear G g
 rcases S.o with⟨k,L⟩ | ⟨i,L,bs,p,k⟩
 ·have l:st.files x=[]:=by
   unfold St.files;rw[k]
   rfl
  have s:=li l;subst L;clear k l u y z A B C D E F;go_wp2;go_ret;exact⟨_,rfl,by rw[s.o];exact gM.nil _ _ _ _,c.o.1⟩
 ·have l:st.files x=(jE bs).getD []:=by
   unfold St.files;rw[k]
   rfl
  have m:=a.o.2.2.2.2 _ (KA k);simp only at m
  have i0:(0:Int)<=(i:Int):=by omega
  have il:i<on:=by
   rw[<- a.o.2.2.2.1]
   rcases Ct i st.objs.length with q|q
   ·exact q
   ·rw[AM q]at p;cases p
  have U:(i:Int)<(on:Int):=by omega
  have P:=a.o.2.2.1.below c.o.2 a.o.2.2.1.lt;clear u y z A B C D E F;obtain⟨u,y,z,A,B,C,D,E,F⟩:=P.cells;obtain⟨b1,off,rfl,_⟩:=(a.o.2.1.below c.o.2).some_of p;obtain⟨_,V,X,O⟩:=(a.o.2.1.below c.o.2).obs p
  obtain⟨b,f⟩:∃b:ByteArray,(⟨bs.toArray⟩:ByteArray)=b:=⟨_,rfl⟩
  have Y:w1.cell? ⟨b1,off+i*3+2,none⟩=some (Ae b):=by rw[<- f];exact O
  have j:=TF bs (by omega) w1;rw[show tx bs=Ae b by rw[<- f]]at j;have s:=Ih l;subst L;clear k p l V X O P m f;go_wp2_with fail;refine j.mono ?_;rintro e Q ⟨es,Z,v,rfl,J⟩
  have H:Hid (gM gZ 203 Q w.heap.size v (st.files x)/\Iz w Q):=by
   rw[s.o,J.o.1.files];exact⟨ownsRow_base_a J.o.2.1 c.o.1.size,c.o.1.trans (J.o.2.2.mono c.o.1.size)⟩
  clear J j s u y z A B C D E F Y;go_wp2;go_ret;exact⟨_,rfl,H⟩
theorem Tn(h:gQ iH w oa st.objs)(hl:st.objs.length=on)(hn:on<=1000000)(hb:∀o∈st.objs,o.body.length<=8192)(x:UInt64)(cm:Cm)(F:st.com x=cm):
  At Am 74 #[rm d vf (Aa oa on oc) vr vt,Ab Al (x.toNat:Int)] w λ e w'=>∃(pa:Option Addr) (pc:Nat),e=Aj (Ag #[Ab Al (cm.tree.toNat:Int),Aa pa cm.ps.length pc,Ab Ak cm.date,tx cm.note])/\Hid (gQ gR w' pa cm.ps/\cm.ps.length<=pc/\Iz w w'):=by
 obtain⟨W,Z⟩:=Xa ((w.alloc (iD d vf (Aa oa on oc) vr vt)).alloc (.cells #[Ab Al 0,Aa none 0 0,Ab Ak 0,Ae ⟨#[]⟩] 129))
 have L:Iz w W:=by rw[<- Z];exact lE _ _ _
 have n9:GC W w.heap.size d vf (Aa oa on oc) vr vt:=by rw[<- Z];exact(iR.new w _ _ _ _ _ _ _ _ _).below (gW _ _) (by simp)
 have bx:ib W (w.heap.size+1) 129 (Ab Al 0) (Aa none 0 0) (Ab Ak 0) (Ae ⟨#[]⟩):=by
  rw[<- Z];have:=ib.new (w.alloc (iD d vf (Aa oa on oc) vr vt)) 129 (Ab Al 0) (Aa none 0 0) (Ab Ak 0) (Ae ⟨#[]⟩)
  rwa [World.size_alloc]at this
 obtain⟨M,N,O,P,Q,R,S,T,U⟩:=n9.cells
 have s:=Ke (d:=d) (oc:=oc) (vf:=vf) (vr:=vr) (vt:=vt) (h.below L) hl hn 3 x
 have c:=I7 L (h.below L) n9 hl hb bx F
 obtain⟨xi,H⟩:∃xi:Int,(x.toNat:Int)=xi:=⟨_,rfl⟩
 rw[H]at s ⊢;clear h hl hb H L n9 bx F;go_enter func74,ntmps74;go_wp2_with fail;refine s.mono ?_;rintro e w1 ⟨r,rfl,Y,X⟩
 have g:=I2 (c.o.1.trans (X.mono c.o.1.size)) X
 have a:=c.o.2.2.2.2.2.1.below g.o.2 c.o.2.2.2.2.2.1.lt;clear X s
 rcases Y.o with⟨B,q2⟩ | ⟨i,q2,bs,I,B⟩
 ·have ec:cm=lA:=by
   rw[<- c.o.2.2.2.2.2.2];unfold St.com;rw[B]
   rfl
  subst q2 ec;obtain⟨x0,x1,x2,x3⟩:=a.cells;obtain⟨f0,f1,f2,f3⟩:=a.thaw;have lt:=a.lt;have f:=li (g.o.1.trans ((GR w1 (w.heap.size+1) (Ab Al 0) (Aa none 0 0) (Ab Ak 0) (Ae ⟨#[]⟩)).below g.o.1.size (λ k hk q=>by have q':=q;omega)));clear B M N O P Q R S T U a Y;go_wp2;refine As (v:=Ag #[Ab Al 0,Aa none 0 0,Ab Ak 0,Ae ⟨#[]⟩]) ?_ rfl ⟨none,0,rfl,gQ.nil _ _ _,AA _,f.o⟩;simp[AI,Tryz.f74];go_simp
 ·have ec:st.com x=(jF bs).getD lA:=by
   unfold St.com;rw[B]
   rfl
  have E:=c.o.2.2.2.2.1 _ (KA B);simp only at E
  have i0:(0:Int)<=(i:Int):=by omega
  have il:i<on:=by
   rw[<- c.o.2.2.2.1]
   rcases Ct i st.objs.length with q|q
   ·exact q
   ·rw[AM q]at I;cases I
  have aa:(i:Int)<(on:Int):=by omega
  have r9:=c.o.2.2.1.below g.o.2 c.o.2.2.1.lt;clear M N O P Q R S T U;obtain⟨M,N,O,P,Q,R,S,T,U⟩:=r9.cells;obtain⟨b1,off,rfl,_⟩:=(c.o.2.1.below g.o.2).some_of I;obtain⟨_,o0,o1,o9⟩:=(c.o.2.1.below g.o.2).obs I
  obtain⟨b,n⟩:∃b:ByteArray,(⟨bs.toArray⟩:ByteArray)=b:=⟨_,rfl⟩
  have o2:w1.cell? ⟨b1,off+i*3+2,none⟩=some (Ae b):=by rw[<- n];exact o9
  have y:=MF bs (by omega) w1;rw[show tx bs=Ae b by rw[<- n]]at y
  have EB:Hid (cm=(jF bs).getD lA):=by rw[<- c.o.2.2.2.2.2.2];exact ec
  have A:=li a;subst q2;clear B I ec o0 o1 o9 r9 E n a Y;go_wp2_with fail;refine y.mono ?_;rintro e V ⟨c2,er,pa,pc,rfl,J⟩
  have ec:cm=c2:=by rw[EB.o];exact J.o.1.com
  subst ec
  obtain⟨m,z⟩:∃m:Int,(cm.tree.toNat:Int)=m:=⟨_,rfl⟩
  obtain⟨pn,l⟩:=Xa cm.ps.length
  obtain⟨dt,t⟩:=Xa cm.date
  obtain⟨nt,u⟩:∃nt:ByteArray,(⟨cm.note.toArray⟩:ByteArray)=nt:=⟨_,rfl⟩
  rw[z,l,t,show tx cm.note=Ae nt by rw[<- u]]
  obtain⟨wA,G⟩:=Xa (V.alloc (.cells #[Ab Al m,Aa pa pn pc,Ab Ak dt,Ae nt] 129))
  have K:Iz V wA:=by rw[<- G];exact gW _ _
  have D:ib wA V.heap.size 129 (Ab Al m) (Aa pa pn pc) (Ab Ak dt) (Ae nt):=by rw[<- G];exact ib.new _ _ _ _ _ _
  have j:=(A.o.below J.o.2.2.2.1 A.o.lt).below K (A.o.below J.o.2.2.2.1 A.o.lt).lt;obtain⟨y0,y1,y2,y3⟩:=D.cells;obtain⟨x0,x1,x2,x3⟩:=j.cells;obtain⟨f0,f1,f2,f3⟩:=j.thaw;have lt:=j.lt;have ht:=GR wA (w.heap.size+1) (Ab Al m) (Aa pa pn pc) (Ab Ak dt) (Ae nt);have bel:Iz w wA:=(g.o.1.trans (J.o.2.2.2.1.mono g.o.1.size)).trans (K.mono (AU g.o.1.size J.o.2.2.2.1.size))
  have f:Hid (gQ gR ((((wA.setCell ⟨w.heap.size+1,0,none⟩ (Ab Al m)).setCell ⟨w.heap.size+1,1,none⟩ (Aa pa pn pc)).setCell ⟨w.heap.size+1,2,none⟩ (Ab Ak dt)).setCell ⟨w.heap.size+1,3,none⟩ (Ae nt)) pa cm.ps/\pn<=pc/\Iz w ((((wA.setCell ⟨w.heap.size+1,0,none⟩ (Ab Al m)).setCell ⟨w.heap.size+1,1,none⟩ (Aa pa pn pc)).setCell ⟨w.heap.size+1,2,none⟩ (Ab Ak dt)).setCell ⟨w.heap.size+1,3,none⟩ (Ae nt))):=by
   refine⟨(J.o.2.1.below K).turned ht (λ h0 p hp q=>?_),by rw[<- l];exact J.o.2.2.1,bel.trans (ht.below bel.size (λ k hk q=>by have q':=q;omega))⟩;have h1:=J.o.2.2.2.2 h0 p hp;have h2:=A.o.lt;have q':=q;omega
  have C:=I4 z l t u
  clear z l t u K D j J y EB M N O P Q R S T U o2 ht bel A;go_wp2;refine As (v:=Ag #[Ab Al m,Aa pa pn pc,Ab Ak dt,Ae nt]) ?_ rfl ?_
  ·simp[AI,Tryz.f74];go_simp
  ·refine⟨pa,pc,?_,f.o.1,by rw[C.o.2.1];exact f.o.2.1,f.o.2.2⟩;rw[C.o.1,C.o.2.1,C.o.2.2.1,<- C.o.2.2.2]
end
def Fx(l:List UInt64):Prop:=l.Pairwise (λ a b=>a<b)
theorem Pm(a:UInt64):¬a<a:=by rw[BO];omega
theorem XE{a b c:UInt64}(h:a<b)(k:b<c):a<c:=by rw[BO]at *;omega
theorem eU{a b c:UInt64}(h:a<=b)(k:b<c):a<c:=by rw[BO]at *;rw[BP]at h;omega
theorem Fx.snoc{l:List UInt64}(h:Fx l)(e:∀y∈l,y<x):Fx (l++[x]):=by
 refine List.pairwise_append.2 ⟨h,by simp,λ a d b c=>?_⟩;rw[AZ]at c;rw[c];exact e a d
theorem Fx.nodup{l:List UInt64}(h:Fx l):l.Nodup:=h.imp (λ {a b} q e=>by rw[e]at q;exact Pm _ q)
theorem Fx.ris{l:List UInt64}(h:Fx l):gY l=l:=by
 refine List.mergeSort_of_pairwise (h.imp ?_);intro a b q;rw[A9,BP];rw[BO]at q;omega
structure UW(l:List UInt64)(x:UInt64)(i:Nat)(out:List UInt64)(done:Bool):Prop where
 rise:Fx out
 yes:done=true->(∀y,y∈out↔y∈l.take i∨y=x)/\∃z∈l.take i,x<=z
 no:done=false->out=l.take i/\∀y∈l.take i,y<x
 len:out.length<=i+1
theorem UW.start(l:List UInt64)(x:UInt64):UW l x 0 [] false:=⟨List.Pairwise.nil,λ q=>(by cases q),λ _=>⟨by simp,λ _ q=>(by simp at q)⟩,by simp⟩
section
variable {l:List UInt64}{x y:UInt64}{i:Nat}{out:List UInt64}
theorem IZ{l:List UInt64}{i:Nat}{y:UInt64}(h:l[i]? = some y):l.take (i+1)=l.take i++[y]:=by
 obtain⟨q,e⟩:=AG.1 h;rw[Bh q,e]
theorem N5(c:Fx l)(h:l[i]? = some y):∀z∈l.take i,z<y:=by
 intro z d;obtain⟨j,b,e⟩:=CE d;obtain⟨q,a⟩:=AG.1 h;rw[AE]at b;rw[F9]at e;rw[<- e,<- a];exact List.pairwise_iff_getElem.1 c j i (by omega) q (by omega)
theorem UW.less(d:Fx l)(h:UW l x i out false)(b:l[i]? = some y)(a:y<x):UW l x (i+1) (out++[y]) false:=by
 obtain⟨e,k⟩:=h.no rfl;refine⟨?_,λ q=>(by cases q),λ _=>⟨by rw[IZ b,e],λ z c=>?_⟩,by have:=h.len;simp;omega⟩
 refine h.rise.snoc ?_;rw[e];exact N5 d b
 rw[IZ b]at c
 rcases AN.1 c with r|r
 exact k z r
 rw[AZ]at r;rw[r];exact a
theorem UW.same(_:Fx l)(h:UW l x i out false)(a:l[i]? = some x):UW l x (i+1) (out++[x]) true:=by
 obtain⟨e,k⟩:=h.no rfl;refine⟨?_,λ _=>⟨λ z=>?_,x,?_,by rw[BP];omega⟩,λ q=>(by cases q),by have:=h.len;simp;omega⟩
 ·refine h.rise.snoc ?_;rw[e];exact k
 ·rw[IZ a,e];simp
 ·rw[IZ a];simp
theorem UW.more(_:Fx l)(h:UW l x i out false)(c:l[i]? = some y)(a:x<y):UW l x (i+1) (out++[x]++[y]) true:=by
 obtain⟨e,k⟩:=h.no rfl
 have f:Fx (out++[x]):=by
  refine h.rise.snoc ?_;rw[e];exact k
 have b:out.length<=i:=by rw[e,AE];omega
 refine⟨f.snoc (λ z g=>?_),λ _=>⟨λ z=>?_,y,?_,?_⟩,λ q=>(by cases q),by simp;omega⟩
 ·rcases AN.1 g with r|r
  ·rw[e]at r;exact XE (k z r) a
  ·rw[AZ]at r;rw[r];exact a
 ·rw[IZ c,e];simp only[AN,AZ]
  constructor
  ·rintro((r|r) | r)
   ·exact .inl (.inl r)
   ·exact .inr r
   ·exact .inl (.inr r)
  ·rintro((r|r) | r)
   ·exact .inl (.inl r)
   ·exact .inr r
   ·exact .inl (.inr r)
 ·rw[IZ c];simp
 ·rw[BP];rw[BO]at a;omega
theorem UW.next(f:Fx l)(h:UW l x i out true)(d:l[i]? = some y):x≠y/\UW l x (i+1) (out++[y]) true:=by
 obtain⟨k,z0,c,b⟩:=h.yes rfl;have a:=eU b (N5 f d z0 c);refine⟨λ e=>by rw[e]at a;exact Pm _ a,h.rise.snoc (λ z g=>?_),λ _=>⟨λ z=>?_,z0,?_,b⟩,λ q=>(by cases q),by have:=h.len;simp;omega⟩
 rcases(k z).1 g with r|r
 exact N5 f d z r
 rw[r];exact a
 rw[IZ d];simp only[AN,AZ,k]
 constructor
 rintro((r|r) | r)
 exact .inl (.inl r)
 exact .inr r
 exact .inl (.inr r)
 rintro((r|r) | r)
 exact .inl (.inl r)
 exact .inr r
 exact .inl (.inr r)
 rw[IZ d];exact List.mem_append_left _ c
end
def Mw(l:List UInt64)(x:UInt64)(l':List UInt64):Prop:=Fx l'/\(∀y,y∈l'↔y∈l∨y=x)/\l'.length<=l.length+1
theorem UW.end_{l:List UInt64}{out:List UInt64}{g:Bool}(h:UW l x l.length out g):Mw l x (if g then out else out++[x]):=by
 have a:l.take l.length=l:=List.take_length
 cases g with
 | true =>
  obtain⟨k,_⟩:=h.yes rfl;rw[a]at k;exact⟨h.rise,k,h.len⟩
 | false =>
  obtain⟨e,k⟩:=h.no rfl;rw[a]at e k;refine⟨h.rise.snoc (by rw[e];exact k),λ y=>by rw[e];simp,by rw[e];simp⟩
theorem me:(Am.info? 61).map (λ i=>(i.zero,i.size,i.bytes))=some (some (Ab Al 0),1,8):=by kernel_rfl
theorem Rc{off:Nat}{l:List UInt64}{c:Int}(h:gQ gR u (some ⟨b,off,none⟩) l)(a:Hid (l[i]? = some y/\(y.toNat:Int)=c)):u.cell? ⟨b,off+i,none⟩=some (Ab Al c):=by
 have:=(h.nums a.o.1).2;rw[a.o.2]at this;exact this
theorem fZ{L:Nat}{l:List UInt64}(h:gQ gR w a l)(hl:l.length=L)(hL:L<=1000000)(hr:Fx l)(x:UInt64):
  At Am 72 #[Aa a L c,Ab Al (x.toNat:Int)] w λ e w'=>∃Z n' c',e=Aj (Aa Z n' c')/\Hid (∃l',Mw l x l'/\gM gR 61 w' w.heap.size (Aa Z n' c') l'/\An w.heap.size w w'):=by
 have H:=I3 h hl hr
 obtain⟨j,I⟩:∃j:Int,(x.toNat:Int)=j:=⟨_,rfl⟩
 have D:=Ih I;rw[I];clear h hl hr I;go_enter func72,ntmps72;go_wp2_with fail;go_loopg[5,6,7] L (λ m ov dv iv wr=>∃(i:Nat) (oa:Option Addr) (on oc:Nat) (out:List UInt64) (g:Bool),iv=Ab Ak i/\i+m=L/\ov=Aa oa on oc/\dv=Ad g/\Hid (UW l x i out g/\gM gR 61 wr w.heap.size (Aa oa on oc) out/\An w.heap.size w wr))
 case atStart=>exact⟨0,none,0,0,[],false,rfl,by omega,rfl,rfl,UW.start l x,gM.nil _ _ _ _,Ao _ _⟩
 case round =>
  obtain⟨i,oa,on,oc,out,g,rfl,hi,rfl,rfl,r⟩:=hrel;have ab:=r.o.1.len;by_cases V:i<L
  ·have id:(i:Int)<(L:Int):=by omega
   obtain⟨y,u⟩:=BK H.o.2.1 V;have G:gQ gR _ a l:=H.o.1.below r.o.2.2;obtain⟨b1,off,rfl,_⟩:=G.some_of u;obtain⟨_,R⟩:=G.nums u
   obtain⟨f,J⟩:∃f:Int,(y.toNat:Int)=f:=⟨_,rfl⟩
   rw[J]at R;have s:=li (And.intro u J);have E:=r.o.2.1;have k:=r.o.2.2
   have n:(out.length+1)*8<=140737488355328:=by omega
   have p:out.length+1<=AH:=by simp only[AH];omega
   clear J G
   cases g with
   | true =>
    obtain⟨M,F⟩:=r.o.1.next H.o.2.2 u
    have A:¬f=j:=λ q=>M (BG.1 (by have:=D.o;have:=s.o.2;omega))
    have n2:(f != j)=true:=by simpa using A
    have X:(f==j)=false:=by simpa using A
    have C:=li F;clear M F u;go_wp2_with(at_builtin;refine BA gR 61 75 8 _ rfl me underlying75 rfl (.tmp 34) (.tmp 39) rfl w.heap.size (Aa oa on oc) out y _ rfl E rfl n p k.size _ (by rw[show(gR.cells y).toArray=#[Ab Al (y.toNat:Int)]from rfl,s.o.2]) ?_;intro v4 Q b d v z);obtain⟨a4,S,rfl,_,_⟩:=b.whole rfl;go_wp2;go_roundg (gk - 1)
    case measure=>omega
    case rel=>exact⟨i+1,_,_,_,out++[y],true,by go_num,by omega,rfl,rfl,C.o,b,k.trans d⟩
   | false =>
    by_cases O:x<=y
    ·have Y:j<=f:=by have:=D.o;have:=s.o.2;rw[BP]at O;omega
     have z2:decide (j<=f)=true:=by simpa using Y
     by_cases T:y=x
     ·subst T
      obtain rfl:f=j:=by rw[<- D.o,<- s.o.2]
      have n2:(f != f)=false:=by simp
      have X:(f==f)=true:=by simp
      have C:=li (r.o.1.same H.o.2.2 u);clear u;go_wp2_with(at_builtin;refine BA gR 61 75 8 _ rfl me underlying75 rfl (.tmp 24) (.tmp 26) rfl w.heap.size (Aa oa on oc) out y _ rfl E rfl n p k.size _ (by rw[show(gR.cells y).toArray=#[Ab Al (y.toNat:Int)]from rfl,s.o.2]) ?_;intro v4 Q b d v z;have c9:=Rc (H.o.1.below (k.trans d)) s;clear R);obtain⟨a4,S,rfl,_,_⟩:=b.whole rfl;go_wp2;go_roundg (gk - 1)
      case measure=>omega
      case rel=>exact⟨i+1,_,_,_,out++[y],true,by go_num,by omega,rfl,rfl,C.o,b,k.trans d⟩
     ·have A:¬f=j:=λ q=>T (BG.1 (by have:=D.o;have:=s.o.2;omega))
      have n2:(f != j)=true:=by simpa using A
      have X:(f==j)=false:=by simpa using A
      have t:x<y:=by
       rw[BP]at O;rw[BO]
       have:x.toNat≠y.toNat:=λ q=>T (BG.1 q.symm)
       omega
      have C:=li (r.o.1.more H.o.2.2 u t)
      have W:((out++[x]).length+1)*8<=140737488355328:=by simp;omega
      have K:(out++[x]).length+1<=AH:=by simp only[AH];simp;omega
      clear u t
      go_wp2_with(first
       | (at_builtin;refine BA gR 61 75 8 _ rfl me underlying75 rfl (.tmp 34) (.tmp 39) rfl w.heap.size v4 (out++[x]) y _ rfl b rfl W K (k.trans d).size _ (by rw[show(gR.cells y).toArray=#[Ab Al (y.toNat:Int)]from rfl,s.o.2]) ?_;intro v5 w5 N U aa ac)
       | (at_builtin;refine BA gR 61 75 8 _ rfl me underlying75 rfl (.tmp 24) (.tmp 26) rfl w.heap.size (Aa oa on oc) out x _ rfl E rfl n p k.size _ (by rw[show(gR.cells x).toArray=#[Ab Al (x.toNat:Int)]from rfl,D.o]) ?_;intro v4 Q b d v z;have c9:=Rc (H.o.1.below (k.trans d)) s;clear R))
      obtain⟨a5,c5,rfl,_,_⟩:=N.whole rfl;go_wp2;go_roundg (gk - 1)
      case measure=>omega
      case rel=>exact⟨i+1,_,_,_,out++[x]++[y],true,by go_num,by omega,rfl,rfl,C.o,N,(k.trans d).trans U⟩
    ·have Y:¬j<=f:=by have:=D.o;have:=s.o.2;rw[BP]at O;omega
     have z2:decide (j<=f)=false:=by simpa using Y
     have A:¬f=j:=by omega
     have n2:(f != j)=true:=by simpa using A
     have X:(f==j)=false:=by simpa using A
     have t:y<x:=by
      rw[BP]at O;rw[BO];omega
     have C:=li (r.o.1.less H.o.2.2 u t);clear u t;go_wp2_with(at_builtin;refine BA gR 61 75 8 _ rfl me underlying75 rfl (.tmp 34) (.tmp 39) rfl w.heap.size (Aa oa on oc) out y _ rfl E rfl n p k.size _ (by rw[show(gR.cells y).toArray=#[Ab Al (y.toNat:Int)]from rfl,s.o.2]) ?_;intro v4 Q b d v z);obtain⟨a4,S,rfl,_,_⟩:=b.whole rfl;go_wp2;go_roundg (gk - 1)
     case measure=>omega
     case rel=>exact⟨i+1,_,_,_,out++[y],false,by go_num,by omega,rfl,rfl,C.o,b,k.trans d⟩
  ·have id:¬(i:Int)<(L:Int):=by omega
   obtain rfl:i=L:=by omega
   have F:=r.o.1;rw[<- H.o.2.1]at F;have P:=UW.end_ F;have E:=r.o.2.1;have k:=r.o.2.2
   have n:(out.length+1)*8<=140737488355328:=by omega
   have p:out.length+1<=AH:=by simp only[AH];omega
   cases g with
   | true =>
    have B:=li P;clear F P;go_wp2;go_ret;exact⟨_,_,_,rfl,out,B.o,E,k⟩
   | false =>
    have B:=li P;clear F P;go_wp2_with(at_builtin;refine BA gR 61 75 8 _ rfl me underlying75 rfl (.tmp 43) (.tmp 45) rfl w.heap.size (Aa oa on oc) out x _ rfl E rfl n p k.size _ (by rw[show(gR.cells x).toArray=#[Ab Al (x.toNat:Int)]from rfl,D.o]) ?_;intro v4 Q b d v z);obtain⟨a4,S,rfl,_,_⟩:=b.whole rfl;go_wp2;go_ret;exact⟨_,_,_,rfl,out++[x],B.o,b,k.trans d⟩
structure RV where
 id:UInt64
 tree:UInt64
 date:Int
 pa:Option Addr
 pn:Nat
 pc:Nat
 gen:Int
 fb:Bs
variable {v:RV}{vs:List RV}
def RV.cells(v:RV):List Ar:=[Ab Al (v.id.toNat:Int),Ab Al (v.tree.toNat:Int),Ab Ak v.date,Aa v.pa v.pn v.pc,Ab Ak v.gen,tx v.fb]
def im:ju RV:=⟨λ v=>v.cells,6,λ _=>rfl,by decide,by intro x u h;simp[RV.cells]at h;rcases h with rfl|rfl|rfl|rfl|rfl|rfl <;> rfl⟩
structure ni(w:Ap)(B:Nat)(v:RV)(r:Rw):Prop where
 id:v.id=r.id
 tree:v.tree=r.tree
 date:v.date=r.date
 gen:v.gen=r.gen
 ps:gM encI 3 w B (Aa v.pa v.pn v.pc) r.ps
 fb:v.fb=r.fb
theorem ni.stays(h:ni w B v r)(c:Aw S w w')(a:nh w S):ni w' B v r :=
 ⟨h.id,h.tree,h.date,h.gen,h.ps.stays c (λ g b q=>by obtain⟨C,e⟩:=h.ps.type b;exact(a g q C).1 e),h.fb⟩
theorem ni.below(h:ni w B v r)(a:Iz w w'):ni w' B v r:=⟨h.id,h.tree,h.date,h.gen,h.ps.below a,h.fb⟩
theorem ni.low(h:ni w B v r)(a:B'<=B):ni w B' v r:=⟨h.id,h.tree,h.date,h.gen,h.ps.low a,h.fb⟩
structure jc(w:Ap)(B:Nat)(vs:List RV)(rs:List Rw):Prop where
 len:vs.length=rs.length
 at_:∀(i:Nat) (v:RV) (r:Rw),vs[i]? = some v->rs[i]? = some r->ni w B v r
theorem jc.stays(h:jc w B vs rs)(d:Aw S w w')(c:nh w S):jc w' B vs rs:=⟨h.len,λ i v r a b=>(h.at_ i v r a b).stays d c⟩
theorem jc.below(h:jc w B vs rs)(c:Iz w w'):jc w' B vs rs:=⟨h.len,λ i v r a b=>(h.at_ i v r a b).below c⟩
theorem jc.low(h:jc w B vs rs)(c:B'<=B):jc w B' vs rs:=⟨h.len,λ i v r a b=>(h.at_ i v r a b).low c⟩
theorem jc.nil(w:Ap)(B:Nat):jc w B [] []:=⟨rfl,λ i v r h=>by simp at h⟩
theorem jc.app{b:List RV}{a:List Rw}(h:jc w B vs rs)(e:jc w B b a):jc w B (vs++b) (rs++a):=by
 refine⟨by simp[h.len,e.len],λ i v r c d=>?_⟩;by_cases hi:i<vs.length
 rw[BS hi]at c;rw[BS (by rw[<- h.len];exact hi)]at d;exact h.at_ i v r c d
 rw[BZ (by omega)]at c;rw[BZ (by rw[<- h.len];omega),<- h.len]at d;exact e.at_ _ v r c d
theorem jc.ids(h:jc w B vs rs):vs.map (·.id)=rs.map (·.id):=by
 refine CD (λ i=>?_);rw[Bo,Bo];by_cases hi:i<vs.length
 have a:i<rs.length:=by rw[<- h.len];exact hi
 rw[Aq hi,Aq a];exact A7 some (h.at_ i _ _ (Aq hi) (Aq a)).id
 rw[AM (by omega),AM (by rw[<- h.len];omega)]
 rfl
theorem gQ.rrows {w:World} {b off:Nat} {vs:List RV} (h:gQ im w (some ⟨b,off,none⟩) vs) {i:Nat} {v:RV} (hx:vs[i]? = some v) :
  w.cell? ⟨b,off+i*6,none⟩=some (.int .u64 (v.id.toNat:Int))/\w.cell? ⟨b,off+i*6+1,none⟩=some (.int .u64 (v.tree.toNat:Int))/\w.cell? ⟨b,off+i*6+2,none⟩=some (.int .i64 v.date)/\w.cell? ⟨b,off+i*6+3,none⟩=some (.slice v.pa v.pn v.pc)/\w.cell? ⟨b,off+i*6+4,none⟩=some (.int .i64 v.gen)/\w.cell? ⟨b,off+i*6+5,none⟩=some (tx v.fb):=by
 obtain ⟨b', off', e, hlt, hc⟩ := h (by rcases Nat.lt_or_ge i vs.length with q | q
                                        omega
                                        rw [List.getElem?_eq_none q] at hx; cases hx)
 obtain ⟨rfl,rfl⟩:b=b'/\off=off':=by simpa using e
 have h0:=hc i v hx 0 _ rfl;have h1:=hc i v hx 1 _ rfl;have h2:=hc i v hx 2 _ rfl;have h3:=hc i v hx 3 _ rfl;have h4:=hc i v hx 4 _ rfl;have h5:=hc i v hx 5 _ rfl;exact ⟨by simpa [im] using h0,by simpa [im,Nat.add_assoc] using h1,by simpa [im,Nat.add_assoc] using h2,by simpa [im,Nat.add_assoc] using h3,by simpa [im,Nat.add_assoc] using h4,by simpa [im,Nat.add_assoc] using h5⟩
def mf(Q:List UInt64)(x:UInt64):Int:=if x∈Q then(Q.idxOf x:Int)else -1
theorem NJ(h:x≠y):¬((x.toNat:Int)=(y.toNat:Int)):=λ e=>h (BG.1 (by omega))
theorem Nl(h:gQ im w a vs)(C:vs.length=n)(I:n<=1000000)(x:UInt64)(r:Int)(g:mf (vs.map (·.id)) x=r):
  At Am 20 #[Aa a n c,Ab Al (x.toNat:Int)] w λ e w'=>e=Aj (Ab Ak r)/\w'=w:=by
 have H:=I3 h C g
 clear h C g;go_enter func20,ntmps20;go_wp2_with fail;go_loopg[5] n (λ k v wr=>wr=w/\∃i:Nat,v=Ab Ak i/\i+k=n/\Hid (¬x∈(vs.take i).map (·.id)))
 case atStart=>exact⟨rfl,0,rfl,by omega,λ q=>(by simp at q)⟩
 case round =>
  obtain⟨z,i,rfl,hi,m⟩:=hrel;subst z;by_cases t:i<n
  ·have id:(i:Int)<(n:Int):=by omega
   obtain⟨v,l⟩:∃v,vs[i]? = some v:=⟨_,Aq (by rw[H.o.2.1];exact t)⟩
   obtain⟨b,off,rfl,_⟩:=H.o.1.some_of l;obtain⟨D,_⟩:=H.o.1.rrows l
   have j:vs=vs.take i++v::vs.drop (i+1):=by
    have A:=List.take_append_drop i vs
    have p:vs.drop i=v::vs.drop (i+1):=by
     obtain⟨q,e⟩:=AG.1 l;rw[BT q,e]
    rw[p]at A;exact A.symm
   have d:(vs.take (i+1)).map (·.id)=(vs.take i).map (·.id)++[v.id]:=by rw[AW,l,BV];rfl
   obtain⟨y,s⟩:=Xa v.id
   rw[s]at D d;by_cases e:y=x
   ·have f:Hid (r=(i:Int)):=by
     show r=(i:Int);have g:=H.o.2.2;have E:i<vs.length:=(AG.1 l).1
     have F:vs.map (·.id)=(vs.take i).map (·.id)++(x::(vs.drop (i+1)).map (·.id)):=by
      have B:=A7 (List.map (·.id)) j;rw[BV,List.map_cons,s,e]at B;exact B
     have u:((vs.take i).map (·.id)).length=i:=by rw[A4,AE];omega
     rw[<- g,F];unfold mf;rw[AC (by simp),D0,Ay m.o,List.idxOf_cons_self,u];simp
    subst e;clear j d l s m;go_wp2;go_ret;exact⟨by rw[f.o];rfl,rfl⟩
   ·have G:=NJ e
    have f:Hid (¬x∈(vs.take (i+1)).map (·.id)):=by
     show ¬_;rw[d];intro q
     rcases AN.1 q with q|q
     ·exact m.o q
     ·rw[AZ]at q;exact e q.symm
    clear j d l s m;go_wp2;go_roundg (gk - 1)
    case measure=>omega
    case rel=>exact⟨rfl,i+1,by go_num,by omega,f.o⟩
  ·obtain rfl:i=n:=by omega
   have id:¬(i:Int)<(i:Int):=by omega
   have f:Hid (r = -1):=by
    have g:=H.o.2.2;have p:=m.o;rw[Av (by rw[H.o.2.1];exact AA _)]at p;unfold mf at g;rw[Ay p]at g;exact g.symm
   clear m;go_wp2;go_ret;exact⟨by rw[f.o];rfl,rfl⟩
theorem Y8{l:List UInt64}(h:gQ gR w a l)(u:l.length=n)(B:n<=1000000)(x:UInt64)(r:Bool)(g:decide (x∈l)=r):
  At Am 71 #[Aa a n c,Ab Al (x.toNat:Int)] w λ e w'=>e=Aj (Ad r)/\w'=w:=by
 have H:=I3 h u g
 clear h u g;go_enter func71,ntmps71;go_wp2_with fail;go_loopg[5] n (λ k v wr=>wr=w/\∃i:Nat,v=Ab Ak i/\i+k=n/\Hid (¬x∈l.take i))
 case atStart=>exact⟨rfl,0,rfl,by omega,λ q=>(by simp at q)⟩
 case round =>
  obtain⟨s,i,rfl,hi,m⟩:=hrel;subst s;by_cases p:i<n
  ·have id:(i:Int)<(n:Int):=by omega
   obtain⟨y,j⟩:∃y,l[i]? = some y:=⟨_,Aq (by rw[H.o.2.1];exact p)⟩
   obtain⟨b,off,rfl,_⟩:=H.o.1.some_of j;have z:=(H.o.1.nums j).2
   have f:l.take (i+1)=l.take i++[y]:=by rw[AW,j];rfl
   by_cases e:y=x
   ·have d:Hid (r=true):=by
     have g:=H.o.2.2;rw[<- g,A9,<- e];exact A8 j
    subst e;clear f j m;go_wp2;go_ret;exact⟨by rw[d.o];rfl,rfl⟩
   ·have A:=NJ e
    have d:Hid (¬x∈l.take (i+1)):=by
     show ¬_;rw[f];intro q
     rcases AN.1 q with q|q
     ·exact m.o q
     ·rw[AZ]at q;exact e q.symm
    clear f j m;go_wp2;go_roundg (gk - 1)
    case measure=>omega
    case rel=>exact⟨rfl,i+1,by go_num,by omega,d.o⟩
  ·obtain rfl:i=n:=by omega
   have id:¬(i:Int)<(i:Int):=by omega
   have d:Hid (r=false):=by
    have g:=H.o.2.2;have t:=m.o;rw[Av (by rw[H.o.2.1];exact AA _)]at t;rw[<- g,Az];exact t
   clear m;go_wp2;go_ret;exact⟨by rw[d.o];rfl,rfl⟩
def RV.wg(v:RV)(g:Int):RV:={ v with gen:=g }
def rgen(vs:List RV)(X:List Int):List RV:=List.zipWith RV.wg vs X
theorem Mr{q:Nat}{g:Int}(h:vs[q]? = some v)(a:X[q]? = some g):(rgen vs X)[q]? = some (v.wg g):=by
 unfold rgen;rw[C8,h,a]
theorem RN:∀{vs:List RV} {X:List Int} {q:Nat} {v:RV} (g:Int),vs[q]? = some v->(rgen vs X).set q (v.wg g)=rgen vs (X.set q g)
 | [],_,_,_,_,h=>by simp at h
 | _::_,[],_,_,_,_=>by simp[rgen]
 | x::t,y::s,0,v,g,h=>by
  have e:x=v:=by simpa using h
  subst e;simp[rgen]
 | x::t,y::s,q+1,v,g,h=>by
  have:=RN (vs:=t) (X:=s) g (by simpa using h:t[q]? = some v);simp only[rgen]at this;simp[rgen,this]
theorem Sh:∀(vs:List RV),rgen vs (vs.map (·.gen))=vs
 | []=>rfl
 | v::t=>by
  have:=Sh t;simp only[rgen]at this;simp[rgen,this,RV.wg]
theorem Oy(h:X.length=vs.length):(rgen vs X).length=vs.length:=by simp[rgen,h]
structure XR(G X:List Int)(rk:Nat->Nat)(r i:Nat):Prop where
 len:X.length=G.length
 le:∀x∈X,0<=x/\x<=250
 eq:∀(j:Nat) (g:Int),G[j]? = some g->rk j<r∨(j<i/\rk j<=r)->X[j]? = some g
theorem XR.round{r:Nat}(h:XR G X rk r G.length):XR G X rk (r+1) 0 :=
 ⟨h.len,h.le,λ j g a q=>h.eq j g a (.inr ⟨(AG.1 a).1,by rcases q with q|q <;> omega⟩)⟩
theorem gz(h:∀x∈K,0<=x/\x<=250)(p:Int):0<=lU K p/\lU K p<=250:=by
 unfold lU Cn
 cases e:K[p.toNat]? with
 | none=>simp
 | some x=>exact h x (A8 e)
theorem Zp(K:List Int)(ps:List Int)(p g:Int):kz K (ps++[p]) g=max (kz K ps g) (lU K p):=by
 unfold kz;rw[CU]
 rfl
theorem XR.step{Bg:List Int}{pss:List (List Int)}{r:Nat}{ps:List Int}(h:XR G X rk r i)(c:EA Bg.length pss rk)(a:kx Bg pss G)(hi:pss[i]? = some ps):XR G (X.set i (lD (Bg++X) ps)) rk r (i+1):=by
 have b:i<X.length:=by rw[h.len,a.len];exact(AG.1 hi).1
 refine⟨by rw[List.length_set,h.len],λ x m=>?_,λ j g f q=>?_⟩
 rcases List.mem_or_eq_of_mem_set m with q|q
 exact h.le x q
 rw[q];have:=OI (Bg++X) ps;exact⟨by omega,TB _ _⟩
 ·by_cases e:i=j
  ·subst e;rw[List.getElem?_set_self b,<- f,a.eq i ps hi]
   congr 1
   refine KB (λ p hp=>?_);obtain⟨l,o⟩:=c.in_ ps (A8 hi) p hp;by_cases d:p<(Bg.length:Int);rw[Iq l d,Iq l d]
   ·obtain⟨z,rfl⟩:∃z:Nat,p=((Bg.length+z:Nat):Int):=⟨p.toNat - Bg.length,by omega⟩
    have k:z<G.length:=by rw[a.len];omega
    have n:=c.lt i ps hi z hp;have:=h.eq z G[z] (Aq k) (.inl (by rcases q with q|q <;> omega));rw[Iu,Iu,Cn,Cn,this,Aq k]
  rw[List.getElem?_set_ne e];refine h.eq j g f ?_
  rcases q with q|q
  exact .inl q;exact .inr ⟨by omega,q.2⟩
theorem XR.all{r:Nat}(h:XR G X rk r 0)(b:∀j,j<G.length->rk j<r):X=G:=by
 refine CD (λ j=>?_);by_cases a:j<G.length
 rw[h.eq j G[j] (Aq a) (.inl (b j a)),Aq a]
 rw[AM (by rw[h.len];omega),AM (by omega)]
theorem Pg(h:gM im 83 u base (Aa (some ⟨rg,0,none⟩) c rc) vs)(f:vs[i]? = some v):
  u.cell? ⟨rg,i*6+3,none⟩=some (Aa v.pa v.pn v.pc)/\u.cell? ⟨rg,i*6+4,none⟩=some (Ab Ak v.gen)/\u.frozen? ⟨rg,i*6+4,none⟩=false:=by
 obtain⟨_,_,_,a,b,_⟩:=h.rdc.1.rrows f;rw[Nat.zero_add]at a b;refine⟨a,b,?_⟩;have e:=DC h;subst e;have d:=h;exact d.frozenAt _
theorem VC{a:Nat}(h:gM im 83 u base (Aa (some ⟨rg,0,none⟩) a rc) vs)(b:vs[i]? = some v)(g:Int):
  gM im 83 (u.setCell ⟨rg,i*6+4,none⟩ (Ab Ak g)) base (Aa (some ⟨rg,0,none⟩) a rc) (vs.set i (v.wg g)) :=
 gM.put h (i:=i) (j:=4) b (by decide) (v.wg g) (Ab Ak g) (by simp[im,RV.cells,RV.wg])
def pM(w:Ap)(V:Ar)(vs:List RV)(pss:List (List Int)):Prop:=∀(i:Nat) (v:RV) (ps:List Int),vs[i]? = some v->pss[i]? = some ps->ps.length=v.pn/\v.pn<=1000000/\∀u,Aw (λ k=>V.ownBlock=some k) w u->gQ encI u v.pa ps
def pO(w:Ap)(V:Ar)(ba:Option Addr)(bvs:List RV):Prop:=∀u,Aw (λ k=>V.ownBlock=some k) w u->gQ im u ba bvs
structure RI(w u:Ap)(base:Nat)(V:Ar)(vs:List RV)(X:List Int):Prop where
 own:gM im 83 u base V (rgen vs X)
 turn:Aw (λ k=>V.ownBlock=some k) w u
theorem Uo{a bn bc:Nat}{ba:Option Addr}{bvs:List RV}{pss:List (List Int)}
  (hB:pO w (Aa h a rc) ba bvs) (D:bvs.length=bn) (V:∀v∈bvs,0<=v.gen/\v.gen<=250) (hO:gM im 83 w base (Aa h a rc) vs) (hz:∀v∈vs,v.gen=0)
  (hP:pM w (Aa h a rc) vs pss) (L:pss.length=a) (hR:EA bn pss rk) (hG:kx (bvs.map (·.gen)) pss G) (hs:bn+a<=100000) :
  At Am 77 #[Aa ba bn bc,Aa h a rc] w λ e w'=>e=Aj (Aa h a rc)/\Hid (gM im 83 w' base (Aa h a rc) (rgen vs G)/\Aw (λ k=>(Aa h a rc).ownBlock=some k) w w'):=by
 obtain⟨Bg,l⟩:=Xa (bvs.map (·.gen))
 rw[l]at hG
 have C:Bg.length=bn:=by rw[<- l,A4];exact D
 have Y:=DC hO
 have U:G.length=a:=by rw[hG.len];exact L
 have T:∀g∈Bg,0<=g/\g<=250:=by
  intro g hg;rw[<- l]at hg;obtain⟨v,B,rfl⟩:=BJ.1 hg;exact V v B
 have H:=I5 hB T hP (by rw[C];exact hR:EA Bg.length pss rk) hG
 have n:=I6 l C Y U L D
 have G0:Hid (∃X,RI w w base (Aa h a rc) vs X/\XR G X rk 0 0):=by
  refine⟨vs.map (·.gen),⟨by rw[Sh];exact hO,Aw.refl _ _⟩,by rw[A4];omega,λ x Z=>?_,λ j g hg q=>by rcases q with q|q <;> omega⟩;obtain⟨v,B,rfl⟩:=BJ.1 Z;rw[hz v B];omega
 clear hB D V hO hz hP hR hG l C Y U T L;go_enter func77,ntmps77;go_wp2_with fail;go_loopg[5] (a+1) (λ k v wr=>∃r:Nat,v=Ab Ak r/\r+k=a+1/\Hid (∃X,RI w wr base (Aa h a rc) vs X/\XR G X rk r 0))
 case atStart=>exact⟨0,rfl,by omega,G0.o⟩
 case round =>
  obtain⟨r,rfl,hr,HR⟩:=hrel;clear G0;by_cases ak:r<=a
  ·have rd:(r:Int)<=(a:Int):=by omega
   obtain⟨go,F⟩:=Xb gk
   rw[<- F]at hr;have GO:=Ih F;clear F;go_wp2_with fail;go_loopg[6] a (λ k v wr=>∃i:Nat,v=Ab Ak i/\i+k=a/\Hid (∃X,RI w wr base (Aa h a rc) vs X/\XR G X rk r i))
   case atStart=>exact⟨0,rfl,by omega,HR.o⟩
   case round =>
    obtain⟨i,rfl,hi,HI⟩:=hrel;clear HR;by_cases ah:i<a
    ·have id:(i:Int)<(a:Int):=by omega
     have an:(0:Int)<=(i:Int):=by omega
     obtain⟨gi,E⟩:=Xb gk
     rw[<- E]at hi;have GI:=Ih E;clear E;obtain⟨X,P,hX⟩:=HI.o;obtain⟨l1,l2,l3,l4,l5,l6⟩:=n.o
     obtain⟨v,B⟩:∃v,vs[i]? = some v:=⟨_,Aq (by omega)⟩
     obtain⟨ps,A⟩:∃ps,pss[i]? = some ps:=⟨_,Aq (by omega)⟩
     obtain⟨x,Z⟩:∃x,X[i]? = some x:=⟨_,Aq (by rw[hX.len];omega)⟩
     obtain⟨ao,cap,e,o1,o2,o3,o4⟩:=P.own.form;rw[Oy (by rw[hX.len];omega),l3]at e o4;cases e;obtain⟨g,rfl⟩:=o4 (by omega);obtain⟨r3,r4,f4⟩:=Pg P.own (Mr B Z);obtain⟨p1,p2,p3⟩:=H.o.2.2.1 i v ps B A
     obtain⟨pa,J⟩:=Xa v.pa
     obtain⟨pn,M⟩:=Xa v.pn
     obtain⟨pc,W⟩:=Xa v.pc
     have aq:wr.cell? ⟨g,i*6+3,none⟩=some (Aa pa pn pc):=by rw[<- J,<- M,<- W];exact r3
     have ar:=r4;rw[J]at p3;rw[M]at p1 p2;have N:=H.o.2.2.2.1.in_ ps (A8 A);rw[l2,l5]at N
     have d:Hid (RI w wr base (Aa (some ⟨g,0,none⟩) a rc) vs X/\XR G X rk r i/\vs[i]? = some v/\pss[i]? = some ps/\X[i]? = some x/\ps.length=pn/\pn<=1000000/\gQ encI wr pa ps/\(∀p∈ps,0<=p/\p<((bn+a:Nat):Int))/\gQ im wr ba bvs):=⟨P,hX,B,A,Z,p1,p2,p3 wr P.turn,N,H.o.1 wr P.turn⟩
     clear HI P hX B A Z o1 o2 o3 o4 r3 r4 p1 p2 p3 J M W N l1 l2 l3 l4 l5 l6;go_wp2_with fail;go_loopg[7,8] pn (λ k mv v wc=>wc=wr/\∃(q:Nat) (t:Int),v=Ab Ak q/\mv=Ab Ak t/\q+k=pn/\0<=t/\t<=250/\Hid (t=kz (Bg++X) (ps.take q) 0))
     case atStart=>exact⟨rfl,0,0,rfl,rfl,by omega,by omega,by omega,rfl⟩
     case round =>
      obtain⟨af,q,t,rfl,rfl,hq,al,am,HT⟩:=hrel;subst af;have ai:=d.o.2.2.2.2.2.2.1;by_cases ad:q<pn
      ·have qd:(q:Int)<(pn:Int):=by omega
       have ap:(0:Int)<=(q:Int):=by omega
       obtain⟨p,hp⟩:∃p,ps[q]? = some p:=⟨_,Aq (by rw[d.o.2.2.2.2.2.1];exact ad)⟩
       obtain⟨pb,aj,rfl,_⟩:=d.o.2.2.2.2.2.2.2.1.some_of hp;have cp:=d.o.2.2.2.2.2.2.2.1.ints hp;obtain⟨p0,p1⟩:=d.o.2.2.2.2.2.2.2.2.1 p (A8 hp)
       obtain⟨f,rfl⟩:∃f:Nat,p=(f:Int):=⟨p.toNat,by omega⟩
       have m:ps.take (q+1)=ps.take q++[(f:Int)]:=by rw[AW,hp];rfl
       have ab:=gz (K:=Bg++X) (λ y Q=>by
        rcases AN.1 Q with z|z
        ·exact H.o.2.1 y z
        ·exact d.o.2.1.le y z) (f:Int)
       obtain⟨y,Q⟩:=Xa (lU (Bg++X) (f:Int))
       have HY:Hid (kz (Bg++X) (ps.take (q+1)) 0=max t y):=by
        show _=_;rw[m,Zp,<- HT.o,Q]
       have HB:=I2 Q hp
       rw[Q]at ab;clear m hp Q;by_cases ac:f<bn
       ·have pd:(f:Int)<(bn:Int):=by omega
        obtain⟨bv,u⟩:∃bv,bvs[f]? = some bv:=⟨_,Aq (by rw[n.o.2.2.2.2.2];exact ac)⟩
        obtain⟨bb,ag,rfl,_⟩:=d.o.2.2.2.2.2.2.2.2.2.some_of u;obtain⟨_,_,_,_,cb,_⟩:=d.o.2.2.2.2.2.2.2.2.2.rrows u
        have R:bv.gen=y:=by
         rw[<- HB.o.1,Iq (by omega) (by rw[n.o.2.1];exact pd)];unfold lU Cn;rw[show((f:Nat):Int).toNat=f by omega,<- n.o.1,Bo,u]
         rfl
        rw[R]at cb;clear R u;by_cases ae:t<y
        ·have c:Hid (y=kz (Bg++X) (ps.take (q+1)) 0):=by show _=_;rw[HY.o];omega
         go_wp2;go_roundg (gk - 1)
         case measure=>omega
         case rel=>exact⟨rfl,q+1,y,by go_num,rfl,by omega,by omega,by omega,c.o⟩
        ·have c:Hid (t=kz (Bg++X) (ps.take (q+1)) 0):=by show _=_;rw[HY.o];omega
         go_wp2;go_roundg (gk - 1)
         case measure=>omega
         case rel=>exact⟨rfl,q+1,t,by go_num,rfl,by omega,by omega,by omega,c.o⟩
       ·have pd:¬(f:Int)<(bn:Int):=by omega
        obtain⟨z,hz⟩:=Xa (f - bn)
        have e1:Ak.wrap ((f:Int) - (bn:Int))=(z:Int):=by rw[Au];omega
        have zd:(z:Int)<(a:Int):=by omega
        have au:(0:Int)<=(z:Int):=by omega
        obtain⟨l1,l2,l3,l4,l5,l6⟩:=n.o
        obtain⟨zv,aa⟩:∃zv,vs[z]? = some zv:=⟨_,Aq (by omega)⟩
        obtain⟨zx,O⟩:∃zx,X[z]? = some zx:=⟨_,Aq (by rw[d.o.2.1.len];omega)⟩
        have cz:wr.cell? ⟨g,z*6+4,none⟩=some (Ab Ak zx):=(Pg d.o.1.own (Mr aa O)).2.1
        have R:zx=y:=by
         rw[<- HB.o.1,show((f:Nat):Int)=((Bg.length+z:Nat):Int) by omega,Iu,Cn,O]
         rfl
        rw[R]at cz;clear R aa O l1 l2 l3 l4 l5 l6 hz;by_cases ae:t<y
        ·have c:Hid (y=kz (Bg++X) (ps.take (q+1)) 0):=by show _=_;rw[HY.o];omega
         go_wp2;go_roundg (gk - 1)
         case measure=>omega
         case rel=>exact⟨rfl,q+1,y,by go_num,rfl,by omega,by omega,by omega,c.o⟩
        ·have c:Hid (t=kz (Bg++X) (ps.take (q+1)) 0):=by show _=_;rw[HY.o];omega
         go_wp2;go_roundg (gk - 1)
         case measure=>omega
         case rel=>exact⟨rfl,q+1,t,by go_num,rfl,by omega,by omega,by omega,c.o⟩
      ·obtain rfl:q=pn:=by omega
       have qd:¬(q:Int)<(q:Int):=by omega
       have m:ps.take q=ps:=Av (by rw[d.o.2.2.2.2.2.1];exact AA _);rw[m]at HT
       obtain⟨s,I⟩:=Xa (lD (Bg++X) ps)
       have eg:s=min t 249+1:=by
        rw[<- I];unfold lD;rw[<- HT.o]
       have c:Hid (∃X,RI w (wr.setCell ⟨g,i*6+4,none⟩ (Ab Ak s)) base (Aa (some ⟨g,0,none⟩) a rc) vs X/\XR G X rk r (i+1)):=by
        refine⟨X.set i s,⟨?_,d.o.1.turn.trans (BR (b:=g) _ _) (λ k _ e=>by have e':=e;rw[e'];rfl)⟩,by rw[<- I];exact d.o.2.1.step H.o.2.2.2.1 H.o.2.2.2.2 d.o.2.2.2.1⟩;have:=VC d.o.1.own (Mr d.o.2.2.1 d.o.2.2.2.2.1) s;have e:(v.wg x).wg s=v.wg s:=rfl;rw[e,RN s d.o.2.2.1]at this;exact this
       clear m HT I;by_cases ht:t<250
       ·have e2:s=t+1:=by omega
        have e3:Ak.wrap (t+1)=t+1:=by rw[Au];omega
        subst e2;clear eg;go_wp2;go_roundg (gi - 1)
        case measure=>have:=GI.o;omega
        case rel=>exact⟨i+1,by go_num,by omega,c.o⟩
       ·have e2:s=t:=by omega
        subst e2;clear eg;go_wp2;go_roundg (gi - 1)
        case measure=>have:=GI.o;omega
        case rel=>exact⟨i+1,by go_num,by omega,c.o⟩
    ·obtain rfl:i=a:=by omega
     have id:¬(i:Int)<(i:Int):=by omega
     have c:Hid (∃X,RI w wr base (Aa h i rc) vs X/\XR G X rk (r+1) 0):=by
      obtain⟨X,S,h2⟩:=HI.o;have h3:=h2;rw[<- n.o.2.2.2.1]at h3;exact⟨X,S,h3.round⟩
     clear HI;go_wp2;go_roundg (go - 1)
     case measure=>have:=GO.o;omega
     case rel=>exact⟨r+1,by go_num,by omega,c.o⟩
  ·have rd:¬(r:Int)<=(a:Int):=by omega
   have c:Hid (gM im 83 wr base (Aa h a rc) (rgen vs G)/\Aw (λ k=>(Aa h a rc).ownBlock=some k) w wr):=by
    obtain⟨X,S,h2⟩:=HR.o
    have e:=h2.all (λ j hj=>by
     have:=H.o.2.2.2.1.le j (by rw[n.o.2.2.2.2.1,<- n.o.2.2.2.1];exact hj);rw[n.o.2.2.2.2.1]at this
     omega)
    rw[e]at S;exact⟨S.own,S.turn⟩
   clear HR;go_wp2;go_ret;exact⟨rfl,c.o⟩
def kI(s:Bs)(l:List Bs)(i:Nat)(done:Bool)(out:List Bs):Prop :=
 if done then out++l.drop i=jH s l else out=l.take i/\jH s l=l.take i++jH s (l.drop i)
theorem Mz(h:i<l.length):l.drop i=el l i::l.drop (i+1):=by
 rw[BT h,F5 h]
theorem kI.start(s:Bs)(l:List Bs):kI s l 0 false []:=by simp[kI]
theorem kI.lt(h:kI s l i false out)(hi:i<l.length)(c:s<el l i):kI s l (i+1) true (out++[s]++[el l i]):=by
 obtain⟨a,b⟩:=(by simpa[kI]using h:out=l.take i/\jH s l=l.take i++jH s (l.drop i))
 show out++[s]++[el l i]++l.drop (i+1)=jH s l;rw[b,Mz hi,jH,AC c,a];simp
theorem kI.ge(h:kI s l i false out)(hi:i<l.length)(c:¬s<el l i):kI s l (i+1) false (out++[el l i]):=by
 obtain⟨a,b⟩:=(by simpa[kI]using h:out=l.take i/\jH s l=l.take i++jH s (l.drop i))
 have e:l.take (i+1)=l.take i++[el l i]:=by rw[Bh hi,F5 hi]
 have:out++[el l i]=l.take (i+1)/\jH s l=l.take (i+1)++jH s (l.drop (i+1)):=by
  refine⟨by rw[e,a],?_⟩;rw[b,Mz hi,jH,Ay c,e];simp
 simpa[kI]using this
theorem kI.past(h:kI s l i true out)(hi:i<l.length):kI s l (i+1) true (out++[el l i]):=by
 have a:=h;show out++[el l i]++l.drop (i+1)=jH s l;rw[<- a,Mz hi];simp
theorem kI.stop{done:Bool}(h:kI s l i done out)(hi:l.length<=i):jH s l=if done then out else out++[s]:=by
 cases done with
 | true =>
  have a:out++l.drop i=jH s l:=h;rw[Ei hi,Bz]at a;exact a.symm
 | false =>
  obtain⟨a,b⟩:=(by simpa[kI]using h:out=l.take i/\jH s l=l.take i++jH s (l.drop i))
  rw[b,Ei hi,<- a]
  rfl
theorem kI.len{done:Bool}(h:kI s l i done out):out.length<=l.length+1:=by
 cases done with
 | true =>
  have a:=h
  have:∀l:List Bs,(jH s l).length=l.length+1:=by
   intro l
   induction l with
   | nil=>rfl
   | cons x t c=>by_cases h:s<x <;> simp[jH,h,c]
  have b:=A7 List.length a;rw[this,Ax]at b;omega
 | false =>
  obtain⟨a,_⟩:=(by simpa[kI]using h:out=l.take i/\jH s l=l.take i++jH s (l.drop i))
  rw[a,AE];omega
theorem eB(s:Bs)(w:Ap)(y:Rd w ao l)(A:l.length=n)(M:n<=1000000)(G:l.any (·==s)=false):
  At Am 174 #[Aa ao n c,Ae ⟨s.toArray⟩] w λ e w'=>∃v',e=Aj v'/\Own w' w.heap.size v' (jH s l)/\Iz w w':=by
 have I:=Ss (c:=c) s w y A (by omega) false G
 have H:=I2 y A
 clear y A G;go_enter func174,ntmps174;go_wp2_with fail;refine I.mono ?_;rintro e w' ⟨rfl,rfl⟩;clear I;go_wp2_with fail;go_loopg[5,6,7] n (λ k K dv v wr=>∃(i:Nat) (done:Bool) (out:List Bs),v=Ab Ak i/\dv=Ad done/\i+k=n/\Hid (kI s l i done out/\Own wr w'.heap.size K out/\Iz w' wr))
 case atStart=>exact⟨0,false,[],rfl,rfl,by omega,kI.start s l,Own.nil _ _,Ao _ _⟩
 case round =>
  obtain⟨i,done,out,rfl,rfl,hi,f⟩:=hrel;have B:=f.o.1.len;rw[H.o.2]at B;by_cases z:i<n
  have id:(i:Int)<(n:Int):=by omega
  obtain⟨x,D⟩:=Xa (el l i);obtain⟨b,off,rfl,m,F⟩:=H.o.1 (by rw[H.o.2];omega);have r:=F i (by rw[H.o.2];omega);rw[D]at r;have C:=Ih r;have X:=I2 D (by rw[H.o.2];exact z:i<l.length);have J:wr.cell? ⟨b,off+i,none⟩=some (Ae ⟨x.toArray⟩):=(f.o.2.2.cell m).trans r;clear F r D
  cases done with
  | true =>
   go_wp2_with(at_builtin;refine Hl rfl (.tmp 32) (.tmp 37) rfl w'.heap.size _ out x _ rfl f.o.2.1 rfl (by omega) f.o.2.2.size ?_;intro v' j d a);go_roundg (gk - 1)
   case measure=>omega
   case rel=>exact⟨i+1,true,out++[x],by go_num,rfl,by omega,by rw[<- X.o.1];exact f.o.1.past X.o.2,d,f.o.2.2.trans a⟩
  | false =>
   cases q:Op.bytesLess s x with
   | true =>
    have u:Hid (s<x):=by show s<x;have:=bytesLess_eq s x;rw[q]at this;simpa using this.symm
    go_wp2_with(first
     | (at_builtin;refine Hl rfl (.tmp 28) (.tmp 30) rfl w'.heap.size _ out s _ rfl f.o.2.1 rfl (by omega) f.o.2.2.size ?_;intro v' j d a;have L:j.cell? ⟨b,off+i,none⟩=some (Ae ⟨x.toArray⟩):=(a.cell m).trans J;have t:=I2 d (f.o.2.2.trans a);clear d a)
     | (at_builtin;refine Hl rfl (.tmp 32) (.tmp 37) rfl w'.heap.size _ (out++[s]) x _ rfl t.o.1 rfl (by simp;omega) t.o.2.size ?_;intro v5 N h g))
    go_roundg (gk - 1)
    case measure=>omega
    case rel=>exact⟨i+1,true,out++[s]++[x],by go_num,rfl,by omega,by rw[<- X.o.1];exact f.o.1.lt X.o.2 (by rw[X.o.1];exact u.o),h,t.o.2.trans g⟩
   | false =>
    have u:Hid (¬s<x):=by show ¬s<x;have:=bytesLess_eq s x;rw[q]at this;simpa using this.symm
    go_wp2_with(at_builtin;refine Hl rfl (.tmp 32) (.tmp 37) rfl w'.heap.size _ out x _ rfl f.o.2.1 rfl (by omega) f.o.2.2.size ?_;intro v' j d a);go_roundg (gk - 1)
    case measure=>omega
    case rel=>exact⟨i+1,false,out++[x],by go_num,rfl,by omega,by rw[<- X.o.1];exact f.o.1.ge X.o.2 (by rw[X.o.1];exact u.o),d,f.o.2.2.trans a⟩
  obtain rfl:i=n:=by omega
  have p:=f.o.1.stop (by rw[H.o.2];omega);have E:Hid _:=p;clear p
  cases done with
  | true =>
   go_wp2;go_ret;exact⟨_,rfl,by rw[E.o];exact f.o.2.1,f.o.2.2⟩
  | false =>
   go_wp2_with(at_builtin;refine Hl rfl (.tmp 41) (.tmp 43) rfl w'.heap.size _ out s _ rfl f.o.2.1 rfl (by omega) f.o.2.2.size ?_;intro v' j d a);go_ret;exact⟨_,rfl,by rw[E.o];exact d,f.o.2.2.trans a⟩
theorem fu(s:Bs)(w:Ap)(a:Rd w ao l)(f:l.length=n)(g:n<=1000000)(b:l.any (·==s)=true):
  At Am 174 #[Aa ao n c,Ae ⟨s.toArray⟩] w λ e w'=>e=Aj (Aa ao n c)/\w'=w:=by
 have d:=Ss (c:=c) s w a f (by omega) true b;clear a f b;go_enter func174,ntmps174;go_wp2_with fail;refine d.mono ?_;rintro e w' ⟨rfl,rfl⟩;clear d;go_wp2;go_ret;exact⟨rfl,rfl⟩
theorem Mc(s:Bs)(w:Ap)(d:Rd w ao l)(f:l.length=n)(g:n<=1000000):
  At Am 174 #[Aa ao n c,Ae ⟨s.toArray⟩] w λ e w'=>∃a c',e=Aj (Aa a (ks l s).length c')/\Rd w' a (ks l s)/\Iz w w':=by
 cases b:l.any (·==s)with
 | true =>
  refine(fu s w d f g b).mono ?_;rintro e w' ⟨rfl,rfl⟩;rw[ks,AC b,f];exact⟨_,_,rfl,d,Ao _ _⟩
 | false =>
  refine(eB s w d f g b).mono ?_;rintro e w' ⟨v',rfl,i,h⟩;obtain⟨a,cap,rfl,_,_,R⟩:=i.form;rw[ks,Ay (by rw[b];decide)];exact⟨_,_,rfl,R,h⟩

def lL(s:Bs):List Bs->List Bs
 | []=>[]
 | n::t=>(s++n)::lL (s++n++[47]) t
def lG(q:Bs):Bs->List Bs
 | []=>[q]
 | b::t=>if b=47 then q::lG (q++[47]) t else lG (q++[b]) t
theorem Mx:∀(p q:Bs),lL q (names p)=lG q p
 | [],q=>by simp[names,lL,lG]
 | b::t,q=>by
  by_cases h:b=47;simp[names,lL,lG,h,Mx t];have c:=Mx t (q++[b])
  cases a:names t with
  | nil=>exact absurd a (KL t)
  | cons x y =>
   rw[a]at c;simp only[lL,AT,List.cons_append,List.nil_append]at c;simp[names,lL,lG,h,a,<- c]
theorem RK:∀(t a:Bs),pre (a++t) a.length++lG a t=pre (a++t) (a++t).length++[a++t]
 | [],a=>by simp[lG]
 | b::t,a=>by
  have c:=RK t (a++[b])
  have e:a++[b]++t=a++b::t:=by simp
  rw[e]at c;rw[<- c,Ax,List.length_singleton];by_cases h:b=47;subst h;simp[lG,pre];simp[lG,pre,h]
theorem YS(p:Bs):pre p p.length++[p]=lL [] (names p):=by
 have:=RK p [];rw[Mx];simpa[pre]using this.symm
def Made(ns:List Bs)(i:Nat)(s:Bs)(out:List Bs):Prop:=out++lL (if i=0 then[]else s++[47]) (ns.drop i)=lL [] ns/\(i=0->s=[])/\out.length=i
theorem Made.step{a:List Bs}(h:Made a i s out)(hi:i<a.length):
  Made a (i+1) ((if i=0 then s else s++[47])++el a i) (out++[(if i=0 then s else s++[47])++el a i]):=by
 obtain⟨c,d,f⟩:=h
 have e:(if i=0 then([]:Bs)else s++[47])=(if i=0 then s else s++[47]):=by
  by_cases b:i=0;simp[b,d b];simp[b]
 refine⟨?_,by omega,by simp[f]⟩
 have hd:a.drop i=el a i::a.drop (i+1):=by rw[BT hi,F5 hi]
 rw[hd,e]at c;rw[<- c];simp[lL]
theorem VK(s:ByteArray)(w:Ap)(hp:gV s.data.toList=true):
  At Am 173 #[Ae s] w λ e w'=>∃v',e=Aj v'/\Own w' w.heap.size v' (parts s.data.toList)/\An w.heap.size w w':=by
 have E:Hid (s.size=s.data.toList.length):=jz s
 have h:s.size<=102:=by (try unfold Iz at *);rw[E.o];exact Mf hp
 have p:=MY s w;(try unfold Iz at *);rw[hp]at p
 obtain⟨d,g⟩:=Xa (names s.data.toList)
 have J:=λ w=>Rt s h w
 have B:parts s.data.toList=lL [] d:=by (try unfold Iz at *);rw[parts,hp,AC rfl,YS,g]
 have C:∀x∈d,x.length<=102:=by
  intro x T;(try unfold Iz at *);rw[<- g]at T;have:=MZ T;(try unfold Iz at *);rw[<- E.o]at this;omega
 have A:=Nc s.data.toList;(try unfold Iz at *);rw[g,<- E.o]at A;(try unfold Iz at *);rw[g]at J
 have P:Hid (parts s.data.toList=lL [] d/\∀x∈d,x.length<=102):=⟨B,C⟩
 clear B C g hp;go_enter func173,ntmps173;go_wp2_with fail;refine p.mono ?_;rintro e w0 ⟨rfl,t⟩;have L:Hid (An w.heap.size w w0):=t;clear t;go_wp2_with fail;refine(J _).mono ?_;rintro e w1 ⟨v1,rfl,S,O⟩;obtain⟨ao,cap,rfl,_,_,R⟩:=S.form
 obtain⟨n,q⟩:=Xa d.length
 have G:Hid (Rd w1 ao d/\d.length=n/\An w.heap.size w w1):=⟨R,q,L.o.trans (O.mono L.o.size)⟩
 (try unfold Iz at *);rw[q]at A ⊢;clear S O R J q p;go_wp2_with fail;go_loopg[3,5,6] n (λ k ov sv v wr=>∃(i:Nat) (c:ByteArray) (out:List Bs),v=Ab Ak i/\sv=Ae c/\i+k=n/\c.size<=i*103/\Hid (Made d i c.data.toList out/\Own wr w1.heap.size ov out/\An w1.heap.size w1 wr))
 case atStart=>exact⟨0,_,[],rfl,rfl,by omega,by decide,⟨by simp,by simp,rfl⟩,Own.nil _ _,Ao _ _⟩
 case round =>
  obtain⟨i,c,out,rfl,rfl,hi,Y,f⟩:=hrel;by_cases z:i<n
  ·have id:(i:Int)<(n:Int):=by omega
   have W:out.length=i:=f.o.1.2.2
   obtain⟨b1,Z,rfl,Q,u⟩:=(G.o.1.below f.o.2.2) (by (try unfold Iz at *);rw[G.o.2.1];omega)
   obtain⟨y,H⟩:=Xa (el d i)
   have I:=u i (by (try unfold Iz at *);rw[G.o.2.1];omega);(try unfold Iz at *);rw[H]at I
   have K:y.length<=102:=by (try unfold Iz at *);rw[<- H];exact P.o.2 _ (Iy (by (try unfold Iz at *);rw[G.o.2.1];exact z))
   obtain⟨j,l⟩:∃j:ByteArray,(⟨y.toArray⟩:ByteArray)=j:=⟨_,rfl⟩
   have U:j.size<=102:=by (try unfold Iz at *);rw[<- l,jz];exact K
   (try unfold Iz at *);rw[l]at I;have r:=f.o.1.step (by (try unfold Iz at *);rw[G.o.2.1];exact z);(try unfold Iz at *);rw[H]at r
   have X:Hid (j.data.toList=y/\Made d (i+1) ((if i=0 then c.data.toList else c.data.toList++[47])++y) (out++[(if i=0 then c.data.toList else c.data.toList++[47])++y])):=⟨by (try unfold Iz at *);rw[<- l],r⟩
   clear u H r l;by_cases N:i=0
   ·subst N;have c0:wr.cell? ⟨b1,Z,none⟩=some (Ae j):=I;go_wp2_with(at_builtin;generalize D:c++j=zb;refine Hl rfl (.tmp 29) (.tmp 31) rfl w1.heap.size _ out zb.data.toList _ rfl f.o.2.1 rfl (by omega) f.o.2.2.size ?_;intro v' w4 b a);go_roundg (gk - 1)
    case measure=>omega
    case rel =>
     have M:Made d 1 (c.data.toList++y) (out++[c.data.toList++y]):=X.o.2;(try unfold Iz at *);rw[<- X.o.1,<- Lo,D]at M;exact⟨1,zb,_,by go_num,rfl,by omega,by (try unfold Iz at *);rw[<- D,Fi];omega,M,b,f.o.2.2.trans a⟩
   ·have V:(0:Int)<i:=by omega
    go_wp2_with(at_builtin;generalize D:c++⟨#[47]⟩++j=zb;refine Hl rfl (.tmp 29) (.tmp 31) rfl w1.heap.size _ out zb.data.toList _ rfl f.o.2.1 rfl (by omega) f.o.2.2.size ?_;intro v' w4 b a);go_roundg (gk - 1)
    case measure=>omega
    case rel =>
     have M:=X.o.2;(try unfold Iz at *);rw[Ay N,<- X.o.1]at M
     have e:c.data.toList++[47]++j.data.toList=(c++⟨#[47]⟩++j).data.toList:=by (try unfold Iz at *);rw[Lo,Lo]
     (try unfold Iz at *);rw[e,D]at M;exact⟨i+1,zb,_,by go_num,rfl,by omega,by (try unfold Iz at *);rw[<- D,Fi,Fi];show c.size+1+j.size<=_;omega,M,b,f.o.2.2.trans a⟩
  ·obtain rfl:i=n:=by omega
   have m:out=lL [] d:=by
    have:=f.o.1.1;(try unfold Iz at *);rw[Ei (by (try unfold Iz at *);rw[G.o.2.1];omega),lL,Bz]at this;exact this
   have F:Hid (out=lL [] d):=m;clear m;go_wp2;go_ret;refine⟨_,rfl,?_,G.o.2.2.trans (f.o.2.2.mono G.o.2.2.size)⟩;(try unfold Iz at *);rw[P.o.1,<- F.o];exact Nu f.o.2.1 G.o.2.2.size
theorem dO(s:ByteArray)(w:Ap):
  At Am 173 #[Ae s] w λ e w'=>∃v',e=Aj v'/\Own w' w.heap.size v' (parts s.data.toList)/\Iz w w':=by
 cases hp:gV s.data.toList with
 | true=>exact VK s w hp
 | false =>
  have a:=MY s w;rw[hp]at a
  have hq:parts s.data.toList=[]:=by rw[parts,hp];rfl
  rw[hq];clear hp hq;go_enter func173,ntmps173;go_wp2_with fail;refine a.mono ?_;rintro e w0 ⟨rfl,b⟩;go_wp2;go_ret;exact⟨_,rfl,Own.nil _ _,b⟩
theorem Sx(p d:Bs)(f:Bool)(a:under p d=f)(w:Ap):
  At Am 163 #[Ae ⟨p.toArray⟩,Ae ⟨d.toArray⟩] w λ e w'=>e=Aj (Ad f)/\w'=w:=by
 subst a;exact SB ⟨p.toArray⟩ ⟨d.toArray⟩ w
theorem YB{a:List Bs}(x:Bs)(w:Ap)(u:Rd w ao a)(z:a.length=n)(C:n<=4000000000000000000)(f:Bool)(l:jt a x=f):
  At Am 178 #[Aa ao n c,Ae ⟨x.toArray⟩] w λ e w'=>e=Aj (Ad f)/\Iz w w':=by
 have H:=I3 u z l
 clear u z l
 cases hp:gV x with
 | false =>
  have g:=NN x false hp
  have l:f=false:=by rw[<- H.o.2.2,jt,hp];rfl
  subst l;go_enter func178,ntmps178;go_wp2_with fail;refine(g _).mono ?_;rintro e w1 ⟨rfl,d⟩;go_wp2;go_ret;exact⟨rfl,d⟩
 | true =>
  have g:=NN x true hp
  have F:Hid (f=(a.isEmpty||a.any (under x))):=by show f=_;rw[<- H.o.2.2,jt,hp];rfl
  clear hp;go_enter func178,ntmps178;go_wp2_with fail;refine(g _).mono ?_;rintro e w1 ⟨rfl,d⟩;have q:=Ih d;clear d;go_wp2_with fail;go_loopg[5] n (λ k v wr=>∃(i:Nat),v=Ab Ak i/\i+k=n/\wr=w1/\Hid ((a.take i).any (under x)=false))
  case atStart=>exact⟨0,rfl,by omega,rfl,rfl⟩
  case round =>
   obtain⟨i,rfl,hi,rfl,t⟩:=hrel;by_cases j:i<n
   have id:(i:Int)<(n:Int):=by omega
   obtain⟨b1,D,rfl,A,h⟩:=(H.o.1.below q.o) (by rw[H.o.2.1];omega)
   obtain⟨y,s⟩:=Xa (el a i);have B:=h i (by rw[H.o.2.1];omega);rw[s]at B;have X:=Ih s;clear h s
   cases m:under x y with
   | true =>
    have r:=Sx x y true m;go_wp2_with fail;refine(r _).mono ?_;rintro e w' ⟨rfl,rfl⟩;go_wp2;go_ret;refine⟨?_,q.o⟩;rw[F.o,NF (p:=under x) (i:=i) (by rw[H.o.2.1];exact j) (by rw[X.o];exact m),Bool.or_true]
    rfl
   | false =>
    have r:=Sx x y false m;go_wp2_with fail;refine(r _).mono ?_;rintro e w' ⟨rfl,rfl⟩;go_wp2;go_roundg (gk - 1)
    case measure=>omega
    case rel=>exact⟨i+1,by go_num,by omega,rfl,Np (p:=under x) (by rw[H.o.2.1];exact j) t.o (by rw[X.o];exact m)⟩
   ·obtain rfl:i=n:=by omega
    have e:=t.o;rw[Av (by rw[H.o.2.1];omega)]at e
    have F2:Hid (f=decide (i=0)):=by
     show f=_;rw[F.o,e,Bool.or_false,<- H.o.2.1]
     cases a <;> simp
    clear e;go_wp2;go_ret;refine⟨A7 (λ b=>Aj (Ad b)) ?_,q.o⟩;rw[F2.o,Bool.eq_iff_iff];simp
    try omega
theorem Tryz.info234:(Am.info? 234).map (λ i=>(i.zero,i.size,i.bytes))=some (some (Ag #[Ae ⟨#[]⟩,Ab Al 0,Ab Al 0]),3,32):=by kernel_rfl
theorem Mo(l:List Bs)(s:Bs):kE (l++[s])=ks (kE l) s:=by
 rw[kE,CU]
 rfl
def Ej(A:List En):List Bs:=A.map (·.1)
theorem Tv{e:En}(h:A[i]? = some e):Ej (A.take (i+1))=Ej (A.take i)++[e.1]:=by
 unfold Ej;rw[KF h,BV]
 rfl
theorem Lr(A:List En):(Ej A).length=A.length:=by unfold Ej;simp
theorem dM{bo:Option Addr}{d:Nat}{B:List En}(w:Ap)(Q:gQ gZ w ao A)(R:gQ gZ w bo B)(T:A.length=n)(S:B.length=m)(Z:n<=100000)(Y:m<=100000):
  At Am 176 #[Aa ao n c,Aa bo m d] w λ e w'=>∃E c',e=Aj (Aa E (kj A B).length c')/\Rd w' E (kj A B)/\An w.heap.size w w':=by
 have H:=I4 Q R T S
 clear Q R T S;go_enter func176,ntmps176;go_wp2_with fail;go_loopg[5,6] n (λ k K v wr=>∃(i:Nat) (r:Option Addr) (p ac:Nat),v=Ab Ak i/\K=Aa r p ac/\i+k=n/\Hid ((kE (Ej (A.take i))).length=p/\Rd wr r (kE (Ej (A.take i)))/\An w.heap.size w wr))
 case atStart=>exact⟨0,none,0,0,rfl,rfl,by omega,rfl,Rd.nil _ _,Ao _ _⟩
 case round =>
  obtain⟨i,r,p,ac,rfl,rfl,hi,l⟩:=hrel;by_cases O:i<n
  have id:(i:Int)<(n:Int):=by omega
  obtain⟨e,q⟩:=BK H.o.2.2.1 O;obtain⟨b,off,rfl,t⟩:=H.o.1.some_of q;obtain⟨_,L,M⟩:=(H.o.1.below l.o.2.2).ents q;have a:=Tv q;obtain⟨x,o⟩:=e;simp only at L M a
  have N:p<=100000:=by
   rw[<- l.o.1];have F:=Jp (Ej (A.take i));have U:=CS i A;rw[Lr]at F;omega
  have f:=Mc (c:=ac) x wr l.o.2.1 l.o.1 (by omega);rw[<- Mo,<- a]at f;clear q a t;go_wp2_with fail;refine f.mono ?_;rintro e G ⟨g,s,rfl,z,u⟩;have y:=I2 z (l.o.2.2.trans (u.mono l.o.2.2.size))
  clear z u f;go_wp2;go_roundg (gk - 1)
  case measure=>omega
  case rel=>exact⟨i+1,g,_,s,by go_num,rfl,by omega,rfl,y.o.1,y.o.2⟩
  obtain rfl:i=n:=by omega
  have e:A.take i=A:=Av (by rw[H.o.2.2.1];omega);rw[e]at l
  have V:Hid ((Ej A).length=i):=by show _=_;rw[Lr];exact H.o.2.2.1
  have I:Hid ((kE (Ej A++Ej (B.take 0))).length=p/\Rd wr r (kE (Ej A++Ej (B.take 0)))/\An w.heap.size w wr):=by
   have:Ej A++Ej (B.take 0)=Ej A:=by simp[Ej]
   rw[this];exact l
  clear e l;go_wp2_with fail;go_loopg[5,7] m (λ k K v wr=>∃(j:Nat) (r:Option Addr) (p ac:Nat),v=Ab Ak j/\K=Aa r p ac/\j+k=m/\Hid ((kE (Ej A++Ej (B.take j))).length=p/\Rd wr r (kE (Ej A++Ej (B.take j)))/\An w.heap.size w wr))
  case atStart=>exact⟨0,r,p,ac,rfl,rfl,by omega,I⟩
  case round =>
   obtain⟨j,J,D,C,rfl,rfl,X,h⟩:=hrel;by_cases P:j<m
   have jd:(j:Int)<(m:Int):=by omega
   obtain⟨e,q⟩:=BK H.o.2.2.2 P;obtain⟨b,off,rfl,t⟩:=H.o.2.1.some_of q;obtain⟨_,L,M⟩:=(H.o.2.1.below h.o.2.2).ents q;have a:=Tv q;obtain⟨x,o⟩:=e;simp only at L M a
   have N:D<=200000:=by
    rw[<- h.o.1];have F:=Jp (Ej A++Ej (B.take j));have U:=CS j B;rw[Ax,Lr,Lr]at F;have W:=H.o.2.2.1;omega
   have f:=Mc (c:=C) x wr h.o.2.1 h.o.1 (by omega);rw[<- Mo,AT,<- a]at f;clear q a t;go_wp2_with fail;refine f.mono ?_;rintro e G ⟨g,s,rfl,z,u⟩;have y:=I2 z (h.o.2.2.trans (u.mono h.o.2.2.size))
   clear z u f;go_wp2;go_roundg (gk - 1)
   case measure=>omega
   case rel=>exact⟨j+1,g,_,s,by go_num,rfl,by omega,rfl,y.o.1,y.o.2⟩
   obtain rfl:j=m:=by omega
   have e:B.take j=B:=Av (by rw[H.o.2.2.2];omega);rw[e]at h;clear e;go_wp2;go_ret;refine⟨J,C,?_,h.o.2.1,h.o.2.2⟩;have F:(kj A B).length=D:=h.o.1;rw[F]
   rfl
theorem Qp{es:List En}(p:Bs)(w:Ap)(h:gQ gZ w ao es)(f:es.length=n)(j:n<=4000000000000000000)(o:UInt64)(b:jr es p=o):
  At Am 177 #[Aa ao n c,Ae ⟨p.toArray⟩] w λ e w'=>e=Aj (Ab Al (o.toNat:Int))/\Iz w w':=by
 have a:=Yy (c:=c) p w h f j _ rfl;unfold jr at b;rw[b]at a
 obtain⟨g,d⟩:=Xa ((lh es p).isSome)
 rw[d]at a;clear d b h f;go_enter func177,ntmps177;go_wp2_with fail;refine a.mono ?_;rintro e w1 ⟨rfl,i⟩;go_wp2;go_ret;exact⟨rfl,i⟩
end Go.Proofs.YtakgkgmopmcecaaGreat
