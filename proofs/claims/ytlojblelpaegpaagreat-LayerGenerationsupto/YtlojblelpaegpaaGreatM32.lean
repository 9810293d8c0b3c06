/-
  Several texts, laid together.
-/
import Derived.Test.YtlojblelpaegpaaGreatM31
set_option maxHeartbeats 6400000
set_option maxRecDepth 100000
open Go.Value renaming slice->Aa,int->Ab,bool->Ad,string->Ae,tuple->Af,agg->Ag,pointer->Ah
open Go renaming callFunc->Cq,World->Ap,Value->Ar,Calls->At,bodyPost_ret->As,results->AH
open Go.RowKit renaming Below->An
open Nat renaming lt_of_lt_of_le->AI,reduceAdd->BT
open And renaming intro->BO
open Go.IntKind renaming i64->Ak,u64->Al
open Go.Proofs.Tryz renaming prog->Am
open Go.Proofs.Tryz
namespace Go.Proofs.YtlojblelpaegpaaGreat
open Go.RowKit
variable{B b fc fl n oc on rc rn s tc tn xc zc:Nat}{E:Nat->Prop}{bl cl tl:List UInt64}{c fa oa ra ta:Option Addr}{d:Dk}{data:Bs}{qs:List Int}{st:St}{vf vo vr vt xb xt:Ar}{w w0:Ap}
def Fc(E:Nat->Prop)(H C:Nat)(ua:Option Addr)(N uc:Nat):Nat->Prop:=λ i=>(Fb H i∨E i)∨i=C∨(Aa ua N uc).ownBlock=some i
theorem ZeJ:∀args w,(Cq 69 args).run Am w=.ok (.enter 69 args) w:=enters_of func69 (by kernel_rfl) rfl
theorem Zdr:∀args w,(Cq 68 args).run Am w=.ok (.enter 68 args) w:=enters_of func68 (by kernel_rfl) rfl
theorem ZnM{base cap:Nat}{xs:List UInt64}(h:OwnG encU 44 w base (Aa c n cap) xs){i:Nat}(hi:i<n):
  ∃g u,c=some ⟨g,0,none⟩/\g<w.heap.size/\w.cell? ⟨g,i,none⟩=some u/\w.frozen? ⟨g,i,none⟩=false/\Hid (∃d,OwnG encU 44 (w.setCell ⟨g,i,none⟩ (Ab Al 0)) base (Aa c n cap) d):=by
 have s:xs.length=n:=Zam h;obtain⟨x,l⟩:=Zaf s hi
 rcases h.2 with⟨e,v⟩ | ⟨g,k,o,e,y,r,t,p,q,b⟩
 ·omega
 ·cases e;obtain⟨a,f⟩:=RdG.nums h.rdc.1 l;simp only[Nat.zero_add]at f;refine⟨g,_,rfl,a,f,by simp[World.frozen?,r],?_⟩;have m:=h.put l (j:=0) (by decide) (0:UInt64) (Ab Al 0) rfl;rw[show i*encU.size+0=i from Nat.mul_one i]at m;exact⟨_,m⟩
theorem Zor{F L R da qa:Option Addr}{H J I O dn dc qn qc:Nat}{U:Nat->Prop}
  (hI:WI B E w s b (Aa fa fl fc) (Aa oa on oc) (Aa ra rn rc) (Aa ta tn tc) (Aa F H xc) (Aa L J I) (Aa R O zc) U st d bl tl cl) (h0:An B w0 w) (aq:w0.heap.size=B) (hB:B<=w.heap.size) (hd:BAt w0 (Aa da dn dc) data) (hq:RdG encI w0 qa qs) (aB:qs.length=qn) (aC:qn*8<=140737488355328) (aA:d.ok) (hw:d.writes<=1000000) (aE:st.size<=1000000) (pv:Ar) (nm:ByteArray) (dt kp:Int) (Q) (hQ:scom st d (anode data qs dt tl cl)=Q) (ai:List UInt64) (af:ai=if Q.2.2=0 then cl++[Q.2.1]else cl) (aG:tl.length<=1000000) (av:cl.length<=1000000) :
  At Am 26 #[Ag (wdV s b d (Aa fa fl fc) (Aa oa on oc) (Aa ra rn rc) (Aa ta tn tc) (Aa F H xc) (Aa L J I) (Aa R O zc)),Ag (actC 2 (Aa da dn dc) pv (Aa qa qn qc) nm dt kp)] w λ e w'=>∃vf vo vr vt xz,e=.returned (Af #[Ag (wdV s b Q.1.2 vf vo vr vt (Aa F H xc) (Aa L J I) xz),Ad true])/\Hid (∃U',WI B E w' s b vf vo vr vt (Aa F H xc) (Aa L J I) xz U' Q.1.1 Q.1.2 bl tl ai/\An B w0 w'/\(∀i,E i->w'.heap[i]? = w.heap[i]?)/\OwnG encU 44 w' B (Aa R O zc) cl):=by
 obtain⟨W,hW⟩:=Xa (((w.alloc (.cells (wdV s b d (Aa fa fl fc) (Aa oa on oc) (Aa ra rn rc) (Aa ta tn tc) (Aa F H xc) (Aa L J I) (Aa R O zc)) 36)).alloc (.cells (actC 2 (Aa da dn dc) pv (Aa qa qn qc) nm dt kp) 81)).alloc (.cells zeroW 36))
 have bW:An w.heap.size w W:=by rw[<- hW];exact bz3 _ _ _ _
 have K:Bx w.heap.size W (wdV s b d (Aa fa fl fc) (Aa oa on oc) (Aa ra rn rc) (Aa ta tn tc) (Aa F H xc) (Aa L J I) (Aa R O zc)) (actC 2 (Aa da dn dc) pv (Aa qa qn qc) nm dt kp):=by rw[<- hW];exact Bx.new _ _ _
 have MD:Hid (Md B w.heap.size E (λ i=>Fb w.heap.size i∨E i) w0 w W s b (Aa fa fl fc) (Aa oa on oc) (Aa ra rn rc) (Aa ta tn tc) (Aa F H xc) (Aa L J I) (Aa R O zc) U st d bl tl cl (wdV s b d (Aa fa fl fc) (Aa oa on oc) (Aa ra rn rc) (Aa ta tn tc) (Aa F H xc) (Aa L J I) (Aa R O zc)) (actC 2 (Aa da dn dc) pv (Aa qa qn qc) nm dt kp)):=Md.start hI h0 hB K bW
 have bB:An w0.heap.size w0 W:=by rw[aq];exact MD.o.bel
 obtain⟨cm,aa⟩:=Xa (anode data qs dt tl cl)
 obtain⟨nt,al⟩:∃nt:ByteArray,nt=⟨data.toArray⟩:=⟨_,rfl⟩
 obtain⟨tr,an⟩:∃tr:Int,(cm.tree.toNat:Int)=tr:=⟨_,rfl⟩
 obtain⟨N,hN⟩:=Xa cm.ps.length
 have aL:N<=qn:=by rw[<- hN,<- aa];unfold anode;simp;omega
 have aw:cm.date=dt:=by rw[<- aa];rfl
 have az:nt=⟨cm.note.toArray⟩:=by rw[al,<- aa];rfl
 have aj:=ZmJ (w:=W) (dc:=dc) (qc:=qc) (tc:=I) (cc:=zc) 2 pv nm dt kp (Ah (some ⟨b,0,none⟩)) (Ah (some ⟨s,0,none⟩)) (Aa fa fl fc) (d.writes:Int) d.armed d.dead (d.after:Int) (d.keep:Int) (Aa oa on oc) (Aa ra rn rc) (Aa ta tn tc) (Aa F H xc) (hd.below bB) nt al (hq.below bB) aB aC MD.o.inv.ot.rdc.1 (Zam MD.o.inv.ot) (by have:tl.length=J:=Zam MD.o.inv.ot;omega) MD.o.inv.oc.rdc.1 (Zam MD.o.inv.oc) (by have:cl.length=O:=Zam MD.o.inv.oc;omega) tr (by rw[aa];exact an) N (by rw[aa];exact hN);rw[aa]at aj hQ;have y0:=K.act.cell (j:=0) rfl;have y1:=K.act.cell (j:=1) rfl;have y2:=K.act.cell (j:=2) rfl;have y3:=K.act.cell (j:=3) rfl;have y4:=K.act.cell (j:=4) rfl;have y5:=K.act.cell (j:=5) rfl;have y6:=K.act.cell (j:=6) rfl;obtain⟨x0,x1,x2,x3,x4,x5,x6,x7,x8,x9,aV,aW,aX,aY⟩:=K.box.c14
 have M:Hid (cm.ps.length=N/\d.ok/\d.writes<=1000000/\st.size<=1000000/\scom st d cm=Q/\(ai=if Q.2.2=0 then cl++[Q.2.1]else cl)/\cl.length<=1000000/\N*8<=140737488355328/\cm.date=dt/\nt=⟨cm.note.toArray⟩/\(cm.tree.toNat:Int)=tr):=⟨hN,aA,hw,aE,hQ,af,av,by omega,aw,az,an⟩
 clear hI h0 aq hB hd hq aB aC aA hw aE hQ af aG av K bW bB aa al an hN aL aw az;go_enter func26,ntmps26
 go_upto_region 23 with fail
 clear hW;go_wp2_with fail;refine aj.mono ?_;rintro e w1 ⟨S,P,rfl,H1⟩
 obtain⟨C,hC⟩:=Xa w1.heap.size
 obtain⟨w2,ad⟩:=Xa (w1.alloc (.cells #[Ab Al tr,Aa S N P,Ab Ak dt,Ae nt] 58))
 have ag:An w1.heap.size w1 w2:=by rw[<- ad];exact bz1 _ _
 have s2:w2.heap.size=w1.heap.size+1:=by rw[<- ad];simp
 have ah:=H1.o.2.trans (ag.mono H1.o.2.size)
 have M1:Hid (Md B w.heap.size E (Fc E w.heap.size C S N P) w0 w w2 s b (Aa fa fl fc) (Aa oa on oc) (Aa ra rn rc) (Aa ta tn tc) (Aa F H xc) (Aa L J I) (Aa R O zc) U st d bl tl cl (wdV s b d (Aa fa fl fc) (Aa oa on oc) (Aa ra rn rc) (Aa ta tn tc) (Aa F H xc) (Aa L J I) (Aa R O zc)) (actC 2 (Aa da dn dc) pv (Aa qa qn qc) nm dt kp)):=MD.o.more (G:=λ i=>i=C∨(Aa S N P).ownBlock=some i) ah (λ i q=>by
  have:=H1.o.2.size
  rcases q with q|q
  ·omega
  ·have:=H1.o.1.lt i q
   omega)
 have L2:Hid (OwnG encU 44 w2 (W.heap.size+4) (Aa S N P) cm.ps/\Box4 w2 C 58 (Ab Al tr) (Aa S N P) (Ab Ak dt) (Ae nt)/\C<w2.heap.size/\w.heap.size+3<=C/\∀i,(Aa S N P).ownBlock=some i->w.heap.size+3<=i/\i≠C):=by
  have l3:=MD.o.bx.lt;have:=H1.o.2.size;refine⟨H1.o.1.below ag,?_,by omega,by omega,λ i q=>?_⟩
  ·rw[<- ad,<- hC];exact Box4.new _ _ _ _ _ _
  ·have:=H1.o.1.lt i q;omega
 have CO:Hid (At Am 69 #[Ag #[Ab Al tr,Aa S N P,Ab Ak dt,Ae nt]] w2.drew λ e w'=>∃v,e=.returned v/\Hid (∃ea ec,v=Ag #[Ab Al tr,Aa ea N ec,Ab Ak dt,Ae nt]/\RdG encU w' ea cm.ps/\An w2.heap.size w2 w')):=by
  refine(Zlq (L2.o.1.rdc.1.below (Below.refl _ _).drew) M.o.1 M.o.2.2.2.2.2.2.2.1 nt dt tr).mono ?_;rintro e w' ⟨ea,ec,rfl,h⟩;exact⟨_,rfl,ea,ec,rfl,h.o.1,Zah h.o.2.2⟩
 have PC:Hid (∀w3,An w2.heap.size w2 w3->∀ea ec,RdG encU w3 ea cm.ps->At Am 68 #[(rm d (Aa fa fl fc) (Aa oa on oc) (Aa ra rn rc) (Aa ta tn tc)),Ag #[Ab Al tr,Aa ea N ec,Ab Ak dt,Ae nt]] w3 λ e w'=>∃v,e=.returned v/\Hid (∃m' i r,v=Af #[m',Ab Al i,Ab Ak r]/\i=(Q.2.1.toNat:Int)/\r=Q.2.2/\RMS (Zb (Fc E w.heap.size C S N P) (Rows U (Aa F H xc) (Aa L J I) (Aa R O zc))) w' m' Q.1.1 Q.1.2/\An w2.heap.size w2 w')):=by
  intro w3 b3 ea ec ho;have h:=ZiA (pc:=ec) (λ i q=>?_) (M1.o.refz.below b3) M.o.2.2.2.1 M.o.2.1 M.o.2.2.1 ho M.o.1 (by have:=M.o.2.2.2.2.2.2.2.1;omega) nt M.o.2.2.2.2.2.2.2.2.2.1 dt M.o.2.2.2.2.2.2.2.2.1 Q M.o.2.2.2.2.1
  ·rw[M.o.2.2.2.2.2.2.2.2.2.2]at h;refine h.mono ?_;rintro e w' ⟨m',i,r,rfl,h⟩;exact⟨_,rfl,m',i,r,rfl,h.o.1,h.o.2.1,h.o.2.2.1,b3.trans (h.o.2.2.2.mono b3.size)⟩
  ·rcases q with q|q
   ·exact AI (M1.o.inv.lt i q).2 b3.size
   ·exact AI (M1.o.flt i q) b3.size
 have c1:=M1.o.bx;have g2:=c1.box.cell (j:=2) rfl;have g3:=c1.box.cell (j:=3) rfl;have g4:=c1.box.cell (j:=4) rfl;have g5:=c1.box.cell (j:=5) rfl;have g6:=c1.box.cell (j:=6) rfl;have g7:=c1.box.cell (j:=7) rfl;have g8:=c1.box.cell (j:=8) rfl;have g9:=c1.box.cell (j:=9) rfl;have aK:=c1.box.cell (j:=10) rfl;obtain⟨t0,t1,t2,t3⟩:=L2.o.2.1.cells
 have HC:Hid (w1.heap.size=C/\An W.heap.size W w2):=⟨hC,ah⟩
 clear y0 y1 y2 y3 y4 y5 y6 x0 x1 x2 x3 x4 x5 x6 x7 x8 x9 aV aW aX aY aj H1 c1 ag s2 ah
 go_upto_region 24 with fail
 clear ad hC;go_cut[9,7] (λ iv rv u=>∃v i9 r9 a f c k p l t y x z D A,v=u/\iv=Ab Al i9/\rv=Ab Ak r9/\Hid (i9=(Q.2.1.toNat:Int)/\r9=Q.2.2/\Md B w.heap.size E (Fc E w.heap.size C S N P) w0 w v s b (Aa fa fl fc) (Aa oa on oc) (Aa ra rn rc) (Aa ta tn tc) (Aa F H xc) (Aa L J I) (Aa R O zc) U st d bl tl cl (wdV s b Q.1.2 (Aa a f c) (Aa k p l) (Aa t y x) (Aa z D A) (Aa F H xc) (Aa L J I) (Aa R O zc)) (actC 2 (Aa da dn dc) pv (Aa qa qn qc) nm dt kp)/\RMS (Zb (Fc E w.heap.size C S N P) (Rows U (Aa F H xc) (Aa L J I) (Aa R O zc))) v (rm Q.1.2 (Aa a f c) (Aa k p l) (Aa t y x) (Aa z D A)) Q.1.1 Q.1.2/\OwnG encU 44 v (W.heap.size+4) (Aa S N P) cm.ps/\Box4 v C 58 (Ab Al tr) (Aa S N P) (Ab Ak dt) (Ae nt)))
 case first =>
  go_region_law
   (first
    | (refine ZeY rfl (.tmp 111) 69 #[58] rfl ZeJ (Ag #[Ab Al tr,Aa S N P,Ab Ak dt,Ae nt]) (by simp[Act.eval]) _ CO.o ?_;intro v2 w3 h2;obtain⟨ea,ec,e2,h3,h4⟩:=h2.o;subst e2;have P2:=hid (PC.o w3 h4 ea ec h3);have B2:=hid h4;clear h2 h3 h4;have c2:=M1.o.bx.below B2.o;have h2:=c2.box.cell (j:=2) rfl;have h3:=c2.box.cell (j:=3) rfl;have h4:=c2.box.cell (j:=4) rfl;have h5:=c2.box.cell (j:=5) rfl;have h6:=c2.box.cell (j:=6) rfl;have h7:=c2.box.cell (j:=7) rfl;have h8:=c2.box.cell (j:=8) rfl;have h9:=c2.box.cell (j:=9) rfl;have aZ:=c2.box.cell (j:=10) rfl;clear c2)
    | (refine Zbd rfl (.tmp 110) (.tmp 112) 68 #[33,101] rfl Zdr (rm d (Aa fa fl fc) (Aa oa on oc) (Aa ra rn rc) (Aa ta tn tc)) (Ag #[Ab Al tr,Aa ea N ec,Ab Ak dt,Ae nt]) (by simp[Act.eval]) (by simp[Act.eval]) _ P2.o ?_;intro v3 w4 h3;obtain⟨m3,i9,r9,e3,q1,q2,q3,q4⟩:=h3.o;subst e3;obtain⟨a,f,c,k,p,l,t,y,x,z,D,A,rfl,l1,l2,l3,l4⟩:=q3;have H9:=hid (BO q1 (BO q2 (BO (show RMS (Zb (Fc E w.heap.size C S N P) (Rows U (Aa F H xc) (Aa L J I) (Aa R O zc))) w4 (rm Q.1.2 (Aa a f c) (Aa k p l) (Aa t y x) (Aa z D A)) Q.1.1 Q.1.2 from⟨a,f,c,k,p,l,t,y,x,z,D,A,rfl,l1,l2,l3,l4⟩) q4)));clear h3 q1 q2 q4 l1 l2 l3 l4;have T:=M1.o.bx.below H9.o.2.2.2;have k2:=T.box.cell (j:=2) rfl;have f2:=T.box.thaw 2;have k3:=T.box.cell (j:=3) rfl;have f3:=T.box.thaw 3;have k4:=T.box.cell (j:=4) rfl;have f4:=T.box.thaw 4;have k5:=T.box.cell (j:=5) rfl;have f5:=T.box.thaw 5;have k6:=T.box.cell (j:=6) rfl;have f6:=T.box.thaw 6;have k7:=T.box.cell (j:=7) rfl;have f7:=T.box.thaw 7;have k8:=T.box.cell (j:=8) rfl;have f8:=T.box.thaw 8;have k9:=T.box.cell (j:=9) rfl;have f9:=T.box.thaw 9;have a2:=T.box.cell (j:=10) rfl;have ap:=T.box.thaw 10;clear T)
    | fail)
  all_goals
   have hM:=(M1.o.below H9.o.2.2.2).bx.box.lays [Aa a f c,Ab Ak (Q.1.2.writes:Int),Ad Q.1.2.armed,Ad Q.1.2.dead,Ab Ak (Q.1.2.after:Int),Ab Ak (Q.1.2.keep:Int),Aa k p l,Aa t y x,Aa z D A] 2;rw[set9]at hM;have hT:=Zal (W:=w4) w.heap.size [Aa a f c,Ab Ak (Q.1.2.writes:Int),Ad Q.1.2.armed,Ad Q.1.2.dead,Ab Ak (Q.1.2.after:Int),Ab Ak (Q.1.2.keep:Int),Aa k p l,Aa t y x,Aa z D A] 2;have ao:=hid (BO H9.o.1 (BO H9.o.2.1 (BO ((M1.o.below H9.o.2.2.2).lay hT hM) (BO (H9.o.2.2.1.turned hT (λ i q=>.inr (.inl (.inl (by have q':i=w.heap.size:=q;exact⟨by omega,by omega⟩))))) (BO ((L2.o.1.below H9.o.2.2.2).stays hT (λ g q r=>by have r':g=w.heap.size:=r;have:=(L2.o.2.2.2.2 g q).1;omega)) ((L2.o.2.1.below H9.o.2.2.2 L2.o.2.2.1).turned hT (by have:=L2.o.2.2.2.1;show ¬C=w.heap.size;omega)))))));clear hM hT;simp only[layL,BT]at ao;go_wp2_with fail;go_meet;exact⟨_,i9,r9,a,f,c,k,p,l,t,y,x,z,D,A,rfl,rfl,rfl,ao⟩
 case rest =>
  obtain⟨X,i9,r9,a,f,c,k,p,l,t,y,x,z,D,A,rfl,rfl,rfl,V⟩:=hcut;have x1:=V.o.2.2.1.bx.box.cell (j:=1) rfl;obtain⟨z0,z1,z2,z3⟩:=V.o.2.2.2.2.2.cells;have ak:=ZpW (pc:=P) V.o.2.2.1.inv.duo V.o.2.2.2.2.1.rdc.1 M.o.1 (by have:=M.o.2.2.2.2.2.2.2.1;omega) V.o.2.2.2.2.1.rdc.2 nt M.o.2.2.2.2.2.2.2.2.2.1 dt M.o.2.2.2.2.2.2.2.2.1 M.o.2.1 M.o.2.2.1 (by have:=M.o.2.2.2.1;unfold St.size at this;omega);rw[M.o.2.2.2.2.1,M.o.2.2.2.2.2.2.2.2.2.2]at ak;clear g2 g3 g4 g5 g6 g7 g8 g9 aK t0 t1 t2 t3;go_wp2_with fail;refine ak.mono ?_;rintro e u3 ⟨i8,r8,rfl,H8⟩
  have eI:i8=i9:=by rw[H8.o.1,V.o.1]
  have eR:r8=r9:=by rw[H8.o.2.1,V.o.2.1]
  obtain⟨U1,ar⟩:=Xa (ZaA U X u3)
  have AF:Aft X u3 s b Q.1.1 Q.1.2 U U1:=by rw[<- ar];exact Aft.of (Below.refl _ _) H8.o.2.2.1 H8.o.2.2.2
  have M3:Hid (Md B w.heap.size E (Fc E w.heap.size C S N P) w0 w u3 s b (Aa a f c) (Aa k p l) (Aa t y x) (Aa z D A) (Aa F H xc) (Aa L J I) (Aa R O zc) U1 Q.1.1 Q.1.2 bl tl cl (wdV s b Q.1.2 (Aa a f c) (Aa k p l) (Aa t y x) (Aa z D A) (Aa F H xc) (Aa L J I) (Aa R O zc)) (actC 2 (Aa da dn dc) pv (Aa qa qn qc) nm dt kp)):=(V.o.2.2.1.call AF).2.2.2.2 _ _ _ _ (Below.refl _ _) (V.o.2.2.1.move AF V.o.2.2.2.1)
  have HE:Hid (i8=(Q.2.1.toNat:Int)/\r8=Q.2.2):=⟨H8.o.1,H8.o.2.1⟩
  have L3:Hid (OwnG encU 44 u3 (W.heap.size+4) (Aa S N P) cm.ps/\Box4 u3 C 58 (Ab Al tr) (Aa S N P) (Ab Ak dt) (Ae nt)):=⟨V.o.2.2.2.2.1.stays H8.o.2.2.2 (λ g q r=>V.o.2.2.1.far g (.inl r) (.inr (.inr q))),V.o.2.2.2.2.2.turned H8.o.2.2.2 (λ r=>V.o.2.2.1.far C (.inl r) (.inr (.inl rfl)))⟩
  subst eI eR;clear AF ar H8 ak x1 z0 z1 z2 z3;go_wp2_with fail;go_loopg[14] N (λ m iv wr=>∃i:Nat,iv=Ab Ak i/\i+m=N/\Hid ((∃aH,OwnG encU 44 wr (W.heap.size+4) (Aa S N P) aH)/\Md B w.heap.size E (Fc E w.heap.size C S N P) w0 w wr s b (Aa a f c) (Aa k p l) (Aa t y x) (Aa z D A) (Aa F H xc) (Aa L J I) (Aa R O zc) U1 Q.1.1 Q.1.2 bl tl cl (wdV s b Q.1.2 (Aa a f c) (Aa k p l) (Aa t y x) (Aa z D A) (Aa F H xc) (Aa L J I) (Aa R O zc)) (actC 2 (Aa da dn dc) pv (Aa qa qn qc) nm dt kp)/\Box4 wr C 58 (Ab Al tr) (Aa S N P) (Ab Ak dt) (Ae nt)))
  case atStart=>exact⟨0,rfl,by omega,⟨_,L3.o.1⟩,M3.o,L3.o.2⟩
  case round =>
   obtain⟨i,rfl,hi,HR⟩:=hrel;have a0:=M.o.2.2.2.2.2.2.2.1;obtain⟨t0,t1,t2,t3⟩:=HR.o.2.2.cells;by_cases aM:i<N
   ·have id:(i:Int)<(N:Int):=by omega
    have a1:(0:Int)<=(i:Int):=by omega
    obtain⟨⟨aH,ho⟩,hm,au⟩:=HR.o;obtain⟨g,v0,rfl,aN,c0,f0,HO⟩:=ZnM ho aM;have HM:=hid (BO hm au);clear ho hm au HR;go_wp2;go_roundg (gk - 1)
    case measure=>omega
    case rel =>
     have tt:Zaa (λ j=>j=g) wr (wr.setCell ⟨g,i,none⟩ (Ab Al 0)):=Zad _ _;refine⟨i+1,by go_num,by omega,HO.o,?_,HM.o.2.turned tt (λ q=>(L2.o.2.2.2.2 g rfl).2 (show C=g from q).symm)⟩;exact HM.o.1.other tt (λ j q=>by have q':j=g:=q;subst q';exact⟨.inr (.inr rfl),(L2.o.2.2.2.2 j rfl).1⟩)
   ·obtain rfl:i=N:=by omega
    have Z:=hid HR.o.2.1;clear HR V M3 L3;by_cases aD:r8=0
    ·subst aD;have aG:=M.o.2.2.2.2.2.2.1;have K:B<=wr.heap.size:=Nat.le_trans Z.o.hH (by have:=Z.o.bx.lt;omega);have ae:=Z.o.bx.box.cell (j:=13) rfl;have ac:=Z.o.bx.box.thaw 13;have aN:=Z.o.bx.box.lt
     go_upto_region 54 with(at_builtin;refine ZfE encU 44 34 8 _ rfl Tryz.info44 underlying34 rfl (.tmp 139) (.tmp 141) rfl B (Aa R O zc) cl Q.2.1 _ (by simp[Act.eval]) Z.o.inv.oc (by simp[Act.eval]) (by omega) (by simp only[maxLen];omega) K _ (by show _=#[Ab Al (Q.2.1.toNat:Int)];rw[HE.o.1]) ?_;intro v4 w4 am ax ay aF;obtain⟨a4,c4,e4,_,_⟩:=am.whole (n:=cl.length+1) (by simp);subst e4;have M4:=hid (BO (Z.o.rowC am ay aF) ax);clear am ax ay aF;have ae:=M4.o.1.bx.box.cell (j:=13) rfl;have ac:=M4.o.1.bx.box.thaw 13)
     obtain⟨Y,hY⟩:=Xa (w4.setCell ⟨w.heap.size,13,none⟩ (Aa a4 (cl.length+1) c4))
     have M5:Hid (Md B w.heap.size E (Fc E w.heap.size C S i P) w0 w Y s b (Aa a f c) (Aa k p l) (Aa t y x) (Aa z D A) (Aa F H xc) (Aa L J I) (Aa a4 (cl.length+1) c4) U1 Q.1.1 Q.1.2 bl tl (cl++[Q.2.1]) (wdV s b Q.1.2 (Aa a f c) (Aa k p l) (Aa t y x) (Aa z D A) (Aa F H xc) (Aa L J I) (Aa a4 (cl.length+1) c4)) (actC 2 (Aa da dn dc) pv (Aa qa qn qc) nm dt kp)):=by
      have h1:=M4.o.1.bx.box.lays [Aa a4 (cl.length+1) c4] 13;rw[set13]at h1;rw[<- hY];exact M4.o.1.lay (Zad 13 _) h1
     have O5:Hid (OwnG encU 44 Y B (Aa R O zc) cl):=by
      rw[<- hY];exact M4.o.2.stays (Zad (b:=w.heap.size) 13 _) (λ g q r=>by have r':g=w.heap.size:=r;exact Z.o.far g (.inr (.inr (.inr q))) (.inl (.inl ⟨by omega,by omega⟩)))
     rw[hY];clear hY ae ac;obtain⟨p0,p1,p2,p3,p4,p5,p6,p7,p8,p9,aO,aP,aQ,ae⟩:=M5.o.bx.box.c14;obtain⟨s0,s1,s2,s3,s4,s5,s6,s7,s8,s9,aR,aS,aT,aU⟩:=M5.o.bx.res.c14;obtain⟨f0,f1,f2,f3,f4,f5,f6,f7,f8,f9,ap,aI,aJ,ac⟩:=M5.o.bx.res.t14;go_wp2;refine As (v:=Af #[Ag (wdV s b Q.1.2 (Aa a f c) (Aa k p l) (Aa t y x) (Aa z D A) (Aa F H xc) (Aa L J I) (Aa a4 (cl.length+1) c4)),Ad true]) ?_ rfl ⟨_,_,_,_,_,rfl,?_⟩
     ·simp[AH,Tryz.f26];go_simp
     ·have ht:=Zal (W:=Y) (w.heap.size+2) [Ah (some ⟨b,0,none⟩),Ah (some ⟨s,0,none⟩),Aa a f c,Ab Ak (Q.1.2.writes:Int),Ad Q.1.2.armed,Ad Q.1.2.dead,Ab Ak (Q.1.2.after:Int),Ab Ak (Q.1.2.keep:Int),Aa k p l,Aa t y x,Aa z D A,Aa F H xc,Aa L J I,Aa a4 (cl.length+1) c4] 0;simp only[layL,BT]at ht;have hh:=M5.o.done ht;have ho:=O5.o.stays ht (λ g q r=>by have r':g=w.heap.size+2:=r;exact Z.o.far g (.inr (.inr (.inr q))) (.inl (.inl ⟨by omega,by omega⟩)));have ab:=M.o.2.2.2.2.2.1;rw[AE (HE.o.2.symm)]at ab;rw[ab];exact⟨_,hh.1,hh.2.1,hh.2.2,ho⟩
    ·have hz:Hid (¬r8=0):=aD
     go_upto_region 54 with fail
     obtain⟨p0,p1,p2,p3,p4,p5,p6,p7,p8,p9,aO,aP,aQ,ae⟩:=Z.o.bx.box.c14;obtain⟨s0,s1,s2,s3,s4,s5,s6,s7,s8,s9,aR,aS,aT,aU⟩:=Z.o.bx.res.c14;obtain⟨f0,f1,f2,f3,f4,f5,f6,f7,f8,f9,ap,aI,aJ,ac⟩:=Z.o.bx.res.t14;go_wp2;refine As (v:=Af #[Ag (wdV s b Q.1.2 (Aa a f c) (Aa k p l) (Aa t y x) (Aa z D A) (Aa F H xc) (Aa L J I) (Aa R O zc)),Ad true]) ?_ rfl ⟨_,_,_,_,_,rfl,?_⟩
     ·simp[AH,Tryz.f26];go_simp
     ·have ht:=Zal (W:=wr) (w.heap.size+2) [Ah (some ⟨b,0,none⟩),Ah (some ⟨s,0,none⟩),Aa a f c,Ab Ak (Q.1.2.writes:Int),Ad Q.1.2.armed,Ad Q.1.2.dead,Ab Ak (Q.1.2.after:Int),Ab Ak (Q.1.2.keep:Int),Aa k p l,Aa t y x,Aa z D A,Aa F H xc,Aa L J I,Aa R O zc] 0;simp only[layL,BT]at ht;have hh:=Z.o.done ht;have ho:=Z.o.inv.oc.stays ht (λ g q r=>by have r':g=w.heap.size+2:=r;exact Z.o.far g (.inr (.inr (.inr q))) (.inl (.inl ⟨by omega,by omega⟩)));have ab:=M.o.2.2.2.2.2.1;rw[Aw (by rw[<- HE.o.2];exact hz.o)]at ab;rw[ab];exact⟨_,hh.1,hh.2.1,hh.2.2,ho⟩
theorem ZmA{h m p t:Option Addr}{a g f l r q u:Nat}{U:Nat->Prop}
  (H:WI B E w s b (Aa fa a fc) (Aa oa on oc) (Aa c g f) (Aa h l tc) (Aa m n xc) (Aa p r q) (Aa t u zc) U st d bl tl cl) (F:An B w0 w) (G:B<=w.heap.size) (k:Int) (N:k<0) (dv z A:Ar) (nm:ByteArray) (dt kp:Int) :
  At Am 26 #[Ag (wdV s b d (Aa fa a fc) (Aa oa on oc) (Aa c g f) (Aa h l tc) (Aa m n xc) (Aa p r q) (Aa t u zc)),Ag (actC k dv z A nm dt kp)] w λ e w'=>e=.returned (Af #[Ag (wdV s b d (Aa fa a fc) (Aa oa on oc) (Aa c g f) (Aa h l tc) (Aa m n xc) (Aa p r q) (Aa t u zc)),Ad true])/\Hid (WI B E w' s b (Aa fa a fc) (Aa oa on oc) (Aa c g f) (Aa h l tc) (Aa m n xc) (Aa p r q) (Aa t u zc) U st d bl tl cl/\An B w0 w'/\∀i,E i->w'.heap[i]? = w.heap[i]?):=by
 obtain⟨W,C⟩:=Xa (((w.alloc (.cells (wdV s b d (Aa fa a fc) (Aa oa on oc) (Aa c g f) (Aa h l tc) (Aa m n xc) (Aa p r q) (Aa t u zc)) 36)).alloc (.cells (actC k dv z A nm dt kp) 81)).alloc (.cells zeroW 36))
 have D:An w.heap.size w W:=by rw[<- C];exact bz3 _ _ _ _
 have y:Bx w.heap.size W (wdV s b d (Aa fa a fc) (Aa oa on oc) (Aa c g f) (Aa h l tc) (Aa m n xc) (Aa p r q) (Aa t u zc)) (actC k dv z A nm dt kp):=by rw[<- C];exact Bx.new _ _ _
 have x:Hid (Md B w.heap.size E (λ i=>Fb w.heap.size i∨E i) w0 w W s b (Aa fa a fc) (Aa oa on oc) (Aa c g f) (Aa h l tc) (Aa m n xc) (Aa p r q) (Aa t u zc) U st d bl tl cl (wdV s b d (Aa fa a fc) (Aa oa on oc) (Aa c g f) (Aa h l tc) (Aa m n xc) (Aa p r q) (Aa t u zc)) (actC k dv z A nm dt kp)):=Md.start H F G y D;have y0:=x.o.bx.act.cell (j:=0) rfl;obtain⟨p0,p1,p2,p3,p4,p5,p6,p7,p8,p9,O,P,Q,R⟩:=x.o.bx.box.c14;obtain⟨s0,s1,s2,s3,s4,s5,s6,s7,s8,s9,S,T,V,X⟩:=x.o.bx.res.c14;obtain⟨Y,Z,f2,f3,f4,f5,f6,f7,f8,f9,J,K,L,M⟩:=x.o.bx.res.t14
 have n0:(k==0)=false:=by rw[A7];omega
 have m0:¬k=0:=by omega
 have n1:(k==1)=false:=by rw[A7];omega
 have m1:¬k=1:=by omega
 have n2:(k==2)=false:=by rw[A7];omega
 have m2:¬k=2:=by omega
 have n3:(k==3)=false:=by rw[A7];omega
 have m3:¬k=3:=by omega
 have n4:(k==4)=false:=by rw[A7];omega
 have m4:¬k=4:=by omega
 have n5:(k==5)=false:=by rw[A7];omega
 have m5:¬k=5:=by omega
 have n6:(k==6)=false:=by rw[A7];omega
 have m6:¬k=6:=by omega
 have n7:(k==7)=false:=by rw[A7];omega
 have m7:¬k=7:=by omega
 have n8:(k==8)=false:=by rw[A7];omega
 have m8:¬k=8:=by omega
 clear H F G y D N;go_enter func26,ntmps26
 go_upto_region 54 with fail
 clear C;go_wp2;refine As (v:=Af #[Ag (wdV s b d (Aa fa a fc) (Aa oa on oc) (Aa c g f) (Aa h l tc) (Aa m n xc) (Aa p r q) (Aa t u zc)),Ad true]) ?_ rfl ⟨rfl,?_⟩
 ·simp[AH,Tryz.f26];go_simp
 ·have I:=Zal (W:=W) (w.heap.size+2) [Ah (some ⟨b,0,none⟩),Ah (some ⟨s,0,none⟩),Aa fa a fc,Ab Ak (d.writes:Int),Ad d.armed,Ad d.dead,Ab Ak (d.after:Int),Ab Ak (d.keep:Int),Aa oa on oc,Aa c g f,Aa h l tc,Aa m n xc,Aa p r q,Aa t u zc] 0;simp only[layL,BT]at I;exact x.o.done I
structure AV where
 k:Int
 da:Option Addr
 dn:Nat
 dc:Nat
 pa:Option Addr
 pn:Nat
 pc:Nat
 qa:Option Addr
 qn:Nat
 qc:Nat
 nm:ByteArray
 dt:Int
 kp:Int
abbrev AV.val(a:AV):Ar:=actV a.k (Aa a.da a.dn a.dc) (Aa a.pa a.pn a.pc) (Aa a.qa a.qn a.qc) a.nm a.dt a.kp
def encA:Enc AV:=⟨λ a=>[Ab Ak a.k,Aa a.da a.dn a.dc,Aa a.pa a.pn a.pc,Aa a.qa a.qn a.qc,Ae a.nm,Ab Ak a.dt,Ab Ak a.kp],7,λ _=>rfl,by decide,by intro x u h;simp at h;rcases h with rfl|rfl|rfl|rfl|rfl|rfl|rfl <;> rfl⟩
theorem RdG.acts {w:World} {b off:Nat} {l:List AV} (h:RdG encA w (some ⟨b,off,none⟩) l) {i:Nat} {a:AV} (hx:l[i]? = some a):b<w.heap.size/\w.cell? ⟨b,off+i*7,none⟩=some (.int .i64 a.k)/\w.cell? ⟨b,off+i*7+1,none⟩=some (.slice a.da a.dn a.dc)/\w.cell? ⟨b,off+i*7+2,none⟩=some (.slice a.pa a.pn a.pc)/\w.cell? ⟨b,off+i*7+3,none⟩=some (.slice a.qa a.qn a.qc)/\w.cell? ⟨b,off+i*7+4,none⟩=some (.string a.nm)/\w.cell? ⟨b,off+i*7+5,none⟩=some (.int .i64 a.dt)/\w.cell? ⟨b,off+i*7+6,none⟩=some (.int .i64 a.kp):=by
 obtain ⟨b', off', e', hlt, hc⟩ := h (by rcases Nat.lt_or_ge i l.length with q | q
                                         · omega
                                         · rw [List.getElem?_eq_none q] at hx; cases hx)
 obtain ⟨rfl,rfl⟩:b=b'/\off=off':=by simpa using e'
 have h0:=hc i a hx 0 _ rfl;have h1:=hc i a hx 1 _ rfl;have h2:=hc i a hx 2 _ rfl;have h3:=hc i a hx 3 _ rfl;have h4:=hc i a hx 4 _ rfl;have h5:=hc i a hx 5 _ rfl;have h6:=hc i a hx 6 _ rfl;refine ⟨hlt,?_,?_,?_,?_,?_,?_,?_⟩
 ·simpa [encA] using h0
 ·simpa [encA,Nat.add_assoc] using h1
 ·simpa [encA,Nat.add_assoc] using h2
 ·simpa [encA,Nat.add_assoc] using h3
 ·simpa [encA,Nat.add_assoc] using h4
 ·simpa [encA,Nat.add_assoc] using h5
 ·simpa [encA,Nat.add_assoc] using h6
structure Zds(w:Ap)(a:AV)(data:Bs)(ps:List Bs)(qs:List Int):Prop where
 hd:BAt w (Aa a.da a.dn a.dc) data
 dl:data.length=a.dn
 dm:a.dn<=140737488355328
 hp:RdG encT w a.pa ps
 pl:ps.length=a.pn
 pm:a.pn*24<=140737488355328
 pf:∀p∈ps,p.length<=9223372036854775807
 hq:RdG encI w a.qa qs
 ql:qs.length=a.qn
 qm:a.qn*8<=140737488355328
structure Acts(w:Ap)(ao:Option Addr)(n:Nat)(l:List AV):Prop where
 rd:RdG encA w ao l
 len:l.length=n
 each:∀a∈l,∃data ps qs,Zds w a data ps qs
def Rel(k:Int)(data:Bs)(ps:List Bs)(qs:List Int)(dt:Int)(st:St)(d:Dk)(bl tl cl:List UInt64)(st':St)(d':Dk)(bl' tl' cl':List UInt64):Prop :=
 (k<0/\st'=st/\d'=d/\bl'=bl/\tl'=tl/\cl'=cl) ∨
 (k=0/\∃Q,sblob st d data=Q/\st'=Q.1.1/\d'=Q.1.2/\(bl'=if Q.2.2=0 then bl++[Q.2.1]else bl)/\tl'=tl/\cl'=cl) ∨
 (k=1/\∃Q,stree st d (aents ps qs bl)=Q/\st'=Q.1.1/\d'=Q.1.2/\bl'=bl/\(tl'=if Q.2.2=0 then tl++[Q.2.1]else tl)/\cl'=cl) ∨
 (k=2/\∃Q,scom st d (anode data qs dt tl cl)=Q/\st'=Q.1.1/\d'=Q.1.2/\bl'=bl/\tl'=tl/\(cl'=if Q.2.2=0 then cl++[Q.2.1]else cl))
theorem WI.form{xc:Ar}{U:Nat->Prop}(h:WI B E w s b vf vo vr vt xb xt xc U st d bl tl cl):
  ∃fa a fc oa on oc c g f i j tc k t l m u n o v zc,vf=Aa fa a fc/\vo=Aa oa on oc/\vr=Aa c g f/\vt=Aa i j tc/\xb=Aa k t l/\xt=Aa m u n/\xc=Aa o v zc:=by
 obtain⟨fa,a,fc,oa,on,oc,c,g,f,i,j,tc,e,_⟩:=h.ref;obtain⟨k,l,p,_⟩:=h.ob.whole rfl;obtain⟨m,n,q,_⟩:=h.ot.whole rfl;obtain⟨o,zc,r,_⟩:=h.oc.whole rfl;simp at e;exact⟨fa,a,fc,oa,on,oc,c,g,f,i,j,tc,k,_,l,m,_,n,o,_,zc,e.1,e.2.1,e.2.2.1,e.2.2.2,p,q,r⟩
theorem WI.turn{G:Nat->Prop}{w':Ap}{xc:Ar}{U:Nat->Prop}(h:WI B E w s b vf vo vr vt xb xt xc U st d bl tl cl)(a:Zaa G w w')(e:∀i,G i->E i):WI B E w' s b vf vo vr vt xb xt xc U st d bl tl cl:=by
 have c:∀i,Rows U xb xt xc i->¬G i:=λ i q r=>h.fe i q (e i r)
 exact⟨h.duo.stays a (λ i q=>c i (.inl q)),h.low,h.ref.turned a (λ i q=>.inr (e i q)),h.fe,λ i q=>AI (h.elt i q) a.size,h.ob.stays a (λ g q=>c g (.inr (.inl q))),h.ot.stays a (λ g q=>c g (.inr (.inr (.inl q)))),h.oc.stays a (λ g q=>c g (.inr (.inr (.inr q)))),h.fb,h.ft,h.fc,h.bt,h.bc,h.tc⟩
theorem Zh8:∀args w,(Cq 26 args).run Am w=.ok (.enter 26 args) w:=enters_of func26 (by kernel_rfl) rfl
theorem ZoI{xa ya za:Option Addr}{xn yn yc zn:Nat}{U:Nat->Prop}{a:AV}{ps:List Bs}
  (hI:WI B E w s b (Aa fa fl fc) (Aa oa on oc) (Aa ra rn rc) (Aa ta tn tc) (Aa xa xn xc) (Aa ya yn yc) (Aa za zn zc) U st d bl tl cl) (h0:An B w0 w) (D:w0.heap.size=B) (hB:B<=w.heap.size) (hA:Zds w0 a data ps qs) (hk:a.k<3) (F:d.ok) (hw:d.writes<=1000000) (G:st.size<=1000000) (V:bl.length<=1000000) (W:tl.length<=1000000) (aa:cl.length<=1000000) :
  At Am 26 #[Ag (wdV s b d (Aa fa fl fc) (Aa oa on oc) (Aa ra rn rc) (Aa ta tn tc) (Aa xa xn xc) (Aa ya yn yc) (Aa za zn zc)),a.val] w λ e w'=>∃v,e=.returned v/\Hid (∃f j g l n m p t r u z y H J I K M L N P O Z X d' R Y S,v=Af #[Ag (wdV s b d' (Aa f j g) (Aa l n m) (Aa p t r) (Aa u z y) (Aa H J I) (Aa K M L) (Aa N P O)),Ad true]/\WI B E w' s b (Aa f j g) (Aa l n m) (Aa p t r) (Aa u z y) (Aa H J I) (Aa K M L) (Aa N P O) Z X d' R Y S/\An B w0 w'/\(∀i,E i->w'.heap[i]? = w.heap[i]?)/\OwnG encU 44 w' B (Aa xa xn xc) bl/\OwnG encU 44 w' B (Aa ya yn yc) tl/\OwnG encU 44 w' B (Aa za zn zc) cl/\Rel a.k data ps qs a.dt st d bl tl cl X d' R Y S):=by
 obtain⟨k,da,dn,dc,pa,pn,pc,qa,qn,qc,nm,dt,kp⟩:=a;obtain⟨a1,a2,a3,a4,a5,a6,a7,a8,a9,Q⟩:=hA;simp only at a1 a2 a3 a4 a5 a6 a7 a8 a9 Q hk
 have hc:k<0∨k=0∨k=1∨k=2:=by omega
 rcases hc with q|rfl|rfl|rfl
 ·refine(ZmA hI h0 hB k q _ _ _ nm dt kp).mono ?_;rintro e w' ⟨rfl,h⟩;obtain⟨c,A,C⟩:=h.o;exact⟨_,rfl,_,_,_,_,_,_,_,_,_,_,_,_,_,_,_,_,_,_,_,_,_,_,_,_,_,_,_,rfl,c,A,C,c.ob,c.ot,c.oc,.inl ⟨q,rfl,rfl,rfl,rfl,rfl⟩⟩
 ·refine(Zll hI h0 D hB a1 a2 a3 F hw G _ _ nm dt kp _ rfl _ rfl V).mono ?_;rintro e w' ⟨vf,vo,vr,vt,x,rfl,h⟩;obtain⟨Z,c,A,C,T⟩:=h.o;obtain⟨f,j,g,l,n,m,p,t,r,u,z,y,H,J,I,_,_,_,_,_,_,rfl,rfl,rfl,rfl,rfl,_,_⟩:=c.form;exact⟨_,rfl,_,_,_,_,_,_,_,_,_,_,_,_,_,_,_,_,_,_,_,_,_,_,_,_,_,_,_,rfl,c,A,C,T,c.ot,c.oc,.inr (.inl ⟨rfl,_,rfl,rfl,rfl,rfl,rfl,rfl⟩)⟩
 ·refine(Zk9 hI h0 D hB a4 a5 a6 a7 a8 a9 (by omega) F hw G _ nm dt kp _ rfl _ rfl V W).mono ?_;rintro e w' ⟨vf,vo,vr,vt,x,rfl,h⟩;obtain⟨Z,c,A,C,T⟩:=h.o;obtain⟨f,j,g,l,n,m,p,t,r,u,z,y,_,_,_,K,M,L,_,_,_,rfl,rfl,rfl,rfl,_,rfl,_⟩:=c.form;exact⟨_,rfl,_,_,_,_,_,_,_,_,_,_,_,_,_,_,_,_,_,_,_,_,_,_,_,_,_,_,_,rfl,c,A,C,c.ob,T,c.oc,.inr (.inr (.inl ⟨rfl,_,rfl,rfl,rfl,rfl,rfl,rfl⟩))⟩
 ·refine(Zor hI h0 D hB a1 a8 a9 Q F hw G _ nm dt kp _ rfl _ rfl W aa).mono ?_;rintro e w' ⟨vf,vo,vr,vt,x,rfl,h⟩;obtain⟨Z,c,A,C,T⟩:=h.o;obtain⟨f,j,g,l,n,m,p,t,r,u,z,y,_,_,_,_,_,_,N,P,O,rfl,rfl,rfl,rfl,_,_,rfl⟩:=c.form;exact⟨_,rfl,_,_,_,_,_,_,_,_,_,_,_,_,_,_,_,_,_,_,_,_,_,_,_,_,_,_,_,rfl,c,A,C,c.ob,c.ot,T,.inr (.inr (.inr ⟨rfl,_,rfl,rfl,rfl,rfl,rfl,rfl⟩))⟩
section
variable{co:Array Value}{B R O:Nat}{w0 u u':World}{s b:Nat}{vf vo vr vt xb xt xc:Value}{U:Nat->Prop}{st:St}{d:Dk}{bl tl cl:List UInt64}
end
end Go.Proofs.YtlojblelpaegpaaGreat
