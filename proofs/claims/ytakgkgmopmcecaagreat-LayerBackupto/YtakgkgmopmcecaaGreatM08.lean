import Derived.Test.YtakgkgmopmcecaaGreatM07
import Derived.Deep.MidRow
set_option maxHeartbeats 6400000
set_option maxRecDepth 100000
open Go renaming Value->Ar,World->Ap,Calls->At,bodyPost_ret->As,results->AI,heap_alloc_new->Cg,convert->Cx,maxLen->AH,TypeId->AP,bytes->By,Operand->CG,wpList->CQ,execOp->CP,resolve->DA,invoke->DS,info_parts->Ch,callFunc->Ck,yielded->Co,run_make_full->Gi,toList_madeCells_one->Gj
open Nat renaming le_refl->AA,reduceAdd->Cv,lt_of_lt_of_le->AK,le_trans->AU,mul_one->Df
open Go.RowKit renaming Below->An
open List renaming take_add_one->AW,length_map->A4,length_tail->Gh,length_append->Ax,take_of_length_le->Av,eq_nil_of_length_eq_zero->AQ,replicate->Bk,ext_getElem?->CD,getElem?_eq_none->AM,contains_iff_mem->C7,mem_append->AN,mem_singleton->AZ,getElem?_eq_getElem->Aq,length_replicate->DP
open Go.RowKit.Below renaming refl->Ao
open Go.Value renaming int->Ab,slice->Aa,bool->Ad,string->Ae,tuple->Af,agg->Ag,pointer->Ah
open Go.Oper renaming wp->Cs,upon_enter->DL
open Go.Region renaming wanted->Bd
open Go.Deferred renaming ofValue->DF
open Go.IntKind renaming u64->Al,u8->Em,i64->Ak
open Int renaming emod_nonneg->Hi,emod_lt_of_pos->GW
open Go.Obj renaming cells->Ai
open Go.Ending renaming returned->Aj
open Go.Proofs.Tryz renaming prog->Am
open Go.Proofs.Tryz
namespace Go.Proofs.YtakgkgmopmcecaaGreat
open Go.RowKit
variable {F G S:Nat->Prop}{H b base cap g i j k n s:Nat}{K:Act->Ap->Prop}{Q:Exit->Act->Ap->Prop}{W u u' w w0 wS wr:Ap}{X:Prop}{a:Act}{bs p:Bs}{cids:List UInt64}{cs:Array Ar}{d':Dk}{m:Int}{ops:Array Oper}{qs:List Int}{rest:List Oper}{t:AP}{v:Ar}{α:Type}
abbrev gU:Ar:=Aa none 0 0
abbrev pG:Ar:=rm lM gU gU gU gU
theorem K6(E:ju α)(Z:Nat->Prop)(w:Ap):LG E Z w none 0 0 []:=⟨rfl,AA _,gQ.nil _ _ _,λ h=>absurd h (by omega)⟩
theorem oM(Z:Nat->Prop)(w:Ap):jh Z w pG mH lM :=
 ⟨none,0,0,none,0,0,none,0,0,none,0,0,rfl,K6 _ _ _,K6 _ _ _,K6 _ _ _,K6 _ _ _⟩
theorem TW:(kJ []).1.length=0:=by
 rw[kJ];simp
theorem UH(w:Ap):
  At Am 45 #[Ag #[gU,Ab Ak 0,Ad false,Ad false,Ab Ak 0,Ab Ak 0]] w λ e w'=>e=Aj (Af #[pG,Ab Ak 0])/\Iz w w':=by
 obtain⟨W,i⟩:=Xa (((w.alloc (Ai #[gU,Ab Ak 0,Ad false,Ad false,Ab Ak 0,Ab Ak 0] 30)).alloc kN).alloc kN)
 have d:Hid (gT W w.heap.size 30 #[gU,Ab Ak 0,Ad false,Ad false,Ab Ak 0,Ab Ak 0]/\gT W (w.heap.size+1) 34 #[gU,Ab Ak 0,Ad false,Ad false,Ab Ak 0,Ab Ak 0,gU,gU,gU]/\gT W (w.heap.size+2) 34 #[gU,Ab Ak 0,Ad false,Ad false,Ab Ak 0,Ab Ak 0,gU,gU,gU]/\Iz w W):=by
  rw[<- i];exact MN _ _ _ _ _ _ _
 have x:=Ih i;clear i;have p:Hid (At Am 92 #[Ag #[gU,Ab Ak 0,Ad false,Ad false,Ab Ak 0,Ab Ak 0],Ae ⟨#[111,98,106,101,99,116,115]⟩] W λ e w'=>e=Aj (Ae ⟨#[]⟩)/\Iz W w'):=To (c:=0) lM jI W (gQ.nil _ _ _) rfl (by omega) rfl
 have l:Hid (∀w1,At Am 93 #[Ae ⟨#[]⟩] w1 λ e w'=>∃a c n r,e=Aj (Af #[Aa a 0 c,Ab Ak n,Ab Ak r])/\Iz w1 w'):=by
  intro w1;refine(d9 [] w1 (by simp)).mono ?_;rintro e w' ⟨lv,rfl,h⟩;obtain⟨a,c,t,_,_,_,_⟩:=gM.form h.o.1;have e0:=TW;rw[e0]at t;exact⟨a,c,_,_,by rw[t],h.o.2⟩
 have E:=d.o.1.cell (j:=0) rfl;have F:=d.o.1.cell (j:=1) rfl;have G:=d.o.1.cell (j:=2) rfl;have H:=d.o.1.cell (j:=3) rfl;have I:=d.o.1.cell (j:=4) rfl;have J:=d.o.1.cell (j:=5) rfl;go_enter func45,ntmps45
 go_upto_region 2 with fail
 rw[x.o];go_wp2_with fail;refine p.o.mono ?_;rintro e w1 ⟨rfl,b1⟩;have s:=Ih b1;clear b1;go_wp2_with fail;refine(l.o w1).mono ?_;rintro e D ⟨a,c,n,r,rfl,b2⟩;have u:=Ih (s.o.trans (b2.mono s.o.size));clear b2 E F G H I J;go_wp2_with fail;go_loopg[9,10] 0 (λ m A C wr=>A=Ab Ak 0/\C=Ab Ak 0/\Hid (Iz W wr))
 case atStart=>exact⟨rfl,rfl,u.o⟩
 case round =>
  obtain⟨rfl,rfl,g⟩:=hrel
  have y:=λ(j:Nat) (v:Ar) (h:#[gU,Ab Ak 0,Ad false,Ad false,Ab Ak 0,Ab Ak 0,gU,gU,gU][j]? = some v)=>(d.o.2.2.1.below g.o d.o.2.2.1.lt).cell h
  have U:=y 0 _ rfl;have V:=y 1 _ rfl;have X:=y 2 _ rfl;have Y:=y 3 _ rfl;have Z:=y 4 _ rfl;have y5:=y 5 _ rfl;have y6:=y 6 _ rfl;have y7:=y 7 _ rfl;have y8:=y 8 _ rfl
  have z:=λ(j:Nat) (v:Ar) (h:#[gU,Ab Ak 0,Ad false,Ad false,Ab Ak 0,Ab Ak 0,gU,gU,gU][j]? = some v)=>(d.o.2.1.below g.o d.o.2.1.lt).cell h
  have f:=(d.o.2.1.below g.o d.o.2.1.lt).thaw;have z0:=z 0 _ rfl;have z1:=z 1 _ rfl;have z2:=z 2 _ rfl;have z3:=z 3 _ rfl;have z4:=z 4 _ rfl;have z5:=z 5 _ rfl;have z6:=z 6 _ rfl;have z7:=z 7 _ rfl;have z8:=z 8 _ rfl;have K:=f 0;have L:=f 1;have f2:=f 2;have M:=f 3;have N:=f 4;have O:=f 5;have P:=f 6;have Q:=f 7;have R:=f 8;have sz:(⟨#[]⟩:ByteArray).size=0:=rfl;clear y z f;go_wp2;refine As (v:=Af #[Ag #[gU,Ab Ak 0,Ad false,Ad false,Ab Ak 0,Ab Ak 0,gU,gU,gU],Ab Ak 0]) ?_ rfl ⟨rfl,?_⟩;simp[AI,Tryz.f45];go_simp;have B:=Bu wr (w.heap.size+1) gU (Ab Ak 0) (Ad false) (Ad false) (Ab Ak 0) (Ab Ak 0) gU gU gU;have b:=d.o.2.2.2.trans (g.o.mono d.o.2.2.2.size);exact b.trans (B.below b.size (λ k S q=>by have T:=q;omega))
section
variable {S:Nat->Prop}{X:Bs->Prop}{w:World}{b m:Nat}{f:Bs->Option Value}{a k:Int}{d:Dk}
end
section
variable {S:Nat->Prop}{w:World}{b m:Nat}{f:Bs->Option Value}{a k:Int}{d:Dk}
end
section
variable {w:World}{s b:Nat}{st:St}{S:Nat->Prop}
theorem CI.zero{w:Ap}{s b:Nat}{M:Nat->Nat}{r t:Nat}{S:Nat->Prop}(d:w.heap[s]? = some (Ai #[Ah (some ⟨b,0,none⟩),.map (some (M 0)),.map (some (M 1)),.map (some (M 2)),.map (some (M 3)),.map (some r),.map (some t)] 182 (0,0)))
  (f:∀k,k<4->w.heap[M k]? = some (.map #[] 0)) (l:w.heap[r]? = some (.map #[] 0)) (m:w.heap[t]? = some (.map #[] 0)) (hi:∀j k,j<4->k<4->M j=M k->j=k) (c:(∀k,k<4->M k≠r/\M k≠t)/\r≠t) (g:S s/\S r/\S t/\∀k,k<4->S (M k)) (e:∀i,S i->i<w.heap.size) :
  CI w s b M r t (λ _ _=>none) mH S where
 cells:=d
 objs:=λ k a=>⟨0,Nat.zero_le _,jb.new (f k a)⟩
 refs:=jb.new l
 tags:=jb.new m
 gone:=λ _ _ _ _=>rfl
 there:=λ k a i bs h=>by simp[mH,iq]at h
 inj:=hi
 apart:=c
 own:=g
 lt:=e
end
def mm(B k j:Nat):Ar:=if j<k then .map (some (B+3+j))else .map none
structure nB(w:Ap)(b k:Nat)(wr:Ap):Prop where
 sz:wr.heap.size=w.heap.size+3+k
 cells:wr.heap[w.heap.size+2]? = some (Ai #[Ah (some ⟨b,0,none⟩),mm w.heap.size k 0,mm w.heap.size k 1,mm w.heap.size k 2,mm w.heap.size k 3,.map (some w.heap.size),.map (some (w.heap.size+1))] 182 (0,0))
 maps:∀j,j<k->wr.heap[w.heap.size+3+j]? = some (.map #[] 0)
 r:wr.heap[w.heap.size]? = some (.map #[] 0)
 t:wr.heap[w.heap.size+1]? = some (.map #[] 0)
 bel:An w.heap.size w wr
theorem nB.cell(h:nB w b k wr)(j:Nat)(c:j<4):wr.cell? ⟨w.heap.size+2,1+j,none⟩=some (mm w.heap.size k j)/\wr.frozen? ⟨w.heap.size+2,1+j,none⟩=false:=by
 have a:j=0∨j=1∨j=2∨j=3:=by omega
 rcases a with rfl|rfl|rfl|rfl <;> simp[World.cell?,World.frozen?,h.cells]
theorem nB.step(h:nB w b k wr)(u:k<4):nB w b (k+1) ((wr.setCell ⟨w.heap.size+2,1+k,none⟩ (.map (some (w.heap.size+3+k)))).alloc (.map #[] 0)):=by
 obtain⟨W,g⟩:=Xa (wr.setCell ⟨w.heap.size+2,1+k,none⟩ (.map (some (w.heap.size+3+k))))
 have f:Aw (λ i=>i=w.heap.size+2) wr W:=by rw[<- g];exact BR _ _
 have d:W.heap.size=w.heap.size+3+k:=by rw[<- g];simp[World.setCell,h.sz]
 have m:=JH h.cells (1+k) (.map (some (w.heap.size+3+k)));rw[g]at m ⊢;have n:=Cg W (.map #[] 0);rw[d]at n;have p:=h.sz
 have a:∀i,i<w.heap.size+3+k->(W.alloc (.map #[] 0)).heap[i]? = W.heap[i]? := λ i hi=>(gW W (.map #[] 0)).block i (by rw[d];exact hi)
 have c:∀i,i<w.heap.size+3+k->i≠w.heap.size+2->W.heap[i]? = wr.heap[i]? := λ i hi l=>f.block i (by omega) l
 refine⟨by simp[d];omega,?_,?_,?_,?_,?_⟩
 ·rw[a _ (by omega),m]
  have o:k=0∨k=1∨k=2∨k=3:=by omega
  rcases o with rfl|rfl|rfl|rfl <;> simp[mm]
 intro j s;by_cases e:j=k
 rw[e];exact n
 rw[a _ (by omega),c _ (by omega) (by omega)];exact h.maps j (by omega)
 rw[a _ (by omega),c _ (by omega) (by omega)];exact h.r
 rw[a _ (by omega),c _ (by omega) (by omega)];exact h.t
 exact h.bel.trans ((f.below (by omega) (λ i hi q=>by omega)).trans ((gW W _).mono (by omega)))
theorem nB.start(w:Ap)(b:Nat):nB w b 0 (((w.alloc (.map #[] 0)).alloc (.map #[] 0)).alloc (Ai #[Ah (some ⟨b,0,none⟩),.map none,.map none,.map none,.map none,.map (some w.heap.size),.map (some (w.heap.size+1))] 182)):=by
 have c:(w.alloc (.map #[] 0)).heap.size=w.heap.size+1:=by simp
 have a:((w.alloc (.map #[] 0)).alloc (.map #[] 0)).heap.size=w.heap.size+2:=by simp
 have f:=Cg w (.map #[] 0);have d:=Cg (w.alloc (.map #[] 0)) (.map #[] 0);rw[c]at d;have e:=Cg ((w.alloc (.map #[] 0)).alloc (.map #[] 0)) (Ai #[Ah (some ⟨b,0,none⟩),.map none,.map none,.map none,.map none,.map (some w.heap.size),.map (some (w.heap.size+1))] 182);rw[a]at e;refine⟨by simp,?_,λ j g=>by omega,?_,?_,nC _ _ _ _⟩
 rw[e];simp[mm]
 rw[(gW _ _).block _ (by rw[a];omega),(gW _ _).block _ (by rw[c];omega)];exact f
 rw[(gW _ _).block _ (by rw[a];omega)];exact d
theorem nB.store(h:nB w b 4 wr):A1 wr (w.heap.size+2) b mH (λ i=>w.heap.size<=i/\i<w.heap.size+7):=by
 refine⟨λ k=>w.heap.size+3+k,w.heap.size,w.heap.size+1,_,CI.zero ?_ (λ k a=>h.maps k a) h.r h.t (λ j k _ _ e=>by omega) ⟨λ k _=>⟨by omega,by omega⟩,by omega⟩ ⟨by omega,by omega,by omega,λ k a=>by omega⟩ (λ i hi=>by rw[h.sz];omega)⟩;rw[h.cells];simp[mm]
section
variable {w:World}{b:Nat}{d:Dk}{T:Nat->Prop}
def Left(w w':Ap)(b:Nat)(d':Dk)(T:Nat->Prop)(T':Nat->Prop):Prop:=D7 w' b d' T'/\(∀i,T' i->T i∨w.heap.size<=i)/\Aw T w w'
theorem Uh{w:Ap}{s c:Nat}{a:Option Addr}:At Am 90 #[Ah (some ⟨s,0,none⟩),Aa a 0 c] w λ e w'=>e=Aj (Ab Ak 0)/\w'=w:=by
 go_enter func90,ntmps90;go_wp2_with fail;go_loopg[5] 0 (λ k v wr=>wr=w/\v=Ab Ak 0/\k=0)
 case atStart=>exact⟨rfl,rfl,rfl⟩
 case round =>
  obtain⟨rfl,rfl,_⟩:=hrel;go_wp2;go_ret;exact⟨rfl,rfl⟩
theorem XG(t:D7 w b lM T):
  At Am 44 #[Ah (some ⟨b,0,none⟩)] w λ e w'=>∃z,Hid (Left w w' b lM T z) /\
   ((Hid ((0:Int)=0)/\∃s,e=Aj (Af #[Ah (some ⟨s,0,none⟩),Ab Ak 0])/\Hid (∃S,A1 w' s b mH S/\∀i,S i->w.heap.size<=i/\¬z i)) ∨
    (∃r,e=Aj (Af #[Ah none,Ab Ak r])/\Hid ((0:Int)=r/\r≠0))):=by
 have H:=Ih t;have g:=t.lt
 have L:=λ W=>run_makeMap (P:=Am) 178 W
 have B:=λ W=>run_makeMap (P:=Am) 179 W
 obtain⟨W,G⟩:=Xa (((w.alloc (.map #[] 0)).alloc (.map #[] 0)).alloc (Ai #[Ah (some ⟨b,0,none⟩),.map none,.map none,.map none,.map none,.map (some w.heap.size),.map (some (w.heap.size+1))] 182))
 have D:Hid (nB w b 0 W):=by rw[<- G];exact nB.start w b
 have C:=Ih g;clear t g;go_enter func44,ntmps44;go_wp2_with fail;go_loopg[15] 4 (λ m M wr=>∃k:Nat,M=Ab Ak (k:Int)/\k+m=4/\Hid (nB w b k wr))
 case atStart=>exact⟨0,rfl,by omega,D⟩
 case round =>
  obtain⟨k,rfl,O,I⟩:=hrel;by_cases d:k<4
  ·have sz:=I.o.sz;have st:=I.o.step d;have K:=I.o.cell k d
   have F:k=0∨k=1∨k=2∨k=3:=by omega
   rcases F with rfl|rfl|rfl|rfl
   all_goals
    obtain⟨A,E⟩:=K;simp only[mm,Nat.lt_irrefl,Ek]at A;simp only[Nat.add_zero,Cv]at A E st sz;have l:Hid _:=st;clear st d;go_wp2;go_roundg (gk - 1)
    case measure=>omega
    case rel=>first | exact⟨1,rfl,by omega,l⟩ | exact⟨2,rfl,by omega,l⟩ | exact⟨3,rfl,by omega,l⟩ | exact⟨4,rfl,by omega,l⟩
  obtain rfl:k=4:=by omega
  have t4:decide ((4:Int)<4)=false:=by decide
  have f:=H.o.below I.o.bel;have a:=eC f jI (by decide) (λ bs J=>absurd (show(none:Option Bs)=some bs from J) (by simp));rw[show(ip lM.files jI).getD []=[]from rfl]at a;obtain⟨g0,h⟩:=Xa ((ip lM.files jI).isSome);rw[h]at a;clear f h;go_wp2_with fail;refine a.mono ?_;rintro e v ⟨v5,rfl,y,p⟩;obtain⟨a5,N,u,_⟩:=y.whole (n:=0) rfl;subst u
  have x:Hid (Left w v b lM T T/\A1 v (w.heap.size+2) b mH (λ i=>w.heap.size<=i/\i<w.heap.size+7)):=by
   have c:=I.o.bel.trans (p.mono I.o.bel.size);exact⟨⟨H.o.below c,λ i q=>.inl q,Aw.ofBelow (S:=T) c⟩,I.o.store.below p⟩
  clear y p a;go_wp2_with fail;refine Uh.mono ?_;rintro e Q ⟨rfl,j⟩;rw[j];clear j;go_wp2;refine As (results_tmp2 rfl _ _ _) rfl ?_;exact⟨T,x.o.1,.inl ⟨trivial,_,rfl,_,x.o.2,λ i hi=>⟨hi.1,λ q=>by have:=C.o i q;omega⟩⟩⟩
end
abbrev nR(vd vs vf:Ar)(wr:Int)(ar de:Bool)(af ke:Int)(vo vr vt bv tv cv:Ar):Array Ar:=#[vd,vs,vf,Ab Ak wr,Ad ar,Ad de,Ab Ak af,Ab Ak ke,vo,vr,vt,bv,tv,cv]
def jX(data:Bs)(qs:List Int)(dt:Int)(tids cids:List UInt64):Cm:=⟨iI tids (jy qs 0),qs.tail.map (iI cids),dt,data⟩
theorem Z9{x:Int}(b:1<=i)(a:qs[i]? = some x):(qs.tail.take i).map (iI cids)=(qs.tail.take (i - 1)).map (iI cids)++[iI cids x]:=by
 obtain⟨j,rfl⟩:∃j,i=j+1:=⟨i - 1,by omega⟩
 have e:qs.tail[j]? = some x:=by rw[List.getElem?_tail];exact a
 rw[Nat.add_sub_cancel,AW,e,List.map_append]
 rfl
theorem Uj{da qa n r:Option Addr}{dn dc qn qc l tc p cc:Nat}{data:Bs}{c:List UInt64}(k:Int)(F:Ar)(nm:ByteArray)(dt kp:Int)
  (G vs vf:Ar) (M:Int) (I J:Bool) (K L:Int) (vo vr vt D:Ar)
  (hd:iE w (Aa da dn dc) data) (nt:ByteArray) (af:nt=⟨data.toArray⟩) (hq:gQ encI w qa qs) (T:qs.length=qn) (av:qn*8<=140737488355328) (s:gQ gR w n c) (ag:c.length=l) (ah:l<=4000000000000000000) (hc:gQ gR w r cids) (ad:cids.length=p) (aj:p<=4000000000000000000) (f:Int) (ai:((jX data qs dt c cids).tree.toNat:Int)=f) (N:Nat) (hN:(jX data qs dt c cids).ps.length=N) :
  At Am 52 #[mQ k (Aa da dn dc) F (Aa qa qn qc) nm dt kp,Ag (nR G vs vf M I J K L vo vr vt D (Aa n l tc) (Aa r p cc))] w λ e w'=>∃ua uc,e=Aj (Ag #[Ab Al f,Aa ua N uc,Ab Ak dt,Ae nt])/\Hid (gM gR 63 w' (w.heap.size+4) (Aa ua N uc) (jX data qs dt c cids).ps/\Iz w w'):=by
 obtain⟨y,hy⟩:=Xa (jy qs 0)
 obtain⟨W,hW⟩:=Xa (((w.alloc (Ai (iO k (Aa da dn dc) F (Aa qa qn qc) nm dt kp) 69)).alloc (Ai (nR G vs vf M I J K L vo vr vt D (Aa n l tc) (Aa r p cc)) 37)).alloc (Ai #[Ab Al 0,Aa none 0 0,Ab Ak 0,Ae ⟨#[]⟩] 104))
 have bW:Iz w W:=by rw[<- hW];exact nC _ _ _ _
 have h:Hid (gT W w.heap.size 69 (iO k (Aa da dn dc) F (Aa qa qn qc) nm dt kp)/\gT W (w.heap.size+1) 37 (nR G vs vf M I J K L vo vr vt D (Aa n l tc) (Aa r p cc))/\gT W (w.heap.size+2) 104 #[Ab Al 0,Aa none 0 0,Ab Ak 0,Ae ⟨#[]⟩]/\Iz w W):=by
  rw[<- hW];exact MN _ _ _ _ _ _ _
 have P:Hid (Iz W W.drew):=(Ao _ _).drew;have Q:Hid (Iz W (W.alloc (Ai #[Ab Al 0,Aa none 0 0,Ab Ak 0,Ae ⟨#[]⟩] 104)).drew):=(gW W _).drew;have aa:Hid (Iz W (W.alloc (Ai #[Ab Al f,Aa none 0 0,Ab Ak dt,Ae nt] 104)).drew):=(gW W _).drew
 have t:∀u,Iz W u->Iz w u:=λ u b=>bW.trans (b.mono bW.size)
 have KS:Hid (∀u,Iz W u->u.cell? ⟨w.heap.size,1,none⟩=some (Aa da dn dc)/\u.cell? ⟨w.heap.size,3,none⟩=some (Aa qa qn qc)/\u.cell? ⟨w.heap.size,5,none⟩=some (Ab Ak dt)/\u.cell? ⟨w.heap.size+1,12,none⟩=some (Aa n l tc)/\(Cx 24 9 (Aa da dn dc)).run Am u=.ok (Ae nt) u):=by
  intro u b;have b1:=h.o.1.below b h.o.1.lt;have b2:=h.o.2.1.below b h.o.2.1.lt;refine⟨b1.cell (j:=1) rfl,b1.cell (j:=3) rfl,b1.cell (j:=5) rfl,b2.cell (j:=12) rfl,?_⟩;rw[Ga (hd.below (t u b)),af]
 have P1:Hid (∀u,Iz W u->At Am 57 #[Aa qa qn qc,Ab Ak 0] u λ e w'=>e=Aj (Ab Ak y)/\w'=u):=λ u C=>K0 (hq.below (t u C)) T (by omega) 0 y hy
 have P2:Hid (∀u,Iz W u->At Am 56 #[Aa n l tc,Ab Ak y] u λ e w'=>e=Aj (Ab Al f)/\w'=u):=λ u C=>KW (s.below (t u C)) ag ah y f (by rw[<- ai,<- hy];rfl)
 have H:Hid (gQ encI w qa qs/\qs.length=qn/\gQ gR w r cids/\cids.length=p/\(jX data qs dt c cids).ps=qs.tail.map (iI cids)):=⟨hq,T,hc,ad,rfl⟩
 clear hq T hc ad hd hy ai s ag ah af t;go_enter func52,ntmps52
 go_upto_region 1 with fail
 have HW:Hid (((w.alloc (Ai (iO k (Aa da dn dc) F (Aa qa qn qc) nm dt kp) 69)).alloc (Ai (nR G vs vf M I J K L vo vr vt D (Aa n l tc) (Aa r p cc)) 37)).alloc (Ai #[Ab Al 0,Aa none 0 0,Ab Ak 0,Ae ⟨#[]⟩] 104)=W):=hW;have n0:=h.o.1.cell (j:=1) rfl;have n1:=h.o.1.cell (j:=3) rfl;have n2:=h.o.1.cell (j:=5) rfl;have n3:=h.o.2.1.cell (j:=12) rfl;have l0:=h.o.1.lt;have l1:=h.o.2.1.lt;clear hW
 have HY:Hid (gT (W.alloc (Ai #[Ab Al f,Aa none 0 0,Ab Ak dt,Ae nt] 104)).drew w.heap.size 69 (iO k (Aa da dn dc) F (Aa qa qn qc) nm dt kp)/\gT (W.alloc (Ai #[Ab Al f,Aa none 0 0,Ab Ak dt,Ae nt] 104)).drew (w.heap.size+1) 37 (nR G vs vf M I J K L vo vr vt D (Aa n l tc) (Aa r p cc))/\gT (W.alloc (Ai #[Ab Al f,Aa none 0 0,Ab Ak dt,Ae nt] 104)).drew (w.heap.size+1+1) 104 #[Ab Al 0,Aa none 0 0,Ab Ak 0,Ae ⟨#[]⟩]/\gT (W.alloc (Ai #[Ab Al f,Aa none 0 0,Ab Ak dt,Ae nt] 104)).drew W.heap.size 104 #[Ab Al f,Aa none 0 0,Ab Ak dt,Ae nt]/\gM gR 63 (W.alloc (Ai #[Ab Al f,Aa none 0 0,Ab Ak dt,Ae nt] 104)).drew (w.heap.size+4) (Aa none 0 0) []/\Iz w (W.alloc (Ai #[Ab Al f,Aa none 0 0,Ab Ak dt,Ae nt] 104)).drew):=by
  have C:=aa.o;exact⟨h.o.1.below C h.o.1.lt,h.o.2.1.below C h.o.2.1.lt,h.o.2.2.1.below C h.o.2.2.1.lt,gT.new W _ _,gM.nil _ _ _ _,h.o.2.2.2.trans (C.mono h.o.2.2.2.size)⟩
 go_cut[5] (λ zv u=>zv=Ah (some ⟨W.heap.size,0,none⟩)/\Hid (gT u w.heap.size 69 (iO k (Aa da dn dc) F (Aa qa qn qc) nm dt kp)/\gT u (w.heap.size+1) 37 (nR G vs vf M I J K L vo vr vt D (Aa n l tc) (Aa r p cc))/\gT u (w.heap.size+1+1) 104 #[Ab Al 0,Aa none 0 0,Ab Ak 0,Ae ⟨#[]⟩]/\gT u W.heap.size 104 #[Ab Al f,Aa none 0 0,Ab Ak dt,Ae nt]/\gM gR 63 u (w.heap.size+4) (Aa none 0 0) []/\Iz w u))
 case first =>
  have ao:W.drew.cell? ⟨w.heap.size,1,none⟩=some (Aa da dn dc)/\W.drew.cell? ⟨w.heap.size,3,none⟩=some (Aa qa qn qc)/\W.drew.cell? ⟨w.heap.size,5,none⟩=some (Ab Ak dt)/\W.drew.cell? ⟨w.heap.size+1,12,none⟩=some (Aa n l tc)/\(Cx 24 9 (Aa da dn dc)).run Am W.drew=.ok (Ae nt) W.drew:=KS.o _ P.o;have ap:(W.alloc (Ai #[Ab Al 0,Aa none 0 0,Ab Ak 0,Ae ⟨#[]⟩] 104)).drew.cell? ⟨w.heap.size,1,none⟩=some (Aa da dn dc)/\(W.alloc (Ai #[Ab Al 0,Aa none 0 0,Ab Ak 0,Ae ⟨#[]⟩] 104)).drew.cell? ⟨w.heap.size,3,none⟩=some (Aa qa qn qc)/\(W.alloc (Ai #[Ab Al 0,Aa none 0 0,Ab Ak 0,Ae ⟨#[]⟩] 104)).drew.cell? ⟨w.heap.size,5,none⟩=some (Ab Ak dt)/\(W.alloc (Ai #[Ab Al 0,Aa none 0 0,Ab Ak 0,Ae ⟨#[]⟩] 104)).drew.cell? ⟨w.heap.size+1,12,none⟩=some (Aa n l tc)/\(Cx 24 9 (Aa da dn dc)).run Am (W.alloc (Ai #[Ab Al 0,Aa none 0 0,Ab Ak 0,Ae ⟨#[]⟩] 104)).drew=.ok (Ae nt) (W.alloc (Ai #[Ab Al 0,Aa none 0 0,Ab Ak 0,Ae ⟨#[]⟩] 104)).drew:=KS.o _ Q.o;have aq:(W.alloc (Ai #[Ab Al f,Aa none 0 0,Ab Ak dt,Ae nt] 104)).drew.cell? ⟨w.heap.size,1,none⟩=some (Aa da dn dc)/\(W.alloc (Ai #[Ab Al f,Aa none 0 0,Ab Ak dt,Ae nt] 104)).drew.cell? ⟨w.heap.size,3,none⟩=some (Aa qa qn qc)/\(W.alloc (Ai #[Ab Al f,Aa none 0 0,Ab Ak dt,Ae nt] 104)).drew.cell? ⟨w.heap.size,5,none⟩=some (Ab Ak dt)/\(W.alloc (Ai #[Ab Al f,Aa none 0 0,Ab Ak dt,Ae nt] 104)).drew.cell? ⟨w.heap.size+1,12,none⟩=some (Aa n l tc)/\(Cx 24 9 (Aa da dn dc)).run Am (W.alloc (Ai #[Ab Al f,Aa none 0 0,Ab Ak dt,Ae nt] 104)).drew=.ok (Ae nt) (W.alloc (Ai #[Ab Al f,Aa none 0 0,Ab Ak dt,Ae nt] 104)).drew:=KS.o _ aa.o
  go_region_held3 (λ u=>u.cell? ⟨w.heap.size,1,none⟩=some (Aa da dn dc)/\u.cell? ⟨w.heap.size,3,none⟩=some (Aa qa qn qc)/\u.cell? ⟨w.heap.size,5,none⟩=some (Ab Ak dt)/\u.cell? ⟨w.heap.size+1,12,none⟩=some (Aa n l tc)/\(Cx 24 9 (Aa da dn dc)).run Am u=.ok (Ae nt) u)
   (first | with_reducible exact ao | with_reducible exact ap | with_reducible exact aq)
   (first
    | (go_at_call 57;(with_reducible refine(P1.o _ P.o).mono ?_);rintro e X ⟨rfl,d⟩;rw[d];clear d X)
    | (go_at_call 57;(with_reducible refine(P1.o _ Q.o).mono ?_);rintro e X ⟨rfl,d⟩;rw[d];clear d X)
    | (go_at_call 56;(with_reducible refine(P2.o _ P.o).mono ?_);rintro e X ⟨rfl,d⟩;rw[d];clear d X)
    | (go_at_call 56;(with_reducible refine(P2.o _ Q.o).mono ?_);rintro e X ⟨rfl,d⟩;rw[d];clear d X))
  all_goals
   go_wp2_with fail;go_meet;exact⟨rfl,HY.o⟩
 case rest =>
  obtain⟨rfl,HX⟩:=hcut
  have EW:Hid (W.heap.size=w.heap.size+3):=by
   show W.heap.size=w.heap.size+3;rw[<- HW.o];simp
  clear n0 n1 n2 n3;go_wp2_with fail;go_loopg[6] (qn - 1) (λ m iv wr=>∃(i j:Nat) (E:Option Addr) (lc:Nat),iv=Ab Ak i/\i=j+1/\j+m=qn - 1/\Hid (gT wr w.heap.size 69 (iO k (Aa da dn dc) F (Aa qa qn qc) nm dt kp)/\gT wr (w.heap.size+1) 37 (nR G vs vf M I J K L vo vr vt D (Aa n l tc) (Aa r p cc))/\gT wr (w.heap.size+1+1) 104 #[Ab Al 0,Aa none 0 0,Ab Ak 0,Ae ⟨#[]⟩]/\gT wr W.heap.size 104 #[Ab Al f,Aa E j lc,Ab Ak dt,Ae nt]/\gM gR 63 wr (w.heap.size+4) (Aa E j lc) ((qs.tail.take j).map (iI cids))/\Iz w wr))
  case atStart=>exact⟨1,0,none,0,rfl,rfl,by omega,HX.o⟩
  case round =>
   obtain⟨i,j,E,lc,rfl,A,hi,a⟩:=hrel;have x3:=a.o.1.cell (j:=3) rfl;by_cases ak:i<qn
   ·have id:(i:Int)<(qn:Int):=by omega
    have ax:(0:Int)<=(i:Int):=by omega
    obtain⟨x,hx⟩:=BK H.o.2.1 ak;obtain⟨b,off,rfl,ae⟩:=H.o.1.some_of hx;have c0:=(H.o.1.below a.o.2.2.2.2.2).ints hx;have ar:b<wr.heap.size:=AK ae a.o.2.2.2.2.2.size;have y5:=a.o.2.1.cell (j:=13) rfl;have z1:=a.o.2.2.2.1.cell (j:=1) rfl;have am:=a.o.2.2.2.1.lt
    have aw:w.heap.size+4<=wr.heap.size:=by have:=EW.o;omega
    have ab:Hid (i=j+1/\j+gk=qn - 1):=⟨A,hi⟩
    obtain⟨z,hz⟩:=Xa (iI cids x)
    obtain⟨O,V⟩:∃O:Int,(z.toNat:Int)=O:=⟨_,rfl⟩
    have U:=Z9 (cids:=cids) (i:=i) (by omega) hx;rw[show i - 1=j by omega,hz]at U
    have hj:((qs.tail.take j).map (iI cids)).length=j:=by
     rw[A4,List.length_take,Gh,H.o.2.1];omega
    have HS:Hid ((qs.tail.take i).map (iI cids)=(qs.tail.take j).map (iI cids)++[z]/\((qs.tail.take j).map (iI cids)).length=j/\((qs.tail.take j).map (iI cids)++[z]).length=i):=⟨U,hj,by rw[Ax,hj,A];rfl⟩
    have P3:Hid (At Am 56 #[Aa r p cc,Ab Ak x] wr.drew λ e w'=>e=Aj (Ab Al O)/\w'=wr.drew):=KW (H.o.2.2.1.below a.o.2.2.2.2.2.drew) H.o.2.2.2.1 aj x O (by rw[hz,V])
    have HC:Hid (∀j u,(gR.cells z)[j]? = some u->(wr.drew.alloc (Ai #[Ab Al O] 63)).cell? ((⟨wr.heap.size,0,none⟩:Addr).add j)=some u):=by
     have:=GQ gR wr.drew z 63;rw[show(gR.cells z).toArray=#[Ab Al O]from(by show #[Ab Al (z.toNat:Int)]=_;rw[V])]at this;exact this
    have ay:=(a.o.2.2.2.1.below (gW wr (Ai #[Ab Al O] 63)) am).cell (j:=1) rfl
    have au:(j+1)*8<=140737488355328:=by omega
    clear hx hz V U hj ae A hi;go_wp2_with fail
    go_region_law
     (first
      | (refine Jt rfl (.tmp 29) (.tmp 34) 56 #[35,3] rfl L7 (Aa r p cc) (Ab Ak x) (Ab Al O) (by simp[Act.eval]) (by simp[Act.eval]) P3.o ?_)
      | (refine Ix gR 63 35 8 _ rfl Tryz.info63 underlying35 rfl (.tmp 27) (.tmp 36) rfl (w.heap.size+4) (Aa E j lc) ((qs.tail.take j).map (iI cids)) z (by simp[Act.eval]) (a.o.2.2.2.2.1.below ((Ao _ wr).drew.trans (gW wr.drew _))) wr.heap.size (by simp[Act.eval]) HC.o (by rw[HS.o.2.1];omega) (by rw[HS.o.2.1];simp only[AH];omega) (by simp;omega) ?_;intro v5 Z R ac al an;obtain⟨a5,Y,e5,_,_,_,_⟩:=gM.form R;rw[HS.o.2.2]at e5;subst e5;have B:Hid (gM gR 63 Z (w.heap.size+4) (Aa a5 i Y) ((qs.tail.take j).map (iI cids)++[z])/\An (w.heap.size+4) wr Z):=⟨R,((gW wr _).drew.mono (by omega)).trans ac⟩;have Z5:=a.o.2.2.2.1.below B.o.2 (by have:=EW.o;omega);have z5:=Z5.cell (j:=1) rfl;have g5:=Z5.thaw 1;clear Z5 R ac al an)
      | fail)
    all_goals
     have HO:Hid (∀S:Ap,S=Z.setCell ⟨W.heap.size,1,none⟩ (Aa a5 i Y)->gT S w.heap.size 69 (iO k (Aa da dn dc) F (Aa (some ⟨b,off,none⟩) qn qc) nm dt kp)/\gT S (w.heap.size+1) 37 (nR G vs vf M I J K L vo vr vt D (Aa n l tc) (Aa r p cc))/\gT S (w.heap.size+1+1) 104 #[Ab Al 0,Aa none 0 0,Ab Ak 0,Ae ⟨#[]⟩]/\gT S W.heap.size 104 #[Ab Al f,Aa a5 i Y,Ab Ak dt,Ae nt]/\gM gR 63 S (w.heap.size+4) (Aa a5 i Y) ((qs.tail.take i).map (iI cids))/\Iz w S):=by
      rintro S rfl;have eW:=EW.o;have s:Aw (λ k=>k=W.heap.size) Z (Z.setCell ⟨W.heap.size,1,none⟩ (Aa a5 i Y)):=BR 1 _;refine⟨(a.o.1.below B.o.2 (by omega)).turned s (by show ¬w.heap.size=W.heap.size;omega),(a.o.2.1.below B.o.2 (by omega)).turned s (by show ¬w.heap.size+1=W.heap.size;omega),(a.o.2.2.1.below B.o.2 (by omega)).turned s (by show ¬w.heap.size+1+1=W.heap.size;omega),(a.o.2.2.2.1.below B.o.2 (by omega)).put 1 _,?_,?_⟩
      ·rw[HS.o.1];exact B.o.1.stays s (λ g hg q=>by have:=(B.o.1.lt g hg).1;have q':g=W.heap.size:=q;omega)
      ·have b1:Iz w Z:=a.o.2.2.2.2.2.trans (B.o.2.mono (by omega));exact b1.trans (s.below b1.size (λ k hk q=>by have q':k=W.heap.size:=q;omega))
     go_wp2;go_roundg (gk - 1)
     case measure=>have:=ab.o;omega
     case rel=>exact⟨i+1,i,a5,Y,by go_num,rfl,by have:=ab.o;omega,HO.o _ rfl⟩
   ·have ej:(qs.tail.take j).map (iI cids)=(jX data qs dt c cids).ps:=by
     rw[H.o.2.2.2.2,Av (by rw[Gh,H.o.2.1];omega)]
    have eN:j=N:=by
     rw[<- hN,H.o.2.2.2.2,A4,Gh,H.o.2.1];omega
    subst eN
    have HH:Hid (gM gR 63 wr (w.heap.size+4) (Aa E j lc) (jX data qs dt c cids).ps):=by
     have:=a.o.2.2.2.2.1;rw[ej]at this;exact this
    have y0:=a.o.2.2.2.1.cell (j:=0) rfl;have y1:=a.o.2.2.2.1.cell (j:=1) rfl;have y2:=a.o.2.2.2.1.cell (j:=2) rfl;have y3:=a.o.2.2.2.1.cell (j:=3) rfl;have z0:=a.o.2.2.1.cell (j:=0) rfl;have z1:=a.o.2.2.1.cell (j:=1) rfl;have z2:=a.o.2.2.1.cell (j:=2) rfl;have z3:=a.o.2.2.1.cell (j:=3) rfl;have f0:=a.o.2.2.1.thaw 0;have f1:=a.o.2.2.1.thaw 1;have f2:=a.o.2.2.1.thaw 2;have f3:=a.o.2.2.1.thaw 3
    have id:¬(i:Int)<(qn:Int):=by omega
    clear ej hN A hi;go_wp2;refine As (v:=Ag #[Ab Al f,Aa E j lc,Ab Ak dt,Ae nt]) ?_ rfl ?_
    ·simp[AI,Tryz.f52];go_simp
    ·have s:=GR wr (w.heap.size+1+1) (Ab Al f) (Aa E j lc) (Ab Ak dt) (Ae nt);have o:=HH.o.stays s (λ g hg q=>by have:=(HH.o.lt g hg).1;have q':g=w.heap.size+1+1:=q;omega);exact⟨E,lc,rfl,o,a.o.2.2.2.2.2.trans (s.below a.o.2.2.2.2.2.size (λ k hk q=>by have q':k=w.heap.size+1+1:=q;omega))⟩
end Go.Proofs.YtakgkgmopmcecaaGreat
namespace Go.Proofs.YtakgkgmopmcecaaGreat
open Go.RowKit Go.Maps
variable {F G S:Nat->Prop}{H b base cap g i j k n s:Nat}{K:Act->Ap->Prop}{Q:Exit->Act->Ap->Prop}{W u u' w w0 wS wr:Ap}{X:Prop}{a:Act}{bs p:Bs}{cids:List UInt64}{cs:Array Ar}{d':Dk}{m:Int}{ops:Array Oper}{qs:List Int}{rest:List Oper}{t:AP}{v:Ar}{α:Type}
section
variable {S:Nat->Prop}{w:World}{b m:Nat}{f:Bs->Option Value}{a k:Int}{d:Dk}
section
variable {wr:World}{c m2 r:Nat}{D:DataW Value}{left:Lit->Bool}{cnt:Nat}{f2:Bs->Option Value}{n2:Nat}
end
end
end Go.Proofs.YtakgkgmopmcecaaGreat
namespace Go.Proofs.YtakgkgmopmcecaaGreat
open Go.RowKit
variable {F G S:Nat->Prop}{H b base cap g i j k n s:Nat}{K:Act->Ap->Prop}{Q:Exit->Act->Ap->Prop}{W u u' w w0 wS wr:Ap}{X:Prop}{a:Act}{bs p:Bs}{cids:List UInt64}{cs:Array Ar}{d':Dk}{m:Int}{ops:Array Oper}{qs:List Int}{rest:List Oper}{t:AP}{v:Ar}{α:Type}
theorem Dk.ok0:lM.ok:=⟨List.Pairwise.nil,(by decide),(by intro f h;cases h),(by decide)⟩
abbrev iS(s b:Nat)(d:Dk)(vf vo vr vt bv tv cv:Ar):Array Ar:=nR (Ah (some ⟨b,0,none⟩)) (Ah (some ⟨s,0,none⟩)) vf (d.writes:Int) d.armed d.dead (d.after:Int) (d.keep:Int) vo vr vt bv tv cv
def jG(w:Ap)(Q:Nat):List Ar->Nat->Ap
 | [],_=>w
 | v::t,j=>jG (w.setCell ⟨Q,j,none⟩ v) Q t (j+1)
theorem De(Q:Nat)(vs:List Ar)(j:Nat):Aw (λ i=>i=Q) W (jG W Q vs j):=by
 induction vs generalizing W j with
 | nil=>exact Aw.refl _ _
 | cons v t a=>exact(BR (b:=Q) j v).trans (a (j+1)) (λ i _ q=>q)
theorem fi{a e c:Ap}(h:jK a s b mH lM (λ i=>w.heap.size<i/\i<a.heap.size))(f:Iz w a)(d:Aw (λ i=>i=w.heap.size) a e)(b4:Iz e c):jK c s b mH lM (λ i=>w.heap.size<=i/\i<c.heap.size)/\Iz w c:=by
 have bt:=f.trans (d.below f.size (λ i hi q=>by have g:=q;omega));have s3:=b4.size;have j:=d.size;refine⟨((h.stays d (λ i hi q=>?_)).below b4).mono (λ i hi=>?_) (λ i hi=>hi.2),bt.trans (b4.mono bt.size)⟩
 have g:=q;omega
 omega
theorem YU(w:Ap):
  At Am 18 #[] w λ e w'=>∃s b,e=Aj (Af #[Ag (iS s b lM gU gU gU gU gU gU gU),Ad true])/\Hid (jK w' s b mH lM (λ i=>w.heap.size<=i/\i<w'.heap.size)/\An w.heap.size w w'):=by
 obtain⟨W,J⟩:=Xa (w.alloc (Ai #[Ah none,Ah none,gU,Ab Ak 0,Ad false,Ad false,Ab Ak 0,Ab Ak 0,gU,gU,gU,gU,gU,gU] 37))
 have c:Hid (gT W w.heap.size 37 #[Ah none,Ah none,gU,Ab Ak 0,Ad false,Ad false,Ab Ak 0,Ab Ak 0,gU,gU,gU,gU,gU,gU]/\An w.heap.size w W):=by
  (try unfold Iz at *);rw[<- J];exact⟨gT.new _ _ _,gW _ _⟩
 have j:=λ w1=>UH w1
 have m:Hid (∀w1,At Am 45 #[Ag #[gU,Ab Ak 0,Ad false,Ad false,Ab Ak 0,Ab Ak 0]] w1 λ e w'=>e=Aj (Af #[Ag #[gU,Ab Ak 0,Ad false,Ad false,Ab Ak 0,Ab Ak 0,gU,gU,gU],Ab Ak 0])/\An w1.heap.size w1 w'):=j;clear j;go_enter func18,ntmps18;go_wp2_with fail;refine(Uq W).mono ?_;rintro e w1 ⟨b,rfl,g,b1⟩
 have a:Hid (D7 w1 b lM (λ i=>W.heap.size<=i/\i<w1.heap.size)/\An W.heap.size W w1):=⟨g,b1⟩
 clear g b1;go_wp2_with fail;have h:=XG a.o.1;refine h.mono ?_;rintro e k ⟨E,u,(⟨_,s,rfl,D⟩ | ⟨r,rfl,A⟩)⟩
 ·have n:Hid (Aw (λ i=>W.heap.size<=i/\i<w1.heap.size) w1 k/\An W.heap.size W k):=by
   have t:=u.o.2.2;exact⟨t,a.o.2.trans (t.below a.o.2.size (λ i hi q=>by have:=q.1;omega))⟩
  clear h;go_wp2_with fail;refine(m.o k).mono ?_;rintro e f ⟨rfl,d⟩;have P:Hid (An k.heap.size k f):=d
  have l:Hid (jK f s b mH lM (λ i=>w.heap.size<i/\i<f.heap.size)/\An W.heap.size W f):=by
   have p:=n.o.2.trans (d.mono n.o.2.size);obtain⟨S,y,z⟩:=D.o;obtain⟨C,K,l3⟩:=u.o;have Q:w.heap.size<W.heap.size:=c.o.1.lt;have s1:=a.o.2.size;have s2:=n.o.1.size;have s3:=d.size;refine⟨⟨S,E,y.below d,C.below d,λ i hi=>(z i hi).2,λ i hi=>?_,λ i hi=>hi.2⟩,p⟩
   rcases hi with q|q
   ·have:=(z i q).1;have:=y.lt i q;omega
   ·have:=C.lt i q
    rcases K i q with r|r <;> omega
  clear d;have x:=c.o.1.below l.o.2 c.o.1.lt;obtain⟨x0,x1,x2,x3,x4,x5,x6,x7,x8,x9,L,M,N,O⟩:=x.c14;obtain⟨R,T,f2,U,V,X,Y,Z,f8,f9,F,G,H,I⟩:=x.t14;clear x
  have l0:w.heap.size<f.heap.size:=by have:=c.o.1.lt;have:=l.o.2.size;omega
  go_wp2;refine As (v:=Af #[Ag #[Ah (some ⟨b,0,none⟩),Ah (some ⟨s,0,none⟩),gU,Ab Ak 0,Ad false,Ad false,Ab Ak 0,Ab Ak 0,gU,gU,gU,gU,gU,gU],Ad true]) ?_ rfl ⟨s,b,rfl,?_⟩
  ·simp[AI,Tryz.f18];go_simp
  ·have B:=De (W:=f) w.heap.size [Ah (some ⟨b,0,none⟩),Ah (some ⟨s,0,none⟩),gU,Ab Ak 0,Ad false,Ad false,Ab Ak 0,Ab Ak 0,gU,gU,gU,gU,gU,gU] 0;simp only[jG,Cv]at B;exact fi l.o.1 (c.o.2.trans (l.o.2.mono c.o.2.size)) B (gW _ _)
 ·exact absurd A.o.1.symm A.o.2
def kd:Dk:=(jk mH lM [120]).1.2
theorem hid{p:Prop}(h:p):Hid p:=h
theorem dD{e:AP}{size m:Nat}{xs a:List Ar}(j:xs.length=n*size)(h:w.ownsRow base e size (Aa (some ⟨g,0,none⟩) (n+m) cap) (n+m) (xs++a)):w.ownsRow base e size (Aa (some ⟨g,0,none⟩) n cap) n xs:=by
 refine⟨j,?_⟩
 rcases h.2 with⟨e,_⟩ | ⟨p,i,c,e,k,l,o,d,f,b⟩
 cases e
 cases e;refine .inr ⟨g,cap,c,rfl,k,l,by omega,d,f,?_⟩
 have:(c.toList.take ((n+m)*size)).take (n*size)=(xs++a).take (n*size):=by rw[b]
 rw[List.take_take,Nat.min_eq_left (Nat.mul_le_mul_right _ (by omega)),List.take_left' j]at this;exact this
section
variable {P:Program}(w:World)
theorem Zv(base:Nat)(t ty e:AP)(i:TypeInfo)(z:Ar)(size f:Nat)(M:P.underlying t=some (.slice e))(hi:P.info? e=some i)(O:i.zero=some z)
  (o:i.size=size) (C:i.bytes=f) (E:z.cells.size=size) (D:0<size)
  (v:Ar) (n:Nat) (xs:List Ar) (d:w.ownsRow base e size v n xs)
  (a:Addr) (m c:Nat) (b:List Ar) (K:b.length=m*size) (l:∀j u,b[j]? = some u->w.cell? (a.add j)=some u) (N:∀u∈b,u.oneCell'=true)
  (B:n+m<=AH) (p:(n+m)*f<=140737488355328) (r:base<=w.heap.size) :
  ∃v' w',(Builtin.append_ #[t,t] ty #[v,Aa (some a) m c]).run P w=.ok v' w'/\w'.ownsRow base e size v' (n+m) (xs++b)/\w.grownBy w' v.ownBlock/\Dw w v v'/\w'.ownsRow base e size v n xs:=by
 have q:∀{v':Ar} {w':Ap},w'.ownsRow w.heap.size e size v' (n+m) (xs++b)->Dw w v v':=λ h=>.inr (λ g G=>(h.lt g G).1)
 rcases d.2 with⟨rfl,rfl⟩ | ⟨g,cap,H,rfl,Q,G,L,I,J,A⟩
 have S:xs=[]:=AQ (by simpa using d.1);subst S;obtain⟨v',w',F,x,s,_⟩:=run_append_own (P:=P) w w.heap.size t ty e i z size f M hi O o C E D (Aa none 0 0) 0 [] (World.ownsRow_nil w _ e size) a m c b K l N B p (AA _);exact⟨v',w',F,Jb x r,s,q x,World.ownsRow_nil w' _ e size⟩
 by_cases y:n+m<=cap
 obtain⟨w',F,x,s⟩:=run_append_fits (P:=P) w base t ty e i size M hi o g n cap xs d a m c b K l N y;exact⟨_,w',F,x,s,.inl rfl,dD d.1 x⟩
 obtain⟨v',w',F,x,s⟩:=run_append_arg_grows (P:=P) w t ty e i z size f M hi O o C E D ⟨g,0,none⟩ n cap xs d.1 (d.cells rfl) a m c b K l (by omega) B p;refine⟨v',w',F,Jb x r,⟨s.os,s.tape,s.output,s.size,λ k R _=>s.block k R (by simp)⟩,q x,d.1,.inr ⟨g,cap,H,rfl,Q,?_,L,I,J,A⟩⟩;rw[s.block g (Array.getElem?_eq_some_iff.1 G).1 (by simp)];exact G
end
theorem UY{P:Program}{o:Oper}(p:o.guard=none)(s x:CG)(t:AP)
  (q:o.op=.call { callee:=.builtin .append,args:=#[s,x],argTypes:=#[t,t] })
  (base:Nat) (e:AP) (i:TypeInfo) (z:Ar) (size d:Nat) (y:P.underlying t=some (.slice e)) (A:P.info? e=some i) (B:i.zero=some z) (C:i.size=size) (D:i.bytes=d) (E:z.cells.size=size) (F:0<size)
  (v:Ar) (n:Nat) (xs:List Ar) (J:a.eval s=v) (f:w.ownsRow base e size v n xs)
  (k:Addr) (m c:Nat) (b:List Ar) (L:a.eval x=Aa (some k) m c) (I:b.length=m*size) (H:∀j u,b[j]? = some u->w.cell? (k.add j)=some u) (l:∀u∈b,u.oneCell'=true)
  (b1:n+m<=AH) (b2:(n+m)*d<=140737488355328) (r:base<=w.heap.size)
  (h:∀v' w',w'.ownsRow base e size v' (n+m) (xs++b)->w.grownBy w' v.ownBlock->Dw w v v'->w'.ownsRow base e size v n xs->CQ P ops Q rest (a.put o.dst v') w'):CQ P ops Q (o::rest) a w:=by
 refine wpList_plain p λ K G=>?_
 obtain⟨v',w',g,M,N,O,R⟩:=Zv (P:=P) w base t o.type e i z size d y A B C D E F v n xs f k m c b I H l b1 b2 r;unfold Cs;simp[CP,q,DA,DS,builtin,J,L,g,Result.andThen];exact G _ _ (h v' w' M N O R)
theorem OB{o:Oper}(E:ju α)(e t:AP)(b:Nat)(z:Ar)(O:z.cells.size=E.size)
  (d:(Am.info? e).map (λ i=>(i.zero,i.size,i.bytes))=some (some z,E.size,b)) (M:Am.underlying t=some (.slice e)) (n:o.guard=none) (s x:CG)
  (r:o.op=.call { callee:=.builtin .append,args:=#[s,x],argTypes:=#[t,t] }) (base:Nat) (v:Ar) (f:List α) (y:α) (ty:AP) (K:a.eval s=v) (m:gM E e w base v f)
  (N:a.eval x=Aa (some ⟨w.heap.size,0,none⟩) 1 1) (j:(f.length+1)*b<=140737488355328) (l:f.length+1<=AH) (P:base<=w.heap.size) (c:Array Ar) (I:c=(E.cells y).toArray)
  (h:∀v' w',gM E e w' base v' (f++[y])->gM E e w' base v f->Dw w v v'->Aw (λ k=>v.ownBlock=some k) w w'->CQ Am ops Q rest (a.put o.dst v') w') :
  CQ Am ops Q (o::rest) a (w.alloc (Ai c ty)):=by
 subst I;obtain⟨i0,p,u,A,B⟩:=Ch d
 refine UY n s x t r base e i0 _ E.size b M p u A B O E.pos v f.length (E.all f) K (m.below ((Ao _ w).alloc (AA _) _)) ⟨w.heap.size,0,none⟩ 1 1 (E.cells y) N (by rw[E.len,Nat.one_mul]) (GQ E w y ty)
  (E.one y) l j (by simp;omega) ?_
 intro v' w' C D F G;have H:Aw (λ k=>v.ownBlock=some k) w (w.alloc (Ai (E.cells y).toArray ty)):=(Aw.refl _ _).alloc _;have L:Aw (λ k=>v.ownBlock=some k) (w.alloc (Ai (E.cells y).toArray ty)) w':=(Aw.refl _ _).grown D (λ k _ e=>e);refine h v' w' ?_ G ?_ (H.trans L (λ _ _ q=>q))
 unfold gM;rw[Ax,E.all_append];simpa[ju.all]using C
 refine F.imp id (λ q g J=>?_);have:=q g J;simp at this;omega
def Rows(U:Nat->Prop)(xb xt xc:Ar):Nat->Prop:=λ i=>U i∨xb.ownBlock=some i∨xt.ownBlock=some i∨xc.ownBlock=some i
def Zb(F:Nat->Prop)(Z:Nat->Prop):Nat->Prop:=λ i=>Z i∨F i
def Fb(H:Nat):Nat->Prop:=λ i=>H<=i/\i<H+3
structure WI(B:Nat)(E:Nat->Prop)(w:Ap)(s b:Nat)(vf vo vr vt xb xt xc:Ar)(U:Nat->Prop)(st:St)(d:Dk)(bl tl cl:List UInt64):Prop where
 duo:jK w s b st d U
 low:∀i,U i->B<=i
 ref:jh (Zb E (Rows U xb xt xc)) w (rm d vf vo vr vt) st d
 fe:∀i,Rows U xb xt xc i->¬E i
 elt:∀i,E i->i<w.heap.size
 ob:gM gR 63 w B xb bl
 ot:gM gR 63 w B xt tl
 oc:gM gR 63 w B xc cl
 fb:∀g,xb.ownBlock=some g->¬U g
 ft:∀g,xt.ownBlock=some g->¬U g
 fc:∀g,xc.ownBlock=some g->¬U g
 bt:∀g,xb.ownBlock=some g->xt.ownBlock≠some g
 bc:∀g,xb.ownBlock=some g->xc.ownBlock≠some g
 tc:∀g,xt.ownBlock=some g->xc.ownBlock≠some g
section
variable {B:Nat}{E:Nat->Prop}{w w':World}{s b:Nat}{vf vo vr vt xb xt xc:Value}{U:Nat->Prop}{st:St}{d:Dk}{bl tl cl:List UInt64}
theorem WI.lt(h:WI B E w s b vf vo vr vt xb xt xc U st d bl tl cl):∀i,Rows U xb xt xc i->B<=i/\i<w.heap.size:=by
 rintro i (q|q|q|q)
 exact⟨h.low i q,h.duo.lt i q⟩
 exact h.ob.lt i q
 exact h.ot.lt i q
 exact h.oc.lt i q
theorem WI.below(h:WI B E w s b vf vo vr vt xb xt xc U st d bl tl cl)(a:Iz w w'):WI B E w' s b vf vo vr vt xb xt xc U st d bl tl cl :=
 ⟨h.duo.below a,h.low,h.ref.below a,h.fe,λ i q=>AK (h.elt i q) a.size,h.ob.below a,h.ot.below a,h.oc.below a,h.fb,h.ft,h.fc,h.bt,h.bc,h.tc⟩
def mR(W u:Ap)(s b:Nat)(st:St)(d:Dk)(U U':Nat->Prop):Prop:=jK u s b st d U'/\(∀i,U' i->U i∨W.heap.size<=i)/\(∀i,U i->U' i)/\Aw U W u
theorem mR.of{X:Ap}{a:St}(c:Iz W X)(hd:jK u s b a d' (B9 U X u))(d:Aw U X u):mR W u s b a d' U (B9 U X u) :=
 ⟨hd,λ i q=>q.imp id (λ q=>by have:=c.size;have:=q.1;omega),λ i q=>.inl q,(Aw.ofBelow c).trans d (λ _ _ q=>q)⟩
abbrev kO:Array Ar:=#[Ah none,Ah none,gU,Ab Ak 0,Ad false,Ad false,Ab Ak 0,Ab Ak 0,gU,gU,gU,gU,gU,gU]
structure Bx(H:Nat)(u:Ap)(cs ac:Array Ar):Prop where
 box:gT u H 37 cs
 act:gT u (H+1) 69 ac
 res:gT u (H+2) 37 kO
theorem Bx.lt{ac:Array Ar}(h:Bx H u cs ac):H+3<=u.heap.size:=by have:=h.res.lt;omega
theorem Bx.turned{ac:Array Ar}(h:Bx H u cs ac)(b:Aw S u u')(a:∀i,S i->¬(H<=i/\i<H+3)):Bx H u' cs ac :=
 ⟨h.box.turned b (λ q=>a _ q (by omega)),h.act.turned b (λ q=>a _ q (by omega)),h.res.turned b (λ q=>a _ q (by omega))⟩
theorem Bx.below{ac:Array Ar}(h:Bx H u cs ac)(a:Iz u u'):Bx H u' cs ac :=
 ⟨h.box.below a h.box.lt,h.act.below a h.act.lt,h.res.below a h.res.lt⟩
theorem Bx.new(w:Ap)(cs ac:Array Ar):Bx w.heap.size (((w.alloc (Ai cs 37)).alloc (Ai ac 69)).alloc (Ai kO 37)) cs ac:=by
 have h:=MN w cs ac kO 37 69 37;exact⟨h.1,h.2.1,h.2.2.1⟩
structure Md(B H:Nat)(E F:Nat->Prop)(w0 wS u:Ap)(s b:Nat)(vf vo vr vt xb xt xc:Ar)(U:Nat->Prop)(st:St)(d:Dk)(bl tl cl:List UInt64)(cs ac:Array Ar):Prop where
 inv:WI B E u s b vf vo vr vt xb xt xc U st d bl tl cl
 refz:jh (Zb F (Rows U xb xt xc)) u (rm d vf vo vr vt) st d
 bx:Bx H u cs ac
 far:∀i,Rows U xb xt xc i->¬F i
 box:∀i,Fb H i->F i
 flt:∀i,F i->i<u.heap.size
 bel:An B w0 u
 hH:B<=H
 esub:∀i,E i->F i/\i<H
 keep:∀i,E i->u.heap[i]? = wS.heap[i]?
theorem Md.start(h:WI B E w s b vf vo vr vt xb xt xc U st d bl tl cl)(f:An B w0 w)(c:B<=w.heap.size){ac:Array Ar}(e:Bx w.heap.size W cs ac)(a:Iz w W):Md B w.heap.size E (λ i=>Fb w.heap.size i∨E i) w0 w W s b vf vo vr vt xb xt xc U st d bl tl cl cs ac :=
 ⟨h.below a,(h.ref.into (λ i hi q=>by
  rcases q with q|q|q
  exact .inl q;have:=q.1;omega
  exact .inr q)).below a,e,λ i q r=>r.elim (λ r=>by have:=(h.lt i q).2;have:=r.1;omega) (h.fe i q),λ i q=>.inl q,λ i q=>q.elim (λ q=>by have:=e.lt;have:=q.2;omega) (λ q=>AK (h.elt i q) a.size),f.trans (a.mono c),c,λ i q=>⟨.inr q,h.elt i q⟩,λ i q=>a.block i (h.elt i q)⟩
theorem Md.below{ac:Array Ar}(h:Md B H E F w0 wS u s b vf vo vr vt xb xt xc U st d bl tl cl cs ac)(a:Iz u u'):Md B H E F w0 wS u' s b vf vo vr vt xb xt xc U st d bl tl cl cs ac :=
 ⟨h.inv.below a,h.refz.below a,h.bx.below a,h.far,h.box,λ i q=>AK (h.flt i q) a.size,h.bel.trans (a.mono (AU h.hH (by have:=h.bx.lt;omega))),h.hH,h.esub,λ i q=>(a.block i (h.flt i (h.esub i q).1)).trans (h.keep i q)⟩
theorem Md.more{ac:Array Ar}(h:Md B H E F w0 wS u s b vf vo vr vt xb xt xc U st d bl tl cl cs ac)(e:Iz u u')(c:∀i,G i->u.heap.size<=i/\i<u'.heap.size):Md B H E (λ i=>F i∨G i) w0 wS u' s b vf vo vr vt xb xt xc U st d bl tl cl cs ac:=by
 have a:=h.below e;refine⟨a.inv,(h.refz.into (λ i hi q=>?_)).below e,a.bx,λ i q r=>?_,λ i q=>.inl (h.box i q),λ i q=>q.elim (a.flt i) (λ q=>(c i q).2),a.bel,h.hH,λ i q=>⟨.inl (h.esub i q).1,(h.esub i q).2⟩,a.keep⟩
 rcases q with q|q|q
 exact .inl q
 exact .inr q
 have:=(c i q).1;omega
 rcases r with r|r
 exact h.far i q r
 have:=(c i r).1;have:=(h.inv.lt i q).2;omega
theorem Md.move{g:Ap}{ac:Array Ar}{e:Nat->Prop}{c:St}{m:Ar}{a:St}{f:Dk}(_:Md B H E F w0 wS W s b vf vo vr vt xb xt xc U st d bl tl cl cs ac)(h:mR W g s b c d' U e)(j:jh (Zb F (Rows U xb xt xc)) W m a f):jh (Zb F (Rows e xb xt xc)) g m a f:=by
 obtain⟨a1,a2,a3,a4⟩:=h;refine(j.into (λ i hi q=>?_)).turned a4 (λ i q=>.inl (.inl (a3 i q)))
 rcases q with(q|q) | q
 ·rcases a2 i q with r|r
  ·exact .inl (.inl r)
  ·omega
 ·exact .inl (.inr q)
 ·exact .inr q
theorem Md.call{f u2:Ap}{ac:Array Ar}{j:Nat->Prop}{k:St}(h:Md B H E F w0 wS W s b vf vo vr vt xb xt xc U st d bl tl cl cs ac)(v:mR W f s b k d' U j):
  jh (Zb F (Rows j xb xt xc)) f (rm d vf vo vr vt) st d/\(∀i,Zb F (Rows j xb xt xc) i->i<f.heap.size)/\Bx H f cs ac/\An B w0 f /\
  ∀l m n o,Iz f u2->jh (Zb F (Rows j xb xt xc)) u2 (rm d' l m n o) k d'->Md B H E F w0 wS u2 s b l m n o xb xt xc j k d' bl tl cl cs ac:=by
 have y:=h.move v h.refz;obtain⟨a1,a2,a3,a4⟩:=v;have t:=a4.size;have I:=h.bx.lt;have p:=h.bx.turned a4 (λ i q r=>h.far i (.inl q) (h.box i r));have b1:An B w0 f:=h.bel.trans (a4.below (AU h.hH (by omega)) (λ i hi q=>by have:=h.inv.low i q;omega));refine⟨y,λ i q=>?_,p,b1,λ l m n o a w=>?_⟩
 rcases q with(q|q) | q
 exact a1.lt i q
 exact AK (h.inv.lt i (.inr q)).2 t
 exact AK (h.flt i q) t
 have u:∀{x:Ar},(∀g,x.ownBlock=some g->¬U g)->(∀g,x.ownBlock=some g->g<W.heap.size)->∀g,x.ownBlock=some g->¬j g:=by
  intro x z A g e r
  rcases a2 g r with r|r
  exact z g e r;have:=A g e;omega
 have C:=λ g e=>(h.inv.ob.lt g e).2
 have G:=λ g e=>(h.inv.ot.lt g e).2
 have D:=λ g e=>(h.inv.oc.lt g e).2
 have c:∀i,Rows j xb xt xc i->¬F i:=by
  rintro i (q|q) r
  rcases a2 i q with q|q
  exact h.far i (.inl q) r;have:=h.flt i r;omega;exact h.far i (.inr q) r
 refine⟨⟨a1.below a,λ i q=>?_,w.mono (λ i q=>q.imp id (λ q=>(h.esub i q).1)),λ i q r=>c i q (h.esub i r).1,λ i q=>AK (h.inv.elt i q) (AU t a.size),(h.inv.ob.stays a4 h.inv.fb).below a,(h.inv.ot.stays a4 h.inv.ft).below a,(h.inv.oc.stays a4 h.inv.fc).below a,u h.inv.fb C,u h.inv.ft G,u h.inv.fc D,h.inv.bt,h.inv.bc,h.inv.tc⟩,w,p.below a,c,h.box,λ i q=>AK (h.flt i q) (AU t a.size),b1.trans (a.mono (AU h.hH (by omega))),h.hH,h.esub,λ i q=>((a.block i (AK (h.flt i (h.esub i q).1) t)).trans (a4.block i (h.flt i (h.esub i q).1) (λ r=>h.far i (.inl r) (h.esub i q).1))).trans (h.keep i q)⟩
 rcases a2 i q with r|r
 exact h.inv.low i r
 have:=h.hH;omega
theorem Md.turn{c ac:Array Ar}(h:Md B H E F w0 wS u s b vf vo vr vt xb xt xc U st d bl tl cl cs ac)(a:Aw G u u')(f:∀i,G i->F i/\H<=i)(l:Bx H u' c ac):Md B H E F w0 wS u' s b vf vo vr vt xb xt xc U st d bl tl cl c ac:=by
 have m:=h.bx.lt;have j:=h.hH
 have ne:∀i,Rows U xb xt xc i->¬G i:=λ i q e=>h.far i q (f i e).1
 have k:=h.refz.turned a (λ i q=>.inr (f i q).1);exact⟨⟨h.inv.duo.stays a (λ i q=>ne i (.inl q)),h.inv.low,k.mono (λ i q=>q.imp id (λ q=>(h.esub i q).1)),h.inv.fe,λ i q=>AK (h.inv.elt i q) a.size,h.inv.ob.stays a (λ g q=>ne g (.inr (.inl q))),h.inv.ot.stays a (λ g q=>ne g (.inr (.inr (.inl q)))),h.inv.oc.stays a (λ g q=>ne g (.inr (.inr (.inr q)))),h.inv.fb,h.inv.ft,h.inv.fc,h.inv.bt,h.inv.bc,h.inv.tc⟩,k,l,h.far,h.box,λ i q=>AK (h.flt i q) a.size,h.bel.trans (a.below (AU j (by omega)) (λ i hi q=>by have:=(f i q).2;omega)),j,h.esub,λ i q=>(a.block i (h.flt i (h.esub i q).1) (λ r=>by have:=(f i r).2;have:=(h.esub i q).2;omega)).trans (h.keep i q)⟩
theorem Md.lay{a ac:Array Ar}(h:Md B H E F w0 wS u s b vf vo vr vt xb xt xc U st d bl tl cl cs ac)(c:Aw (λ i=>i=H) u u')(e:gT u' H 37 a):Md B H E F w0 wS u' s b vf vo vr vt xb xt xc U st d bl tl cl a ac :=
 h.turn c (λ i q=>by have f:=q;exact⟨h.box i ⟨by omega,by omega⟩,by omega⟩) ⟨e,h.bx.act.turned c (by show ¬H+1=H;omega),h.bx.res.turned c (by show ¬H+2=H;omega)⟩
theorem Md.other{ac:Array Ar}(h:Md B H E F w0 wS u s b vf vo vr vt xb xt xc U st d bl tl cl cs ac)(c:Aw G u u')(a:∀i,G i->F i/\H+3<=i):Md B H E F w0 wS u' s b vf vo vr vt xb xt xc U st d bl tl cl cs ac :=
 h.turn c (λ i q=>⟨(a i q).1,by have:=(a i q).2;omega⟩) (h.bx.turned c (λ i q r=>by have:=(a i q).2;omega))
end
def lk(cs:Array Ar):List Ar->Nat->Array Ar
 | [],_=>cs
 | v::t,j=>lk (cs.setIfInBounds j v) t (j+1)
theorem gT.lays{Q:Nat}(h:gT w Q t cs)(vs:List Ar)(j:Nat):gT (jG w Q vs j) Q t (lk cs vs j):=by
 induction vs generalizing w cs j with
 | nil=>exact h
 | cons v t a=>exact a (h.put j v) (j+1)
theorem nx(a0 a1 a2 a3 a4 a5 a6 a7 a8 a9 e a b c n2 f g h i j k l d:Ar):lk #[a0,a1,a2,a3,a4,a5,a6,a7,a8,a9,e,a,b,c] [n2,f,g,h,i,j,k,l,d] 2=#[a0,a1,n2,f,g,h,i,j,k,l,d,a,b,c]:=by simp[lk]
theorem oL(a0 a1 a2 a3 a4 a5 a6 a7 a8 a9 a e b c d:Ar):lk #[a0,a1,a2,a3,a4,a5,a6,a7,a8,a9,a,e,b,c] [d] 11=#[a0,a1,a2,a3,a4,a5,a6,a7,a8,a9,a,d,b,c]:=by simp[lk]
theorem ou(a0 a1 a2 a3 a4 a5 a6 a7 a8 a9 a b e c d:Ar):lk #[a0,a1,a2,a3,a4,a5,a6,a7,a8,a9,a,b,e,c] [d] 12=#[a0,a1,a2,a3,a4,a5,a6,a7,a8,a9,a,b,d,c]:=by simp[lk]
theorem oW(a0 a1 a2 a3 a4 a5 a6 a7 a8 a9 a b c e d:Ar):lk #[a0,a1,a2,a3,a4,a5,a6,a7,a8,a9,a,b,c,e] [d] 13=#[a0,a1,a2,a3,a4,a5,a6,a7,a8,a9,a,b,c,d]:=by simp[lk]
section
variable {B H:Nat}{E F:Nat->Prop}{w0 wS u u':World}{s b:Nat}{vf vo vr vt xb xt xc v':Value}{U:Nat->Prop}{st:St}{d:Dk}{bl tl cl:List UInt64}{cs ac:Array Value}{i:UInt64}
theorem IL(a:Dw u xb v')(Z:Nat->Prop)(b:∀g,xb.ownBlock=some g->Z g):∀g,g<u.heap.size->v'.ownBlock=some g->Z g:=by
 intro g c q
 rcases a with e|e
 exact b g (e.symm.trans q)
 have:=e g q;omega
theorem Md.rowB(h:Md B H E F w0 wS u s b vf vo vr vt xb xt xc U st d bl tl cl cs ac)(n:gM gR 63 u' B v' (bl++[i]))(c:Dw u xb v')(a:Aw (λ k=>xb.ownBlock=some k) u u'):Md B H E F w0 wS u' s b vf vo vr vt v' xt xc U st d (bl++[i]) tl cl cs ac:=by
 have w:=h.bx.lt;have e:=h.hH
 have far:∀j,Rows U v' xt xc j->¬F j:=by
  rintro j (q|q|q) r;exact h.far j (.inl q) r;exact h.far j (.inr (.inl (IL c (λ g=>xb.ownBlock=some g) (λ g q=>q) j (h.flt j r) q))) r;exact h.far j (.inr (.inr q)) r
 have apart:∀{P:Nat->Prop},(∀g,P g->g<u.heap.size)->(∀g,xb.ownBlock=some g->¬P g)->∀g,v'.ownBlock=some g->¬P g:=by
  intro P o t g m p;exact t g (IL c (λ g=>xb.ownBlock=some g) (λ g q=>q) g (o g p) m) p
 have l:jh (Zb F (Rows U v' xt xc)) u' (rm d vf vo vr vt) st d:=by
  have v:=h.refz.into (Z':=λ j=>Zb F (Rows U xb xt xc) j∨Zb F (Rows U v' xt xc) j) (λ j f q=>by
   rcases q with q|(q|q|q) | q
   exact q;exact .inl (.inl q);exact .inl (.inr (.inl (IL c (λ g=>xb.ownBlock=some g) (λ g q=>q) j f q)));exact .inl (.inr (.inr q))
   exact .inr q)
  exact(v.turned a (λ j q=>.inl (.inl (.inr (.inl q))))).mono (λ j q=>.inr q)
 refine⟨⟨h.inv.duo.stays a (λ j q r=>h.inv.fb j r q),h.inv.low,l.mono (λ j q=>q.imp id (λ q=>(h.esub j q).1)),λ j q r=>far j q (h.esub j r).1,λ j q=>AK (h.inv.elt j q) a.size,n,h.inv.ot.stays a (λ g q r=>h.inv.bt g r q),h.inv.oc.stays a (λ g q r=>h.inv.bc g r q),apart (λ g q=>h.inv.duo.lt g q) h.inv.fb,h.inv.ft,h.inv.fc,apart (λ g q=>(h.inv.ot.lt g q).2) h.inv.bt,apart (λ g q=>(h.inv.oc.lt g q).2) h.inv.bc,h.inv.tc⟩,l,h.bx.turned a (λ j q r=>h.far j (.inr (.inl q)) (h.box j r)),far,h.box,λ j q=>AK (h.flt j q) a.size,h.bel.trans (a.below (AU e (by omega)) (λ j f q=>by have:=(h.inv.ob.lt j q).1;omega)),e,h.esub,λ j q=>(a.block j (h.flt j (h.esub j q).1) (λ r=>h.far j (.inr (.inl r)) (h.esub j q).1)).trans (h.keep j q)⟩
theorem Md.rowT(h:Md B H E F w0 wS u s b vf vo vr vt xb xt xc U st d bl tl cl cs ac)(n:gM gR 63 u' B v' (tl++[i]))(c:Dw u xt v')(a:Aw (λ k=>xt.ownBlock=some k) u u'):Md B H E F w0 wS u' s b vf vo vr vt xb v' xc U st d bl (tl++[i]) cl cs ac:=by
 have w:=h.bx.lt;have e:=h.hH
 have far:∀j,Rows U xb v' xc j->¬F j:=by
  rintro j (q|q|q|q) r;exact h.far j (.inl q) r;exact h.far j (.inr (.inl q)) r;exact h.far j (.inr (.inr (.inl (IL c (λ g=>xt.ownBlock=some g) (λ g q=>q) j (h.flt j r) q)))) r;exact h.far j (.inr (.inr (.inr q))) r
 have apart:∀{P:Nat->Prop},(∀g,P g->g<u.heap.size)->(∀g,xt.ownBlock=some g->¬P g)->∀g,v'.ownBlock=some g->¬P g:=by
  intro P o t g m p;exact t g (IL c (λ g=>xt.ownBlock=some g) (λ g q=>q) g (o g p) m) p
 have l:jh (Zb F (Rows U xb v' xc)) u' (rm d vf vo vr vt) st d:=by
  have v:=h.refz.into (Z':=λ j=>Zb F (Rows U xb xt xc) j∨Zb F (Rows U xb v' xc) j) (λ j f q=>by
   rcases q with q|(q|q|q|q) | q
   exact q;exact .inl (.inl q);exact .inl (.inr (.inl q));exact .inl (.inr (.inr (.inl (IL c (λ g=>xt.ownBlock=some g) (λ g q=>q) j f q))));exact .inl (.inr (.inr (.inr q)))
   exact .inr q)
  exact(v.turned a (λ j q=>.inl (.inl (.inr (.inr (.inl q)))))).mono (λ j q=>.inr q)
 refine⟨⟨h.inv.duo.stays a (λ j q r=>h.inv.ft j r q),h.inv.low,l.mono (λ j q=>q.imp id (λ q=>(h.esub j q).1)),λ j q r=>far j q (h.esub j r).1,λ j q=>AK (h.inv.elt j q) a.size,h.inv.ob.stays a (λ g q r=>h.inv.bt g q r),n,h.inv.oc.stays a (λ g q r=>h.inv.tc g r q),h.inv.fb,apart (λ g q=>h.inv.duo.lt g q) h.inv.ft,h.inv.fc,λ g q r=>apart (P:=λ g=>xb.ownBlock=some g) (λ g q=>(h.inv.ob.lt g q).2) (λ g q r=>h.inv.bt g r q) g r q,h.inv.bc,apart (λ g q=>(h.inv.oc.lt g q).2) h.inv.tc⟩,l,h.bx.turned a (λ j q r=>h.far j (.inr (.inr (.inl q))) (h.box j r)),far,h.box,λ j q=>AK (h.flt j q) a.size,h.bel.trans (a.below (AU e (by omega)) (λ j f q=>by have:=(h.inv.ot.lt j q).1;omega)),e,h.esub,λ j q=>(a.block j (h.flt j (h.esub j q).1) (λ r=>h.far j (.inr (.inr (.inl r))) (h.esub j q).1)).trans (h.keep j q)⟩
theorem Md.rowC(h:Md B H E F w0 wS u s b vf vo vr vt xb xt xc U st d bl tl cl cs ac)(n:gM gR 63 u' B v' (cl++[i]))(c:Dw u xc v')(a:Aw (λ k=>xc.ownBlock=some k) u u'):Md B H E F w0 wS u' s b vf vo vr vt xb xt v' U st d bl tl (cl++[i]) cs ac:=by
 have w:=h.bx.lt;have e:=h.hH
 have far:∀j,Rows U xb xt v' j->¬F j:=by
  rintro j (q|q|q|q) r;exact h.far j (.inl q) r;exact h.far j (.inr (.inl q)) r;exact h.far j (.inr (.inr (.inl q))) r;exact h.far j (.inr (.inr (.inr (IL c (λ g=>xc.ownBlock=some g) (λ g q=>q) j (h.flt j r) q)))) r
 have apart:∀{P:Nat->Prop},(∀g,P g->g<u.heap.size)->(∀g,xc.ownBlock=some g->¬P g)->∀g,v'.ownBlock=some g->¬P g:=by
  intro P o t g m p;exact t g (IL c (λ g=>xc.ownBlock=some g) (λ g q=>q) g (o g p) m) p
 have l:jh (Zb F (Rows U xb xt v')) u' (rm d vf vo vr vt) st d:=by
  have v:=h.refz.into (Z':=λ j=>Zb F (Rows U xb xt xc) j∨Zb F (Rows U xb xt v') j) (λ j f q=>by
   rcases q with q|(q|q|q|q) | q
   exact q;exact .inl (.inl q);exact .inl (.inr (.inl q));exact .inl (.inr (.inr (.inl q)));exact .inl (.inr (.inr (.inr (IL c (λ g=>xc.ownBlock=some g) (λ g q=>q) j f q))))
   exact .inr q)
  exact(v.turned a (λ j q=>.inl (.inl (.inr (.inr (.inr q)))))).mono (λ j q=>.inr q)
 refine⟨⟨h.inv.duo.stays a (λ j q r=>h.inv.fc j r q),h.inv.low,l.mono (λ j q=>q.imp id (λ q=>(h.esub j q).1)),λ j q r=>far j q (h.esub j r).1,λ j q=>AK (h.inv.elt j q) a.size,h.inv.ob.stays a (λ g q r=>h.inv.bc g q r),h.inv.ot.stays a (λ g q r=>h.inv.tc g q r),n,h.inv.fb,h.inv.ft,apart (λ g q=>h.inv.duo.lt g q) h.inv.fc,h.inv.bt,λ g q r=>apart (P:=λ g=>xb.ownBlock=some g) (λ g q=>(h.inv.ob.lt g q).2) (λ g q r=>h.inv.bc g r q) g r q,λ g q r=>apart (P:=λ g=>xt.ownBlock=some g) (λ g q=>(h.inv.ot.lt g q).2) (λ g q r=>h.inv.tc g r q) g r q⟩,l,h.bx.turned a (λ j q r=>h.far j (.inr (.inr (.inr q))) (h.box j r)),far,h.box,λ j q=>AK (h.flt j q) a.size,h.bel.trans (a.below (AU e (by omega)) (λ j f q=>by have:=(h.inv.oc.lt j q).1;omega)),e,h.esub,λ j q=>(a.block j (h.flt j (h.esub j q).1) (λ r=>h.far j (.inr (.inr (.inr r))) (h.esub j q).1)).trans (h.keep j q)⟩
theorem Md.done(h:Md B H E F w0 wS u s b vf vo vr vt xb xt xc U st d bl tl cl cs ac)(a:Aw (λ i=>i=H+2) u u'):WI B E u' s b vf vo vr vt xb xt xc U st d bl tl cl/\An B w0 u'/\∀i,E i->u'.heap[i]? = wS.heap[i]? := by
 have j:=h.bx.lt;have c:=h.hH
 have ne:∀i,Rows U xb xt xc i->¬(i=H+2):=λ i q e=>h.far i q (h.box i ⟨by omega,by omega⟩)
 exact⟨⟨h.inv.duo.stays a (λ i q=>ne i (.inl q)),h.inv.low,(h.refz.turned a (λ i q=>.inr (by have f:=q;exact h.box i ⟨by omega,by omega⟩))).mono (λ i q=>q.imp id (λ q=>(h.esub i q).1)),h.inv.fe,λ i q=>AK (h.inv.elt i q) a.size,h.inv.ob.stays a (λ g q=>ne g (.inr (.inl q))),h.inv.ot.stays a (λ g q=>ne g (.inr (.inr (.inl q)))),h.inv.oc.stays a (λ g q=>ne g (.inr (.inr (.inr q)))),h.inv.fb,h.inv.ft,h.inv.fc,h.inv.bt,h.inv.bc,h.inv.tc⟩,h.bel.trans (a.below (AU c (by omega)) (λ i hi q=>by have f:=q;omega)),λ i q=>(a.block i (h.flt i (h.esub i q).1) (λ r=>by have k:=r;have:=(h.esub i q).2;omega)).trans (h.keep i q)⟩
end
theorem gT.there{Q:Nat}(h:gT w Q t cs){o:Nat}(b:o+n<=cs.size):w.there Q o n:=by
 intro j a;refine⟨?_,h.thaw _⟩;rw[h.cell (j:=o+j) (v:=cs[o+j]) (Array.getElem?_eq_getElem (by omega))]
 rfl
theorem Tg(Q:Nat):∀(vs:List Ar) (o:Nat) (w:Ap),w.setCells Q o vs=jG w Q vs o
 | [],_,_=>rfl
 | v::t,o,w=>Tg Q t (o+1) (w.setCell ⟨Q,o,none⟩ v)
theorem Io{c:Oper}(d:c.guard=none)(ty:AP)(x y:CG)(f:c.op=.store ty x y)
  (b o:Nat) (cells:Array Ar) (i:a.eval x=Ah (some ⟨b,o,none⟩)) (j:a.eval y=Ag cells) (g:w.there b o cells.size) (hi:(Am.info? ty).map (·.size)=some cells.size) (e:cells.all (·.oneCell')=true)
  (h:∀w',w'=jG w b cells.toList o->CQ Am ops Q rest (a.put c.dst undef) w'):CQ Am ops Q (c::rest) a w :=
 wpList_store_mid d ty x y f b o cells i j g hi e (by rw[Tg];exact h _ rfl)
theorem SJ{o:Oper}(j:o.guard=none)(x:CG)(f:Nat)(ts:Array AP)
  (b:o.op=.call { callee:=.value (.func f),args:=#[x],argTypes:=ts }) (d:∀args w,(Ck f args).run Am w=.ok (.enter f args) w) (c:Ar) (m:a.eval x=c) (R:Ar->Ap->Prop)
  (g:At Am f #[c] w λ e w'=>∃v,e=Aj v/\R v w') (h:∀v w',R v w'->K (a.put o.dst v) w') :
  if Bd o (Co ops a.tmps)=true then Cs Am o a w K Q else X:=by
 have l:Bd o (Co ops a.tmps)=true:=by simp[Bd,j]
 rw[AC l];unfold Cs
 have e:(CP a.eval o).run Am w=.ok (.enter f #[c]) w:=by
  have i:a.eval (.func f)=.func (.func f) #[] #[]:=rfl;simp[CP,b,DA,DS,m,i,DF,d]
 rw[e,DL];refine g.mono ?_;rintro e w' ⟨v,rfl,k⟩;exact h v w' k
theorem JS{o:Oper}(j:o.guard=none)(x y:CG)(f:Nat)(ts:Array AP)
  (b:o.op=.call { callee:=.value (.func f),args:=#[x,y],argTypes:=ts }) (d:∀args w,(Ck f args).run Am w=.ok (.enter f args) w) (c u2:Ar) (m:a.eval x=c) (n:a.eval y=u2) (R:Ar->Ap->Prop)
  (g:At Am f #[c,u2] w λ e w'=>∃v,e=Aj v/\R v w') (h:∀v w',R v w'->K (a.put o.dst v) w') :
  if Bd o (Co ops a.tmps)=true then Cs Am o a w K Q else X:=by
 have l:Bd o (Co ops a.tmps)=true:=by simp[Bd,j]
 rw[AC l];unfold Cs
 have e:(CP a.eval o).run Am w=.ok (.enter f #[c,u2]) w:=by
  have i:a.eval (.func f)=.func (.func f) #[] #[]:=rfl;simp[CP,b,DA,DS,m,n,i,DF,d]
 rw[e,DL];refine g.mono ?_;rintro e w' ⟨v,rfl,k⟩;exact h v w' k
theorem OK{o:Oper}(k:o.guard=none)(x y z:CG)(f:Nat)(ts:Array AP)
  (b:o.op=.call { callee:=.value (.func f),args:=#[x,y,z],argTypes:=ts }) (g:∀args w,(Ck f args).run Am w=.ok (.enter f args) w) (c u2 d:Ar) (n:a.eval x=c) (p:a.eval y=u2) (q:a.eval z=d) (R:Ar->Ap->Prop)
  (i:At Am f #[c,u2,d] w λ e w'=>∃v,e=Aj v/\R v w') (h:∀v w',R v w'->K (a.put o.dst v) w') :
  if Bd o (Co ops a.tmps)=true then Cs Am o a w K Q else X:=by
 have m:Bd o (Co ops a.tmps)=true:=by simp[Bd,k]
 rw[AC m];unfold Cs
 have e:(CP a.eval o).run Am w=.ok (.enter f #[c,u2,d]) w:=by
  have j:a.eval (.func f)=.func (.func f) #[] #[]:=rfl;simp[CP,b,DA,DS,n,p,q,j,DF,g]
 rw[e,DL];refine i.mono ?_;rintro e w' ⟨v,rfl,l⟩;exact h v w' l
def pz(p:Bs):Int:=jl (iV 14695981039346656037 9) (p.map λ b=>(b.toNat:Int))
def lP(p:Bs)(m:Int)(i:Nat):Int:=spread (pz p) i % m
def iT(p:Bs)(m:Int):List Int:=if m<1 then[]else[lP p m 0,lP p m 1,lP p m 2]
theorem Pv(a b:Int):0<=spread a b/\spread a b<18446744073709551616:=by
 show 0<=Al.wrap _/\Al.wrap _<_;rw[IntKind.wrap_u64];omega
theorem Uk(p:Bs)(a:1<=m)(i:Nat):0<=lP p m i/\lP p m i<m :=
 ⟨Hi _ (by omega),GW _ (by omega)⟩
theorem Lx(a:1<=m):(iT p m).length=3:=by
 have h:¬m<1:=by omega
 simp[iT,h]
theorem Ql(a:m<1):iT p m=[]:=by simp[iT,a]
theorem LK(p:Bs)(m:Int):(iT p m).length<=3:=by unfold iT;split <;> simp
theorem Yq{z:Int}(h:z∈iT p m):0<=z/\z<m:=by
 unfold iT at h
 split at h
 cases h
 ·rename_i q
  simp only[List.mem_cons,List.not_mem_nil,or_false]at h
  rcases h with rfl|rfl|rfl <;> exact Uk p (by omega) _
def bitsOf(f:Nat->Bool):Nat:=(f 0).toNat+2*(f 1).toNat+4*(f 2).toNat+8*(f 3).toNat+16*(f 4).toNat+32*(f 5).toNat+64*(f 6).toNat+128*(f 7).toNat
theorem OT(f:Nat->Bool):bitsOf f<256:=by
 unfold bitsOf
 have h:∀b:Bool,b.toNat<=1:=by decide
 have:=h (f 0);have:=h (f 1);have:=h (f 2);have:=h (f 3);have:=h (f 4);have:=h (f 5);have:=h (f 6);have:=h (f 7);omega
theorem VI:∀(a b1 b2 b b4 c d e:Bool) (k:Fin 8),bits BinOp.or Em ((a.toNat+2*b1.toNat+4*b2.toNat+8*b.toNat+16*b4.toNat+32*c.toNat+64*d.toNat+128*e.toNat:Nat):Int) ((2 ^ k.val:Nat):Int) =
  (((a||k.val==0).toNat+2*(b1||k.val==1).toNat+4*(b2||k.val==2).toNat+8*(b||k.val==3).toNat+16*(b4||k.val==4).toNat+32*(c||k.val==5).toNat+64*(d||k.val==6).toNat+128*(e||k.val==7).toNat:Nat):Int):=by decide +kernel
theorem Ut(f:Nat->Bool)(a:k<8):bits BinOp.or Em (bitsOf f:Int) ((2 ^ k:Nat):Int)=(bitsOf (λ i=>f i||k==i):Int) :=
 VI (f 0) (f 1) (f 2) (f 3) (f 4) (f 5) (f 6) (f 7) ⟨k,a⟩
def jS(ones:List Int)(j:Nat):UInt8:=UInt8.ofNat (bitsOf λ k=>ones.contains ((8*j+k:Nat):Int))
def iF(ones:List Int)(n:Nat):Bs:=(List.range n).map (jS ones)
theorem JV(a:List Int)(j:Nat):(jS a j).toNat=bitsOf λ k=>a.contains ((8*j+k:Nat):Int):=by
 rw[jS,UInt8.toNat_ofNat'];exact Nat.mod_eq_of_lt (OT _)
theorem Iv(a:List Int)(n:Nat):(iF a n).length=n:=by simp[iF]
theorem Kw(a:List Int)(h:j<n):(iF a n)[j]? = some (jS a j):=by simp[iF,h]
theorem Xi(j:Nat):jS [] j=0:=by
 apply UInt8.toNat_inj.1;rw[JV]
 rfl
theorem Wx(n:Nat):iF [] n=Bk n 0:=by
 apply CD;intro j;by_cases h:j<n
 rw[Kw _ h,Xi,List.getElem?_replicate,AC h]
 rw[AM (by rw[Iv];omega),AM (by simp;omega)]
theorem Vk(a:List Int)(z:Nat):bits BinOp.or Em ((jS a (z / 8)).toNat:Int) ((2 ^ (z % 8):Nat):Int)=((jS (a++[(z:Int)]) (z / 8)).toNat:Int):=by
 rw[JV,JV,Ut _ (Nat.mod_lt _ (by decide))]
 congr 2
 funext k
 by_cases h:z % 8=k
 have e:(8*(z / 8)+k:Nat)=z:=by omega
 rw[e];simp[h]
 have e:((8*(z / 8)+k:Nat):Int)≠(z:Int):=by omega
 have b:(z % 8==k)=false:=by simpa using h
 rw[b,Bool.or_false,Bool.eq_iff_iff,C7,C7,AN,AZ];exact⟨.inl,λ q=>q.resolve_right e⟩
theorem Vt(a:List Int)(z j:Nat)(h:j≠z / 8):jS (a++[(z:Int)]) j=jS a j:=by
 apply UInt8.toNat_inj.1;rw[JV,JV]
 have key:∀k,k<8->(a++[(z:Int)]).contains ((8*j+k:Nat):Int)=a.contains ((8*j+k:Nat):Int):=by
  intro k b
  have e:((8*j+k:Nat):Int)≠(z:Int):=by omega
  rw[Bool.eq_iff_iff,C7,C7,AN,AZ];exact⟨λ q=>q.resolve_right e,.inl⟩
 simp only[bitsOf];rw[key 0 (by decide),key 1 (by decide),key 2 (by decide),key 3 (by decide),key 4 (by decide),key 5 (by decide),key 6 (by decide),key 7 (by decide)]
theorem U9(a:List Int)(n z:Nat)(h:z / 8<n):(iF a n).set (z / 8) (jS (a++[(z:Int)]) (z / 8))=iF (a++[(z:Int)]) n:=by
 apply CD;intro j;by_cases b:j<n
 rw[Kw _ b,List.getElem?_set,Iv];by_cases e:z / 8=j
 rw[AC e,AC h,e]
 rw[Ay e,Kw _ b,Vt _ _ _ (λ q=>e q.symm)]
 rw[AM (by simp[Iv];omega),AM (by rw[Iv];omega)]
def lN(f:Bs):Int:=if f.length=0∨f[0]? ≠ some 1 then 0 else 8*((f.length:Int) - 1)
theorem Yf(a:List Int)(n:Nat):lN (1::iF a n)=8*(n:Int):=by
 simp[lN,Iv]
theorem Ol{l:List α}{x:α}(h:l[i]? = some x):l.take (i+1)=l.take i++[x]:=by
 rw[AW,h]
 rfl
def lz(bs:Bs):List Int:=bs.map (λ b=>(b.toNat:Int))
theorem Yg(a:j<bs.length):(lz bs).getD j 0=(bs[j].toNat:Int):=by
 simp[lz,List.getD,Aq a]
theorem iE.xbytes(h:iE w v bs):Jv w v (lz bs):=by
 obtain⟨ao,c,rfl,k,l,e⟩:=h;refine⟨ao,c,by simp[lz],by simp[lz];omega,?_⟩;by_cases d:0<bs.length
 obtain⟨b,off,rfl,i,f⟩:=e d;refine .inr ⟨b,off,rfl,λ j g=>?_⟩
 have a:j<bs.length:=by simpa[lz]using g
 rw[Yg a];have:=f j bs[j] (Aq a) 0 _ rfl;rw[show off+(j*gP.size+0)=off+j from(by show off+(j*1+0)=off+j;omega)]at this;exact this
 obtain rfl:bs=[]:=AQ (by omega);exact .inl rfl
theorem oT(h:iE w v bs)(t:AP):Kv (w.alloc (Ai #[v] t)) (Aa (some ⟨w.heap.size,0,none⟩) 1 1) [lz bs]:=by
 refine⟨_,1,rfl,by simp,.inr ⟨w.heap.size,0,rfl,λ j a=>?_⟩⟩
 obtain rfl:j=0:=by simpa using a
 exact⟨v,by simp,(h.below (gW w _)).xbytes⟩
theorem Rv(x:Int)(d:1<=m)(m2:m<=9223372036854775807):wrap64 (x % m)=x % m:=by
 have a:=Hi x (b:=m) (by omega);have c:=GW x (b:=m) (by omega);rw[wrap64];omega
theorem Ou(E:ju α)(x:α)(v:Ar)(h:E.cells x=[v]):∀n,E.all (Bk n x)=Bk n v
 | 0=>rfl
 | n+1=>by
  have:=Ou E x v h n;simp only[ju.all,List.replicate_succ,List.flatMap_cons,h]at this ⊢;rw[this]
  rfl
theorem Tryz.info3:(Am.info? 3).map (λ i=>(i.zero,i.size,i.bytes))=some (some (Ab Ak 0),1,8):=by kernel_rfl
theorem RX(n:Nat)(j:n<=1000000)(w:Ap):
  ∃w',(Instr.makeSlice 23 (Ab Ak (n:Int)) (Ab Ak (n:Int))).run Am w=.ok (Aa (some ⟨w.heap.size,0,none⟩) n n) w'/\gM encI 3 w' w.heap.size (Aa (some ⟨w.heap.size,0,none⟩) n n) (Bk n 0)/\Iz w w':=by
 obtain⟨i0,a,b,c,d⟩:=Ch Tryz.info3;obtain⟨w',f,g,h⟩:=Gi (P:=Am) w w.heap.size 23 3 i0 _ 1 underlying23 a b c Ak Ak n (by rw[d];omega) (by simp only[AH];omega) (AA _);refine⟨w',f,?_,(Ao _ w).grown h (AA _) (λ k i=>by cases i)⟩;unfold gM
 have e:encI.all (Bk n (0:Int))=(madeCells (Ab Ak 0).cells (n*1)).toList:=by
  rw[show(Ab Ak 0).cells=#[Ab Ak 0]from rfl,Gj,Df];exact Ou encI 0 _ rfl n
 rw[DP,e];exact g
theorem gp(n:Nat)(j:n<=1000000)(w:Ap):
  ∃w',(Instr.makeSlice 24 (Ab Ak (n:Int)) (Ab Ak (n:Int))).run Am w=.ok (Aa (some ⟨w.heap.size,0,none⟩) n n) w'/\gM gP 5 w' w.heap.size (Aa (some ⟨w.heap.size,0,none⟩) n n) (Bk n 0)/\Iz w w':=by
 obtain⟨i0,a,b,c,d⟩:=Ch Tryz.info5;obtain⟨w',f,g,h⟩:=Gi (P:=Am) w w.heap.size 24 5 i0 _ 1 underlying24 a b c Ak Ak n (by rw[d];omega) (by simp only[AH];omega) (AA _);refine⟨w',f,?_,(Ao _ w).grown h (AA _) (λ k i=>by cases i)⟩;unfold gM
 have e:gP.all (Bk n (0:UInt8))=(madeCells (Ab .u8 0).cells (n*1)).toList:=by
  rw[show(Ab .u8 0).cells=#[Ab .u8 0]from rfl,Gj,Df];exact Ou gP 0 _ rfl n
 rw[DP,e];exact g
theorem Kr{a:List Int}(h:gM encI 3 w base (Aa (some ⟨g,0,none⟩) n cap) a)(hi:i<a.length):
  w.cell? ⟨g,i,none⟩=some (Ab Ak a[i])/\w.frozen? ⟨g,i,none⟩=false:=by
 have c:a.length=n:=DC h;subst c;have b:w.ownsRow base 3 1 (Aa (some ⟨g,0,none⟩) a.length cap) a.length (encI.all a):=h;refine⟨?_,b.frozenAt _⟩;rw[b.cellAt _ (by rw[Df];exact hi)];have:=encI.all_get a i 0 a[i] (Aq hi) (by decide);rw[show i*encI.size+0=i from(by show i*1+0=i;omega)]at this;rw[this]
 rfl
theorem MO{a:List Int}(h:gM encI 3 w base (Aa (some ⟨g,0,none⟩) n cap) a)(hi:i<a.length)(y:Int):
  gM encI 3 (w.setCell ⟨g,i,none⟩ (Ab Ak y)) base (Aa (some ⟨g,0,none⟩) n cap) (a.set i y):=by
 have:=gM.put h (i:=i) (j:=0) (Aq hi) (by decide) y (Ab Ak y) (by simp[encI]);rw[show i*encI.size+0=i from(by show i*1+0=i;omega)]at this;exact this
theorem Wy(a:1<=m)(hi:i<3):((iT p m).take i++Bk (3 - i) 0).set i (lP p m i)=(iT p m).take (i+1)++Bk (3 - (i+1)) 0:=by
 have h:¬m<1:=by omega
 match i,hi with
 | 0,_=>simp[iT,h,Bk]
 | 1,_=>simp[iT,h,Bk]
 | 2,_=>simp[iT,h]
theorem dK(p:Bs)(m:Int)(a:m<1)(w:Ap):
  At Am 143 #[tx p,Ab Ak m] w λ e w'=>e=Aj (Aa none 0 0)/\w'=w:=by
 go_enter func143,ntmps143;go_wp2;go_ret;exact⟨rfl,rfl⟩
theorem WS(p:Bs)(m:Int)(r:1<=m)(x:m<=9223372036854775807)(hp:p.length<=9223372036854775807)(w:Ap):
  At Am 143 #[tx p,Ab Ak m] w λ e w'=>∃v',e=Aj v'/\gM encI 3 w' w.heap.size v' (iT p m)/\Iz w w':=by
 have S:¬m<1:=by omega
 obtain⟨q,R,u,C,I,H,M,N⟩:=Hm w p;have B:iE q (Aa (some ⟨w.heap.size,0,none⟩) p.length R) p:=H.at M (N hp);have hid:=TC 9 _ _ _ (oT B 24)
 have G:Hid (Iz w q/\q.heap.size=w.heap.size+1):=⟨C,I⟩
 clear C I H B M N;go_enter func143,ntmps143;go_wp2_with fail;refine hid.mono ?_;rintro e f ⟨rfl,n⟩;have E:Hid (jO (iV 14695981039346656037 (9 % 256)) [lz p]=pz p):=rfl
 obtain⟨d,hd⟩:=Xa (jO (iV 14695981039346656037 (9 % 256)) [lz p])
 rw[hd]at E ⊢
 have t:Hid (Iz w f):=by
  show An _ _ _;rw[n];exact G.o.1.trans ((gW q _).mono G.o.1.size)
 clear n hid hd u G;obtain⟨A,j,F,D⟩:=RX 3 (by decide) f;have L:(Instr.makeSlice 23 (Ab Ak 3) (Ab Ak 3)).run Am f=.ok (Aa (some ⟨f.heap.size,0,none⟩) 3 3) A:=j
 have P:Hid (gM encI 3 A w.heap.size (Aa (some ⟨f.heap.size,0,none⟩) 3 3) (Bk 3 0)/\Iz w A):=⟨F.low t.o.size,t.o.trans (D.mono t.o.size)⟩
 clear j F D;go_wp2_with fail;go_loopg[17] 3 (λ k v wr=>∃i:Nat,v=Ab Ak i/\i+k=3/\Hid (gM encI 3 wr w.heap.size (Aa (some ⟨f.heap.size,0,none⟩) 3 3) ((iT p m).take i++Bk (3 - i) 0)/\Iz w wr))
 case atStart=>exact⟨0,rfl,by omega,P.o⟩
 case round =>
  obtain⟨i,rfl,hi,g⟩:=hrel;by_cases h:i<3
  ·have id:(i:Int)<3:=by omega
   have a:((iT p m).take i++Bk (3 - i) 0).length=3:=by simp[Lx r];omega
   obtain⟨J,T⟩:=Kr g.o.1 (i:=i) (by rw[a];exact h)
   obtain⟨y,V⟩:∃y,wr.cell? ⟨f.heap.size,i,none⟩=some y:=⟨_,J⟩
   clear J;have b:=MO g.o.1 (i:=i) (by rw[a];exact h) (lP p m i);rw[Wy r h]at b;have z:=Pv d i
   obtain⟨s,c⟩:=Xa (spread d i)
   have K:lP p m i=s % m:=by rw[lP,<- E.o,c]
   rw[c]at z;have U:=Rv s r x
   have l:∀w,At Am 192 #[Ab Al d,Ab Ak i] w λ e w'=>e=Aj (Ab Al s)/\w'=w:=λ w=>by rw[<- c];exact ZW d i w
   have Q:Hid _:=b;have O:Hid (lP p m i=s % m):=K;clear a b c K;go_wp2_with(go_at_call 192;refine(l _).mono ?_;rintro e w' ⟨rfl,rfl⟩);go_roundg (gk - 1)
   case measure=>omega
   case rel =>
    refine⟨i+1,by go_num,by omega,?_,g.o.2.trans (gM.turn g.o.1 g.o.2.size ((Aw.refl (λ k=>(Aa (some ⟨f.heap.size,0,none⟩) 3 3).ownBlock=some k) _).setCell (p:=⟨f.heap.size,i,none⟩) (.inl rfl) _))⟩;rw[<- O.o];exact Q.o
  ·obtain rfl:i=3:=by omega
   have e:(iT p m).take 3++Bk (3 - 3) 0=iT p m:=by rw[Av (by rw[Lx r];omega)];simp
   rw[e]at g;go_wp2;go_ret;exact⟨_,rfl,g.o.1,g.o.2⟩
theorem Wn(p:Bs)(m:Int)(a:m<=9223372036854775807)(hp:p.length<=9223372036854775807)(w:Ap):
  At Am 143 #[tx p,Ab Ak m] w λ e w'=>∃v',e=Aj v'/\gM encI 3 w' w.heap.size v' (iT p m)/\Iz w w':=by
 by_cases h:m<1
 rw[Ql h];refine(dK p m h w).mono ?_;rintro e w' ⟨rfl,rfl⟩;exact⟨_,rfl,gM.nil _ _ _ _,Ao _ _⟩
 exact WS p m (by omega) a hp w
theorem Zq(a:1<=m)(hi:i<3):(iT p m).take (i+1)=(iT p m).take i++[lP p m i]:=by
 have h:¬m<1:=by omega
 match i,hi with
 | 0,_=>simp[iT,h]
 | 1,_=>simp[iT,h]
 | 2,_=>simp[iT,h]
theorem VV(p:Bs)(m:Int)(l:m<1)(hp:p.length<=9223372036854775807)(w:Ap):
  At Am 175 #[tx p,Ab Ak m] w λ e w'=>∃v',e=Aj v'/\gM encI 3 w' w.heap.size v' []/\Iz w w':=by
 have k:¬1<=m:=by omega
 obtain⟨f,j,a,c,i,d,g,h⟩:=Hm w p;have b:=d.at g (h hp);have hid:=NG 9 _ _ _ b.xbytes;have G:=Ih c;clear c i d b g h;go_enter func175,ntmps175;go_wp2_with fail;refine hid.mono ?_;rintro e n ⟨rfl,rfl⟩;clear hid a;go_wp2_with fail;refine wp_loop_rounds 1 ?_;rw[rounds_succ];go_wp2;go_ret;exact⟨_,rfl,gM.nil _ _ _ _,G.o⟩
theorem Z4(p:Bs)(m:Int)(l:1<=m)(s:m<=9223372036854775807)(hp:p.length<=9223372036854775807)(w:Ap):
  At Am 175 #[tx p,Ab Ak m] w λ e w'=>∃v',e=Aj v'/\gM encI 3 w' w.heap.size v' (iT p m)/\Iz w w':=by
 obtain⟨A,F,q,x,E,z,C,D⟩:=Hm w p;have u:=z.at C (D hp);have hid:=NG 9 _ _ _ u.xbytes;have G:=Ih x;clear x E z u C D;go_enter func175,ntmps175;go_wp2_with fail;refine hid.mono ?_;rintro e J ⟨rfl,rfl⟩;have y:Hid (jl (iV 14695981039346656037 (9 % 256)) (lz p)=pz p):=rfl
 obtain⟨d,hd⟩:=Xa (jl (iV 14695981039346656037 (9 % 256)) (lz p))
 rw[hd]at y ⊢;clear hid hd q;go_wp2_with fail;go_loopg[5,7] 3 (λ k H v wr=>∃i:Nat,v=Ab Ak i/\i+k=3/\Hid (gM encI 3 wr w.heap.size H ((iT p m).take i)/\Iz w wr))
 case atStart=>exact⟨0,rfl,by omega,gM.nil _ _ _ _,G.o⟩
 case round =>
  obtain⟨i,rfl,hi,g⟩:=hrel;by_cases r:i<3
  have id:(i:Int)<3:=by omega
  have b:((iT p m).take i).length=i:=by simp[Lx l];omega
  have t:=Pv d i;obtain⟨j,a⟩:=Xa (spread d i)
  have B:lP p m i=j % m:=by rw[lP,<- y.o,a]
  rw[a]at t;have I:=Rv j l s
  have h:∀w,At Am 204 #[Ab Al d,Ab Ak i] w λ e w'=>e=Aj (Ab Al j)/\w'=w:=λ w=>by rw[<- a];exact Uw d i w
  have n:=I2 B b;clear a B b
  go_wp2_with(first
   | (go_at_call 204;refine(h _).mono ?_;rintro e w' ⟨rfl,rfl⟩)
   | (at_builtin;refine BA encI 3 23 8 (Ab Ak 0) rfl Tryz.info3 underlying23 rfl (.tmp 19) (.tmp 27) rfl w.heap.size _ ((iT p m).take i) (j % m) _ rfl g.o.1 rfl (by rw[n.o.2];omega) (by rw[n.o.2];simp only[AH];omega) g.o.2.size _ rfl ?_;intro v4 K f c _ _))
  go_roundg (gk - 1)
  case measure=>omega
  case rel=>exact⟨i+1,by go_num,by omega,by rw[Zq l r,n.o.1];exact f,g.o.2.trans c⟩
  obtain rfl:i=3:=by omega
  have e:(iT p m).take 3=iT p m:=Av (by rw[Lx l];omega);rw[e]at g;go_wp2;go_ret;exact⟨_,rfl,g.o.1,g.o.2⟩
theorem V9(p:Bs)(m:Int)(a:m<=9223372036854775807)(hp:p.length<=9223372036854775807)(w:Ap):
  At Am 175 #[tx p,Ab Ak m] w λ e w'=>∃v',e=Aj v'/\gM encI 3 w' w.heap.size v' (iT p m)/\Iz w w':=by
 by_cases h:m<1
 rw[Ql h];exact VV p m h hp w
 exact Z4 p m (by omega) a hp w
end Go.Proofs.YtakgkgmopmcecaaGreat
