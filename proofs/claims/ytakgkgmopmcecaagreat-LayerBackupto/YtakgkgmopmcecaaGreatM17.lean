import Derived.Test.YtakgkgmopmcecaaGreatM16
set_option maxHeartbeats 6400000
set_option maxRecDepth 100000
open Go renaming World->Ap,Calls->At,Value->Ar,wpQuiet_nil->AS,bodyPost_ret->As,results_tmp2->AD,maxLen->AH
open Go.RowKit renaming Below->An
open List renaming length_map->A4,getElem?_eq_getElem->Aq,length_take->AE,mem_append->AN,take_add_one->AW,take_append_drop->BC,append_assoc->AT,nodup_append->Cr,take_of_length_le->Av,mem_of_getElem?->A8,length_append->Ax,map_append->BV,mem_singleton->AZ,getElem?_eq_some_iff->AG,getElem_of_mem->CE,getElem?_map->Bo,length_zipWith->Dp,getElem?_zipWith->C8,zipWith->Do,ext_getElem?->CD,getElem?_eq_none->AM,getElem_zipWith->FH,mem_map_of_mem->GN,mem_map->BJ
open Go.RowKit.Below renaming refl->Ao
open Bool renaming noConfusion->Fv
open Nat renaming le_refl->AA,le_of_lt->CJ,min_self->Hc,le_trans->AU
open Go.Value renaming slice->Aa,int->Ab,bool->Ad,string->Ae,agg->Ag
open Go.Obj renaming cells->Ai
open Go.Ending renaming returned->Aj
open Go.IntKind renaming i64->Ak,u64->Al
open Go.Proofs.Tryz renaming prog->Am
open Go.Proofs.Tryz
namespace Go.Proofs.YtakgkgmopmcecaaGreat
open Go.RowKit
variable {B c i j n oc s:Nat}{G:List Int}{Q cl gr l:List UInt64}{R rs:List Rw}{S:Nat->Prop}{a oa:Option Addr}{b g m vf vr vt:Ar}{d:Dk}{r:Rw}{st:St}{u u' w w' wr:Ap}{v:RV}{vs:List LV}{x:UInt64}
theorem WG(h:gQ gR wr a l)(b:l.length=n)(d:n<=1000000)(x:UInt64)(r:Bool)(f:decide (x∈l)=r)(u:SW (gN wr)):
  At Am 71 #[Aa a n c,Ab Al (x.toNat:Int)] u.w λ e w'=>e=Aj (Ad r)/\∃u':SW (gN wr),w'=u'.w:=by
 refine(Y8 (h.below u.ok) b d x r f).mono ?_;rintro e w' ⟨rfl,rfl⟩;exact⟨rfl,u,rfl⟩
theorem ZO{vs:List RV}(h:gQ im wr a vs)(b:vs.length=n)(d:n<=1000000)(x:UInt64)(r:Int)(f:mf (vs.map (·.id)) x=r)(u:SW (gN wr)):
  At Am 20 #[Aa a n c,Ab Al (x.toNat:Int)] u.w λ e w'=>e=Aj (Ab Ak r)/\∃u':SW (gN wr),w'=u'.w:=by
 refine(Nl (h.below u.ok) b d x r f).mono ?_;rintro e w' ⟨rfl,rfl⟩;exact⟨rfl,u,rfl⟩
theorem Q5:Am.underlying 75=some (.slice 61):=by kernel_rfl
theorem mK:(Am.info? 83).map (λ i=>(i.zero,i.size,i.bytes))=some (some (Ag #[Ab Al 0,Ab Al 0,Ab Ak 0,Aa none 0 0,Ab Ak 0,Ae ⟨#[]⟩]),6,72):=by kernel_rfl
theorem mg:Am.underlying 41=some (.slice 83):=by kernel_rfl
theorem eT:Am.elem 75=61:=by kernel_rfl
theorem Ye{on:Nat}{ba ia:Option Addr}{bn bc:Nat}{bvs:List RV}{ids:List UInt64}{rk:Nat->Nat}
  (h:gQ iH w oa st.objs) (hl:st.objs.length=on) (aY:on<=1000000) (hb:∀o∈st.objs,o.body.length<=8192)
  (hB:gQ im w ba bvs) (aM:bvs.length=bn) (bk:∀v∈bvs,0<=v.gen/\v.gen<=250) (am:(bvs.map (·.id)).Nodup) (hI:gQ gR w ia ids) (hn:ids.length=n) (bp:n<=c) (hs:bn+n<=100000)
  (hG:st.free (bvs.map (·.id)) ids->EA bn (st.pss (bvs.map (·.id)++gY ids) (gY ids)) rk/\kx (bvs.map (·.gen)) (st.pss (bvs.map (·.id)++gY ids) (gY ids)) G) :
  At Am 21 #[rm d vf (Aa oa on oc) vr vt,Aa ba bn bc,Aa ia n c] w λ e w'=>∃v r,e=Aj (.tuple #[v,Ab Ak r])/\Hid (∃vs rs,st.told (bvs.map (·.id)) G ids r rs/\gM im 83 w' w.heap.size v vs/\jc w' w.heap.size vs rs/\An w.heap.size w w'):=by
 obtain⟨b,aw⟩:=Xa w.heap.size
 obtain⟨m,aq⟩:=Xa (bvs.map (·.id))
 obtain⟨W0,aF⟩:=Xb (w.alloc (iD d vf (Aa oa on oc) vr vt))
 have b0:An w.heap.size w W0:=by rw[aF];exact gW _ _
 have A0:Hid (QA b w W0 d vf oa on oc vr vt st ba bvs ia ids):=⟨by rw[aF,<- aw];exact RE.new h,hB.below b0,hI.below b0,by rw[<- aw];exact b0⟩
 rw[aq]at hG am
 have H:Hid (st.objs.length=on/\(∀o∈st.objs,o.body.length<=8192)/\bvs.length=bn/\(∀v∈bvs,0<=v.gen/\v.gen<=250)/\m.Nodup/\ids.length=n/\n<=c/\bvs.map (·.id)=m/\w.heap.size=b/\m.length=bn):=⟨hl,hb,aM,bk,am,hn,bp,aq,aw,by rw[<- aq,A4];exact aM⟩
 have HG:Hid (st.free m ids->EA bn (st.pss (m++gY ids) (gY ids)) rk/\kx (bvs.map (·.gen)) (st.pss (m++gY ids) (gY ids)) G):=hG
 have aC:Hid (gQ im w ba bvs/\gQ iH w oa st.objs/\gQ gR w ia ids):=⟨hB,h,hI⟩
 rw[aq,aw];clear h hl hb hB aM bk am hI hn hG aq b0;go_enter func21,ntmps21
 go_upto_region 1 with fail
 rw[<- aF];clear aF aw;go_wp2_with fail;go_loopg[8,9] n (λ k sv iv wr=>∃(i:Nat) (sa:Option Addr) (K sc:Nat),iv=Ab Ak i/\sv=Aa sa K sc/\i+k=n/\Hid (QA b w wr d vf oa on oc vr vt st ba bvs ia ids/\∃l,nE ids i l/\l.length=K/\gM gR 61 wr 0 (Aa sa K sc) l/\(m++ids.take i).Nodup))
 case atStart=>exact⟨0,none,0,0,rfl,rfl,by omega,A0.o,[],nE.zero ids,rfl,gM.nil _ _ _ _,by simpa using H.o.2.2.2.2.1⟩
 case round =>
  obtain⟨i,sa,K,sc,rfl,rfl,hi,I⟩:=hrel;clear A0;by_cases bI:i<n
  ·have id:(i:Int)<(n:Int):=by omega
   have b2:(0:Int)<=(i:Int):=by omega
   obtain⟨x,O⟩:∃x,ids[i]? = some x:=⟨_,Aq (by rw[H.o.2.2.2.2.2.1];exact bI)⟩
   obtain⟨hQ,l,l1,l2,l3,l4⟩:=I.o;obtain⟨xb,xo,rfl,_⟩:=hQ.ids.some_of O;have cx:=(hQ.ids.nums O).2;obtain⟨a3,c3,bZ,bH,_,bs⟩:=Ni gR 61 75 8 _ me Q5 eT (ao:=some ⟨xb,xo,none⟩) (n:=n) (c:=c) (k:=i) bp (by omega)
   have bv:(ids.take i).length=i:=by rw[AE];have:=H.o.2.2.2.2.2.1;omega
   obtain⟨f1,ac⟩:=Xa (decide (x∈ids.take i))
   obtain⟨r1,a4⟩:=Xa (mf m x)
   have D:Hid (ids[i]? = some x/\nE ids i l/\l.length=K/\gM gR 61 wr 0 (Aa sa K sc) l/\(m++ids.take i).Nodup/\QA b w wr d vf oa on oc vr vt st ba bvs (some ⟨xb,xo,none⟩) ids/\decide (x∈ids.take i)=f1/\mf m x=r1):=⟨O,l1,l2,l3,l4,hQ,ac,a4⟩
   have q0:∀u:SW (gN wr),u.w.cell? ⟨xb,xo+i,none⟩=some (Ab Al (x.toNat:Int)):=λ u=>((hQ.ids.below u.ok).nums O).2
   have aD:=λ u=>WG (c:=c3) (bs wr _ hQ.ids) bv (by omega) x f1 ac u
   have aE:=λ u=>ZO (c:=bc) hQ.bl H.o.2.2.1 (by omega) x r1 (by rw[H.o.2.2.2.2.2.2.2.1];exact a4) u
   have NE:Nonempty (SW (gN wr)):=⟨⟨wr,Ao _ wr⟩⟩
   clear I O l1 l2 l3 l4 hQ ac a4 cx bv bs bH
   go_upto_region 5 with fail
   go_cut[40] (λ tv u=>∃f,tv=Ad f/\Hid ((f=true↔x∈m++ids.take i)/\An wr.heap.size wr u))
   case first =>
    cases f1 with
    | true =>
     have s:Hid (x∈m++ids.take i):=AN.2 (.inr (by have:=D.o.2.2.2.2.2.2.1;simpa using this));refine Bb (S:=gN wr) (by kernel_rfl) (by kernel_rfl) (Ao _ wr).drew ?_
     repeat(go_big_quiet_step (first | with_reducible exact aD _ | with_reducible exact aE _))
     refine AS ?_;intro _ U;obtain⟨u,E⟩:=U;subst E;go_wp2_with fail;go_meet;exact⟨_,rfl,⟨λ _=>s.o,λ _=>rfl⟩,u.ok⟩
    | false =>
     by_cases hr:0<=r1
     ·have s:Hid (x∈m++ids.take i):=AN.2 (.inl (Kh.1 (by rw[D.o.2.2.2.2.2.2.2];exact hr)))
      have bN:decide ((0:Int)<=r1)=true:=by simpa using hr
      refine Bb (S:=gN wr) (by kernel_rfl) (by kernel_rfl) (Ao _ wr).drew ?_
      repeat(go_big_quiet_step (first | with_reducible exact aD _ | with_reducible exact aE _))
      refine AS ?_;intro _ U;obtain⟨u,E⟩:=U;subst E;go_wp2_with fail;go_meet;exact⟨_,rfl,⟨λ _=>s.o,λ _=>rfl⟩,u.ok⟩
     ·have s:Hid (¬x∈m++ids.take i):=λ q=>by
       rcases AN.1 q with q|q
       ·exact absurd (Kh.2 q) (by rw[D.o.2.2.2.2.2.2.2];exact hr)
       ·have:=D.o.2.2.2.2.2.2.1;rw[Az]at this;exact absurd q this
      have bN:decide ((0:Int)<=r1)=false:=by simpa using hr
      refine Bb (S:=gN wr) (by kernel_rfl) (by kernel_rfl) (Ao _ wr).drew ?_
      repeat(go_big_quiet_step (first | with_reducible exact aD _ | with_reducible exact aE _))
      refine AS ?_;intro _ U;obtain⟨u,E⟩:=U;subst E;go_wp2_with fail;go_meet;exact⟨_,rfl,⟨λ q=>(by cases q),λ q=>absurd q s.o⟩,u.ok⟩
   case rest =>
    obtain⟨f,rfl,HF⟩:=hcut;clear aD aE NE q0;have hQ:=D.o.2.2.2.2.2.1.next HF.o.2
    cases f with
    | true =>
     have s:Hid (∃vs rs,st.told m G ids 6 rs/\gM im 83 wc b (Aa none 0 0) vs/\jc wc b vs rs/\An b w wc):=by
      refine⟨[],[],.twice (λ q=>?_),gM.nil _ _ _ _,jc.nil _ _,hQ.bel⟩;have hm:=HF.o.1.1 rfl
      have A:ids.take (i+1)=ids.take i++[x]:=by rw[AW,D.o.1];rfl
      rw[<- BC (i+1) ids,A,<- AT,<- AT]at q;exact(Cr.1 (Cr.1 q).1).2.2 x hm x (by simp) rfl
     clear HF hQ;go_wp2_with fail;refine As (AD rfl _ _ _) rfl ?_;exact⟨_,_,rfl,s.o⟩
    | false =>
     have bq:¬x∈m++ids.take i:=λ q=>Fv (HF.o.1.2 q)
     have cx:=(hQ.ids.nums D.o.1).2;have bx:=fZ (c:=sc) (D.o.2.2.2.1.below HF.o.2).rdc.1 D.o.2.2.1 (by have:=D.o.2.1.len;have:=D.o.2.2.1;omega) D.o.2.1.rise x
     have HQ:Hid (QA b w wc d vf oa on oc vr vt st ba bvs (some ⟨xb,xo,none⟩) ids/\(m++ids.take (i+1)).Nodup):=by
      refine⟨hQ,?_⟩
      have A:ids.take (i+1)=ids.take i++[x]:=by rw[AW,D.o.1];rfl
      rw[A,<- AT];exact SX D.o.2.2.2.2.1 bq
     clear hQ bq HF;go_wp2_with fail;refine bx.mono ?_;rintro e w2 ⟨a2,n2,c2,rfl,J2⟩
     have s:Hid (QA b w w2 d vf oa on oc vr vt st ba bvs (some ⟨xb,xo,none⟩) ids/\∃l,nE ids (i+1) l/\l.length=n2/\gM gR 61 w2 0 (Aa a2 n2 c2) l/\(m++ids.take (i+1)).Nodup):=by
      obtain⟨l',j1,j2,j3⟩:=J2.o;exact⟨HQ.o.1.next j3,l',D.o.2.1.next D.o.1 j1,DC j2,j2.low (Nat.zero_le _),HQ.o.2⟩
     clear J2 bx cx;go_wp2_with fail;go_roundg (gk - 1)
     case measure=>omega
     case rel=>exact⟨i+1,a2,n2,c2,by go_num,rfl,by omega,s.o⟩
  ·obtain rfl:i=n:=by omega
   have id:¬(i:Int)<(i:Int):=by omega
   have G1:Hid (QA b w wr d vf oa on oc vr vt st ba bvs ia ids/\(gY ids).length=K/\gM gR 61 wr 0 (Aa sa K sc) (gY ids)/\(m++ids).Nodup/\∀x∈ids.take 0,st.has 3 x=true):=by
    obtain⟨hQ,l,l1,l2,l3,l4⟩:=I.o;have hl:=H.o.2.2.2.2.2.1;rw[Av (by rw[hl];exact AA _)]at l4;have e:=(show nE ids ids.length l by rw[hl];exact l1).done (Cr.1 l4).2.1;rw[e]at l2 l3;exact⟨hQ,l2,l3,l4,by simp⟩
   clear I;go_wp2_with fail;go_loopg[10] i (λ k v wr=>∃j:Nat,v=Ab Ak j/\j+k=i/\Hid (QA b w wr d vf oa on oc vr vt st ba bvs ia ids/\(gY ids).length=K/\gM gR 61 wr 0 (Aa sa K sc) (gY ids)/\(m++ids).Nodup/\∀x∈ids.take j,st.has 3 x=true))
   case atStart=>exact⟨0,rfl,by omega,G1.o⟩
   case round =>
    obtain⟨j,rfl,hj,I⟩:=hrel;clear G1;by_cases bJ:j<i
    ·have jd:(j:Int)<(i:Int):=by omega
     have b3:(0:Int)<=(j:Int):=by omega
     obtain⟨x,O⟩:∃x,ids[j]? = some x:=⟨_,Aq (by rw[H.o.2.2.2.2.2.1];exact bJ)⟩
     obtain⟨xb,xo,rfl,_⟩:=I.o.1.ids.some_of O
     have q9:∀u:SW (gN wr),u.w.cell? ⟨xb,xo+j,none⟩=some (Ab Al (x.toNat:Int)):=λ u=>((I.o.1.ids.below u.ok).nums O).2
     have T:=I.o.1.re
     have q0:∀u:SW (gN wr),u.w.cell? ⟨b,0,none⟩=some vf:=λ u=>(T.next u.ok).box.cells.1
     have q1:∀u:SW (gN wr),u.w.cell? ⟨b,1,none⟩=some (Ab Ak (d.writes:Int)):=λ u=>(T.next u.ok).box.cells.2.1
     have q2:∀u:SW (gN wr),u.w.cell? ⟨b,2,none⟩=some (Ad d.armed):=λ u=>(T.next u.ok).box.cells.2.2.1
     have q3:∀u:SW (gN wr),u.w.cell? ⟨b,3,none⟩=some (Ad d.dead):=λ u=>(T.next u.ok).box.cells.2.2.2.1
     have q4:∀u:SW (gN wr),u.w.cell? ⟨b,4,none⟩=some (Ab Ak (d.after:Int)):=λ u=>(T.next u.ok).box.cells.2.2.2.2.1
     have q5:∀u:SW (gN wr),u.w.cell? ⟨b,5,none⟩=some (Ab Ak (d.keep:Int)):=λ u=>(T.next u.ok).box.cells.2.2.2.2.2.1
     have q6:∀u:SW (gN wr),u.w.cell? ⟨b,6,none⟩=some (Aa oa on oc):=λ u=>(T.next u.ok).box.cells.2.2.2.2.2.2.1
     have q7:∀u:SW (gN wr),u.w.cell? ⟨b,7,none⟩=some vr:=λ u=>(T.next u.ok).box.cells.2.2.2.2.2.2.2.1
     have q8:∀u:SW (gN wr),u.w.cell? ⟨b,8,none⟩=some vt:=λ u=>(T.next u.ok).box.cells.2.2.2.2.2.2.2.2
     obtain⟨f1,ac⟩:=Xa (st.has 3 x)
     have hL:=λ u=>ND (oc:=oc) (d:=d) (vf:=vf) (vr:=vr) (vt:=vt) T.ob H.o.1 aY 3 x f1 ac u
     have NE:Nonempty (SW (gN wr)):=⟨⟨wr,Ao _ wr⟩⟩
     have D:Hid (ids[j]? = some x/\st.has 3 x=f1):=⟨O,ac⟩
     clear O ac T
     go_upto_region 11 with fail
     go_cut[59] (λ tv u=>tv=Ad (!f1)/\Hid (An wr.heap.size wr u))
     case first =>
      refine Bb (S:=gN wr) (by kernel_rfl) (by kernel_rfl) (Ao _ wr).drew ?_
      repeat(go_big_quiet_step (with_reducible exact hL _))
      refine AS ?_;intro _ U;obtain⟨u,E⟩:=U;subst E;go_wp2_with fail;go_meet;exact⟨rfl,u.ok⟩
     case rest =>
      obtain⟨rfl,HF⟩:=hcut;clear hL NE q0 q1 q2 q3 q4 q5 q6 q7 q8 q9;have hQ:=I.o.1.next HF.o
      cases f1 with
      | false =>
       have s:Hid (∃vs rs,st.told m G ids 5 rs/\gM im 83 wc b (Aa none 0 0) vs/\jc wc b vs rs/\An b w wc) :=
        ⟨[],[],.missing I.o.2.2.2.1 (λ q=>Fv ((q x (A8 D.o.1)).symm.trans D.o.2)),gM.nil _ _ _ _,jc.nil _ _,hQ.bel⟩
       clear HF hQ;go_wp2_with fail;refine As (AD rfl _ _ _) rfl ?_;exact⟨_,_,rfl,s.o⟩
      | true =>
       have s:Hid (QA b w wc d vf oa on oc vr vt st ba bvs (some ⟨xb,xo,none⟩) ids/\(gY ids).length=K/\gM gR 61 wc 0 (Aa sa K sc) (gY ids)/\(m++ids).Nodup/\∀x∈ids.take (j+1),st.has 3 x=true):=by
        refine⟨hQ,I.o.2.1,I.o.2.2.1.below HF.o,I.o.2.2.2.1,λ y hy=>?_⟩;rw[AW,D.o.1]at hy
        rcases AN.1 hy with q|q
        ·exact I.o.2.2.2.2 y q
        ·have q':y=x:=by simpa using q
         rw[q'];exact D.o.2
       clear HF hQ;go_wp2_with fail;go_roundg (gk - 1)
       case measure=>omega
       case rel=>exact⟨j+1,by go_num,by omega,s.o⟩
    ·obtain rfl:j=i:=by omega
     have jd:¬(j:Int)<(j:Int):=by omega
     obtain⟨xs,ay⟩:=Xa (gY ids)
     have aH:∀x∈ids,st.has 3 x=true:=by
      have h:=I.o.2.2.2.2;rw[Av (by rw[H.o.2.2.2.2.2.1];exact AA _)]at h;exact h
     have P:Hid ((m++ids).Nodup/\(∀x∈ids,st.has 3 x=true)/\xs.length=K/\gY ids=xs/\(m++xs).Nodup/\K=j):=by
      refine⟨I.o.2.2.2.1,aH,by rw[<- ay];exact I.o.2.1,ay,by rw[<- ay];exact KH.2 I.o.2.2.2.1,?_⟩;have N:=I.o.2.1;have h2:=H.o.2.2.2.2.2.1;rw[Lg]at N;omega
     have L0:Hid (QA b w wr d vf oa on oc vr vt st ba bvs ia ids/\gM gR 61 wr 0 (Aa sa K sc) xs/\∃vs,QO b wr (Aa none 0 0) st (m++xs) xs 0 vs):=⟨I.o.1,by rw[<- ay];exact I.o.2.2.1,[],gM.nil _ _ _ _,rfl,λ j v x h=>by simp at h,by simp⟩
     have b1:K<=100000:=by have:=P.o.2.2.2.2.2;omega
     clear I aH ay;go_wp2_with fail;go_loopg[11,12] K (λ k ov iv wr=>∃q:Nat,iv=Ab Ak q/\q+k=K/\Hid (QA b w wr d vf oa on oc vr vt st ba bvs ia ids/\gM gR 61 wr 0 (Aa sa K sc) xs/\∃vs,QO b wr ov st (m++xs) xs q vs))
     case atStart=>exact⟨0,rfl,by omega,L0.o⟩
     case round =>
      obtain⟨q,rfl,hq,I⟩:=hrel;clear L0;by_cases bM:q<K
      ·have qd:(q:Int)<(K:Int):=by omega
       have b5:(0:Int)<=(q:Int):=by omega
       obtain⟨go,aT⟩:=Xb gk
       rw[<- aT]at hq;have GO:Hid (go=gk):=aT;clear aT
       obtain⟨x,O⟩:∃x,xs[q]? = some x:=⟨_,Aq (by rw[P.o.2.2.1];exact bM)⟩
       obtain⟨xb,xo,rfl,_⟩:=I.o.2.1.rdc.1.some_of O
       obtain⟨cm,aN⟩:=Xa (st.com x)
       obtain⟨tr,a6⟩:=Xa cm.tree
       obtain⟨dt,aP⟩:=Xa cm.date
       obtain⟨pn,aZ⟩:=Xa cm.ps.length
       obtain⟨nt,br⟩:∃nt:ByteArray,(⟨cm.note.toArray⟩:ByteArray)=nt:=⟨_,rfl⟩
       have aS:∀u,An wr.heap.size wr u->_:=λ u hu=>Xk (vf:=vf) (d:=d) (vr:=vr) (vt:=vt) (oc:=oc) (I.o.1.re.next hu).ob H.o.1 aY H.o.2.1 x cm aN
       rw[a6,aP,aZ,show tx cm.note=Ae nt by rw[<- br]]at aS;have QG:Hid _:=aS
       have D:Hid (xs[q]? = some x/\st.com x=cm/\cm.tree=tr/\cm.date=dt/\cm.ps.length=pn):=⟨O,aN,a6,aP,aZ⟩
       have V:Hid (∀u,An wr.heap.size wr u->u.cell? ⟨b,0,none⟩=some vf/\u.cell? ⟨b,1,none⟩=some (Ab Ak (d.writes:Int))/\u.cell? ⟨b,2,none⟩=some (Ad d.armed)/\u.cell? ⟨b,3,none⟩=some (Ad d.dead)/\u.cell? ⟨b,4,none⟩=some (Ab Ak (d.after:Int))/\u.cell? ⟨b,5,none⟩=some (Ab Ak (d.keep:Int))/\u.cell? ⟨b,6,none⟩=some (Aa oa on oc)/\u.cell? ⟨b,7,none⟩=some vr/\u.cell? ⟨b,8,none⟩=some vt/\u.cell? ⟨xb,xo+q,none⟩=some (Ab Al (x.toNat:Int))):=by
        intro u hu;obtain⟨k0,k1,k2,k3,k4,k5,k6,k7,k8⟩:=(I.o.1.re.next hu).box.cells;exact⟨k0,k1,k2,k3,k4,k5,k6,k7,k8,((I.o.2.1.below hu).rdc.1.nums O).2⟩
       clear O aN a6 aP aZ br aS
       go_upto_region 17 with fail
       go_cut[13] (λ pv u=>Hid (∃Z pa pc,pv=.pointer (some ⟨Z,0,none⟩)/\gT u Z 129 #[Ab Al (tr.toNat:Int),Aa pa pn pc,Ab Ak dt,Ae nt]/\gQ gR u pa cm.ps/\An wr.heap.size wr u))
       case first =>
        have V0:Hid (An wr.heap.size wr wr.drew):=(Ao _ wr).drew
        have L:Hid (An wr.heap.size wr (wr.alloc (Ai #[Ab Al 0,Aa none 0 0,Ab Ak 0,Ae ⟨#[]⟩] 129)).drew/\gT (wr.alloc (Ai #[Ab Al 0,Aa none 0 0,Ab Ak 0,Ae ⟨#[]⟩] 129)).drew wr.heap.size 129 #[Ab Al 0,Aa none 0 0,Ab Ak 0,Ae ⟨#[]⟩]):=⟨(gW wr _).drew,PO _ _ _⟩
        have a8:=V.o _ V0.o;have az:=V.o _ L.o.1
        go_region_held3 (λ u=>u.cell? ⟨b,0,none⟩=some vf/\u.cell? ⟨b,1,none⟩=some (Ab Ak (d.writes:Int))/\u.cell? ⟨b,2,none⟩=some (Ad d.armed)/\u.cell? ⟨b,3,none⟩=some (Ad d.dead)/\u.cell? ⟨b,4,none⟩=some (Ab Ak (d.after:Int))/\u.cell? ⟨b,5,none⟩=some (Ab Ak (d.keep:Int))/\u.cell? ⟨b,6,none⟩=some (Aa oa on oc)/\u.cell? ⟨b,7,none⟩=some vr/\u.cell? ⟨b,8,none⟩=some vt/\u.cell? ⟨xb,xo+q,none⟩=some (Ab Al (x.toNat:Int)))
         (first | with_reducible exact a8 | with_reducible exact az | with_reducible exact aA | with_reducible exact bA | with_reducible exact aB | with_reducible exact bz | go_keep)
         (first
          | (go_at_call 74;(with_reducible refine(QG.o _ V0.o).mono ?_);rintro e F ⟨qa,qc,rfl,X1⟩;have M:Hid (An wr.heap.size wr F):=V0.o.trans (X1.o.2.2.1.mono V0.o.size);have aA:=V.o _ M.o;have aB:=V.o _ (M.o.trans ((gW F (Ai #[Ab Al 0,Aa none 0 0,Ab Ak 0,Ae ⟨#[]⟩] 129)).mono M.o.size));have bA:=V.o _ (M.o.trans ((gW F (Ai #[Ab Al (tr.toNat:Int),Aa qa pn qc,Ab Ak dt,Ae nt] 129)).mono M.o.size)))
          | (go_at_call 74;(with_reducible refine(QG.o _ L.o.1).mono ?_);rintro e F ⟨qa,qc,rfl,X1⟩;have M:Hid (An wr.heap.size wr F):=L.o.1.trans (X1.o.2.2.1.mono L.o.1.size);have aA:=V.o _ M.o;have bz:=V.o _ (Q9 M.o M.o.size (AA _) (Ab Al (tr.toNat:Int)) (Aa qa pn qc) (Ab Ak dt) (Ae nt));have C:=L.o.2.below X1.o.2.2.1 L.o.2.lt;have XH:Hid _:=C;have s0:=C.cell (j:=0) rfl;have s1:=C.cell (j:=1) rfl;have s2:=C.cell (j:=2) rfl;have s3:=C.cell (j:=3) rfl;have f0:=C.thaw 0;have f1:=C.thaw 1;have f2:=C.thaw 2;have f3:=C.thaw 3;clear C))
        all_goals
         go_wp2_with fail;go_meet
         first
          | exact⟨_,qa,qc,rfl,ZQ XH.o _ _ _ _,X1.o.1.turned (De (W:=F) wr.heap.size [Ab Al (tr.toNat:Int),Aa qa pn qc,Ab Ak dt,Ae nt] 0) (λ h0 p hp e=>by
            have N:=X1.o.2.2.2 (by have:=D.o.2.2.2.2;omega) p hp;have h2:=L.o.2.lt;have e':p.block=wr.heap.size:=e
            omega),Q9 M.o M.o.size (AA _) _ _ _ _⟩
          | exact⟨_,qa,qc,rfl,gT.new F _ _,X1.o.1.below (gW F _),M.o.trans ((gW F _).mono M.o.size)⟩
       case rest =>
        obtain⟨Z,pa,pc,a1,hZ,bg,ab⟩:=hcut.o;subst a1
        have HP:Hid (QA b w wc d vf oa on oc vr vt st ba bvs ia ids/\gM gR 61 wc 0 (Aa (some ⟨xb,xo,none⟩) K sc) xs/\gT wc Z 129 #[Ab Al (tr.toNat:Int),Aa pa pn pc,Ab Ak dt,Ae nt]/\gQ gR wc pa cm.ps/\∃vs,QO b wc _ st (m++xs) xs q vs):=⟨I.o.1.next ab,I.o.2.1.below ab,hZ,bg,by obtain⟨vs,h⟩:=I.o.2.2;exact⟨vs,h.below ab⟩⟩
        clear hcut QG V hZ bg ab I
        obtain⟨B,ax⟩:=Xa wc
        rw[ax]at HP ⊢;clear ax
        obtain⟨fb,aQ⟩:=Xa (st.fil cm)
        obtain⟨fs,aR⟩:∃fs:ByteArray,(⟨fb.toArray⟩:ByteArray)=fs:=⟨_,rfl⟩
        obtain⟨cn,aO⟩:=Xa ((st.chg cm).length)
        have QC:Hid (∀u,An B.heap.size B u->At Am 76 #[rm d vf (Aa oa on oc) vr vt,Ab Al (x.toNat:Int)] u λ e w'=>∃a c,e=Aj (Aa a cn c)/\Hid (Rd w' a (st.chg cm)/\An u.heap.size u w')):=by
         intro u hu;refine(UL (vf:=vf) (d:=d) (vr:=vr) (vt:=vt) (oc:=oc) (HP.o.1.re.next hu).ob H.o.1 aY H.o.2.1 x).mono ?_;rintro e w' ⟨v,rfl,J⟩;have ho:=J.o.1;rw[D.o.2.1]at ho;obtain⟨a,c,rfl,_,_,r⟩:=ho.form;exact⟨a,c,by rw[aO],r,J.o.2⟩
        have QM:Hid (∀u a c,Rd u a (st.chg cm)->At Am 75 #[Aa a cn c] u λ e w'=>e=Aj (Ae fs)/\An u.heap.size u w'):=by
         intro u a c hr;refine(Ve (c:=c) u hr aO (by have:=(Kg st cm).1;omega)).mono ?_;rintro e w' ⟨rfl,J⟩;refine⟨?_,J⟩;rw[<- aR,<- aQ]
         rfl
        have HF:Hid (st.fil cm=fb/\(⟨fb.toArray⟩:ByteArray)=fs):=⟨aQ,aR⟩
        have V:Hid (∀u,An B.heap.size B u->u.cell? ⟨b,0,none⟩=some vf/\u.cell? ⟨b,1,none⟩=some (Ab Ak (d.writes:Int))/\u.cell? ⟨b,2,none⟩=some (Ad d.armed)/\u.cell? ⟨b,3,none⟩=some (Ad d.dead)/\u.cell? ⟨b,4,none⟩=some (Ab Ak (d.after:Int))/\u.cell? ⟨b,5,none⟩=some (Ab Ak (d.keep:Int))/\u.cell? ⟨b,6,none⟩=some (Aa oa on oc)/\u.cell? ⟨b,7,none⟩=some vr/\u.cell? ⟨b,8,none⟩=some vt/\u.cell? ⟨xb,xo+q,none⟩=some (Ab Al (x.toNat:Int))/\u.cell? ⟨Z,0,none⟩=some (Ab Al (tr.toNat:Int))/\u.cell? ⟨Z,2,none⟩=some (Ab Ak dt)):=by
         intro u hu;obtain⟨k0,k1,k2,k3,k4,k5,k6,k7,k8⟩:=(HP.o.1.re.next hu).box.cells;have hz:=HP.o.2.2.1.below hu HP.o.2.2.1.lt;exact⟨k0,k1,k2,k3,k4,k5,k6,k7,k8,((HP.o.2.1.below hu).rdc.1.nums D.o.1).2,hz.cell (j:=0) rfl,hz.cell (j:=2) rfl⟩
        clear aQ aR aO
        go_upto_region 18 with fail
        go_cut[14] (λ pv u=>Hid (∃R,pv=.pointer (some ⟨R,0,none⟩)/\B.heap.size<=R/\gT u R 83 #[Ab Al (x.toNat:Int),Ab Al (tr.toNat:Int),Ab Ak dt,Aa none 0 0,Ab Ak 0,Ae fs]/\An B.heap.size B u))
        case first =>
         have V0:Hid (An B.heap.size B B.drew):=(Ao _ B).drew
         have L:Hid (An B.heap.size B (B.alloc (Ai #[Ab Al 0,Ab Al 0,Ab Ak 0,Aa none 0 0,Ab Ak 0,Ae ⟨#[]⟩] 83)).drew/\gT (B.alloc (Ai #[Ab Al 0,Ab Al 0,Ab Ak 0,Aa none 0 0,Ab Ak 0,Ae ⟨#[]⟩] 83)).drew B.heap.size 83 #[Ab Al 0,Ab Al 0,Ab Ak 0,Aa none 0 0,Ab Ak 0,Ae ⟨#[]⟩]):=⟨(gW B _).drew,PO _ _ _⟩
         have a8:=V.o _ V0.o;have az:=V.o _ L.o.1
         go_region_held3 (λ u=>u.cell? ⟨b,0,none⟩=some vf/\u.cell? ⟨b,1,none⟩=some (Ab Ak (d.writes:Int))/\u.cell? ⟨b,2,none⟩=some (Ad d.armed)/\u.cell? ⟨b,3,none⟩=some (Ad d.dead)/\u.cell? ⟨b,4,none⟩=some (Ab Ak (d.after:Int))/\u.cell? ⟨b,5,none⟩=some (Ab Ak (d.keep:Int))/\u.cell? ⟨b,6,none⟩=some (Aa oa on oc)/\u.cell? ⟨b,7,none⟩=some vr/\u.cell? ⟨b,8,none⟩=some vt/\u.cell? ⟨xb,xo+q,none⟩=some (Ab Al (x.toNat:Int))/\u.cell? ⟨Z,0,none⟩=some (Ab Al (tr.toNat:Int))/\u.cell? ⟨Z,2,none⟩=some (Ab Ak dt))
          (first | with_reducible exact a8 | with_reducible exact az | with_reducible exact aA | with_reducible exact aB | with_reducible exact a9 | with_reducible exact bC | with_reducible exact bB | with_reducible exact aJ | go_keep)
          (first
           | (go_at_call 75;(with_reducible refine(QM.o _ ca cc aj.o.2.2).mono ?_);rintro e w5 ⟨rfl,X2⟩;have V2:Hid (An B.heap.size B w5):=aj.o.1.trans (X2.mono aj.o.1.size);have a9:=V.o _ V2.o;have C:=aj.o.2.1.below X2 aj.o.2.1.lt;have bE:Hid _:=C;have s0:=C.cell (j:=0) rfl;have s1:=C.cell (j:=1) rfl;have s2:=C.cell (j:=2) rfl;have s3:=C.cell (j:=3) rfl;have s4:=C.cell (j:=4) rfl;have s5:=C.cell (j:=5) rfl;have f0:=C.thaw 0;have f1:=C.thaw 1;have f2:=C.thaw 2;have f3:=C.thaw 3;have f4:=C.thaw 4;have f5:=C.thaw 5;have aJ:=V.o _ (Kt V2.o V2.o.size M.o.1.size (Ab Al (x.toNat:Int)) (Ab Al (tr.toNat:Int)) (Ab Ak dt) (Aa none 0 0) (Ab Ak 0) (Ae fs));clear C)
           | (go_at_call 75;(with_reducible refine(QM.o _ ca cc M.o.2).mono ?_);have XB:=bF.o;rintro e w5 ⟨rfl,X2⟩;have V2:Hid (An B.heap.size B w5):=M.o.1.trans (X2.mono M.o.1.size);have a9:=V.o _ V2.o;have C:=XB.below X2 XB.lt;have bD:Hid _:=C;have s0:=C.cell (j:=0) rfl;have s1:=C.cell (j:=1) rfl;have s2:=C.cell (j:=2) rfl;have s3:=C.cell (j:=3) rfl;have s4:=C.cell (j:=4) rfl;have s5:=C.cell (j:=5) rfl;have f0:=C.thaw 0;have f1:=C.thaw 1;have f2:=C.thaw 2;have f3:=C.thaw 3;have f4:=C.thaw 4;have f5:=C.thaw 5;have aJ:=V.o _ (Kt V2.o V2.o.size (AA _) (Ab Al (x.toNat:Int)) (Ab Al (tr.toNat:Int)) (Ab Ak dt) (Aa none 0 0) (Ab Ak 0) (Ae fs));clear C XB)
           | (go_at_call 75;(with_reducible refine(QM.o _ ca cc M.o.2).mono ?_);rintro e w5 ⟨rfl,X2⟩;have V2:Hid (An B.heap.size B w5):=M.o.1.trans (X2.mono M.o.1.size);have a9:=V.o _ V2.o;have bC:=V.o _ (V2.o.trans ((gW w5 (Ai #[Ab Al 0,Ab Al 0,Ab Ak 0,Aa none 0 0,Ab Ak 0,Ae ⟨#[]⟩] 83)).mono V2.o.size));have bB:=V.o _ (V2.o.trans ((gW w5 (Ai #[Ab Al (x.toNat:Int),Ab Al (tr.toNat:Int),Ab Ak dt,Aa none 0 0,Ab Ak 0,Ae fs] 83)).mono V2.o.size)))
           | (go_at_call 76;(with_reducible refine(QC.o _ V0.o).mono ?_);rintro e F ⟨ca,cc,rfl,X1⟩;have M:Hid (An B.heap.size B F/\Rd F ca (st.chg cm)):=⟨V0.o.trans (X1.o.2.mono V0.o.size),X1.o.1⟩;have aA:=V.o _ M.o.1;have aj:Hid (An B.heap.size B (F.alloc (Ai #[Ab Al 0,Ab Al 0,Ab Ak 0,Aa none 0 0,Ab Ak 0,Ae ⟨#[]⟩] 83))/\gT (F.alloc (Ai #[Ab Al 0,Ab Al 0,Ab Ak 0,Aa none 0 0,Ab Ak 0,Ae ⟨#[]⟩] 83)) F.heap.size 83 #[Ab Al 0,Ab Al 0,Ab Ak 0,Aa none 0 0,Ab Ak 0,Ae ⟨#[]⟩]/\Rd (F.alloc (Ai #[Ab Al 0,Ab Al 0,Ab Ak 0,Aa none 0 0,Ab Ak 0,Ae ⟨#[]⟩] 83)) ca (st.chg cm)):=⟨M.o.1.trans ((gW F _).mono M.o.1.size),gT.new _ _ _,X1.o.1.below (gW F _)⟩;have aB:=V.o _ aj.o.1)
           | (go_at_call 76;(with_reducible refine(QC.o _ L.o.1).mono ?_);rintro e F ⟨ca,cc,rfl,X1⟩;have M:Hid (An B.heap.size B F/\Rd F ca (st.chg cm)):=⟨L.o.1.trans (X1.o.2.mono L.o.1.size),X1.o.1⟩;have aA:=V.o _ M.o.1;have bF:Hid (gT F B.heap.size 83 #[Ab Al 0,Ab Al 0,Ab Ak 0,Aa none 0 0,Ab Ak 0,Ae ⟨#[]⟩]):=L.o.2.below X1.o.2 L.o.2.lt))
         all_goals
          go_wp2_with fail;go_meet
          first
           | exact⟨_,rfl,AA _,O7 bD.o _ _ _ _ _ _,Kt V2.o V2.o.size (AA _) _ _ _ _ _ _⟩
           | exact⟨_,rfl,M.o.1.size,O7 bE.o _ _ _ _ _ _,Kt V2.o V2.o.size M.o.1.size _ _ _ _ _ _⟩
           | exact⟨_,rfl,V2.o.size,gT.new w5 _ _,V2.o.trans ((gW w5 _).mono V2.o.size)⟩
        case rest =>
         obtain⟨R,a1,bh,hR,ab⟩:=hcut.o;subst a1
         have bf:Hid (tx fb=Ae fs):=by show tx fb=_;rw[<- HF.o.2]
         have L4:Hid (QR B wc R x tr dt fb (m++xs) cm.ps 0):=by
          refine⟨ab,bh,⟨none,0,0,?_,gM.nil _ _ _ _⟩,by simp⟩;rw[bf.o];exact hR
         clear hcut QC QM V ab hR bh bf
         have bV:pn<=8:=by rw[<- D.o.2.2.2.2,<- D.o.2.1];exact Kf st x
         have KU:Hid (∀u,An B.heap.size B u->QA b w u d vf oa on oc vr vt st ba bvs ia ids/\gM gR 61 u 0 (Aa (some ⟨xb,xo,none⟩) K sc) xs/\u.cell? ⟨Z,1,none⟩=some (Aa pa pn pc)/\gQ gR u pa cm.ps):=λ u hu=>⟨HP.o.1.next hu,HP.o.2.1.below hu,(HP.o.2.2.1.below hu HP.o.2.2.1.lt).cell (j:=1) rfl,HP.o.2.2.2.1.below hu⟩
         go_wp2_with fail;go_loopg[15] pn (λ k v u=>∃t:Nat,v=Ab Ak t/\t+k=pn/\Hid (QR B u R x tr dt fb (m++xs) cm.ps t))
         case atStart=>exact⟨0,rfl,by omega,L4.o⟩
         case round =>
          obtain⟨t,rfl,ht,HT⟩:=hrel;clear L4;obtain⟨kA,kB,kC,kD⟩:=KU.o wr HT.o.bel;by_cases bP:t<pn
          ·have td:(t:Int)<(pn:Int):=by omega
           have b6:(0:Int)<=(t:Int):=by omega
           obtain⟨gt,aU⟩:=Xb gk
           rw[<- aU]at ht;have GT:Hid (gt=gk):=aU;clear aU
           obtain⟨p,hp⟩:∃p,cm.ps[t]? = some p:=⟨_,Aq (by rw[D.o.2.2.2.2];exact bP)⟩
           obtain⟨pb,po,rfl,_⟩:=kD.some_of hp;have cp:=(kD.nums hp).2
           obtain⟨a0,aL⟩:=Xa (mf m p)
           have ap:=Nl (c:=bc) kA.bl H.o.2.2.1 (by omega) p a0 (by rw[H.o.2.2.2.2.2.2.2.1];exact aL)
           have ai:Hid (cm.ps[t]? = some p/\mf m p=a0):=⟨hp,aL⟩
           clear kA kB kD hp aL;go_wp2_with fail;refine ap.mono ?_;rintro e w6 ⟨rfl,rfl⟩;clear ap kC cp;go_wp2_with fail;go_loopg[16,17] K (λ k av v u=>∃(z:Nat) (a:Int),v=Ab Ak z/\av=Ab Ak a/\z+k=K /\ -1<=a/\a<=1000000/\Hid (a=mf (m++xs.take z) p/\An w6.heap.size w6 u))
           case atStart =>
            refine⟨0,a0,rfl,rfl,by omega,?_,?_,?_,Ao _ _⟩
            ·rw[<- ai.o.2];unfold mf
             split <;> omega
            ·rw[<- ai.o.2];unfold mf;have N:=H.o.2.2.2.2.2.2.2.2.2;have h2:m.idxOf p<=m.length:=List.idxOf_le_length
             split <;> omega
            ·rw[<- ai.o.2];simp
           case round =>
            obtain⟨z,a,rfl,rfl,hz,bW,bX,HZ⟩:=hrel;have X:=HT.o.bel.trans (HZ.o.2.mono HT.o.bel.size);by_cases bS:z<K
            ·have zd:(z:Int)<(K:Int):=by omega
             have b7:(0:Int)<=(z:Int):=by omega
             obtain⟨y,hy⟩:∃y,xs[z]? = some y:=⟨_,Aq (by rw[P.o.2.2.1];exact bS)⟩
             have q0:∀u:SW (gN wr),u.w.cell? ⟨xb,xo+z,none⟩=some (Ab Al (y.toNat:Int)):=λ u=>(((KU.o wr X).2.1.below u.ok).rdc.1.nums hy).2
             have q1:∀u:SW (gN wr),u.w.cell? ⟨Z,1,none⟩=some (Aa (some ⟨pb,po,none⟩) pn pc):=λ u=>(KU.o u.w (X.trans (u.ok.mono X.size))).2.2.1
             have q2:∀u:SW (gN wr),u.w.cell? ⟨pb,po+t,none⟩=some (Ab Al (p.toNat:Int)):=λ u=>((KU.o u.w (X.trans (u.ok.mono X.size))).2.2.2.nums ai.o.1).2
             have NE:Nonempty (SW (gN wr)):=⟨⟨wr,Ao _ wr⟩⟩
             have A:xs.take (z+1)=xs.take z++[y]:=by rw[AW,hy];rfl
             have aX:¬y∈m++xs.take z:=by
              have am:=P.o.2.2.2.2.1;rw[<- BC (z+1) xs,A,<- AT,<- AT]at am
              exact λ q=>(Cr.1 (Cr.1 am).1).2.2 y q y (by simp) rfl
             have aV:(m++xs.take z).length=bn+z:=by
              have N:=H.o.2.2.2.2.2.2.2.2.2;have h2:=P.o.2.2.1;rw[Ax,AE];omega
             go_upto_region 26 with fail
             go_cut[117] (λ tv u=>tv=Ad (decide (y=p))/\Hid (An wr.heap.size wr u))
             case first =>
              by_cases e:y=p
              ·subst e;refine Bb (S:=gN wr) (by kernel_rfl) (by kernel_rfl) (Ao _ wr).drew ?_
               repeat(go_big_quiet_step (fail))
               refine AS ?_;intro _ U;obtain⟨u,E⟩:=U;subst E;go_wp2_with fail;go_meet;exact⟨by simp,u.ok⟩
              ·have e1:=NJ e;refine Bb (S:=gN wr) (by kernel_rfl) (by kernel_rfl) (Ao _ wr).drew ?_
               repeat(go_big_quiet_step (fail))
               refine AS ?_;intro _ U;obtain⟨u,E⟩:=U;subst E;go_wp2_with fail;go_meet;exact⟨by simp[e,e1],u.ok⟩
             case rest =>
              obtain⟨rfl,be⟩:=hcut;have bj:Hid (An w6.heap.size w6 wc):=HZ.o.2.trans (be.o.mono HZ.o.2.size);clear q0 q1 q2 NE be;by_cases e:y=p
              ·have ed:decide (y=p)=true:=by simpa using e
               have s:Hid ((bn:Int)+(z:Int)=mf (m++xs.take (z+1)) p):=by
                show _=_;rw[A,<- AT,e,XD (by rw[<- e];exact aX),aV];omega
               have e1:Ak.wrap ((bn:Int)+(z:Int))=(bn:Int)+(z:Int):=by rw[IntKind.wrap_i64];have:=P.o.2.2.2.2.2;omega
               have bR:(bn:Int)+(z:Int)<=1000000:=by have:=P.o.2.2.2.2.2;omega
               rw[ed];clear e A aX aV hy ed;go_wp2_with fail;go_roundg (gk - 1)
               case measure=>omega
               case rel=>exact⟨z+1,(bn:Int)+(z:Int),by go_num,rfl,by omega,by omega,bR,s.o,bj.o⟩
              ·have ed:decide (y=p)=false:=by simpa using e
               have s:Hid (a=mf (m++xs.take (z+1)) p):=by
                show _=_;rw[A,<- AT,U5 e];exact HZ.o.1
               rw[ed];clear e A aX aV hy ed;go_wp2_with fail;go_roundg (gk - 1)
               case measure=>omega
               case rel=>exact⟨z+1,a,by go_num,rfl,by omega,by omega,by omega,s.o,bj.o⟩
            ·obtain rfl:z=K:=by omega
             have zd:¬(z:Int)<(z:Int):=by omega
             have A:xs.take z=xs:=Av (by rw[P.o.2.2.1];exact AA _)
             have HQ:Hid (QR B wr R x tr dt fb (m++xs) cm.ps t/\a=mf (m++xs) p):=by
              refine⟨HT.o.next HZ.o.2,?_⟩;have:=HZ.o.1;rw[A]at this;exact this
             clear HZ A HT;by_cases bU:a<0
             ·have s:Hid (∃vs rs,st.told m G ids 14 rs/\gM im 83 wr b (Aa none 0 0) vs/\jc wr b vs rs/\An b w wr):=by
               refine⟨[],[],.open_ P.o.1 P.o.2.1 (λ q=>?_),gM.nil _ _ _ _,jc.nil _ _,(KU.o wr X).1.bel⟩;have hm:=A8 D.o.1;rw[<- P.o.2.2.2.1,IA]at hm;have N:=Ju.2 (q x hm p (by rw[D.o.2.1];exact A8 ai.o.1));rw[P.o.2.2.2.1]at N;have h2:=Kh.2 N;rw[<- HQ.o.2]at h2;omega
              clear HQ X;go_wp2_with fail;refine As (AD rfl _ _ _) rfl ?_;exact⟨_,_,rfl,s.o⟩
             ·have aI:p∈m++xs:=Kh.1 (by rw[<- HQ.o.2];omega);obtain⟨ra,rn,af,Q,ae⟩:=HQ.o.1.row;have r3:=Q.cell (j:=3) rfl;have Y:B.heap.size<=wr.heap.size:=X.size
              have bO:(kL (m++xs) (cm.ps.take t)).length<=8:=by
               unfold kL;rw[A4,AE];omega
              have HO:Hid (gT wr R 83 #[Ab Al (x.toNat:Int),Ab Al (tr.toNat:Int),Ab Ak dt,Aa ra rn af,Ab Ak 0,tx fb]/\gM encI 3 wr B.heap.size (Aa ra rn af) (kL (m++xs) (cm.ps.take t))/\p∈m++xs):=⟨Q,ae,aI⟩
              clear Q aI;go_wp2_with(at_builtin;refine BA encI 3 23 8 (Ab Ak 0) rfl Tryz.info3 underlying23 rfl (.tmp 125) (.tmp 127) rfl B.heap.size _ _ a _ rfl ae rfl (by omega) (by simp only[AH];omega) Y _ rfl ?_;intro v4 F an ar aW aa;obtain⟨vn,bw⟩:=Xa ((kL (m++xs) (cm.ps.take t)++[a]).length);obtain⟨va,vc,bQ,_,_⟩:=gM.whole an bw;subst bQ;have ag:=HO.o.1.turned aa (HO.o.2.1.ne_box HO.o.1 (by decide));have s3:=ag.cell (j:=3) rfl;have f3:=ag.thaw 3;have ah:Hid (gM encI 3 F B.heap.size (Aa va vn vc) (kL (m++xs) (cm.ps.take t)++[a])/\An B.heap.size wr F/\gT F R 83 #[Ab Al (x.toNat:Int),Ab Al (tr.toNat:Int),Ab Ak dt,Aa ra rn af,Ab Ak 0,tx fb]):=⟨an,ar,ag⟩;clear an ar aW aa ag bw)
              have s:Hid (QR B (F.setCell ⟨R,3,none⟩ (Aa va vn vc)) R x tr dt fb (m++xs) cm.ps (t+1)):=by
               have hT:Aw (λ k=>k=R) F (F.setCell ⟨R,3,none⟩ (Aa va vn vc)):=BR _ _;have bi:=X.trans (ah.o.2.1)
               have A:cm.ps.take (t+1)=cm.ps.take t++[p]:=by rw[AW,ai.o.1];rfl
               refine⟨bi.trans (hT.below bi.size (λ k hk e=>by have e':k=R:=e;have:=HQ.o.1.low;omega)),HQ.o.1.low,⟨va,vn,vc,ah.o.2.2.put 3 _,?_⟩,λ y hy=>?_⟩
               ·have N:=ah.o.1.stays hT (λ g hg e=>by
                 have e':g=R:=e;rw[e']at hg
                 exact ah.o.1.ne_box ah.o.2.2 (by decide) hg)
                rw[A]
                have e:kL (m++xs) (cm.ps.take t++[p])=kL (m++xs) (cm.ps.take t)++[a]:=by
                 unfold kL;rw[BV,HQ.o.2,XZ HO.o.2.2]
                 rfl
                rw[e];exact N
               ·rw[A]at hy
                rcases AN.1 hy with z|z
                ·exact HQ.o.1.in_ y z
                ·rw[AZ]at z;rw[z];exact HO.o.2.2
              clear ah HO HQ ae X Y bO r3;go_wp2_with fail;go_roundg (gt - 1)
              case measure=>have:=GT.o;omega
              case rel=>exact⟨t+1,by go_num,by omega,s.o⟩
          ·obtain rfl:t=pn:=by omega
           have td:¬(t:Int)<(t:Int):=by omega
           have A:cm.ps.take t=cm.ps:=Av (by rw[D.o.2.2.2.2];exact AA _);obtain⟨ra,rn,af,Q,ae⟩:=HT.o.row;rw[A]at ae;have r0:=Q.cell (j:=0) rfl;have r1:=Q.cell (j:=1) rfl;have r2:=Q.cell (j:=2) rfl;have r3:=Q.cell (j:=3) rfl;have r4:=Q.cell (j:=4) rfl;have r5:=Q.cell (j:=5) rfl;have Y:b<=wr.heap.size:=CJ kA.re.box.lt;have ax:b<=B.heap.size:=CJ HP.o.1.re.box.lt;obtain⟨vs,hV⟩:=HP.o.2.2.2.2;have aK:=hV.below HT.o.bel
           have bT:vs.length<=100000:=by rw[hV.len];omega
           have HO:Hid (gM encI 3 wr b (Aa ra rn af) (kL (m++xs) cm.ps)/\QO b wr _ st (m++xs) xs q vs/\QA b w wr d vf oa on oc vr vt st ba bvs ia ids/\gM gR 61 wr 0 (Aa (some ⟨xb,xo,none⟩) K sc) xs/\∀y∈cm.ps,y∈m++xs):=⟨ae.low ax,aK,kA,kB,by
            have:=HT.o.in_;rw[A]at this
            exact this⟩
           have ak:=aK.own;clear A Q ae hV aK HT kA kB kD ax;go_wp2_with(at_builtin;refine BA im 83 41 72 (Ag #[Ab Al 0,Ab Al 0,Ab Ak 0,Aa none 0 0,Ab Ak 0,Ae ⟨#[]⟩]) rfl mK mg rfl (.tmp 130) (.tmp 132) rfl b _ _ ⟨x,tr,dt,ra,rn,af,0,fb⟩ _ rfl ak rfl (by omega) (by simp only[AH];omega) Y _ rfl ?_;intro v4 F an ar aW aa)
           have s:Hid (QA b w F d vf oa on oc vr vt st ba bvs ia ids/\gM gR 61 F 0 (Aa (some ⟨xb,xo,none⟩) K sc) xs/\∃vs,QO b F v4 st (m++xs) xs (q+1) vs):=by
            have hA:=HO.o.2.2.1;have bm:An b w F:=hA.bel.trans ar
            have au:An w.heap.size w F:=by rw[H.o.2.2.2.2.2.2.2.2.1];exact bm
            have al:=ak.noIB (by decide) (by decide);refine⟨⟨⟨hA.re.box.turned aa (ak.ne_box hA.re.box (by decide)),aC.o.2.1.below au⟩,aC.o.1.below au,aC.o.2.2.below au,bm⟩,HO.o.2.2.2.1.stays aa (λ g hg e=>ak.ne_own HO.o.2.2.2.1 (by decide) e hg),_,an,by rw[Ax,HO.o.2.1.len];rfl,λ k v y N h2=>?_,λ y hy=>?_⟩
            ·by_cases hk:k<vs.length
             ·rw[List.getElem?_append_left hk]at N;exact(HO.o.2.1.at_ k v y N h2).stays aa al
             ·rw[List.getElem?_append_right (by omega)]at N
              have bK:k - vs.length=0:=by
               have:=(AG.1 N).1;simp at this;omega
              rw[bK]at N
              have e1:v=⟨x,tr,dt,ra,rn,af,0,fb⟩:=by simpa using N.symm
              have bL:k=q:=by have:=HO.o.2.1.len;omega
              rw[bL,D.o.1]at h2
              have e2:x=y:=by simpa using h2
              subst e1 e2
              have bu:st.row (m++xs) x 0=⟨x,tr,dt,kL (m++xs) cm.ps,0,fb⟩:=by
               unfold St.row;rw[D.o.2.1,D.o.2.2.1,D.o.2.2.2.1,HF.o.1]
              rw[bu];exact⟨rfl,rfl,rfl,rfl,HO.o.1.stays aa (λ g hg e=>ak.ne_own HO.o.1 (by decide) e hg),rfl⟩
            ·rw[AW,D.o.1]at hy
             rcases AN.1 hy with z|z
             ·exact HO.o.2.1.shut y z
             ·have e:y=x:=by simpa using z
              rw[e,D.o.2.1];exact HO.o.2.2.2.2
           clear an ar aW aa HO ak Y;go_wp2_with fail;go_roundg (go - 1)
           case measure=>have:=GO.o;omega
           case rel=>exact⟨q+1,by go_num,by omega,s.o⟩
      ·obtain rfl:q=K:=by omega
       have qd:¬(q:Int)<(q:Int):=by omega
       obtain⟨hA,bG,vs,hV⟩:=I.o;have A:xs.take q=xs:=Av (by rw[P.o.2.2.1];exact AA _)
       have ad:st.free m ids:=⟨P.o.1,P.o.2.1,λ x O p hp=>by
        have N:=hV.shut x (by rw[A,<- P.o.2.2.2.1,IA];exact O) p hp;rw[<- P.o.2.2.2.1]at N
        exact Ju.1 N⟩
       obtain⟨a5,aG⟩:=HG.o ad;rw[P.o.2.2.2.1]at a5 aG
       have ap:(st.pss (m++xs) xs).length=q:=by unfold St.pss;rw[A4];exact P.o.2.2.1
       have bo:G.length=q:=by rw[aG.len];exact ap
       obtain⟨bb,bd,rfl,_,_,_,_⟩:=hV.own.form;rw[hV.len];have hO:=hV.own;rw[hV.len]at hO
       have a7:∀(k:Nat) (v:RV),vs[k]? = some v->∃x,xs[k]? = some x/\ni wr b v (st.row (m++xs) x 0):=by
        intro k v hv
        have hk:k<q:=by
         have:=(AG.1 hv).1;rw[hV.len]at this;exact this
        obtain⟨x,O⟩:∃x,xs[k]? = some x:=⟨_,Aq (by rw[P.o.2.2.1];exact hk)⟩
        exact⟨x,O,hV.at_ k v x hv O⟩
       have al:=hO.noIB (by decide) (by decide);have Y:b<=wr.heap.size:=CJ hA.re.box.lt
       have bt:=Uo (bc:=bc) (λ u hu=>by
         have N:=hA.bel.trans (hO.turn Y hu);rw[<- H.o.2.2.2.2.2.2.2.2.1]at N
         exact aC.o.1.below N) H.o.2.2.1 H.o.2.2.2.1 hO (λ v hv=>by
        obtain⟨k,hk,e⟩:=CE hv;obtain⟨x,_,r⟩:=a7 k v (by rw[Aq hk,e])
        exact r.gen) (λ k v ps N h2=>by
        obtain⟨x,O,r⟩:=a7 k v N;unfold St.pss at h2;rw[Bo,O]at h2
        have e:kL (m++xs) (st.com x).ps=ps:=by simpa using h2
        have hl:(kL (m++xs) (st.com x).ps).length=v.pn:=DC r.ps
        have bY:(kL (m++xs) (st.com x).ps).length<=8:=by unfold kL;rw[A4];exact Kf st x
        rw[<- e]
        exact⟨hl,by omega,λ u hu=>(r.stays hu al).ps.rdc.1⟩) ap a5 aG (by have:=P.o.2.2.2.2.2;omega)
       have HK:Hid (QO b wr (Aa bb q bd) st (m++xs) xs q vs/\st.free m ids/\G.length=q/\QA b w wr d vf oa on oc vr vt st ba bvs ia ids/\gM im 83 wr b (Aa bb q bd) vs):=⟨by have:=hV;rw[hV.len]at this;exact this,ad,bo,hA,hO⟩
       clear I hA bG hV A ad a5 aG ap bo hO a7 al Y;go_wp2_with fail;refine bt.mono ?_;rintro e w7 ⟨rfl,J7⟩
       have s:Hid (∃vs rs,st.told m G ids 0 rs/\gM im 83 w7 b (Aa bb q bd) vs/\jc w7 b vs rs/\An b w w7):=by
        have Y:b<=wr.heap.size:=CJ HK.o.2.2.2.1.re.box.lt;have al:=HK.o.2.2.2.2.noIB (by decide) (by decide);have ht:=St.told.rows (G:=G) HK.o.2.1;rw[P.o.2.2.2.1]at ht;refine⟨_,_,ht,J7.o.1,⟨?_,λ k v r N h2=>?_⟩,HK.o.2.2.2.1.bel.trans (HK.o.2.2.2.2.turn Y J7.o.2)⟩
        ·unfold St.rows;rw[Oy (by rw[HK.o.2.2.1,HK.o.1.len]),Dp,HK.o.1.len,P.o.2.2.1,HK.o.2.2.1,Hc]
        ·have hk:k<q:=by
          have:=(AG.1 N).1;rw[Oy (by rw[HK.o.2.2.1,HK.o.1.len]),HK.o.1.len]at this;exact this
         obtain⟨v0,hv⟩:∃v0,vs[k]? = some v0:=⟨_,Aq (by rw[HK.o.1.len];exact hk)⟩
         obtain⟨g,hg⟩:∃g,G[k]? = some g:=⟨_,Aq (by rw[HK.o.2.2.1];exact hk)⟩
         obtain⟨x,O⟩:∃x,xs[k]? = some x:=⟨_,Aq (by rw[P.o.2.2.1];exact hk)⟩
         rw[Mr hv hg]at N;unfold St.rows at h2;rw[C8,O,hg]at h2;cases N;cases h2;have:=(HK.o.1.at_ k v0 x hv O).stays J7.o.2 al;exact⟨this.id,this.tree,this.date,rfl,this.ps,this.fb⟩
       clear J7 bt HK;go_wp2;refine As (AD rfl _ _ _) rfl ?_;exact⟨_,_,rfl,s.o⟩
structure nQ(w:Ap)(v:RV)(r:Rw):Prop where
 id:v.id=r.id
 tree:v.tree=r.tree
 date:v.date=r.date
 gen:v.gen=r.gen
 ps:gQ encI w v.pa r.ps
 len:r.ps.length=v.pn
 fb:v.fb=r.fb
theorem ni.rd(h:ni w B v r):nQ w v r:=⟨h.id,h.tree,h.date,h.gen,h.ps.rdc.1,DC h.ps,h.fb⟩
theorem nQ.below(h:nQ w v r)(a:Iz w w'):nQ w' v r:=⟨h.id,h.tree,h.date,h.gen,h.ps.below a,h.len,h.fb⟩
structure lj(w:Ap)(a:Option Addr)(rs:List Rw):Prop where
 rd:∃vs,gQ im w a vs/\vs.length=rs.length/\∀(i:Nat) (v:RV) (r:Rw),vs[i]? = some v->rs[i]? = some r->nQ w v r
theorem lj.below(h:lj w a rs)(b:Iz w w'):lj w' a rs:=by
 obtain⟨vs,c,d,e⟩:=h.rd;exact⟨vs,c.below b,d,λ i v r f g=>(e i v r f g).below b⟩
theorem jc.rd{vs:List RV}{t:TypeId}{B':Nat}(h:jc w B vs rs)(b:gM im t w B' (Aa a n c) vs):lj w a rs:=⟨vs,b.rdc.1,h.len,λ i v r d e=>(h.at_ i v r d e).rd⟩
theorem Na{b:Option Addr}{c':Nat}(ha:lj w a rs)(hb:lj w b rs)(hl:rs.length=n)(hn:n<=1000000)(hp:∀r∈rs,r.ps.length<=1000000):
  At Am 12 #[Aa a n c,Aa b n c'] w λ e w'=>e=Aj (Ad true)/\Iz w w':=by
 obtain⟨U,a1,a2,a3⟩:=ha.rd;obtain⟨V,b1,b2,b3⟩:=hb.rd
 have H:=I8 a1 (by omega:U.length=n) a3 b1 (by omega:V.length=n) b3 hl hp
 clear ha hb a1 a2 a3 b1 b2 b3 hl hp;go_enter func12,ntmps12;go_wp2_with fail;go_loopg[5] n (λ k v wr=>∃i:Nat,v=Ab Ak i/\i+k=n/\Hid (Iz w wr))
 case atStart=>exact⟨0,rfl,by omega,Ao _ _⟩
 case round =>
  obtain⟨i,rfl,hi,h⟩:=hrel;by_cases A:i<n
  ·have id:(i:Int)<(n:Int):=by omega
   have ad:(0:Int)<=(i:Int):=by omega
   obtain⟨go,t⟩:=Xb gk;rw[<- t]at hi;have GO:=Ih t;clear t
   obtain⟨r,P⟩:∃r,rs[i]? = some r:=⟨_,Aq (by rw[H.o.2.2.2.2.2.2.1];exact A)⟩
   obtain⟨x,R⟩:∃x,U[i]? = some x:=⟨_,Aq (by rw[H.o.2.1];exact A)⟩
   obtain⟨y,T⟩:∃y,V[i]? = some y:=⟨_,Aq (by rw[H.o.2.2.2.2.1];exact A)⟩
   obtain⟨l,ao,rfl,_⟩:=H.o.1.some_of R;obtain⟨m,bo,rfl,_⟩:=H.o.2.2.2.1.some_of T;have f:=H.o.2.2.1 i x r R P;have g:=H.o.2.2.2.2.2.1 i y r T P;obtain⟨pn,p⟩:=Xa r.ps.length;have ac:=H.o.2.2.2.2.2.2.2 r (A8 P);rw[p]at ac
   have s:Hid (∀u,Iz w u->(u.cell? ⟨l,ao+i*6,none⟩=some (Ab Al (r.id.toNat:Int))/\u.cell? ⟨l,ao+i*6+1,none⟩=some (Ab Al (r.tree.toNat:Int))/\u.cell? ⟨l,ao+i*6+2,none⟩=some (Ab Ak r.date)/\u.cell? ⟨l,ao+i*6+3,none⟩=some (Aa x.pa pn x.pc)/\u.cell? ⟨l,ao+i*6+4,none⟩=some (Ab Ak r.gen)/\u.cell? ⟨l,ao+i*6+5,none⟩=some (tx r.fb))/\(u.cell? ⟨m,bo+i*6,none⟩=some (Ab Al (r.id.toNat:Int))/\u.cell? ⟨m,bo+i*6+1,none⟩=some (Ab Al (r.tree.toNat:Int))/\u.cell? ⟨m,bo+i*6+2,none⟩=some (Ab Ak r.date)/\u.cell? ⟨m,bo+i*6+3,none⟩=some (Aa y.pa pn y.pc)/\u.cell? ⟨m,bo+i*6+4,none⟩=some (Ab Ak r.gen)/\u.cell? ⟨m,bo+i*6+5,none⟩=some (tx r.fb))/\gQ encI u x.pa r.ps/\gQ encI u y.pa r.ps):=by
    intro u Q;have k1:=(H.o.1.below Q).rrows R;have k2:=(H.o.2.2.2.1.below Q).rrows T;rw[f.id,f.tree,f.date,f.gen,f.fb,<- f.len,p]at k1;rw[g.id,g.tree,g.date,g.gen,g.fb,<- g.len,p]at k2;exact⟨k1,k2,f.ps.below Q,g.ps.below Q⟩
   obtain⟨D,E⟩:∃D:ByteArray,(⟨r.fb.toArray⟩:ByteArray)=D:=⟨_,rfl⟩
   obtain⟨z0,L⟩:∃z0:Int,(r.id.toNat:Int)=z0:=⟨_,rfl⟩
   obtain⟨W,M⟩:∃W:Int,(r.tree.toNat:Int)=W:=⟨_,rfl⟩
   obtain⟨X,N⟩:∃X:Int,r.date=X:=⟨_,rfl⟩
   obtain⟨z4,O⟩:∃z4:Int,r.gen=z4:=⟨_,rfl⟩
   obtain⟨xa,F⟩:=Xa x.pa;obtain⟨xc,G⟩:=Xa x.pc;obtain⟨ya,I⟩:=Xa y.pa;obtain⟨yc,J⟩:=Xa y.pc;rw[L,M,N,O,F,G,I,J,show tx r.fb=Ae D by rw[<- E]]at s;have HL:=Ih p
   have NE:Nonempty (SW (gN wr)):=⟨⟨wr,Ao _ wr⟩⟩
   have d:=λ(u:SW (gN wr))=>s.o u.w (h.o.trans (u.ok.mono h.o.size))
   have p0:∀u:SW (gN wr),u.w.cell? ⟨l,ao+i*6,none⟩=some (Ab Al z0):=λ u=>(d u).1.1
   have p1:∀u:SW (gN wr),u.w.cell? ⟨l,ao+i*6+1,none⟩=some (Ab Al W):=λ u=>(d u).1.2.1
   have p2:∀u:SW (gN wr),u.w.cell? ⟨l,ao+i*6+2,none⟩=some (Ab Ak X):=λ u=>(d u).1.2.2.1
   have p3:∀u:SW (gN wr),u.w.cell? ⟨l,ao+i*6+3,none⟩=some (Aa xa pn xc):=λ u=>(d u).1.2.2.2.1
   have p4:∀u:SW (gN wr),u.w.cell? ⟨l,ao+i*6+4,none⟩=some (Ab Ak z4):=λ u=>(d u).1.2.2.2.2.1
   have p5:∀u:SW (gN wr),u.w.cell? ⟨l,ao+i*6+5,none⟩=some (Ae D):=λ u=>(d u).1.2.2.2.2.2
   have q0:∀u:SW (gN wr),u.w.cell? ⟨m,bo+i*6,none⟩=some (Ab Al z0):=λ u=>(d u).2.1.1
   have q1:∀u:SW (gN wr),u.w.cell? ⟨m,bo+i*6+1,none⟩=some (Ab Al W):=λ u=>(d u).2.1.2.1
   have q2:∀u:SW (gN wr),u.w.cell? ⟨m,bo+i*6+2,none⟩=some (Ab Ak X):=λ u=>(d u).2.1.2.2.1
   have q3:∀u:SW (gN wr),u.w.cell? ⟨m,bo+i*6+3,none⟩=some (Aa ya pn yc):=λ u=>(d u).2.1.2.2.2.1
   have q4:∀u:SW (gN wr),u.w.cell? ⟨m,bo+i*6+4,none⟩=some (Ab Ak z4):=λ u=>(d u).2.1.2.2.2.2.1
   have q5:∀u:SW (gN wr),u.w.cell? ⟨m,bo+i*6+5,none⟩=some (Ae D):=λ u=>(d u).2.1.2.2.2.2.2
   clear d P R T f g E L M N O F G I J p;go_upto_region 6 with fail
   go_cut[95] (λ tv u=>tv=Ad false/\Hid (Iz wr u))
   case first =>
    simp only[List.append];refine Bb (S:=gN wr) (by kernel_rfl) (by kernel_rfl) (Ao _ wr).drew ?_
    repeat(go_big_quiet_step (fail))
    refine AS ?_;intro _ B;obtain⟨u,q⟩:=B;subst q;go_wp2_with fail;go_meet;exact⟨rfl,u.ok⟩
   case rest =>
    obtain⟨rfl,C⟩:=hcut;clear NE p0 p1 p2 p3 p4 p5 q0 q1 q2 q3 q4 q5;have Z:=Ih (h.o.trans (C.o.mono h.o.size));have c3:=(s.o wc Z.o).1.2.2.2.1;clear C h;go_wp2_with fail;go_loopg[6] pn (λ k v wr=>∃j:Nat,v=Ab Ak j/\j+k=pn/\Hid (Iz w wr))
    case atStart=>exact⟨0,rfl,by omega,Z.o⟩
    case round =>
     obtain⟨j,rfl,hj,h⟩:=hrel;clear Z c3;have c3:=(s.o wr h.o).1.2.2.2.1;by_cases aa:j<pn
     ·have jd:(j:Int)<(pn:Int):=by omega
      have ae:(0:Int)<=(j:Int):=by omega
      obtain⟨z,K⟩:∃z,r.ps[j]? = some z:=⟨_,Aq (by rw[HL.o];exact aa)⟩
      obtain⟨xb,xo,rfl,_⟩:=(s.o wr h.o).2.2.1.some_of K;obtain⟨yb,yo,rfl,_⟩:=(s.o wr h.o).2.2.2.some_of K
      have d:=λ(u:SW (gN wr))=>s.o u.w (h.o.trans (u.ok.mono h.o.size))
      have p3:∀u:SW (gN wr),u.w.cell? ⟨l,ao+i*6+3,none⟩=some (Aa (some ⟨xb,xo,none⟩) pn xc):=λ u=>(d u).1.2.2.2.1
      have q3:∀u:SW (gN wr),u.w.cell? ⟨m,bo+i*6+3,none⟩=some (Aa (some ⟨yb,yo,none⟩) pn yc):=λ u=>(d u).2.1.2.2.2.1
      have p6:∀u:SW (gN wr),u.w.cell? ⟨xb,xo+j,none⟩=some (Ab Ak z):=λ u=>(d u).2.2.1.ints K
      have q6:∀u:SW (gN wr),u.w.cell? ⟨yb,yo+j,none⟩=some (Ab Ak z):=λ u=>(d u).2.2.2.ints K
      have NE:Nonempty (SW (gN wr)):=⟨⟨wr,Ao _ wr⟩⟩
      clear d K;go_upto_region 11 with fail
      go_cut[122] (λ tv u=>tv=Ad false/\Hid (Iz wr u))
      case first =>
       refine Bb (S:=gN wr) (by kernel_rfl) (by kernel_rfl) (Ao _ wr).drew ?_
       repeat(go_big_quiet_step (fail))
       refine AS ?_;intro _ B;obtain⟨u,q⟩:=B;subst q;go_wp2_with fail;go_meet;exact⟨rfl,u.ok⟩
      case rest =>
       obtain⟨rfl,C⟩:=hcut;have Y:=Ih (h.o.trans (C.o.mono h.o.size));clear NE p3 q3 p6 q6 C c3;go_wp2_with fail;go_roundg (gk - 1)
       case measure=>omega
       case rel=>exact⟨j+1,by go_num,by omega,Y.o⟩
     obtain rfl:j=pn:=by omega
     have jd:¬(j:Int)<(j:Int):=by omega
     go_wp2_with fail;go_roundg (go - 1)
     case measure=>have:=GO.o;omega
     case rel=>exact⟨i+1,by go_num,by omega,h.o⟩
  obtain rfl:i=n:=by omega
  have id:¬(i:Int)<(i:Int):=by omega
  go_wp2;go_ret;exact⟨rfl,h.o⟩
def LV.rv(v:LV)(r:Rw):RV:=⟨v.id,v.tree,v.date,v.pa,v.pn,v.pc,v.gen,r.fb⟩
theorem mU.rv{v:LV}(h:mU w v r):nQ w (v.rv r) r:=⟨h.1,h.2.1,h.2.2.1,h.2.2.2.1,h.2.2.2.2.1,h.2.2.2.2.2.1,rfl⟩
theorem Ub(w:Ap)(a b:Array Ar)(t1 t2:TypeId):gT ((w.alloc (Ai a t1)).alloc (Ai b t2)) w.heap.size t1 a/\gT ((w.alloc (Ai a t1)).alloc (Ai b t2)) (w.heap.size+1) t2 b:=by
 have h:=gT.new (w.alloc (Ai a t1)) t2 b
 have e:(w.alloc (Ai a t1)).heap.size=w.heap.size+1:=by simp
 rw[e]at h;exact⟨(gT.new w t1 a).below (gW _ _) (gT.new w t1 a).lt,h⟩
theorem ZY{id tree:UInt64}{date gen:Int}{pa fa:Option Addr}{pn pc fn fc:Nat}{fb:Bs}(h:iE w (Aa fa fn fc) fb):
  At Am 32 #[Ag #[Ab Al (id.toNat:Int),Ab Al (tree.toNat:Int),Ab Ak date,Aa pa pn pc,Ab Ak gen,Aa fa fn fc]] w λ e w'=>e=Aj (Ag #[Ab Al (id.toNat:Int),Ab Al (tree.toNat:Int),Ab Ak date,Aa pa pn pc,Ab Ak gen,tx fb])/\An w.heap.size w w':=by
 obtain⟨k,a⟩:=Xa w.heap.size
 obtain⟨W,d⟩:=Xb ((w.alloc (Ai #[Ab Al (id.toNat:Int),Ab Al (tree.toNat:Int),Ab Ak date,Aa pa pn pc,Ab Ak gen,Aa fa fn fc] 65)).alloc (Ai #[Ab Al 0,Ab Al 0,Ab Ak 0,Aa none 0 0,Ab Ak 0,Ae ⟨#[]⟩] 83))
 have g:An w.heap.size w W:=by rw[d];exact lE _ _ _
 have l:=Ub w #[Ab Al (id.toNat:Int),Ab Al (tree.toNat:Int),Ab Ak date,Aa pa pn pc,Ab Ak gen,Aa fa fn fc] #[Ab Al 0,Ab Al 0,Ab Ak 0,Aa none 0 0,Ab Ak 0,Ae ⟨#[]⟩] 65 83;rw[<- d,a]at l;obtain⟨b1,b2⟩:=l
 obtain⟨c,b⟩:∃c:ByteArray,(⟨fb.toArray⟩:ByteArray)=c:=⟨_,rfl⟩
 have i:=Ga (h.below g);rw[show tx fb=Ae c by rw[<- b]]at i;have s:=b1.cell (j:=0) rfl;have t:=b1.cell (j:=1) rfl;have u:=b1.cell (j:=2) rfl;have x:=b1.cell (j:=3) rfl;have y:=b1.cell (j:=4) rfl;have z:=b1.cell (j:=5) rfl;have A:=b2.cell (j:=0) rfl;have B:=b2.cell (j:=1) rfl;have C:=b2.cell (j:=2) rfl;have D:=b2.cell (j:=3) rfl;have E:=b2.cell (j:=4) rfl;have F:=b2.cell (j:=5) rfl;have m:=b2.thaw 0;have n:=b2.thaw 1;have f2:=b2.thaw 2;have p:=b2.thaw 3;have q:=b2.thaw 4;have r:=b2.thaw 5;rw[show tx fb=Ae c by rw[<- b]]
 have f:=I3 (by rw[<- a];exact g:An k w W) b2 a
 rw[a];clear h g b1 b2 b;go_enter func32,ntmps32
 go_upto_region 1 with fail
 rw[<- d];clear d a;go_wp2;refine As (v:=Ag #[Ab Al (id.toNat:Int),Ab Al (tree.toNat:Int),Ab Ak date,Aa pa pn pc,Ab Ak gen,Ae c]) ?_ rfl ⟨rfl,?_⟩
 simp[results,Tryz.f32];go_simp
 exact Kt f.o.1 (by have:=f.o.1.size;have:=f.o.2.2;omega) (by omega) _ _ _ _ _ _
theorem Nw(h:gQ iG w a vs)(hl:vs.length=n)(hV:oe w vs rs)(hn:n<=100000):
  At Am 13 #[Aa a n c] w λ e w'=>∃z c',e=Aj (Aa z n c')/\Hid (lj w' z rs/\An w.heap.size w w'):=by
 obtain⟨j,x⟩:=Xa w.heap.size
 have H:=I4 h hl hV x
 rw[x];clear h hl hV x;go_enter func13,ntmps13;go_wp2_with fail;go_loopg[3,4] n (λ k bv iv wr=>∃i:Nat,iv=Ab Ak i/\i+k=n/\Hid (gM im 83 wr j bv (Do LV.rv (vs.take i) (rs.take i))/\An j w wr))
 case atStart=>exact⟨0,rfl,by omega,gM.nil _ _ _ _,Ao _ _⟩
 case round =>
  obtain⟨i,rfl,hi,l⟩:=hrel;have m:=H.o.2.2.2;by_cases C:i<n
  have id:(i:Int)<(n:Int):=by omega
  have aa:(0:Int)<=(i:Int):=by omega
  obtain⟨v,q⟩:∃v,vs[i]? = some v:=⟨_,Aq (by rw[H.o.2.1];exact C)⟩
  obtain⟨r,O⟩:∃r,rs[i]? = some r:=⟨_,Aq (by rw[<- H.o.2.2.1.len,H.o.2.1];exact C)⟩
  have A:=H.o.2.2.1.at_ i v r q O
  have g:An w.heap.size w wr:=by rw[m];exact l.o.2
  obtain⟨b,off,rfl,_⟩:=H.o.1.some_of q;obtain⟨R,S,T,U,V,W⟩:=(H.o.1.below g).lrows q;have t:=A.2.2.2.2.2.2.1.below g
  have J:Do LV.rv (vs.take (i+1)) (rs.take (i+1))=Do LV.rv (vs.take i) (rs.take i)++[v.rv r]:=by
   rw[AW,AW,q,O,List.zipWith_append (by rw[AE,AE];have:=H.o.2.2.1.len;omega)]
   rfl
  obtain⟨rid,f,d,pa,pn,pc,rgen,fa,fn,fc⟩:=v;simp only at R S T U V W t;have G:=ZY (id:=rid) (tree:=f) (date:=d) (gen:=rgen) (pa:=pa) (pn:=pn) (pc:=pc) t
  have D:(Do LV.rv (vs.take i) (rs.take i)).length<=100000:=by
   rw[Dp,AE];omega
  have HT:=Ih J;clear q O A g t J;go_wp2_with fail;refine G.mono ?_;rintro e Q ⟨rfl,K⟩;have hO:=l.o.1.below K;have u:An j w Q:=l.o.2.trans (K.mono (by have:=l.o.2.size;omega))
  have I:j<=Q.heap.size:=by have:=u.size;omega
  have L:=Ih u;clear G K R S T U V W u;go_wp2_with(at_builtin;refine BA im 83 41 72 (Ag #[Ab Al 0,Ab Al 0,Ab Ak 0,Aa none 0 0,Ab Ak 0,Ae ⟨#[]⟩]) rfl mK mg rfl (.tmp 11) (.tmp 17) rfl j _ _ (LV.rv ⟨rid,f,d,pa,pn,pc,rgen,fa,fn,fc⟩ r) _ rfl hO rfl (by omega) (by simp only[AH];omega) I _ rfl ?_;intro v4 w4 E B N P)
  have s:Hid (gM im 83 w4 j v4 (Do LV.rv (vs.take (i+1)) (rs.take (i+1)))/\An j w w4):=by
   rw[HT.o];exact⟨E,L.o.trans B⟩
  clear E B N P hO I D m;go_wp2_with fail;go_roundg (gk - 1)
  case measure=>omega
  case rel=>exact⟨i+1,by go_num,by omega,s.o⟩
  obtain rfl:i=n:=by omega
  have id:¬(i:Int)<(i:Int):=by omega
  have p:rs.length=i:=by rw[<- H.o.2.2.1.len];exact H.o.2.1
  have X:vs.take i=vs:=Av (by rw[H.o.2.1];exact AA _);have Y:rs.take i=rs:=Av (by rw[p];exact AA _);rw[X,Y]at l
  have y:(Do LV.rv vs rs).length=i:=by rw[Dp,p,H.o.2.1,Hc]
  obtain⟨z,c',rfl,_,F⟩:=l.o.1.whole y
  have g:An w.heap.size w wr:=by rw[m];exact l.o.2
  have s:Hid (lj wr z rs/\An j w wr):=by
   refine⟨⟨Do LV.rv vs rs,F,by rw[y,p],λ k v r Z M=>?_⟩,l.o.2⟩
   have hk:k<i:=by
    have:=(AG.1 M).1;omega
   obtain⟨v0,q⟩:∃v0,vs[k]? = some v0:=⟨_,Aq (by rw[H.o.2.1];exact hk)⟩
   rw[C8,q,M]at Z;cases Z;exact(H.o.2.2.1.at_ k v0 r q M).rv.below g
  clear l X Y y F g m p;go_wp2;go_ret;exact⟨z,⟨c',rfl⟩,s.o⟩
theorem gf(h:gQ gR w a l)(F:l.length=n)(N:n<=100000):
  At Am 22 #[Aa a n c] w λ e w'=>∃p c',e=Aj (Aa p n c')/\Hid (gQ gR w' p l/\n<=c'/\An w.heap.size w w'):=by
 obtain⟨f,j⟩:=Xa w.heap.size
 have H:=I3 h F j
 rw[j];clear h F j;go_enter func22,ntmps22;go_wp2_with fail;go_loopg[3,4] n (λ k J M wr=>∃i:Nat,M=Ab Ak i/\i+k=n/\Hid (gM gR 61 wr f J (l.take i)/\An f w wr))
 case atStart=>exact⟨0,rfl,by omega,gM.nil _ _ _ _,Ao _ _⟩
 case round =>
  obtain⟨i,rfl,hi,d⟩:=hrel;have m:=H.o.2.2;by_cases z:i<n
  have id:(i:Int)<(n:Int):=by omega
  have L:(0:Int)<=(i:Int):=by omega
  obtain⟨x,y⟩:∃x,l[i]? = some x:=⟨_,Aq (by rw[H.o.2.1];exact z)⟩
  have r:An w.heap.size w wr:=by rw[m];exact d.o.2
  obtain⟨b,off,rfl,_⟩:=H.o.1.some_of y;have K:=((H.o.1.below r).nums y).2
  have I:Hid (l.take (i+1)=l.take i++[x]):=by show _=_;rw[AW,y];rfl
  have D:=d.o.1
  have v:f<=wr.heap.size:=by have:=d.o.2.size;omega
  have s:(l.take i).length<=100000:=by rw[AE];omega
  clear y r;go_wp2_with(at_builtin;refine BA gR 61 75 8 (Ab Al 0) rfl me Q5 rfl (.tmp 11) (.tmp 16) rfl f _ _ x _ rfl D rfl (by omega) (by simp only[AH];omega) v _ rfl ?_;intro v4 G t q A B)
  have g:Hid (gM gR 61 G f v4 (l.take (i+1))/\An f w G):=by
   rw[I.o];exact⟨t,d.o.2.trans q⟩
  clear t q A B D v s m K;go_wp2_with fail;go_roundg (gk - 1)
  case measure=>omega
  case rel=>exact⟨i+1,by go_num,by omega,g.o⟩
  obtain rfl:i=n:=by omega
  have id:¬(i:Int)<(i:Int):=by omega
  have C:l.take i=l:=Av (by rw[H.o.2.1];exact AA _);rw[C]at d;obtain⟨p,c',rfl,E,u⟩:=d.o.1.whole H.o.2.1;have g:=I3 u E d.o.2;clear d C u E m;go_wp2;go_ret;exact⟨p,c',rfl,g.o⟩
theorem iY.ids(h:iY w B vs rs):vs.map (·.id)=rs.map (·.id):=by
 refine CD (λ i=>?_);rw[Bo,Bo];by_cases hi:i<vs.length
 have a:i<rs.length:=by rw[<- h.len];exact hi
 rw[Aq hi,Aq a];exact A7 some (h.at_ i _ _ (Aq hi) (Aq a)).id
 rw[AM (by omega),AM (by rw[<- h.len];omega)]
 rfl
theorem iY.gens(h:iY w B vs rs):vs.map (·.gen)=rs.map (·.gen):=by
 refine CD (λ i=>?_);rw[Bo,Bo];by_cases hi:i<vs.length
 have a:i<rs.length:=by rw[<- h.len];exact hi
 rw[Aq hi,Aq a];exact A7 some (h.at_ i _ _ (Aq hi) (Aq a)).gen
 rw[AM (by omega),AM (by rw[<- h.len];omega)]
 rfl
theorem jc.gens{vs:List RV}(h:jc w B vs rs):vs.map (·.gen)=rs.map (·.gen):=by
 refine CD (λ i=>?_);rw[Bo,Bo];by_cases hi:i<vs.length
 have a:i<rs.length:=by rw[<- h.len];exact hi
 rw[Aq hi,Aq a];exact A7 some (h.at_ i _ _ (Aq hi) (Aq a)).gen
 rw[AM (by omega),AM (by rw[<- h.len];omega)]
 rfl
theorem iY.lvs(h:iY w B vs rs):oe w vs rs:=⟨h.len,λ i v r a b=>(h.at_ i v r a b).at⟩
structure nD(R:List Rw):Prop where
 nd:(R.map (·.id)).Nodup
 gen:∀r∈R,1<=r.gen/\r.gen<=250
 ps:∀r∈R,r.ps.length<=8
theorem nD.nil:nD []:=⟨by simp,by simp,by simp⟩
theorem SK{xs:List UInt64}(h:G.length=xs.length):(st.rows Q xs G).map (·.id)=xs:=by
 unfold St.rows;refine CD (λ i=>?_);rw[Bo,C8];by_cases hi:i<xs.length
 rw[Aq hi,Aq (by omega:i<G.length)]
 rfl
 rw[AM (by omega)]
 rfl
theorem nD.app{r:Int}(h:nD R)(j:st.told (R.map (·.id)) G gr r rs)(f:st.free (R.map (·.id)) gr->kx (R.map (·.gen)) (st.pss (R.map (·.id)++gY gr) (gY gr)) G):nD (R++rs)/\rs.length<=gr.length:=by
 have a:nD (R++[])/\([]:List Rw).length<=gr.length:=by rw[List.append_nil];exact⟨h,by simp⟩
 cases j with
 | twice _=>exact a
 | missing _ _=>exact a
 | open_ _ _ _=>exact a
 | rows d =>
  have e:=f d
  have g:G.length=(gY gr).length:=by rw[e.len];unfold St.pss;rw[A4]
  refine⟨⟨?_,λ x c=>?_,λ x c=>?_⟩,?_⟩;rw[BV,SK g];exact KH.2 d.nd
  rcases AN.1 c with q|q
  exact h.gen x q;unfold St.rows at q;obtain⟨i,hi,rfl⟩:=CE q;rw[FH]
  have b:i<G.length:=by rw[Dp]at hi;omega
  exact e.pos _ (List.getElem_mem b)
  rcases AN.1 c with q|q
  exact h.ps x q
  unfold St.rows at q;obtain⟨i,hi,rfl⟩:=CE q;rw[FH];show(kL _ _).length<=8;unfold kL;rw[A4];exact Kf st _
  unfold St.rows;rw[Dp,Lg];omega
structure SS(st:St)(B:Nat)(u:Ap)(rv wv gv:Ar)(cl:List UInt64)(i:Nat)(vs:List LV)(ws:List RV)(R:List Rw)(gr:List UInt64):Prop where
 rows:gM iG 65 u B rv vs
 lv:iY u B vs R
 want:gM im 83 u B wv ws
 rvs:jc u B ws R
 grp:gM gR 63 u B gv gr
 stk:nD R
 len:R.length+gr.length<=i
 mem:∀x∈gr,x∈cl
 sg:SG st cl i R gr
theorem SS.below{rv d:Ar}{c:List RV}(h:SS st B u rv d b cl i vs c R gr)(a:Iz u u'):SS st B u' rv d b cl i vs c R gr :=
 ⟨h.rows.below a,h.lv.below a,h.want.below a,h.rvs.below a,h.grp.below a,h.stk,h.len,h.mem,h.sg⟩
theorem SS.group{rv f a:Ar}{l:List RV}(h:SS st B u rv m f cl i vs l R gr)(o:gM gR 63 u' B a (gr++[x]))(c:Aw (λ k=>f.ownBlock=some k) u u')(j:cl[i]? = some x)(n:¬(x∈R.map (·.id)∨x∈gr)):SS st B u' rv m a cl (i+1) vs l R (gr++[x]):=by
 have b:=h.grp.noIB (by decide) (by decide);refine⟨h.rows.stays c (λ g d e=>h.grp.ne_own h.rows (by decide) e d),h.lv.stays c b,h.want.stays c (λ g d e=>h.grp.ne_own h.want (by decide) e d),h.rvs.stays c b,o,h.stk,by rw[Ax];have:=h.len;simp;omega,λ y p=>?_,h.sg.group j n⟩
 rcases AN.1 p with q|q
 exact h.mem y q
 rw[AZ]at q;rw[q];exact A8 j
theorem SS.more{rv c a:Ar}{b:List RV}(h:SS st B u rv c a cl i vs b R gr)(e:cl[i]? = some x)(d:x∈R.map (·.id)∨x∈gr):SS st B u rv c a cl (i+1) vs b R gr :=
 ⟨h.rows,h.lv,h.want,h.rvs,h.grp,h.stk,by have:=h.len;omega,h.mem,h.sg.more e d⟩
def Ja(Q gr:List UInt64)(x:UInt64)(b:Bool):Prop:=b=true↔x∈Q∨x∈gr
theorem di(h:Ja Q (gr.take j) x true):Ja Q (gr.take (j+1)) x true:=⟨λ _=>(h.1 rfl).imp id (λ q=>List.take_subset_take_left gr (by omega) q),λ _=>rfl⟩
theorem WM(h:gr[j]? = some x):Ja Q (gr.take (j+1)) x true:=⟨λ _=>.inr (by rw[La h];simp),λ _=>rfl⟩
theorem Un{y:UInt64}(h:Ja Q (gr.take j) x false)(b:gr[j]? = some y)(a:¬y=x):Ja Q (gr.take (j+1)) x false:=by
 refine⟨λ q=>(by cases q),λ q=>?_⟩;rw[La b,AN,AZ]at q
 rcases q with q|q|q
 exact h.2 (.inl q)
 exact h.2 (.inr q)
 exact absurd q.symm a
theorem SS.laid{s u2:Ap}{rv D E l:Ar}{c:List LV}{t d:List RV}{r:Int}{v w:Nat}(h:SS st B u rv D E cl i vs t R gr)(H:CC st cl)(F:Iz u u')
  (I:iY u' v c rs) (n:B<=v) (J:jc u' w d rs) (o:B<=w) (j:gM iG 65 s B l (vs++c)) (a:Aw (λ k=>rv.ownBlock=some k) u' s) (q:gM im 83 u2 B m (t++d)) (b:Aw (λ k=>D.ownBlock=some k) s u2)
  (z:st.told (R.map (·.id)) G gr r rs) (x:st.free (R.map (·.id)) gr->kx (R.map (·.gen)) (st.pss (R.map (·.id)++gY gr) (gY gr)) G):SS st B u2 l m (Aa none 0 0) cl i (vs++c) (t++d) (R++rs) []:=by
 have f:=h.below F;have A:=f.rows.noIB (by decide) (by decide);have w1:=f.want.stays a (λ g p e=>f.rows.ne_own f.want (by decide) e p);have C:=w1.noIB (by decide) (by decide);have y:=h.stk.app z x;refine⟨j.stays b (λ g p e=>w1.ne_own j (by decide) e p),((f.lv.app (I.low n)).stays a A).stays b C,q,((f.rvs.app (J.low o)).stays a A).stays b C,gM.nil _ _ _ _,y.1,?_,by simp,h.sg.laid H z x SK⟩;have:=h.len;have:=y.2;rw[Ax,List.length_nil];omega
theorem SS.lgen{rv a:Ar}{f:List RV}(h:SS st B u rv g a cl i vs f R gr):∀v∈vs,1<=v.gen/\v.gen<=250:=λ v e=>by
 have d:v.gen∈R.map (·.gen):=by rw[<- h.lv.gens];exact GN e
 obtain⟨r,b,c⟩:=BJ.1 d;rw[<- c];exact h.stk.gen r b
theorem SS.rgen{rv:Ar}{a:List RV}(h:SS st B u rv g b cl i vs a R gr):∀v∈a,0<=v.gen/\v.gen<=250:=λ v f=>by
 have e:v.gen∈R.map (·.gen):=by rw[<- h.rvs.gens];exact GN f
 obtain⟨r,c,d⟩:=BJ.1 e;rw[<- d];have:=h.stk.gen r c;omega
theorem fJ(c:lC st)(b:R.length=n):∃G rk,st.free (R.map (·.id)) gr->EA n (st.pss (R.map (·.id)++gY gr) (gY gr)) rk/\kx (R.map (·.gen)) (st.pss (R.map (·.id)++gY gr) (gY gr)) G:=by
 obtain⟨G,rk,a⟩:=UR c (R.map (·.id)) (R.map (·.gen)) (by rw[A4,A4]) gr;rw[A4,b]at a;exact⟨G,rk,a⟩
structure SE(u:Ap)(s b:Nat)(st:St)(S:Nat->Prop)(oa za ca:Option Addr)(cl:List UInt64)(cuts:List Int)(K:Nat)(cs:Array Ar):Prop where
 store:A1 u s b st S
 objs:gQ iH u oa st.objs
 coms:gQ gR u za cl
 cut:gQ encI u ca cuts
 box:gT u K 37 cs
theorem SE.below{b:Nat}{e d:Option Addr}{a:List Int}{K:Nat}{cs:Array Ar}(h:SE u s b st S oa e d cl a K cs)(c:Iz u u'):SE u' s b st S oa e d cl a K cs :=
 ⟨h.store.below c,h.objs.below c,h.coms.below c,h.cut.below c,h.box.below c h.box.lt⟩
def RY(st:St)(m0:Nat)(w w':Ap)(rv wv:Ar)(cl:List UInt64)(zn:Nat):Prop:=∃B vs ws R gv,m0<=B/\SS st B w' rv wv gv cl zn vs ws R []/\An m0 w w'
theorem Yx{b:Nat}{xb xt:Ar}{za ca:Option Addr}{on z zc cn cc:Nat}{n:List Int}
  (hS:A1 w s b st S) (hO:gQ iH w oa st.objs) (a5:st.objs.length=on) (br:on<=1000000) (a4:∀o∈st.objs,o.body.length<=8192) (az:lC st) (aT:CC st cl)
  (hC:gQ gR w za cl) (aU:cl.length=z) (bJ:z<=10000) (aW:gQ encI w ca n) (aV:n.length=cn) (bF:cn<=4000000000000000000) :
  At Am 8 #[Ag (iS s b d vf (Aa oa on oc) vr vt xb xt (Aa za z zc)),Aa ca cn cc] w λ e w'=>∃rv wv,e=Aj (.tuple #[rv,wv,Ad true])/\Hid (RY st w.heap.size w w' rv wv cl z):=by
 obtain⟨t,ao⟩:=Xa w.heap.size
 obtain⟨V,am⟩:=Xb (w.alloc (Ai (iS s b d vf (Aa oa on oc) vr vt xb xt (Aa za z zc)) 37))
 have B0:An w.heap.size w V:=by (try unfold Iz at *);rw[am];exact gW _ _
 have E0:Hid (SE V s b st S oa za ca cl n t (iS s b d vf (Aa oa on oc) vr vt xb xt (Aa za z zc))):=⟨hS.below B0,hO.below B0,hC.below B0,aW.below B0,by (try unfold Iz at *);rw[am,<- ao];exact gT.new _ _ _⟩
 obtain⟨B,hB⟩:=Xa V.heap.size
 have H:=I8 a5 a4 az aU aV B0 hB ao
 have bd:=Ih aT;(try unfold Iz at *);rw[ao];clear aT hS hO a5 a4 az hC aU aW aV B0 hB;go_enter func8,ntmps8
 go_upto_region 1 with fail
 (try unfold Iz at *);rw[<- am];clear am ao;go_wp2_with fail;go_loopg[7,8,9,10] z (λ k rv wv gv iv wr=>∃i:Nat,iv=Ab Ak i/\i+k=z/\Hid (An B V wr/\∃vs K R gr,SS st B wr rv wv gv cl i vs K R gr/\(i=z->gr=[])))
 case atStart=>exact⟨0,rfl,by omega,Ao _ _,[],[],[],[],⟨gM.nil _ _ _ _,iY.nil _ _,gM.nil _ _ _ _,jc.nil _ _,gM.nil _ _ _ _,nD.nil,by simp,by simp,SG.nil _ _⟩,λ _=>rfl⟩
 case round =>
  obtain⟨i,rfl,hi,HR⟩:=hrel;have HE:Hid (SE wr s b st S oa za ca cl n t (iS s b d vf (Aa oa on oc) vr vt xb xt (Aa za z zc))):=E0.o.below (by (try unfold Iz at *);rw[H.o.2.2.2.2.2.2.1];exact HR.o.1);obtain⟨aO,vs,K,R,gr,hs,aZ⟩:=HR.o
  obtain⟨v,ah⟩:=Xa R.length
  have W:=hs.lv.len.trans ah;have J:=hs.rvs.len.trans ah
  obtain⟨gn,an⟩:=Xa gr.length
  obtain⟨ra,rc,rfl,_,bC⟩:=hs.rows.whole W;obtain⟨wa,E,rfl,_,aN⟩:=hs.want.whole J;obtain⟨ga,gc,rfl,_,aE⟩:=hs.grp.whole an;have bo:=hs.len;(try unfold Iz at *);rw[ah,an]at bo
  have F:=I8 hs aO ah W J an aE aZ
  clear HR aO hs ah W an bC aZ
  obtain⟨Wo,bi⟩:=Xb wr
  subst bi;by_cases bm:i<z
  ·have id:(i:Int)<(z:Int):=by omega
   have bK:(0:Int)<=(i:Int):=by omega
   obtain⟨x,hx⟩:∃x,cl[i]? = some x:=⟨_,Aq (by (try unfold Iz at *);rw[H.o.2.2.2.1];exact bm)⟩
   obtain⟨zb,zo,rfl,_⟩:=HE.o.coms.some_of hx;have cx:=(HE.o.coms.nums hx).2;have Y:=HE.o.box.cell (j:=13) rfl
   obtain⟨r1,aL⟩:=Xa (mf (K.map (·.id)) x)
   have a6:=Nl (c:=E) aN J (by omega) x r1 aL
   obtain⟨k0,a0⟩:=Xa (decide ((0:Int)<=r1))
   have HX:=Ih hx
   have bf:Hid (Ja (R.map (·.id)) (gr.take 0) x k0):=by show k0=true↔_;(try unfold Iz at *);rw[<- a0,A9,<- aL,Kh,F.o.1.rvs.ids];simp
   clear hx aN J aL aE;go_wp2_with fail;refine a6.mono ?_;rintro e w1 ⟨rfl,au⟩;(try unfold Iz at *);rw[au];clear a6 au
   go_upto_region 8 with fail
   clear a0;go_wp2_with fail;go_loopg[11,12] gn (λ m kv jv u=>∃(kb:Bool) (j:Nat),kv=Ad kb/\jv=Ab Ak j/\j+m=gn/\Hid (An Wo.heap.size Wo u/\Ja (R.map (·.id)) (gr.take j) x kb))
   case atStart=>exact⟨k0,0,rfl,rfl,by omega,Ao _ _,bf.o⟩
   case round =>
    obtain⟨kb,j,rfl,rfl,hj,l⟩:=hrel;clear cx Y;have cx:=((HE.o.coms.below l.o.1).nums HX.o).2;have Y:=(HE.o.box.below l.o.1 HE.o.box.lt).cell (j:=13) rfl;by_cases aG:j<gn
    ·have jd:(j:Int)<(gn:Int):=by omega
     have bw:(0:Int)<=(j:Int):=by omega
     obtain⟨y,hy⟩:∃y,gr[j]? = some y:=⟨_,Aq (by (try unfold Iz at *);rw[F.o.2.2.2.2.2.1];exact aG)⟩
     obtain⟨gb,go,rfl,_⟩:=F.o.2.2.2.2.2.2.1.some_of hy;have cy:=((F.o.2.2.2.2.2.2.1.below l.o.1).nums hy).2;have HY:=Ih hy;clear hy
     go_upto_region 11 with fail
     cases kb with
     | true =>
      go_quiet (fail);go_wp2_with fail;go_roundg (gk - 1)
      case measure=>omega
      case rel=>exact⟨true,j+1,rfl,by go_num,by omega,l.o.1.trans ((jq _ _).mono l.o.1.size),di l.o.2⟩
     | false =>
      by_cases X:y=x
      ·subst X;go_quiet (fail);go_wp2_with fail;go_roundg (gk - 1)
       case measure=>omega
       case rel=>exact⟨true,j+1,rfl,by go_num,by omega,l.o.1.trans ((jq _ _).mono l.o.1.size),WM HY.o⟩
      ·have hn:¬(y.toNat:Int)=(x.toNat:Int):=λ q=>X (UInt64.toNat_inj.1 (Int.ofNat.inj q))
       have hd:((y.toNat:Int)==(x.toNat:Int))=false:=by simpa using hn
       go_quiet (fail);go_wp2_with fail;go_roundg (gk - 1)
       case measure=>omega
       case rel=>exact⟨false,j+1,rfl,by go_num,by omega,l.o.1.trans ((jq _ _).mono l.o.1.size),Un l.o.2 HY.o X⟩
    ·obtain rfl:j=gn:=by omega
     have jd:¬(j:Int)<(j:Int):=by omega
     have M:B<=Wo.heap.size:=by have:=F.o.2.1.size;have:=H.o.2.2.2.2.2.2.1;omega
     have L:=I3 (F.o.2.1.trans (l.o.1.mono M)) (F.o.1.below l.o.1) (AU M l.o.1.size)
     have HK:Hid (Ja (R.map (·.id)) gr x kb):=by have q:=l.o.2;(try unfold Iz at *);rw[Av (by (try unfold Iz at *);rw[F.o.2.2.2.2.2.1];exact AA _)]at q;exact q
     clear l M
     obtain⟨Wk,bg⟩:=Xb wr
     subst bg
     go_upto_if 54 with fail
     go_cut[9] (λ gv u=>Hid (An B V u/\∃gr,SS st B u (Aa ra v rc) (Aa wa v E) gv cl (i+1) vs K R gr))
     case first =>
      cases kb with
      | true =>
       go_wp2_with fail;go_meet;exact⟨L.o.1,gr,L.o.2.1.more HX.o (HK.o.1 rfl)⟩
      | false =>
       have hO:=L.o.2.1.grp;have bG:=F.o.2.2.2.2.2.1;have ar:=L.o.2.2;go_wp2_with(at_builtin;refine BA gR 63 35 8 _ rfl Tryz.info63 underlying35 rfl (.tmp 55) (.tmp 61) rfl B _ _ x _ rfl hO rfl (by omega) (by simp only[AH];omega) ar _ rfl ?_;intro v4 w4 bq bj bI bs);go_meet;exact⟨L.o.1.trans bj,_,L.o.2.1.group bq bs HX.o (λ q=>by have:=HK.o.2 q;cases this)⟩
     case rest =>
      obtain⟨ak,f,aq⟩:=hcut.o
      obtain⟨D,P⟩:=Xa f.length
      obtain⟨aD,af,bl,_,_⟩:=aq.grp.whole P;subst bl
      obtain⟨uP,bu⟩:=Xb wc
      subst bu;have bn:=aq.len;(try unfold Iz at *);rw[F.o.2.2.1,P]at bn
      have U:=I7 aq ak F.o.2.2.1 F.o.2.2.2.1 F.o.2.2.2.2.1 P (by have:=ak.size;have:=H.o.2.2.2.2.2.2.1;omega:B<=uP.heap.size)
      have ab:Hid (SE uP s b st S oa (some ⟨zb,zo,none⟩) ca cl n t (iS s b d vf (Aa oa on oc) vr vt xb xt (Aa (some ⟨zb,zo,none⟩) z zc))):=E0.o.below (by (try unfold Iz at *);rw[H.o.2.2.2.2.2.2.1];exact ak);clear hcut ak aq P L F HE cx Y;have Y:=ab.o.box.cell (j:=13) rfl
      obtain⟨e0,aX⟩:=Xa (((i:Int)==(z:Int) - 1))
      have be:Hid (i+1=z->e0=true):=λ q=>by (try unfold Iz at *);rw[<- aX,Eg];omega
      go_upto_region 15 with fail
      clear aX;go_wp2_with fail;go_loopg[13,14] cn (λ m ev jv u=>∃(eb:Bool) (j:Nat),ev=Ad eb/\jv=Ab Ak j/\j+m=cn/\Hid ((i+1=z->eb=true)/\An uP.heap.size uP u))
      case atStart=>exact⟨e0,0,rfl,rfl,by omega,be.o,Ao _ _⟩
      case round =>
       obtain⟨eb,jj,rfl,rfl,bH,l⟩:=hrel;clear Y;by_cases aG:jj<cn
       ·have jd:(jj:Int)<(cn:Int):=by omega
        have bw:(0:Int)<=(jj:Int):=by omega
        obtain⟨y,hy⟩:∃y,n[jj]? = some y:=⟨_,Aq (by (try unfold Iz at *);rw[H.o.2.2.2.2.1];exact aG)⟩
        obtain⟨gb,go,rfl,_⟩:=ab.o.cut.some_of hy;have cy:=(ab.o.cut.below l.o.2).ints hy;clear hy
        cases eb with
        | true =>
         go_wp2_with fail;go_roundg (gk - 1)
         case measure=>omega
         case rel=>exact⟨true,jj+1,rfl,by go_num,by omega,λ _=>rfl,l.o.2⟩
        | false =>
         by_cases X:y=(i:Int)
         ·have hd:(y==(i:Int))=true:=by simpa using X
          go_wp2_with fail;go_roundg (gk - 1)
          case measure=>omega
          case rel=>exact⟨true,jj+1,rfl,by go_num,by omega,λ _=>rfl,l.o.2⟩
         ·have hd:(y==(i:Int))=false:=by simpa using X
          go_wp2_with fail;go_roundg (gk - 1)
          case measure=>omega
          case rel=>exact⟨false,jj+1,rfl,by go_num,by omega,l.o.1,l.o.2⟩
       ·obtain rfl:jj=cn:=by omega
        have jd:¬(jj:Int)<(jj:Int):=by omega
        have M:=U.o.2.2.2.2.2.2
        have h:=I4 (U.o.1.below l.o.2) (U.o.2.1.trans (l.o.2.mono M)) (AU M l.o.2.size) l.o.1
        have ad:=Ih (ab.o.below l.o.2);clear l M ab
        obtain⟨Wl,bh⟩:=Xb wr
        subst bh
        cases eb with
        | false =>
         go_wp2_with fail;go_roundg (z - (i+1))
         case measure=>omega
         case rel=>exact⟨i+1,by go_num,by omega,h.o.2.1,vs,K,R,f,h.o.1,λ q=>Fv (h.o.2.2.2 q)⟩
        | true =>
         by_cases aY:D=0
         ·subst aY;go_wp2_with fail;go_roundg (z - (i+1))
          case measure=>omega
          case rel=>exact⟨i+1,by go_num,by omega,h.o.2.1,vs,K,R,f,h.o.1,λ _=>List.eq_nil_of_length_eq_zero U.o.2.2.2.2.2.1⟩
         ·have hd:((D:Int)==0)=false:=by simpa using aY
          obtain⟨G,rk,hG⟩:=fJ (gr:=f) H.o.2.2.1 U.o.2.2.1;have aI:=Mk (bc:=rc) (c:=af) (G:=G) (rk:=rk) ad.o.store h.o.1.rows.rdc.1 U.o.2.2.2.1 h.o.1.lgen (by (try unfold Iz at *);rw[h.o.1.lv.ids];exact h.o.1.stk.nd) h.o.1.grp.rdc.1 U.o.2.2.2.2.2.1 (by omega) (by (try unfold Iz at *);rw[h.o.1.lv.ids,h.o.1.lv.gens];exact hG);(try unfold Iz at *);rw[h.o.1.lv.ids]at aI;have HG:=Ih hG;have p1:=ad.o.box.cell (j:=1) rfl;clear hG;go_wp2_with fail;refine aI.mono ?_;rintro e p ⟨lv,r5,rfl,J5⟩;clear aI p1;obtain⟨N,rs,aM,aJ,aH,A⟩:=J5.o;clear J5
          obtain⟨n2,ap⟩:=Xa rs.length
          obtain⟨la,lc,rfl,_,bB⟩:=aJ.whole (aH.len.trans ap);have aF:=h.o.1.stk.app aM (λ q=>(HG.o q).2)
          have bE:n2<=D:=by have:=aF.2;(try unfold Iz at *);rw[U.o.2.2.2.2.2.1,ap]at this;exact this
          have KZ:Hid (∀u,An p.heap.size p u->u.cell? ⟨t,2,none⟩=some vf/\u.cell? ⟨t,3,none⟩=some (Ab Ak (d.writes:Int))/\u.cell? ⟨t,4,none⟩=some (Ad d.armed)/\u.cell? ⟨t,5,none⟩=some (Ad d.dead)/\u.cell? ⟨t,6,none⟩=some (Ab Ak (d.after:Int))/\u.cell? ⟨t,7,none⟩=some (Ab Ak (d.keep:Int))/\u.cell? ⟨t,8,none⟩=some (Aa oa on oc)/\u.cell? ⟨t,9,none⟩=some vr/\u.cell? ⟨t,10,none⟩=some vt):=by
           intro u hu;have T:=ad.o.box.below (A.trans (hu.mono A.size)) ad.o.box.lt;exact⟨T.cell (j:=2) rfl,T.cell (j:=3) rfl,T.cell (j:=4) rfl,T.cell (j:=5) rfl,T.cell (j:=6) rfl,T.cell (j:=7) rfl,T.cell (j:=8) rfl,T.cell (j:=9) rfl,T.cell (j:=10) rfl⟩
          have a7:∀u,An p.heap.size p u->_:=λ u hu=>gf (c:=af) ((h.o.1.below (A.trans (hu.mono A.size))).grp.rdc.1) U.o.2.2.2.2.2.1 (by omega)
          have aK:∀u (a:Option Addr) (c:Nat),An p.heap.size p u->gQ gR u a f->D<=c->_:=λ u a c hu h1 h2=>Ye (d:=d) (vf:=vf) (vr:=vr) (vt:=vt) (oc:=oc) (bc:=E) (G:=G) (rk:=rk) (ad.o.below (A.trans (hu.mono A.size))).objs H.o.1 br H.o.2.1 ((h.o.1.below (A.trans (hu.mono A.size))).want.rdc.1) U.o.2.2.2.2.1 h.o.1.rgen (by (try unfold Iz at *);rw[h.o.1.rvs.ids];exact h.o.1.stk.nd) h1 U.o.2.2.2.2.2.1 h2 (by omega) (by (try unfold Iz at *);rw[h.o.1.rvs.ids,h.o.1.rvs.gens];exact HG.o)
          (try unfold Iz at *);rw[h.o.1.rvs.ids]at aK;have QI:Hid _:=a7;have QR:Hid _:=aK
          have I:=I7 aM aJ aH A ap aF.1 A.size
          clear aM aJ aH A ap aF bB a7 aK
          go_upto_region 21 with fail
          go_cut[17,18] (λ mv fv u=>fv=Ab Ak r5/\Hid (∃C mw,gM im 83 u mw mv C/\p.heap.size<=mw/\jc u mw C rs/\An p.heap.size p u))
          case first =>
           have V0:Hid (An p.heap.size p p.drew):=(Ao _ p).drew;have bx:=KZ.o _ V0.o
           go_region_held3 (λ u=>u.cell? ⟨t,2,none⟩=some vf/\u.cell? ⟨t,3,none⟩=some (Ab Ak (d.writes:Int))/\u.cell? ⟨t,4,none⟩=some (Ad d.armed)/\u.cell? ⟨t,5,none⟩=some (Ad d.dead)/\u.cell? ⟨t,6,none⟩=some (Ab Ak (d.after:Int))/\u.cell? ⟨t,7,none⟩=some (Ab Ak (d.keep:Int))/\u.cell? ⟨t,8,none⟩=some (Aa oa on oc)/\u.cell? ⟨t,9,none⟩=some vr/\u.cell? ⟨t,10,none⟩=some vt)
            (first | with_reducible exact bx | with_reducible exact bz | with_reducible exact bA | go_keep)
            (first
             | (go_at_call 21;(with_reducible refine(QR.o _ ia ic V1.o.1 V1.o.2.1 V1.o.2.2).mono ?_);rintro e w7 ⟨mv,r7,rfl,X2⟩;have V2:Hid (An p.heap.size p w7):=(by obtain⟨_,_,_,_,_,b⟩:=X2.o;exact V1.o.1.trans (b.mono V1.o.1.size));have bA:=KZ.o _ V2.o)
             | (go_at_call 22;(with_reducible refine(QI.o _ V0.o).mono ?_);rintro e w6 ⟨ia,ic,rfl,X1⟩;have V1:=I3 (V0.o.trans (X1.o.2.2.mono V0.o.size)) X1.o.1 X1.o.2.1;have bz:=KZ.o _ V1.o.1))
           all_goals
            go_wp2_with fail;go_meet;obtain⟨C,bL,t2,o2,l2,b2⟩:=X2.o;obtain⟨e1,e2⟩:=I.o.1.uniq t2;(try unfold Iz at *);rw[<- e1];(try unfold Iz at *);rw[<- e2]at l2;exact⟨rfl,C,_,o2,V1.o.1.size,l2,V2.o⟩
          case rest =>
           obtain⟨bk,HM⟩:=hcut;subst bk;obtain⟨C,mw,o2,a3,l2,b2⟩:=HM.o;obtain⟨ma,mc,bp,_,_⟩:=o2.whole (l2.len.trans I.o.2.2.2.2.1);subst bp
           obtain⟨uM,bt⟩:=Xb wc
           subst bt;have aS:=Nw (c:=lc) ((I.o.2.1.below b2).rdc.1) (I.o.2.2.1.len.trans I.o.2.2.2.2.1) ((I.o.2.2.1.below b2).lvs) (by omega)
           have HU:=I4 o2 a3 l2 b2
           clear HM o2 a3 l2 b2 QI QR KZ;go_wp2_with fail;refine aS.mono ?_;rintro e w8 ⟨aa,ac,rfl,J8⟩;clear aS;have a9:=Na (c:=ac) (c':=mc) J8.o.1 ((HU.o.2.2.1.rd HU.o.1).below J8.o.2) I.o.2.2.2.2.1 (by omega) (λ r hr=>by have:=I.o.2.2.2.2.2.1.ps r (AN.2 (.inr hr));omega);go_wp2_with fail;refine a9.mono ?_;rintro e Z ⟨rfl,b9⟩;clear a9;have aj:=HU.o.2.2.2.trans ((J8.o.2.trans (b9.mono J8.o.2.size)).mono HU.o.2.2.2.size);have ae:=I.o.2.2.2.1.trans (aj.mono I.o.2.2.2.2.2.2);have aC:=J8.o.2.trans (b9.mono J8.o.2.size);have a8:=h.o.1.below ae;have o9:=HU.o.1.below aC
           have O:Hid (SS st B Z (Aa ra v rc) (Aa wa v E) (Aa aD D af) cl (i+1) vs K R f/\gM im 83 Z mw (Aa ma n2 mc) C/\gM iG 65 Z Wl.heap.size (Aa la n2 lc) N/\iY Z Wl.heap.size N rs/\jc Z mw C rs/\An Wl.heap.size Wl Z/\B<=Z.heap.size/\B<=mw/\An B V Z/\C.length=n2/\N.length=n2):=⟨a8,o9,I.o.2.1.below aj,I.o.2.2.1.below aj,HU.o.2.2.1.below aC,ae,AU h.o.2.2.1 ae.size,AU h.o.2.2.1 (AU I.o.2.2.2.2.2.2 HU.o.2.1),h.o.2.1.trans (ae.mono h.o.2.2.1),HU.o.2.2.1.len.trans I.o.2.2.2.2.1,I.o.2.2.1.len.trans I.o.2.2.2.2.1⟩
           clear J8 b9 aj ae aC a8 o9 HU;have al:=O.o.1.rows;have aQ:=O.o.2.2.1.rdc.1;have W:=U.o.2.2.2.1;have J:=U.o.2.2.2.2.1;have ar:=O.o.2.2.2.2.2.2.1;have bv:=O.o.2.2.2.2.2.2.2.2.2.2;have au:=O.o.2.2.2.2.2.2.2.2.2.1
           go_upto_region 25 with(at_builtin;refine IN iG 65 40 80 _ rfl nK nj rfl (.tmp 118) (.tmp 119) rfl B _ _ _ la n2 lc rfl al rfl aQ bv (by (try unfold Iz at *);rw[W];omega) (by (try unfold Iz at *);rw[W];simp only[AH];omega) ar ?_;intro ba av ax ag a1 Q)
           have aP:=O.o.1.want.stays Q (λ g hg e=>al.ne_own O.o.1.want (by decide) e hg);have aR:=(O.o.2.1.stays Q (λ g hg e=>al.ne_own O.o.2.1 (by decide) e hg)).rdc.1;have aA:=AU ar ag.size
           have HT:=I3 ax ag Q
           clear al aQ ax ag a1 Q
           go_upto_region 26 with(at_builtin;refine IN im 83 41 72 _ rfl mK mg rfl (.tmp 121) (.tmp 122) rfl B _ _ _ ma n2 mc rfl aP rfl aR au (by (try unfold Iz at *);rw[J];omega) (by (try unfold Iz at *);rw[J];simp only[AH];omega) aA ?_;intro bD bb ay aw a2 aB)
           have ai:Hid (An B V bb/\SS st B bb ba bD (Aa none 0 0) cl (i+1) (vs++N) (K++C) (R++rs) []) :=
            ⟨O.o.2.2.2.2.2.2.2.2.1.trans (HT.o.2.1.trans aw),h.o.1.laid bd.o O.o.2.2.2.2.2.1 O.o.2.2.2.1 h.o.2.2.1 O.o.2.2.2.2.1 O.o.2.2.2.2.2.2.2.1 HT.o.1 HT.o.2.2 ay aB I.o.1 (λ q=>(HG.o q).2)⟩
           clear aP aR aA ay aw a2 aB HT;go_wp2_with fail;go_roundg (z - (i+1))
           case measure=>omega
           case rel=>exact⟨i+1,by go_num,by omega,ai.o.1,_,_,_,_,ai.o.2,λ _=>rfl⟩
  ·obtain rfl:i=z:=by omega
   have id:¬(i:Int)<(i:Int):=by omega
   have Y:=HE.o.box.cell (j:=13) rfl
   have ai:Hid (RY st t w Wo (Aa ra v rc) (Aa wa v E) cl i):=by
    have hg:=F.o.2.2.2.2.2.2.2 rfl;have h1:=F.o.1;(try unfold Iz at *);rw[hg]at h1;have hb:=H.o.2.2.2.2.2.1;have T:=hb.size;(try unfold Iz at *);rw[H.o.2.2.2.2.2.2.2]at hb T;(try unfold Iz at *);rw[H.o.2.2.2.2.2.2.1]at T;exact⟨B,vs,K,R,_,T,h1,hb.trans (F.o.2.1.mono T)⟩
   clear F HE aN J aE;go_wp2_with fail;refine As (results_tmp3 rfl _ _ _) rfl ?_;exact⟨_,_,rfl,ai.o⟩
end Go.Proofs.YtakgkgmopmcecaaGreat
